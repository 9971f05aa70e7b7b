package shell

import (
	"strconv"
	"strings"

	"echelon/api"
	"echelon/verb"
)

const (
	okay  = "ok"
	stall = "stall"
	none  = "-"
)

// result is what a call has answered.
func result(errno api.Errno) string {
	if errno == api.OK {
		return okay
	}
	return "error " + strconv.Itoa(int(errno))
}

// each is the texts of all things of a list.
func each[T any](l []T, text func(T) string) []string {
	var texts []string
	for _, x := range l {
		texts = append(texts, text(x))
	}
	return texts
}

// several is things that are told in one line, if there are any.
func several(texts []string) string {
	if len(texts) == 0 {
		return none
	}
	return strings.Join(texts, "; ")
}

// commandText tells a command that was laid: so its order has a text.
func commandText(c api.Command) string {
	order, _ := verb.Print(c.Order)
	return frameText(c.Frame) + "/" + strconv.Itoa(c.Peer) + "/" + strconv.Itoa(c.Seq) + blank + order
}
