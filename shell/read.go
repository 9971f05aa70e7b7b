package shell

import (
	"errors"
	"strconv"
	"strings"

	"echelon/api"
)

const (
	lineFeed = "\n"
	blank    = " "
	remark   = "#"
)

// errLong is why a text is not even gone through line by line.
var errLong = errors.New("too many bytes or lines")

// Why a line may not be.
var (
	errKind    = errors.New("no line begins so")
	errBegun   = errors.New("no game is begun")
	errWords   = errors.New("too many words, or too few")
	errNumber  = errors.New("no number, or not written as one is told")
	errSession = errors.New("a session that may not be")
	errOrder   = errors.New("no order")
)

// badLine is the first line of a text that may not be.
type badLine struct {
	no  int // from 1 on
	why error
}

func (b badLine) Error() string { return "line " + strconv.Itoa(b.no) + ": " + b.why.Error() }

func (b badLine) Unwrap() error { return b.why }

// told is the number of an error, and the line that it is about.
func told(why error) (api.Errno, int) {
	var bad badLine
	if errors.As(why, &bad) {
		return api.ErrShellLine, bad.no
	}
	return api.ErrLong, 0
}

// line is one that may be: what it does, and with what.
type line struct {
	do func(*game, operands) string
	operands
}

// read is the lines of a text that are not passed over. All are read ahead of the first one's being done: whether one may be does not hang on what those ahead of it do.
func read(text string) ([]line, error) {
	if len(text) > api.MaxText || strings.Count(text, lineFeed)+1 > api.MaxLines {
		return nil, errLong
	}
	all := kinds()
	var script []line
	for i, s := range strings.Split(text, lineFeed) {
		if s == "" || strings.HasPrefix(s, remark) {
			continue
		}
		l, why := readLine(all, s)
		if why == nil && len(script) == 0 && !l.begins {
			why = errBegun
		}
		if why != nil {
			return nil, badLine{no: i + 1, why: why}
		}
		script = append(script, l)
	}
	return script, nil
}

// readLine leaves blanks that are too many among the words, as empty words: no line has one.
func readLine(all map[string]kind, s string) (line, error) {
	words := strings.Split(s, blank)
	k, is := all[words[0]]
	if !is {
		return line{}, errKind
	}
	l := line{do: k.do}
	if why := k.read(&l.operands, words[1:]); why != nil {
		return line{}, why
	}
	return l, nil
}
