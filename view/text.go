package view

import (
	"strconv"
	"strings"

	"echelon/api"
)

const lineFeed = "\n"

// letters are those of the seats, one behind the other.
const letters = "ABCDEF"

func isSeat(n int) bool { return 0 <= n && n < api.MaxPeers }

func letter(seat int) string { return letters[seat : seat+1] }

// pickupKind is how a kind of pickups is told: in a note, and on the map.
type pickupKind struct {
	name string
	sign string
}

// pickupKinds are by the kinds' numbers; 0 is none.
var pickupKinds = [...]pickupKind{
	api.Heal:   {name: "heal", sign: "h"},
	api.Charge: {name: "charge", sign: "c"},
	api.Prize:  {name: "prize", sign: "p"},
}

func isKind(n int) bool { return api.Heal <= n && n <= api.Prize }

// named is a number with the word that stands ahead of it.
type named struct {
	word string
	n    int
}

// joined is numbers as text, each behind its word, with a blank between any two.
func joined(l ...named) string {
	var words []string
	for _, x := range l {
		words = append(words, x.word, strconv.Itoa(x.n))
	}
	return strings.Join(words, " ")
}

// ended is lines as one text, with a line feed behind each.
func ended(lines []string) string {
	var text strings.Builder
	for _, line := range lines {
		text.WriteString(line)
		text.WriteString(lineFeed)
	}
	return text.String()
}
