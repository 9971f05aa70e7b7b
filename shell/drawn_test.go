package shell_test

import (
	"fmt"
	"math/rand"
	"regexp"
	"strings"
	"testing"

	"echelon/shell"
)

// drawer draws lines, mostly such as do something in a game of that many peers, which it follows but roughly.
type drawer struct {
	*rand.Rand
	peers   int
	rungs   int
	parcels int
	leads   [6]int
}

func (d *drawer) game() string {
	maps, most := [4]int{0, 1, 2, 3}, [4]int{4, 6, 6, 4}
	m := maps[d.Intn(4)]
	d.peers = 2 + d.Intn(most[m]-1)
	d.parcels, d.leads = 0, [6]int{}
	line := fmt.Sprintf("game %d %d", m, d.Int63()>>d.Intn(63))
	if d.peers > 2 || d.Intn(3) == 0 {
		line += fmt.Sprintf(" x %d", d.peers)
	}
	lag := 0
	line += " 0"
	for d.rungs = 1; d.rungs < 2+d.Intn(4); d.rungs++ {
		lag += 1 + d.Intn(4)
		line += fmt.Sprintf(" %d", lag)
	}
	return line
}

// near is mostly a number below n.
func (d *drawer) near(n int) int {
	if d.Intn(20) == 0 {
		return d.Intn(n+4) - 2
	}
	return d.Intn(max(n, 1))
}

func (d *drawer) order() string {
	p := d.near(d.peers)
	frame := d.leads[max(0, min(p, 5))] + 1 + d.Intn(4)
	if d.Intn(6) == 0 {
		frame += d.Intn(20) - 3
	}
	order := ""
	switch d.Intn(7) {
	case 0, 1:
		order = fmt.Sprintf("steer %d %d", d.Intn(17)-8, d.Intn(17)-8)
	case 2, 3:
		order = fmt.Sprintf("fire %d", 1+d.Intn(3))
	case 4:
		order = fmt.Sprintf("%s %d", []string{"aim", "dash"}[d.Intn(2)], d.Intn(16))
	case 5:
		order = fmt.Sprintf("shield %d", d.Intn(2))
	case 6:
		order = []string{"halt", fmt.Sprintf("say %d", d.Intn(256))}[d.Intn(2)]
	}
	return fmt.Sprintf("order %d %d %s", p, frame, order)
}

func (d *drawer) tick() string {
	p := d.near(d.peers)
	if p >= 0 && p < d.peers {
		d.leads[p]++
		d.parcels += d.peers - 1
	}
	return fmt.Sprint("tick ", p)
}

func (d *drawer) parcel() int {
	if d.Intn(4) == 0 {
		return d.near(d.parcels + 2)
	}
	return max(0, d.parcels-d.Intn(8))
}

func (d *drawer) ask() string {
	p := d.near(d.peers)
	switch d.Intn(11) {
	case 0:
		return "flight"
	case 1:
		return "table"
	case 2:
		return fmt.Sprintf("sum %d %d", p, d.near(d.leads[max(0, min(p, 5))]))
	case 3, 4:
		return fmt.Sprintf("%s %d %d", []string{"missed", "show", "score"}[d.Intn(3)], p, d.near(d.rungs))
	case 5:
		return fmt.Sprintf("missed %d %d", p, d.near(d.rungs))
	}
	return fmt.Sprintf("%s %d", []string{"frames", "held", "links", "count", "put", "put"}[d.Intn(6)], p)
}

func (d *drawer) line() string {
	switch d.Intn(20) {
	case 0:
		if d.Intn(6) == 0 {
			return d.game()
		}
		return []string{"", "#", "# a remark", "#game 3 7 0 2", "##"}[d.Intn(5)]
	case 1, 2, 3, 4:
		return d.order()
	case 5, 6, 7, 8:
		return d.tick()
	case 9, 10, 11, 12:
		d.parcels++
		return fmt.Sprint("deliver ", d.parcel())
	case 13:
		d.parcels++
		return fmt.Sprint("double ", d.parcel())
	case 14:
		if d.Intn(3) == 0 {
			return fmt.Sprint("quiet ", d.near(4))
		}
		return fmt.Sprint("drop ", d.parcel())
	}
	return d.ask()
}

func (d *drawer) script(lines int) []string {
	l := []string{d.game()}
	for len(l) < lines {
		l = append(l, d.line())
		if strings.HasPrefix(l[len(l)-1], "deliver") || strings.HasPrefix(l[len(l)-1], "tick") {
			l = append(l, fmt.Sprint("put ", d.near(d.peers)))
		}
	}
	return l
}

// asMeant holds a text to what the second reading says of it.
func asMeant(t *testing.T, text string) (string, int) {
	t.Helper()
	want, wantE, wantN := meant(text)
	told, e, n := shell.Run(text)
	if told != want || e != wantE || n != wantN {
		a, b := strings.Split(told, "\n"), strings.Split(want, "\n")
		for i := range min(len(a), len(b)) {
			if a[i] != b[i] {
				t.Fatalf("line %d of what is told is %q, meant %q; of %q", i+1, a[i], b[i], text)
			}
		}
		t.Fatalf("%d lines, %d %d, meant %d lines, %d %d; of %q", len(a), e, n, len(b), wantE, wantN, text)
	}
	return told, n
}

// TestP25_2Drawn: games that are played at random tell what the second reading says.
func TestP25_2Drawn(t *testing.T) {
	d := &drawer{Rand: rand.New(rand.NewSource(2525))}
	seen := map[string]int{}
	shapes := map[string]*regexp.Regexp{}
	for what, shape := range map[string]string{
		"a correction": `^[A-F] \d+,\d+ \d+,\d+ `, "two corrections": `^[A-F] \d+,\d+ \d+,\d+ [^;]*; [A-F] `,
		"a sum": `^[0-9a-f]{16}$`, "commands": `^\d+/\d/\d+ .*; \d+/\d/\d+ `, "parcels": `^\d+:\d>\d; `, "links": `^\d:\d+/\d+/\d+/\d+; `, "one link": `^\d:\d+/\d+/\d+/\d+$`,
		"frames": `^\d+ \d+`, "nothing": `^-$`, "stamp": `^error 221$`, "full": `^error 222$`, "no peer": `^error 240$`, "no parcel": `^error 170$`, "no rung": `^error 1$`,
	} {
		shapes[what] = regexp.MustCompile(shape)
	}
	for i := range 400 {
		told, _ := asMeant(t, strings.Join(d.script(20+d.Intn(200)), "\n"))
		for _, line := range strings.Split(told, "\n") {
			for what, re := range shapes {
				if re.MatchString(line) {
					seen[what]++
				}
			}
		}
		if i == 0 && told == "" {
			t.Fatal("nothing is told")
		}
	}
	for what := range shapes {
		if seen[what] < 10 {
			t.Errorf("%s: %d times", what, seen[what])
		}
	}
}

// spoilt is a script in which some bytes of some line are others.
func (d *drawer) spoilt(l []string) string {
	text := strings.Join(l, "\n")
	for range 1 + d.Intn(2) {
		at := d.Intn(len(text))
		put := []string{" ", "0", "-", "+", "x", "#", "1", "9", "\n", "\r", "\t", "G", "a", "\x00", "\xff", "99999999999999999999", " 3", "_"}[d.Intn(18)]
		switch d.Intn(3) {
		case 0:
			text = text[:at] + put + text[at:]
		case 1:
			text = text[:at] + text[at+1:] + put
		case 2:
			text = text[:at] + put + text[at+1:]
		}
	}
	return text
}

// TestP25_1Drawn: which line may not be, of scripts that are spoilt at random.
func TestP25_1Drawn(t *testing.T) {
	d := &drawer{Rand: rand.New(rand.NewSource(2526))}
	refused, taken, lines := 0, 0, map[int]bool{}
	for range 6000 {
		if _, n := asMeant(t, d.spoilt(d.script(1+d.Intn(14)))); n > 0 {
			refused++
			lines[n] = true
		} else {
			taken++
		}
	}
	if refused < 1000 || taken < 100 || len(lines) < 8 {
		t.Errorf("%d were refused, %d taken, lines %v", refused, taken, lines)
	}
}

// TestP25_1DrawnBytes: texts of whatever bytes.
func TestP25_1DrawnBytes(t *testing.T) {
	d := &drawer{Rand: rand.New(rand.NewSource(2527))}
	words := []string{"game", "order", "tick", "quiet", "flight", "table", "x", "0", "1", "2", "3", "7", "-1", "halt", "say 4", "#", " ", "  ", "\n", "\n\n", "\r\n", "\t", "", "é", "\xc3", "\x00"}
	for range 20000 {
		var text strings.Builder
		if d.Intn(2) == 0 {
			text.WriteString("game 3 7 0 2\n")
		}
		for range d.Intn(12) {
			text.WriteString(words[d.Intn(len(words))])
			if d.Intn(2) == 0 {
				text.WriteString(" ")
			}
		}
		asMeant(t, text.String())
	}
}
