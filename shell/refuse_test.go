package shell_test

import (
	"fmt"
	"strings"
	"testing"

	"echelon/shell"
	"echelon/verb"
)

const (
	mostBytes = 65536
	mostLines = 2000
)

// TestP25_1Bytes: texts of as many bytes as there may be, and of one more, in one line and in several.
func TestP25_1Bytes(t *testing.T) {
	tells(t, "")
	for _, ahead := range []string{"", begin + "\n", begin + "\ntick 0\n\n"} {
		told := strings.Repeat("ok\n", strings.Count(ahead, " 0"))
		for _, end := range []string{"", "\n", "\n\n", "\n#", "#"} {
			full := ahead + strings.Repeat("#", mostBytes-len(ahead)-len(end)) + end
			tells(t, told, full)
			tells(t, told, full[:len(ahead)+1]+full[len(ahead)+2:])
			tooLong(t, full+"#")
			tooLong(t, full+"\n")
			tooLong(t, full+full)
		}
	}
	// Bytes are counted, not signs.
	tells(t, "", "#"+strings.Repeat("é", (mostBytes-2)/2)+"#")
	tooLong(t, "#"+strings.Repeat("é", mostBytes/2))
	tooLong(t, strings.Repeat("\xff", mostBytes+1))
	refuses(t, 1, strings.Repeat("\xff", mostBytes))
	refuses(t, 1, strings.Repeat(" ", mostBytes))
	refuses(t, 1, "game 3 7 0"+strings.Repeat(" 2", (mostBytes-10)/2))
	refuses(t, 1, "game 3 "+strings.Repeat("7", mostBytes-11)+" 0 2")
	refuses(t, 2, begin, strings.Repeat("t", mostBytes-len(begin)-1))
}

// TestP25_1Lines: texts of as many lines as there may be, and of one more; a line feed at the end makes one line more.
func TestP25_1Lines(t *testing.T) {
	tells(t, "", strings.Repeat("\n", mostLines-1))
	tooLong(t, strings.Repeat("\n", mostLines))
	tooLong(t, strings.Repeat("\n", mostBytes))
	for _, line := range []string{"#", "# a remark", "flight"} {
		told := ""
		if line == "flight" {
			told = strings.Repeat("-\n", mostLines-1)
		}
		full := begin + strings.Repeat("\n"+line, mostLines-1)
		tells(t, "ok\n"+told, full)
		tooLong(t, full+"\n")
		tooLong(t, full+"\n"+line)
		less := begin + strings.Repeat("\n"+line, mostLines-2)
		if told != "" {
			told = told[2:]
		}
		tells(t, "ok\n"+told, less)
		tells(t, "ok\n"+told, less+"\n")
		tooLong(t, less+"\n\n")
	}
	refuses(t, mostLines, begin+strings.Repeat("\n", mostLines-1)+"no line")
	refuses(t, mostLines-1, begin+strings.Repeat("\n", mostLines-2)+"no line\n")
	refuses(t, 1, "no line"+strings.Repeat("\n", mostLines-1))
	// Other signs that end a line elsewhere end none here.
	tells(t, "", "#"+strings.Repeat("\r", mostLines+1))
	tells(t, "", "#"+strings.Repeat("\u2028\v\f\x85", 1000))
}

// TestP25_1LongAhead: a text that is too long is told so, whatever stands in it.
func TestP25_1LongAhead(t *testing.T) {
	for _, bad := range []string{"no line", "tick 0", "game 3 7 0", begin + "\ntick  0", " "} {
		tooLong(t, bad+strings.Repeat("\n", mostLines))
		tooLong(t, strings.Repeat("\n", mostLines)+bad)
		tooLong(t, bad+"\n"+strings.Repeat("#", mostBytes))
		tooLong(t, strings.Repeat("#", mostBytes)+"\n"+bad)
		tooLong(t, strings.Repeat(bad+strings.Repeat("#", 40)+"\n", mostLines+1))
	}
}

// TestP25_1TheFirst: of several lines that may not be the first one's number is told, whatever keeps them from being; and nothing else is.
func TestP25_1TheFirst(t *testing.T) {
	bad := []string{"no line", "tick", "tick 00", "game 4 7 0 2", "game 3 -1 0 2", "game 3 7 0", "order 0 1 jump", "frames 0 ", " tick 0", "held 9223372036854775808", "Game 3 7 0 2"}
	for i, first := range bad {
		for j, other := range bad {
			refuses(t, 2, begin, first, other)
			refuses(t, 4, begin, "tick 0", "frames 0", first, "tick 0", other, begin)
			if i != j {
				refuses(t, 1, first, begin, other)
			}
		}
		refuses(t, 1, first)
		refuses(t, 3, begin, "quiet 1", first)
	}
	for n := 2; n <= 60; n++ {
		var l []string
		for i := range 60 {
			l = append(l, lines()[i%len(lines())])
		}
		l[0] = begin
		l[n-1] = "no line"
		refuses(t, n, l...)
	}
}

// TestP25_1PassedOver: lines that are passed over count among the lines' numbers.
func TestP25_1PassedOver(t *testing.T) {
	for _, x := range [][]string{{""}, {"#"}, {"", ""}, {"# a", "", "#tick 0", ""}, {"#\xff\x00", "##"}} {
		n := len(x)
		refuses(t, n+1, append(x[:n:n], "no line")...)
		refuses(t, n+1, append(x[:n:n], "tick 0", begin)...)
		refuses(t, n+2, append(x[:n:n], begin, "no line")...)
		refuses(t, n+2, append(append([]string{begin}, x...), "no line", "")...)
		refuses(t, 2*n+3, append(append(append(append([]string{begin}, x...), "tick 0"), x...), "tick", "tick")...)
		refuses(t, 1, append([]string{"no line"}, x...)...)
	}
}

// TestP25_1AheadOfRemarks: a remark begins with its sign: with anything ahead of that it is a line that may not be.
func TestP25_1AheadOfRemarks(t *testing.T) {
	for _, line := range []string{" #", " # a remark", "  #", "\t#", "\r#", "\r", " ", "  ", "\t", "\x00", "\x00#", "\ufeff#", "-#", "tick 0 # a remark", "tick 0 #", "tick 0#", "//", "; a remark"} {
		refuses(t, 1, line)
		refuses(t, 1, line, begin)
		refuses(t, 2, begin, line)
		refuses(t, 3, begin, "tick 0", line, "tick 0")
	}
}

// TestP25_1Blanks: between two words there is just one blank, ahead of the first and behind the last one none; no other sign is one.
func TestP25_1Blanks(t *testing.T) {
	for i, line := range append(lines(), "order 0 1 steer -3 8", begin, "game 1 7 x 6 0 47") {
		taken(t, begin, line)
		for at := range len(line) + 1 {
			here := at == 0 || at == len(line) || line[at-1] == ' ' || line[at] == ' '
			for _, put := range []string{" ", "  ", "\t", "\r", "\v", "\f", "\x00", "\u00a0", "\u3000"} {
				if here || put != " " {
					refuses(t, 2, begin, line[:at]+put+line[at:])
				}
			}
			if at < len(line) && line[at] == ' ' {
				for _, put := range []string{"", "\t", "\u00a0", "_", ",", "  "} {
					refuses(t, 2, begin, line[:at]+put+line[at+1:])
				}
			}
		}
		if i > len(lines()) {
			refuses(t, 1, " "+line)
			refuses(t, 1, line+" ")
			refuses(t, 1, line+"\r")
		}
	}
}

// TestP25_1Words: each line of the table with too few words, and with too many.
func TestP25_1Words(t *testing.T) {
	for _, line := range lines() {
		words := strings.Split(line, " ")
		for n := range words {
			if n > 0 {
				refuses(t, 2, begin, strings.Join(words[:n], " "))
			}
			if n > 0 && words[0] != "order" {
				refuses(t, 2, begin, strings.Join(append(append([]string{}, words[:n]...), words[n+1:]...), " "))
			}
		}
		for _, more := range []string{"0", "1", "-1", "x", "tick", "tick 0", "0 0", "#"} {
			refuses(t, 2, begin, line+" "+more)
			refuses(t, 3, begin, "tick 0", line+" "+more)
		}
	}
	for _, line := range []string{"game", "game 3", "game 3 7", "game 3 7 0", "game 3 7 x", "game 3 7 x 2", "game 3 7 x 2 0", "game 3 7 x 0 2", "game x 2 0 2", "game 3 x 2 0 2"} {
		refuses(t, 1, line)
		refuses(t, 2, begin, line)
	}
	taken(t, "game 3 7 x 2 0 2")
	taken(t, "game 3 7 0 1")
}

// TestP25_1Unknown: first words that the table does not have.
func TestP25_1Unknown(t *testing.T) {
	for _, line := range lines() {
		word, rest, _ := strings.Cut(line, " ")
		if rest != "" {
			rest = " " + rest
		}
		for _, other := range []string{strings.ToUpper(word), strings.ToUpper(word[:1]) + word[1:], word + "s", word[1:], word[:len(word)-1], "x" + word, word + "0", "-" + word, "\xff", "0"} {
			refuses(t, 2, begin, other+rest)
		}
	}
	for _, line := range []string{"0", "x", "-", "ok", "stall", "error 1", "say 9", "halt", "world 0 0", "digest 0 1", "notes 0", "least 0", "kept 0", "run", "send 0 1", "last 0", "peers", "M S L", "Game 3 7 0 2", "GAME 3 7 0 2", "games 3 7 0 2", "gam 3 7 0 2", "game3 7 0 2", "é"} {
		refuses(t, 1, line)
		refuses(t, 2, begin, line)
	}
}

// TestP25_1AheadOfAGame: each line of the table ahead of the first game.
func TestP25_1AheadOfAGame(t *testing.T) {
	for _, line := range lines() {
		refuses(t, 1, line)
		refuses(t, 1, line, begin)
		refuses(t, 3, "", "# game 3 7 0 2", line, begin, line)
		refuses(t, 1, line, line)
		taken(t, begin, line)
		taken(t, "", begin, "", line, begin, line)
	}
	for _, line := range []string{"order 9 1 halt", "tick -1", "tick 9", "quiet 201", "frames 7", "show 0 9", "missed -1 -1"} {
		refuses(t, 1, line)
		taken(t, begin, line)
	}
}

// TestP25_1Maps: there are four maps, with room for 4, 6, 6 and 4 peers.
func TestP25_1Maps(t *testing.T) {
	for m, most := range []int{4, 6, 6, 4} {
		taken(t, fmt.Sprintf("game %d 7 0 2", m))
		for peers := -2; peers <= 9; peers++ {
			line := fmt.Sprintf("game %d 7 x %d 0 2", m, peers)
			if peers < 2 || peers > most {
				refuses(t, 1, line)
				refuses(t, 2, begin, line, "no line")
				continue
			}
			told := taken(t, line, fmt.Sprintf("frames %d", peers-1), fmt.Sprintf("frames %d", peers))
			if len(told) != 3 || told[1] != "0 0" || told[2] != "error 240" {
				t.Errorf("%s: %q", line, told)
			}
		}
	}
	for _, m := range []string{"-1", "4", "5", "-4", "256", "4294967296", "4294967299", "-9223372036854775808", "9223372036854775807", "9223372036854775808", "18446744073709551619"} {
		refuses(t, 1, "game "+m+" 7 0 2")
		refuses(t, 1, "game "+m+" 7 x 2 0 2")
	}
	for _, peers := range []string{"4294967298", "18446744073709551618", "-9223372036854775808", "9223372036854775807", "256", "258"} {
		refuses(t, 1, "game 1 7 x "+peers+" 0 2")
	}
}

// TestP25_1Seeds: from 0 to 2^63 - 1.
func TestP25_1Seeds(t *testing.T) {
	for _, seed := range []string{"0", "1", "9", "10", "2147483648", "4294967296", "9223372036854775806", "9223372036854775807"} {
		taken(t, "game 3 "+seed+" 0 2")
		taken(t, "game 3 "+seed+" x 3 0 2")
	}
	for _, seed := range []string{"-1", "-0", "-2", "-9223372036854775808", "-9223372036854775809", "9223372036854775808", "18446744073709551615", "18446744073709551616", "00", "01", "+1", "x", "", "1.0", "1e3", "0x1", "1_0"} {
		refuses(t, 1, "game 3 "+seed+" 0 2")
		refuses(t, 2, begin, "game 3 "+seed+" x 3 0 2")
	}
}

// TestP25_1Lags: two to five, from 0 on, which rise, below 48.
func TestP25_1Lags(t *testing.T) {
	for _, with := range []string{"", "x 2 ", "x 4 "} {
		for _, lags := range []string{"0 1", "0 47", "0 1 2", "0 5 9 46", "0 1 2 3 4", "0 44 45 46 47", "0 9 10 46 47"} {
			frames := strings.Repeat("0 ", strings.Count(lags, " ")) + "0\n"
			tells(t, "ok\n"+frames, "game 3 7 "+with+lags, "frames 1")
		}
		for _, lags := range []string{"0", "1", "2", "1 2", "-1 2", "0 0", "0 -1", "2 0", "0 2 2", "0 2 1", "0 3 2 4", "0 48", "0 1 48", "0 47 48", "0 49", "0 1 2 3 4 5", "0 1 2 3 4 47", "0 9223372036854775807", "-9223372036854775808 0", "0 4294967297", "0 18446744073709551617",
			"0 00", "0 01", "0 +1", "0 -0", "-0 1", "0 -", "0 x", "0 2 x", "0 2 x 3", "x 0 2", "0 x 2 2", "0 x 2", "0 1 2 3 4 x", "X 2 0 2"} {
			refuses(t, 1, "game 3 7 "+with+lags)
			refuses(t, 3, begin, "tick 0", "game 3 7 "+with+lags)
		}
	}
}

// TestP25_1TheSmallX: the letter that stands ahead of how many peers there are is small, and one alone.
func TestP25_1TheSmallX(t *testing.T) {
	taken(t, "game 3 7 x 3 0 2")
	for _, x := range []string{"X", "xx", "x3", "3", "y", "×", "х", "x:", "*"} { // the seventh is a letter of another alphabet
		refuses(t, 1, "game 3 7 "+x+" 3 0 2")
	}
	for _, n := range []string{"00", "03", "+3", "-3", "-0", "x", "3.0", "", "III", "9223372036854775808", "-9223372036854775809"} {
		refuses(t, 1, "game 3 7 x "+n+" 0 2")
	}
	refuses(t, 1, "game 3 7 x3 0 2")
	refuses(t, 1, "game 3 7 3 x 0 2")
	refuses(t, 1, "game x 3 3 7 0 2")
	refuses(t, 1, "game 3 7 x 3 x 3 0 2")
	refuses(t, 1, "game 3 7 0 2 x 3")
}

// numberTexts are numbers as they are told, and otherwise.
func numberTexts() (good, bad []string) {
	good = []string{"0", "1", "-1", "9", "10", "-10", "100", "2147483647", "2147483648", "-2147483648", "-2147483649", "4294967296", "9223372036854775806", "9223372036854775807", "-9223372036854775807", "-9223372036854775808"}
	bad = []string{
		"", "-", "--1", "+", "+1", "+0", "-0", "00", "01", "-01", "-00", "007", "0x1", "0X1", "0b1", "0o1", "1_0", "1e1", "1.", "1.0", ".1", "1,0", "a", "x", "1a", "a1", "-a", "1-", "0-1", "one", "NaN", "inf",
		"9223372036854775808", "9223372036854775809", "-9223372036854775809", "18446744073709551615", "18446744073709551616", "18446744073709551617", "99999999999999999999", "-99999999999999999999",
		"1" + strings.Repeat("0", 400), "-1" + strings.Repeat("0", 400), strings.Repeat("0", 400) + "1", "0" + "\x00", "1\r", "\t1", "１", "٣", "−1", "1\u200b", "\xff", "'1'", "\"1\"", "(1)", "#1",
	}
	return good, bad
}

// TestP25_1Numbers: at each place where a number stands in a line that is no game.
func TestP25_1Numbers(t *testing.T) {
	good, bad := numberTexts()
	for _, line := range lines() {
		words := strings.Split(line, " ")
		for at := 1; at < len(words) && !(words[0] == "order" && at > 2); at++ {
			for _, n := range good {
				if words[0] == "quiet" && n == "100" {
					continue // it would only take long
				}
				l := append([]string{}, words...)
				l[at] = n
				if told := taken(t, begin, strings.Join(l, " ")); len(told) < 2 {
					t.Errorf("%q: %q", l, told)
				}
			}
			for _, n := range bad {
				l := append([]string{}, words...)
				l[at] = n
				refuses(t, 2, begin, strings.Join(l, " "))
				refuses(t, 4, begin, "", line, strings.Join(l, " "), line)
			}
		}
	}
}

// TestP25_1GameNumbers: likewise of a game: what is a number may still be of no session.
func TestP25_1GameNumbers(t *testing.T) {
	_, bad := numberTexts()
	words := strings.Split("game 3 7 x 4 0 1 2 3 47", " ")
	for at := range words {
		if at == 0 || words[at] == "x" {
			continue
		}
		for _, n := range bad {
			l := append([]string{}, words...)
			l[at] = n
			refuses(t, 1, strings.Join(l, " "))
		}
	}
	taken(t, strings.Join(words, " "))
}

// TestP25_1Orders: each of the 583 orders may be laid, just as verb.Print writes it.
func TestP25_1Orders(t *testing.T) {
	all := 0
	for v := 1; v <= verb.Count(); v++ {
		texts := []string{verb.Name(v)}
		for _, o := range verb.Operands(v) {
			var longer []string
			for _, text := range texts {
				for n := o.Least; n <= o.Most; n++ {
					longer = append(longer, fmt.Sprint(text, " ", n))
				}
			}
			texts = longer
		}
		for _, text := range texts {
			all++
			tells(t, "ok\nok\n5/1/1 "+text+"\n5/1/1 "+text+"\n-\n", begin, "order 1 5 "+text, "table", "held 1", "held 0")
			refuses(t, 2, begin, "order 1 5 "+text+" ")
			refuses(t, 2, begin, "order 1 5  "+text)
			refuses(t, 2, begin, "order 1 5 "+text+" 0")
			refuses(t, 2, begin, "order 1 5 "+strings.ToUpper(text))
		}
	}
	if all != 583 {
		t.Errorf("%d orders", all)
	}
}

// TestP25_1NoOrders: what verb.Parse refuses is refused, whoever would lay it, and on whatever frame.
func TestP25_1NoOrders(t *testing.T) {
	orders := []string{
		"jump", "steer 9 0", "steer -9 0", "steer 0 9", "steer 0", "steer", "steer 1 2 3", "halt 0", "halt 1", "halts", "hal", "aim -1", "aim 16", "aim", "fire 0", "fire 4", "fire", "fire -1", "shield 2", "shield -1", "shield on", "dash 16", "dash -1",
		"say 256", "say -1", "say 09", "say +9", "say -0", "say 9 9", "say nine", "Say 9", "SAY 9", "say", "say  9", "say\t9", "9", "7 9", "", " ", "x", "-", "#", "halt #", "say 9223372036854775808",
	}
	for _, o := range orders {
		for _, ahead := range []string{"order 0 1 ", "order 9 1 ", "order -1 1 ", "order 0 0 ", "order 0 17 ", "order 0 -9223372036854775808 "} {
			refuses(t, 2, begin, ahead+o)
		}
	}
	for _, line := range []string{"order", "order 0", "order 0 1", "order halt", "order 0 halt", "order halt 0 1", "order 0 halt 1"} {
		refuses(t, 2, begin, line)
	}
}

// TestP25_1Nothing: an error stands alone, also where much was there to be told.
func TestP25_1Nothing(t *testing.T) {
	var l []string
	for i := range 300 {
		l = append(l, begin, "quiet 1", "tick 0", fmt.Sprintf("order 0 %d halt", i%9), "show 0 0")
	}
	taken(t, l...)
	refuses(t, 1501, append(l, "order 0 9 halts")...)
	refuses(t, 1501, append(l, "show 0")...)
	if told, e, n := shell.Run("tick 0"); told != "" || e != 250 || n != 1 {
		t.Errorf("%q %d %d", told, e, n)
	}
}
