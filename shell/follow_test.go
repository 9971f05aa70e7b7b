package shell_test

import (
	"math/rand"
	"runtime"
	"slices"
	"strings"
	"sync"
	"testing"
	"time"

	"echelon/shell"
)

// passedOver are lines that are passed over, such as would do something without their sign among them.
var passedOver = []string{"", "#", "##", "# a remark", "#tick 0", "#game 3 7 0 2", "# quiet 9", "#\x00\xff\r", "#é", "# -"}

// strewn is a script with so many lines among its own that are passed over, and where its own lines stand then.
func strewn(r *rand.Rand, script []string, n int) ([]string, []int) {
	at := make([]int, len(script))
	for i := range at {
		at[i] = i + 1
	}
	l := slices.Clone(script)
	for range n {
		place := r.Intn(len(l) + 1)
		l = slices.Insert(l, place, passedOver[r.Intn(len(passedOver))])
		for i := range at {
			if at[i] > place {
				at[i]++
			}
		}
	}
	return l, at
}

func run(lines []string) (string, int, int) {
	told, e, n := shell.Run(strings.Join(lines, "\n"))
	return told, int(e), n
}

// TestP25_3PassedOver: lines that are passed over change nothing but the lines' numbers.
func TestP25_3PassedOver(t *testing.T) {
	d := &drawer{Rand: rand.New(rand.NewSource(2531))}
	for range 150 {
		script := d.script(1 + d.Intn(60))
		if d.Intn(2) == 0 {
			at := d.Intn(len(script))
			script = slices.Insert(script, at, []string{"no line", "tick", "game 3 7 0", "order 0 1 jump", " #"}[d.Intn(5)])
		}
		told, e, n := run(script)
		for range 4 {
			more, at := strewn(d.Rand, script, 1+d.Intn(30))
			if n > 0 {
				n = at[n-1]
			}
			if again, e2, n2 := run(more); again != told || e2 != e || n2 != n {
				t.Fatalf("%q: %.300q %d %d, meant %.300q %d %d", more, again, e2, n2, told, e, n)
			}
			_, e, n = run(script)
		}
		for _, line := range passedOver {
			whole := "\n" + line + "\n"
			between := line + "\n" + strings.Join(script, whole) + "\n" + line
			if again, e2, n2 := run([]string{between}); again != told || e2 == 0 && n2 != 0 || int(e2) != e || n > 0 && n2 != 2*n {
				t.Fatalf("%q: %.300q %d %d, meant %.300q %d", between, again, e2, n2, told, e)
			}
		}
	}
	for n := range 50 {
		tells(t, "", strings.Repeat("\n# a remark\n", n))
	}
}

// TestP25_3Beginnings: what a text tells begins with what its beginning tells, wherever that ends.
func TestP25_3Beginnings(t *testing.T) {
	d := &drawer{Rand: rand.New(rand.NewSource(2532))}
	for range 60 {
		script := d.script(2 + d.Intn(50))
		whole, _, _ := run(script)
		last := 0
		for n := range len(script) + 1 {
			told, e, _ := run(script[:n])
			if e != 0 || !strings.HasPrefix(whole, told) || len(told) < last {
				t.Fatalf("the first %d lines of %q: %.300q %d, but of all %.300q", n, script, told, e, whole)
			}
			last = len(told)
			// And so it is where the beginning ends with a line feed.
			if again, e, _ := run(append(slices.Clone(script[:n]), "")); again != told || e != 0 {
				t.Fatalf("the first %d lines of %q, and a line feed: %.300q %d", n, script, again, e)
			}
		}
		if last != len(whole) {
			t.Fatalf("%q tells %.300q, and then %.300q", script, whole, whole[:last])
		}
		// A line that may not be behind it tells of its beginning nothing, and of the line just the number.
		if told, e, n := run(append(slices.Clone(script), "no line")); told != "" || e != 250 || n != len(script)+1 {
			t.Fatalf("%q with a line that may not be: %q %d %d", script, told, e, n)
		}
	}
}

// TestP25_3Again: the same text tells the same: called again, behind others, and beside others.
func TestP25_3Again(t *testing.T) {
	d := &drawer{Rand: rand.New(rand.NewSource(2533))}
	var texts, told []string
	for range 24 {
		texts = append(texts, strings.Join(d.script(10+d.Intn(80)), "\n"))
	}
	texts = append(texts, "", "no line", begin+"\ntick", begin+"\nquiet 30\nshow 0 0\nsum 1 20", strings.Repeat("\n", 2000))
	answer := func(text string) string {
		s, e, n := shell.Run(text)
		return s + "|" + string(rune('0'+e)) + "|" + string(rune('0'+n))
	}
	for _, text := range texts {
		told = append(told, answer(text))
	}
	for i, text := range texts {
		if again := answer(text); again != told[i] {
			t.Fatalf("%.300q: %.300q, and again %.300q", text, told[i], again)
		}
	}
	for i := len(texts) - 1; i >= 0; i-- {
		if again := answer(string([]byte(texts[i]))); again != told[i] {
			t.Fatalf("%.300q: %.300q, and again %.300q", texts[i], told[i], again)
		}
	}
	var wait sync.WaitGroup
	for j := range 8 {
		wait.Go(func() {
			for i := range texts {
				at := (i + 5*j) % len(texts)
				if answer(texts[at]) != told[at] {
					t.Errorf("%.300q tells another thing beside others", texts[at])
				}
			}
		})
	}
	wait.Wait()
}

// TestP25_3HoweverItRuns: on as many processors as there are, and on few; and none of its goroutines is left.
func TestP25_3HoweverItRuns(t *testing.T) {
	defer runtime.GOMAXPROCS(runtime.GOMAXPROCS(0))
	d := &drawer{Rand: rand.New(rand.NewSource(2534))}
	text := strings.Join(d.script(200), "\n") + "\ngame 1 5 x 6 0 3 9\norder 4 3 fire 3\nquiet 50\nflight\ntick 3\nflight\nsum 0 40\nshow 5 2"
	want, _, _ := shell.Run(text)
	was := runtime.NumGoroutine()
	for _, n := range []int{1, 2, 3, 8, 1} {
		runtime.GOMAXPROCS(n)
		for range 5 {
			if told, e, line := shell.Run(text); told != want || e != 0 || line != 0 {
				t.Fatalf("with %d processors: %.300q %d %d", n, told, e, line)
			}
		}
	}
	for i := 0; runtime.NumGoroutine() > was; i++ {
		if i == 1000 { // one that has told its end may yet be there for a moment
			t.Fatalf("%d goroutines, there were %d", runtime.NumGoroutine(), was)
		}
		time.Sleep(time.Millisecond)
	}
}

// TestP25_3Parts: a text of two games tells what the one tells, and then what the other one does.
func TestP25_3Parts(t *testing.T) {
	d := &drawer{Rand: rand.New(rand.NewSource(2535))}
	for range 100 {
		a, b := d.script(1+d.Intn(60)), d.script(1+d.Intn(60))
		first, _, _ := run(a)
		second, _, _ := run(b)
		if both, e, n := run(append(slices.Clone(a), b...)); both != first+second || e != 0 || n != 0 {
			t.Fatalf("%q and %q: %.300q %d %d", a, b, both, e, n)
		}
	}
}
