package shell_test

import (
	"testing"

	"echelon/shell"
)

// The document's ten examples of the whole, and its chapter's.

// example is a text, and what it tells.
type example struct {
	what string
	text string
	told string
}

func examples() []example {
	return []example{
		{
			what: "A command that comes in time.",
			text: `game 3 7 0 2
order 0 2 say 9
tick 0
flight
deliver 1
held 1
links 1
tick 1
tick 1
frames 1
missed 1 0`,
			told: `ok
ok
ok
1:0>1
ok
2/0/1 say 9
0:0/0/2/1
ok
ok
2 0
-
`,
		},
		{
			what: "A command that comes late: the leading copy has missed it, the copy two frames behind finds it, and puts it right.",
			text: `game 3 7 0 2 5
order 0 2 steer 8 0
tick 0
tick 1
tick 1
tick 1
deliver 1
missed 1 0
missed 1 1
tick 1
missed 1 0
put 1
count 1`,
			told: `ok
ok
ok
ok
ok
ok
ok
2/0/1 steer 8 0
-
ok
-
A 6144,6144 6880,6144 0 0
ticks 4 stalls 0 steps 7 copies 1 late 1 sent 5 got 1 refused 0 accepted 0
`,
		},
		{
			what: "What is lost comes with the next one; what comes twice is there once.",
			text: `game 3 7 0 2
order 0 1 aim 4
tick 0
drop 1
tick 0
double 2
deliver 3
deliver 2
held 1
deliver 1
flight
links 0`,
			told: `ok
ok
ok
ok
ok
ok
ok
ok
1/0/1 aim 4
error 170
4:1>0
1:1/0/1/0
`,
		},
		{
			what: "What may not be laid.",
			text: `game 3 7 0 2
order 0 0 halt
order 0 17 halt
order 0 16 halt
order 0 16 say 1
order 0 16 say 2
order 0 16 say 3
order 2 1 halt
table
tick 2`,
			told: `ok
error 221
error 221
ok
ok
ok
error 222
error 240
16/0/1 halt; 16/0/2 say 1; 16/0/3 say 2
error 240
`,
		},
		{
			what: "Two peers agree upon the frames that both hindmost copies have passed.",
			text: `game 3 7 0 2
order 0 3 fire 1
order 1 2 steer -3 1
quiet 6
frames 0
frames 1
sum 0 4
sum 1 4
sum 0 5`,
			told: `ok
ok
ok
ok
6 4
6 4
cf6d41c58a118bb6
cf6d41c58a118bb6
-
`,
		},
		{
			what: "A shot is fired, and flies towards the other one.",
			text: `game 3 7 0 1
order 0 1 fire 3
quiet 14
score 0 1
show 0 1`,
			told: `ok
ok
ok
1 A points 0 hits 0 outs 0 streak 0
2 B points 0 hits 0 outs 0 streak 0
frame 13
########
#A...oB#
#......#
#......#
#......#
########
A at 6144,6144 health 100 energy 33 points 0
B at 26624,6144 health 100 energy 63 points 0
`,
		},
		{
			what: "Three peers; one is silent, and the others wait for it.",
			text: `game 2 5 x 3 0 1 3
order 1 2 dash 4
tick 0
tick 1
tick 0
tick 1
frames 0
quiet 1
quiet 4
frames 0
frames 2
links 0`,
			told: `ok
ok
ok
ok
ok
ok
2 1 0
ok
ok
7 6 4
5 4 2
1:0/0/2/7; 2:0/0/1/5
`,
		},
		{
			what: "A great lag: the hindmost copies stay at the beginning until the leading ones are that far ahead.",
			text: `game 3 1 0 47
tick 0
tick 0
tick 0
tick 0
tick 0
tick 0
tick 0
tick 0
quiet 3
frames 0
frames 1`,
			told: `ok
ok
ok
ok
ok
ok
ok
ok
ok
ok
11 0
3 0
`,
		},
		{
			what: "A parcel that is older than what has come brings nothing.",
			text: `game 3 7 0 2
tick 0
tick 0
deliver 2
deliver 1
flight
deliver 3
links 1
count 0`,
			told: `ok
ok
ok
ok
ok
3:1>0
ok
0:0/0/1/2
ticks 2 stalls 0 steps 2 copies 0 late 0 sent 2 got 1 refused 0 accepted 0
`,
		},
		{
			what: "Lines that are passed over; a game begun anew.",
			text: `# a remark
game 3 7 0 2

tick 0
game 0 9 0 1 2
frames 0
flight
table
count 0`,
			told: `ok
ok
ok
0 0 0
-
-
ticks 0 stalls 0 steps 0 copies 0 late 0 sent 0 got 0 refused 0 accepted 0
`,
		},
		{
			what: "the chapter's",
			text: `game 3 7 0 2
order 0 1 say 9
tick 0
tick 0
flight
deliver 2
held 1
frames 0
missed 1 0
sum 0 1
links 1`,
			told: `ok
ok
ok
ok
1:0>1; 2:0>1
ok
1/0/1 say 9
2 0
-
-
0:0/0/2/2
`,
		},
	}
}

func TestP25_2Examples(t *testing.T) {
	for _, x := range examples() {
		told, e, n := shell.Run(x.text)
		if told != x.told || e != 0 || n != 0 {
			t.Errorf("%s: %q %d %d, meant %q", x.what, told, e, n, x.told)
		}
		if told, e, n = shell.Run(x.text + "\n"); told != x.told || e != 0 || n != 0 {
			t.Errorf("%s, with a line feed at the end: %q %d %d", x.what, told, e, n)
		}
	}
}

// TestP25_1Examples: what the chapter's examples say may not be, and the two that may.
func TestP25_1Examples(t *testing.T) {
	refuses(t, 1, "tick 0")
	refuses(t, 1, "game 3 7 0")
	refuses(t, 2, "game 3 7 0 2", "tick  0")
	tells(t, "")
	tells(t, "ok\nerror 240\n", "game 3 7 x 4 0 2", "frames 4")
}
