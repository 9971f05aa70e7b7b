package digest_test

import (
	"math/rand"
	"slices"
	"testing"

	"echelon/digest"
)

// checkSum asks twice: to ask changes nothing.
func checkSum(t *testing.T, what any, s *digest.Sum, has []byte) {
	t.Helper()
	want := digest.Of(has)
	if first, second := s.Value(), s.Value(); first != want || second != want {
		t.Errorf("%v: Value is %d, then %d, want Of(%.20x..) of %d bytes: %d", what, first, second, has, len(has), want)
	}
}

func TestP3_5New(t *testing.T) {
	checkSum(t, "new", digest.New(), nil)
}

func TestP3_5Add(t *testing.T) {
	s := digest.New()
	s.Add([]byte{1, 2})
	checkSum(t, "one piece", s, []byte{1, 2})
	s.Add(nil)
	checkSum(t, "and nothing", s, []byte{1, 2})
	s.Add([]byte{3})
	checkSum(t, "and one byte", s, []byte{1, 2, 3})
	s.Add([]byte{0, 0})
	checkSum(t, "and noughts", s, []byte{1, 2, 3, 0, 0})
}

func TestP3_5PiecesWithoutBytes(t *testing.T) {
	s := digest.New()
	for range 3 {
		s.Add(nil)
		s.Add([]byte{})
		s.Add(make([]byte, 0, 8))
		s.Add(someBytes(8)[4:4])
		checkSum(t, "nothing", s, nil)
	}
	s.Add([]byte{7})
	checkSum(t, "a byte behind nothing", s, []byte{7})
}

func TestP3_5Clone(t *testing.T) {
	s := digest.New()
	empty := s.Clone()
	s.Add([]byte{1, 2})
	c := s.Clone()
	checkSum(t, "clone", c, []byte{1, 2})
	c.Add([]byte{9})
	checkSum(t, "first, when the clone has more", s, []byte{1, 2})
	s.Add([]byte{3, 4})
	checkSum(t, "clone, when the first has more", c, []byte{1, 2, 9})
	checkSum(t, "first", s, []byte{1, 2, 3, 4})
	checkSum(t, "clone of none", empty, nil)
	ofClone := c.Clone()
	c.Add([]byte{5})
	ofClone.Add([]byte{6, 7})
	checkSum(t, "clone's clone", ofClone, []byte{1, 2, 9, 6, 7})
	checkSum(t, "clone behind its clone", c, []byte{1, 2, 9, 5})
	checkSum(t, "first in the end", s, []byte{1, 2, 3, 4})
}

func TestP3_5SumsApart(t *testing.T) {
	a, b := digest.New(), digest.New()
	a.Add([]byte{1})
	checkSum(t, "the other one", b, nil)
	b.Add([]byte{2, 3})
	checkSum(t, "the one", a, []byte{1})
	checkSum(t, "a third one", digest.New(), nil)
	digest.Of([]byte{4})
	checkSum(t, "behind a sum of all at once", a, []byte{1})
	checkSum(t, "the other one", b, []byte{2, 3})
}

func TestP3_5LeavesArgumentsAlone(t *testing.T) {
	room := someBytes(100)
	s := digest.New()
	s.Add(room[10:60])
	if !slices.Equal(room, someBytes(100)) {
		t.Errorf("the bytes, or the room about them, are others: %x", room)
	}
	c := s.Clone()
	clear(room)
	checkSum(t, "behind a change", s, someBytes(60)[10:])
	s.Add(someBytes(64)[60:])
	c.Add(someBytes(61)[60:])
	checkSum(t, "and more", s, someBytes(64)[10:])
	checkSum(t, "the clone and more", c, someBytes(61)[10:])
	if slices.Max(room) != 0 {
		t.Errorf("written into what was handed in: %x", room)
	}
}

// kept is a sum, and all bytes that it has.
type kept struct {
	sum *digest.Sum
	has []byte
}

func TestP3_5Scripts(t *testing.T) {
	rnd := rand.New(rand.NewSource(35))
	for script := range 500 {
		all := []kept{{sum: digest.New()}}
		for range 60 {
			k := &all[rnd.Intn(len(all))]
			switch rnd.Intn(6) {
			case 0:
				all = append(all, kept{k.sum.Clone(), slices.Clone(k.has)})
			case 1:
				checkSum(t, script, k.sum, k.has)
			default:
				b := make([]byte, rnd.Intn(2)*rnd.Intn(20))
				rnd.Read(b)
				k.sum.Add(b)
				k.has = append(k.has, b...)
			}
		}
		for _, k := range all {
			checkSum(t, script, k.sum, k.has)
		}
	}
}

// cut is the sum of pieces of b that end at the places, which rise.
func cut(b []byte, places ...int) *digest.Sum {
	s := digest.New()
	from := 0
	for _, to := range append(places, len(b)) {
		s.Add(b[from:to])
		from = to
	}
	return s
}

func TestP3_6EveryCut(t *testing.T) {
	b := someBytes(10)
	for mask := range 1 << (len(b) + 1) {
		var places []int
		for at := range len(b) + 1 {
			if mask>>at&1 == 1 {
				places = append(places, at)
			}
		}
		checkSum(t, places, cut(b, places...), b)
	}
}

func TestP3_6ManyCuts(t *testing.T) {
	rnd := rand.New(rand.NewSource(38))
	for range 200 {
		b := make([]byte, rnd.Intn(3000))
		rnd.Read(b)
		places := make([]int, rnd.Intn(50))
		for i := range places {
			places[i] = rnd.Intn(len(b) + 1)
		}
		slices.Sort(places)
		checkSum(t, places, cut(b, places...), b)
	}
}
