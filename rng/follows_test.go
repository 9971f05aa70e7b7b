package rng_test

import (
	"math"
	"math/rand"
	"slices"
	"sync"
	"testing"

	"echelon/api"
	"echelon/rng"
)

func TestP4_5AnswersLieInWhatWasAskedFor(t *testing.T) {
	rnd := rand.New(rand.NewSource(54))
	for _, a := range asks(54, 20000) {
		n := someInt(rnd)&math.MaxInt | 1
		if one, errno := rng.Below(a.seed, a.frame, a.use, n); one < 0 || one >= n || errno != api.OK {
			t.Fatalf("Below(%v, %d): %d %d", a, n, one, errno)
		}
		least, most := someInt(rnd), someInt(rnd)
		least, most = min(least, most), max(least, most)
		if one, errno := rng.Between(a.seed, a.frame, a.use, least, most); one < least || one > most || errno != api.OK {
			t.Fatalf("Between(%v, %d, %d): %d %d", a, least, most, one, errno)
		}
		weights := make([]int, 1+rnd.Intn(64))
		for range 1 + rnd.Intn(5) {
			weights[rnd.Intn(len(weights))] = 1 + rnd.Intn(api.MaxNum)
		}
		if at, errno := rng.Weighted(a.seed, a.frame, a.use, weights); weights[at] == 0 || errno != api.OK {
			t.Fatalf("Weighted(%v, %v): %d %d", a, weights, at, errno)
		}
	}
}

func TestP4_5EachNumberJustOnce(t *testing.T) {
	for _, a := range asks(55, 200) {
		for n := range 65 {
			list, _ := rng.Order(a.seed, a.frame, a.use, n)
			slices.Sort(list)
			for i, one := range list {
				if i != one {
					t.Fatalf("Order(%v, %d), sorted: %v", a, n, list)
				}
			}
		}
	}
}

func TestP4_5ChanceOfNoneAndOfAll(t *testing.T) {
	for _, a := range asks(56, 2000) {
		for _, all := range []int{1, 2, 3, 1000, api.MaxNum, 1 << 62, math.MaxInt} {
			if is, errno := rng.Chance(a.seed, a.frame, a.use, 0, all); is || errno != api.OK {
				t.Fatalf("of none of %d, %v: %v %d", all, a, is, errno)
			}
			if is, errno := rng.Chance(a.seed, a.frame, a.use, all, all); !is || errno != api.OK {
				t.Fatalf("of all of %d, %v: %v %d", all, a, is, errno)
			}
		}
	}
}

// answers are those of all calls to questions of one kind.
type answers struct {
	at            uint64
	below, place  int
	between       int
	chance        bool
	errnos        [5]api.Errno
	many, ordered int // how many there are of an order, and the order itself as one number
}

// asked asks all calls about things that hang on k.
func asked(a ask, k int) answers {
	var got answers
	got.at = rng.At(a.seed, a.frame, a.use)
	got.below, got.errnos[0] = rng.Below(a.seed, a.frame, a.use, k%50-3)
	got.between, got.errnos[1] = rng.Between(a.seed, a.frame, a.use, -k, k%7*1000-k/2)
	got.chance, got.errnos[2] = rng.Chance(a.seed, a.frame, a.use, k%11-1, k%9)
	got.place, got.errnos[3] = rng.Weighted(a.seed, a.frame, a.use, []int{k % 3, k % 5, k%13 - 1})
	list, errno := rng.Order(a.seed, a.frame, a.use, k%70-2)
	got.many, got.errnos[4] = len(list), errno
	for _, one := range list {
		got.ordered = got.ordered*67 + one
	}
	return got
}

func TestP4_5TheSameQuestionHasTheSameAnswer(t *testing.T) {
	questions := asks(57, 3000)
	first := make([]answers, len(questions))
	for i, a := range questions {
		first[i] = asked(a, i)
	}
	for i, a := range slices.Backward(questions) {
		if again := asked(a, i); again != first[i] {
			t.Fatalf("backward, %v: %v, then %v", a, first[i], again)
		}
	}
	rnd := rand.New(rand.NewSource(57))
	for _, i := range rnd.Perm(len(questions)) {
		for range rnd.Intn(3) {
			asked(questions[rnd.Intn(len(questions))], rnd.Intn(100))
		}
		if again := asked(questions[i], i); again != first[i] {
			t.Fatalf("mixed, %v: %v, then %v", questions[i], first[i], again)
		}
	}
}

func TestP4_5TheSameAnswerForWhoeverAsks(t *testing.T) {
	questions := asks(58, 500)
	var all [4][]answers
	var askers sync.WaitGroup
	for who := range all {
		askers.Go(func() {
			for i, a := range questions {
				all[who] = append(all[who], asked(a, i))
			}
		})
	}
	askers.Wait()
	for who := range all {
		if !slices.Equal(all[who], all[0]) {
			t.Errorf("asker %d has other answers than asker 0", who)
		}
	}
}
