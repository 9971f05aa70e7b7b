package bag_test

import (
	"math/rand"
	"testing"

	"echelon/api"
	"echelon/bag"
)

// TestP17_5EveryOrderOfFive: in whatever order they are delivered, each is told once, as it was sent.
func TestP17_5EveryOrderOfFive(t *testing.T) {
	var each func(order []int, i int)
	each = func(order []int, i int) {
		if i == len(order) {
			b, l := with(t, len(order))
			for _, no := range order {
				delivers(t, b, l[no-1])
				refuses(t, b, no)
			}
			has(t, b)
			return
		}
		for j := i; j < len(order); j++ {
			order[i], order[j] = order[j], order[i]
			each(order, i+1)
			order[i], order[j] = order[j], order[i]
		}
	}
	each([]int{1, 2, 3, 4, 5}, 0)
}

// fate is how a parcel has fared.
type fate struct {
	from, to int
	text     string
	told     int
	dropped  bool
}

// tell takes one out, if it is there, and counts that.
func tell(t *testing.T, b *bag.Bag, all []fate, no int) {
	t.Helper()
	p, e := b.Deliver(no)
	if e != api.OK {
		return
	}
	f := &all[no-1]
	f.told++
	if !same(p, parcel(no, f.from, f.to, f.text)) || f.told > 1 || f.dropped {
		t.Fatalf("Deliver(%d): %v, of %+v", no, p, *f)
	}
}

// TestP17_5EachAtMostOnce plays at random, and counts how often each parcel was told; at the end each was told once, was dropped, or is on its way.
func TestP17_5EachAtMostOnce(t *testing.T) {
	r := rand.New(rand.NewSource(175))
	for range 100 {
		b := bag.New()
		var all []fate
		for range 200 {
			no := 1 + r.Intn(len(all)+1)
			switch r.Intn(6) {
			case 0, 1:
				data := drawnBytes(r)
				all = append(all, fate{from: r.Intn(6), to: r.Intn(6), text: string(data)})
				f := all[len(all)-1]
				b.Send(f.from, f.to, data)
				spoil(data)
			case 2:
				if n, e := b.Double(no); e == api.OK {
					f := all[no-1]
					all = append(all, f)
					if n != len(all) || f.told > 0 || f.dropped {
						t.Fatalf("Double(%d): %d, but %d were given; of %+v", no, n, len(all)-1, f)
					}
				}
			case 3:
				if b.Drop(no) == api.OK {
					all[no-1].dropped = true
				}
			default:
				tell(t, b, all, no)
			}
		}
		onWay := 0
		for i, f := range all {
			if f.told == 0 && !f.dropped {
				onWay++
				tell(t, b, all, i+1)
				if all[i].told != 1 {
					t.Fatalf("number %d was neither told nor dropped, and is not on its way", i+1)
				}
			}
		}
		if onWay == 0 {
			t.Error("none was on its way")
		}
		has(t, b)
	}
}

// TestP17_5AllThatStays: what was neither delivered nor dropped is on its way, however long ago it was sent.
func TestP17_5AllThatStays(t *testing.T) {
	b := bag.New()
	sends(t, b, 1, 2, "old", 1)
	for i := range 5000 {
		sends(t, b, i, i+1, "new", i+2)
		if i%2 == 0 {
			delivers(t, b, parcel(i+2, i, i+1, "new"))
		} else {
			drops(t, b, i+2)
		}
		if n := b.Len(); n != 1 {
			t.Fatalf("Len: %d", n)
		}
	}
	has(t, b, parcel(1, 1, 2, "old"))
	delivers(t, b, parcel(1, 1, 2, "old"))
	has(t, b)
}
