package pickup_test

import (
	"math"
	"math/rand"
	"slices"
	"testing"

	"echelon/api"
	"echelon/pickup"
	"echelon/rng"
)

// meantSpawn is P10.2, word by word.
func meantSpawn(seed uint64, frame int64, l []api.Pickup, spots, no int) (api.Pickup, bool, api.Errno) {
	if errno := meantCheck(l, spots); errno != api.OK {
		return api.Pickup{}, false, errno
	}
	if frame < 0 || frame > mostFrame || no < 1 || no > mostNo {
		return api.Pickup{}, false, 1
	}
	taken := map[int]bool{}
	for _, p := range l {
		taken[p.Spot] = true
	}
	many := spots - len(taken)
	if frame%16 != 0 || len(l) == 8 || many == 0 {
		return api.Pickup{}, false, api.OK
	}
	place, _ := rng.Below(seed, frame, 1, many)
	kind, _ := rng.Weighted(seed, frame, 2, []int{5, 3, 2})
	spot := 0
	for ; taken[spot] || place > 0; spot++ {
		if !taken[spot] {
			place--
		}
	}
	return one(no, spot, kind+1), true, api.OK
}

func askSpawn(t *testing.T, seed uint64, frame int64, l []api.Pickup, spots, no int) {
	t.Helper()
	want, wantIs, wantErrno := meantSpawn(seed, frame, l, spots, no)
	if got, is, e := pickup.Spawn(seed, frame, l, spots, no); got != want || is != wantIs || e != wantErrno {
		t.Errorf("Spawn(%d, %d, %v, %d, %d): %v %v %d, not %v %v %d", seed, frame, l, spots, no, got, is, e, want, wantIs, wantErrno)
	}
}

// wantNone asks for nothing and false, beside that error.
func wantNone(t *testing.T, name string, errno api.Errno, seed uint64, frame int64, l []api.Pickup, spots, no int) {
	t.Helper()
	if got, is, e := pickup.Spawn(seed, frame, l, spots, no); got != (api.Pickup{}) || is || e != errno {
		t.Errorf("%s: Spawn(%d, %d, %v, %d, %d): %v %v %d, not nothing and %d", name, seed, frame, l, spots, no, got, is, e, errno)
	}
}

func someFrames() []int64 {
	return []int64{math.MinInt64, math.MinInt64 + 1, math.MinInt64 + 16, -1 << 40, -32, -17, -16, -15, -1, 0, 1, 2, 8, 15, 16, 17, 31, 32, 33, 4096, mostFrame - 17, mostFrame - 16, mostFrame - 15, mostFrame - 1, mostFrame, mostFrame + 1, mostFrame + 16, 1 << 41, math.MaxInt64 - 15, math.MaxInt64 - 1, math.MaxInt64}
}

func someNos() []int {
	return []int{math.MinInt, math.MinInt + 1, -1 << 40, -2, -1, 0, 1, 2, 9, 1 << 32, mostNo - 1, mostNo, mostNo + 1, 1 << 41, math.MaxInt - 1, math.MaxInt}
}

func TestP10_2Examples(t *testing.T) {
	wantNone(t, "no multiple of 16", api.OK, 7, 15, nil, 4, 1)
	wantNone(t, "no spots", api.OK, 7, 16, nil, 0, 1)
	wantNone(t, "below the least frame", 1, 7, -16, nil, 1, 9)
	if got, is, e := pickup.Spawn(7, 16, nil, 1, 9); got.No != 9 || got.Spot != 0 || got.Kind < 1 || got.Kind > 3 || !is || e != api.OK {
		t.Errorf("%v %v %d", got, is, e)
	}
	lying := []api.Pickup{one(1, 0, api.Heal), one(2, 2, api.Prize)}
	for frame, want := range map[int64]api.Pickup{16: one(3, 1, 3), 32: one(3, 1, 2), 48: one(3, 3, 1), 128: one(3, 3, 2)} {
		if got, is, e := pickup.Spawn(7, frame, lying, 4, 3); got != want || !is || e != api.OK {
			t.Errorf("frame %d: %v %v %d, not %v", frame, got, is, e, want)
		}
	}
}

func TestP10_2Frames(t *testing.T) {
	for _, frame := range someFrames() {
		for _, n := range []int{0, 1, 4, 7, 8} {
			askSpawn(t, 7, frame, row(n), 16, 99)
		}
	}
	for _, c := range []struct {
		frame int64
		is    bool
		errno api.Errno
	}{
		{math.MinInt64, false, 1}, {-16, false, 1}, {-1, false, 1}, {0, true, api.OK}, {1, false, api.OK}, {15, false, api.OK}, {16, true, api.OK}, {17, false, api.OK},
		{mostFrame - 1, false, api.OK}, {mostFrame, true, api.OK}, {mostFrame + 1, false, 1}, {mostFrame + 16, false, 1}, {math.MaxInt64 - 15, false, 1}, {math.MaxInt64, false, 1},
	} {
		got, is, e := pickup.Spawn(7, c.frame, nil, 4, 9)
		if is != c.is || e != c.errno || (got.No == 9) != c.is {
			t.Errorf("frame %d: %v %v %d, not %v %d", c.frame, got, is, e, c.is, c.errno)
		}
	}
}

func TestP10_2Numbers(t *testing.T) {
	for _, no := range someNos() {
		for _, frame := range someFrames() {
			askSpawn(t, 7, frame, row(3), 16, no)
		}
	}
	for _, c := range []struct {
		no    int
		errno api.Errno
	}{
		{math.MinInt, 1}, {-1, 1}, {0, 1}, {1, api.OK}, {mostNo, api.OK}, {mostNo + 1, 1}, {math.MaxInt, 1},
	} {
		got, is, e := pickup.Spawn(7, 16, nil, 4, c.no)
		if is != (c.errno == api.OK) || e != c.errno || is && got.No != c.no || !is && got != (api.Pickup{}) {
			t.Errorf("no %d: %v %v %d, not %d", c.no, got, is, e, c.errno)
		}
	}
}

// TestP10_2AnyNumber: what comes may have the number of one that lies, or a lesser one.
func TestP10_2AnyNumber(t *testing.T) {
	l := []api.Pickup{one(5, 2, 1), one(9, 0, 3)}
	for no := 1; no <= 12; no++ {
		if got, is, e := pickup.Spawn(7, 32, l, 4, no); got.No != no || got.Spot != 1 && got.Spot != 3 || !is || e != api.OK {
			t.Errorf("no %d: %v %v %d", no, got, is, e)
		}
	}
}

// TestP10_2Barred: an argument that may not be is told also where nothing would come.
func TestP10_2Barred(t *testing.T) {
	for _, c := range []struct {
		name  string
		frame int64
		no    int
	}{
		{"frame", -1, 1}, {"a frame of 16", -16, 1}, {"frame above", mostFrame + 1, 1}, {"frame of 16 above", mostFrame + 16, 1},
		{"no", 16, 0}, {"no above", 16, mostNo + 1}, {"no in a frame in which nothing comes", 15, 0}, {"both", -3, -3},
	} {
		wantNone(t, c.name, 1, 7, c.frame, nil, 4, c.no)
		wantNone(t, c.name+", no spots", 1, 7, c.frame, nil, 0, c.no)
		wantNone(t, c.name+", all spots taken", 1, 7, c.frame, row(3), 3, c.no)
		wantNone(t, c.name+", 8 pickups", 1, 7, c.frame, row(8), 16, c.no)
	}
}

// TestP10_2Spoilt: Check's error is ahead of the others.
func TestP10_2Spoilt(t *testing.T) {
	for _, s := range allSpoilt() {
		for _, frame := range []int64{math.MinInt64, -16, -1, 0, 1, 15, 16, 17, mostFrame, mostFrame + 1, math.MaxInt64} {
			for _, no := range []int{math.MinInt, -1, 0, 1, 999, mostNo, mostNo + 1, math.MaxInt} {
				wantNone(t, s.name, 100, 7, frame, s.l, s.spots, no)
			}
		}
	}
}

func TestP10_2Free(t *testing.T) {
	for spots := range 17 {
		for n := range min(spots, 8) + 1 {
			for frame := int64(0); frame < 40*16; frame += 16 {
				askSpawn(t, 7, frame, row(n), spots, 1000)
			}
			_, is, e := pickup.Spawn(7, 16, row(n), spots, 1000)
			if is != (n < spots && n < 8) || e != api.OK {
				t.Errorf("%d pickups at %d spots: %v %d", n, spots, is, e)
			}
		}
	}
}

// TestP10_2OneFree: if a single spot is free, that is the one, wherever it is.
func TestP10_2OneFree(t *testing.T) {
	for spots := 1; spots <= 8; spots++ {
		for left := range spots {
			l := row(spots - 1)
			for i := range l {
				if l[i].Spot >= left {
					l[i].Spot++
				}
			}
			for frame := int64(0); frame < 20*16; frame += 16 {
				if got, is, e := pickup.Spawn(3, frame, l, spots, 500); got.Spot != left || got.No != 500 || !is || e != api.OK {
					t.Errorf("spot %d of %d: %v %v %d", left, spots, got, is, e)
				}
			}
		}
	}
}

// TestP10_2Sets has pickups at each set of the sixteen spots, whose numbers rise with the spots or fall with them.
func TestP10_2Sets(t *testing.T) {
	for set := range 1 << 16 {
		var up []api.Pickup
		for spot := range 16 {
			if set>>spot&1 == 1 {
				up = append(up, one(len(up)+1, spot, 1+spot%3))
			}
		}
		if len(up) > 8 {
			continue
		}
		down := slices.Clone(up)
		for i := range down {
			down[i].Spot = up[len(up)-1-i].Spot
		}
		frame := int64(set) * 16
		askSpawn(t, uint64(set), frame, up, 16, 50)
		askSpawn(t, uint64(set), frame, down, 16, 50)
	}
}

// TestP10_2AllCome: in the long run all free spots have their share, and the kinds come as 5 to 3 to 2.
func TestP10_2AllCome(t *testing.T) {
	lying := []api.Pickup{one(3, 5, 2), one(4, 0, 1)}
	free := []int{1, 2, 3, 4, 6}
	often, kinds := map[int]int{}, map[int]int{}
	for i := range int64(10000) {
		got, is, e := pickup.Spawn(11, 16*i, lying, 7, 5)
		if !is || e != api.OK {
			t.Fatalf("frame %d: %v %v %d", 16*i, got, is, e)
		}
		often[got.Spot]++
		kinds[got.Kind]++
	}
	for _, spot := range free {
		if often[spot] < 1800 || often[spot] > 2200 {
			t.Errorf("spot %d: %d times of about 2000", spot, often[spot])
		}
	}
	for kind, about := range map[int]int{api.Heal: 5000, api.Charge: 3000, api.Prize: 2000} {
		if kinds[kind] < about-200 || kinds[kind] > about+200 {
			t.Errorf("kind %d: %d times of about %d", kind, kinds[kind], about)
		}
	}
	if len(often) != 5 || len(kinds) != 3 {
		t.Errorf("spots %v, kinds %v", often, kinds)
	}
}

func TestP10_2Some(t *testing.T) {
	r := rand.New(rand.NewSource(102))
	for range 100000 {
		spots := someIn(r, 0, 16)
		l := someLying(r, spots)
		frame := int64(someIn(r, 0, mostFrame))
		if r.Intn(4) > 0 {
			frame &^= 15
		}
		askSpawn(t, r.Uint64()>>r.Intn(64), frame, l, spots, someIn(r, 1, mostNo))
		askSpawn(t, r.Uint64(), frame, l, spots-r.Intn(2), someIn(r, -1, 3))
	}
}

// TestP10_2StayAsTheyWere: the pickups that are handed in are neither changed nor kept, the room behind them neither.
func TestP10_2StayAsTheyWere(t *testing.T) {
	for n := range 10 {
		for _, frame := range []int64{-1, 15, 16, 32, 48, mostFrame} {
			room := append(row(n), one(-71, -72, -73), one(-74, -75, -76), one(-77, -78, -79))
			before := slices.Clone(room)
			errno := pickup.Check(room[:n], 16)
			got, is, e := pickup.Spawn(7, frame, room[:n], 16, 100)
			if !slices.Equal(room, before) {
				t.Errorf("%d pickups, frame %d: have become %v", n, frame, room)
			}
			clear(room)
			again, againIs, againE := pickup.Spawn(7, frame, row(n), 16, 100)
			if again != got || againIs != is || againE != e || pickup.Check(row(n), 16) != errno {
				t.Errorf("%d pickups, frame %d: %v %v %d, then %v %v %d", n, frame, got, is, e, again, againIs, againE)
			}
		}
	}
}
