package vec_test

import (
	"bytes"
	"encoding/binary"
	"math"
	"slices"
	"sync"
	"testing"

	"footway/api"
	"footway/vec"
)

var (
	ids    = []int{0, 1, 2, 0xff, 0x100, 0x7fff, 0x8000, api.MaxID - 1, api.MaxID}
	costs  = []int{0, 1, 2, 0xffff, 0x10000, 1 << 30, api.MaxCost - 1, api.MaxCost}
	ports  = []int{0, 1, 2, 3, 4, 5, 6, 7}
	noIDs  = []int{-1, -2, -api.MaxID, api.MaxID + 1, api.MaxID + 2, 1<<16 | 3, 1<<32 | 3, math.MaxInt, math.MinInt}
	noCost = []int{-1, -2, -api.MaxCost, api.MaxCost + 1, api.MaxCost + 2, math.MaxUint32, 1<<32 | 2, math.MaxInt, math.MinInt}
	noPort = []int{-1, -8, api.MaxPorts, api.MaxPorts + 1, 255, 256 | 4, 1<<32 | 4, math.MaxInt, math.MinInt}
)

func of(root, cost, bridge, port int) api.Vec {
	return api.Vec{Root: root, Cost: cost, Bridge: bridge, Port: port}
}

// rightVecs are all that the edges of the parts give together.
func rightVecs() []api.Vec {
	var all []api.Vec
	for _, root := range ids {
		for _, cost := range costs {
			for _, bridge := range ids {
				for _, port := range ports {
					all = append(all, of(root, cost, bridge, port))
				}
			}
		}
	}
	return all
}

// fewVecs have at each place the least, the greatest and one between, so that all pairs and threes of them can be tried.
func fewVecs() []api.Vec {
	var all []api.Vec
	for _, root := range []int{0, 0x100, api.MaxID} {
		for _, cost := range []int{0, 0x10000, api.MaxCost} {
			for _, bridge := range []int{0, 0x100, api.MaxID} {
				for _, port := range []int{0, 1, 7} {
					all = append(all, of(root, cost, bridge, port))
				}
			}
		}
	}
	return all
}

// wrongVecs have one part that may not be, or several.
func wrongVecs() []api.Vec {
	var all []api.Vec
	for i, root := range append([]int{1}, noIDs...) {
		for j, cost := range append([]int{2}, noCost...) {
			for k, bridge := range append([]int{3}, noIDs...) {
				for l, port := range append([]int{4}, noPort...) {
					if i+j+k+l > 0 {
						all = append(all, of(root, cost, bridge, port))
					}
				}
			}
		}
	}
	return all
}

// key says independently how good a right vec is: the better one's comes first, as bytes.
func key(v api.Vec) []byte {
	var b []byte
	for _, n := range []int{v.Root, v.Cost, v.Bridge, v.Port} {
		b = binary.BigEndian.AppendUint64(b, uint64(n))
	}
	return b
}

func wantBetter(a, b api.Vec) bool {
	return bytes.Compare(key(a), key(b)) < 0
}

// wantBest says independently which place is the first than which none is better.
func wantBest(l []api.Vec) int {
	return slices.IndexFunc(l, func(v api.Vec) bool {
		return !slices.ContainsFunc(l, func(w api.Vec) bool { return wantBetter(w, v) })
	})
}

// isOrdered says independently whether none stands behind a worse one.
func isOrdered(l []api.Vec) bool {
	return slices.IsSortedFunc(l, func(a, b api.Vec) int { return bytes.Compare(key(a), key(b)) })
}

// isSame says whether both hold each vec equally often.
func isSame(a, b []api.Vec) bool {
	count := map[api.Vec]int{}
	for _, v := range a {
		count[v]++
	}
	for _, v := range b {
		count[v]--
	}
	for _, n := range count {
		if n != 0 {
			return false
		}
	}
	return true
}

// mixed lays a list's elements otherwise, always the same way.
func mixed(l []api.Vec, seed int) []api.Vec {
	out := slices.Clone(l)
	for i := len(out) - 1; i > 0; i-- {
		seed = (seed*1103515245 + 12345) % (1 << 31)
		j := (seed >> 8) % (i + 1)
		out[i], out[j] = out[j], out[i]
	}
	return out
}

func better(t *testing.T, a, b api.Vec) bool {
	t.Helper()
	is, e := vec.Better(a, b)
	if e != api.OK {
		t.Errorf("Better(%+v, %+v): %d", a, b, e)
	}
	return is
}

func far(t *testing.T, v api.Vec, cost int) api.Vec {
	t.Helper()
	w, e := vec.Far(v, cost)
	if e != api.OK {
		t.Errorf("Far(%+v, %d): %d", v, cost, e)
	}
	return w
}

func checkBest(t *testing.T, l []api.Vec, want int, wantErr api.Errno) {
	t.Helper()
	if place, e := vec.Best(l); place != want || e != wantErr {
		t.Errorf("Best(%+v) = %d, %d, want %d, %d", l, place, e, want, wantErr)
	}
}

func checkSort(t *testing.T, l []api.Vec) {
	t.Helper()
	before := slices.Clone(l)
	sorted, e := vec.Sort(l)
	if e != api.OK || !isOrdered(sorted) || !isSame(sorted, l) {
		t.Errorf("Sort(%+v) = %+v, %d", l, sorted, e)
	}
	if !slices.Equal(l, before) {
		t.Errorf("Sort changed %+v to %+v", before, l)
	}
}

// checkListRefused fails, unless Best and Sort tell ErrArg, and zero values beside it.
func checkListRefused(t *testing.T, l []api.Vec) {
	t.Helper()
	checkBest(t, l, 0, api.ErrArg)
	if sorted, e := vec.Sort(l); len(sorted) != 0 || e != api.ErrArg {
		t.Errorf("Sort(%+v) = %+v, %d", l, sorted, e)
	}
}

func TestExample(t *testing.T) { // P4.1, P4.2
	first, second := of(1, 9, 9, 7), of(2, 0, 0, 0)
	if !better(t, first, second) || better(t, second, first) {
		t.Error("the first is not better")
	}
	checkBest(t, []api.Vec{first, second}, 0, api.OK)
	checkBest(t, []api.Vec{second, first}, 1, api.OK)
}

func TestRightVecs(t *testing.T) { // P4.1
	for _, v := range rightVecs() {
		if !vec.Right(v) {
			t.Errorf("Right(%+v) is false", v)
		}
	}
}

func TestWrongVecsAreRefusedWithZeroValues(t *testing.T) { // P4.1, P1, R2
	good := of(1, 2, 3, 4)
	for _, v := range wrongVecs() {
		if vec.Right(v) {
			t.Errorf("Right(%+v) is true", v)
		}
		for _, pair := range [][2]api.Vec{{v, good}, {good, v}, {v, v}, {v, {}}, {{}, v}} {
			if is, e := vec.Better(pair[0], pair[1]); is || e != api.ErrArg {
				t.Errorf("Better(%+v) = %v, %d", pair, is, e)
			}
		}
		for _, cost := range []int{0, 1, api.MaxCost, -1, api.MaxCost + 1} {
			if w, e := vec.Far(v, cost); w != (api.Vec{}) || e != api.ErrArg {
				t.Errorf("Far(%+v, %d) = %+v, %d", v, cost, w, e)
			}
		}
		checkListRefused(t, []api.Vec{v})
	}
}

func TestWrongCostsAreRefusedWithZeroValues(t *testing.T) { // P4.1, P1, R2
	for _, v := range []api.Vec{{}, of(1, 2, 3, 4), of(api.MaxID, api.MaxCost, api.MaxID, 7), of(-1, 2, 3, 4), of(1, -2, 3, 4)} {
		for _, cost := range noCost {
			if w, e := vec.Far(v, cost); w != (api.Vec{}) || e != api.ErrArg {
				t.Errorf("Far(%+v, %d) = %+v, %d", v, cost, w, e)
			}
		}
	}
}

func TestOneWrongVecAtAnyPlaceIsRefused(t *testing.T) { // P4.1, P1
	for _, wrong := range []api.Vec{of(-1, 0, 0, 0), of(0, -1, 0, 0), of(0, 0, -1, 0), of(0, 0, 0, -1), of(api.MaxID+1, 0, 0, 0), of(0, api.MaxCost+1, 0, 0), of(0, 0, api.MaxID+1, 0), of(0, 0, 0, api.MaxPorts)} {
		for n := 1; n <= 20; n++ {
			for place := range n {
				l := slices.Repeat([]api.Vec{of(1, 2, 3, 4)}, n)
				l[place] = wrong
				checkListRefused(t, l)
			}
		}
	}
}

func TestBetterOfOnePartAlone(t *testing.T) { // P4.1
	for _, base := range []api.Vec{of(1, 2, 3, 4), {}, of(api.MaxID, api.MaxCost, api.MaxID, 7)} {
		for _, part := range []struct {
			of  func(n int) api.Vec
			all []int
		}{
			{func(n int) api.Vec { v := base; v.Root = n; return v }, ids},
			{func(n int) api.Vec { v := base; v.Cost = n; return v }, costs},
			{func(n int) api.Vec { v := base; v.Bridge = n; return v }, ids},
			{func(n int) api.Vec { v := base; v.Port = n; return v }, ports},
		} {
			for _, m := range part.all {
				for _, n := range part.all {
					if is := better(t, part.of(m), part.of(n)); is != (m < n) {
						t.Errorf("Better(%+v, %+v) = %v", part.of(m), part.of(n), is)
					}
				}
			}
		}
	}
}

func TestBetterLooksAtThePartsInTheirOrder(t *testing.T) { // P4.1
	for _, pair := range [][2]api.Vec{
		{of(0, api.MaxCost, api.MaxID, 7), of(1, 0, 0, 0)},
		{of(api.MaxID-1, api.MaxCost, api.MaxID, 7), of(api.MaxID, 0, 0, 0)},
		{of(5, 0, api.MaxID, 7), of(5, 1, 0, 0)},
		{of(5, api.MaxCost-1, api.MaxID, 7), of(5, api.MaxCost, 0, 0)},
		{of(5, 5, 0, 7), of(5, 5, 1, 0)},
		{of(5, 5, api.MaxID-1, 7), of(5, 5, api.MaxID, 0)},
		{of(5, 5, 5, 0), of(5, 5, 5, 1)},
		{of(5, 5, 5, 6), of(5, 5, 5, 7)},
		{of(1, 2, 9, 0), of(1, 3, 0, 0)},
		{of(1, 3, 2, 1), of(2, 3, 1, 0)},
	} {
		if !better(t, pair[0], pair[1]) {
			t.Errorf("%+v is not better than %+v", pair[0], pair[1])
		}
		if better(t, pair[1], pair[0]) {
			t.Errorf("%+v is better than %+v", pair[1], pair[0])
		}
	}
}

func TestBetterOfAllPairs(t *testing.T) { // P4.1
	for _, a := range fewVecs() {
		for _, b := range fewVecs() {
			if is := better(t, a, b); is != wantBetter(a, b) {
				t.Errorf("Better(%+v, %+v) = %v", a, b, is)
			}
		}
	}
}

func TestFarAddsToCostAlone(t *testing.T) { // P4.1
	for _, c := range []struct{ cost, more, want int }{
		{0, 0, 0},
		{0, 1, 1},
		{2, 3, 5},
		{7, 0, 7},
		{0, api.MaxCost, api.MaxCost},
		{api.MaxCost, 0, api.MaxCost},
		{api.MaxCost - 1, 0, api.MaxCost - 1},
		{api.MaxCost - 2, 1, api.MaxCost - 1},
		{api.MaxCost - 1, 1, api.MaxCost},
		{api.MaxCost - 1, 2, api.MaxCost},
		{api.MaxCost, 1, api.MaxCost},
		{api.MaxCost, api.MaxCost, api.MaxCost},
		{1, api.MaxCost, api.MaxCost},
		{1 << 30, 1 << 30, api.MaxCost},
		{1 << 30, 1<<30 - 1, api.MaxCost},
		{1 << 30, 1<<30 - 2, api.MaxCost - 1},
	} {
		for _, rest := range [][3]int{{0, 0, 0}, {1, 3, 4}, {api.MaxID, api.MaxID, 7}} {
			v := of(rest[0], c.cost, rest[1], rest[2])
			if w := far(t, v, c.more); w != of(rest[0], c.want, rest[1], rest[2]) {
				t.Errorf("Far(%+v, %d) = %+v", v, c.more, w)
			}
		}
	}
}

func TestListsWithoutElements(t *testing.T) { // P4.2, R3
	for _, l := range [][]api.Vec{nil, {}, make([]api.Vec, 0, 4)} {
		checkBest(t, l, 0, api.ErrNone)
		if sorted, e := vec.Sort(l); len(sorted) != 0 || e != api.OK {
			t.Errorf("Sort of none = %+v, %d", sorted, e)
		}
	}
}

func TestBestIsTheFirstOfThoseThatAreTheSame(t *testing.T) { // P4.2
	good, bad := of(1, 2, 3, 4), of(1, 2, 3, 5)
	for _, c := range []struct {
		l    []api.Vec
		want int
	}{
		{[]api.Vec{good}, 0},
		{[]api.Vec{bad}, 0},
		{[]api.Vec{good, good}, 0},
		{[]api.Vec{good, bad}, 0},
		{[]api.Vec{bad, good}, 1},
		{[]api.Vec{bad, good, good}, 1},
		{[]api.Vec{bad, bad, good, bad, good}, 2},
		{[]api.Vec{good, bad, good}, 0},
		{[]api.Vec{bad, bad, bad}, 0},
	} {
		checkBest(t, c.l, c.want, api.OK)
	}
}

func TestBestAtEachPlace(t *testing.T) { // P4.2
	for n := 1; n <= 40; n++ {
		for place := range n {
			l := slices.Repeat([]api.Vec{of(1, 2, 3, 4)}, n)
			l[place] = of(1, 2, 3, 3)
			checkBest(t, l, place, api.OK)
			l[place] = of(1, 2, 3, 5)
			checkBest(t, l, wantBest(l), api.OK)
		}
	}
}

func TestBestOfManyLists(t *testing.T) { // P4.2
	for seed := range 300 {
		l := mixed(fewVecs(), seed)[:1+seed%81]
		checkBest(t, l, wantBest(l), api.OK)
		twice := append(slices.Clone(l), l...)
		checkBest(t, twice, wantBest(l), api.OK)
	}
}

func TestSortOfAFew(t *testing.T) { // P4.2
	l := []api.Vec{of(2, 0, 0, 0), of(1, 9, 9, 7), of(1, 2, 3, 4), of(1, 9, 9, 6), of(1, 2, 3, 4), of(1, 9, 8, 7), of(0, 9, 9, 7)}
	want := []api.Vec{of(0, 9, 9, 7), of(1, 2, 3, 4), of(1, 2, 3, 4), of(1, 9, 8, 7), of(1, 9, 9, 6), of(1, 9, 9, 7), of(2, 0, 0, 0)}
	if sorted, e := vec.Sort(l); !slices.Equal(sorted, want) || e != api.OK {
		t.Errorf("Sort = %+v, %d", sorted, e)
	}
}

func TestSortOfManyLists(t *testing.T) { // P4.2, R4
	for seed := range 300 {
		l := mixed(fewVecs(), seed)[:seed%82]
		checkSort(t, l)
		checkSort(t, append(slices.Clone(l), l...))
	}
	all := mixed(rightVecs(), 1)
	checkSort(t, all)
	sorted, _ := vec.Sort(all)
	checkSort(t, sorted)
	slices.Reverse(sorted)
	checkSort(t, sorted)
}

func TestWhatIsSortedIsNewMemory(t *testing.T) { // R4
	l := []api.Vec{of(1, 0, 0, 0), of(2, 0, 0, 0)}
	sorted, _ := vec.Sort(l)
	sorted[0] = of(9, 9, 9, 7)
	if l[0] != of(1, 0, 0, 0) {
		t.Errorf("the argument changed: %+v", l)
	}
	room := make([]api.Vec, 0, 3)
	sorted, _ = vec.Sort(room)
	if sorted = append(sorted, of(9, 9, 9, 7)); room[:1][0] != (api.Vec{}) {
		t.Errorf("the argument's room changed: %+v", room[:1])
	}
}

func TestBestChangesNothing(t *testing.T) { // R4
	l := mixed(fewVecs(), 7)
	before := slices.Clone(l)
	vec.Best(l)
	if !slices.Equal(l, before) {
		t.Error("Best changed its list")
	}
}

func TestTheBestIsSortedAheadOfAll(t *testing.T) { // P4.2
	for seed := range 100 {
		l := mixed(rightVecs(), seed)[:1+seed]
		place, _ := vec.Best(l)
		if sorted, _ := vec.Sort(l); len(sorted) != len(l) || sorted[0] != l[place] {
			t.Errorf("Best is %+v, Sort(%+v) = %+v", l[place], l, sorted)
		}
	}
}

func TestBetterIsAnOrder(t *testing.T) { // P4.3
	all := fewVecs()
	for _, a := range all {
		for _, b := range all {
			if ab, ba := better(t, a, b), better(t, b, a); ab && ba || ab == ba && a != b || ab && a == b {
				t.Errorf("Better of %+v and %+v: %v, and %v", a, b, ab, ba)
			}
		}
	}
	for _, a := range all[:27] {
		for _, b := range all {
			for _, c := range all {
				if better(t, a, b) && better(t, b, c) && !better(t, a, c) {
					t.Errorf("%+v, %+v and %+v are in no order", a, b, c)
				}
			}
		}
	}
}

func TestWhatIsFartherIsNoBetter(t *testing.T) { // P4.3
	for _, v := range rightVecs() {
		for _, cost := range costs {
			w := far(t, v, cost)
			if better(t, w, v) {
				t.Errorf("%+v is better, %d farther", w, cost)
			}
			if w.Cost != v.Cost && !better(t, v, w) {
				t.Errorf("%+v is no better than %+v, %d farther", v, w, cost)
			}
		}
	}
}

func TestWhoIsBetterStaysNoWorse(t *testing.T) { // P4.3
	for _, a := range fewVecs() {
		for _, b := range fewVecs() {
			if !better(t, a, b) {
				continue
			}
			for _, cost := range costs {
				farA, farB := far(t, a, cost), far(t, b, cost)
				isWithin := b.Cost+cost <= api.MaxCost && a.Cost+cost <= api.MaxCost
				if isWithin && !better(t, farA, farB) {
					t.Errorf("%+v, better than %+v, is not so %d farther", a, b, cost)
				}
				if a.Bridge == b.Bridge && a.Port == b.Port && better(t, farB, farA) {
					t.Errorf("%+v, better than %+v, is worse %d farther", a, b, cost)
				}
			}
		}
	}
}

func TestManyAtOnceHearTheSame(t *testing.T) { // P4.2, R1
	l := mixed(fewVecs(), 3)
	place, want := wantBest(l), slices.SortedFunc(slices.Values(l), func(a, b api.Vec) int { return bytes.Compare(key(a), key(b)) })
	var all sync.WaitGroup
	failed := make([]bool, 16)
	for i := range failed {
		all.Go(func() {
			for range 50 {
				best, e := vec.Best(l)
				sorted, f := vec.Sort(l)
				failed[i] = failed[i] || best != place || e != api.OK || f != api.OK || !slices.Equal(sorted, want)
			}
		})
	}
	all.Wait()
	if slices.Contains(failed, true) {
		t.Error("some heard otherwise")
	}
}

func FuzzTwoAreHeldAgainstEachOther(f *testing.F) { // P4.1, P4.2, P4.3, P1
	f.Add(1, 9, 9, 7, 2, 0, 0, 0, 1)
	f.Add(api.MaxID, api.MaxCost, api.MaxID, 7, api.MaxID+1, -1, math.MinInt, 8, math.MaxInt)
	f.Fuzz(func(t *testing.T, r, c, b, p, r2, c2, b2, p2, cost int) {
		v, w := of(r, c, b, p), of(r2, c2, b2, p2)
		isRight := func(v api.Vec) bool {
			return v.Root == int(uint16(v.Root)) && v.Cost == v.Cost&math.MaxInt32 && v.Bridge == int(uint16(v.Bridge)) && v.Port == v.Port&7
		}
		if vec.Right(v) != isRight(v) || vec.Right(w) != isRight(w) {
			t.Errorf("Right(%+v) is %v, Right(%+v) is %v", v, vec.Right(v), w, vec.Right(w))
		}
		if !isRight(v) || !isRight(w) {
			if is, e := vec.Better(v, w); is || e != api.ErrArg {
				t.Errorf("Better(%+v, %+v) = %v, %d", v, w, is, e)
			}
			checkListRefused(t, []api.Vec{v, w})
			return
		}
		if is := better(t, v, w); is != wantBetter(v, w) {
			t.Errorf("Better(%+v, %+v) = %v", v, w, is)
		}
		checkBest(t, []api.Vec{v, w}, wantBest([]api.Vec{v, w}), api.OK)
		checkSort(t, []api.Vec{v, w, v})
		want, wantErr := api.Vec{}, api.ErrArg
		if 0 <= cost && cost <= api.MaxCost {
			want, wantErr = of(r, min(c+cost, api.MaxCost), b, p), api.OK
		}
		if far, e := vec.Far(v, cost); far != want || e != wantErr {
			t.Errorf("Far(%+v, %d) = %+v, %d", v, cost, far, e)
		}
	})
}
