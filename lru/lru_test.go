package lru_test

import (
	"math"
	"slices"
	"sync"
	"testing"

	"footway/api"
	"footway/lru"
)

var (
	numbers   = []int{0, 1, 2, 3, 7, 63, 64, 65, 255, 256, math.MaxInt32, math.MaxUint32, 1 << 32, 1<<32 | 1, math.MaxInt - 1, math.MaxInt}
	noNumbers = []int{-1, -2, -64, -65, math.MinInt32, -1 << 32, math.MinInt + 1, math.MinInt}
)

// many tells that many numbers, neither rising nor falling; 11 is the first one, and the greatest is below 1000.
func many(count int) []int {
	l := []int{}
	for i := range count {
		l = append(l, (11+i*389)%1000)
	}
	return l
}

// orders are of all sizes, with the edges among them.
func orders() [][]int {
	all := [][]int{nil, {}, make([]int, 0, 4), {0}, {1}, {math.MaxInt}, {0, math.MaxInt}, {math.MaxInt, 0}, {3, 1, 2}, {1, 2, 3}, {3, 2, 1}, numbers}
	for count := range api.MaxOrder + 1 {
		all = append(all, many(count))
	}
	return all
}

// but says independently which are left, if one goes.
func but(l []int, who int) []int {
	place := slices.Index(l, who)
	if place < 0 {
		return slices.Clone(l)
	}
	return slices.Concat(l[:place], l[place+1:])
}

func turned(l []int) []int {
	out := slices.Clone(l)
	slices.Reverse(out)
	return out
}

// chance tells numbers that are always the same ones.
type chance uint64

func (c *chance) below(n int) int {
	*c = *c*6364136223846793005 + 1442695040888963407
	return int(*c>>33) % n
}

// checkUse fails, unless Use tells what the document asks of an order and a number; it answers that.
func checkUse(t *testing.T, l []int, who int) []int {
	t.Helper()
	before := slices.Clone(l)
	want, wantErr := append([]int{who}, but(l, who)...), api.OK
	if len(want) > api.MaxOrder {
		want, wantErr = nil, api.ErrFull
	}
	out, e := lru.Use(l, who)
	if !slices.Equal(out, want) || e != wantErr {
		t.Errorf("Use(%v, %d) = %v, %d, want %v, %d", l, who, out, e, want, wantErr)
	}
	if !slices.Equal(l, before) {
		t.Errorf("Use changed %v to %v", before, l)
	}
	return out
}

func checkOldest(t *testing.T, l []int, want int, wantErr api.Errno) {
	t.Helper()
	if who, e := lru.Oldest(l); who != want || e != wantErr {
		t.Errorf("Oldest(%v) = %d, %d, want %d, %d", l, who, e, want, wantErr)
	}
}

func checkDrop(t *testing.T, l []int, who int) []int {
	t.Helper()
	before := slices.Clone(l)
	want, wantErr := but(l, who), api.OK
	if !slices.Contains(l, who) {
		want, wantErr = nil, api.ErrNone
	}
	out, e := lru.Drop(l, who)
	if !slices.Equal(out, want) || e != wantErr {
		t.Errorf("Drop(%v, %d) = %v, %d, want %v, %d", l, who, out, e, want, wantErr)
	}
	if !slices.Equal(l, before) {
		t.Errorf("Drop changed %v to %v", before, l)
	}
	return out
}

func checkTrim(t *testing.T, l []int, most int) (kept, gone []int) {
	t.Helper()
	before := slices.Clone(l)
	count := min(most, len(l))
	kept, gone, e := lru.Trim(l, most)
	if !slices.Equal(kept, l[:count]) || !slices.Equal(gone, turned(l[count:])) || e != api.OK {
		t.Errorf("Trim(%v, %d) = %v, %v, %d", l, most, kept, gone, e)
	}
	if !slices.Equal(l, before) {
		t.Errorf("Trim changed %v to %v", before, l)
	}
	return kept, gone
}

func checkUseRefused(t *testing.T, l []int, who int) {
	t.Helper()
	if out, e := lru.Use(l, who); len(out) != 0 || e != api.ErrArg {
		t.Errorf("Use(%v, %d) = %v, %d", l, who, out, e)
	}
}

func checkDropRefused(t *testing.T, l []int, who int) {
	t.Helper()
	if out, e := lru.Drop(l, who); len(out) != 0 || e != api.ErrArg {
		t.Errorf("Drop(%v, %d) = %v, %d", l, who, out, e)
	}
}

func checkTrimRefused(t *testing.T, l []int, most int) {
	t.Helper()
	if kept, gone, e := lru.Trim(l, most); len(kept) != 0 || len(gone) != 0 || e != api.ErrArg {
		t.Errorf("Trim(%v, %d) = %v, %v, %d", l, most, kept, gone, e)
	}
}

// checkWrong fails, unless all calls refuse a list, whatever else they are handed.
func checkWrong(t *testing.T, l []int) {
	t.Helper()
	if lru.Right(l) {
		t.Errorf("Right(%v) is true", l)
	}
	for _, n := range append([]int{0, 1, api.MaxOrder, math.MaxInt, -1, math.MinInt}, l...) {
		checkUseRefused(t, l, n)
		checkDropRefused(t, l, n)
		checkTrimRefused(t, l, n)
	}
	checkOldest(t, l, 0, api.ErrArg)
}

func TestExamples(t *testing.T) { // P6.1, P6.2
	l := []int{3, 1, 2}
	if out, e := lru.Use(l, 2); !slices.Equal(out, []int{2, 3, 1}) || e != api.OK {
		t.Errorf("Use 2: %v, %d", out, e)
	}
	if kept, gone, e := lru.Trim(l, 1); !slices.Equal(kept, []int{3}) || !slices.Equal(gone, []int{2, 1}) || e != api.OK {
		t.Errorf("Trim 1: %v, %v, %d", kept, gone, e)
	}
}

func TestRightOrders(t *testing.T) { // P6.1, R3
	for _, l := range orders() {
		if !lru.Right(l) {
			t.Errorf("Right(%v) is false", l)
		}
	}
	for _, who := range numbers {
		if !lru.Right([]int{who}) {
			t.Errorf("Right of %d is false", who)
		}
	}
}

func TestMoreThanSoManyAreNoOrder(t *testing.T) { // P6.1
	for _, count := range []int{api.MaxOrder + 1, api.MaxOrder + 2, 2 * api.MaxOrder, 256, 1000} {
		checkWrong(t, many(count))
	}
}

func TestNumbersBelowZeroAreInNoOrder(t *testing.T) { // P6.1, P1
	for _, count := range []int{1, 2, 3, api.MaxOrder} {
		for place := range count {
			for _, who := range noNumbers {
				l := many(count)
				l[place] = who
				checkWrong(t, l)
			}
		}
	}
}

func TestNoTwoOfAnOrderAreOne(t *testing.T) { // P6.1
	for i := range api.MaxOrder {
		for k := range i {
			l := many(api.MaxOrder)
			l[i] = l[k]
			checkWrong(t, l)
		}
	}
	for _, who := range numbers {
		checkWrong(t, []int{who, who})
		checkWrong(t, []int{who, 5, who})
		checkWrong(t, []int{who, who, who})
	}
	checkWrong(t, slices.Repeat([]int{0}, api.MaxOrder))
}

func TestNumbersBelowZeroAreRefused(t *testing.T) { // P6.1, P1, R2
	for _, l := range orders() {
		for _, n := range noNumbers {
			checkUseRefused(t, l, n)
			checkDropRefused(t, l, n)
			checkTrimRefused(t, l, n)
		}
	}
}

func TestUseOfWhoIsThere(t *testing.T) { // P6.1
	for _, l := range orders() {
		for _, who := range l {
			checkUse(t, l, who)
		}
	}
}

func TestUseOfWhoIsNew(t *testing.T) { // P6.1
	for _, l := range orders() {
		for _, who := range append([]int{1000, 1001}, numbers...) {
			checkUse(t, l, who)
		}
	}
}

func TestUseOfAFullOne(t *testing.T) { // P6.1
	l := many(api.MaxOrder)
	for _, who := range []int{0, 1, 1000, math.MaxInt} {
		if out, e := lru.Use(l, who); len(out) != 0 || e != api.ErrFull {
			t.Errorf("Use(%v, %d) = %v, %d", l, who, out, e)
		}
		if out, e := lru.Use(l[1:], who); len(out) != api.MaxOrder || e != api.OK {
			t.Errorf("Use(%v, %d) = %v, %d", l[1:], who, out, e)
		}
	}
	for _, who := range l {
		if out, e := lru.Use(l, who); len(out) != api.MaxOrder || e != api.OK {
			t.Errorf("Use(%v, %d) = %v, %d", l, who, out, e)
		}
	}
}

func TestOldest(t *testing.T) { // P6.1, R3
	for _, l := range orders() {
		if len(l) == 0 {
			checkOldest(t, l, 0, api.ErrNone)
			continue
		}
		before := slices.Clone(l)
		checkOldest(t, l, l[len(l)-1], api.OK)
		if !slices.Equal(l, before) {
			t.Errorf("Oldest changed %v to %v", before, l)
		}
	}
	checkOldest(t, []int{3, 1, 2}, 2, api.OK)
	checkOldest(t, []int{7, 0}, 0, api.OK)
	checkOldest(t, numbers, math.MaxInt, api.OK)
}

func TestDrop(t *testing.T) { // P6.2, R3
	for _, l := range orders() {
		for _, who := range l {
			checkDrop(t, l, who)
		}
		for _, who := range append([]int{1000, 1001}, numbers...) {
			checkDrop(t, l, who)
		}
	}
	if out, e := lru.Drop([]int{3, 1, 2}, 1); !slices.Equal(out, []int{3, 2}) || e != api.OK {
		t.Errorf("Drop 1: %v, %d", out, e)
	}
}

func TestTrim(t *testing.T) { // P6.2, R3
	for _, l := range orders() {
		for most := range api.MaxOrder + 3 {
			checkTrim(t, l, most)
		}
		for _, most := range numbers {
			checkTrim(t, l, most)
		}
	}
}

func TestWhoWasUsedMostOfAllIsTrimmedLast(t *testing.T) { // P6.3
	for _, l := range orders() {
		for _, who := range append([]int{5, 1000}, l...) {
			used := checkUse(t, l, who)
			if len(used) == 0 {
				continue
			}
			_, gone := checkTrim(t, used, 0)
			if gone[len(gone)-1] != who || gone[0] != used[len(used)-1] {
				t.Errorf("%v is trimmed as %v, though %d was used", used, gone, who)
			}
			for most := 1; most < len(used); most++ {
				if kept, _ := checkTrim(t, used, most); kept[0] != who {
					t.Errorf("%v keeps %v, though %d was used", used, kept, who)
				}
			}
		}
	}
}

func TestTheOrderOfAllOthersDoesNotHangOnWhoIsUsed(t *testing.T) { // P6.3
	for _, l := range [][]int{{1}, {3, 1, 2}, many(9), many(api.MaxOrder - 1)} {
		for _, a := range append([]int{1000}, l...) {
			for _, b := range append([]int{1001}, l...) {
				afterA, afterB := but(checkUse(t, l, a), b), but(checkUse(t, l, b), a)
				if rest := but(but(l, a), b); !slices.Equal(but(afterA, a), rest) || !slices.Equal(but(afterB, b), rest) {
					t.Errorf("%v: %v after %d, %v after %d", l, afterA, a, afterB, b)
				}
			}
		}
	}
}

func TestTrimInOneStepOrInMany(t *testing.T) { // P6.2, P6.3
	for _, l := range orders() {
		_, all := checkTrim(t, l, 0)
		left, oneByOne := slices.Clone(l), []int{}
		for len(left) > 0 {
			who, e := lru.Oldest(left)
			if e != api.OK {
				t.Fatalf("Oldest(%v): %d", left, e)
			}
			var gone []int
			left, gone = checkTrim(t, left, len(left)-1)
			oneByOne = append(oneByOne, gone...)
			if !slices.Equal(gone, []int{who}) {
				t.Errorf("%v goes, and %d is the oldest one", gone, who)
			}
		}
		if !slices.Equal(oneByOne, all) {
			t.Errorf("%v goes in one step, %v in many", all, oneByOne)
		}
	}
}

// lastUse says independently in which order all of a history were used: by when it was last.
func lastUse(history []int) []int {
	var l []int
	for i, who := range history {
		if !slices.Contains(history[i+1:], who) {
			l = append([]int{who}, l...)
		}
	}
	return l
}

func TestManyUsesOneAfterTheOther(t *testing.T) { // P6.1, P6.2, P6.3
	c := chance(1)
	for range 50 {
		var l, history []int
		for range 1 + c.below(200) {
			who := c.below(api.MaxOrder)
			history = append(history, who)
			l = checkUse(t, l, who)
		}
		if want := lastUse(history); !slices.Equal(l, want) || !lru.Right(l) {
			t.Fatalf("%v after %v, want %v", l, history, want)
		}
		gone := l[c.below(len(l))]
		if out := checkDrop(t, l, gone); !slices.Equal(checkUse(t, out, gone), checkUse(t, l, gone)) {
			t.Errorf("%v: to use %d is otherwise, once it was dropped", l, gone)
		}
		checkTrim(t, l, c.below(len(l)+2))
	}
}

func TestAnswersAreOrders(t *testing.T) { // P6.1, P6.2
	for _, l := range orders() {
		for _, who := range append([]int{1000}, l...) {
			for _, out := range [][]int{checkUse(t, l, who), checkDrop(t, l, who)} {
				if !lru.Right(out) {
					t.Errorf("%v is no order", out)
				}
			}
			kept, gone := checkTrim(t, l, who%(api.MaxOrder+1))
			if !lru.Right(kept) || !lru.Right(gone) || !lru.Right(slices.Concat(kept, gone)) {
				t.Errorf("%v or %v is no order", kept, gone)
			}
		}
	}
}

// spoil writes over all that a list reaches.
func spoil(l []int) {
	whole := l[:cap(l)]
	for i := range whole {
		whole[i] = -9
	}
}

func TestWhatIsAnsweredIsNewMemory(t *testing.T) { // R4
	base := many(api.MaxOrder)
	for _, length := range []int{0, 1, 2, 5, api.MaxOrder - 1} {
		l := base[:length]
		before := slices.Clone(base)
		spoil(checkUse(t, l, 1000))
		for _, who := range l {
			spoil(checkUse(t, l, who))
			spoil(checkDrop(t, l, who))
		}
		for most := range length + 2 {
			kept, gone := checkTrim(t, l, most)
			spoil(kept)
			if slices.Contains(gone, -9) {
				t.Errorf("Trim(%v, %d): both lists share memory", l, most)
			}
			spoil(gone)
		}
		if !slices.Equal(base, before) {
			t.Fatalf("%v became %v", before, base)
		}
	}
}

func TestManyAtOnceHearTheSame(t *testing.T) { // R1
	l := many(api.MaxOrder)
	want, last := append([]int{l[30]}, but(l, l[30])...), l[len(l)-1]
	var all sync.WaitGroup
	failed := make([]bool, 16)
	for i := range failed {
		all.Go(func() {
			for range 50 {
				used, e := lru.Use(l, l[30])
				who, f := lru.Oldest(l)
				kept, gone, g := lru.Trim(l, i)
				isSame := slices.Equal(used, want) && who == last && slices.Equal(kept, l[:i]) && slices.Equal(gone, turned(l[i:]))
				failed[i] = failed[i] || !isSame || e != api.OK || f != api.OK || g != api.OK
			}
		})
	}
	all.Wait()
	if slices.Contains(failed, true) {
		t.Error("some heard otherwise")
	}
}

func FuzzAllCalls(f *testing.F) { // P6.1, P6.2, P1
	f.Add([]byte{3, 1, 2}, 2, 1)
	f.Add([]byte{5, 5}, 5, 0)
	f.Add([]byte{255, 128}, -1, -1)
	f.Add([]byte{}, math.MaxInt, math.MinInt)
	f.Fuzz(func(t *testing.T, raw []byte, who, most int) {
		var l []int
		isOrder := len(raw) <= api.MaxOrder
		for _, b := range raw {
			isOrder = isOrder && int8(b) >= 0 && !slices.Contains(l, int(int8(b)))
			l = append(l, int(int8(b)))
		}
		if !isOrder {
			checkWrong(t, l)
			return
		}
		if !lru.Right(l) {
			t.Errorf("Right(%v) is false", l)
		}
		if who < 0 {
			checkUseRefused(t, l, who)
			checkDropRefused(t, l, who)
		} else {
			checkUse(t, l, who)
			checkDrop(t, l, who)
		}
		if most < 0 {
			checkTrimRefused(t, l, most)
		} else {
			checkTrim(t, l, most)
		}
	})
}
