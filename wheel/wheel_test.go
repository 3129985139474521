package wheel_test

import (
	"maps"
	"math"
	"slices"
	"sync"
	"testing"

	"footway/api"
	"footway/wheel"
)

var (
	// times are the least and greatest, and those around which one of their digits changes, of whatever size digits are.
	times  = timesAtEdges()
	noTime = []int{-1, -2, -api.MaxTime, api.MaxTime + 1, api.MaxTime + 2, api.MaxTime << 1, 1<<62 | 3, math.MaxInt, math.MinInt}
	ids    = []int{0, 1, 2, 7, 63, 64, 65, api.MaxTimers + 1, math.MaxInt32, math.MaxUint32, api.MaxTime + 1, math.MaxInt - 1, math.MaxInt}
	noIDs  = []int{-1, -2, -64, math.MinInt + 1, math.MinInt}
)

func timesAtEdges() []int {
	all := []int{0}
	for bit := range 40 {
		all = append(all, 1<<bit-1, 1<<bit, 1<<bit+1, api.MaxTime-1<<bit)
	}
	all = append(all, api.MaxTime-1, api.MaxTime)
	slices.Sort(all)
	return slices.Compact(all)
}

func of(id, at int) api.Timer {
	return api.Timer{ID: id, At: at}
}

// timers tells timers of IDs and times in turn, as they stand.
func timers(all ...int) []api.Timer {
	l := []api.Timer{}
	for pair := range slices.Chunk(all, 2) {
		l = append(l, of(pair[0], pair[1]))
	}
	return l
}

// inOrder says independently in which order timers are: each one's place is how many are ahead of it.
func inOrder(l []api.Timer) []api.Timer {
	out := make([]api.Timer, len(l))
	for _, t := range l {
		place := 0
		for _, o := range l {
			if o.At < t.At || o.At == t.At && o.ID < t.ID {
				place++
			}
		}
		out[place] = t
	}
	return out
}

// model is what is armed, by ID.
type model map[int]int

func modelOf(l []api.Timer) model {
	m := model{}
	for _, t := range l {
		m[t.ID] = t.At
	}
	return m
}

func (m model) list() []api.Timer {
	var l []api.Timer
	for id, at := range m {
		l = append(l, of(id, at))
	}
	return inOrder(l)
}

// parted tells those that are left, and those that are due.
func (m model) parted(now int) (model, model) {
	left, due := maps.Clone(m), maps.Clone(m)
	maps.DeleteFunc(left, func(_, at int) bool { return at <= now })
	maps.DeleteFunc(due, func(_, at int) bool { return at > now })
	return left, due
}

// chance tells numbers that are always the same ones.
type chance uint64

func (c *chance) below(n int) int {
	*c = *c*6364136223846793005 + 1442695040888963407
	return int(*c>>33) % n
}

func (c *chance) of(l []int) int {
	return l[c.below(len(l))]
}

// some tells that many timers of times that are often the same, and of IDs that are not in the order of times.
func (c *chance) some(count int) []api.Timer {
	m := model{}
	for len(m) < count {
		at := c.of(times)
		if c.below(2) == 0 {
			at = c.below(6)
		}
		m[c.below(3*api.MaxTimers)] = at
	}
	return m.list()
}

func arm(t *testing.T, l []api.Timer, one api.Timer) []api.Timer {
	t.Helper()
	before := slices.Clone(l)
	out, e := wheel.Arm(l, one)
	if e != api.OK {
		t.Errorf("Arm(%v, %v): %d", l, one, e)
	}
	if !slices.Equal(l, before) {
		t.Errorf("Arm changed %v to %v", before, l)
	}
	return out
}

func advance(t *testing.T, l []api.Timer, now int) (left, due []api.Timer) {
	t.Helper()
	before := slices.Clone(l)
	left, due, e := wheel.Advance(l, now)
	if e != api.OK {
		t.Errorf("Advance(%v, %d): %d", l, now, e)
	}
	if !slices.Equal(l, before) {
		t.Errorf("Advance changed %v to %v", before, l)
	}
	return left, due
}

func checkArm(t *testing.T, l []api.Timer, one api.Timer) {
	t.Helper()
	m := modelOf(l)
	m[one.ID] = one.At
	if out := arm(t, l, one); !slices.Equal(out, m.list()) {
		t.Errorf("Arm(%v, %v) = %v, want %v", l, one, out, m.list())
	}
}

func checkCancel(t *testing.T, l []api.Timer, id int) {
	t.Helper()
	m, before := modelOf(l), slices.Clone(l)
	_, isThere := m[id]
	out, e := wheel.Cancel(l, id)
	if !isThere && (e != api.ErrNone || len(out) != 0) {
		t.Errorf("Cancel(%v, %d) = %v, %d, want ErrNone", l, id, out, e)
	}
	delete(m, id)
	if isThere && (e != api.OK || !slices.Equal(out, m.list())) {
		t.Errorf("Cancel(%v, %d) = %v, %d, want %v", l, id, out, e, m.list())
	}
	if !slices.Equal(l, before) {
		t.Errorf("Cancel changed %v to %v", before, l)
	}
}

func checkAdvance(t *testing.T, l []api.Timer, now int) {
	t.Helper()
	wantLeft, wantDue := modelOf(l).parted(now)
	left, due := advance(t, l, now)
	if !slices.Equal(left, wantLeft.list()) || !slices.Equal(due, wantDue.list()) {
		t.Errorf("Advance(%v, %d) = %v, %v, want %v, %v", l, now, left, due, wantLeft.list(), wantDue.list())
	}
}

func checkNext(t *testing.T, l []api.Timer, want int, wantErr api.Errno) {
	t.Helper()
	if at, e := wheel.Next(l); at != want || e != wantErr {
		t.Errorf("Next(%v) = %d, %d, want %d, %d", l, at, e, want, wantErr)
	}
}

// checkArmRefused fails, unless Arm tells that error, and nothing beside it.
func checkArmRefused(t *testing.T, l []api.Timer, one api.Timer, want api.Errno) {
	t.Helper()
	if out, e := wheel.Arm(l, one); len(out) != 0 || e != want {
		t.Errorf("Arm(%v, %v) = %v, %d, want %d", l, one, out, e, want)
	}
}

func checkCancelRefused(t *testing.T, l []api.Timer, id int, want api.Errno) {
	t.Helper()
	if out, e := wheel.Cancel(l, id); len(out) != 0 || e != want {
		t.Errorf("Cancel(%v, %d) = %v, %d, want %d", l, id, out, e, want)
	}
}

func checkAdvanceRefused(t *testing.T, l []api.Timer, now int) {
	t.Helper()
	if left, due, e := wheel.Advance(l, now); len(left) != 0 || len(due) != 0 || e != api.ErrArg {
		t.Errorf("Advance(%v, %d) = %v, %v, %d", l, now, left, due, e)
	}
}

// checkWrong fails, unless all calls refuse a list, whatever else they are handed.
func checkWrong(t *testing.T, l []api.Timer) {
	t.Helper()
	if wheel.Right(l) {
		t.Errorf("Right(%v) is true", l)
	}
	for _, n := range []int{0, 7, api.MaxTime, math.MaxInt, -1, api.MaxTime + 1} {
		checkArmRefused(t, l, of(n, 3), api.ErrArg)
		checkArmRefused(t, l, of(3, n), api.ErrArg)
		checkCancelRefused(t, l, n, api.ErrArg)
		checkAdvanceRefused(t, l, n)
	}
	if len(l) > 0 {
		checkArmRefused(t, l, l[0], api.ErrArg)
		checkCancelRefused(t, l, l[0].ID, api.ErrArg)
		checkAdvanceRefused(t, l, l[0].At)
	}
	checkNext(t, l, 0, api.ErrArg)
}

// many tells that many timers, the greatest IDs first.
func many(count int) []api.Timer {
	var l []api.Timer
	for i := range count {
		l = append(l, of(1000-i, 10*i))
	}
	return l
}

func TestExamples(t *testing.T) { // P5.1, P5.2
	l := timers(7, 3, 2, 5)
	if left, due := advance(t, l, 4); !slices.Equal(left, timers(2, 5)) || !slices.Equal(due, timers(7, 3)) {
		t.Errorf("Advance to 4: %v, %v", left, due)
	}
	if out := arm(t, l, of(7, 9)); !slices.Equal(out, timers(2, 5, 7, 9)) {
		t.Errorf("Arm 7 at 9: %v", out)
	}
}

func TestRightTimers(t *testing.T) { // P5.1, R3
	for _, l := range [][]api.Timer{
		nil,
		{},
		timers(0, 0),
		timers(math.MaxInt, api.MaxTime),
		timers(1, 5, 2, 5, 3, 5),
		timers(9, 1, 8, 2, 7, 3),
		timers(0, 0, 1, 0, 2, api.MaxTime, math.MaxInt, api.MaxTime),
		many(2),
		many(api.MaxTimers - 1),
		many(api.MaxTimers),
	} {
		if !wheel.Right(l) {
			t.Errorf("Right(%v) is false", l)
		}
	}
	for _, at := range times {
		for _, id := range ids {
			if !wheel.Right(timers(id, at)) {
				t.Errorf("Right of %d at %d is false", id, at)
			}
		}
	}
}

func TestMoreThanSoManyAreNoTimers(t *testing.T) { // P5.1
	for _, count := range []int{api.MaxTimers + 1, api.MaxTimers + 2, 2 * api.MaxTimers, 1000} {
		checkWrong(t, many(count))
	}
}

func TestWrongTimersAtAnyPlace(t *testing.T) { // P5.1, P1, R2
	for _, count := range []int{1, 2, 5, api.MaxTimers} {
		for place := range count {
			for _, id := range noIDs {
				l := many(count)
				l[place].ID = id
				checkWrong(t, l)
			}
			for _, at := range noTime {
				l := many(count)
				l[place].At = at
				checkWrong(t, l)
			}
		}
	}
	for _, at := range noTime {
		checkWrong(t, timers(1, at))
	}
	checkWrong(t, timers(1, api.MaxTime, 2, api.MaxTime+1))
	checkWrong(t, timers(1, -1, 2, 0))
	checkWrong(t, timers(-1, 0, 2, 0))
}

func TestTwoOfOneIDAreNoTimers(t *testing.T) { // P5.1
	for i := range api.MaxTimers {
		for k := range i {
			l := many(api.MaxTimers)
			l[i].ID = l[k].ID
			checkWrong(t, l)
		}
	}
	checkWrong(t, timers(3, 5, 3, 5))
	checkWrong(t, timers(3, 5, 3, 6))
	checkWrong(t, timers(0, 0, 0, 0))
}

func TestTimersAreInOrder(t *testing.T) { // P5.1
	checkWrong(t, timers(2, 5, 7, 3))
	checkWrong(t, timers(2, 5, 1, 5))
	checkWrong(t, timers(1, 5, 2, 4))
	checkWrong(t, timers(1, api.MaxTime, 2, 0))
	for place := range api.MaxTimers - 1 {
		l := many(api.MaxTimers)
		l[place], l[place+1] = l[place+1], l[place]
		checkWrong(t, l)
		l = many(api.MaxTimers)
		l[place+1].At = l[place].At
		checkWrong(t, l)
		l[place].ID, l[place+1].ID = l[place+1].ID, l[place].ID
		if !wheel.Right(l) {
			t.Errorf("Right(%v) is false", l)
		}
	}
}

func TestWrongNumbersAreRefused(t *testing.T) { // P5.1, P1, R2
	for _, l := range [][]api.Timer{nil, {}, timers(7, 3, 2, 5), many(api.MaxTimers)} {
		for _, id := range noIDs {
			checkArmRefused(t, l, of(id, 0), api.ErrArg)
			checkArmRefused(t, l, of(id, api.MaxTime), api.ErrArg)
			checkArmRefused(t, l, of(id, -1), api.ErrArg)
			checkCancelRefused(t, l, id, api.ErrArg)
		}
		for _, at := range noTime {
			checkArmRefused(t, l, of(0, at), api.ErrArg)
			checkArmRefused(t, l, of(7, at), api.ErrArg)
			checkArmRefused(t, l, of(1000, at), api.ErrArg)
			checkArmRefused(t, l, of(math.MaxInt, at), api.ErrArg)
			checkAdvanceRefused(t, l, at)
		}
	}
}

func TestArmOfNone(t *testing.T) { // P5.1
	for _, l := range [][]api.Timer{nil, {}} {
		for _, at := range times {
			for _, id := range ids {
				checkArm(t, l, of(id, at))
			}
		}
	}
}

func TestArmAmongThoseOfTheSameTime(t *testing.T) { // P5.1
	l := timers(8, 4, 2, 5, 4, 5, 6, 5, 1, 6)
	for id := range 10 {
		for at := range 8 {
			checkArm(t, l, of(id, at))
		}
	}
	for _, at := range times {
		same := timers(2, at, 4, at, math.MaxInt, at)
		for _, id := range []int{0, 2, 3, 4, 5, math.MaxInt - 1, math.MaxInt} {
			checkArm(t, same, of(id, at))
			checkArm(t, same, of(id, 0))
			checkArm(t, same, of(id, api.MaxTime))
		}
	}
}

func TestArmOfAFullOne(t *testing.T) { // P5.1
	l := many(api.MaxTimers)
	for _, at := range []int{0, 5, 10, 320, 10 * api.MaxTimers, api.MaxTime} {
		for _, id := range []int{0, 1000 - api.MaxTimers, 1001, math.MaxInt} {
			checkArmRefused(t, l, of(id, at), api.ErrFull)
			checkArm(t, l[:api.MaxTimers-1], of(id, at))
			checkArm(t, l[1:], of(id, at))
		}
		for _, one := range l {
			checkArm(t, l, of(one.ID, at))
		}
	}
}

func TestCancel(t *testing.T) { // P5.2
	for _, l := range [][]api.Timer{nil, {}, timers(0, 0), timers(7, 3, 2, 5), timers(1, 5, 2, 5, 3, 5, 0, 6), many(api.MaxTimers)} {
		for _, one := range l {
			checkCancel(t, l, one.ID)
		}
		for _, id := range ids {
			checkCancel(t, l, id)
		}
		for at := range 12 {
			checkCancel(t, l, at)
		}
	}
}

func TestAdvanceAroundATime(t *testing.T) { // P5.2
	for _, at := range times {
		for _, now := range []int{0, at - 1, at, at + 1, api.MaxTime} {
			if 0 <= now && now <= api.MaxTime {
				checkAdvance(t, timers(1, at), now)
				checkAdvance(t, timers(1, at, 2, at, 3, at), now)
			}
		}
	}
}

func TestAdvanceOfTimesWithAllDigits(t *testing.T) { // P5.2
	for first := 0; first+api.MaxTimers <= len(times); first += api.MaxTimers / 4 {
		var l []api.Timer
		for i, at := range times[first : first+api.MaxTimers] {
			l = append(l, of(1000-i, at))
		}
		for _, now := range times {
			checkAdvance(t, l, now)
		}
	}
}

func TestAdvanceOfNone(t *testing.T) { // P5.2, R3
	for _, l := range [][]api.Timer{nil, {}, make([]api.Timer, 0, 4)} {
		for _, now := range times {
			checkAdvance(t, l, now)
		}
	}
}

func TestNext(t *testing.T) { // P5.2
	for _, l := range [][]api.Timer{nil, {}, make([]api.Timer, 0, 4)} {
		checkNext(t, l, 0, api.ErrNone)
	}
	checkNext(t, timers(7, 3, 2, 5), 3, api.OK)
	checkNext(t, timers(0, 0, 1, 1), 0, api.OK)
	checkNext(t, timers(1, 9, 2, 9), 9, api.OK)
	for _, at := range times {
		checkNext(t, timers(5, at), at, api.OK)
		checkNext(t, timers(5, at, 9, api.MaxTime), at, api.OK)
	}
}

func TestSomeOfManySizes(t *testing.T) { // P5.1, P5.2
	c := chance(1)
	for count := range api.MaxTimers + 1 {
		for range 12 {
			l := c.some(count)
			if !wheel.Right(l) {
				t.Errorf("Right(%v) is false", l)
			}
			for range 6 {
				id, at := c.below(3*api.MaxTimers), c.of(times)
				if _, isThere := modelOf(l)[id]; isThere || count < api.MaxTimers {
					checkArm(t, l, of(id, at))
				} else {
					checkArmRefused(t, l, of(id, at), api.ErrFull)
				}
				checkCancel(t, l, id)
				checkAdvance(t, l, at)
				checkAdvance(t, l, c.below(7))
			}
		}
	}
}

func TestOneStepIsAsMany(t *testing.T) { // P5.3
	c := chance(2)
	for round := range 300 {
		l := c.some(round % (api.MaxTimers + 1))
		steps := []int{c.of(times), c.of(times), c.below(7), c.below(7), c.of(times)}
		slices.Sort(steps)
		left, due := l, []api.Timer{}
		for _, now := range steps {
			var more []api.Timer
			left, more = advance(t, left, now)
			due = append(due, more...)
		}
		wantLeft, wantDue := advance(t, l, steps[len(steps)-1])
		if !slices.Equal(left, wantLeft) || !slices.Equal(due, wantDue) {
			t.Errorf("%v by %v: %v, %v, want %v, %v", l, steps, left, due, wantLeft, wantDue)
		}
	}
}

func TestEachIsDueOnceInOrder(t *testing.T) { // P5.3
	c := chance(3)
	for count := range api.MaxTimers + 1 {
		l := c.some(count)
		left, due := l, []api.Timer{}
		for len(left) > 0 {
			at, _ := wheel.Next(left)
			checkNext(t, left, left[0].At, api.OK)
			var more []api.Timer
			if left, more = advance(t, left, at); len(more) == 0 {
				t.Fatalf("none is due at %d", at)
			}
			due = append(due, more...)
		}
		if !slices.Equal(due, l) {
			t.Errorf("%v: due were %v", l, due)
		}
		if left, due = advance(t, l, api.MaxTime); len(left) != 0 || !slices.Equal(due, l) {
			t.Errorf("%v at last: %v, %v", l, left, due)
		}
	}
}

func TestWhoIsArmedAnewIsDueThenAlone(t *testing.T) { // P5.3
	for _, first := range times {
		for _, last := range times {
			l := arm(t, arm(t, arm(t, nil, of(1, first)), of(2, 77)), of(1, last))
			if !slices.Equal(l, inOrder(timers(1, last, 2, 77))) {
				t.Errorf("1 at %d, and anew at %d: %v", first, last, l)
			}
			if last > 0 {
				if left, due := advance(t, l, last-1); !slices.Contains(left, of(1, last)) || len(left)+len(due) != 2 {
					t.Errorf("1 at %d, and anew at %d: ahead of that %v, %v", first, last, left, due)
				}
			}
			if left, due := advance(t, l, last); !slices.Contains(due, of(1, last)) || len(left)+len(due) != 2 {
				t.Errorf("1 at %d, and anew at %d: by then %v, %v", first, last, left, due)
			}
		}
	}
}

func TestInWhicheverOrderTheyAreArmed(t *testing.T) { // P5.3
	c := chance(4)
	for count := range api.MaxTimers + 1 {
		want := c.some(count)
		var l []api.Timer
		for left := slices.Clone(want); len(left) > 0; {
			i := c.below(len(left))
			l = arm(t, l, left[i])
			left = slices.Delete(left, i, i+1)
		}
		if !slices.Equal(l, want) {
			t.Errorf("armed are %v, want %v", l, want)
		}
	}
}

func TestAnswersAreNewMemory(t *testing.T) { // R4
	l := append(make([]api.Timer, 0, 9), timers(7, 3, 2, 5, 3, 5, 4, 8)...)
	room := l[:cap(l)]
	before := slices.Clone(room)
	spoil := func(name string, out []api.Timer, others ...[]api.Timer) {
		t.Helper()
		want := slices.Concat(others...)
		for i := range out[:cap(out)] {
			out[:cap(out)][i] = of(99, 99)
		}
		if !slices.Equal(room, before) {
			t.Errorf("%s shares its argument's memory: %v", name, room)
		}
		if !slices.Equal(slices.Concat(others...), want) {
			t.Errorf("%s shares memory between its answers", name)
		}
	}
	spoil("Arm", arm(t, l, of(5, 4)))
	spoil("Arm", arm(t, l, of(1, 0)))
	spoil("Arm", arm(t, l, of(4, 9)))
	out, _ := wheel.Cancel(l, 4)
	spoil("Cancel", out)
	out, _ = wheel.Cancel(l, 7)
	spoil("Cancel", out)
	for _, now := range []int{0, 2, 3, 4, 5, 8, 9, api.MaxTime} {
		left, due := advance(t, l, now)
		spoil("Advance", left, due)
		left, due = advance(t, l, now)
		spoil("Advance", due, left)
	}
}

func TestManyAtOnceHearTheSame(t *testing.T) { // R1
	c := chance(5)
	l := c.some(api.MaxTimers)
	now, one := l[30].At, of(l[9].ID, l[50].At)
	wantLeft, wantDue := modelOf(l).parted(now)
	wantArmed := modelOf(l)
	wantArmed[one.ID] = one.At
	left, due, armed := wantLeft.list(), wantDue.list(), wantArmed.list()
	var all sync.WaitGroup
	failed := make([]bool, 16)
	for i := range failed {
		all.Go(func() {
			for range 50 {
				a, b, e := wheel.Advance(l, now)
				c, f := wheel.Arm(l, one)
				failed[i] = failed[i] || e != api.OK || f != api.OK || !slices.Equal(a, left) || !slices.Equal(b, due) || !slices.Equal(c, armed)
			}
		})
	}
	all.Wait()
	if slices.Contains(failed, true) {
		t.Error("some heard otherwise")
	}
}

// wantRight says independently whether some are timers.
func wantRight(l []api.Timer) bool {
	wrong := slices.ContainsFunc(l, func(t api.Timer) bool { return t.ID < 0 || t.At < 0 || t.At > 1<<40 })
	return !wrong && len(l) <= 64 && len(modelOf(l)) == len(l) && slices.Equal(inOrder(l), l)
}

func FuzzThreeTimers(f *testing.F) { // P5.1, P5.2, P5.3, P1
	f.Add(7, 3, 2, 5, 4, 5, 7, 9)
	f.Add(-1, 3, 2, api.MaxTime+1, math.MaxInt, math.MinInt, 0, -1)
	f.Add(1, api.MaxTime, 2, api.MaxTime, 3, api.MaxTime, 2, api.MaxTime)
	f.Fuzz(func(t *testing.T, id, at, id2, at2, id3, at3, id4, at4 int) {
		l, one := timers(id, at, id2, at2, id3, at3), of(id4, at4)
		if !wantRight(l) {
			checkWrong(t, l)
			return
		}
		if !wheel.Right(l) {
			t.Errorf("Right(%v) is false", l)
		}
		checkNext(t, l, at, api.OK)
		if !wantRight([]api.Timer{one}) {
			checkArmRefused(t, l, one, api.ErrArg)
		} else {
			checkArm(t, l, one)
		}
		if id4 < 0 {
			checkCancelRefused(t, l, id4, api.ErrArg)
		} else {
			checkCancel(t, l, id4)
		}
		if at4 < 0 || at4 > 1<<40 {
			checkAdvanceRefused(t, l, at4)
		} else {
			checkAdvance(t, l, at4)
		}
	})
}
