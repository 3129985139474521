package port_test

import (
	"math"
	"slices"
	"sync"
	"testing"

	"footway/api"
	"footway/port"
)

var (
	noDelays = []int{0, -1, -2, -30, 31, 32, 60, 255, 256, 1<<32 | 1, 1 << 62, math.MaxInt, math.MinInt}
	noStates = []int{-1, -2, -3, 4, 5, 6, 7, 255, 256, 257, 258, 259, 1<<32 | 1, 1<<32 | 3, math.MaxInt, math.MinInt}

	blocked  = api.PortState{State: 0}
	forwards = api.PortState{State: 3}
)

func of(state, left int) api.PortState {
	return api.PortState{State: state, Left: left}
}

// wayOf says independently how far a port is at each tick behind the one at which it became active.
func wayOf(delay int) []api.PortState {
	var way []api.PortState
	for _, state := range []int{1, 2} {
		for left := delay; left > 0; left-- {
			way = append(way, of(state, left))
		}
	}
	return append(way, forwards)
}

// statesOf are all that may be.
func statesOf(delay int) []api.PortState {
	return append(wayOf(delay), blocked)
}

// noStatesOf are some that may not be, by a delay that may be.
func noStatesOf(delay int) []api.PortState {
	var all []api.PortState
	lefts := []int{-1, -2, -delay, delay + 1, delay + 2, 2 * delay, 31, 255, 256 + delay, 1<<32 | delay, math.MaxInt, math.MinInt}
	for _, left := range lefts {
		if left >= 0 && left <= delay {
			continue // that one may be, if the port listens, or learns
		}
		for state := range 4 {
			all = append(all, of(state, left))
		}
	}
	for left := 1; left <= delay; left++ {
		all = append(all, of(0, left), of(3, left))
	}
	all = append(all, of(1, 0), of(2, 0))
	for _, state := range noStates {
		for _, left := range append(lefts, 0, 1, delay) {
			all = append(all, of(state, left))
		}
	}
	return all
}

func checkRole(t *testing.T, s api.PortState, delay int, active bool, want api.PortState, wantErr api.Errno) api.PortState {
	t.Helper()
	out, e := port.Role(s, delay, active)
	if out != want || e != wantErr {
		t.Errorf("Role(%v, %d, %t) = %v, %d, want %v, %d", s, delay, active, out, e, want, wantErr)
	}
	return out
}

func checkTick(t *testing.T, s api.PortState, delay int, want api.PortState, wantErr api.Errno) api.PortState {
	t.Helper()
	out, e := port.Tick(s, delay)
	if out != want || e != wantErr {
		t.Errorf("Tick(%v, %d) = %v, %d, want %v, %d", s, delay, out, e, want, wantErr)
	}
	return out
}

func checkLeft(t *testing.T, s api.PortState, delay, want int, wantErr api.Errno) {
	t.Helper()
	if left, e := port.Left(s, delay); left != want || e != wantErr {
		t.Errorf("Left(%v, %d) = %d, %d, want %d, %d", s, delay, left, e, want, wantErr)
	}
}

func checkMay(t *testing.T, s api.PortState, wantLearns, wantForwards bool) {
	t.Helper()
	if isLearning, isForwarding := port.May(s); isLearning != wantLearns || isForwarding != wantForwards {
		t.Errorf("May(%v) = %t, %t, want %t, %t", s, isLearning, isForwarding, wantLearns, wantForwards)
	}
}

// checkWrong fails, unless all calls that tell an error refuse a state, or a delay.
func checkWrong(t *testing.T, s api.PortState, delay int) {
	t.Helper()
	if port.Right(s, delay) {
		t.Errorf("Right(%v, %d) is true", s, delay)
	}
	checkRole(t, s, delay, false, api.PortState{}, api.ErrArg)
	checkRole(t, s, delay, true, api.PortState{}, api.ErrArg)
	checkTick(t, s, delay, api.PortState{}, api.ErrArg)
	checkLeft(t, s, delay, 0, api.ErrArg)
}

func TestRight(t *testing.T) { // P10.1
	for delay := 1; delay <= 30; delay++ {
		for _, s := range statesOf(delay) {
			if !port.Right(s, delay) {
				t.Errorf("Right(%v, %d) is false", s, delay)
			}
		}
	}
}

func TestWhatIsNoState(t *testing.T) { // P10.1, P10.2, R2, P1
	for delay := 1; delay <= 30; delay++ {
		for _, s := range noStatesOf(delay) {
			checkWrong(t, s, delay)
		}
	}
}

func TestWhatIsNoDelay(t *testing.T) { // P10.1, P10.2, R2, P1
	for _, delay := range noDelays {
		for _, s := range append(statesOf(30), noStatesOf(30)...) {
			checkWrong(t, s, delay)
		}
		for state := range 4 {
			checkWrong(t, of(state, delay), delay)
		}
	}
}

func TestRole(t *testing.T) { // P10.1
	for delay := 1; delay <= 30; delay++ {
		checkRole(t, blocked, delay, true, of(1, delay), api.OK)
		checkRole(t, blocked, delay, false, blocked, api.OK)
		for _, s := range wayOf(delay) {
			checkRole(t, s, delay, true, s, api.OK)
			checkRole(t, s, delay, false, blocked, api.OK)
		}
	}
}

func TestTick(t *testing.T) { // P10.1
	for delay := 1; delay <= 30; delay++ {
		checkTick(t, blocked, delay, blocked, api.OK)
		checkTick(t, forwards, delay, forwards, api.OK)
		way := wayOf(delay)
		for at, s := range way[1:] {
			checkTick(t, way[at], delay, s, api.OK)
		}
	}
}

func TestTickAtTheEdges(t *testing.T) { // P10.1
	checkTick(t, of(1, 30), 30, of(1, 29), api.OK)
	checkTick(t, of(1, 2), 30, of(1, 1), api.OK)
	checkTick(t, of(1, 1), 30, of(2, 30), api.OK)
	checkTick(t, of(2, 30), 30, of(2, 29), api.OK)
	checkTick(t, of(2, 2), 30, of(2, 1), api.OK)
	checkTick(t, of(2, 1), 30, of(3, 0), api.OK)
	checkTick(t, of(1, 1), 1, of(2, 1), api.OK)
	checkTick(t, of(2, 1), 1, of(3, 0), api.OK)
}

func TestMay(t *testing.T) { // P10.2
	for _, left := range []int{0, 1, 2, 30, 31, -1, math.MaxInt, math.MinInt} { // it is asked of the state alone
		checkMay(t, of(0, left), false, false)
		checkMay(t, of(1, left), false, false)
		checkMay(t, of(2, left), true, false)
		checkMay(t, of(3, left), true, true)
		for _, state := range noStates {
			checkMay(t, of(state, left), false, false)
		}
	}
}

func TestLeft(t *testing.T) { // P10.2
	for delay := 1; delay <= 30; delay++ {
		checkLeft(t, blocked, delay, 2*delay, api.OK)
		way := wayOf(delay)
		for at, s := range way {
			checkLeft(t, s, delay, len(way)-1-at, api.OK)
		}
	}
}

func TestLeftAtTheEdges(t *testing.T) { // P10.2
	checkLeft(t, blocked, 1, 2, api.OK)
	checkLeft(t, of(1, 1), 1, 2, api.OK)
	checkLeft(t, of(2, 1), 1, 1, api.OK)
	checkLeft(t, forwards, 1, 0, api.OK)
	checkLeft(t, blocked, 30, 60, api.OK)
	checkLeft(t, of(1, 30), 30, 60, api.OK)
	checkLeft(t, of(1, 1), 30, 31, api.OK)
	checkLeft(t, of(2, 30), 30, 30, api.OK)
	checkLeft(t, of(2, 1), 30, 1, api.OK)
	checkLeft(t, forwards, 30, 0, api.OK)
}

func TestExample(t *testing.T) { // the chapter's table
	s := checkRole(t, of(api.PBlocked, 0), 2, true, of(api.PListens, 2), api.OK)
	s = checkTick(t, s, 2, of(api.PListens, 1), api.OK)
	s = checkTick(t, s, 2, of(api.PLearns, 2), api.OK)
	s = checkTick(t, s, 2, of(api.PLearns, 1), api.OK)
	checkTick(t, s, 2, of(api.PForwards, 0), api.OK)
}

// active makes a port active that is; tick has it go on by one tick. Both fail where they are refused.
func active(t *testing.T, s api.PortState, delay int) api.PortState {
	t.Helper()
	out, e := port.Role(s, delay, true)
	if e != api.OK {
		t.Fatalf("Role(%v, %d, true) = %d", s, delay, e)
	}
	return out
}

func tick(t *testing.T, s api.PortState, delay int) api.PortState {
	t.Helper()
	out, e := port.Tick(s, delay)
	if e != api.OK {
		t.Fatalf("Tick(%v, %d) = %d", s, delay, e)
	}
	return out
}

func TestWhenItForwards(t *testing.T) { // P10.3
	for delay := 1; delay <= 30; delay++ {
		s := active(t, blocked, delay)
		for ticks := range 2*delay + 5 {
			checkMay(t, s, ticks >= delay, ticks >= 2*delay)
			checkLeft(t, s, delay, max(2*delay-ticks, 0), api.OK)
			s = active(t, tick(t, s, delay), delay) // whoever is told anew that it is active goes on as it did
		}
	}
}

func TestWhatIsNotActiveForwardsNothingAtOnce(t *testing.T) { // P10.3
	for delay := 1; delay <= 30; delay++ {
		s := active(t, blocked, delay)
		for range 2*delay + 2 {
			off := checkRole(t, s, delay, false, blocked, api.OK)
			checkMay(t, off, false, false)
			for range 2*delay + 2 {
				off = checkTick(t, off, delay, blocked, api.OK)
			}
			checkRole(t, off, delay, true, of(1, delay), api.OK)
			s = tick(t, s, delay)
		}
	}
}

// chance tells numbers that are always the same ones.
type chance uint64

func (c *chance) below(n int) int {
	*c = *c*6364136223846793005 + 1442695040888963407
	return int(*c>>33) % n
}

func TestManyCallsOneAfterTheOther(t *testing.T) { // P10.2, P10.3
	c := chance(1)
	for delay := 1; delay <= 30; delay++ {
		s, since, forwarded := blocked, -1, 0 // since: how many ticks it is active, and -1, if it is not
		for range 4000 {
			switch kind := c.below(6 * delay); {
			case kind == 0:
				s, since = checkRole(t, s, delay, false, blocked, api.OK), -1
			case kind < 1+delay:
				s, since = active(t, s, delay), max(since, 0)
			default:
				s = tick(t, s, delay)
				if since >= 0 {
					since++
				}
			}
			checkMay(t, s, since >= delay, since >= 2*delay)
			checkLeft(t, s, delay, max(2*delay-max(since, 0), 0), api.OK)
			if since >= 2*delay {
				forwarded++
			}
			if !port.Right(s, delay) {
				t.Fatalf("Right(%v, %d) is false", s, delay)
			}
		}
		if forwarded == 0 {
			t.Errorf("delay %d: it forwarded at no time", delay)
		}
	}
}

func TestManyAtOnceHearTheSame(t *testing.T) { // R1
	var all sync.WaitGroup
	failed := make([]bool, 16)
	for i := range failed {
		all.Go(func() {
			delay := i + 1
			for range 50 {
				s, e := port.Role(blocked, delay, true)
				for _, want := range wayOf(delay) {
					failed[i] = failed[i] || s != want || e != api.OK
					s, e = port.Tick(s, delay)
				}
			}
		})
	}
	all.Wait()
	if slices.Contains(failed, true) {
		t.Error("some heard otherwise")
	}
}

func FuzzAllCalls(f *testing.F) { // P10.1, P10.2, P1
	for state := -1; state <= 4; state++ {
		f.Add(state, 0, 1)
		f.Add(state, 1, 30)
		f.Add(state, 30, 30)
		f.Add(state, 31, 31)
	}
	f.Add(math.MinInt, math.MaxInt, math.MinInt)
	f.Fuzz(func(t *testing.T, state, left, delay int) {
		s := of(state, left)
		checkMay(t, s, state == 2 || state == 3, state == 3)
		if delay < 1 || delay > 30 || !slices.Contains(statesOf(delay), s) {
			checkWrong(t, s, delay)
			return
		}
		if !port.Right(s, delay) {
			t.Errorf("Right(%v, %d) is false", s, delay)
		}
		way := wayOf(delay)
		at := slices.Index(way, s)
		checkRole(t, s, delay, false, blocked, api.OK)
		checkRole(t, s, delay, true, way[max(at, 0)], api.OK)
		checkLeft(t, s, delay, len(way)-1-max(at, 0), api.OK)
		if at < 0 {
			checkTick(t, s, delay, blocked, api.OK)
		} else {
			checkTick(t, s, delay, way[min(at+1, len(way)-1)], api.OK)
		}
	})
}
