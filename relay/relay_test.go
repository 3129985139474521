package relay_test

import (
	"math"
	"slices"
	"sync"
	"testing"

	"footway/api"
	"footway/relay"
)

const none = -1 // what stands for no port that is known

var (
	noStates  = []int{-1, -2, -3, 4, 5, 6, 7, 255, 256, 257, 259, 1<<32 | 1, 1<<32 | 3, math.MaxInt, math.MinInt}
	noClasses = []int{-1, -2, 3, 4, 255, 256, 258, 1 << 32, 1<<32 | 1, math.MaxInt, math.MinInt}
	noOuts    = []int{-2, -3, -8, 8, 9, 255, 256, 1 << 32, 1<<32 | 1, math.MaxInt, math.MinInt}
	lefts     = []int{0, 1, 2, 30, 31, -1, math.MaxInt, math.MinInt}
)

// of tells ports by their states, a digit each.
func of(states string) []api.PortState {
	var l []api.PortState
	for _, digit := range []byte(states) {
		s := api.PortState{State: int(digit - '0')}
		if s.State == 1 || s.State == 2 {
			s.Left = 1
		}
		l = append(l, s)
	}
	return l
}

// lists tells all lists of so many ports, each in one of those states.
func lists(ports int, states string) []string {
	all := []string{""}
	for range ports {
		var more []string
		for _, l := range all {
			for _, state := range states {
				more = append(more, l+string(state))
			}
		}
		all = more
	}
	return all
}

func checkKept(t *testing.T, name string, l, before []api.PortState) {
	t.Helper()
	if !slices.Equal(l, before) {
		t.Errorf("%s changed %v to %v", name, before, l)
	}
}

func checkFlood(t *testing.T, l []api.PortState, in int, wantErr api.Errno, want ...int) []int {
	t.Helper()
	before := slices.Clone(l)
	ports, e := relay.Flood(l, in)
	if !slices.Equal(ports, want) || e != wantErr {
		t.Errorf("Flood(%v, %d) = %v, %d, want %v, %d", l, in, ports, e, want, wantErr)
	}
	checkKept(t, "Flood", l, before)
	return ports
}

func checkEgress(t *testing.T, l []api.PortState, in, class, out int, wantErr api.Errno, want ...int) []int {
	t.Helper()
	before := slices.Clone(l)
	ports, e := relay.Egress(l, in, class, out)
	if !slices.Equal(ports, want) || e != wantErr {
		t.Errorf("Egress(%v, %d, %d, %d) = %v, %d, want %v, %d", l, in, class, out, ports, e, want, wantErr)
	}
	checkKept(t, "Egress", l, before)
	return ports
}

func checkTakes(t *testing.T, l []api.PortState, in int, wantLearns, wantForwards bool, wantErr api.Errno) {
	t.Helper()
	before := slices.Clone(l)
	isLearning, isForwarding, e := relay.Takes(l, in)
	if isLearning != wantLearns || isForwarding != wantForwards || e != wantErr {
		t.Errorf("Takes(%v, %d) = %t, %t, %d, want %t, %t, %d", l, in, isLearning, isForwarding, e, wantLearns, wantForwards, wantErr)
	}
	checkKept(t, "Takes", l, before)
}

// checkRefused fails, unless all calls tell an error, whatever else may be or not.
func checkRefused(t *testing.T, l []api.PortState, in int, want api.Errno) {
	t.Helper()
	checkFlood(t, l, in, want)
	checkTakes(t, l, in, false, false, want)
	for _, class := range []int{0, 1, 2, 3, -1} {
		for _, out := range []int{none, 0, 1, 7, 8, -2} {
			checkEgress(t, l, in, class, out, want)
		}
	}
}

// wantFlood and wantEgress say independently where a frame goes, as the chapter's words have it.
func wantFlood(l []api.PortState, in int) []int {
	var ports []int
	for at := range l {
		if at != in && l[at].State == 3 && l[in].State == 3 {
			ports = append(ports, at)
		}
	}
	return ports
}

func wantEgress(l []api.PortState, in, class, out int) []int {
	if l[in].State != 3 || class == 2 {
		return nil
	}
	if class == 0 && out != none {
		if out < len(l) && l[out].State == 3 && out != in {
			return []int{out}
		}
		return nil
	}
	return wantFlood(l, in)
}

// checkAll fails, unless all calls tell what the document asks of ports, by whichever a frame comes in, whatever it is.
func checkAll(t *testing.T, l []api.PortState) {
	t.Helper()
	for in, s := range l {
		checkFlood(t, l, in, api.OK, wantFlood(l, in)...)
		checkTakes(t, l, in, s.State >= 2, s.State == 3, api.OK)
		for class := range 3 {
			for out := none; out < 8; out++ {
				checkEgress(t, l, in, class, out, api.OK, wantEgress(l, in, class, out)...)
			}
		}
	}
}

func TestExamples(t *testing.T) { // the chapter's table
	checkEgress(t, of("333"), 1, api.CGroup, api.NoPort, api.OK, 0, 2)
	checkEgress(t, of("333"), 1, api.CUnicast, 1, api.OK)
}

func TestFlood(t *testing.T) { // P13.1
	checkFlood(t, of("3"), 0, api.OK)
	checkFlood(t, of("33"), 0, api.OK, 1)
	checkFlood(t, of("33"), 1, api.OK, 0)
	checkFlood(t, of("33333333"), 0, api.OK, 1, 2, 3, 4, 5, 6, 7)
	checkFlood(t, of("33333333"), 3, api.OK, 0, 1, 2, 4, 5, 6, 7)
	checkFlood(t, of("33333333"), 7, api.OK, 0, 1, 2, 3, 4, 5, 6)
	checkFlood(t, of("30123"), 0, api.OK, 4)
	checkFlood(t, of("30123"), 4, api.OK, 0)
	for in := 1; in <= 3; in++ { // those do not forward, so nothing that comes by them goes on
		checkFlood(t, of("30123"), in, api.OK)
	}
}

func TestTakes(t *testing.T) { // P13.2
	l := of("01230123")
	for in := range l {
		checkTakes(t, l, in, in%4 >= 2, in%4 == 3, api.OK)
	}
}

func TestEgressOfAGroup(t *testing.T) { // P13.2
	for out := none; out < 8; out++ { // it goes to all, wherever somebody was seen
		checkEgress(t, of("33333333"), 7, 1, out, api.OK, 0, 1, 2, 3, 4, 5, 6)
		checkEgress(t, of("3033"), 2, 1, out, api.OK, 0, 3)
		checkEgress(t, of("3033"), 1, 1, out, api.OK)
		checkEgress(t, of("3"), 0, 1, out, api.OK)
	}
}

func TestEgressOfAUnicast(t *testing.T) { // P13.2
	l := of("3033123")
	checkEgress(t, l, 2, 0, none, api.OK, 0, 3, 6)
	for out, want := range [][]int{{0}, nil, nil, {3}, nil, nil, {6}, nil} { // 1, 4, 5 do not forward, it came by 2, and there is no 7
		checkEgress(t, l, 2, 0, out, api.OK, want...)
	}
	for _, in := range []int{1, 4, 5} {
		for out := none; out < 8; out++ {
			checkEgress(t, l, in, 0, out, api.OK)
		}
	}
}

func TestEgressByAPortThatIsNotThere(t *testing.T) { // P13.2
	for ports := 1; ports <= 8; ports++ {
		l := of("33333333"[:ports])
		for out := ports; out < 8; out++ {
			checkEgress(t, l, 0, 0, out, api.OK)
		}
	}
}

func TestEgressOfTheReserved(t *testing.T) { // P13.2
	for _, states := range []string{"3", "33", "3213", "33333333"} {
		l := of(states)
		for in := range l {
			for out := none; out < 8; out++ {
				checkEgress(t, l, in, 2, out, api.OK)
			}
		}
	}
}

func TestAllStates(t *testing.T) { // P13.1, P13.2
	for ports := 1; ports <= 5; ports++ {
		for _, states := range lists(ports, "0123") {
			checkAll(t, of(states))
		}
	}
	for ports := 6; ports <= 8; ports++ {
		for _, states := range lists(ports, "23") {
			checkAll(t, of(states))
		}
	}
}

func TestWhateverIsLeft(t *testing.T) { // P13.1: it is asked of the State alone
	for _, left := range lefts {
		for _, states := range lists(3, "0123") {
			l := of(states)
			for at := range l {
				l[at].Left = left
			}
			checkAll(t, l)
		}
	}
}

func TestHowManyStates(t *testing.T) { // P13.1, R2, R3, P1
	checkRefused(t, nil, 0, api.ErrArg)
	checkRefused(t, []api.PortState{}, 0, api.ErrArg)
	for _, ports := range []int{0, 9, 10, 16, 255, 256, 257, 1 << 20} {
		for _, in := range []int{0, 1, 7, 8, ports, -1, math.MaxInt} {
			checkRefused(t, slices.Repeat(of("3"), ports), in, api.ErrArg)
		}
	}
}

func TestWrongStates(t *testing.T) { // P13.1, R2, P1
	for _, state := range noStates {
		for ports := 1; ports <= 8; ports++ {
			for place := range ports {
				l := of("33333333"[:ports])
				l[place].State = state
				for _, in := range []int{0, place, ports - 1, ports, -1} { // that is named ahead of a port that is not there
					checkRefused(t, l, in, api.ErrArg)
				}
			}
		}
	}
}

func TestNoSuchPort(t *testing.T) { // P13.1, R2, P1
	for ports := 1; ports <= 8; ports++ {
		for _, in := range []int{-1, -2, -ports, -8, ports, ports + 1, 8, 9, 255, 256, 1 << 32, math.MaxInt, math.MinInt} {
			checkRefused(t, of("33333333"[:ports]), in, api.ErrRange)
			checkRefused(t, of("01230123"[:ports]), in, api.ErrRange)
		}
	}
}

func TestWrongClassesAndOuts(t *testing.T) { // P13.2, R2, P1
	for _, states := range []string{"3", "0", "3333", "0123", "33333333"} {
		l := of(states)
		for in := range l {
			for _, class := range noClasses {
				for _, out := range append([]int{none, 0, 1, 7}, noOuts...) {
					checkEgress(t, l, in, class, out, api.ErrArg)
				}
			}
			for _, out := range noOuts {
				for class := range 3 {
					checkEgress(t, l, in, class, out, api.ErrArg)
				}
			}
		}
	}
}

func TestNeverBackNorWhereNothingIsFlooded(t *testing.T) { // P13.3
	for _, states := range append(lists(4, "0123"), lists(8, "03")...) {
		l := of(states)
		for in := range l {
			flooded, e := relay.Flood(l, in)
			if e != api.OK {
				t.Fatalf("Flood(%v, %d): %d", l, in, e)
			}
			for class := range 3 {
				for out := none; out < 8; out++ {
					checkWay(t, l, in, class, out, flooded)
				}
			}
		}
	}
}

// checkWay fails, if a frame goes back, or by a port that does not forward, or that no flood goes by.
func checkWay(t *testing.T, l []api.PortState, in, class, out int, flooded []int) {
	t.Helper()
	ports, e := relay.Egress(l, in, class, out)
	if e != api.OK {
		t.Fatalf("Egress(%v, %d, %d, %d): %d", l, in, class, out, e)
	}
	last := -1
	for _, at := range ports {
		_, isForwarding, e := relay.Takes(l, at)
		if at == in || !isForwarding || e != api.OK || !slices.Contains(flooded, at) || at <= last {
			t.Errorf("Egress(%v, %d, %d, %d) = %v, where %v are flooded", l, in, class, out, ports, flooded)
		}
		last = at
	}
}

func TestWhatIsAnsweredIsNewMemory(t *testing.T) { // R1, R4
	for _, states := range []string{"33", "3303", "33333333"} {
		l := of(states)
		spoil(checkFlood(t, l, 0, api.OK, wantFlood(l, 0)...))
		for class := range 3 {
			for _, out := range []int{none, 1} {
				spoil(checkEgress(t, l, 0, class, out, api.OK, wantEgress(l, 0, class, out)...))
			}
		}
		checkAll(t, l)
	}
}

// spoil writes over all that an answer reaches.
func spoil(ports []int) {
	whole := ports[:cap(ports)]
	for i := range whole {
		whole[i] = -7
	}
}

func TestManyAtOnceHearTheSame(t *testing.T) { // R1
	l := of("33012333")
	var all sync.WaitGroup
	failed := make([]bool, 16)
	for i := range failed {
		all.Go(func() {
			in := i % 8
			for range 50 {
				flooded, e := relay.Flood(l, in)
				known, f := relay.Egress(l, in, 0, 6)
				isLearning, isForwarding, g := relay.Takes(l, in)
				isSame := slices.Equal(flooded, wantFlood(l, in)) && slices.Equal(known, wantEgress(l, in, 0, 6)) &&
					isLearning == (l[in].State >= 2) && isForwarding == (l[in].State == 3)
				failed[i] = failed[i] || !isSame || e != api.OK || f != api.OK || g != api.OK
			}
		})
	}
	all.Wait()
	if slices.Contains(failed, true) {
		t.Error("some heard otherwise")
	}
}

func FuzzAllCalls(f *testing.F) { // P13.1, P13.2, P13.3, P1
	f.Add("", 0, 0, 0)
	f.Add("333", 1, 1, none)
	f.Add("333", 1, 0, 1)
	f.Add("01230123", 3, 0, 7)
	f.Add("33333333", 7, 2, 0)
	f.Add("333333333", 8, 2, 0)
	f.Add("3343", -1, 3, 8)
	f.Add("33", 2, 3, -2)
	f.Add("/3", math.MinInt, math.MaxInt, math.MinInt)
	f.Fuzz(func(t *testing.T, states string, in, class, out int) {
		l := of(states)
		isState := func(digit byte) bool { return '0' <= digit && digit <= '3' }
		arePorts := len(states) >= 1 && len(states) <= 8
		for i := range len(states) {
			arePorts = arePorts && isState(states[i])
		}
		switch {
		case !arePorts:
			checkRefused(t, l, in, api.ErrArg)
		case in < 0 || in >= len(l):
			checkRefused(t, l, in, api.ErrRange)
			checkEgress(t, l, in, class, out, api.ErrRange)
		case class < 0 || class > 2 || out < -1 || out > 7:
			checkEgress(t, l, in, class, out, api.ErrArg)
		default:
			checkAll(t, l)
			checkWay(t, l, in, class, out, wantFlood(l, in))
		}
	})
}
