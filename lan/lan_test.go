package lan_test

import (
	"math"
	"slices"
	"sync"
	"testing"

	"footway/api"
	"footway/lan"
)

const (
	// The first and the last address of a group, and of those that are reserved, and their neighbours that are of one station.
	club     = 0x010000000000
	all      = 1<<48 - 1
	reserved = 0x0180c2000000
	ann      = 0x020000000001
	last     = 0xfeffffffffff
)

var (
	noSegs      = []int{-1, -2, -8, 8, 9, 255, 256, 1 << 32, math.MaxInt, math.MinInt} // of a plan of eight
	noCounts    = []int{0, -1, -8, 9, 10, 16, 255, 256 | 1, 1<<32 | 1, math.MaxInt, math.MinInt}
	noIDs       = []int{-1, -65536, 65536, 65537, 1 << 32, math.MaxInt, math.MinInt}
	noCosts     = []int{0, -1, -1000, 1001, 1002, 1<<16 | 1, 1<<32 | 1, math.MaxInt, math.MinInt}
	noStations  = []int{-1, math.MinInt, 1 << 48, 1<<48 | 2, math.MaxInt, club, club + 1, all, reserved, reserved + 15, reserved + 16}
	allStations = []int{0, 1, ann, ann + 1, ann + 2, 0x00ffffffffff, 0xfe0000000000, last}
)

// of tells a plan of bridges 10, 11 and so on: each of its ports is on the segment of its digit, and up, or on that of its letter (a is 0), and not.
func of(segs int, bridges ...string) api.Lan {
	l := api.Lan{Segs: segs}
	for at, ports := range bridges {
		p := api.Plan{ID: 10 + at}
		for i, sign := range []byte(ports) {
			port := api.Link{Seg: int(sign - '0'), Cost: 1 + i, Up: true}
			if sign >= 'a' {
				port = api.Link{Seg: int(sign - 'a'), Cost: 1 + i}
			}
			p.Ports = append(p.Ports, port)
		}
		l.Plans = append(l.Plans, p)
	}
	return l
}

// with tells the plan with a station on each of those segments.
func with(l api.Lan, segs ...int) api.Lan {
	l = clone(l)
	l.Hosts = nil
	for at, seg := range segs {
		l.Hosts = append(l.Hosts, api.Host{Mac: allStations[at], Seg: seg})
	}
	return l
}

// full tells the greatest plan that may be.
func full() api.Lan {
	all8 := "01234567"
	return with(of(8, all8, all8, all8, all8, all8, all8), 0, 1, 2, 3, 4, 5, 6, 7)
}

func clone(l api.Lan) api.Lan {
	l.Plans, l.Hosts = slices.Clone(l.Plans), slices.Clone(l.Hosts)
	for at := range l.Plans {
		l.Plans[at].Ports = slices.Clone(l.Plans[at].Ports)
	}
	return l
}

// changed tells the plan behind a change.
func changed(l api.Lan, change func(l *api.Lan)) api.Lan {
	l = clone(l)
	change(&l)
	return l
}

func samePlan(a, b api.Plan) bool {
	return a.ID == b.ID && slices.Equal(a.Ports, b.Ports)
}

func same(a, b api.Lan) bool {
	return a.Segs == b.Segs && slices.EqualFunc(a.Plans, b.Plans, samePlan) && slices.Equal(a.Hosts, b.Hosts)
}

func checkKept(t *testing.T, name string, l, before api.Lan) {
	t.Helper()
	if !same(l, before) {
		t.Errorf("%s changed %+v to %+v", name, before, l)
	}
}

func checkRight(t *testing.T, l api.Lan, want bool) {
	t.Helper()
	before := clone(l)
	if is := lan.Right(l); is != want {
		t.Errorf("Right(%+v) = %t, want %t", l, is, want)
	}
	checkKept(t, "Right", l, before)
}

func checkOn(t *testing.T, l api.Lan, seg int, wantErr api.Errno, wantHosts []api.Host, wantPorts ...[2]int) {
	t.Helper()
	before := clone(l)
	hosts, ports, e := lan.On(l, seg)
	if !slices.Equal(hosts, wantHosts) || !slices.Equal(ports, wantPorts) || e != wantErr {
		t.Errorf("On(%+v, %d) = %+v, %v, %d, want %+v, %v, %d", l, seg, hosts, ports, e, wantHosts, wantPorts, wantErr)
	}
	checkKept(t, "On", l, before)
}

func checkPart(t *testing.T, l api.Lan, seg int, wantErr api.Errno, want ...int) {
	t.Helper()
	before := clone(l)
	part, e := lan.Part(l, seg)
	if !slices.Equal(part, want) || e != wantErr {
		t.Errorf("Part(%+v, %d) = %v, %d, want %v, %d", l, seg, part, e, want, wantErr)
	}
	checkKept(t, "Part", l, before)
}

// checkCount fails, unless a call that counts something tells what it is to.
func checkCount(t *testing.T, name string, count func(api.Lan) (int, api.Errno), l api.Lan, want int, wantErr api.Errno) {
	t.Helper()
	before := clone(l)
	if n, e := count(l); n != want || e != wantErr {
		t.Errorf("%s(%+v) = %d, %d, want %d, %d", name, l, n, e, want, wantErr)
	}
	checkKept(t, name, l, before)
}

func checkParts(t *testing.T, l api.Lan, want int) {
	t.Helper()
	checkCount(t, "Parts", lan.Parts, l, want, api.OK)
}

func checkLoops(t *testing.T, l api.Lan, want int) {
	t.Helper()
	checkCount(t, "Loops", lan.Loops, l, want, api.OK)
}

// checkWrong fails, unless the plan may not be, whatever is asked of it.
func checkWrong(t *testing.T, l api.Lan) {
	t.Helper()
	checkRight(t, l, false)
	for _, seg := range []int{0, 1, 7, 8, -1, l.Segs, l.Segs - 1, math.MaxInt} { // that is named ahead of a segment that is not there
		checkOn(t, l, seg, api.ErrArg, nil)
		checkPart(t, l, seg, api.ErrArg)
	}
	checkCount(t, "Parts", lan.Parts, l, 0, api.ErrArg)
	checkCount(t, "Loops", lan.Loops, l, 0, api.ErrArg)
}

// wantOn, wantPart and those behind them say independently what the chapter's words have.
func wantOn(l api.Lan, seg int) ([]api.Host, [][2]int) {
	hosts := slices.DeleteFunc(slices.Clone(l.Hosts), func(h api.Host) bool { return h.Seg != seg })
	var ports [][2]int
	for b := range l.Plans {
		for p := range l.Plans[b].Ports {
			if is := l.Plans[b].Ports[p]; is.Up && is.Seg == seg {
				ports = append(ports, [2]int{b, p})
			}
		}
	}
	return hosts, ports
}

func isJoinedBy(p api.Plan, seg int) bool {
	return slices.ContainsFunc(p.Ports, func(port api.Link) bool { return port.Up && port.Seg == seg })
}

// isTogether tells whether a row of bridges leads from one segment to the other, by no more segments than there are.
func isTogether(l api.Lan, from, to int) bool {
	isIn := make([]bool, l.Segs)
	isIn[from] = true
	for range l.Segs {
		for seg := range l.Segs {
			for _, p := range l.Plans {
				for next := range l.Segs {
					if isIn[seg] && isJoinedBy(p, seg) && isJoinedBy(p, next) {
						isIn[next] = true
					}
				}
			}
		}
	}
	return isIn[to]
}

func wantPart(l api.Lan, seg int) []int {
	var part []int
	for other := range l.Segs {
		if isTogether(l, seg, other) {
			part = append(part, other)
		}
	}
	return part
}

func wantParts(l api.Lan) int {
	var firsts []int
	for seg := range l.Segs {
		if first := wantPart(l, seg)[0]; !slices.Contains(firsts, first) {
			firsts = append(firsts, first)
		}
	}
	return len(firsts)
}

// wantLoops tells how many ports close a loop, if one after the other comes up: those between a bridge and a segment that hang together already.
func wantLoops(l api.Lan) int {
	loops := 0
	inParts := make([]int, l.Segs+len(l.Plans)) // each place's part, first of all itself
	for place := range inParts {
		inParts[place] = place
	}
	for b, p := range l.Plans {
		for _, port := range p.Ports {
			from, to := inParts[l.Segs+b], inParts[port.Seg]
			switch {
			case !port.Up:
			case from == to:
				loops++
			default:
				for place, is := range inParts {
					if is == from {
						inParts[place] = to
					}
				}
			}
		}
	}
	return loops
}

// checkAll fails, unless all calls tell what the document asks of a plan that may be.
func checkAll(t *testing.T, l api.Lan) {
	t.Helper()
	checkRight(t, l, true)
	for seg := range l.Segs {
		hosts, ports := wantOn(l, seg)
		checkOn(t, l, seg, api.OK, hosts, ports...)
		checkPart(t, l, seg, api.OK, wantPart(l, seg)...)
	}
	for _, seg := range []int{-1, l.Segs, l.Segs + 1} {
		checkNoSegment(t, l, seg)
	}
	checkParts(t, l, wantParts(l))
	checkLoops(t, l, wantLoops(l))
}

func checkNoSegment(t *testing.T, l api.Lan, seg int) {
	t.Helper()
	checkOn(t, l, seg, api.ErrRange, nil)
	checkPart(t, l, seg, api.ErrRange)
}

func TestExamples(t *testing.T) { // the chapter's table
	checkParts(t, of(2, "01"), 1)
	checkLoops(t, of(2, "01"), 0)
	checkParts(t, of(2, "01", "01"), 1)
	checkLoops(t, of(2, "01", "01"), 1)
}

func TestRightAtTheEdges(t *testing.T) { // P15.1
	for segs := 1; segs <= 8; segs++ {
		checkRight(t, of(segs), true)
		checkRight(t, with(of(segs, "0"), segs-1), true)
	}
	bridges := []string{"0", "0", "0", "0", "0", "0"}
	for count := range 7 {
		checkRight(t, of(1, bridges[:count]...), true)
	}
	for count := 1; count <= 8; count++ {
		checkRight(t, of(8, "01234567"[:count]), true)
		checkRight(t, of(1, "00000000"[:count]), true) // a bridge may be on a segment more than once
		checkRight(t, of(1, "aaaaaaaa"[:count]), true)
	}
	for count := range 9 {
		checkRight(t, with(of(8), []int{7, 7, 0, 0, 3, 3, 3, 5}[:count]...), true)
	}
	checkRight(t, full(), true)
	for _, id := range []int{0, 1, 255, 256, 65534, 65535} {
		checkRight(t, changed(full(), func(l *api.Lan) { l.Plans[3].ID = id }), true)
	}
	for _, cost := range []int{1, 2, 999, 1000} {
		checkRight(t, changed(full(), func(l *api.Lan) { l.Plans[3].Ports[7].Cost = cost }), true)
	}
	for _, a := range []int{2, 0x00000000ffff, club - 2, 2 * club, reserved - 1<<40, reserved + 1<<40, ann + 7, last - 1} {
		checkRight(t, changed(full(), func(l *api.Lan) { l.Hosts[7].Mac = a }), true)
	}
}

func TestWrongSegments(t *testing.T) { // P15.1, R2, R3, P1
	for _, segs := range noCounts {
		checkWrong(t, api.Lan{Segs: segs})
		checkWrong(t, api.Lan{Segs: segs, Plans: []api.Plan{}, Hosts: []api.Host{}})
		checkWrong(t, changed(of(1, "0"), func(l *api.Lan) { l.Segs = segs }))
		checkWrong(t, changed(full(), func(l *api.Lan) { l.Segs = segs }))
	}
	checkWrong(t, api.Lan{})
}

func TestHowManyBridges(t *testing.T) { // P15.1, R2, P1
	for _, count := range []int{7, 8, 9, 16, 255, 256, 262, 1 << 16} {
		l := of(1)
		for id := range count {
			l.Plans = append(l.Plans, api.Plan{ID: id, Ports: []api.Link{{Cost: 1}}})
		}
		checkWrong(t, l)
	}
	checkWrong(t, api.Lan{Segs: 1, Plans: make([]api.Plan, 7)})
}

func TestWrongIDs(t *testing.T) { // P15.1, R2, P1
	for place := range 6 {
		for _, id := range noIDs {
			checkWrong(t, changed(full(), func(l *api.Lan) { l.Plans[place].ID = id }))
		}
		for other := range place {
			for _, id := range []int{0, 10 + place, 10 + other, 65535} { // no two may be of one
				checkWrong(t, changed(full(), func(l *api.Lan) { l.Plans[place].ID, l.Plans[other].ID = id, id }))
			}
		}
	}
	checkWrong(t, changed(of(2, "01", "ab"), func(l *api.Lan) { l.Plans[1].ID = 10 }))
}

func TestHowManyPorts(t *testing.T) { // P15.1, R2, R3, P1
	for place := range 6 {
		for _, count := range []int{0, 9, 10, 16, 255, 256, 257, 1 << 16} {
			for _, up := range []bool{true, false} {
				ports := slices.Repeat([]api.Link{{Cost: 1, Up: up}}, count)
				checkWrong(t, changed(full(), func(l *api.Lan) { l.Plans[place].Ports = ports }))
			}
		}
		checkWrong(t, changed(full(), func(l *api.Lan) { l.Plans[place].Ports = nil }))
	}
	checkWrong(t, of(1, ""))
}

func TestWrongPorts(t *testing.T) { // P15.1, R2, P1
	for place := range 48 {
		for _, up := range []bool{true, false} {
			for _, seg := range noSegs {
				checkWrong(t, changed(full(), func(l *api.Lan) { l.Plans[place/8].Ports[place%8] = api.Link{Seg: seg, Cost: 1, Up: up} }))
			}
			for _, cost := range noCosts {
				checkWrong(t, changed(full(), func(l *api.Lan) { l.Plans[place/8].Ports[place%8] = api.Link{Cost: cost, Up: up} }))
			}
		}
	}
	for segs := 1; segs <= 8; segs++ { // one that other plans have
		for seg := segs; seg <= 8; seg++ {
			checkWrong(t, changed(of(segs, "00", "0"), func(l *api.Lan) { l.Plans[0].Ports[1].Seg = seg }))
			checkWrong(t, changed(of(segs, "0", "aa"), func(l *api.Lan) { l.Plans[1].Ports[0].Seg = seg }))
		}
	}
}

func TestHowManyStations(t *testing.T) { // P15.1, R2, P1
	for _, count := range []int{9, 10, 16, 255, 256, 264, 1 << 16} {
		l := of(1)
		for a := range count {
			l.Hosts = append(l.Hosts, api.Host{Mac: a})
		}
		checkWrong(t, l)
	}
	checkWrong(t, api.Lan{Segs: 1, Hosts: make([]api.Host, 9)})
}

func TestWrongStations(t *testing.T) { // P15.1, R2, P1
	for place := range 8 {
		for _, a := range noStations {
			checkWrong(t, changed(full(), func(l *api.Lan) { l.Hosts[place].Mac = a }))
		}
		for _, seg := range noSegs {
			checkWrong(t, changed(full(), func(l *api.Lan) { l.Hosts[place].Seg = seg }))
		}
		for other := range place {
			for _, a := range []int{0, ann + 7, allStations[place], allStations[other], last} { // no two may be of one
				checkWrong(t, changed(full(), func(l *api.Lan) { l.Hosts[place].Mac, l.Hosts[other].Mac = a, a }))
			}
		}
	}
	for segs := 1; segs <= 8; segs++ { // one that other plans have
		for seg := segs; seg <= 8; seg++ {
			checkWrong(t, with(of(segs), 0, seg))
			checkWrong(t, with(of(segs), seg))
		}
	}
}

func TestNoSuchSegment(t *testing.T) { // P15.1, P15.2, R2, P1
	for segs := 1; segs <= 8; segs++ {
		for _, l := range []api.Lan{of(segs), with(of(segs, "00", "0"), 0, 0)} {
			for _, seg := range append([]int{segs, segs + 1, -segs}, noSegs...) {
				checkNoSegment(t, l, seg)
			}
		}
	}
}

func TestOn(t *testing.T) { // P15.1
	l := with(of(4, "0120", "ba1", "22", "d"), 2, 0, 2, 1, 2)
	host := func(at, seg int) api.Host { return api.Host{Mac: allStations[at], Seg: seg} }
	checkOn(t, l, 0, api.OK, []api.Host{host(1, 0)}, [2]int{0, 0}, [2]int{0, 3})
	checkOn(t, l, 1, api.OK, []api.Host{host(3, 1)}, [2]int{0, 1}, [2]int{1, 2})
	checkOn(t, l, 2, api.OK, []api.Host{host(0, 2), host(2, 2), host(4, 2)}, [2]int{0, 2}, [2]int{2, 0}, [2]int{2, 1})
	checkOn(t, l, 3, api.OK, nil) // what is on it is not up
	checkOn(t, of(1), 0, api.OK, nil)
}

func TestOnIsInOrderOfPlaces(t *testing.T) { // P15.1: neither of IDs nor of addresses
	l := with(of(2, "10", "0", "00"), 0, 0, 0)
	l.Plans[0].ID, l.Plans[1].ID, l.Plans[2].ID = 7, 65535, 0
	l.Hosts[0].Mac, l.Hosts[1].Mac, l.Hosts[2].Mac = last, 0, ann
	checkOn(t, l, 0, api.OK, []api.Host{{Mac: last}, {Mac: 0}, {Mac: ann}}, [2]int{0, 1}, [2]int{1, 0}, [2]int{2, 0}, [2]int{2, 1})
}

func TestOnOfTheGreatestPlan(t *testing.T) { // P15.1
	l := full()
	for seg := range 8 {
		var ports [][2]int
		for b := range 6 {
			ports = append(ports, [2]int{b, seg})
		}
		checkOn(t, l, seg, api.OK, []api.Host{{Mac: allStations[seg], Seg: seg}}, ports...)
	}
}

// checkPlan fails, unless the plan has just those parts, and so many loops.
func checkPlan(t *testing.T, l api.Lan, wantLoops int, wantParts ...[]int) {
	t.Helper()
	for _, part := range wantParts {
		for _, seg := range part {
			checkPart(t, l, seg, api.OK, part...)
		}
	}
	checkParts(t, l, len(wantParts))
	checkLoops(t, l, wantLoops)
}

func TestParts(t *testing.T) { // P15.2
	checkPlan(t, of(1), 0, []int{0})
	checkPlan(t, of(3), 0, []int{0}, []int{1}, []int{2})
	checkPlan(t, of(3, "1"), 0, []int{0}, []int{1}, []int{2})
	checkPlan(t, of(3, "02"), 0, []int{0, 2}, []int{1})
	checkPlan(t, of(3, "20"), 0, []int{0, 2}, []int{1})
	checkPlan(t, of(4, "01", "23"), 0, []int{0, 1}, []int{2, 3})
	checkPlan(t, of(4, "01", "23", "12"), 0, []int{0, 1, 2, 3})
	checkPlan(t, of(5, "31", "3", "04"), 0, []int{0, 4}, []int{1, 3}, []int{2})
	checkPlan(t, of(8, "01234567"), 0, []int{0, 1, 2, 3, 4, 5, 6, 7})
	checkPlan(t, of(8, "76543210"), 0, []int{0, 1, 2, 3, 4, 5, 6, 7})
	checkPlan(t, of(8, "7135", "6024"), 0, []int{0, 2, 4, 6}, []int{1, 3, 5, 7})
	checkPlan(t, full(), 8*6+1-8-6, []int{0, 1, 2, 3, 4, 5, 6, 7})
}

func TestPortsThatAreNotUpJoinNothing(t *testing.T) { // P15.2
	checkPlan(t, of(2, "0b"), 0, []int{0}, []int{1})
	checkPlan(t, of(2, "a1"), 0, []int{0}, []int{1})
	checkPlan(t, of(2, "ab"), 0, []int{0}, []int{1})
	checkPlan(t, of(2, "ab", "01"), 0, []int{0, 1})
	checkPlan(t, of(3, "0b2"), 0, []int{0, 2}, []int{1}) // what it joins hangs together, whatever lies between
	checkPlan(t, of(3, "0c1"), 0, []int{0, 1}, []int{2})
	checkPlan(t, of(3, "a21"), 0, []int{0}, []int{1, 2})
	checkPlan(t, of(3, "01c", "12"), 0, []int{0, 1, 2})
	checkPlan(t, of(3, "01c", "b2"), 0, []int{0, 1}, []int{2})
}

func TestLoops(t *testing.T) { // P15.2
	checkPlan(t, of(1, "0"), 0, []int{0})
	checkPlan(t, of(1, "a"), 0, []int{0})
	checkPlan(t, of(1, "00"), 1, []int{0}) // by one port out, and by the other one back
	checkPlan(t, of(1, "0a"), 0, []int{0})
	checkPlan(t, of(1, "00000000"), 7, []int{0})
	checkPlan(t, of(1, "0", "0", "0", "0", "0", "0"), 0, []int{0})
	checkPlan(t, of(2, "011"), 1, []int{0, 1})
	checkPlan(t, of(2, "01", "0b"), 0, []int{0, 1})
	checkPlan(t, of(2, "01", "ab"), 0, []int{0, 1})
	checkPlan(t, of(2, "01", "01", "01"), 2, []int{0, 1})
	checkPlan(t, of(3, "01", "12", "20"), 1, []int{0, 1, 2})
	checkPlan(t, of(3, "01", "12", "2a"), 0, []int{0, 1, 2})
	checkPlan(t, of(3, "012", "012"), 2, []int{0, 1, 2})
	checkPlan(t, of(4, "01", "01", "23", "23"), 2, []int{0, 1}, []int{2, 3}) // one in each part
	checkPlan(t, of(4, "01", "01", "22"), 2, []int{0, 1}, []int{2}, []int{3})
}

// permuted tells all orders of some.
func permuted(some []string) [][]string {
	if len(some) == 0 {
		return [][]string{nil}
	}
	var all [][]string
	for at, one := range some {
		for _, others := range permuted(slices.Delete(slices.Clone(some), at, at+1)) {
			all = append(all, append([]string{one}, others...))
		}
	}
	return all
}

func TestPartsInAnyOrderOfBridges(t *testing.T) { // P15.2
	for _, bridges := range permuted([]string{"01", "21", "32", "34", "54", "56"}) { // a row
		checkPlan(t, of(8, bridges...), 0, []int{0, 1, 2, 3, 4, 5, 6}, []int{7})
	}
	for _, bridges := range permuted([]string{"60", "06", "15", "51", "42", "7"}) { // pairs that cross
		checkPlan(t, of(8, bridges...), 2, []int{0, 6}, []int{1, 5}, []int{2, 4}, []int{3}, []int{7})
	}
	for _, bridges := range permuted([]string{"07", "71", "163", "35", "52", "24"}) { // to and fro
		checkPlan(t, of(8, bridges...), 0, []int{0, 1, 2, 3, 4, 5, 6, 7})
	}
}

func TestIDsCostsAndStationsJoinNothing(t *testing.T) { // P15.2
	l := with(of(4, "01", "12", "b3"), 0, 3, 3, 0)
	for range 3 {
		checkPlan(t, l, 0, []int{0, 1, 2}, []int{3})
		for at := range l.Plans {
			l.Plans[at].ID = 65535 - l.Plans[at].ID - 2*at
			l.Plans[at].Ports[1].Cost = 1000 - at
		}
		l.Hosts = l.Hosts[1:]
	}
}

// rows tells all bridges of one or up to so many ports, each on one of those signs.
func rows(most int, signs string) []string {
	var all []string
	last := []string{""}
	for range most {
		var more []string
		for _, ports := range last {
			for _, sign := range signs {
				more = append(more, ports+string(sign))
			}
		}
		all, last = append(all, more...), more
	}
	return all
}

func TestAllSmallPlans(t *testing.T) { // P15.1, P15.2, P15.3
	for _, first := range rows(2, "012ac") {
		for _, second := range rows(2, "012ac") {
			checkWhole(t, with(of(3, first, second), 2, 0, 2))
		}
	}
	for _, first := range rows(3, "01a") {
		for _, second := range rows(3, "01a") {
			checkWhole(t, of(2, first, second))
		}
	}
	for _, first := range rows(2, "012") {
		for _, second := range rows(2, "012") {
			for _, third := range rows(2, "012") {
				checkWhole(t, of(3, first, second, third))
			}
		}
	}
}

// checkWhole fails, unless all calls tell what the document asks of a plan, and what follows from that is so.
func checkWhole(t *testing.T, l api.Lan) {
	t.Helper()
	checkAll(t, l)
	checkPartsApart(t, l)
	loops, _ := lan.Loops(l)
	if hasTwoRows(l) == (loops == 0) {
		t.Errorf("Loops(%+v) = %d, but two rows lead to one place: %t", l, loops, hasTwoRows(l))
	}
}

// checkPartsApart fails, unless each segment is in its own part, and two parts are one, or have nothing in common, and there are as many as are told.
func checkPartsApart(t *testing.T, l api.Lan) {
	t.Helper()
	parts, _ := lan.Parts(l)
	firsts := 0
	for seg := range l.Segs {
		part, _ := lan.Part(l, seg)
		if !slices.Contains(part, seg) || !slices.IsSorted(part) {
			t.Errorf("Part(%+v, %d) = %v", l, seg, part)
		}
		if len(part) > 0 && part[0] == seg {
			firsts++
		}
		for other := range l.Segs {
			others, _ := lan.Part(l, other)
			if slices.Contains(part, other) != slices.Equal(part, others) {
				t.Errorf("Part(%+v): %v and %v", l, part, others)
			}
		}
	}
	if firsts != parts {
		t.Errorf("Parts(%+v) = %d, want %d", l, parts, firsts)
	}
}

// wire is a port that is up, as what lies between two places: segments, and behind them bridges.
type wire [2]int

// hasTwoRows tells whether two rows, of which none goes by a port twice, lead from some place to another one.
func hasTwoRows(l api.Lan) bool {
	var wires []wire
	for b, p := range l.Plans {
		for _, port := range p.Ports {
			if port.Up {
				wires = append(wires, wire{l.Segs + b, port.Seg})
			}
		}
	}
	for from := range l.Segs + len(l.Plans) {
		comes := make([]int, l.Segs+len(l.Plans))
		walk(wires, make([]bool, len(wires)), from, comes)
		for place, rows := range comes {
			if place != from && rows > 1 {
				return true
			}
		}
	}
	return false
}

// walk counts how often some row comes to each place.
func walk(wires []wire, isUsed []bool, at int, comes []int) {
	comes[at]++
	for i, w := range wires {
		for end := range 2 {
			if !isUsed[i] && w[end] == at {
				isUsed[i] = true
				walk(wires, isUsed, w[1-end], comes)
				isUsed[i] = false
			}
		}
	}
}

func TestAPortThatGoesDown(t *testing.T) { // P15.2: it takes a loop with it, or makes a part, or takes its bridge with it
	c := chance(15)
	for range 300 {
		l := c.plan()
		for b := range l.Plans {
			for p, port := range l.Plans[b].Ports {
				if !port.Up {
					continue
				}
				less := changed(l, func(l *api.Lan) { l.Plans[b].Ports[p].Up = false })
				parts, _ := lan.Parts(l)
				loops, _ := lan.Loops(l)
				nowParts, e := lan.Parts(less)
				nowLoops, f := lan.Loops(less)
				isLast := !slices.ContainsFunc(less.Plans[b].Ports, func(port api.Link) bool { return port.Up })
				isSame := nowParts == parts && nowLoops == loops
				isPart := nowParts == parts+1 && nowLoops == loops
				isLoop := nowParts == parts && nowLoops == loops-1
				if e != api.OK || f != api.OK || isLast != isSame || !isLast && isPart == isLoop {
					t.Errorf("%+v had %d parts and %d loops, and has %d and %d without port %d of bridge %d", l, parts, loops, nowParts, nowLoops, p, b)
				}
			}
		}
	}
}

// chance tells numbers that are always the same ones.
type chance uint64

func (c *chance) below(n int) int {
	*c = *c*6364136223846793005 + 1442695040888963407
	return int(*c>>33) % n
}

// plan tells one that may be, of bridges with few ports or with many.
func (c *chance) plan() api.Lan {
	l := api.Lan{Segs: 1 + c.below(8)}
	most, ups := 1+c.below(8), 1+c.below(4)
	for at := range c.below(7) {
		p := api.Plan{ID: 6*c.below(10922) + at}
		for range 1 + c.below(most) {
			p.Ports = append(p.Ports, api.Link{Seg: c.below(l.Segs), Cost: 1 + c.below(1000), Up: c.below(ups+1) > 0})
		}
		l.Plans = append(l.Plans, p)
	}
	first := c.below(8)
	for at := range c.below(9) {
		l.Hosts = append(l.Hosts, api.Host{Mac: allStations[(first+3*at)%8], Seg: c.below(l.Segs)})
	}
	return l
}

func TestManyPlans(t *testing.T) { // P15.1, P15.2, P15.3
	c := chance(16)
	for range 3000 {
		l := c.plan()
		checkAll(t, l)
		checkPartsApart(t, l)
	}
}

func TestManyPlansWithAWrongPlace(t *testing.T) { // P15.1, R2, P1
	c := chance(17)
	of := func(l []int) int { return l[c.below(len(l))] }
	for range 1000 {
		l := c.plan()
		switch kind := c.below(6); {
		case kind == 0:
			l.Segs = of(noCounts)
		case kind == 1 && len(l.Plans) > 0:
			l.Plans[c.below(len(l.Plans))].ID = of(noIDs)
		case kind <= 3 && len(l.Plans) > 0:
			ports := l.Plans[c.below(len(l.Plans))].Ports
			if at := c.below(len(ports)); kind == 2 {
				ports[at].Seg = of(noSegs)
			} else {
				ports[at].Cost = of(noCosts)
			}
		case kind == 4 && len(l.Hosts) > 0:
			l.Hosts[c.below(len(l.Hosts))].Mac = of(noStations)
		case len(l.Hosts) > 0:
			l.Hosts[c.below(len(l.Hosts))].Seg = of(noSegs)
		default:
			l.Segs = 0
		}
		checkWrong(t, l)
	}
}

func TestEmptyLists(t *testing.T) { // R3
	for segs := 1; segs <= 8; segs++ {
		l := api.Lan{Segs: segs, Plans: []api.Plan{}, Hosts: []api.Host{}}
		checkAll(t, l)
		checkAll(t, api.Lan{Segs: segs})
	}
}

func overwrite[T any](l []T, by T) {
	whole := l[:cap(l)]
	for i := range whole {
		whole[i] = by
	}
}

func TestWhatIsAnsweredIsNewMemory(t *testing.T) { // R1, R4
	c := chance(18)
	for _, l := range []api.Lan{full(), with(of(1, "0", "00", "000"), 0, 0, 0), c.plan(), c.plan(), c.plan()} {
		before := clone(l)
		for seg := range l.Segs {
			hosts, ports, _ := lan.On(l, seg)
			part, _ := lan.Part(l, seg)
			overwrite(hosts, api.Host{Mac: -7})
			overwrite(ports, [2]int{-7, -7})
			overwrite(part, -7)
		}
		checkKept(t, "one of all", l, before)
		checkAll(t, l)
	}
}

func TestManyAtOnceHearTheSame(t *testing.T) { // R1
	l := with(of(8, "0246", "135", "b7", "77", "5a"), 0, 1, 1, 7)
	var done sync.WaitGroup
	failed := make([]bool, 16)
	for i := range failed {
		done.Go(func() {
			seg := i % 8
			wantHosts, wantPorts := wantOn(l, seg)
			for range 50 {
				hosts, ports, e := lan.On(l, seg)
				part, f := lan.Part(l, seg)
				parts, g := lan.Parts(l)
				loops, h := lan.Loops(l)
				isSame := lan.Right(l) && slices.Equal(hosts, wantHosts) && slices.Equal(ports, wantPorts) &&
					slices.Equal(part, wantPart(l, seg)) && parts == 3 && loops == 1
				failed[i] = failed[i] || !isSame || e != api.OK || f != api.OK || g != api.OK || h != api.OK
			}
		})
	}
	done.Wait()
	if slices.Contains(failed, true) {
		t.Error("some heard otherwise")
	}
}

func isBetween(n, least, most int) bool { return least <= n && n <= most }

// isRight says independently whether a plan may be.
func isRight(l api.Lan) bool {
	ids, stations := map[int]bool{}, map[int]bool{}
	is := isBetween(l.Segs, 1, 8) && len(l.Plans) <= 6 && len(l.Hosts) <= 8
	for _, p := range l.Plans {
		is = is && !ids[p.ID] && isBetween(p.ID, 0, 65535) && isBetween(len(p.Ports), 1, 8)
		ids[p.ID] = true
		for _, port := range p.Ports {
			is = is && isBetween(port.Seg, 0, l.Segs-1) && isBetween(port.Cost, 1, 1000)
		}
	}
	for _, h := range l.Hosts {
		is = is && !stations[h.Mac] && isBetween(h.Mac, 0, 1<<48-1) && h.Mac>>40%2 == 0 && isBetween(h.Seg, 0, l.Segs-1)
		stations[h.Mac] = true
	}
	return is
}

func FuzzAllCalls(f *testing.F) { // P15.1, P15.2, P15.3, P1
	f.Add(2, "01", "01", 10, 11, ann, 1)
	f.Add(8, "01234567", "abcdefgh", 0, 65535, 0, 7)
	f.Add(1, "00000000", "0", 1, 1, last, 0)
	f.Add(9, "8", "", -1, 65536, club, 8)
	f.Add(3, "012345678", "2i", 5, 6, reserved, 2)
	f.Add(math.MinInt, "", "", math.MaxInt, math.MinInt, math.MinInt, math.MaxInt)
	f.Fuzz(func(t *testing.T, segs int, first, second string, id, other, a, seg int) {
		l := with(of(segs, first, second, "0"), seg, seg)
		l.Plans[0].ID, l.Plans[1].ID, l.Hosts[1].Mac = id, other, a
		if isRight(l) {
			checkAll(t, l)
			checkPartsApart(t, l)
		} else {
			checkWrong(t, l)
		}
	})
}
