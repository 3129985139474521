package flood_test

import (
	"math"
	"slices"
	"sync"
	"testing"

	"footway/api"
	"footway/flood"
	"footway/lan"
	"footway/tree"
)

var noSegs = []int{-1, -2, -8, 8, 9, 255, 256, 1 << 32, math.MaxInt, math.MinInt} // of a plan of at most eight

// place is what the calls are asked of: a plan, and which of its ports are open.
type place struct {
	l    api.Lan
	open [][]bool
}

// of tells a plan of bridges 10, 11 and so on, by a sign for each port: the digit of its segment, if it is open; a letter from a on, if it is up, but not to be open; from A on, if it is to be, but is not up; from P on, if neither.
func of(segs int, bridges ...string) place {
	p := place{l: api.Lan{Segs: segs}}
	for at, ports := range bridges {
		plan := api.Plan{ID: 10 + at}
		row := []bool{}
		for i, sign := range []byte(ports) {
			link, is := linkOf(sign)
			link.Cost = 1 + i
			plan.Ports, row = append(plan.Ports, link), append(row, is)
		}
		p.l.Plans, p.open = append(p.l.Plans, plan), append(p.open, row)
	}
	return p
}

func linkOf(sign byte) (api.Link, bool) {
	switch {
	case sign >= 'a':
		return api.Link{Seg: int(sign - 'a'), Up: true}, false
	case sign >= 'P':
		return api.Link{Seg: int(sign - 'P')}, false
	case sign >= 'A':
		return api.Link{Seg: int(sign - 'A')}, true
	}
	return api.Link{Seg: int(sign - '0'), Up: true}, true
}

// full tells the greatest plan that may be, with all ports open.
func full() place {
	all8 := "01234567"
	p := of(8, all8, all8, all8, all8, all8, all8)
	for seg := range 8 {
		p.l.Hosts = append(p.l.Hosts, api.Host{Mac: 2 * seg, Seg: seg})
	}
	return p
}

func (p place) clone() place {
	p.l.Plans, p.l.Hosts, p.open = slices.Clone(p.l.Plans), slices.Clone(p.l.Hosts), slices.Clone(p.open)
	for at := range p.l.Plans {
		p.l.Plans[at].Ports = slices.Clone(p.l.Plans[at].Ports)
	}
	for at := range p.open {
		p.open[at] = slices.Clone(p.open[at])
	}
	return p
}

// changed tells the place behind a change.
func (p place) changed(change func(p *place)) place {
	p = p.clone()
	change(&p)
	return p
}

func samePlan(a, b api.Plan) bool {
	return a.ID == b.ID && slices.Equal(a.Ports, b.Ports)
}

func (p place) is(other place) bool {
	return p.l.Segs == other.l.Segs && slices.EqualFunc(p.l.Plans, other.l.Plans, samePlan) &&
		slices.Equal(p.l.Hosts, other.l.Hosts) && slices.EqualFunc(p.open, other.open, slices.Equal[[]bool])
}

func checkKept(t *testing.T, name string, p, before place) {
	t.Helper()
	if !p.is(before) {
		t.Errorf("%s changed %+v to %+v", name, before, p)
	}
}

func checkReach(t *testing.T, p place, seg int, wantErr api.Errno, want ...int) {
	t.Helper()
	before := p.clone()
	reached, e := flood.Reach(p.l, p.open, seg)
	if !slices.Equal(reached, want) || e != wantErr {
		t.Errorf("Reach(%+v, %d) = %v, %d, want %v, %d", p, seg, reached, e, want, wantErr)
	}
	checkKept(t, "Reach", p, before)
}

func checkSteps(t *testing.T, p place, seg int, wantErr api.Errno, want ...int) {
	t.Helper()
	before := p.clone()
	steps, e := flood.Steps(p.l, p.open, seg)
	if !slices.Equal(steps, want) || e != wantErr {
		t.Errorf("Steps(%+v, %d) = %v, %d, want %v, %d", p, seg, steps, e, want, wantErr)
	}
	checkKept(t, "Steps", p, before)
}

func checkPath(t *testing.T, p place, from, to int, wantErr api.Errno, want ...int) {
	t.Helper()
	before := p.clone()
	path, e := flood.Path(p.l, p.open, from, to)
	if !slices.Equal(path, want) || e != wantErr {
		t.Errorf("Path(%+v, %d, %d) = %v, %d, want %v, %d", p, from, to, path, e, want, wantErr)
	}
	checkKept(t, "Path", p, before)
}

func checkCopies(t *testing.T, p place, seg, want int, wantErr api.Errno) {
	t.Helper()
	before := p.clone()
	copies, e := flood.Copies(p.l, p.open, seg)
	if copies != want || e != wantErr {
		t.Errorf("Copies(%+v, %d) = %d, %d, want %d, %d", p, seg, copies, e, want, wantErr)
	}
	checkKept(t, "Copies", p, before)
}

// checkFlood fails, unless those are the steps from a segment, and the flood is what they say, with so many copies.
func checkFlood(t *testing.T, p place, seg, copies int, steps ...int) {
	t.Helper()
	var reached []int
	for at, far := range steps {
		if far >= 0 {
			reached = append(reached, at)
		}
	}
	checkSteps(t, p, seg, api.OK, steps...)
	checkReach(t, p, seg, api.OK, reached...)
	checkCopies(t, p, seg, copies, api.OK)
}

// checkError fails, unless all calls tell that error of that segment.
func checkError(t *testing.T, p place, seg int, want api.Errno) {
	t.Helper()
	checkReach(t, p, seg, want)
	checkSteps(t, p, seg, want)
	checkCopies(t, p, seg, 0, want)
	for _, other := range []int{seg, 0, 7, -1, p.l.Segs - 1, p.l.Segs, math.MaxInt, math.MinInt} {
		checkPath(t, p, seg, other, want)
		checkPath(t, p, other, seg, want)
	}
}

// checkWrong fails, unless the plan and the open ports may not be, whatever is asked of them.
func checkWrong(t *testing.T, p place) {
	t.Helper()
	for _, seg := range []int{0, 7, 8, -1, p.l.Segs, math.MaxInt, math.MinInt} { // that is named ahead of a segment that is not there
		checkError(t, p, seg, api.ErrArg)
	}
}

func TestExample(t *testing.T) { // the chapter's table
	checkReach(t, of(2, "01"), 0, api.OK, 0, 1)
	checkSteps(t, of(2, "01"), 0, api.OK, 0, 1)
	checkFlood(t, of(2, "01"), 1, 1, 1, 0)
	checkPath(t, of(2, "01"), 0, 1, api.OK, 0, 1)
	checkPath(t, of(2, "01"), 1, 0, api.OK, 1, 0)
}

func TestNoBridge(t *testing.T) { // P17.1, P17.2, R3
	for segs := 1; segs <= 8; segs++ {
		for _, p := range []place{of(segs), {l: api.Lan{Segs: segs, Plans: []api.Plan{}, Hosts: []api.Host{}}, open: [][]bool{}}} {
			for seg := range segs {
				steps := slices.Repeat([]int{-1}, segs)
				steps[seg] = 0
				checkFlood(t, p, seg, 0, steps...)
				for to := range segs {
					if to == seg {
						checkPath(t, p, seg, to, api.OK, seg)
					} else {
						checkPath(t, p, seg, to, api.ErrNone)
					}
				}
			}
		}
	}
}

func TestARow(t *testing.T) { // P17.1, P17.2: of segments in no order
	p := of(7, "53", "31", "10", "06", "62", "24")
	checkFlood(t, p, 5, 6, 3, 2, 5, 1, 6, 0, 4)
	checkFlood(t, p, 4, 6, 3, 4, 1, 5, 0, 6, 2)
	checkFlood(t, p, 0, 6, 0, 1, 2, 2, 3, 3, 1)
	checkPath(t, p, 5, 4, api.OK, 5, 3, 1, 0, 6, 2, 4)
	checkPath(t, p, 4, 5, api.OK, 4, 2, 6, 0, 1, 3, 5)
	checkPath(t, p, 0, 2, api.OK, 0, 6, 2)
	checkPath(t, p, 6, 6, api.OK, 6)
}

func TestABridgeOfManyPorts(t *testing.T) { // P17.1, P17.2: each is one step away
	p := of(8, "01234567")
	for from := range 8 {
		steps := slices.Repeat([]int{1}, 8)
		steps[from] = 0
		checkFlood(t, p, from, 7, steps...)
		for to := range 8 {
			if to != from {
				checkPath(t, p, from, to, api.OK, from, to)
			}
		}
	}
	p = of(8, "42", "7012", "563")
	checkFlood(t, p, 4, 4, 2, 2, 1, -1, 0, -1, -1, 2)
	checkFlood(t, p, 6, 2, -1, -1, -1, 1, -1, 1, 0, -1)
	checkPath(t, p, 4, 7, api.OK, 4, 2, 7)
	checkPath(t, p, 4, 6, api.ErrNone)
	checkPath(t, p, 6, 4, api.ErrNone)
}

func TestPortsThatAreNotOpen(t *testing.T) { // P17.1, P17.2: open is what is up, and is said to be
	for _, closed := range []string{"b0", "B0", "Q0", "a1", "A1", "P1", "ab", "AB", "PQ", "aB", "bA"} {
		p := of(2, closed)
		checkFlood(t, p, 0, 0, 0, -1)
		checkFlood(t, p, 1, 0, -1, 0)
		checkPath(t, p, 0, 1, api.ErrNone)
		checkPath(t, p, 1, 0, api.ErrNone)
		p = of(2, closed, "01") // another bridge leads there all the same
		checkFlood(t, p, 0, 1, 0, 1)
		checkPath(t, p, 1, 0, api.OK, 1, 0)
	}
	p := of(5, "01cDS", "12", "c3", "C34")
	checkFlood(t, p, 0, 2, 0, 1, 2, -1, -1)
	checkFlood(t, p, 3, 1, -1, -1, -1, 0, 1)
	checkPath(t, p, 0, 2, api.OK, 0, 1, 2)
	checkPath(t, p, 0, 3, api.ErrNone)
	checkPath(t, p, 4, 3, api.OK, 4, 3)
}

func TestAPortAloneLeadsNowhere(t *testing.T) { // P17.1, P17.2: in by a port, and out by another one
	checkFlood(t, of(2, "0", "1", "0"), 0, 0, 0, -1)
	checkFlood(t, of(1, "0"), 0, 0, 0)
	checkPath(t, of(2, "0", "1"), 0, 1, api.ErrNone)
	checkPath(t, of(1, "0"), 0, 0, api.OK, 0)
}

func TestPortsOfABridgeOnOneSegment(t *testing.T) { // P17.1, P17.2: the segment where it began is still 0 steps away, but more copies go out
	checkFlood(t, of(1, "00"), 0, 1, 0)
	checkFlood(t, of(1, "00000000"), 0, 7, 0)
	checkFlood(t, of(2, "0011"), 0, 3, 0, 1)
	checkFlood(t, of(2, "0011"), 1, 3, 1, 0)
	checkFlood(t, of(3, "001", "1a", "122"), 0, 4, 0, 1, 2)
	checkPath(t, of(2, "0011"), 0, 1, api.OK, 0, 1)
	checkPath(t, of(2, "0011"), 0, 0, api.OK, 0)
	checkPath(t, of(1, "00"), 0, 0, api.OK, 0)
}

func TestLoops(t *testing.T) { // P17.1, P17.2: the least steps count, and all copies
	ring := of(6, "01", "12", "23", "34", "45", "50")
	checkFlood(t, ring, 0, 6, 0, 1, 2, 3, 2, 1)
	checkFlood(t, ring, 4, 6, 2, 3, 2, 1, 0, 1)
	checkFlood(t, of(2, "01", "01", "01"), 0, 3, 0, 1)
	checkFlood(t, of(4, "01", "12", "20", "23"), 0, 4, 0, 1, 1, 2)
	checkFlood(t, full(), 3, 6*7, 1, 1, 1, 0, 1, 1, 1, 1)
	short := of(5, "01", "12", "23", "34", "04") // a short way, behind a long one
	checkFlood(t, short, 0, 5, 0, 1, 2, 2, 1)
	checkPath(t, short, 0, 3, api.OK, 0, 4, 3)
	checkPath(t, short, 0, 2, api.OK, 0, 1, 2)
}

func TestCopiesAreOfBridgesThatTheFloodComesTo(t *testing.T) { // P17.2
	p := of(6, "01", "01", "345", "34", "2", "2bA")
	checkCopies(t, p, 0, 2, api.OK)
	checkCopies(t, p, 1, 2, api.OK)
	checkCopies(t, p, 2, 0, api.OK) // those that are there have no other open port
	checkCopies(t, p, 3, 3, api.OK)
	checkCopies(t, p, 5, 3, api.OK)
	checkCopies(t, of(3, "a12", "A12", "P12"), 0, 0, api.OK) // those on it are not open
	checkCopies(t, of(3, "a12", "A12", "P12"), 1, 3, api.OK)
	checkCopies(t, of(4, "01", "123"), 0, 3, api.OK) // a bridge farther away counts as well
}

func TestThePathIsTheLeastSeenFromItsEnd(t *testing.T) { // P17.2
	p := of(6, "01", "02", "14", "23", "35", "45") // 0 1 4 5 is less, seen from 0
	checkPath(t, p, 0, 5, api.OK, 0, 2, 3, 5)      // 3 is less than 4
	checkPath(t, p, 5, 0, api.OK, 5, 4, 1, 0)      // 1 is less than 2
	p = of(6, "50", "53", "02", "31", "14", "24")  // the same with others
	checkPath(t, p, 5, 4, api.OK, 5, 3, 1, 4)      // 1 is less than 2
	checkPath(t, p, 4, 5, api.OK, 4, 2, 0, 5)      // 0 is less than 3
	p = of(6, "0123", "1234", "45")                // many of one length
	checkPath(t, p, 0, 5, api.OK, 0, 1, 4, 5)      // by 1, 2 or 3
	checkPath(t, p, 5, 0, api.OK, 5, 4, 1, 0)      // as well
	p = of(6, "0321", "4321", "54")                // whatever the order of ports
	checkPath(t, p, 0, 5, api.OK, 0, 1, 4, 5)      // or of bridges
	p = of(8, "70", "71", "02", "16", "24", "64")  // 1 6 4 is greater than 0 2 4
	checkPath(t, p, 7, 4, api.OK, 7, 0, 2, 4)
	checkPath(t, p, 4, 7, api.OK, 4, 2, 0, 7)
	checkPath(t, p.changed(func(p *place) { p.open[2][0] = false }), 7, 4, api.OK, 7, 1, 6, 4)
	p = of(5, "30", "04", "42", "31", "12") // a longer way is never the one, though it is less
	checkPath(t, p, 3, 2, api.OK, 3, 1, 2)
	checkPath(t, p, 3, 4, api.OK, 3, 0, 4)
}

func TestThePathIsOnlyOfOpenPorts(t *testing.T) { // P17.2
	p := of(4, "01", "02", "13", "2d") // the way by 2 is not open
	checkPath(t, p, 0, 3, api.OK, 0, 1, 3)
	p = of(4, "01", "02", "1D", "23")
	checkPath(t, p, 0, 3, api.OK, 0, 2, 3)
	p = of(4, "01", "02", "1S", "23", "b3", "B3")
	checkPath(t, p, 0, 3, api.OK, 0, 2, 3)
	checkPath(t, p, 3, 0, api.OK, 3, 2, 0)
	p = of(3, "01", "12", "0c")
	checkPath(t, p, 0, 2, api.OK, 0, 1, 2)
	checkSteps(t, p, 0, api.OK, 0, 1, 2)
}

func TestNeitherCostsNorIDsNorStationsCount(t *testing.T) { // P17.1, P17.2
	p := of(4, "01", "12", "03", "32").changed(func(p *place) {
		p.l.Plans[0].ID, p.l.Plans[1].ID, p.l.Plans[2].ID, p.l.Plans[3].ID = 65535, 7, 0, 1
		p.l.Plans[0].Ports[0].Cost, p.l.Plans[1].Ports[1].Cost = 1000, 1000
		p.l.Hosts = []api.Host{{Mac: 2, Seg: 3}, {Mac: 4, Seg: 3}, {Mac: 0, Seg: 1}}
	})
	checkFlood(t, p, 0, 4, 0, 1, 2, 1)
	checkPath(t, p, 0, 2, api.OK, 0, 1, 2)
}

func TestNoSuchSegment(t *testing.T) { // P17.1, P17.2, R2, P1
	for segs := 1; segs <= 8; segs++ {
		for _, p := range []place{of(segs), of(segs, "00", "0a", "A")} {
			for _, seg := range append([]int{segs, segs + 1, -segs}, noSegs...) {
				checkError(t, p, seg, api.ErrRange) // also where the other one of a path is not there
				for other := range segs {           // or the flood of one does not come to the other one
					checkPath(t, p, seg, other, api.ErrRange)
					checkPath(t, p, other, seg, api.ErrRange)
				}
			}
		}
	}
}

func TestWrongPlans(t *testing.T) { // P17.1, R2, P1
	wrong := []func(p *place){
		func(p *place) { *p = place{} },
		func(p *place) { p.l.Segs = 0 },
		func(p *place) { p.l.Segs = 7 },
		func(p *place) { p.l.Segs = 9 },
		func(p *place) { p.l.Segs = math.MaxInt },
		func(p *place) { p.l.Segs = math.MinInt },
		func(p *place) { p.l.Hosts = append(p.l.Hosts, api.Host{Mac: 20}) },
		func(p *place) { p.l.Hosts[7].Mac = 6 },
		func(p *place) { p.l.Hosts[3].Mac = api.Broadcast },
		func(p *place) { p.l.Hosts[3].Seg = 8 },
		func(p *place) { *p = of(1, "0", "0", "0", "0", "0", "0", "0") },
		func(p *place) { p.l.Plans, p.open = make([]api.Plan, 1<<10), make([][]bool, 1<<10) },
	}
	for _, change := range wrong {
		checkWrong(t, full().changed(change))
	}
	for b := range 6 {
		for _, id := range []int{-1, 65536, math.MaxInt, math.MinInt, 10 + (b+1)%6} {
			checkWrong(t, full().changed(func(p *place) { p.l.Plans[b].ID = id }))
		}
		for _, count := range []int{0, 9, 1 << 16} {
			checkWrong(t, full().changed(func(p *place) {
				p.l.Plans[b].Ports = slices.Repeat([]api.Link{{Cost: 1, Up: true}}, count)
				p.open[b] = slices.Repeat([]bool{true}, count)
			}))
		}
		for at := range 8 {
			for _, link := range []api.Link{{Seg: -1, Cost: 1}, {Seg: 8, Cost: 1, Up: true}, {Cost: 0}, {Cost: -1, Up: true}, {Cost: 1001}, {Seg: math.MaxInt, Cost: math.MinInt}} {
				for _, is := range []bool{true, false} {
					checkWrong(t, full().changed(func(p *place) { p.l.Plans[b].Ports[at], p.open[b][at] = link, is }))
				}
			}
		}
	}
}

func TestRowsAreAsManyAsBridges(t *testing.T) { // P17.1, R2, R3, P1
	bridges := []string{"01", "10", "00", "11", "ab", "AB"}
	for count := range 7 {
		p := of(2, bridges[:count]...)
		for _, rows := range []int{0, 1, 2, 3, 4, 5, 6, 7, 8, 255, 256, 1 << 10} {
			if rows == count {
				continue
			}
			for _, row := range [][]bool{{true, true}, {false, false}} {
				checkWrong(t, p.changed(func(p *place) { p.open = slices.Repeat([][]bool{row}, rows) }))
			}
		}
		checkWrong(t, p.changed(func(p *place) { p.open = append(p.open, nil) }))
		checkWrong(t, p.changed(func(p *place) { p.open = append(p.open, []bool{}) }))
		if count > 0 {
			checkWrong(t, p.changed(func(p *place) { p.open = nil }))
			checkWrong(t, p.changed(func(p *place) { p.open = [][]bool{} }))
			checkWrong(t, p.changed(func(p *place) { p.open = p.open[1:] }))
			checkWrong(t, p.changed(func(p *place) { p.open = p.open[:count-1] }))
		}
	}
}

func TestRowsAreAsLongAsPorts(t *testing.T) { // P17.1, R2, R3, P1
	ports := []string{"0", "01", "012", "0123", "0a0A0P0", "01234567"}
	p := of(8, ports...)
	checkReach(t, p, 5, api.OK, 0, 1, 2, 3, 4, 5, 6, 7)
	for b, own := range ports {
		for _, count := range []int{0, 1, 2, 3, 4, 5, 6, 7, 8, 9, 16, 255, 256, 257, 1 << 16} {
			if count == len(own) {
				continue
			}
			for _, is := range []bool{true, false} {
				checkWrong(t, p.changed(func(p *place) { p.open[b] = slices.Repeat([]bool{is}, count) }))
			}
		}
		checkWrong(t, p.changed(func(p *place) { p.open[b] = nil }))
		for other := range b { // as many in all, but not of each
			checkWrong(t, p.changed(func(p *place) { p.open[b], p.open[other] = p.open[other], p.open[b] }))
		}
	}
}

// isJoined and those behind it say independently what the chapter's words have.
func isJoined(p place, from, to int) bool {
	for b, plan := range p.l.Plans {
		for in, first := range plan.Ports {
			for out, second := range plan.Ports {
				isIn := first.Up && p.open[b][in] && first.Seg == from
				isOut := second.Up && p.open[b][out] && second.Seg == to
				if in != out && isIn && isOut {
					return true
				}
			}
		}
	}
	return false
}

// rowsFrom tells all rows of segments from those on, no two of one, each but the first one joined with the one ahead.
func rowsFrom(p place, ahead ...int) [][]int {
	all := [][]int{ahead}
	for next := range p.l.Segs {
		if !slices.Contains(ahead, next) && isJoined(p, ahead[len(ahead)-1], next) {
			all = append(all, rowsFrom(p, append(slices.Clone(ahead), next)...)...)
		}
	}
	return all
}

// compare tells which of two rows is to be the path: the shorter one, then the one that is less, seen from the end.
func compare(a, b []int) int {
	if len(a) != len(b) {
		return len(a) - len(b)
	}
	for at := len(a) - 1; at >= 0; at-- {
		if a[at] != b[at] {
			return a[at] - b[at]
		}
	}
	return 0
}

// wantPaths tells the path to each segment; none, if the flood does not come there.
func wantPaths(p place, from int) [][]int {
	paths := make([][]int, p.l.Segs)
	for _, row := range rowsFrom(p, from) {
		to := row[len(row)-1]
		if paths[to] == nil || compare(row, paths[to]) < 0 {
			paths[to] = row
		}
	}
	return paths
}

// wantCopies tells how many copies go out, if each bridge that hears a frame for the first time sends it on to all its other open ports.
func wantCopies(p place, from int) int {
	copies := 0
	isHeard := make([]bool, p.l.Segs)
	isHeard[from] = true
	hasSent := make([]bool, len(p.l.Plans))
	for range p.l.Plans {
		for b, plan := range p.l.Plans {
			takes := false
			for at, port := range plan.Ports {
				takes = takes || port.Up && p.open[b][at] && isHeard[port.Seg]
			}
			if !takes || hasSent[b] {
				continue
			}
			hasSent[b] = true
			copies-- // it does not go back
			for at, port := range plan.Ports {
				if port.Up && p.open[b][at] {
					isHeard[port.Seg] = true
					copies++
				}
			}
		}
	}
	return copies
}

// checkAll fails, unless all calls tell what the document asks of a plan that may be, and what follows from that is so.
func checkAll(t *testing.T, p place) {
	t.Helper()
	for from := range p.l.Segs {
		var steps []int
		for to, path := range wantPaths(p, from) {
			if path == nil {
				checkPath(t, p, from, to, api.ErrNone)
			} else {
				checkPath(t, p, from, to, api.OK, path...)
			}
			steps = append(steps, len(path)-1)
		}
		checkFlood(t, p, from, wantCopies(p, from), steps...)
	}
	checkFollows(t, p)
	for _, seg := range []int{-1, p.l.Segs} {
		checkError(t, p, seg, api.ErrRange)
	}
}

// checkFollows fails, unless floods are the parts of the open ports, and have one way and no copy too many, where there is no loop.
func checkFollows(t *testing.T, p place) {
	t.Helper()
	left := onlyOpen(p)
	loops, _ := lan.Loops(left)
	for from := range p.l.Segs {
		reached, _ := flood.Reach(p.l, p.open, from)
		if part, _ := lan.Part(left, from); !slices.Equal(reached, part) {
			t.Errorf("Reach(%+v, %d) = %v, its part is %v", p, from, reached, part)
		}
		for _, other := range reached {
			checkReach(t, p, other, api.OK, reached...)
		}
		if loops > 0 {
			continue
		}
		checkCopies(t, p, from, len(reached)-1, api.OK)
		rows := rowsFrom(p, from)
		steps, _ := flood.Steps(p.l, p.open, from)
		isShortest := func(row []int) bool { return len(row)-1 == steps[row[len(row)-1]] }
		if rows = slices.DeleteFunc(rows, func(row []int) bool { return !isShortest(row) }); len(rows) != len(reached) {
			t.Errorf("%+v has paths %v from %d", p, rows, from)
		}
		for _, row := range rows {
			back := slices.Clone(row)
			slices.Reverse(back)
			checkPath(t, p, row[len(row)-1], from, api.OK, back...)
		}
	}
}

// onlyOpen tells the plan in which only the open ports are up.
func onlyOpen(p place) api.Lan {
	left := p.clone()
	for b, row := range left.open {
		for at, is := range row {
			port := &left.l.Plans[b].Ports[at]
			port.Up = port.Up && is
		}
	}
	return left.l
}

// texts tells all of one or up to so many signs.
func texts(most int, signs string) []string {
	var all []string
	last := []string{""}
	for range most {
		var more []string
		for _, ahead := range last {
			for _, sign := range signs {
				more = append(more, ahead+string(sign))
			}
		}
		all, last = append(all, more...), more
	}
	return all
}

func TestAllSmallPlans(t *testing.T) { // P17.1, P17.2, P17.3
	few := texts(3, "012")
	for _, first := range few {
		for _, second := range few {
			checkAll(t, of(3, first, second))
		}
	}
	few = texts(2, "01aBP")
	for _, first := range few {
		for _, second := range few {
			checkAll(t, of(2, first, second))
		}
	}
	pairs := []string{"01", "12", "03", "32", "2d", "D1", "0", "13"}
	for _, first := range pairs {
		for _, second := range pairs {
			for _, third := range pairs {
				checkAll(t, of(4, first, second, third))
			}
		}
	}
}

// chance tells numbers that are always the same ones.
type chance uint64

func (c *chance) below(n int) int {
	*c = *c*6364136223846793005 + 1442695040888963407
	return int(*c>>33) % n
}

// place tells one that may be, of bridges with few ports or with many, that are often open or seldom.
func (c *chance) place(mostSegs, mostPorts int) place {
	p := place{l: api.Lan{Segs: 1 + c.below(mostSegs)}}
	most, ups, opens := 1+c.below(mostPorts), 1+c.below(9), 1+c.below(9)
	for at := range c.below(7) {
		plan := api.Plan{ID: 6*c.below(10922) + at}
		var row []bool
		for range 1 + c.below(most) {
			plan.Ports = append(plan.Ports, api.Link{Seg: c.below(p.l.Segs), Cost: 1 + c.below(1000), Up: c.below(ups+1) > 0})
			row = append(row, c.below(opens+1) > 0)
		}
		p.l.Plans, p.open = append(p.l.Plans, plan), append(p.open, row)
	}
	return p
}

func TestManyPlans(t *testing.T) { // P17.1, P17.2, P17.3
	c := chance(17)
	for range 8000 {
		checkAll(t, c.place(6, 3))
	}
	for range 1500 {
		checkAll(t, c.place(8, 2))
	}
	for range 100 {
		checkAll(t, c.place(7, 8))
	}
}

func TestAlongTheTree(t *testing.T) { // P17.3: its open ports come to all that all ports come to, by one way
	c := chance(18)
	for range 500 {
		p := c.place(8, 4)
		all := p.changed(func(p *place) {
			for b := range p.open {
				p.open[b] = slices.Repeat([]bool{true}, len(p.open[b]))
			}
		})
		open, _ := tree.Open(p.l)
		along := place{l: p.l, open: open}
		for from := range p.l.Segs {
			reached, _ := flood.Reach(all.l, all.open, from)
			checkReach(t, along, from, api.OK, reached...)
			checkCopies(t, along, from, len(reached)-1, api.OK)
			for _, to := range reached {
				path, _ := flood.Path(p.l, open, from, to)
				slices.Reverse(path)
				checkPath(t, along, to, from, api.OK, path...)
			}
		}
	}
}

func TestManyPlansWithAWrongPlace(t *testing.T) { // P17.1, R2, P1
	c := chance(19)
	one := func(l ...int) int { return l[c.below(len(l))] }
	for range 1000 {
		p := c.place(8, 8)
		if len(p.l.Plans) == 0 {
			continue
		}
		b := c.below(len(p.l.Plans))
		plan, row := &p.l.Plans[b], &p.open[b]
		port := &plan.Ports[c.below(len(plan.Ports))]
		switch c.below(7) {
		case 0:
			p.l.Segs = one(0, -1, 9, math.MaxInt, math.MinInt)
		case 1:
			plan.ID = one(-1, 65536, math.MaxInt, math.MinInt)
		case 2:
			port.Seg = one(-1, p.l.Segs, 8, math.MaxInt, math.MinInt)
		case 3:
			port.Cost = one(0, -1, 1001, math.MaxInt, math.MinInt)
		case 4:
			*row = append(*row, c.below(2) > 0)
		case 5:
			*row = (*row)[1:]
		default:
			p.open = slices.Delete(p.open, b, b+1)
		}
		checkWrong(t, p)
	}
}

func overwrite(list []int) {
	whole := list[:cap(list)]
	for i := range whole {
		whole[i] = -7
	}
}

func TestWhatIsAnsweredIsNewMemory(t *testing.T) { // R1, R4
	c := chance(20)
	for _, p := range []place{of(2, "01"), of(6, "01", "02", "14", "23", "35", "45"), c.place(5, 3), c.place(5, 3), c.place(5, 3)} {
		before := p.clone()
		for from := range p.l.Segs {
			reached, _ := flood.Reach(p.l, p.open, from)
			steps, _ := flood.Steps(p.l, p.open, from)
			path, _ := flood.Path(p.l, p.open, from, p.l.Segs-1)
			overwrite(reached)
			overwrite(steps)
			overwrite(path)
		}
		checkKept(t, "one of all", p, before)
		checkAll(t, p)
	}
}

func TestManyAtOnceHearTheSame(t *testing.T) { // R1
	p := of(6, "01", "02", "14", "23", "35", "45")
	var group sync.WaitGroup
	for worker := range 8 {
		group.Go(func() {
			for at := range 20 {
				seg := (worker + at) % 6
				steps, _ := flood.Steps(p.l, p.open, seg)
				checkFlood(t, p, seg, 6, steps...)
				checkPath(t, p, 0, 5, api.OK, 0, 2, 3, 5)
			}
		})
	}
	group.Wait()
}

// FuzzAllCalls asks that no plan makes a call panic, and that all calls tell what the document asks (P1).
func FuzzAllCalls(f *testing.F) {
	f.Add(uint64(1), 0, 1, 1, 0, 0)
	f.Add(uint64(2), -1, 9, 1001, 65536, 1)
	f.Add(uint64(3), 5, 6, 1000, 65535, -1)
	f.Fuzz(func(t *testing.T, seed uint64, seg, segs, cost, id, longer int) {
		c := chance(seed)
		p := c.place(6, 3)
		p.l.Segs = segs
		isRow := true
		if len(p.l.Plans) > 0 {
			b := c.below(len(p.l.Plans))
			p.l.Plans[b].ID = id
			p.l.Plans[b].Ports[c.below(len(p.l.Plans[b].Ports))] = api.Link{Seg: seg, Cost: cost, Up: c.below(2) > 0}
			was := len(p.open[b])
			p.open[b] = slices.Repeat([]bool{c.below(2) > 0}, min(max(was+longer, 0), 100))
			isRow = len(p.open[b]) == was
		}
		if lan.Right(p.l) && isRow {
			checkAll(t, p)
		} else {
			checkWrong(t, p)
		}
	})
}
