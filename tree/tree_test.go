package tree_test

import (
	"math"
	"slices"
	"sync"
	"testing"

	"footway/api"
	"footway/lan"
	"footway/role"
	"footway/tree"
	"footway/vec"
)

// The roles, as short as a table wants them.
const (
	rt = api.RRoot
	de = api.RDesignated
	al = api.RAlternate
	of = api.ROff
)

var noPlaces = []int{-1, -2, -6, -8, 8, 9, 255, 256, 1 << 32, math.MaxInt, math.MinInt} // of a plan of at most eight of a kind

// links tells ports by pairs of a sign and a cost's digit: of a segment's digit, and up, or of its letter (a is 0), and not.
func links(text string) []api.Link {
	var ports []api.Link
	for at := 0; at < len(text); at += 3 {
		sign := text[at]
		port := api.Link{Seg: int(sign - '0'), Cost: int(text[at+1] - '0'), Up: true}
		if sign >= 'a' {
			port.Seg, port.Up = int(sign-'a'), false
		}
		ports = append(ports, port)
	}
	return ports
}

// plan tells one of bridges 10, 11 and so on, by their ports, such as "01 13": on segments 0 and 1, of costs 1 and 3.
func plan(segs int, bridges ...string) api.Lan {
	l := api.Lan{Segs: segs}
	for at, ports := range bridges {
		l.Plans = append(l.Plans, api.Plan{ID: 10 + at, Ports: links(ports)})
	}
	return l
}

// full tells the greatest plan that may be.
func full() api.Lan {
	all8 := "01 11 21 31 41 51 61 71"
	l := plan(8, all8, all8, all8, all8, all8, all8)
	for seg := range 8 {
		l.Hosts = append(l.Hosts, api.Host{Mac: seg, Seg: seg})
	}
	return l
}

func clone(l api.Lan) api.Lan {
	l.Plans, l.Hosts = slices.Clone(l.Plans), slices.Clone(l.Hosts)
	for at := range l.Plans {
		l.Plans[at].Ports = slices.Clone(l.Plans[at].Ports)
	}
	return l
}

// changed tells the plan behind a change.
func changed(l api.Lan, change func(l *api.Lan)) api.Lan {
	l = clone(l)
	change(&l)
	return l
}

// withIDs tells the plan with those bridges.
func withIDs(l api.Lan, ids ...int) api.Lan {
	return changed(l, func(l *api.Lan) {
		for at, id := range ids {
			l.Plans[at].ID = id
		}
	})
}

func samePlan(a, b api.Plan) bool {
	return a.ID == b.ID && slices.Equal(a.Ports, b.Ports)
}

func checkKept(t *testing.T, name string, l, before api.Lan) {
	t.Helper()
	if l.Segs != before.Segs || !slices.EqualFunc(l.Plans, before.Plans, samePlan) || !slices.Equal(l.Hosts, before.Hosts) {
		t.Errorf("%s changed %+v to %+v", name, before, l)
	}
}

func checkBest(t *testing.T, l api.Lan, b, wantRoot, wantCost int, wantErr api.Errno) {
	t.Helper()
	before := clone(l)
	root, cost, e := tree.Best(l, b)
	if root != wantRoot || cost != wantCost || e != wantErr {
		t.Errorf("Best(%+v, %d) = %d, %d, %d, want %d, %d, %d", l, b, root, cost, e, wantRoot, wantCost, wantErr)
	}
	checkKept(t, "Best", l, before)
}

// checkBests fails, unless these are the roots and the costs of all bridges.
func checkBests(t *testing.T, l api.Lan, want ...[2]int) {
	t.Helper()
	if len(want) != len(l.Plans) {
		t.Fatalf("%d bests of %d bridges", len(want), len(l.Plans))
	}
	for b, best := range want {
		checkBest(t, l, b, best[0], best[1], api.OK)
	}
}

func checkRoles(t *testing.T, l api.Lan, wantErr api.Errno, want ...[]int) {
	t.Helper()
	before := clone(l)
	roles, e := tree.Roles(l)
	if !slices.EqualFunc(roles, want, slices.Equal[[]int]) || e != wantErr {
		t.Errorf("Roles(%+v) = %v, %d, want %v, %d", l, roles, e, want, wantErr)
	}
	checkKept(t, "Roles", l, before)
}

func checkOpen(t *testing.T, l api.Lan, wantErr api.Errno, want ...[]bool) {
	t.Helper()
	before := clone(l)
	open, e := tree.Open(l)
	if !slices.EqualFunc(open, want, slices.Equal[[]bool]) || e != wantErr {
		t.Errorf("Open(%+v) = %v, %d, want %v, %d", l, open, e, want, wantErr)
	}
	checkKept(t, "Open", l, before)
}

func checkOwn(t *testing.T, l api.Lan, seg int, want [2]int, wantIs bool, wantErr api.Errno) {
	t.Helper()
	before := clone(l)
	own, is, e := tree.Own(l, seg)
	if own != want || is != wantIs || e != wantErr {
		t.Errorf("Own(%+v, %d) = %v, %t, %d, want %v, %t, %d", l, seg, own, is, e, want, wantIs, wantErr)
	}
	checkKept(t, "Own", l, before)
}

// checkNoOwn fails, unless a segment that there is has none.
func checkNoOwn(t *testing.T, l api.Lan, seg int) {
	t.Helper()
	checkOwn(t, l, seg, [2]int{}, false, api.OK)
}

// checkTree fails, unless these are the roles of all ports, and what follows from them is so.
func checkTree(t *testing.T, l api.Lan, want ...[]int) {
	t.Helper()
	checkRoles(t, l, api.OK, want...)
	checkOpen(t, l, api.OK, opened(want)...)
	for seg := range l.Segs {
		own, is := designated(l, want, seg)
		checkOwn(t, l, seg, own, is, api.OK)
	}
}

// opened tells which ports those roles open.
func opened(roles [][]int) [][]bool {
	var all [][]bool
	for _, row := range roles {
		var open []bool
		for _, r := range row {
			open = append(open, r == rt || r == de)
		}
		all = append(all, open)
	}
	return all
}

// designated tells the one port of a segment that has that role.
func designated(l api.Lan, roles [][]int, seg int) ([2]int, bool) {
	for b, row := range roles {
		for p, r := range row {
			if r == de && l.Plans[b].Ports[p].Seg == seg {
				return [2]int{b, p}, true
			}
		}
	}
	return [2]int{}, false
}

// checkWrong fails, unless the plan may not be, whatever is asked of it.
func checkWrong(t *testing.T, l api.Lan) {
	t.Helper()
	for _, place := range []int{0, 1, 7, 8, -1, l.Segs, len(l.Plans), math.MaxInt, math.MinInt} { // that is named ahead of a place that is not there
		checkBest(t, l, place, 0, 0, api.ErrArg)
		checkOwn(t, l, place, [2]int{}, false, api.ErrArg)
	}
	checkRoles(t, l, api.ErrArg)
	checkOpen(t, l, api.ErrArg)
}

func TestExample(t *testing.T) { // the chapter's table
	l := withIDs(plan(2, "01 11", "01 11"), 1, 2)
	checkTree(t, l, []int{de, de}, []int{rt, al})
	checkBests(t, l, [2]int{1, 0}, [2]int{1, 1})
}

func TestOneBridge(t *testing.T) { // P16.1, P16.2
	for _, id := range []int{0, 1, 65535} {
		l := withIDs(plan(3, "21 b5 01"), id)
		checkBests(t, l, [2]int{id, 0})
		checkTree(t, l, []int{de, of, de})
		checkNoOwn(t, l, 1)
	}
	checkTree(t, plan(1, "01"), []int{de})
	checkTree(t, plan(1, "a1"), []int{of})
	checkTree(t, plan(1, "01 01 01"), []int{de, al, al}) // the least of its ports is the segment's own
	checkTree(t, plan(1, "a1 09 01"), []int{of, de, al}) // whatever they cost
	checkTree(t, plan(2, "11 01 11 01"), []int{de, de, al, al})
}

func TestNoBridge(t *testing.T) { // P16.1, P16.2, R3
	for segs := 1; segs <= 8; segs++ {
		for _, l := range []api.Lan{{Segs: segs}, {Segs: segs, Plans: []api.Plan{}, Hosts: []api.Host{}}} {
			checkTree(t, l)
			for seg := range segs {
				checkNoOwn(t, l, seg)
			}
			for _, b := range append([]int{0, 1}, noPlaces...) {
				checkBest(t, l, b, 0, 0, api.ErrRange)
			}
		}
	}
}

func TestTheLeastIDIsTheRoot(t *testing.T) { // P16.1: at whatever place
	row := plan(4, "09 11", "12 21", "23 31") // a row of bridges: 0 to 1 to 2 to 3
	checkBests(t, withIDs(row, 0, 5, 9), [2]int{0, 0}, [2]int{0, 2}, [2]int{0, 5})
	checkBests(t, withIDs(row, 9, 5, 0), [2]int{0, 2}, [2]int{0, 1}, [2]int{0, 0})
	checkBests(t, withIDs(row, 7, 6, 65535), [2]int{6, 1}, [2]int{6, 0}, [2]int{6, 3})
	checkTree(t, withIDs(row, 0, 5, 9), []int{de, de}, []int{rt, de}, []int{rt, de})
	checkTree(t, withIDs(row, 9, 5, 0), []int{de, rt}, []int{de, rt}, []int{de, de})
	checkTree(t, withIDs(row, 7, 6, 65535), []int{de, rt}, []int{de, de}, []int{rt, de})
}

func TestEachPartHasARootOfItsOwn(t *testing.T) { // P16.1
	l := withIDs(plan(5, "01 11", "21 31", "12 02", "33 23", "41"), 9, 8, 7, 6, 5)
	checkBests(t, l, [2]int{7, 1}, [2]int{6, 1}, [2]int{7, 0}, [2]int{6, 0}, [2]int{5, 0})
	checkTree(t, l, []int{al, rt}, []int{al, rt}, []int{de, de}, []int{de, de}, []int{de})
}

func TestTheLeastRootGoesAheadOfTheLeastCost(t *testing.T) { // P16.1
	// Bridge 2's neighbour is 1, of cost 1; 0 is far away.
	l := withIDs(plan(4, "01 19", "01 19", "19 29", "29 39"), 2, 1, 3, 0)
	checkBests(t, l, [2]int{0, 9 + 9}, [2]int{0, 9 + 9}, [2]int{0, 9}, [2]int{0, 0})
	l.Plans[0].Ports[1].Cost = 1 // and 1's way goes by 2 now
	checkBests(t, l, [2]int{0, 1 + 9}, [2]int{0, 1 + 1 + 9}, [2]int{0, 9}, [2]int{0, 0})
}

func TestCostsAreThoseOfTheBridgesOnTheWay(t *testing.T) { // P16.1: each but the last one, of the port towards the next one
	l := plan(3, "09 17", "15 28", "23 06")                            // all in a ring
	checkBests(t, l, [2]int{10, 0}, [2]int{10, 5}, [2]int{10, 6})      // straight
	checkTree(t, l, []int{de, de}, []int{rt, de}, []int{al, rt})       // 2 is nearer to bridge 11
	l = plan(3, "09 17", "19 21", "21 06")                             // around is less
	checkBests(t, l, [2]int{10, 0}, [2]int{10, 1 + 6}, [2]int{10, 6})  // by the next one
	checkTree(t, l, []int{de, de}, []int{al, rt}, []int{de, rt})       // so that it is open there
	l = plan(3, "01 11", "18 22", "21 06")                             // as far each way
	checkBests(t, l, [2]int{10, 0}, [2]int{10, 8}, [2]int{10, 6})      // by either
	checkTree(t, l, []int{de, de}, []int{rt, al}, []int{de, rt})       // the one that is told by the less bridge
	l = withIDs(l, 10, 12, 9)                                          // another root
	checkBests(t, l, [2]int{9, 1}, [2]int{9, 2}, [2]int{9, 0})         // so other ports count
	checkTree(t, l, []int{rt, de}, []int{al, rt}, []int{de, de})       // and other ones are open
	l = withIDs(plan(3, "09 17", "15 28", "23 06"), 65535, 65534, 1e4) // and the last one's never do
	checkBests(t, l, [2]int{1e4, 9}, [2]int{1e4, 8}, [2]int{1e4, 0})
}

func TestTheGreatestCosts(t *testing.T) { // P16.1: a row of six
	l := plan(7, "01 11", "11 21", "21 31", "31 41", "41 51", "51 61")
	for b := range l.Plans {
		for p := range l.Plans[b].Ports {
			l.Plans[b].Ports[p].Cost = 1000
		}
	}
	checkBests(t, l, [2]int{10, 0}, [2]int{10, 1000}, [2]int{10, 2000}, [2]int{10, 3000}, [2]int{10, 4000}, [2]int{10, 5000})
	down := []int{rt, de}
	checkTree(t, l, []int{de, de}, down, down, down, down, down)
}

func TestASegmentsPort(t *testing.T) { // P16.2: the least cost, then the least ID, then the least port
	l := withIDs(plan(2, "01", "03 11", "02 11", "02 11"), 1, 2, 4, 3)
	checkOwn(t, l, 0, [2]int{0, 0}, true, api.OK)
	checkOwn(t, l, 1, [2]int{3, 1}, true, api.OK) // 3 and 4 are as near
	checkTree(t, l, []int{de}, []int{rt, al}, []int{rt, al}, []int{rt, de})
	l = withIDs(l, 1, 2, 3, 4)
	checkOwn(t, l, 1, [2]int{2, 1}, true, api.OK)
	l.Plans[2].Ports = links("11 02 11")
	checkOwn(t, l, 1, [2]int{2, 0}, true, api.OK)
	checkTree(t, l, []int{de}, []int{rt, al}, []int{de, rt, al}, []int{rt, al})
	l.Plans[2].Ports[0].Up = false
	checkOwn(t, l, 1, [2]int{2, 2}, true, api.OK)
	checkTree(t, l, []int{de}, []int{rt, al}, []int{of, rt, de}, []int{rt, al})
	l.Plans[2].Ports[2].Up = false
	checkOwn(t, l, 1, [2]int{3, 1}, true, api.OK)
}

func TestARootPort(t *testing.T) { // P16.1: the least bridge that told, then its least port, then the first port
	near := withIDs(plan(3, "01", "01 11", "01 21", "11 21"), 1, 3, 2, 4) // the last one hears 3 and 2, as far as each other
	checkTree(t, near, []int{de}, []int{rt, de}, []int{rt, de}, []int{al, rt})
	checkTree(t, withIDs(near, 1, 2, 3, 4), []int{de}, []int{rt, de}, []int{rt, de}, []int{rt, al})
	twice := plan(2, "11 01", "01 11") // the root tells by its ports
	checkTree(t, twice, []int{de, de}, []int{al, rt})
	one := plan(1, "01 01", "02 02 02 01") // its vec is one alone, but the costs differ
	checkTree(t, one, []int{de, al}, []int{al, al, al, rt})
	same := plan(1, "01", "02 02 02") // and here nothing does
	checkTree(t, same, []int{de}, []int{rt, al, al})
	checkTree(t, changed(same, func(l *api.Lan) { l.Plans[1].Ports[0].Up = false }), []int{de}, []int{of, rt, al})
}

func TestANearerPortGoesAheadOfAFirstOne(t *testing.T) { // P16.1
	l := plan(2, "01 11", "02 11")
	checkTree(t, l, []int{de, de}, []int{al, rt})
	checkBests(t, l, [2]int{10, 0}, [2]int{10, 1})
	l = plan(2, "01 11", "02 02 13 19")
	checkTree(t, l, []int{de, de}, []int{rt, al, al, al})
}

func TestPortsThatAreNotUp(t *testing.T) { // P16.1, P16.2: they join nothing, and cost nothing
	l := plan(2, "01 b1", "09 11")
	checkBests(t, l, [2]int{10, 0}, [2]int{10, 9})
	checkTree(t, l, []int{de, of}, []int{rt, de})
	l = plan(2, "01 11", "09 b1")
	checkBests(t, l, [2]int{10, 0}, [2]int{10, 9})
	checkTree(t, l, []int{de, de}, []int{rt, of})
	l = plan(2, "a1 b1", "09 11")
	checkBests(t, l, [2]int{10, 0}, [2]int{11, 0})
	checkTree(t, l, []int{of, of}, []int{de, de})
	l = plan(2, "01 11", "a1 b1")
	checkBests(t, l, [2]int{10, 0}, [2]int{11, 0})
	checkTree(t, l, []int{de, de}, []int{of, of})
	l = plan(2, "a1 b1", "a1 b1")
	checkTree(t, l, []int{of, of}, []int{of, of})
	checkNoOwn(t, l, 0)
	checkNoOwn(t, l, 1)
	l = plan(1, "a1", "01 09", "a1 05") // the first place of all is not up, though it is the least
	checkTree(t, l, []int{of}, []int{de, al}, []int{of, rt})
}

func TestSixSideBySide(t *testing.T) { // P16.1, P16.2
	l := full()
	all := func(r int) []int { return slices.Repeat([]int{r}, 8) }
	beside := append([]int{rt}, all(al)[1:]...)
	checkTree(t, l, all(de), beside, beside, beside, beside, beside)
	l = withIDs(l, 7, 65535, 3, 0, 9, 4)
	checkTree(t, l, beside, beside, beside, all(de), beside, beside)
	for b := range 6 {
		checkBest(t, l, b, 0, min((b-3)*(b-3), 1), api.OK)
	}
}

func TestStationsDoNotCount(t *testing.T) { // P16.1
	l := plan(2, "01 11", "01 11")
	l.Hosts = []api.Host{{Mac: 2, Seg: 1}, {Mac: 4, Seg: 1}, {Mac: 6}}
	checkTree(t, l, []int{de, de}, []int{rt, al})
}

func TestNoSuchPlace(t *testing.T) { // P16.1, P16.2, R2, P1
	for count := 1; count <= 6; count++ {
		l := plan(count, []string{"01", "01", "01", "01", "01", "01"}[:count]...)
		for _, place := range append([]int{count, count + 1, -count}, noPlaces...) {
			checkBest(t, l, place, 0, 0, api.ErrRange)
			checkOwn(t, l, place, [2]int{}, false, api.ErrRange)
		}
	}
	l := plan(8, "01") // there are not as many of both kinds
	for place := range 8 {
		checkOwn(t, l, place, [2]int{}, place == 0, api.OK)
		if place > 0 {
			checkBest(t, l, place, 0, 0, api.ErrRange)
		}
	}
	l = plan(1, "01", "01", "01")
	for place := 1; place < 3; place++ {
		checkBest(t, l, place, 10, 1, api.OK)
		checkOwn(t, l, place, [2]int{}, false, api.ErrRange)
	}
}

func TestWrongPlans(t *testing.T) { // P16.1, R2, P1
	wrong := []func(l *api.Lan){
		func(l *api.Lan) { *l = api.Lan{} },
		func(l *api.Lan) { l.Segs = 0 },
		func(l *api.Lan) { l.Segs = 7 },
		func(l *api.Lan) { l.Segs = 9 },
		func(l *api.Lan) { l.Segs = math.MaxInt },
		func(l *api.Lan) { l.Segs = math.MinInt },
		func(l *api.Lan) { l.Plans = append(l.Plans, api.Plan{ID: 1, Ports: links("01")}) },
		func(l *api.Lan) { l.Plans = make([]api.Plan, 1<<16) },
		func(l *api.Lan) { l.Hosts = append(l.Hosts, api.Host{Mac: 20}) },
		func(l *api.Lan) { l.Hosts[7].Mac = 6 },
		func(l *api.Lan) { l.Hosts[3].Mac = api.Broadcast },
		func(l *api.Lan) { l.Hosts[3].Seg = 8 },
	}
	for _, change := range wrong {
		checkWrong(t, changed(full(), change))
	}
	for b := range 6 {
		for _, id := range []int{-1, 65536, math.MaxInt, math.MinInt, 10 + (b+1)%6} {
			checkWrong(t, changed(full(), func(l *api.Lan) { l.Plans[b].ID = id }))
		}
		for _, ports := range []int{0, 9, 1 << 16} {
			checkWrong(t, changed(full(), func(l *api.Lan) { l.Plans[b].Ports = slices.Repeat(links("01"), ports) }))
		}
		for p := range 8 {
			for _, link := range []api.Link{{Seg: -1, Cost: 1}, {Seg: 8, Cost: 1, Up: true}, {Cost: 0}, {Cost: -1, Up: true}, {Cost: 1001}, {Seg: math.MaxInt, Cost: math.MinInt}} {
				checkWrong(t, changed(full(), func(l *api.Lan) { l.Plans[b].Ports[p] = link }))
			}
		}
	}
}

// wantBest and those behind it say independently what the chapter's words have: of all ways from a bridge on, by bridges that are not on it yet.
func wantBest(l api.Lan, b int) [2]int {
	return bestOn(l, b, make([]bool, len(l.Plans)))
}

func bestOn(l api.Lan, b int, isOn []bool) [2]int {
	best := [2]int{l.Plans[b].ID, 0}
	isOn[b] = true
	for _, port := range l.Plans[b].Ports {
		for next, p := range l.Plans {
			if !port.Up || isOn[next] || !isOnSegment(p, port.Seg) {
				continue
			}
			w := bestOn(l, next, isOn)
			w[1] += port.Cost
			if w[0] < best[0] || w[0] == best[0] && w[1] < best[1] {
				best = w
			}
		}
	}
	isOn[b] = false
	return best
}

func isOnSegment(p api.Plan, seg int) bool {
	return slices.ContainsFunc(p.Ports, func(port api.Link) bool { return port.Up && port.Seg == seg })
}

// telling tells what a bridge tells by a port.
func telling(l api.Lan, bests [][2]int, b, p int) api.Vec {
	return api.Vec{Root: bests[b][0], Cost: bests[b][1], Bridge: l.Plans[b].ID, Port: p}
}

func isBetter(a, b api.Vec) bool {
	is, _ := vec.Better(a, b)
	return is
}

func wantOwn(l api.Lan, bests [][2]int, seg int) ([2]int, bool) {
	own, is := [2]int{}, false
	for b, plan := range l.Plans {
		for p, port := range plan.Ports {
			if !port.Up || port.Seg != seg {
				continue
			}
			if !is || isBetter(telling(l, bests, b, p), telling(l, bests, own[0], own[1])) {
				own, is = [2]int{b, p}, true
			}
		}
	}
	return own, is
}

// wantRoot tells a bridge's root port, or -1.
func wantRoot(l api.Lan, bests [][2]int, b int) int {
	if bests[b][0] == l.Plans[b].ID {
		return -1
	}
	root, best := -1, api.Vec{}
	for p, port := range l.Plans[b].Ports {
		own, is := wantOwn(l, bests, port.Seg)
		if !port.Up || !is || own == [2]int{b, p} {
			continue
		}
		v := telling(l, bests, own[0], own[1])
		v.Cost += port.Cost
		if v.Root == bests[b][0] && v.Cost == bests[b][1] && (root < 0 || isBetter(v, best)) {
			root, best = p, v
		}
	}
	return root
}

func wantRoles(l api.Lan, bests [][2]int) [][]int {
	var all [][]int
	for b, plan := range l.Plans {
		var roles []int
		root := wantRoot(l, bests, b)
		for p, port := range plan.Ports {
			own, _ := wantOwn(l, bests, port.Seg)
			switch {
			case !port.Up:
				roles = append(roles, of)
			case own == [2]int{b, p}:
				roles = append(roles, de)
			case p == root:
				roles = append(roles, rt)
			default:
				roles = append(roles, al)
			}
		}
		all = append(all, roles)
	}
	return all
}

// checkAll fails, unless all calls tell what the document asks of a plan that may be, and what follows from that is so.
func checkAll(t *testing.T, l api.Lan) {
	t.Helper()
	var bests [][2]int
	for b := range l.Plans {
		bests = append(bests, wantBest(l, b))
	}
	checkBests(t, l, bests...)
	for seg := range l.Segs {
		own, is := wantOwn(l, bests, seg)
		checkOwn(t, l, seg, own, is, api.OK)
	}
	roles := wantRoles(l, bests)
	checkTree(t, l, roles...)
	for _, place := range []int{-1, 8, math.MaxInt} {
		checkBest(t, l, place, 0, 0, api.ErrRange)
		checkOwn(t, l, place, [2]int{}, false, api.ErrRange)
	}
	checkFollows(t, l)
}

// checkFollows fails, unless the open ports alone join all that all ports join, without a loop, and ports and bridges have what each of them needs.
func checkFollows(t *testing.T, l api.Lan) {
	t.Helper()
	open, _ := tree.Open(l)
	roles, _ := tree.Roles(l)
	left := changed(l, func(l *api.Lan) {
		for b, row := range open {
			for p, is := range row {
				l.Plans[b].Ports[p].Up = is
			}
		}
	})
	if loops, e := lan.Loops(left); loops != 0 || e != api.OK {
		t.Errorf("the open ports of %+v make %d loops, %d", l, loops, e)
	}
	for seg := range l.Segs {
		part, _ := lan.Part(l, seg)
		if now, _ := lan.Part(left, seg); !slices.Equal(now, part) {
			t.Errorf("the open ports of %+v join %v, want %v", l, now, part)
		}
		_, on, _ := lan.On(l, seg)
		if own, is, _ := tree.Own(l, seg); is != (len(on) > 0) || is && !slices.Contains(on, own) {
			t.Errorf("Own(%+v, %d) = %v, %t, of %v", l, seg, own, is, on)
		}
	}
	for b, row := range roles {
		root, _, _ := tree.Best(l, b)
		roots := len(slices.DeleteFunc(slices.Clone(row), func(r int) bool { return r != rt }))
		if isLeast := root == l.Plans[b].ID; isLeast != (roots == 0) || roots > 1 {
			t.Errorf("bridge %d of %+v, of root %d, has %d root ports", b, l, root, roots)
		}
	}
	checkRoots(t, l)
}

// checkRoots fails, unless the root of each bridge is the least one of its part.
func checkRoots(t *testing.T, l api.Lan) {
	t.Helper()
	for b, p := range l.Plans {
		least := p.ID
		for _, port := range p.Ports {
			part, _ := lan.Part(l, port.Seg)
			for _, other := range l.Plans {
				isIn := slices.ContainsFunc(part, func(seg int) bool { return isOnSegment(other, seg) })
				if port.Up && isIn {
					least = min(least, other.ID)
				}
			}
		}
		if root, _, _ := tree.Best(l, b); root != least {
			t.Errorf("Best(%+v, %d) = %d, the least of its part is %d", l, b, root, least)
		}
	}
}

// rows tells all bridges of one or up to so many ports, each one of those.
func rows(most int, ports ...string) []string {
	var all []string
	last := []string{""}
	for range most {
		var more []string
		for _, ahead := range last {
			for _, port := range ports {
				more = append(more, ahead+port+" ")
			}
		}
		all, last = append(all, more...), more
	}
	return all
}

func TestAllSmallPlans(t *testing.T) { // P16.1, P16.2, P16.3
	few := rows(2, "01", "02", "11", "12", "a1")
	for _, first := range few {
		for _, second := range few {
			checkAll(t, plan(2, first, second))
			checkAll(t, withIDs(plan(2, first, second), 65535, 0))
		}
	}
	pairs := rows(2, "01", "11", "22")
	for _, first := range pairs {
		for _, second := range pairs {
			for _, third := range pairs {
				checkAll(t, withIDs(plan(3, first, second, third), 1, 2, 0))
			}
		}
	}
}

// chance tells numbers that are always the same ones.
type chance uint64

func (c *chance) below(n int) int {
	*c = *c*6364136223846793005 + 1442695040888963407
	return int(*c>>33) % n
}

// plan tells one that may be, of bridges with few ports or with many, of costs that are often the same or seldom.
func (c *chance) plan(mostPorts int) api.Lan {
	l := api.Lan{Segs: 1 + c.below(8)}
	most, ups, costs := 1+c.below(mostPorts), 1+c.below(6), []int{1, 2, 3, 5, 1000}[c.below(5)]
	for at := range c.below(7) {
		p := api.Plan{ID: 6*c.below(10922) + at}
		for range 1 + c.below(most) {
			p.Ports = append(p.Ports, api.Link{Seg: c.below(l.Segs), Cost: 1 + c.below(costs), Up: c.below(ups+1) > 0})
		}
		l.Plans = append(l.Plans, p)
	}
	return l
}

func TestManyPlans(t *testing.T) { // P16.1, P16.2, P16.3
	c := chance(16)
	for range 4000 {
		checkAll(t, c.plan(4))
	}
	for range 60 {
		checkAll(t, c.plan(8))
	}
}

// selves tells the bridges of a plan, each of which knows nothing.
func selves(l api.Lan) []api.Self {
	var all []api.Self
	for _, p := range l.Plans {
		s := api.Self{ID: p.ID, Infos: make([]api.Info, len(p.Ports))}
		for _, port := range p.Ports {
			s.Costs, s.Ups = append(s.Costs, port.Cost), append(s.Ups, port.Up)
		}
		all = append(all, s)
	}
	return all
}

// heard tells what all bridges know, once each has heard what the others tell now, and nothing else.
func heard(l api.Lan, all []api.Self) []api.Self {
	now := selves(l)
	for b, p := range l.Plans {
		for at, port := range p.Ports {
			info := &now[b].Infos[at]
			_, on, _ := lan.On(l, port.Seg)
			for _, by := range on {
				c, is, _ := role.Tell(all[by[0]], by[1], api.MaxAge)
				if port.Up && is && by != [2]int{b, at} && (!info.Has || isBetter(c.Vec, info.Vec)) {
					*info = api.Info{Has: true, Vec: c.Vec}
				}
			}
		}
	}
	return now
}

func TestBridgesThatTellEachOtherComeToIt(t *testing.T) { // P16.1, P4: roles are as in chapter 11
	c := chance(17)
	for range 500 {
		l := c.plan(8)
		all := selves(l)
		for range 16 {
			all = heard(l, all)
		}
		var want [][]int
		for b, s := range all {
			v, _, _ := role.Root(s)
			checkBest(t, l, b, v.Root, v.Cost, api.OK)
			roles, _ := role.Roles(s)
			want = append(want, roles)
		}
		checkTree(t, l, want...)
	}
}

func TestManyPlansWithAWrongPlace(t *testing.T) { // P16.1, R2, P1
	c := chance(18)
	one := func(l ...int) int { return l[c.below(len(l))] }
	for range 1000 {
		l := c.plan(8)
		if len(l.Plans) == 0 {
			continue
		}
		p := &l.Plans[c.below(len(l.Plans))]
		port := &p.Ports[c.below(len(p.Ports))]
		switch c.below(4) {
		case 0:
			l.Segs = one(0, -1, 9, math.MaxInt, math.MinInt)
		case 1:
			p.ID = one(-1, 65536, math.MaxInt, math.MinInt)
		case 2:
			port.Seg = one(-1, l.Segs, 8, math.MaxInt, math.MinInt)
		default:
			port.Cost = one(0, -1, 1001, math.MaxInt, math.MinInt)
		}
		checkWrong(t, l)
	}
}

func overwrite[T any](rows [][]T, by T) {
	for _, row := range rows {
		whole := row[:cap(row)]
		for i := range whole {
			whole[i] = by
		}
	}
}

func TestWhatIsAnsweredIsNewMemory(t *testing.T) { // R1, R4
	c := chance(19)
	for _, l := range []api.Lan{full(), plan(2, "01 11", "01 11"), c.plan(4), c.plan(4), c.plan(4)} {
		before := clone(l)
		roles, _ := tree.Roles(l)
		open, _ := tree.Open(l)
		if len(roles) > 0 { // no list shares any with another one
			first := slices.Clone(roles[0])
			overwrite(roles[1:], -7)
			if !slices.Equal(roles[0], first) {
				t.Errorf("bridges of %+v share their roles", l)
			}
			firstOpen := slices.Clone(open[0])
			overwrite(open[1:], !open[0][0])
			if !slices.Equal(open[0], firstOpen) {
				t.Errorf("bridges of %+v share what is open", l)
			}
		}
		overwrite(roles, -7)
		overwrite(open, true)
		checkKept(t, "one of all", l, before)
		checkAll(t, l)
	}
}

func TestManyAtOnceHearTheSame(t *testing.T) { // R1
	l := withIDs(plan(5, "01 13 29", "14 02 22", "31 12", "35 25 45", "41"), 9, 4, 8, 0, 7)
	wantRoles, _ := tree.Roles(l)
	wantOpen, _ := tree.Open(l)
	var group sync.WaitGroup
	for worker := range 8 {
		group.Go(func() {
			for at := range 20 {
				b := (worker + at) % 5
				root, cost, _ := tree.Best(l, b)
				checkBest(t, l, b, root, cost, api.OK)
				checkRoles(t, l, api.OK, wantRoles...)
				checkOpen(t, l, api.OK, wantOpen...)
			}
		})
	}
	group.Wait()
}

// FuzzAllCalls asks that no plan makes a call panic, and that all calls tell what the document asks (P1).
func FuzzAllCalls(f *testing.F) {
	f.Add(uint64(1), 0, 1, 1, 0)
	f.Add(uint64(2), -1, 9, 1001, 65536)
	f.Add(uint64(3), 7, 8, 1000, 65535)
	f.Fuzz(func(t *testing.T, seed uint64, seg, segs, cost, id int) {
		c := chance(seed)
		l := c.plan(4)
		if l.Segs = segs; len(l.Plans) > 0 {
			p := &l.Plans[c.below(len(l.Plans))]
			p.ID = id
			p.Ports[c.below(len(p.Ports))] = api.Link{Seg: seg, Cost: cost, Up: c.below(2) > 0}
		}
		if lan.Right(l) {
			checkAll(t, l)
		} else {
			checkWrong(t, l)
		}
	})
}
