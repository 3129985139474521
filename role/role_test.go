package role_test

import (
	"math"
	"slices"
	"sync"
	"testing"

	"footway/api"
	"footway/role"
)

var (
	ids     = []int{0, 1, 5, 0xff, 0x100, 0x7fff, 0x8000, 65534, 65535}
	noIDs   = []int{-1, -2, -5, -65535, 65536, 65537, 1<<16 | 5, 1<<32 | 5, math.MaxInt, math.MinInt}
	steps   = []int{1, 2, 10, 255, 256, 999, 1000}
	noSteps = []int{0, -1, -10, -1000, 1001, 1002, 2000, 1 << 31, 1<<32 | 10, math.MaxInt, math.MinInt}
	mosts   = []int{1, 2, 3, 20, 127, 128, 253, 254, 255}
	noMosts = []int{0, -1, -20, -255, 256, 257, 512, 256 | 20, 1<<32 | 20, math.MaxInt, math.MinInt}

	// rightInfos are at the edges of what a port may know.
	rightInfos = []api.Info{
		told(0, 0, 0, 0, 0), told(1, 2, 3, 4, 5), told(65535, 0, 0, 0, 0), told(0, 1<<31-1, 0, 0, 0),
		told(0, 0, 65535, 0, 0), told(0, 0, 0, 7, 0), told(0, 0, 0, 0, 255), told(65535, 1<<31-1, 65535, 7, 255),
	}
	// wrongInfos have one part that may not be, or are not zero, though the port knows nothing.
	wrongInfos = []api.Info{
		told(-1, 0, 0, 0, 0), told(65536, 0, 0, 0, 0), told(1<<32, 0, 0, 0, 0), told(math.MinInt, 0, 0, 0, 0),
		told(0, -1, 0, 0, 0), told(0, 1<<31, 0, 0, 0), told(0, 1<<32, 0, 0, 0), told(0, math.MaxInt, 0, 0, 0),
		told(0, 0, -1, 0, 0), told(0, 0, 65536, 0, 0), told(0, 0, 1<<32, 0, 0), told(0, 0, math.MaxInt, 0, 0),
		told(0, 0, 0, -1, 0), told(0, 0, 0, 8, 0), told(0, 0, 0, 256, 0), told(0, 0, 0, math.MinInt, 0),
		told(0, 0, 0, 0, -1), told(0, 0, 0, 0, 256), told(0, 0, 0, 0, 1<<32), told(0, 0, 0, 0, math.MaxInt),
		hidden(1, 0, 0, 0, 0), hidden(0, 1, 0, 0, 0), hidden(0, 0, 1, 0, 0), hidden(0, 0, 0, 1, 0), hidden(0, 0, 0, 0, 1),
		hidden(1, 2, 3, 4, 5), hidden(-1, 0, 0, 0, 0), hidden(0, 0, 0, 0, -1),
	}
)

// line is a port of a bridge.
type line struct {
	cost int
	up   bool
	info api.Info
}

func told(root, cost, bridge, port, age int) api.Info {
	return api.Info{Has: true, Vec: vecOf(root, cost, bridge, port), Age: age}
}

// hidden is what a port does not know, though it is there.
func hidden(root, cost, bridge, port, age int) api.Info {
	return api.Info{Vec: vecOf(root, cost, bridge, port), Age: age}
}

func vecOf(root, cost, bridge, port int) api.Vec {
	return api.Vec{Root: root, Cost: cost, Bridge: bridge, Port: port}
}

// heard is a port that knows something; quiet one that knows nothing; off one that is not up.
func heard(cost int, info api.Info) line { return line{cost, true, info} }
func quiet(cost int) line                { return line{cost: cost, up: true} }
func off(cost int) line                  { return line{cost: cost} }

func of(id int, lines ...line) api.Self {
	s := api.Self{ID: id}
	for _, l := range lines {
		s.Costs = append(s.Costs, l.cost)
		s.Ups = append(s.Ups, l.up)
		s.Infos = append(s.Infos, l.info)
	}
	return s
}

func clone(s api.Self) api.Self {
	s.Costs, s.Ups, s.Infos = slices.Clone(s.Costs), slices.Clone(s.Ups), slices.Clone(s.Infos)
	return s
}

func same(a, b api.Self) bool {
	return a.ID == b.ID && slices.Equal(a.Costs, b.Costs) && slices.Equal(a.Ups, b.Ups) && slices.Equal(a.Infos, b.Infos)
}

func checkKept(t *testing.T, name string, s, before api.Self) {
	t.Helper()
	if !same(s, before) {
		t.Errorf("%s changed %+v to %+v", name, before, s)
	}
}

func checkRight(t *testing.T, s api.Self, want bool) {
	t.Helper()
	before := clone(s)
	if is := role.Right(s); is != want {
		t.Errorf("Right(%+v) is %t", s, is)
	}
	checkKept(t, "Right", s, before)
}

func checkRoot(t *testing.T, s api.Self, want api.Vec, wantPort int, wantErr api.Errno) {
	t.Helper()
	before := clone(s)
	if v, port, e := role.Root(s); v != want || port != wantPort || e != wantErr {
		t.Errorf("Root(%+v) = %v, %d, %d, want %v, %d, %d", s, v, port, e, want, wantPort, wantErr)
	}
	checkKept(t, "Root", s, before)
}

func checkRoles(t *testing.T, s api.Self, wantErr api.Errno, want ...int) {
	t.Helper()
	before := clone(s)
	if roles, e := role.Roles(s); !slices.Equal(roles, want) || e != wantErr {
		t.Errorf("Roles(%+v) = %v, %d, want %v, %d", s, roles, e, want, wantErr)
	}
	checkKept(t, "Roles", s, before)
}

func checkTell(t *testing.T, s api.Self, port, most int, want api.Config, wantIs bool, wantErr api.Errno) {
	t.Helper()
	before := clone(s)
	if c, is, e := role.Tell(s, port, most); c != want || is != wantIs || e != wantErr {
		t.Errorf("Tell(%+v, %d, %d) = %v, %t, %d, want %v, %t, %d", s, port, most, c, is, e, want, wantIs, wantErr)
	}
	checkKept(t, "Tell", s, before)
}

// checkTold fails, unless a vec of an age is told by a port; checkSilent, unless nothing is.
func checkTold(t *testing.T, s api.Self, port, most int, want api.Vec, age int) {
	t.Helper()
	checkTell(t, s, port, most, api.Config{Vec: want, Age: age}, true, api.OK)
}

func checkSilent(t *testing.T, s api.Self, port, most int) {
	t.Helper()
	checkTell(t, s, port, most, api.Config{}, false, api.OK)
}

// checkWrong fails, unless all calls refuse a bridge, whatever else they are handed.
func checkWrong(t *testing.T, s api.Self) {
	t.Helper()
	checkRight(t, s, false)
	checkRoot(t, s, api.Vec{}, 0, api.ErrArg)
	checkRoles(t, s, api.ErrArg)
	for _, port := range []int{0, 1, 7, -1, 8, math.MaxInt} {
		for _, most := range []int{1, 20, 255, 0, 256, math.MinInt} {
			checkTell(t, s, port, most, api.Config{}, false, api.ErrArg)
		}
	}
}

// level tells independently how good a vec is: the lesser it is, the better the vec.
type level [4]int

func levelOf(v api.Vec, more int) level {
	return level{v.Root, min(v.Cost+more, 1<<31-1), v.Bridge, v.Port}
}

func (l level) isBelow(other level) bool {
	return slices.Compare(l[:], other[:]) < 0
}

// wantRoot says independently which port is the root port, as the chapter's words have it; -1, if none is.
func wantRoot(s api.Self) int {
	for port, info := range s.Infos {
		own := levelOf(info.Vec, s.Costs[port])
		isRoot := info.Has && info.Vec.Root < s.ID
		for other, o := range s.Infos {
			level := levelOf(o.Vec, s.Costs[other])
			switch {
			case !o.Has:
			case other < port:
				isRoot = isRoot && own.isBelow(level)
			case other > port:
				isRoot = isRoot && !level.isBelow(own)
			}
		}
		if isRoot {
			return port
		}
	}
	return -1
}

// wantVec says independently what a bridge would tell by a port.
func wantVec(s api.Self, port int) api.Vec {
	root := wantRoot(s)
	if root < 0 {
		return vecOf(s.ID, 0, s.ID, port)
	}
	far := levelOf(s.Infos[root].Vec, s.Costs[root])
	return vecOf(far[0], far[1], s.ID, port)
}

func wantRoles(s api.Self) []int {
	var roles []int
	for port, info := range s.Infos {
		kind := 1
		switch {
		case !s.Ups[port]:
			kind = 3
		case port == wantRoot(s):
			kind = 0
		case info.Has && levelOf(info.Vec, 0).isBelow(levelOf(wantVec(s, port), 0)):
			kind = 2
		}
		roles = append(roles, kind)
	}
	return roles
}

func wantTold(s api.Self, port, most int) (api.Config, bool) {
	age := 0
	if root := wantRoot(s); root >= 0 {
		age = s.Infos[root].Age + 1
	}
	if wantRoles(s)[port] != 1 || age >= most {
		return api.Config{}, false
	}
	return api.Config{Vec: wantVec(s, port), Age: age}, true
}

// checkAll fails, unless all calls tell what the document asks of a bridge that may be.
func checkAll(t *testing.T, s api.Self, mosts ...int) {
	t.Helper()
	checkRight(t, s, true)
	checkRoot(t, s, wantVec(s, 0), wantRoot(s), api.OK)
	checkRoles(t, s, api.OK, wantRoles(s)...)
	for _, most := range mosts {
		for port := range s.Costs {
			c, is := wantTold(s, port, most)
			checkTell(t, s, port, most, c, is, api.OK)
		}
		for _, port := range []int{-1, len(s.Costs), 8} {
			checkTell(t, s, port, most, api.Config{}, false, api.ErrRange)
		}
	}
}

// chance tells numbers that are always the same ones.
type chance uint64

func (c *chance) below(n int) int {
	*c = *c*6364136223846793005 + 1442695040888963407
	return int(*c>>33) % n
}

func (c *chance) of(l []int) int {
	return l[c.below(len(l))]
}

// bridge tells one that may be, with few numbers, so that many of its ports know as much as another one, or all but.
func (c *chance) bridge() api.Self {
	s := api.Self{ID: c.of([]int{0, 4, 5, 6, 65535})}
	for range 1 + c.below(8) {
		l := line{cost: c.of([]int{1, 2, 10, 1000}), up: c.below(8) > 0}
		if l.up && c.below(6) > 0 {
			l.info = told(c.of([]int{0, 3, 4, 5, 6, 65535}), c.of([]int{0, 1, 9, 10, 1<<31 - 2, 1<<31 - 1}),
				c.of([]int{0, 4, 5, 6, 65535}), c.below(8), c.of([]int{0, 1, 19, 253, 254, 255}))
		}
		one := of(s.ID, l)
		s.Costs, s.Ups, s.Infos = append(s.Costs, one.Costs[0]), append(s.Ups, one.Ups[0]), append(s.Infos, one.Infos[0])
	}
	return s
}

func TestExample(t *testing.T) { // the chapter's table
	s := of(5, heard(10, told(1, 0, 1, 0, 0)))
	checkRoot(t, s, vecOf(1, 10, 5, 0), 0, api.OK)
	checkRoles(t, s, api.OK, api.RRoot)
	s = of(5, quiet(3), heard(10, told(1, 0, 1, 0, 0)))
	checkRoot(t, s, vecOf(1, 10, 5, 0), 1, api.OK)
	checkRoles(t, s, api.OK, api.RDesignated, api.RRoot)
}

func TestRight(t *testing.T) { // P11.1
	for _, id := range ids {
		checkRight(t, of(id, quiet(1)), true)
		checkRight(t, of(id, off(1)), true)
		checkRight(t, of(id, heard(1, told(id, 0, id, 0, 0))), true)
	}
	for ports := 1; ports <= 8; ports++ {
		for place := range ports {
			for _, cost := range steps {
				lines := slices.Repeat([]line{quiet(7)}, ports)
				lines[place] = quiet(cost)
				checkRight(t, of(5, lines...), true)
				lines[place] = off(cost)
				checkRight(t, of(5, lines...), true)
				for _, info := range rightInfos {
					lines[place] = heard(cost, info)
					checkRight(t, of(5, lines...), true)
				}
			}
		}
	}
}

func TestWrongIDs(t *testing.T) { // P11.1, R2, P1
	for _, id := range noIDs {
		checkWrong(t, of(id, quiet(1)))
		checkWrong(t, of(id, quiet(1), heard(1000, told(1, 0, 1, 0, 0)), off(3)))
		checkWrong(t, of(id, off(0)))
	}
}

func TestWrongCountsOfPorts(t *testing.T) { // P11.1, R3, R2, P1
	checkWrong(t, api.Self{})
	checkWrong(t, api.Self{ID: 5, Costs: []int{}, Ups: []bool{}, Infos: []api.Info{}})
	for _, ports := range []int{9, 10, 16, 255, 256, 257, 1000} {
		checkWrong(t, of(5, slices.Repeat([]line{quiet(1)}, ports)...))
	}
	for costs := range 12 {
		for ups := range 12 {
			for infos := range 12 {
				s := api.Self{ID: 5, Costs: slices.Repeat([]int{1}, costs), Ups: slices.Repeat([]bool{true}, ups), Infos: make([]api.Info, infos)}
				if costs == ups && ups == infos && 1 <= costs && costs <= 8 {
					checkRight(t, s, true)
				} else {
					checkWrong(t, s)
				}
			}
		}
	}
}

func TestWrongCostsAtAnyPlace(t *testing.T) { // P11.1, R2, P1
	for ports := 1; ports <= 8; ports++ {
		for place := range ports {
			for _, cost := range noSteps {
				for _, l := range []line{quiet(cost), off(cost), heard(cost, told(1, 0, 1, 0, 0))} {
					lines := slices.Repeat([]line{quiet(7)}, ports)
					lines[place] = l
					checkWrong(t, of(5, lines...))
				}
			}
		}
	}
}

func TestWrongInfosAtAnyPlace(t *testing.T) { // P11.1, R2, P1
	for ports := 1; ports <= 8; ports++ {
		for place := range ports {
			lines := slices.Repeat([]line{quiet(7)}, ports)
			for _, info := range wrongInfos {
				lines[place] = heard(7, info)
				checkWrong(t, of(5, lines...))
			}
			for _, info := range slices.Concat(wrongInfos, rightInfos, []api.Info{{Has: true}}) {
				lines[place] = line{7, false, info} // whoever is not up knows nothing
				checkWrong(t, of(5, lines...))
			}
		}
	}
}

func TestRootOfOnePort(t *testing.T) { // P11.1
	for _, c := range []struct {
		id, cost int
		info     api.Info
		want     api.Vec
		port     int
	}{
		{5, 10, api.Info{}, vecOf(5, 0, 5, 0), -1},
		{0, 10, api.Info{}, vecOf(0, 0, 0, 0), -1},
		{65535, 10, api.Info{}, vecOf(65535, 0, 65535, 0), -1},
		{5, 10, told(4, 0, 4, 7, 0), vecOf(4, 10, 5, 0), 0},
		{5, 10, told(4, 30, 9, 7, 255), vecOf(4, 40, 5, 0), 0},
		{5, 10, told(5, 0, 1, 0, 0), vecOf(5, 0, 5, 0), -1},
		{5, 10, told(6, 0, 1, 0, 0), vecOf(5, 0, 5, 0), -1},
		{5, 10, told(65535, 0, 0, 0, 0), vecOf(5, 0, 5, 0), -1},
		{0, 1, told(0, 0, 0, 0, 0), vecOf(0, 0, 0, 0), -1},
		{1, 1, told(0, 0, 0, 0, 0), vecOf(0, 1, 1, 0), 0},
		{65535, 1000, told(65534, 0, 65535, 0, 0), vecOf(65534, 1000, 65535, 0), 0},
		{65535, 1000, told(65535, 0, 0, 0, 0), vecOf(65535, 0, 65535, 0), -1},
		{5, 1000, told(1, 1<<31-1001, 1, 0, 0), vecOf(1, 1<<31-1, 5, 0), 0},
		{5, 1000, told(1, 1<<31-1002, 1, 0, 0), vecOf(1, 1<<31-2, 5, 0), 0},
		{5, 1000, told(1, 1<<31-1000, 1, 0, 0), vecOf(1, 1<<31-1, 5, 0), 0},
		{5, 1, told(1, 1<<31-1, 1, 0, 0), vecOf(1, 1<<31-1, 5, 0), 0},
	} {
		checkRoot(t, of(c.id, heard(c.cost, c.info)), c.want, c.port, api.OK)
	}
}

func TestWhichPortIsTheRootPort(t *testing.T) { // P11.1
	for _, c := range []struct {
		s    api.Self
		want api.Vec
		port int
	}{
		// a lesser root is better, however far it is
		{of(9, heard(1, told(2, 0, 2, 0, 0)), heard(1000, told(1, 1<<30, 8, 7, 255))), vecOf(1, 1<<30+1000, 9, 0), 1},
		// costs count with those of the ports
		{of(9, heard(10, told(1, 5, 3, 0, 0)), heard(2, told(1, 12, 3, 0, 0))), vecOf(1, 14, 9, 0), 1},
		{of(9, heard(10, told(1, 5, 3, 0, 0)), heard(3, told(1, 12, 3, 0, 0))), vecOf(1, 15, 9, 0), 0},
		{of(9, heard(10, told(1, 5, 3, 1, 0)), heard(3, told(1, 12, 3, 0, 0))), vecOf(1, 15, 9, 0), 1},
		{of(9, heard(10, told(1, 5, 3, 1, 0)), heard(4, told(1, 12, 3, 0, 0))), vecOf(1, 15, 9, 0), 0},
		// then it is who tells it, and then by which port
		{of(9, heard(1, told(1, 0, 4, 0, 0)), heard(1, told(1, 0, 3, 7, 0))), vecOf(1, 1, 9, 0), 1},
		{of(9, heard(1, told(1, 0, 3, 2, 0)), heard(1, told(1, 0, 3, 1, 255))), vecOf(1, 1, 9, 0), 1},
		// of those that are the same it is the first one, whatever their ages are
		{of(9, heard(1, told(1, 0, 3, 2, 9)), heard(1, told(1, 0, 3, 2, 0))), vecOf(1, 1, 9, 0), 0},
		{of(9, quiet(1), heard(1, told(2, 0, 3, 2, 9)), off(1), heard(1, told(1, 0, 3, 2, 0)), heard(1, told(1, 0, 3, 2, 0))), vecOf(1, 1, 9, 0), 3},
		// a bridge knows its own root as well as any other one
		{of(9, heard(1, told(9, 0, 0, 0, 0)), heard(1, told(10, 0, 0, 0, 0)), heard(1, told(8, 100, 20, 7, 0))), vecOf(8, 101, 9, 0), 2},
		{of(9, heard(1, told(9, 0, 0, 0, 0)), heard(1, told(10, 0, 0, 0, 0)), quiet(1)), vecOf(9, 0, 9, 0), -1},
		// where costs are as great as may be, it is who tells it
		{of(9, heard(1, told(1, 1<<31-2, 4, 0, 0)), heard(1, told(1, 1<<31-1, 3, 0, 0))), vecOf(1, 1<<31-1, 9, 0), 1},
		// it hears itself
		{of(9, heard(1, told(1, 1, 9, 1, 0)), heard(1, told(1, 1, 9, 0, 0))), vecOf(1, 2, 9, 0), 1},
	} {
		checkRoot(t, c.s, c.want, c.port, api.OK)
	}
}

func TestTheRootPortAtAnyPlace(t *testing.T) { // P11.1
	for ports := 1; ports <= 8; ports++ {
		for place := range ports {
			for _, other := range []line{quiet(1), off(1), heard(1, told(2, 0, 2, 0, 0)), heard(1, told(9, 0, 0, 0, 0)), heard(2, told(1, 4, 0, 0, 0))} {
				lines := slices.Repeat([]line{other}, ports)
				lines[place] = heard(1, told(1, 4, 6, 3, 7))
				checkRoot(t, of(9, lines...), vecOf(1, 5, 9, 0), place, api.OK)
				for behind := place + 1; behind < ports; behind++ {
					lines[behind] = lines[place]
					checkRoot(t, of(9, lines...), vecOf(1, 5, 9, 0), place, api.OK)
				}
			}
		}
	}
}

func TestRolesOfOnePort(t *testing.T) { // P11.1
	for _, c := range []struct {
		l    line
		want int
	}{
		{off(10), api.ROff},
		{quiet(10), api.RDesignated},
		{heard(10, told(4, 0, 4, 0, 0)), api.RRoot},
		{heard(10, told(4, 1<<31-1, 65535, 7, 255)), api.RRoot},
		{heard(10, told(5, 0, 4, 7, 0)), api.RAlternate}, // its own root, told by a lesser bridge: better than 5 0 5 0
		{heard(10, told(5, 0, 5, 0, 0)), api.RDesignated},
		{heard(10, told(5, 0, 5, 1, 0)), api.RDesignated},
		{heard(10, told(5, 0, 6, 0, 0)), api.RDesignated},
		{heard(10, told(5, 1, 4, 0, 0)), api.RDesignated},
		{heard(10, told(6, 0, 0, 0, 0)), api.RDesignated},
		{heard(10, told(65535, 1<<31-1, 65535, 7, 255)), api.RDesignated},
	} {
		checkRoles(t, of(5, c.l), api.OK, c.want)
	}
}

func TestRolesOfManyPorts(t *testing.T) { // P11.1
	root := heard(10, told(1, 20, 3, 2, 0)) // so that by port p bridge 5 would tell 1 30 5 p
	for _, c := range []struct {
		l    line
		want int
	}{
		{off(10), api.ROff},
		{quiet(10), api.RDesignated},
		{root, api.RAlternate},
		{heard(1000, told(1, 0, 1, 0, 0)), api.RAlternate},
		{heard(1000, told(0, 1<<30, 9, 7, 255)), api.RRoot},
		{heard(1000, told(1, 29, 65535, 7, 255)), api.RAlternate},
		{heard(11, told(1, 30, 4, 7, 255)), api.RAlternate},
		{heard(11, told(1, 30, 5, 0, 0)), api.RAlternate},
		{heard(11, told(1, 30, 5, 1, 0)), api.RDesignated},
		{heard(11, told(1, 30, 5, 2, 0)), api.RDesignated},
		{heard(11, told(1, 30, 6, 0, 0)), api.RDesignated},
		{heard(11, told(1, 31, 0, 0, 0)), api.RDesignated},
		{heard(1, told(2, 0, 0, 0, 0)), api.RDesignated},
		{heard(1, told(5, 0, 0, 0, 0)), api.RDesignated},
	} {
		s := of(5, root, c.l)
		if c.want == api.RRoot {
			checkRoles(t, s, api.OK, api.RDesignated, api.RRoot)
			continue
		}
		checkRoles(t, s, api.OK, api.RRoot, c.want)
	}
	checkRoles(t, of(5, heard(1, told(2, 0, 2, 0, 0)), quiet(1), off(1), heard(1, told(1, 3, 2, 0, 0)), heard(1, told(1, 3, 3, 0, 0)), heard(1, told(1, 4, 4, 0, 0)), heard(1, told(1, 4, 5, 5, 0)), heard(1, told(1, 4, 5, 7, 0))),
		api.OK, 1, 1, 3, 0, 2, 2, 2, 1)
}

func TestAnInfoIsHeldAgainstWhatWouldBeToldByItsOwnPort(t *testing.T) { // P11.1
	for place := 1; place < 8; place++ {
		for port := range 8 {
			lines := slices.Repeat([]line{quiet(10)}, 8)
			lines[0] = heard(10, told(1, 20, 3, 2, 0))
			lines[place] = heard(1000, told(1, 30, 5, port, 0))
			want := slices.Repeat([]int{api.RDesignated}, 8)
			want[0] = api.RRoot
			if port < place {
				want[place] = api.RAlternate
			}
			checkRoles(t, of(5, lines...), api.OK, want...)
		}
	}
}

func TestTellOfAnOwnRoot(t *testing.T) { // P11.2
	for _, id := range ids {
		s := of(id, quiet(10), off(10), quiet(1000), heard(1, told(id, 1, 0, 0, 255)))
		for _, most := range mosts {
			checkTold(t, s, 0, most, vecOf(id, 0, id, 0), 0)
			checkSilent(t, s, 1, most)
			checkTold(t, s, 2, most, vecOf(id, 0, id, 2), 0)
			checkTold(t, s, 3, most, vecOf(id, 0, id, 3), 0)
		}
	}
}

func TestTellOfAnothersRoot(t *testing.T) { // P11.2
	s := of(5, quiet(1), heard(10, told(1, 20, 3, 2, 6)), off(1), heard(1, told(1, 29, 9, 7, 0)), heard(1, told(2, 0, 2, 0, 0)), quiet(1), quiet(1), heard(1, told(1, 30, 5, 7, 3)))
	for _, port := range []int{0, 4, 5, 6, 7} {
		checkTold(t, s, port, 20, vecOf(1, 30, 5, port), 7)
		checkTold(t, s, port, 8, vecOf(1, 30, 5, port), 7)
		checkSilent(t, s, port, 7)
		checkSilent(t, s, port, 6)
		checkSilent(t, s, port, 1)
	}
	for _, port := range []int{1, 2, 3} {
		checkSilent(t, s, port, 20)
		checkSilent(t, s, port, 255)
	}
}

func TestTellOfEachAge(t *testing.T) { // P11.2
	for age := range 256 {
		s := of(5, heard(10, told(1, 20, 3, 2, age)), quiet(1))
		for most := 1; most <= 255; most++ {
			if age+1 < most {
				checkTold(t, s, 1, most, vecOf(1, 30, 5, 1), age+1)
			} else {
				checkSilent(t, s, 1, most)
			}
			checkSilent(t, s, 0, most)
		}
	}
}

func TestTellTakesTheAgeOfTheRootPort(t *testing.T) { // P11.2
	near, far := heard(10, told(1, 20, 3, 2, 4)), heard(11, told(1, 20, 3, 2, 0))
	checkTold(t, of(5, near, far, quiet(1)), 2, 6, vecOf(1, 30, 5, 2), 5)
	checkTold(t, of(5, far, near, quiet(1)), 2, 6, vecOf(1, 30, 5, 2), 5)
	checkSilent(t, of(5, far, near, quiet(1)), 2, 5)
	same := heard(10, told(1, 20, 3, 2, 9))
	checkTold(t, of(5, same, near, quiet(1)), 2, 20, vecOf(1, 30, 5, 2), 10)
	checkTold(t, of(5, near, same, quiet(1)), 2, 20, vecOf(1, 30, 5, 2), 5)
}

func TestTellOfFarRoots(t *testing.T) { // P11.2
	checkTold(t, of(5, heard(1000, told(1, 1<<31-1, 3, 2, 0)), quiet(1)), 1, 2, vecOf(1, 1<<31-1, 5, 1), 1)
	checkTold(t, of(5, heard(1000, told(1, 1<<31-1001, 3, 2, 0)), quiet(1)), 1, 2, vecOf(1, 1<<31-1, 5, 1), 1)
	checkTold(t, of(5, heard(1000, told(1, 1<<31-1002, 3, 2, 0)), quiet(1)), 1, 2, vecOf(1, 1<<31-2, 5, 1), 1)
}

func TestTellOfNoPort(t *testing.T) { // P11.2, R2, P1
	for ports := 1; ports <= 8; ports++ {
		s := of(5, slices.Repeat([]line{quiet(7)}, ports)...)
		for _, port := range []int{-1, -2, -8, ports, ports + 1, 8, 9, 255, 256, 1 << 32, math.MaxInt, math.MinInt} {
			for _, most := range slices.Concat(mosts, noMosts) { // there is no such port, whatever most is: that is named first
				checkTell(t, s, port, most, api.Config{}, false, api.ErrRange)
			}
		}
		for port := range ports {
			checkTold(t, s, port, 255, vecOf(5, 0, 5, port), 0)
		}
	}
}

func TestTellOfWrongMosts(t *testing.T) { // P11.2, R2, P1
	s := of(5, heard(10, told(1, 20, 3, 2, 6)), quiet(1), off(1), heard(1, told(1, 29, 9, 7, 0)))
	for _, most := range noMosts {
		for port := range s.Costs {
			checkTell(t, s, port, most, api.Config{}, false, api.ErrArg)
		}
		checkTell(t, of(0, quiet(1)), 0, most, api.Config{}, false, api.ErrArg)
	}
}

// pieces are ports of all kinds, so that all pairs and threes of them can be tried.
func pieces() []line {
	all := []line{quiet(1), quiet(1000), off(1), off(1000)}
	for _, cost := range []int{1, 2} {
		for _, root := range []int{4, 5, 6} {
			for _, v := range []api.Vec{vecOf(root, 0, 0, 0), vecOf(root, 0, 5, 1), vecOf(root, 1, 5, 0), vecOf(root, 1, 5, 1), vecOf(root, 2, 5, 1), vecOf(root, 2, 6, 2), vecOf(root, 1<<31-1, 5, 1)} {
				all = append(all, heard(cost, api.Info{Has: true, Vec: v, Age: v.Cost % 7}))
			}
		}
	}
	return all
}

func TestAllPairsOfPorts(t *testing.T) { // P11.1, P11.2
	for _, a := range pieces() {
		checkAll(t, of(5, a), 1, 2, 3, 255)
		for _, b := range pieces() {
			checkAll(t, of(5, a, b), 1, 2, 3, 255)
		}
	}
}

func TestAllThreesOfPorts(t *testing.T) { // P11.1, P11.2
	for _, a := range pieces() {
		for _, b := range pieces() {
			for _, c := range pieces() {
				s := of(5, a, b, c)
				checkRoot(t, s, wantVec(s, 0), wantRoot(s), api.OK)
				checkRoles(t, s, api.OK, wantRoles(s)...)
			}
		}
	}
}

func TestManyBridges(t *testing.T) { // P11.1, P11.2, R4
	c := chance(1)
	for range 20000 {
		checkAll(t, c.bridge(), 1, 2, 20, 21, 254, 255)
	}
}

// rolesOf tells roles, and fails where they are refused.
func rolesOf(t *testing.T, s api.Self) []int {
	t.Helper()
	roles, e := role.Roles(s)
	if e != api.OK {
		t.Fatalf("Roles(%+v): %d", s, e)
	}
	return roles
}

func TestABridgeHasOneRootPortAtMost(t *testing.T) { // P11.3
	c := chance(2)
	with, without := 0, 0
	for range 20000 {
		s := c.bridge()
		_, port, e := role.Root(s)
		roots := 0
		for place, kind := range rolesOf(t, s) {
			if kind == api.RRoot {
				roots++
			}
			if (kind == api.RRoot) != (place == port) {
				t.Errorf("of %+v port %d has role %d, and the root port is %d", s, place, kind, port)
			}
			if (kind == api.ROff) == s.Ups[place] {
				t.Errorf("of %+v port %d has role %d", s, place, kind)
			}
		}
		if roots > 1 || (roots == 0) != (port == api.NoPort) || e != api.OK {
			t.Errorf("%+v has %d root ports; Root tells %d, %d", s, roots, port, e)
		}
		if roots == 0 {
			without++
		} else {
			with++
		}
	}
	if with == 0 || without == 0 {
		t.Errorf("%d had a root port, and %d had none", with, without)
	}
}

// checkNotBetter fails, where what is told is better than what the bridge was told, as far as its costs are, or than what another one tells on the same segment.
func checkNotBetter(t *testing.T, s api.Self, port int, c api.Config) {
	t.Helper()
	if c.Vec.Root > s.ID || c.Vec.Bridge != s.ID || c.Vec.Port != port {
		t.Errorf("%+v tells %+v by port %d", s, c, port)
	}
	if c.Vec.Root == s.ID {
		if c.Vec.Cost != 0 || c.Age != 0 {
			t.Errorf("%+v tells %+v of itself", s, c)
		}
		return
	}
	isTold := false
	for place, info := range s.Infos {
		far := levelOf(info.Vec, s.Costs[place])
		isTold = isTold || info.Has && far[0] == c.Vec.Root && far[1] == c.Vec.Cost && c.Age > info.Age
	}
	if !isTold {
		t.Errorf("%+v tells %+v, which it was not told", s, c)
	}
	if info := s.Infos[port]; info.Has && levelOf(info.Vec, 0).isBelow(levelOf(c.Vec, 0)) {
		t.Errorf("%+v tells %+v by port %d, which knows better", s, c, port)
	}
}

func TestWhatIsToldIsNoBetterThanWhatWasTold(t *testing.T) { // P11.3
	r := chance(3)
	own, others := 0, 0
	for range 20000 {
		s := r.bridge()
		for port := range s.Costs {
			c, is, e := role.Tell(s, port, 255)
			if e != api.OK {
				t.Errorf("Tell(%+v, %d, 255): %d", s, port, e)
			}
			switch {
			case !is:
				continue
			case c.Vec.Root == s.ID:
				own++
			default:
				others++
			}
			checkNotBetter(t, s, port, c)
		}
		v, port, e := role.Root(s)
		if e != api.OK || v.Root > s.ID || (v.Root == s.ID) != (port == api.NoPort) {
			t.Errorf("Root(%+v) = %v, %d, %d", s, v, port, e)
		}
	}
	if own == 0 || others == 0 {
		t.Errorf("%d were told of themselves, and %d of others", own, others)
	}
}

func TestWhatIsToldGetsWorseFromBridgeToBridge(t *testing.T) { // P11.3
	c := api.Config{Vec: vecOf(1, 0, 1, 0)}
	for id := 2; id < 100; id++ {
		s := of(id, heard(id, api.Info{Has: true, Vec: c.Vec, Age: c.Age}), quiet(1))
		next, is, e := role.Tell(s, 1, 255)
		want := vecOf(1, c.Vec.Cost+id, id, 1)
		if next.Vec != want || next.Age != c.Age+1 || !is || e != api.OK {
			t.Fatalf("bridge %d tells %+v, %t, %d", id, next, is, e)
		}
		c = next
	}
	checkSilent(t, of(100, heard(1, api.Info{Has: true, Vec: c.Vec, Age: c.Age}), quiet(1)), 1, 99)
}

func TestRolesAreNewMemory(t *testing.T) { // R1, R4
	s := of(5, heard(10, told(1, 0, 1, 0, 0)), quiet(1), off(1))
	roles := rolesOf(t, s)
	for i := range roles {
		roles[i] = 9
	}
	checkRoles(t, s, api.OK, api.RRoot, api.RDesignated, api.ROff)
}

func TestListsWithRoomBehindThem(t *testing.T) { // R4
	s := of(5, quiet(1), heard(10, told(1, 0, 1, 0, 0)), heard(1, told(0, 0, 0, 0, 0)))
	short := api.Self{ID: 5, Costs: s.Costs[:2], Ups: s.Ups[:2], Infos: s.Infos[:2]}
	before := clone(s)
	checkAll(t, short, 1, 20)
	checkRoot(t, short, vecOf(1, 10, 5, 0), 1, api.OK)
	checkKept(t, "a call", s, before)
}

func TestManyAtOnceHearTheSame(t *testing.T) { // R1
	var all sync.WaitGroup
	s := of(5, quiet(1), heard(10, told(1, 20, 3, 2, 6)), heard(10, told(1, 20, 4, 2, 6)))
	failed := make([]bool, 16)
	for i := range failed {
		all.Go(func() {
			for range 200 {
				v, port, _ := role.Root(s)
				roles, _ := role.Roles(s)
				c, is, _ := role.Tell(s, 0, 20)
				failed[i] = failed[i] || v != vecOf(1, 30, 5, 0) || port != 1 || !slices.Equal(roles, []int{1, 0, 2}) ||
					c != api.Config{Vec: vecOf(1, 30, 5, 0), Age: 7} || !is
			}
		})
	}
	all.Wait()
	if slices.Contains(failed, true) {
		t.Error("some heard otherwise")
	}
}

func FuzzAllCalls(f *testing.F) { // P11.1, P11.2, P1
	f.Add(5, 10, true, true, 1, 0, 1, 0, 0, 0, 20, uint64(1))
	f.Add(5, 10, true, false, 0, 0, 0, 0, 0, 0, 20, uint64(2))
	f.Add(5, 10, false, true, 1, 0, 1, 0, 0, 8, 256, uint64(3))
	f.Add(0, 1000, true, true, 65535, 1<<31-1, 65535, 7, 255, 7, 255, uint64(4))
	f.Add(math.MinInt, math.MaxInt, true, true, -1, -1, -1, -1, -1, -1, -1, uint64(5))
	f.Fuzz(func(t *testing.T, id, cost int, up, has bool, root, far, bridge, port, age, at, most int, seed uint64) {
		r := chance(seed)
		s := r.bridge()
		place := r.below(len(s.Costs))
		info := api.Info{Has: has, Vec: vecOf(root, far, bridge, port), Age: age}
		s.ID, s.Costs[place], s.Ups[place], s.Infos[place] = id, cost, up, info
		isInfo := info == api.Info{} || has && up && root == int(uint16(root)) && far == far&(1<<31-1) && bridge == int(uint16(bridge)) && port == port&7 && age == int(uint8(age))
		switch {
		case id != int(uint16(id)) || cost < 1 || cost > 1000 || !isInfo:
			checkWrong(t, s)
		case at < 0 || at >= len(s.Costs):
			checkAll(t, s, 20)
			checkTell(t, s, at, most, api.Config{}, false, api.ErrRange)
		case most < 1 || most > 255:
			checkAll(t, s, 20)
			checkTell(t, s, at, most, api.Config{}, false, api.ErrArg)
		default:
			checkAll(t, s, most)
		}
	})
}
