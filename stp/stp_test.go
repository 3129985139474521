package stp_test

import (
	"math"
	"slices"
	"sync"
	"testing"

	"footway/api"
	"footway/stp"
)

var (
	ids      = []int{0, 1, 5, 255, 256, 65534, 65535}
	noIDs    = []int{-1, -2, -65535, 65536, 65537, 1<<16 | 5, 1<<32 | 5, math.MaxInt, math.MinInt}
	noCosts  = []int{0, -1, -1000, 1001, 2000, 1<<32 | 10, math.MaxInt, math.MinInt}
	mosts    = []int{1, 2, 3, 20, 127, 128, 254, 255}
	noMosts  = []int{0, -1, -20, -255, 256, 257, 512, 256 | 20, 1<<32 | 20, math.MaxInt, math.MinInt}
	delays   = []int{1, 2, 3, 15, 29, 30}
	noDelays = []int{0, -1, -2, -30, 31, 32, 60, 255, 256, 1<<32 | 2, math.MaxInt, math.MinInt}

	blocked  = api.PortState{State: 0}
	forwards = api.PortState{State: 3}

	// wrongConfigs have one part that may not be.
	wrongConfigs = []api.Config{
		config(-1, 0, 0, 0, 0), config(65536, 0, 0, 0, 0), config(1<<32, 0, 0, 0, 0), config(math.MinInt, 0, 0, 0, 0),
		config(0, -1, 0, 0, 0), config(0, 1<<31, 0, 0, 0), config(0, 1<<32, 0, 0, 0), config(0, math.MaxInt, 0, 0, 0),
		config(0, 0, -1, 0, 0), config(0, 0, 65536, 0, 0), config(0, 0, 1<<32, 0, 0), config(0, 0, math.MaxInt, 0, 0),
		config(0, 0, 0, -1, 0), config(0, 0, 0, 8, 0), config(0, 0, 0, 256, 0), config(0, 0, 0, math.MinInt, 0),
		config(0, 0, 0, 0, -1), config(0, 0, 0, 0, 256), config(0, 0, 0, 0, 1<<32), config(0, 0, 0, 0, math.MaxInt), config(0, 0, 0, 0, math.MinInt),
	}
)

// line is a port of a tree.
type line struct {
	cost  int
	up    bool
	info  api.Info
	state api.PortState
}

func listens(left int) api.PortState { return api.PortState{State: 1, Left: left} }
func learns(left int) api.PortState  { return api.PortState{State: 2, Left: left} }

func vecOf(root, cost, bridge, port int) api.Vec {
	return api.Vec{Root: root, Cost: cost, Bridge: bridge, Port: port}
}

func config(root, cost, bridge, port, age int) api.Config {
	return api.Config{Vec: vecOf(root, cost, bridge, port), Age: age}
}

func told(root, cost, bridge, port, age int) api.Info {
	return infoOf(config(root, cost, bridge, port, age))
}

func infoOf(c api.Config) api.Info {
	return api.Info{Has: true, Vec: c.Vec, Age: c.Age}
}

// heard is a port that knows something; quiet one that knows nothing; off one that is not up.
func heard(cost int, info api.Info, state api.PortState) line { return line{cost, true, info, state} }
func quiet(cost int, state api.PortState) line                { return line{cost, true, api.Info{}, state} }
func off(cost int) line                                       { return line{cost: cost} }

func of(id, most, delay int, lines ...line) api.Stp {
	s := api.Stp{Self: api.Self{ID: id}, Max: most, Delay: delay}
	for _, l := range lines {
		s.Self.Costs = append(s.Self.Costs, l.cost)
		s.Self.Ups = append(s.Self.Ups, l.up)
		s.Self.Infos = append(s.Self.Infos, l.info)
		s.States = append(s.States, l.state)
	}
	return s
}

func clone(s api.Stp) api.Stp {
	s.Self.Costs, s.Self.Ups, s.Self.Infos = slices.Clone(s.Self.Costs), slices.Clone(s.Self.Ups), slices.Clone(s.Self.Infos)
	s.States = slices.Clone(s.States)
	return s
}

func same(a, b api.Stp) bool {
	return a.Self.ID == b.Self.ID && slices.Equal(a.Self.Costs, b.Self.Costs) && slices.Equal(a.Self.Ups, b.Self.Ups) &&
		slices.Equal(a.Self.Infos, b.Self.Infos) && slices.Equal(a.States, b.States) && a.Max == b.Max && a.Delay == b.Delay
}

func checkKept(t *testing.T, name string, s, before api.Stp) {
	t.Helper()
	if !same(s, before) {
		t.Errorf("%s changed %+v to %+v", name, before, s)
	}
}

func checkRight(t *testing.T, s api.Stp, want bool) {
	t.Helper()
	before := clone(s)
	if is := stp.Right(s); is != want {
		t.Errorf("Right(%+v) is %t", s, is)
	}
	checkKept(t, "Right", s, before)
}

func checkNew(t *testing.T, id int, costs []int, most, delay int, want api.Stp, wantErr api.Errno) {
	t.Helper()
	before := slices.Clone(costs)
	if s, e := stp.New(id, costs, most, delay); !same(s, want) || e != wantErr {
		t.Errorf("New(%d, %v, %d, %d) = %+v, %d, want %+v, %d", id, costs, most, delay, s, e, want, wantErr)
	}
	if !slices.Equal(costs, before) {
		t.Errorf("New changed %v to %v", before, costs)
	}
}

func checkHear(t *testing.T, s api.Stp, port int, c api.Config, want api.Stp, wantIs bool, wantErr api.Errno) {
	t.Helper()
	before := clone(s)
	if out, is, e := stp.Hear(s, port, c); !same(out, want) || is != wantIs || e != wantErr {
		t.Errorf("Hear(%+v, %d, %+v) = %+v, %t, %d, want %+v, %t, %d", s, port, c, out, is, e, want, wantIs, wantErr)
	}
	checkKept(t, "Hear", s, before)
}

func checkTick(t *testing.T, s, want api.Stp, wantErr api.Errno, wantSends ...api.Send) {
	t.Helper()
	before := clone(s)
	if out, sends, e := stp.Tick(s); !same(out, want) || !slices.Equal(sends, wantSends) || e != wantErr {
		t.Errorf("Tick(%+v) = %+v, %+v, %d, want %+v, %+v, %d", s, out, sends, e, want, wantSends, wantErr)
	}
	checkKept(t, "Tick", s, before)
}

func checkLink(t *testing.T, s api.Stp, port int, up bool, want api.Stp, wantErr api.Errno) {
	t.Helper()
	before := clone(s)
	if out, e := stp.Link(s, port, up); !same(out, want) || e != wantErr {
		t.Errorf("Link(%+v, %d, %t) = %+v, %d, want %+v, %d", s, port, up, out, e, want, wantErr)
	}
	checkKept(t, "Link", s, before)
}

func checkForwards(t *testing.T, s api.Stp, wantErr api.Errno, want ...int) {
	t.Helper()
	before := clone(s)
	if l, e := stp.Forwards(s); !slices.Equal(l, want) || e != wantErr {
		t.Errorf("Forwards(%+v) = %v, %d, want %v, %d", s, l, e, want, wantErr)
	}
	checkKept(t, "Forwards", s, before)
}

// checkWrong fails, unless all calls refuse a tree, whatever else they are handed.
func checkWrong(t *testing.T, s api.Stp) {
	t.Helper()
	checkRight(t, s, false)
	checkTick(t, s, api.Stp{}, api.ErrArg)
	checkForwards(t, s, api.ErrArg)
	for _, port := range []int{0, 1, 7, -1, 8, math.MaxInt} {
		for _, c := range []api.Config{{}, config(1, 2, 3, 4, 5), config(0, 0, 0, 0, 255), config(-1, 0, 0, 0, 0), config(0, 0, 0, 0, 256)} {
			checkHear(t, s, port, c, api.Stp{}, false, api.ErrArg)
		}
		checkLink(t, s, port, false, api.Stp{}, api.ErrArg)
		checkLink(t, s, port, true, api.Stp{}, api.ErrArg)
	}
}

// level tells independently how good a vec is: the lesser it is, the better the vec.
type level [4]int

func levelOf(v api.Vec, more int) level {
	return level{v.Root, min(v.Cost+more, 1<<31-1), v.Bridge, v.Port}
}

func (l level) isBelow(other level) bool {
	return slices.Compare(l[:], other[:]) < 0
}

// wantRoot says independently which port is the root port; -1, if none is.
func wantRoot(s api.Self) int {
	root := -1
	for port, info := range s.Infos {
		own := levelOf(info.Vec, s.Costs[port])
		if info.Has && own[0] < s.ID && (root < 0 || own.isBelow(levelOf(s.Infos[root].Vec, s.Costs[root]))) {
			root = port
		}
	}
	return root
}

// wantTold says independently what a bridge would tell by a port.
func wantTold(s api.Self, port int) api.Config {
	root := wantRoot(s)
	if root < 0 {
		return config(s.ID, 0, s.ID, port, 0)
	}
	far := levelOf(s.Infos[root].Vec, s.Costs[root])
	return config(far[0], far[1], s.ID, port, s.Infos[root].Age+1)
}

func wantRole(s api.Self, port int) int {
	info := s.Infos[port]
	switch {
	case !s.Ups[port]:
		return 3
	case port == wantRoot(s):
		return 0
	case info.Has && levelOf(info.Vec, 0).isBelow(levelOf(wantTold(s, port).Vec, 0)):
		return 2
	}
	return 1
}

// settle says independently how far ports are, once they are told their roles.
func settle(s api.Stp) api.Stp {
	for port := range s.States {
		switch kind := wantRole(s.Self, port); {
		case kind > 1:
			s.States[port] = blocked
		case s.States[port] == blocked:
			s.States[port] = listens(s.Delay)
		}
	}
	return s
}

func wantHear(s api.Stp, port int, c api.Config) (api.Stp, bool) {
	known := s.Self.Infos[port]
	isNews := !known.Has || levelOf(c.Vec, 0).isBelow(levelOf(known.Vec, 0))
	isSame := known.Vec.Bridge == c.Vec.Bridge && known.Vec.Port == c.Vec.Port
	if !s.Self.Ups[port] || c.Age >= s.Max || !isNews && !isSame {
		return s, false
	}
	out := clone(s)
	out.Self.Infos[port] = infoOf(c)
	return settle(out), true
}

func wantTick(s api.Stp) (api.Stp, []api.Send) {
	out := clone(s)
	for port, info := range out.Self.Infos {
		if info.Has {
			out.Self.Infos[port].Age++
		}
		if info.Age+1 == s.Max {
			out.Self.Infos[port] = api.Info{}
		}
	}
	out = settle(out)
	var sends []api.Send
	for port, state := range out.States {
		if state.Left > 0 {
			out.States[port].Left--
		}
		switch state {
		case listens(1):
			out.States[port] = learns(s.Delay)
		case learns(1):
			out.States[port] = forwards
		}
		if c := wantTold(out.Self, port); wantRole(out.Self, port) == 1 && c.Age < s.Max {
			sends = append(sends, api.Send{Port: port, Config: c})
		}
	}
	return out, sends
}

func wantLink(s api.Stp, port int, up bool) api.Stp {
	out := clone(s)
	if !up || !s.Self.Ups[port] {
		out.Self.Infos[port] = api.Info{}
	}
	out.Self.Ups[port] = up
	return settle(out)
}

func wantForwards(s api.Stp) []int {
	var ports []int
	for port, state := range s.States {
		if state.State == 3 {
			ports = append(ports, port)
		}
	}
	return ports
}

// checkAll fails, unless all calls tell what the document asks of a tree that may be.
func checkAll(t *testing.T, s api.Stp, configs ...api.Config) {
	t.Helper()
	checkRight(t, s, true)
	later, sends := wantTick(s)
	checkTick(t, s, later, api.OK, sends...)
	checkForwards(t, s, api.OK, wantForwards(s)...)
	for port := range s.States {
		for _, c := range configs {
			out, is := wantHear(s, port, c)
			checkHear(t, s, port, c, out, is, api.OK)
		}
		for _, up := range []bool{false, true} {
			checkLink(t, s, port, up, wantLink(s, port, up), api.OK)
		}
	}
}

// chance tells numbers that are always the same ones.
type chance uint64

func (c *chance) below(n int) int {
	*c = *c*6364136223846793005 + 1442695040888963407
	return int(*c>>33) % n
}

func (c *chance) of(l []int) int {
	return l[c.below(len(l))]
}

// config tells one of few, so that many are as good as others, or all but.
func (c *chance) config(most int) api.Config {
	return config(c.of([]int{0, 3, 4, 5, 6, 65535}), c.of([]int{0, 1, 9, 10, 1<<31 - 2, 1<<31 - 1}),
		c.of([]int{0, 4, 5, 6, 65535}), c.of([]int{0, 1, 2, 7}), c.below(most))
}

// tree tells one that may be.
func (c *chance) tree() api.Stp {
	s := of(c.of([]int{0, 4, 5, 6, 65535}), c.of([]int{1, 2, 3, 20, 255}), c.of([]int{1, 2, 30}))
	for range 1 + c.below(8) {
		l := line{cost: c.of([]int{1, 2, 10, 1000}), up: c.below(8) > 0}
		if l.up && c.below(6) > 0 {
			l.info = infoOf(c.config(s.Max))
		}
		s.Self.Costs, s.Self.Ups = append(s.Self.Costs, l.cost), append(s.Self.Ups, l.up)
		s.Self.Infos, s.States = append(s.Self.Infos, l.info), append(s.States, blocked)
	}
	for port := range s.States {
		if wantRole(s.Self, port) < 2 {
			s.States[port] = []api.PortState{listens(1), listens(s.Delay), learns(1), learns(s.Delay), forwards}[c.below(5)]
		}
	}
	return s
}

// tick, hear and link have a tree go on, and fail where they are refused.
func tick(t *testing.T, s api.Stp) (api.Stp, []api.Send) {
	t.Helper()
	out, sends, e := stp.Tick(s)
	if e != api.OK {
		t.Fatalf("Tick(%+v): %d", s, e)
	}
	return out, sends
}

func hear(t *testing.T, s api.Stp, port int, c api.Config) (api.Stp, bool) {
	t.Helper()
	out, is, e := stp.Hear(s, port, c)
	if e != api.OK {
		t.Fatalf("Hear(%+v, %d, %+v): %d", s, port, c, e)
	}
	return out, is
}

func link(t *testing.T, s api.Stp, port int, up bool) api.Stp {
	t.Helper()
	out, e := stp.Link(s, port, up)
	if e != api.OK {
		t.Fatalf("Link(%+v, %d, %t): %d", s, port, up, e)
	}
	return out
}

func fresh(t *testing.T, id int, costs []int, most, delay int) api.Stp {
	t.Helper()
	s, e := stp.New(id, costs, most, delay)
	if e != api.OK {
		t.Fatalf("New(%d, %v, %d, %d): %d", id, costs, most, delay, e)
	}
	return s
}

func sent(port, root, cost, bridge, age int) api.Send {
	return api.Send{Port: port, Config: config(root, cost, bridge, port, age)}
}

func TestExample(t *testing.T) { // the chapter's table
	checkTick(t, fresh(t, 5, []int{10}, 20, 2), of(5, 20, 2, quiet(10, listens(1))), api.OK, sent(0, 5, 0, 5, 0))
}

func TestNew(t *testing.T) { // P12.1
	for _, id := range ids {
		for _, most := range mosts {
			for _, delay := range delays {
				for ports := 1; ports <= 8; ports++ {
					lines := slices.Repeat([]line{quiet(1, listens(delay))}, ports)
					lines[ports/2].cost, lines[ports-1].cost = 10, 1000
					want := of(id, most, delay, lines...)
					checkNew(t, id, want.Self.Costs, most, delay, want, api.OK)
					checkRight(t, want, true)
				}
			}
		}
	}
}

func TestNewOfWhatMayNotBe(t *testing.T) { // P12.1, R2, R3, P1
	none := api.Stp{}
	for _, costs := range [][]int{nil, {}, {1}, {1, 1000}, {0}, slices.Repeat([]int{1}, 9)} {
		for _, id := range noIDs {
			checkNew(t, id, costs, 20, 2, none, api.ErrSize)
		}
		for _, most := range noMosts {
			checkNew(t, 5, costs, most, 2, none, api.ErrSize)
			checkNew(t, -1, costs, most, 0, none, api.ErrSize)
		}
		for _, delay := range noDelays {
			checkNew(t, 5, costs, 20, delay, none, api.ErrSize)
			checkNew(t, 5, costs, 0, delay, none, api.ErrSize)
		}
	}
	for _, ports := range []int{0, 9, 10, 16, 255, 256, 257, 1 << 20} {
		checkNew(t, 5, slices.Repeat([]int{1}, ports), 20, 2, none, api.ErrSize)
	}
	for ports := 1; ports <= 8; ports++ {
		for place := range ports {
			for _, cost := range noCosts {
				costs := slices.Repeat([]int{7}, ports)
				costs[place] = cost
				checkNew(t, 5, costs, 20, 2, none, api.ErrSize)
			}
		}
	}
}

func TestRightOfEachState(t *testing.T) { // P12.1
	for delay := 1; delay <= 30; delay++ {
		for left := 1; left <= delay; left++ {
			checkRight(t, of(5, 20, delay, quiet(1, listens(left))), true)
			checkRight(t, of(5, 20, delay, quiet(1, learns(left))), true)
		}
		checkRight(t, of(5, 20, delay, quiet(1, forwards)), true)
		checkRight(t, of(5, 20, delay, off(1)), true)
		for _, state := range []api.PortState{
			listens(0), listens(-1), listens(delay + 1), learns(0), learns(-1), learns(delay + 1), learns(math.MaxInt),
			{State: 3, Left: 1}, {State: 0, Left: 1}, {State: 3, Left: delay}, {State: -1}, {State: 4}, {State: 4, Left: 1}, {State: 1 << 32, Left: 0},
		} {
			checkWrong(t, of(5, 20, delay, quiet(1, state)))
			checkWrong(t, of(5, 20, delay, off(2), quiet(1, state), quiet(3, forwards)))
			checkWrong(t, of(5, 20, delay, line{cost: 1, state: state}))
		}
	}
}

func TestRightOfEachAge(t *testing.T) { // P12.1
	for most := 1; most <= 255; most++ {
		for _, age := range []int{0, 1, most - 2, most - 1, most, most + 1, 254, 255} {
			if age < 0 {
				continue
			}
			for place := range 3 {
				lines := slices.Repeat([]line{quiet(1, forwards)}, 3)
				lines[place] = heard(1, told(6, 0, 6, 0, age), forwards)
				s := of(5, most, 2, lines...)
				if age < most {
					checkRight(t, s, true)
				} else {
					checkWrong(t, s)
				}
			}
		}
	}
}

func TestRightIfBlockedJustByRole(t *testing.T) { // P12.1
	root := heard(10, told(1, 20, 3, 2, 0), forwards) // so that by port p bridge 5 would tell 1 30 5 p
	for _, l := range []line{quiet(1, blocked), heard(1, told(2, 0, 2, 0, 0), blocked), heard(1, told(1, 30, 6, 0, 0), blocked)} {
		checkWrong(t, of(5, 20, 2, root, l)) // RDesignated, and yet PBlocked
		for _, state := range []api.PortState{listens(2), listens(1), learns(2), learns(1), forwards} {
			l.state = state
			checkRight(t, of(5, 20, 2, root, l), true)
		}
	}
	for _, l := range []line{off(1), heard(1, told(1, 29, 9, 7, 0), blocked), heard(20, told(1, 20, 3, 2, 0), blocked)} {
		checkRight(t, of(5, 20, 2, root, l), true)
		for _, state := range []api.PortState{listens(2), listens(1), learns(2), learns(1), forwards} {
			l.state = state // ROff, or RAlternate, and yet not PBlocked
			checkWrong(t, of(5, 20, 2, root, l))
		}
	}
	root.state = blocked // RRoot, and yet PBlocked
	checkWrong(t, of(5, 20, 2, root))
	checkWrong(t, of(5, 20, 2, root, quiet(1, forwards)))
}

func TestWrongBridges(t *testing.T) { // P12.1, R2, P1
	good := func() api.Stp {
		return of(5, 20, 2, quiet(1, forwards), heard(1, told(6, 0, 6, 0, 0), forwards), off(1))
	}
	checkRight(t, good(), true)
	for _, id := range noIDs {
		s := good()
		s.Self.ID = id
		checkWrong(t, s)
	}
	for place := range 3 {
		for _, cost := range noCosts {
			s := good()
			s.Self.Costs[place] = cost
			checkWrong(t, s)
		}
		for _, c := range wrongConfigs {
			s := good()
			s.Self.Infos[place] = infoOf(c)
			checkWrong(t, s)
		}
		s := good()
		s.Self.Infos[place] = api.Info{Vec: vecOf(0, 0, 0, 1)}
		checkWrong(t, s)
	}
	s := good()
	s.Self.Infos[2] = told(9, 0, 9, 0, 0) // whoever is not up knows nothing
	checkWrong(t, s)
}

func TestWrongMostsAndDelays(t *testing.T) { // P12.1, R2, P1
	for _, l := range []line{quiet(1, forwards), off(1), quiet(1, listens(1)), heard(1, told(9, 0, 9, 0, 0), learns(1))} {
		for _, most := range noMosts {
			checkWrong(t, of(5, most, 2, l))
		}
		for _, delay := range noDelays {
			checkWrong(t, of(5, 20, delay, l))
		}
		for _, most := range mosts {
			for _, delay := range delays {
				checkRight(t, of(5, most, delay, l), true)
			}
		}
	}
}

func TestListsOfUnlikeLengths(t *testing.T) { // P12.1, R3, R2, P1
	checkWrong(t, api.Stp{})
	checkWrong(t, of(5, 20, 2))
	for costs := range 10 {
		for ups := range 10 {
			for infos := range 10 {
				for states := range 10 {
					s := api.Stp{Self: api.Self{ID: 5, Costs: slices.Repeat([]int{1}, costs), Ups: slices.Repeat([]bool{true}, ups), Infos: make([]api.Info, infos)},
						States: slices.Repeat([]api.PortState{forwards}, states), Max: 20, Delay: 2}
					want := costs == ups && ups == infos && infos == states && 1 <= costs && costs <= 8
					checkRight(t, s, want)
				}
			}
		}
	}
	for states := range 10 {
		s := of(5, 20, 2, quiet(1, forwards), quiet(1, forwards), quiet(1, forwards))
		s.States = slices.Repeat([]api.PortState{forwards}, states)
		if states != 3 {
			checkWrong(t, s)
		}
	}
	checkWrong(t, of(5, 20, 2, slices.Repeat([]line{quiet(1, forwards)}, 9)...))
}

func TestNoSuchPort(t *testing.T) { // P12.1, R2, P1
	for ports := 1; ports <= 8; ports++ {
		s := of(5, 20, 2, slices.Repeat([]line{quiet(7, forwards)}, ports)...)
		for _, port := range []int{-1, -2, -8, ports, ports + 1, 8, 9, 255, 256, 1 << 32, math.MaxInt, math.MinInt} {
			// that is named ahead of a config that may not be
			for _, c := range append([]api.Config{{}, config(1, 2, 3, 4, 5), config(1, 2, 3, 4, 255)}, wrongConfigs...) {
				checkHear(t, s, port, c, api.Stp{}, false, api.ErrRange)
			}
			checkLink(t, s, port, true, api.Stp{}, api.ErrRange)
			checkLink(t, s, port, false, api.Stp{}, api.ErrRange)
		}
	}
}

func TestWrongConfigs(t *testing.T) { // P12.2, R2, P1
	s := of(5, 20, 2, quiet(1, forwards), off(1), heard(1, told(6, 0, 0, 0, 0), forwards), heard(10, told(1, 0, 1, 0, 0), forwards), heard(10, told(1, 0, 1, 1, 0), blocked))
	checkRight(t, s, true)
	for port := range s.States {
		for _, c := range wrongConfigs {
			checkHear(t, s, port, c, api.Stp{}, false, api.ErrArg)
			c.Age = 256
			checkHear(t, s, port, c, api.Stp{}, false, api.ErrArg)
		}
	}
}

func TestConfigsAtTheEdges(t *testing.T) { // P12.2
	s := of(5, 255, 2, quiet(1, forwards), off(1), heard(1, told(6, 0, 0, 0, 0), forwards), heard(10, told(1, 0, 1, 0, 0), forwards), heard(10, told(1, 0, 1, 1, 0), blocked))
	checkAll(t, s, config(0, 0, 0, 0, 0), config(65535, 0, 0, 0, 0), config(0, 1<<31-1, 0, 0, 0), config(0, 0, 65535, 0, 0), config(0, 0, 0, 7, 0),
		config(0, 0, 0, 0, 254), config(0, 0, 0, 0, 255), config(65535, 1<<31-1, 65535, 7, 254), config(65535, 1<<31-1, 65535, 7, 255))
}

func TestHearWhereNothingIsKnown(t *testing.T) { // P12.2
	s := of(5, 20, 2, quiet(10, learns(1)), quiet(10, forwards))
	for _, c := range []struct {
		c      api.Config
		states []api.PortState
	}{
		{config(1, 0, 1, 0, 3), []api.PortState{learns(1), forwards}},                     // it is the root port from now on
		{config(5, 0, 4, 0, 3), []api.PortState{blocked, forwards}},                       // a lesser bridge tells of its own root
		{config(5, 0, 5, 0, 3), []api.PortState{learns(1), forwards}},                     // it hears itself
		{config(6, 0, 6, 0, 3), []api.PortState{learns(1), forwards}},                     // that is worse
		{config(65535, 1<<31-1, 65535, 7, 19), []api.PortState{learns(1), forwards}},      // worse cannot be
		{config(4, 1<<31-1, 65535, 7, 19), []api.PortState{learns(1), forwards}},          // nor any farther
		{config(5, 1<<31-1, 65535, 7, 0), []api.PortState{learns(1), forwards}},           // nor its own any farther
		{config(0, 0, 0, 0, 0), []api.PortState{learns(1), forwards}},                     // better cannot be
		{api.Config{Vec: vecOf(5, 0, 0, 7), Age: 19}, []api.PortState{blocked, forwards}}, // nor its own
	} {
		want := of(5, 20, 2, heard(10, infoOf(c.c), c.states[0]), quiet(10, c.states[1]))
		checkHear(t, s, 0, c.c, want, true, api.OK)
	}
}

func TestHearWhatIsBetter(t *testing.T) { // P12.2
	known := told(100, 100, 100, 4, 5) // worse than what the bridge itself would tell
	s := of(5, 20, 2, quiet(1, forwards), heard(1, known, forwards))
	for _, c := range []struct {
		c  api.Config
		is bool
	}{
		{config(99, 1<<31-1, 65535, 7, 9), true},
		{config(101, 0, 0, 0, 0), false},
		{config(100, 99, 65535, 7, 9), true},
		{config(100, 101, 0, 0, 0), false},
		{config(100, 100, 99, 7, 9), true},
		{config(100, 100, 101, 0, 0), false},
		{config(100, 100, 100, 3, 9), true},
		{config(100, 100, 100, 5, 0), false},
		{config(100, 100, 100, 4, 9), true},           // whoever told it tells it again, and older
		{config(100, 100, 100, 4, 5), true},           // or as it was
		{config(100, 100, 100, 4, 0), true},           // or younger
		{config(101, 0, 100, 4, 0), true},             // or something worse
		{config(65535, 1<<31-1, 100, 4, 19), true},    // or the worst of all
		{config(65535, 1<<31-1, 100, 5, 19), false},   // by another port
		{config(65535, 1<<31-1, 101, 4, 19), false},   // it is another bridge, though its port is of that number
		{config(65535, 1<<31-1, 65535, 7, 19), false}, // or the whole is another one
		{config(100, 101, 101, 4, 0), false},          // younger is no better
		{config(100, 100, 100, 5, 0), false},          // even of the same bridge
		{config(99, 1<<31-1, 65535, 7, 20), false},    // too old
		{config(100, 100, 100, 4, 20), false},         // even of who told it
		{config(100, 100, 100, 4, 255), false},        // by far
		{config(100, 100, 100, 4, 19), true},          // all but
	} {
		want := s
		if c.is {
			want = of(5, 20, 2, quiet(1, forwards), heard(1, infoOf(c.c), forwards))
		}
		checkHear(t, s, 1, c.c, want, c.is, api.OK)
	}
}

func TestHearByAPortThatIsNotUp(t *testing.T) { // P12.2
	s := of(5, 20, 2, off(1), quiet(1, forwards), off(1))
	for _, c := range []api.Config{{}, config(1, 0, 1, 0, 0), config(5, 0, 4, 0, 19), config(65535, 9, 9, 7, 20)} {
		checkHear(t, s, 0, c, s, false, api.OK)
		checkHear(t, s, 2, c, s, false, api.OK)
	}
}

func TestHearOfEachAge(t *testing.T) { // P12.2
	for most := 1; most <= 255; most++ {
		s := of(5, most, 2, quiet(1, forwards))
		for age := range 256 {
			if c := config(1, 0, 1, 0, age); age < most {
				checkHear(t, s, 0, c, of(5, most, 2, heard(1, infoOf(c), forwards)), true, api.OK)
			} else {
				checkHear(t, s, 0, c, s, false, api.OK)
			}
		}
	}
}

func TestHearSettlesAllPorts(t *testing.T) { // P12.2
	s := of(5, 20, 3,
		heard(10, told(2, 0, 2, 0, 1), forwards),   // the root port: 2 10 5 p is told
		heard(10, told(2, 5, 3, 0, 1), blocked),    // that is better
		heard(10, told(2, 10, 6, 0, 1), learns(2)), // that is worse
		quiet(10, listens(1)),
		off(10))
	checkRight(t, s, true)
	// a better root by another port: the old root port tells 1 10 5 0 from now on, and so does who was better
	want := of(5, 20, 3,
		heard(10, told(2, 0, 2, 0, 1), forwards),
		heard(10, told(2, 5, 3, 0, 1), listens(3)),
		heard(10, told(2, 10, 6, 0, 1), learns(2)),
		heard(10, told(1, 0, 1, 7, 4), listens(1)),
		off(10))
	checkHear(t, s, 3, config(1, 0, 1, 7, 4), want, true, api.OK)
	// a nearer way to the same root: the old root port's info is better than what is told, 2 9 5 0
	want = of(5, 20, 3,
		heard(10, told(2, 0, 2, 0, 1), blocked),
		heard(10, told(2, 5, 3, 0, 1), blocked),
		heard(9, told(2, 0, 2, 1, 4), learns(2)),
		quiet(10, listens(1)),
		off(10))
	nearer := clone(s)
	nearer.Self.Costs[2] = 9
	checkHear(t, nearer, 2, config(2, 0, 2, 1, 4), want, true, api.OK)
	// who told of the root tells something worse: the next best way is taken
	want = of(5, 20, 3,
		heard(10, told(7, 0, 2, 0, 9), forwards),
		heard(10, told(2, 5, 3, 0, 1), listens(3)),
		heard(10, told(2, 10, 6, 0, 1), blocked), // better than 2 15 5 2
		quiet(10, listens(1)),
		off(10))
	checkHear(t, s, 0, config(7, 0, 2, 0, 9), want, true, api.OK)
}

func TestTickOfAges(t *testing.T) { // P12.3
	for most := 1; most <= 255; most++ {
		for age := range most {
			s := of(5, most, 2, heard(1, told(6, 0, 6, 0, age), forwards), quiet(1, forwards))
			want := of(5, most, 2, heard(1, told(6, 0, 6, 0, age+1), forwards), quiet(1, forwards))
			if age+1 == most {
				want = of(5, most, 2, quiet(1, forwards), quiet(1, forwards))
			}
			checkTick(t, s, want, api.OK, sent(0, 5, 0, 5, 0), sent(1, 5, 0, 5, 0))
		}
	}
}

func TestTickOfStates(t *testing.T) { // P12.3
	for delay := 1; delay <= 30; delay++ {
		way := []api.PortState{}
		for left := delay; left > 0; left-- {
			way = append(way, listens(left))
		}
		for left := delay; left > 0; left-- {
			way = append(way, learns(left))
		}
		way = append(way, forwards, forwards)
		s := fresh(t, 5, []int{1, 10, 1000}, 20, delay)
		for _, state := range way {
			want := of(5, 20, delay, quiet(1, state), quiet(10, state), quiet(1000, state))
			if !same(s, want) {
				t.Fatalf("the tree is %+v, want %+v", s, want)
			}
			s, _ = tick(t, s)
		}
	}
}

func TestTickHasWhatIsTooOldForgotten(t *testing.T) { // P12.3
	s := of(5, 20, 2,
		heard(10, told(1, 0, 1, 0, 19), forwards), // the root port, too old at once
		heard(10, told(1, 5, 2, 0, 18), blocked),  // the next best one
		heard(10, told(1, 6, 3, 0, 19), blocked),  // too old at once, too
		quiet(10, learns(1)))
	want := of(5, 20, 2,
		quiet(10, forwards),
		heard(10, told(1, 5, 2, 0, 19), listens(1)), // it listens, and has its first tick
		quiet(10, listens(1)),
		quiet(10, forwards))
	checkTick(t, s, want, api.OK) // what is told would be 20 old
	s.Delay, want.Delay = 1, 1
	s.States[3] = learns(1)
	want.States[1], want.States[2] = learns(1), learns(1)
	checkTick(t, s, want, api.OK)
	// nobody else tells of a root: it is itself one
	last := of(5, 20, 2, heard(10, told(1, 0, 1, 0, 19), forwards), heard(10, told(1, 5, 2, 0, 19), blocked), off(1))
	checkTick(t, last, of(5, 20, 2, quiet(10, forwards), quiet(10, listens(1)), off(1)), api.OK, sent(0, 5, 0, 5, 0), sent(1, 5, 0, 5, 0))
}

func TestTickTells(t *testing.T) { // P12.3
	s := of(5, 20, 2,
		quiet(10, forwards),
		off(10),
		heard(10, told(1, 7, 1, 0, 3), forwards),
		heard(10, told(1, 16, 9, 0, 3), blocked),
		heard(10, told(1, 18, 4, 0, 3), learns(2)),
		heard(10, told(2, 0, 2, 0, 3), listens(2)),
		quiet(10, listens(2)),
		quiet(10, listens(1)))
	want := of(5, 20, 2,
		quiet(10, forwards),
		off(10),
		heard(10, told(1, 7, 1, 0, 4), forwards),
		heard(10, told(1, 16, 9, 0, 4), blocked),
		heard(10, told(1, 18, 4, 0, 4), learns(1)),
		heard(10, told(2, 0, 2, 0, 4), listens(1)),
		quiet(10, listens(1)),
		quiet(10, learns(2)))
	checkTick(t, s, want, api.OK, sent(0, 1, 17, 5, 5), sent(4, 1, 17, 5, 5), sent(5, 1, 17, 5, 5), sent(6, 1, 17, 5, 5), sent(7, 1, 17, 5, 5))
	for most, is := range map[int]bool{255: true, 6: true, 5: false} {
		s.Max, want.Max = most, most
		if is {
			checkTick(t, s, want, api.OK, sent(0, 1, 17, 5, 5), sent(4, 1, 17, 5, 5), sent(5, 1, 17, 5, 5), sent(6, 1, 17, 5, 5), sent(7, 1, 17, 5, 5))
		} else {
			checkTick(t, s, want, api.OK)
		}
	}
}

func TestLinkGoesDown(t *testing.T) { // P12.3
	s := of(5, 20, 2, heard(10, told(1, 0, 1, 0, 7), forwards), heard(10, told(1, 5, 2, 0, 8), blocked), quiet(10, learns(1)), off(1))
	checkLink(t, s, 0, false, of(5, 20, 2, off(10), heard(10, told(1, 5, 2, 0, 8), listens(2)), quiet(10, learns(1)), off(1)), api.OK)
	checkLink(t, s, 1, false, of(5, 20, 2, heard(10, told(1, 0, 1, 0, 7), forwards), off(10), quiet(10, learns(1)), off(1)), api.OK)
	checkLink(t, s, 2, false, of(5, 20, 2, heard(10, told(1, 0, 1, 0, 7), forwards), heard(10, told(1, 5, 2, 0, 8), blocked), off(10), off(1)), api.OK)
	checkLink(t, s, 3, false, s, api.OK)
	checkLink(t, of(5, 20, 2, quiet(1, forwards)), 0, false, of(5, 20, 2, off(1)), api.OK)
}

func TestLinkComesUp(t *testing.T) { // P12.3
	s := of(5, 20, 3, off(1), heard(10, told(1, 0, 1, 0, 7), forwards), off(1000), heard(10, told(1, 0, 1, 1, 7), blocked))
	checkLink(t, s, 0, true, of(5, 20, 3, quiet(1, listens(3)), heard(10, told(1, 0, 1, 0, 7), forwards), off(1000), heard(10, told(1, 0, 1, 1, 7), blocked)), api.OK)
	checkLink(t, s, 2, true, of(5, 20, 3, off(1), heard(10, told(1, 0, 1, 0, 7), forwards), quiet(1000, listens(3)), heard(10, told(1, 0, 1, 1, 7), blocked)), api.OK)
	checkLink(t, s, 1, true, s, api.OK) // it was up, and knows what it knew
	checkLink(t, s, 3, true, s, api.OK)
}

func TestForwards(t *testing.T) { // P12.3
	all := []api.PortState{listens(2), listens(1), learns(2), learns(1), forwards}
	for ports := 1; ports <= 8; ports++ {
		for place := range ports {
			for _, state := range all {
				lines := slices.Repeat([]line{quiet(1, learns(1))}, ports)
				lines[place] = quiet(1, state)
				if state == forwards {
					checkForwards(t, of(5, 20, 2, lines...), api.OK, place)
				} else {
					checkForwards(t, of(5, 20, 2, lines...), api.OK)
				}
			}
		}
	}
	checkForwards(t, of(5, 20, 2, slices.Repeat([]line{quiet(1, forwards)}, 8)...), api.OK, 0, 1, 2, 3, 4, 5, 6, 7)
	checkForwards(t, of(5, 20, 2, quiet(1, forwards), off(1), heard(1, told(1, 0, 1, 0, 0), forwards), heard(1, told(1, 0, 1, 1, 0), blocked), quiet(1, learns(2)), quiet(1, forwards)), api.OK, 0, 2, 5)
	checkForwards(t, of(5, 20, 2, off(1)), api.OK)
}

func TestManyTrees(t *testing.T) { // P12.1, P12.2, P12.3, R4
	c := chance(1)
	for range 4000 {
		s := c.tree()
		checkAll(t, s, c.config(s.Max), c.config(s.Max), c.config(256), c.config(256))
	}
}

func TestManyTreesWithAWrongPlace(t *testing.T) { // P12.1, R2, P1
	c := chance(2)
	for range 2000 {
		s := c.tree()
		at := c.below(len(s.States))
		switch c.below(5) {
		case 0:
			s.States[at] = []api.PortState{{State: 4}, {State: -1}, {State: 0, Left: 1}, {State: 3, Left: 1}, listens(0), learns(s.Delay + 1)}[c.below(6)]
		case 1:
			if s.States[at] == blocked {
				s.States[at] = []api.PortState{listens(1), learns(1), forwards}[c.below(3)]
			} else {
				s.States[at] = blocked
			}
		case 2:
			s.States = append(s.States, s.States[at])
		case 3:
			s.States = slices.Delete(s.States, at, at+1)
		case 4:
			s.Self.Infos[at] = told(6, 0, 6, 0, s.Max+c.below(3))
		}
		checkWrong(t, s)
	}
}

func TestHistories(t *testing.T) { // P12.1, P12.2, P12.3, P12.4
	c := chance(3)
	for range 300 {
		costs := make([]int, 1+c.below(8))
		for i := range costs {
			costs[i] = c.of([]int{1, 2, 10, 1000})
		}
		s := fresh(t, c.of([]int{0, 4, 5, 6, 65535}), costs, c.of([]int{1, 2, 3, 20, 255}), c.of([]int{1, 2, 30}))
		for range 60 {
			port, known := c.below(len(costs)), c.config(256)
			known.Age = c.below(min(s.Max+2, 256))
			switch c.below(5) {
			case 0, 1:
				want, is := wantHear(s, port, known)
				checkHear(t, s, port, known, want, is, api.OK)
				s, _ = hear(t, s, port, known)
			case 2, 3:
				want, sends := wantTick(s)
				checkTick(t, s, want, api.OK, sends...)
				s, _ = tick(t, s)
			case 4:
				up := c.below(3) > 0
				checkLink(t, s, port, up, wantLink(s, port, up), api.OK)
				s = link(t, s, port, up)
			}
			checkRight(t, s, true)
			checkForwards(t, s, api.OK, wantForwards(s)...)
		}
	}
}

func TestWhoHearsNothingHoldsAPortForItsOwn(t *testing.T) { // P12.4
	for most := 1; most <= 255; most++ {
		for _, age := range []int{0, 1, most / 2, most - 1} {
			if age >= most {
				continue
			}
			s, is := hear(t, fresh(t, 5, []int{10, 10}, most, 2), 0, config(1, 0, 1, 0, age))
			if !is {
				t.Fatalf("age %d of %d is not taken", age, most)
			}
			for ticks := 1; ticks <= most; ticks++ {
				out, sends := tick(t, s)
				s = out
				isKnown := age+ticks < most
				if s.Self.Infos[0].Has != isKnown {
					t.Errorf("behind %d ticks of %d, at first of age %d, port 0 knows %+v", ticks, most, age, s.Self.Infos[0])
				}
				isOwn := slices.Contains(sends, sent(0, 5, 0, 5, 0))
				if isOwn == isKnown {
					t.Errorf("behind %d ticks of %d, at first of age %d, %+v goes out", ticks, most, age, sends)
				}
			}
		}
	}
}

func TestWhoHearsNothingFromAnyPortHoldsAllForItsOwn(t *testing.T) { // P12.4
	c := chance(4)
	for range 1000 {
		s := c.tree()
		if s.Max > 20 {
			continue
		}
		for range s.Max - 1 {
			s, _ = tick(t, s)
		}
		s, sends := tick(t, s)
		var want []api.Send
		for port, up := range s.Self.Ups {
			if s.Self.Infos[port] != (api.Info{}) {
				t.Errorf("port %d of %+v knows something", port, s)
			}
			if up {
				want = append(want, sent(port, s.Self.ID, 0, s.Self.ID, 0))
			}
		}
		if !slices.Equal(sends, want) {
			t.Errorf("of %+v %+v goes out", s, sends)
		}
	}
}

func TestNothingIsToldAsYoungAsItWas(t *testing.T) { // P12.4
	c := chance(5)
	others := 0
	for range 10000 {
		s := c.tree()
		_, sends := tick(t, s)
		for _, send := range sends {
			if send.Config.Vec.Root == s.Self.ID {
				continue
			}
			others++
			isOlder := false
			for port, info := range s.Self.Infos {
				far := levelOf(info.Vec, s.Self.Costs[port])
				isOlder = isOlder || info.Has && far[0] == send.Config.Vec.Root && far[1] == send.Config.Vec.Cost && send.Config.Age > info.Age
			}
			if !isOlder || send.Config.Age >= s.Max {
				t.Errorf("of %+v %+v goes out", s, send)
			}
		}
	}
	if others == 0 {
		t.Error("nothing was told of others")
	}
}

func TestWhatIsToldGetsOlderFromBridgeToBridge(t *testing.T) { // P12.4
	c := config(1, 0, 1, 0, 0)
	for id := 2; ; id++ {
		s, is := hear(t, fresh(t, id, []int{id, 1}, 20, 1), 0, c)
		if !is {
			t.Fatalf("bridge %d does not take %+v", id, c)
		}
		_, sends := tick(t, s)
		if c.Age+2 >= 20 {
			if len(sends) != 0 {
				t.Errorf("bridge %d tells %+v", id, sends)
			}
			return
		}
		// one older by the tick, and one by being told again
		if want := sent(1, 1, c.Vec.Cost+id, id, c.Age+2); !slices.Equal(sends, []api.Send{want}) {
			t.Fatalf("bridge %d tells %+v, want %+v", id, sends, want)
		}
		c = sends[0].Config
	}
}

// wire joins a bridge's port to another bridge's.
type wire struct{ a, p, b, q int }

// play has all bridges tick, and hear what goes out by each wire, as often as is said.
func play(t *testing.T, net []api.Stp, wires []wire, rounds int) {
	t.Helper()
	for range rounds {
		for a := range net {
			var sends []api.Send
			net[a], sends = tick(t, net[a])
			for _, send := range sends {
				for _, w := range wires {
					if w.a == a && w.p == send.Port {
						net[w.b], _ = hear(t, net[w.b], w.q, send.Config)
					}
					if w.b == a && w.q == send.Port {
						net[w.a], _ = hear(t, net[w.a], w.p, send.Config)
					}
				}
			}
		}
	}
}

func checkNet(t *testing.T, name string, net []api.Stp, want ...[]int) {
	t.Helper()
	for i, s := range net {
		checkRight(t, s, true)
		if l, e := stp.Forwards(s); !slices.Equal(l, want[i]) || e != api.OK {
			t.Errorf("%s: of bridge %d %v forward, %d, want %v", name, i, l, e, want[i])
		}
	}
}

func TestBridgesAgreeOnATree(t *testing.T) { // P12.2, P12.3
	// bridges 1, 2 and 3 each have a wire to both others, and a port of their own
	costs := []int{10, 10, 10}
	net := []api.Stp{fresh(t, 1, costs, 20, 2), fresh(t, 2, costs, 20, 2), fresh(t, 3, costs, 20, 2)}
	wires := []wire{{0, 0, 1, 0}, {1, 1, 2, 1}, {0, 1, 2, 0}}
	checkNet(t, "at first", net, nil, nil, nil)
	play(t, net, wires, 3)
	checkNet(t, "ahead of twice the delay", net, nil, nil, nil)
	play(t, net, wires, 7)
	checkNet(t, "of three", net, []int{0, 1, 2}, []int{0, 1, 2}, []int{0, 2})
	// the wire between 1 and 3 goes down at both ends: 3 goes by 2 then
	net[0], net[2] = link(t, net[0], 1, false), link(t, net[2], 0, false)
	checkNet(t, "at once", net, []int{0, 2}, []int{0, 1, 2}, []int{2})
	play(t, net, wires[:2], 10)
	checkNet(t, "of a line", net, []int{0, 2}, []int{0, 1, 2}, []int{1, 2})
	// bridge 1 is silent from now on: what it told gets old, and 2 is the root
	rest := net[1:]
	play(t, rest, []wire{{0, 1, 1, 1}}, 60)
	checkNet(t, "of two", rest, []int{0, 1, 2}, []int{1, 2})
	if rest[1].Self.Infos[1].Vec != vecOf(2, 0, 2, 1) {
		t.Errorf("bridge 3 knows %+v", rest[1].Self.Infos)
	}
}

func TestARootThatDoesNotExistIsForgotten(t *testing.T) { // P12.4
	costs := []int{10, 10}
	net := []api.Stp{fresh(t, 5, costs, 10, 1), fresh(t, 6, costs, 10, 1)}
	wires := []wire{{0, 1, 1, 0}}
	play(t, net, wires, 5)
	net[1], _ = hear(t, net[1], 1, config(0, 0, 0, 0, 0))
	play(t, net, wires, 2)
	if v := net[0].Self.Infos[1].Vec; v != vecOf(0, 10, 6, 0) {
		t.Errorf("bridge 5 knows %+v", net[0].Self.Infos)
	}
	play(t, net, wires, 30)
	checkNet(t, "behind it", net, []int{0, 1}, []int{0, 1})
	if net[0].Self.Infos[1].Has || net[1].Self.Infos[1].Has || net[1].Self.Infos[0].Vec != vecOf(5, 0, 5, 1) {
		t.Errorf("they know %+v, %+v", net[0].Self.Infos, net[1].Self.Infos)
	}
}

// spoil changes whatever the lists of a tree hold, and what lies behind them.
func spoil(s api.Stp) {
	s.Self.Costs = append(s.Self.Costs, 9)
	s.Self.Ups = append(s.Self.Ups, true)
	s.Self.Infos = append(s.Self.Infos, told(9, 9, 9, 7, 9))
	s.States = append(s.States, learns(9))
	for i := range s.States {
		s.Self.Costs[i], s.Self.Ups[i], s.Self.Infos[i], s.States[i] = 999, !s.Self.Ups[i], told(8, 8, 8, 7, 8), learns(8)
	}
}

func TestAnswersAreNewMemory(t *testing.T) { // R1, R4
	lines := []line{heard(10, told(1, 0, 1, 0, 7), forwards), heard(10, told(1, 5, 2, 0, 8), blocked), quiet(10, learns(1)), off(1), quiet(1, forwards)}
	whole := of(5, 20, 2, lines...)
	s := of(5, 20, 2, lines[:4]...)
	s.Self.Costs, s.Self.Ups, s.Self.Infos, s.States = whole.Self.Costs[:4], whole.Self.Ups[:4], whole.Self.Infos[:4], whole.States[:4]
	before := clone(whole)
	for port := range s.States {
		for _, c := range []api.Config{config(1, 0, 1, 0, 0), config(9, 0, 9, 0, 0), config(1, 0, 1, 0, 20)} {
			out, _ := hear(t, s, port, c)
			spoil(out)
		}
		spoil(link(t, s, port, true))
		spoil(link(t, s, port, false))
	}
	out, _ := tick(t, s)
	spoil(out)
	checkKept(t, "a change of an answer", whole, before)
	costs := []int{1, 2, 3, 4}
	spoil(fresh(t, 5, costs[:3], 20, 2))
	if !slices.Equal(costs, []int{1, 2, 3, 4}) {
		t.Errorf("a change of an answer changed %v", costs)
	}
	l, _ := stp.Forwards(s)
	clear(l)
	checkForwards(t, s, api.OK, 0)
}

func TestManyAtOnceHearTheSame(t *testing.T) { // R1
	var all sync.WaitGroup
	s := of(5, 20, 2, heard(10, told(1, 0, 1, 0, 7), forwards), heard(10, told(1, 5, 2, 0, 8), blocked), quiet(10, learns(1)), off(1))
	later, sends := wantTick(s)
	heard, isWanted := wantHear(s, 2, config(1, 0, 0, 0, 3))
	linked := wantLink(s, 0, false)
	failed := make([]bool, 16)
	for i := range failed {
		all.Go(func() {
			for range 200 {
				a, l, _ := stp.Tick(s)
				b, is, _ := stp.Hear(s, 2, config(1, 0, 0, 0, 3))
				c, _ := stp.Link(s, 0, false)
				failed[i] = failed[i] || !same(a, later) || !slices.Equal(l, sends) || !same(b, heard) || is != isWanted || !same(c, linked)
			}
		})
	}
	all.Wait()
	if slices.Contains(failed, true) {
		t.Error("some heard otherwise")
	}
}

// isTree says independently whether a tree whose lists are as long as its costs may be.
func isTree(s api.Stp) bool {
	is := s.Self.ID == int(uint16(s.Self.ID)) && 1 <= s.Max && s.Max <= 255 && 1 <= s.Delay && s.Delay <= 30
	for port, info := range s.Self.Infos {
		is = is && 1 <= s.Self.Costs[port] && s.Self.Costs[port] <= 1000
		is = is && (info == api.Info{} || info.Has && s.Self.Ups[port] && isConfig(api.Config{Vec: info.Vec, Age: info.Age}) && info.Age < s.Max)
	}
	for port, state := range s.States {
		isLeft := 1 <= state.Left && state.Left <= s.Delay
		isState := (state.State == 1 || state.State == 2) && isLeft || (state.State == 0 || state.State == 3) && state.Left == 0
		is = is && isState && (state.State == 0) == (wantRole(s.Self, port) > 1)
	}
	return is
}

func isConfig(c api.Config) bool {
	v := c.Vec
	return v.Root == int(uint16(v.Root)) && v.Cost == v.Cost&(1<<31-1) && v.Bridge == int(uint16(v.Bridge)) && v.Port == v.Port&7 && c.Age == int(uint8(c.Age))
}

func FuzzAllCalls(f *testing.F) { // P12.1, P12.2, P12.3, P1
	f.Add(5, 10, true, true, 1, 0, 1, 0, 0, 3, 0, 20, 2, 0, uint64(1))
	f.Add(5, 10, true, false, 0, 0, 0, 0, 0, 1, 2, 20, 2, 0, uint64(2))
	f.Add(5, 10, false, false, 0, 0, 0, 0, 0, 0, 0, 256, 31, 8, uint64(3))
	f.Add(0, 1000, true, true, 65535, 1<<31-1, 65535, 7, 254, 2, 30, 255, 30, 7, uint64(4))
	f.Add(math.MinInt, math.MaxInt, true, true, -1, -1, -1, -1, -1, -1, -1, -1, -1, -1, uint64(5))
	f.Fuzz(func(t *testing.T, id, cost int, up, has bool, root, far, bridge, port, age, state, left, most, delay, at int, seed uint64) {
		r := chance(seed)
		s, c := r.tree(), config(root, far, bridge, port, age)
		if isConfig(c) {
			checkAll(t, s, c)
		} else {
			checkHear(t, s, 0, c, api.Stp{}, false, api.ErrArg)
		}
		if at < 0 || at >= len(s.States) {
			checkHear(t, s, at, c, api.Stp{}, false, api.ErrRange)
			checkLink(t, s, at, up, api.Stp{}, api.ErrRange)
		}
		place := r.below(len(s.States))
		s.Self.ID, s.Max, s.Delay = id, most, delay
		s.Self.Costs[place], s.Self.Ups[place] = cost, up
		s.Self.Infos[place] = api.Info{Has: has, Vec: c.Vec, Age: age}
		s.States[place] = api.PortState{State: state, Left: left}
		if isTree(s) {
			checkAll(t, s, r.config(256))
		} else {
			checkWrong(t, s)
		}
	})
}
