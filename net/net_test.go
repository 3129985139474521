package net_test

import (
	"math"
	"slices"
	"strings"
	"sync"
	"testing"

	"footway/api"
	"footway/bpdu"
	"footway/bridge"
	"footway/fdb"
	"footway/net"
	"footway/stp"
	"footway/tree"
)

const (
	latest   = 1 << 40
	mostLost = 1000000

	// Some stations, a group, and all of them.
	ann  = 0x020000000001
	bob  = 0x020000000002
	cid  = 0x0a0000000003
	dot  = 0xfe0000000004
	club = 0x030000000001
	all  = 1<<48 - 1

	reserved = 0x0180c2000000

	none = -1 // no bridge, and no port
)

var (
	allStations = []int{ann, bob, cid, dot}
	noPlaces    = []int{-1, -2, -8, 8, 9, 255, 256, 1 << 32, math.MaxInt, math.MinInt} // of at most eight
	noMosts     = []int{-1, -2, -3000, 3001, 3002, 6000, 1 << 32, math.MaxInt, math.MinInt}
	tooLong     = []string{strings.Repeat("\x02", 115), strings.Repeat("x", 116), strings.Repeat("x", 1<<16)}

	plain = api.Setting{Most: 20, Delay: 1, Room: 4, Buckets: 1, Slots: 4, Age: 10}
)

func seen(a, port, at int) api.Entry { return api.Entry{Mac: a, Port: port, Seen: at} }
func pinned(a, port int) api.Entry   { return api.Entry{Mac: a, Port: port, Static: true} }

// of tells a net of bridges 10, 11 and so on, which know nobody, and have room for 3 at each port, by a sign for each port: the digit of its segment, if it forwards; a letter from a on, if it listens; from A on, if it is not up; from P on, if it learns.
func of(segs int, bridges ...string) api.Net {
	n := api.Net{Lan: api.Lan{Segs: segs}}
	for at, signs := range bridges {
		plan := api.Plan{ID: 10 + at}
		b := api.Bridge{Tree: api.Stp{Self: api.Self{ID: 10 + at}, Max: 20, Delay: 2}, Now: 100, Bad: 7}
		b.Table = api.Table{Buckets: [][]api.Entry{nil}, Slots: 4, Age: 10}
		for i, sign := range []byte(signs) {
			link, state := linkOf(sign)
			link.Cost = 10 + i
			plan.Ports = append(plan.Ports, link)
			self := &b.Tree.Self
			self.Costs, self.Ups, self.Infos = append(self.Costs, link.Cost), append(self.Ups, link.Up), append(self.Infos, api.Info{})
			b.Tree.States = append(b.Tree.States, state)
			b.Queues = append(b.Queues, api.Queue{Cap: 3})
		}
		n.Lan.Plans, n.Bridges = append(n.Lan.Plans, plan), append(n.Bridges, b)
	}
	return n
}

func linkOf(sign byte) (api.Link, api.PortState) {
	switch {
	case sign >= 'a':
		return api.Link{Seg: int(sign - 'a'), Up: true}, api.PortState{State: 1, Left: 2}
	case sign >= 'P':
		return api.Link{Seg: int(sign - 'P'), Up: true}, api.PortState{State: 2, Left: 2}
	case sign >= 'A':
		return api.Link{Seg: int(sign - 'A')}, api.PortState{}
	}
	return api.Link{Seg: int(sign - '0'), Up: true}, api.PortState{State: 3}
}

// full tells the greatest net that may be.
func full() api.Net {
	n := of(8, "01234567", "01234567", "abcdefgh", "ABCDEFGH", "00000000", "PQRSTUVW")
	for seg := range 8 {
		n.Lan.Hosts = append(n.Lan.Hosts, api.Host{Mac: 2 * seg, Seg: seg})
	}
	return n
}

// changed tells the net behind a change.
func changed(n api.Net, change func(n *api.Net)) api.Net {
	n = clone(n)
	change(&n)
	return n
}

// knowing tells the net whose bridge has those in its table.
func knowing(n api.Net, b int, entries ...api.Entry) api.Net {
	return changed(n, func(n *api.Net) { n.Bridges[b].Table.Buckets[0] = entries })
}

// waiting tells the net at whose port those wait, behind what does so already.
func waiting(n api.Net, b, port int, more ...string) api.Net {
	return changed(n, func(n *api.Net) {
		items := &n.Bridges[b].Queues[port].Items
		*items = append(*items, more...)
	})
}

// without tells the net at whose port the first frame does not wait any more.
func without(n api.Net, b, port int) api.Net {
	return changed(n, func(n *api.Net) {
		q := &n.Bridges[b].Queues[port]
		q.Items = q.Items[1:]
	})
}

// dropped tells the net whose bridges dropped one more, each as often as it is told.
func dropped(n api.Net, bridges ...int) api.Net {
	return changed(n, func(n *api.Net) {
		for _, b := range bridges {
			n.Bridges[b].Bad++
		}
	})
}

func address(a int) string {
	return string([]byte{byte(a >> 40), byte(a >> 32), byte(a >> 24), byte(a >> 16), byte(a >> 8), byte(a)})
}

func frameOf(dst, src int, data string) string {
	return address(dst) + address(src) + "\x08\x00" + data
}

// told tells the frame of a config that may be.
func told(root, cost, bridge, port, age int) string {
	raw, e := bpdu.Wrap(api.Config{Vec: api.Vec{Root: root, Cost: cost, Bridge: bridge, Port: port}, Age: age})
	if e != api.OK {
		panic("no such config")
	}
	return raw
}

func byStation(seg int, raw string) api.Copy {
	return api.Copy{Seg: seg, Bridge: none, Port: none, Raw: raw}
}

func byPort(seg, b, port int, raw string) api.Copy {
	return api.Copy{Seg: seg, Bridge: b, Port: port, Raw: raw}
}

func cloneLan(l api.Lan) api.Lan {
	l.Plans, l.Hosts = slices.Clone(l.Plans), slices.Clone(l.Hosts)
	for at := range l.Plans {
		l.Plans[at].Ports = slices.Clone(l.Plans[at].Ports)
	}
	return l
}

func clone(n api.Net) api.Net {
	n.Lan, n.Bridges = cloneLan(n.Lan), slices.Clone(n.Bridges)
	for at := range n.Bridges {
		b := &n.Bridges[at]
		self := &b.Tree.Self
		self.Costs, self.Ups, self.Infos = slices.Clone(self.Costs), slices.Clone(self.Ups), slices.Clone(self.Infos)
		b.Tree.States, b.Queues = slices.Clone(b.Tree.States), slices.Clone(b.Queues)
		b.Table.Buckets = slices.Clone(b.Table.Buckets)
		for place := range b.Table.Buckets {
			b.Table.Buckets[place] = slices.Clone(b.Table.Buckets[place])
		}
		for port := range b.Queues {
			b.Queues[port].Items = slices.Clone(b.Queues[port].Items)
		}
	}
	return n
}

func samePlan(a, b api.Plan) bool {
	return a.ID == b.ID && slices.Equal(a.Ports, b.Ports)
}

func sameLan(a, b api.Lan) bool {
	return a.Segs == b.Segs && slices.EqualFunc(a.Plans, b.Plans, samePlan) && slices.Equal(a.Hosts, b.Hosts)
}

func sameTree(a, b api.Stp) bool {
	return a.Self.ID == b.Self.ID && slices.Equal(a.Self.Costs, b.Self.Costs) && slices.Equal(a.Self.Ups, b.Self.Ups) &&
		slices.Equal(a.Self.Infos, b.Self.Infos) && slices.Equal(a.States, b.States) && a.Max == b.Max && a.Delay == b.Delay
}

func sameQueue(a, b api.Queue) bool {
	return a.Cap == b.Cap && a.Lost == b.Lost && slices.Equal(a.Items, b.Items)
}

func sameBridge(a, b api.Bridge) bool {
	return sameTree(a.Tree, b.Tree) && slices.EqualFunc(a.Table.Buckets, b.Table.Buckets, slices.Equal[[]api.Entry]) &&
		a.Table.Slots == b.Table.Slots && a.Table.Age == b.Table.Age &&
		slices.EqualFunc(a.Queues, b.Queues, sameQueue) && a.Now == b.Now && a.Bad == b.Bad
}

func same(a, b api.Net) bool {
	return sameLan(a.Lan, b.Lan) && slices.EqualFunc(a.Bridges, b.Bridges, sameBridge)
}

func checkKept(t *testing.T, name string, n, before api.Net) {
	t.Helper()
	if !same(n, before) {
		t.Errorf("%s changed\n%+v to\n%+v", name, before, n)
	}
}

func checkRight(t *testing.T, n api.Net, want bool) {
	t.Helper()
	before := clone(n)
	if is := net.Right(n); is != want {
		t.Errorf("Right(%+v) is %t", n, is)
	}
	checkKept(t, "Right", n, before)
}

func checkNew(t *testing.T, l api.Lan, s api.Setting, want api.Net, wantErr api.Errno) {
	t.Helper()
	before := cloneLan(l)
	n, e := net.New(l, s)
	if !same(n, want) || e != wantErr {
		t.Errorf("New(%+v, %+v)\n= %+v, %d, want\n  %+v, %d", l, s, n, e, want, wantErr)
	}
	if !sameLan(l, before) {
		t.Errorf("New changed %+v to %+v", before, l)
	}
}

// checkCall fails, unless a call on a net tells what is wanted, and leaves that net as it was.
func checkCall(t *testing.T, name string, n api.Net, call func() (api.Net, api.Errno), want api.Net, wantErr api.Errno) {
	t.Helper()
	before := clone(n)
	out, e := call()
	if !same(out, want) || e != wantErr {
		t.Errorf("%s of\n%+v\n= %+v, %d, want\n  %+v, %d", name, n, out, e, want, wantErr)
	}
	checkKept(t, name, n, before)
}

func checkPut(t *testing.T, n api.Net, seg int, raw string, want api.Net, wantErr api.Errno) {
	t.Helper()
	var wantCopy api.Copy
	if wantErr == api.OK {
		wantCopy = byStation(seg, raw)
	}
	checkCall(t, "Put", n, func() (api.Net, api.Errno) {
		out, c, e := net.Put(n, seg, raw)
		if c != wantCopy {
			t.Errorf("Put(%+v, %d, %q) tells %+v, want %+v", n, seg, raw, c, wantCopy)
		}
		return out, e
	}, want, wantErr)
}

func checkServe(t *testing.T, n api.Net, b, port int, want api.Net, wantCopy api.Copy, wantErr api.Errno) {
	t.Helper()
	checkCall(t, "Serve", n, func() (api.Net, api.Errno) {
		out, c, e := net.Serve(n, b, port)
		if c != wantCopy {
			t.Errorf("Serve(%+v, %d, %d) tells %+v, want %+v", n, b, port, c, wantCopy)
		}
		return out, e
	}, want, wantErr)
}

func checkLose(t *testing.T, n api.Net, b, port int, want api.Net, wantRaw string, wantErr api.Errno) {
	t.Helper()
	checkCall(t, "Lose", n, func() (api.Net, api.Errno) {
		out, raw, e := net.Lose(n, b, port)
		if raw != wantRaw {
			t.Errorf("Lose(%+v, %d, %d) tells %q, want %q", n, b, port, raw, wantRaw)
		}
		return out, e
	}, want, wantErr)
}

func checkTick(t *testing.T, n api.Net, b int, want api.Net, wantErr api.Errno) {
	t.Helper()
	checkCall(t, "Tick", n, func() (api.Net, api.Errno) { return net.Tick(n, b) }, want, wantErr)
}

func checkLink(t *testing.T, n api.Net, b, port int, up bool, want api.Net, wantErr api.Errno) {
	t.Helper()
	checkCall(t, "Link", n, func() (api.Net, api.Errno) { return net.Link(n, b, port, up) }, want, wantErr)
}

func checkMove(t *testing.T, n api.Net, host, seg int, want api.Net, wantErr api.Errno) {
	t.Helper()
	checkCall(t, "Move", n, func() (api.Net, api.Errno) { return net.Move(n, host, seg) }, want, wantErr)
}

func checkDrain(t *testing.T, n api.Net, most int, want api.Net, wantCopies []api.Copy, wantDone bool, wantErr api.Errno) {
	t.Helper()
	checkCall(t, "Drain", n, func() (api.Net, api.Errno) {
		out, copies, done, e := net.Drain(n, most)
		if !slices.Equal(copies, wantCopies) || done != wantDone {
			t.Errorf("Drain(%+v, %d) tells %+v, %t, want %+v, %t", n, most, copies, done, wantCopies, wantDone)
		}
		return out, e
	}, want, wantErr)
}

// checkNoPort fails, unless all calls that are handed a port tell an error.
func checkNoPort(t *testing.T, n api.Net, b, port int, want api.Errno) {
	t.Helper()
	checkServe(t, n, b, port, api.Net{}, api.Copy{}, want)
	checkLose(t, n, b, port, api.Net{}, "", want)
	checkLink(t, n, b, port, true, api.Net{}, want)
	checkLink(t, n, b, port, false, api.Net{}, want)
}

// checkNoSegment fails, unless a segment is refused, however long what is put there is.
func checkNoSegment(t *testing.T, n api.Net, seg int, want api.Errno) {
	t.Helper()
	for _, raw := range append([]string{"", frameOf(bob, ann, "")}, tooLong...) {
		checkPut(t, n, seg, raw, api.Net{}, want)
	}
}

// checkWrong fails, unless all calls refuse a net, whatever else they are handed.
func checkWrong(t *testing.T, n api.Net) {
	t.Helper()
	checkRight(t, n, false)
	for _, one := range []int{0, 5, 7, -1, 8, math.MaxInt} {
		checkNoSegment(t, n, one, api.ErrArg)
		checkTick(t, n, one, api.Net{}, api.ErrArg)
		for _, other := range []int{0, 7, -1} {
			checkNoPort(t, n, one, other, api.ErrArg)
			checkMove(t, n, one, other, api.Net{}, api.ErrArg)
		}
	}
	for _, most := range []int{0, 1, 3000, -1, 3001} {
		checkDrain(t, n, most, api.Net{}, nil, false, api.ErrArg)
	}
}

// wantPut and those behind it say independently what the chapter's words have.
func wantPut(n api.Net, seg, b, port int, raw string) api.Net {
	n = clone(n)
	for other, plan := range n.Lan.Plans {
		for at, link := range plan.Ports {
			if link.Up && link.Seg == seg && (other != b || at != port) {
				n.Bridges[other], _ = bridge.Receive(n.Bridges[other], at, raw)
			}
		}
	}
	return n
}

func wantServe(n api.Net, b, port int) (api.Net, api.Copy) {
	raw := n.Bridges[b].Queues[port].Items[0]
	seg := n.Lan.Plans[b].Ports[port].Seg
	return wantPut(without(n, b, port), seg, b, port, raw), byPort(seg, b, port, raw)
}

func wantTick(n api.Net, b int) api.Net {
	n = clone(n)
	n.Bridges[b], _ = bridge.Tick(n.Bridges[b])
	return n
}

func wantLink(n api.Net, b, port int, up bool) api.Net {
	n = clone(n)
	n.Lan.Plans[b].Ports[port].Up = up
	n.Bridges[b], _ = bridge.Link(n.Bridges[b], port, up)
	return n
}

// wantDrain serves ports by a number that counts through all of them, eight a bridge.
func wantDrain(n api.Net, most int) (api.Net, []api.Copy, bool) {
	var copies []api.Copy
	for at := 0; at < 8*len(n.Bridges); at++ {
		b, port := at/8, at%8
		if port >= len(n.Bridges[b].Queues) || len(n.Bridges[b].Queues[port].Items) == 0 {
			continue
		}
		if len(copies) == most {
			return n, copies, false
		}
		var c api.Copy
		n, c = wantServe(n, b, port)
		copies, at = append(copies, c), -1
	}
	return n, copies, true
}

// checkAll fails, unless all calls tell what the document asks of a net that may be.
func checkAll(t *testing.T, n api.Net, raws ...string) {
	t.Helper()
	checkRight(t, n, true)
	for seg := range n.Lan.Segs {
		for _, raw := range raws {
			checkPut(t, n, seg, raw, wantPut(n, seg, none, none, raw), api.OK)
		}
		for host := range n.Lan.Hosts {
			want := clone(n)
			want.Lan.Hosts[host].Seg = seg
			checkMove(t, n, host, seg, want, api.OK)
		}
	}
	for b, own := range n.Bridges {
		checkTick(t, n, b, wantTick(n, b), api.OK)
		for port, q := range own.Queues {
			checkLink(t, n, b, port, true, wantLink(n, b, port, true), api.OK)
			checkLink(t, n, b, port, false, wantLink(n, b, port, false), api.OK)
			if len(q.Items) == 0 {
				checkServe(t, n, b, port, api.Net{}, api.Copy{}, api.ErrNone)
				checkLose(t, n, b, port, api.Net{}, "", api.ErrNone)
				continue
			}
			want, c := wantServe(n, b, port)
			checkServe(t, n, b, port, want, c, api.OK)
			checkLose(t, n, b, port, without(n, b, port), q.Items[0], api.OK)
		}
	}
	for _, most := range []int{0, 1, 2, 7, 30} {
		want, copies, done := wantDrain(n, most)
		checkDrain(t, n, most, want, copies, done, api.OK)
	}
}

// put and those behind it have a net go on, and fail where they are refused.
func put(t *testing.T, n api.Net, seg int, raw string) api.Net {
	t.Helper()
	out, _, e := net.Put(n, seg, raw)
	if e != api.OK {
		t.Fatalf("Put(%+v, %d, %q): %d", n, seg, raw, e)
	}
	return out
}

func serve(t *testing.T, n api.Net, b, port int) (api.Net, api.Copy) {
	t.Helper()
	out, c, e := net.Serve(n, b, port)
	if e != api.OK {
		t.Fatalf("Serve(%+v, %d, %d): %d", n, b, port, e)
	}
	return out, c
}

func tick(t *testing.T, n api.Net, b int) api.Net {
	t.Helper()
	out, e := net.Tick(n, b)
	if e != api.OK {
		t.Fatalf("Tick(%+v, %d): %d", n, b, e)
	}
	return out
}

func link(t *testing.T, n api.Net, b, port int, up bool) api.Net {
	t.Helper()
	out, e := net.Link(n, b, port, up)
	if e != api.OK {
		t.Fatalf("Link(%+v, %d, %d, %t): %d", n, b, port, up, e)
	}
	return out
}

func move(t *testing.T, n api.Net, host, seg int) api.Net {
	t.Helper()
	out, e := net.Move(n, host, seg)
	if e != api.OK {
		t.Fatalf("Move(%+v, %d, %d): %d", n, host, seg, e)
	}
	return out
}

func drain(t *testing.T, n api.Net, most int) (api.Net, []api.Copy) {
	t.Helper()
	out, copies, _, e := net.Drain(n, most)
	if e != api.OK {
		t.Fatalf("Drain(%+v, %d): %d", n, most, e)
	}
	return out, copies
}

// rounds tells the net behind so many of all bridges' ticks, each time with all served.
func rounds(t *testing.T, n api.Net, count int) api.Net {
	t.Helper()
	for range count {
		for b := range n.Bridges {
			n = tick(t, n, b)
		}
		n, _ = drain(t, n, 3000)
	}
	return n
}

func fresh(t *testing.T, l api.Lan, s api.Setting) api.Net {
	t.Helper()
	n, e := net.New(l, s)
	if e != api.OK {
		t.Fatalf("New(%+v, %+v): %d", l, s, e)
	}
	return n
}

func TestExample(t *testing.T) { // the chapter's table
	n := fresh(t, of(2, "01").Lan, plain)
	n = put(t, n, 0, frameOf(bob, ann, "hello"))
	checkServe(t, n, 0, 1, api.Net{}, api.Copy{}, api.ErrNone)
	n = rounds(t, n, 2) // now they do
	n = put(t, n, 0, frameOf(bob, ann, "hello"))
	_, c := serve(t, n, 0, 1)
	if c != byPort(1, 0, 1, frameOf(bob, ann, "hello")) {
		t.Errorf("%+v", c)
	}
}

func TestNew(t *testing.T) { // P18.1
	l := of(3, "01", "Bc", "C").Lan
	l.Plans[1].ID, l.Plans[1].Ports[1].Cost = 65535, 1000
	l.Hosts = []api.Host{{Mac: ann, Seg: 2}, {Mac: bob}}
	table := api.Table{Buckets: make([][]api.Entry, 8), Slots: 3, Age: 1 << 20}
	listens := api.PortState{State: 1, Left: 30}
	made := func(id int, costs []int, ups []bool, states ...api.PortState) api.Bridge {
		self := api.Self{ID: id, Costs: costs, Ups: ups, Infos: make([]api.Info, len(costs))}
		queues := slices.Repeat([]api.Queue{{Cap: 32}}, len(costs))
		return api.Bridge{Tree: api.Stp{Self: self, States: states, Max: 255, Delay: 30}, Table: table, Queues: queues}
	}
	want := api.Net{Lan: l, Bridges: []api.Bridge{
		made(10, []int{10, 11}, []bool{true, true}, listens, listens),
		made(65535, []int{10, 1000}, []bool{false, true}, api.PortState{}, listens),
		made(12, []int{10}, []bool{false}, api.PortState{}),
	}}
	checkNew(t, l, api.Setting{Most: 255, Delay: 30, Room: 32, Buckets: 8, Slots: 3, Age: 1 << 20}, want, api.OK)
	checkRight(t, want, true)
}

func TestNewWithoutBridges(t *testing.T) { // P18.1, R3
	for segs := 1; segs <= 8; segs++ {
		for _, l := range []api.Lan{{Segs: segs}, {Segs: segs, Plans: []api.Plan{}, Hosts: []api.Host{}}, {Segs: segs, Hosts: []api.Host{{Mac: ann}}}} {
			checkNew(t, l, plain, api.Net{Lan: l}, api.OK)
			checkRight(t, api.Net{Lan: l}, true)
			checkRight(t, api.Net{Lan: l, Bridges: []api.Bridge{}}, true)
		}
	}
}

// wrongSettings have one thing that may not be.
func wrongSettings() []api.Setting {
	var wrong []api.Setting
	add := func(change func(s *api.Setting, n int), numbers ...int) {
		for _, n := range append(numbers, -1, math.MaxInt, math.MinInt) {
			s := plain
			change(&s, n)
			wrong = append(wrong, s)
		}
	}
	add(func(s *api.Setting, n int) { s.Most = n }, 0, 256)
	add(func(s *api.Setting, n int) { s.Delay = n }, 0, 31)
	add(func(s *api.Setting, n int) { s.Room = n }, 0, 33)
	add(func(s *api.Setting, n int) { s.Buckets = n }, 0, 3, 15, 17, 32)
	add(func(s *api.Setting, n int) { s.Slots = n }, 0, 5)
	add(func(s *api.Setting, n int) { s.Age = n }, 0, 1<<20+1)
	return append(wrong, api.Setting{}, api.Setting{Most: 20, Delay: 1}, api.Setting{Buckets: 1, Slots: 4, Age: 10})
}

func TestNewOfWrongSettings(t *testing.T) { // P18.1, P1
	for _, s := range wrongSettings() {
		for _, l := range []api.Lan{{Segs: 1}, {Segs: 8, Hosts: []api.Host{{Mac: ann}}}, of(1, "0").Lan, of(1, "A").Lan, of(2, "01", "Ab").Lan, full().Lan} {
			checkNew(t, l, s, api.Net{}, api.ErrSize)
		}
		for _, l := range wrongLans() { // the plan's error is named first
			checkNew(t, l, s, api.Net{}, api.ErrArg)
		}
	}
}

func TestNewAtTheEdges(t *testing.T) { // P18.1
	l := of(2, "01", "A0").Lan
	for _, most := range []int{1, 2, 254, 255} {
		for _, delay := range []int{1, 30} {
			for _, room := range []int{1, 32} {
				for _, buckets := range []int{1, 2, 4, 8, 16} {
					for _, slots := range []int{1, 4} {
						for _, age := range []int{1, 1 << 20} {
							s := api.Setting{Most: most, Delay: delay, Room: room, Buckets: buckets, Slots: slots, Age: age}
							checkNew(t, l, s, wantNew(t, l, s), api.OK)
							checkNew(t, api.Lan{Segs: 3}, s, api.Net{Lan: api.Lan{Segs: 3}}, api.OK)
						}
					}
				}
			}
		}
	}
}

// wantNew says independently what a new net is.
func wantNew(t *testing.T, l api.Lan, s api.Setting) api.Net {
	t.Helper()
	n := api.Net{Lan: l}
	for _, p := range l.Plans {
		table, e := fdb.New(s.Buckets, s.Slots, s.Age)
		if e != api.OK {
			t.Fatal(e)
		}
		costs := make([]int, len(p.Ports))
		for port, link := range p.Ports {
			costs[port] = link.Cost
		}
		b, e := bridge.New(p.ID, costs, s.Most, s.Delay, table, s.Room)
		if e != api.OK {
			t.Fatal(e)
		}
		for port, link := range p.Ports {
			if !link.Up {
				b.Tree.Self.Ups[port], b.Tree.States[port] = false, api.PortState{}
			}
		}
		n.Bridges = append(n.Bridges, b)
	}
	return n
}

// wrongLans have one thing that may not be.
func wrongLans() []api.Lan {
	var wrong []api.Lan
	add := func(changes ...func(l *api.Lan)) {
		for _, change := range changes {
			l := cloneLan(full().Lan)
			change(&l)
			wrong = append(wrong, l)
		}
	}
	add(
		func(l *api.Lan) { *l = api.Lan{} },
		func(l *api.Lan) { l.Segs = 0 },
		func(l *api.Lan) { l.Segs = 7 },
		func(l *api.Lan) { l.Segs = 9 },
		func(l *api.Lan) { l.Segs = math.MinInt },
		func(l *api.Lan) { l.Plans = append(l.Plans, api.Plan{ID: 1, Ports: []api.Link{{Cost: 1}}}) },
		func(l *api.Lan) { l.Plans[5].ID = 10 },
		func(l *api.Lan) { l.Plans[0].ID = 65536 },
		func(l *api.Lan) { l.Plans[0].ID = -1 },
		func(l *api.Lan) { l.Plans[2].Ports = nil },
		func(l *api.Lan) { l.Plans[2].Ports = append(l.Plans[2].Ports, api.Link{Cost: 1}) },
		func(l *api.Lan) { l.Plans[2].Ports[7].Seg = 8 },
		func(l *api.Lan) { l.Plans[2].Ports[7].Seg = -1 },
		func(l *api.Lan) { l.Plans[3].Ports[0].Cost = 0 },
		func(l *api.Lan) { l.Plans[3].Ports[0].Cost = 1001 },
		func(l *api.Lan) { l.Hosts = append(l.Hosts, api.Host{Mac: ann}) },
		func(l *api.Lan) { l.Hosts[7].Mac = 0 },
		func(l *api.Lan) { l.Hosts[7].Mac = club },
		func(l *api.Lan) { l.Hosts[0].Seg = 8 },
	)
	return wrong
}

func TestNewOfWrongPlans(t *testing.T) { // P18.1, P1
	for _, l := range wrongLans() {
		checkNew(t, l, plain, api.Net{}, api.ErrArg)
	}
}

func TestRight(t *testing.T) { // P18.1
	checkRight(t, full(), true)
	checkRight(t, of(1, "0"), true)
	checkRight(t, of(8), true)
	n := waiting(of(2, "01", "ab", "PQ", "AB"), 3, 1, "at a port that is not up")
	checkRight(t, n, true)
	for b := range n.Bridges { // whatever the time of each is, and all else that no plan tells
		for _, now := range []int{0, 99, 101, latest} {
			checkRight(t, changed(n, func(n *api.Net) { n.Bridges[b].Now = now }), true)
		}
		checkRight(t, changed(n, func(n *api.Net) { n.Bridges[b].Tree.Max, n.Bridges[b].Tree.Delay = 255, 30 }), true)
		checkRight(t, changed(n, func(n *api.Net) { n.Bridges[b].Table.Age, n.Bridges[b].Bad = 1, mostLost }), true)
		checkRight(t, changed(n, func(n *api.Net) { n.Bridges[b].Queues[0] = api.Queue{Cap: 32, Lost: 5} }), true)
		checkRight(t, knowing(n, b, seen(ann, 7, latest), pinned(bob, 6)), true)
	}
}

func TestWrongPlans(t *testing.T) { // P18.1, R2, P1
	for _, l := range wrongLans() {
		checkWrong(t, changed(full(), func(n *api.Net) { n.Lan = l }))
	}
	checkWrong(t, api.Net{})
}

func TestBridgesAreAsManyAsPlans(t *testing.T) { // P18.1, R2, R3, P1
	n := of(1, "0", "0", "0", "0", "0", "0")
	for plans := range 7 {
		for bridges := range 7 {
			some := api.Net{Lan: api.Lan{Segs: 1, Plans: n.Lan.Plans[:plans]}, Bridges: n.Bridges[:bridges]}
			if plans == bridges {
				checkRight(t, some, true)
			} else {
				checkWrong(t, some)
			}
		}
	}
	checkWrong(t, changed(n, func(n *api.Net) { n.Bridges = nil }))
	checkWrong(t, changed(n, func(n *api.Net) { n.Bridges = append(n.Bridges, api.Bridge{}) }))
	checkWrong(t, changed(n, func(n *api.Net) { n.Bridges = make([]api.Bridge, 1<<10) }))
}

func TestWrongBridges(t *testing.T) { // P18.1, R2, P1
	for b := range 6 {
		for _, spoil := range []func(b *api.Bridge){
			func(b *api.Bridge) { *b = api.Bridge{} },
			func(b *api.Bridge) { b.Tree = api.Stp{} },
			func(b *api.Bridge) { b.Tree.Max = 0 },
			func(b *api.Bridge) { b.Tree.Delay = 31 },
			func(b *api.Bridge) { b.Tree.States = nil },
			func(b *api.Bridge) { b.Tree.States[0].State = 4 },
			func(b *api.Bridge) { b.Tree.Self.Infos = b.Tree.Self.Infos[1:] },
			func(b *api.Bridge) { b.Tree.Self.Infos[7].Age = 1 },
			func(b *api.Bridge) { b.Table = api.Table{} },
			func(b *api.Bridge) { b.Table.Buckets[0] = []api.Entry{seen(club, 0, 0)} },
			func(b *api.Bridge) { b.Queues = b.Queues[:7] },
			func(b *api.Bridge) { b.Queues[7].Items = []string{tooLong[0]} },
			func(b *api.Bridge) { b.Queues[0].Cap = 0 },
			func(b *api.Bridge) { b.Now = -1 },
			func(b *api.Bridge) { b.Now = latest + 1 },
			func(b *api.Bridge) { b.Bad = mostLost + 1 },
		} {
			checkWrong(t, changed(full(), func(n *api.Net) { spoil(&n.Bridges[b]) }))
		}
	}
}

func TestBridgesOfOtherPlans(t *testing.T) { // P18.1, R2, P1: both may be, but not together
	for b := range 6 {
		for _, id := range []int{0, 9, 65535, 10 + (b+1)%6} {
			checkWrong(t, changed(full(), func(n *api.Net) { n.Bridges[b].Tree.Self.ID = id }))
		}
		checkWrong(t, changed(full(), func(n *api.Net) { n.Lan.Plans[b].ID = 9 }))
		for port := range 8 {
			for _, cost := range []int{1, 9 + port, 11 + port, 1000} {
				checkWrong(t, changed(full(), func(n *api.Net) { n.Bridges[b].Tree.Self.Costs[port] = cost }))
				checkWrong(t, changed(full(), func(n *api.Net) { n.Lan.Plans[b].Ports[port].Cost = cost }))
			}
			checkWrong(t, changed(full(), func(n *api.Net) {
				up := &n.Lan.Plans[b].Ports[port].Up
				*up = !*up
			}))
			checkWrong(t, changed(full(), func(n *api.Net) { // the bridge's, in a way that it may be
				own := &n.Bridges[b].Tree
				up := &own.Self.Ups[port]
				*up = !*up
				if own.States[port] = (api.PortState{}); *up {
					own.States[port].State = 3
				}
			}))
		}
		checkWrong(t, changed(full(), func(n *api.Net) { n.Lan.Plans[b].Ports = n.Lan.Plans[b].Ports[:7] }))
		checkWrong(t, changed(full(), func(n *api.Net) { n.Lan.Plans[b].Ports = n.Lan.Plans[b].Ports[1:] }))
		for other := range b {
			checkWrong(t, changed(full(), func(n *api.Net) {
				n.Bridges[b], n.Bridges[other] = n.Bridges[other], n.Bridges[b]
			}))
		}
	}
	n := of(2, "01", "0")
	checkWrong(t, changed(n, func(n *api.Net) { n.Lan.Plans[1].Ports = append(n.Lan.Plans[1].Ports, api.Link{Cost: 1, Up: true}) }))
	checkRight(t, changed(n, func(n *api.Net) { n.Lan.Plans[0].Ports[0].Seg = 1 }), true) // no bridge knows its segments
}

func TestNoSuchPlace(t *testing.T) { // P18.1, R2, P1
	for _, n := range []api.Net{of(1), of(3), of(2, "01"), waiting(of(3, "01", "1", "02C"), 0, 0, "x"), full()} {
		for _, seg := range append([]int{n.Lan.Segs, -n.Lan.Segs}, noPlaces...) {
			checkNoSegment(t, n, seg, api.ErrRange)
			for host := range n.Lan.Hosts {
				checkMove(t, n, host, seg, api.Net{}, api.ErrRange)
			}
		}
		for _, host := range append([]int{len(n.Lan.Hosts)}, noPlaces...) {
			for _, seg := range []int{0, n.Lan.Segs - 1, n.Lan.Segs, -1} {
				checkMove(t, n, host, seg, api.Net{}, api.ErrRange)
			}
		}
		for _, b := range append([]int{len(n.Bridges)}, noPlaces...) {
			checkTick(t, n, b, api.Net{}, api.ErrRange)
			for _, port := range []int{0, 1, -1, 8} {
				checkNoPort(t, n, b, port, api.ErrRange)
			}
		}
		for b, own := range n.Bridges { // that is named ahead of an empty queue
			for _, port := range append([]int{len(own.Queues)}, noPlaces...) {
				checkNoPort(t, n, b, port, api.ErrRange)
			}
		}
	}
}

func TestPut(t *testing.T) { // P18.2
	n := of(4, "012", "01", "12", "A0", "Pb", "ab")
	raw := frameOf(bob, ann, "x")
	want := waiting(waiting(knowing(n, 0, seen(ann, 0, 100)), 0, 1, raw), 0, 2, raw)
	want = waiting(knowing(want, 1, seen(ann, 0, 100)), 1, 1, raw)
	want = knowing(want, 3, seen(ann, 1, 100)) // its other port is not up
	want = knowing(want, 4, seen(ann, 0, 100)) // it learns, and does not forward
	want = dropped(want, 5)
	checkPut(t, n, 0, raw, want, api.OK)
	want = waiting(waiting(knowing(n, 0, seen(ann, 2, 100)), 0, 0, raw), 0, 1, raw)
	want = waiting(knowing(want, 2, seen(ann, 1, 100)), 2, 0, raw)
	checkPut(t, n, 2, raw, want, api.OK)
	checkPut(t, n, 3, raw, n, api.OK) // no port is there
	n.Lan.Hosts = []api.Host{{Mac: ann, Seg: 3}, {Mac: bob, Seg: 3}}
	want.Lan.Hosts = n.Lan.Hosts
	checkPut(t, n, 2, raw, want, api.OK) // whoever is where
	checkPut(t, of(2), 1, raw, of(2), api.OK)
}

func TestPutOfEachLength(t *testing.T) { // P18.2
	n := of(2, "01", "b0")
	for size := range 140 {
		raw := (frameOf(bob, ann, "") + strings.Repeat("d", 140))[:size]
		switch {
		case size > 114:
			checkPut(t, n, 0, raw, api.Net{}, api.ErrLong)
			checkPut(t, n, 1, raw, api.Net{}, api.ErrLong)
			checkPut(t, n, 2, raw, api.Net{}, api.ErrRange) // that is named first
		case size < 14: // a station may put bytes that are no frame
			checkPut(t, n, 0, raw, dropped(n, 0, 1), api.OK)
			checkPut(t, n, 1, raw, dropped(n, 0, 1), api.OK)
		default:
			want := waiting(knowing(n, 0, seen(ann, 0, 100)), 0, 1, raw)
			checkPut(t, n, 0, raw, knowing(want, 1, seen(ann, 1, 100)), api.OK)
		}
	}
	for _, raw := range tooLong {
		checkPut(t, n, 0, raw, api.Net{}, api.ErrLong)
		checkPut(t, of(2), 0, raw, api.Net{}, api.ErrLong) // though nobody would receive it
	}
}

func TestPutInTheOrderOfPorts(t *testing.T) { // P18.2: who has several ports there hears it by each of them
	n := of(2, "000", "1a0P")
	raw := frameOf(bob, ann, "x")
	want := waiting(waiting(waiting(knowing(n, 0, seen(ann, 2, 100)), 0, 1, raw, raw), 0, 2, raw, raw), 0, 0, raw, raw)
	want = dropped(waiting(knowing(want, 1, seen(ann, 3, 100)), 1, 0, raw), 1)
	checkPut(t, n, 0, raw, want, api.OK)
	raw = frameOf(ann, ann, "to oneself") // each time it came from where it is
	want = dropped(knowing(knowing(n, 0, seen(ann, 2, 100)), 1, seen(ann, 3, 100)), 1)
	checkPut(t, n, 0, raw, want, api.OK)
	n = knowing(n, 0, seen(bob, 1, 100)) // by 0 and by 2 it goes on
	raw = frameOf(bob, ann, "x")
	want = waiting(knowing(n, 0, seen(ann, 2, 100), seen(bob, 1, 100)), 0, 1, raw, raw)
	want = dropped(waiting(knowing(want, 1, seen(ann, 3, 100)), 1, 0, raw), 1)
	checkPut(t, n, 0, raw, want, api.OK)
}

func TestPutOfWhatBridgesTell(t *testing.T) { // P18.2: a station may put it, too
	n := of(2, "01", "0", "1")
	want := changed(n, func(n *api.Net) {
		info := api.Info{Has: true, Vec: api.Vec{Root: 1, Cost: 2, Bridge: 3, Port: 4}, Age: 5}
		n.Bridges[0].Tree.Self.Infos[0], n.Bridges[1].Tree.Self.Infos[0] = info, info
	})
	checkPut(t, n, 0, told(1, 2, 3, 4, 5), want, api.OK)
	checkPut(t, n, 0, frameOf(reserved, ann, "x"), dropped(n, 0, 1), api.OK)
}

func TestServe(t *testing.T) { // P18.2
	raw := frameOf(bob, ann, "x")
	n := waiting(of(3, "01", "10", "12", "B0", "a2"), 0, 1, raw, "second", raw)
	want := knowing(waiting(without(n, 0, 1), 1, 1, raw), 1, seen(ann, 0, 100))
	want = knowing(waiting(want, 2, 1, raw), 2, seen(ann, 0, 100))
	checkServe(t, n, 0, 1, want, byPort(1, 0, 1, raw), api.OK)
	checkServe(t, n, 0, 0, api.Net{}, api.Copy{}, api.ErrNone) // another port of it
	checkServe(t, n, 1, 0, api.Net{}, api.Copy{}, api.ErrNone) // another one there
	checkServe(t, n, 3, 0, api.Net{}, api.Copy{}, api.ErrNone)
	n = want
	want = dropped(without(n, 0, 1), 1, 2) // it is no frame
	checkServe(t, n, 0, 1, want, byPort(1, 0, 1, "second"), api.OK)
	n = waiting(of(3, "01", "10", "12", "B0", "a2"), 2, 1, "") // of no bytes
	checkServe(t, n, 2, 1, dropped(without(n, 2, 1), 4), byPort(2, 2, 1, ""), api.OK)
}

func TestServeWhereItsOwnBridgeHearsIt(t *testing.T) { // P18.2: it is not there any more by then
	raw := frameOf(all, ann, "x")
	n := waiting(of(2, "00", "0"), 0, 0, raw, raw, raw)
	want := waiting(knowing(without(n, 0, 0), 0, seen(ann, 1, 100)), 0, 0, raw)
	checkServe(t, n, 0, 0, knowing(want, 1, seen(ann, 0, 100)), byPort(0, 0, 0, raw), api.OK)
	n = waiting(of(2, "001", "A"), 0, 1, raw)
	want = waiting(waiting(knowing(without(n, 0, 1), 0, seen(ann, 0, 100)), 0, 1, raw), 0, 2, raw)
	checkServe(t, n, 0, 1, want, byPort(0, 0, 1, raw), api.OK)
}

func TestServeAPortThatIsNotUp(t *testing.T) { // P18.2: what waits there all the same is put
	raw := frameOf(bob, ann, "x")
	n := waiting(of(2, "A01", "10"), 0, 0, raw)
	want := waiting(knowing(without(n, 0, 0), 0, seen(ann, 1, 100)), 0, 2, raw)
	want = waiting(knowing(want, 1, seen(ann, 1, 100)), 1, 0, raw)
	checkServe(t, n, 0, 0, want, byPort(0, 0, 0, raw), api.OK)
	checkLose(t, n, 0, 0, without(n, 0, 0), raw, api.OK)
}

func TestLose(t *testing.T) { // P18.2
	raw := frameOf(bob, ann, "x")
	n := waiting(waiting(of(2, "01", "10"), 0, 1, raw, "second"), 1, 0, "")
	checkLose(t, n, 0, 1, without(n, 0, 1), raw, api.OK)
	checkLose(t, without(n, 0, 1), 0, 1, without(without(n, 0, 1), 0, 1), "second", api.OK)
	checkLose(t, n, 1, 0, without(n, 1, 0), "", api.OK)
	checkLose(t, n, 0, 0, api.Net{}, "", api.ErrNone)
	checkLose(t, n, 1, 1, api.Net{}, "", api.ErrNone)
	checkLose(t, without(n, 1, 0), 1, 0, api.Net{}, "", api.ErrNone)
}

func TestTick(t *testing.T) { // P18.2
	n := of(2, "01", "ab", "PQ", "AB")
	n = knowing(n, 0, seen(ann, 1, 90), seen(bob, 1, 91)) // ann will be old
	want := waiting(waiting(knowing(n, 0, seen(bob, 1, 91)), 0, 0, told(10, 0, 10, 0, 0)), 0, 1, told(10, 0, 10, 1, 0))
	want.Bridges[0].Now = 101
	checkTick(t, n, 0, want, api.OK)
	want = waiting(waiting(n, 1, 0, told(11, 0, 11, 0, 0)), 1, 1, told(11, 0, 11, 1, 0))
	want.Bridges[1].Now, want.Bridges[1].Tree.States = 101, slices.Repeat([]api.PortState{{State: 1, Left: 1}}, 2)
	checkTick(t, n, 1, want, api.OK)
	want = clone(n)
	want.Bridges[3].Now = 101
	checkTick(t, n, 3, want, api.OK)
	n.Bridges[3].Now, want.Bridges[3].Now = latest, latest
	checkTick(t, n, 3, want, api.OK)
}

func TestLink(t *testing.T) { // P18.3
	n := waiting(waiting(knowing(of(2, "01", "BA", "01"), 0, seen(ann, 0, 99), pinned(bob, 1)), 0, 1, "a", "b"), 2, 1, "c")
	want := knowing(n, 0, pinned(bob, 1))
	want.Lan.Plans[0].Ports[1].Up = false
	own := &want.Bridges[0]
	own.Tree.Self.Ups[1], own.Tree.States[1], own.Queues[1] = false, api.PortState{}, api.Queue{Cap: 3, Lost: 2}
	checkLink(t, n, 0, 1, false, want, api.OK)
	checkRight(t, want, true)
	back := clone(want) // it is no more where it was, as it has to listen anew
	back.Lan.Plans[0].Ports[1].Up, back.Bridges[0].Tree.Self.Ups[1], back.Bridges[0].Tree.States[1] = true, true, api.PortState{State: 1, Left: 2}
	checkLink(t, want, 0, 1, true, back, api.OK)
	checkLink(t, n, 0, 1, true, n, api.OK) // it is up
	checkLink(t, n, 1, 0, false, n, api.OK)
	want = clone(n)
	want.Lan.Plans[1].Ports[0].Up, want.Bridges[1].Tree.Self.Ups[0], want.Bridges[1].Tree.States[0] = true, true, api.PortState{State: 1, Left: 2}
	checkLink(t, n, 1, 0, true, want, api.OK)
	checkRight(t, want, true)
	n = waiting(n, 1, 0, "x") // at a port that is not up
	want = clone(n)
	want.Bridges[1].Queues[0] = api.Queue{Cap: 3, Lost: 1}
	checkLink(t, n, 1, 0, false, want, api.OK)
}

func TestLinkOfTheRootPort(t *testing.T) { // P18.3: whatever was told there is known no more
	n := of(2, "01")
	n.Bridges[0].Tree.Self.Infos[0] = api.Info{Has: true, Vec: api.Vec{Root: 1, Bridge: 1}}
	want := clone(n)
	want.Lan.Plans[0].Ports[0].Up = false
	self := &want.Bridges[0].Tree.Self
	self.Ups[0], self.Infos[0], want.Bridges[0].Tree.States[0] = false, api.Info{}, api.PortState{}
	checkLink(t, n, 0, 0, false, want, api.OK)
	checkLink(t, n, 0, 0, true, n, api.OK)
}

func TestMove(t *testing.T) { // P18.3
	n := waiting(knowing(of(3, "01", "12"), 0, seen(bob, 1, 99)), 0, 0, "a")
	n.Lan.Hosts = []api.Host{{Mac: ann, Seg: 2}, {Mac: bob, Seg: 1}, {Mac: cid, Seg: 1}}
	for host := range 3 {
		for seg := range 3 { // no bridge hears anything of that
			checkMove(t, n, host, seg, changed(n, func(n *api.Net) { n.Lan.Hosts[host].Seg = seg }), api.OK)
		}
	}
	n = of(2)
	n.Lan.Hosts = []api.Host{{Mac: 0}}
	checkMove(t, n, 0, 1, changed(n, func(n *api.Net) { n.Lan.Hosts[0].Seg = 1 }), api.OK)
}

func TestDrainOfHowMany(t *testing.T) { // P18.3, R2
	n := waiting(waiting(of(3, "0a", "1", "2c"), 0, 1, "a", "b"), 2, 0, "c", "d", "e") // nobody sends those on
	for _, most := range noMosts {
		checkDrain(t, n, most, api.Net{}, nil, false, api.ErrSize)
		checkDrain(t, of(1), most, api.Net{}, nil, false, api.ErrSize)
	}
	want := n
	var copies []api.Copy
	checkDrain(t, n, 0, n, nil, false, api.OK)
	for _, c := range []api.Copy{byPort(0, 0, 1, "a"), byPort(0, 0, 1, "b"), byPort(2, 2, 0, "c"), byPort(2, 2, 0, "d"), byPort(2, 2, 0, "e")} {
		want = dropped(without(want, c.Bridge, c.Port), c.Bridge) // its other port is there
		copies = append(copies, c)
		checkDrain(t, n, len(copies), want, copies, len(copies) == 5, api.OK)
	}
	for _, most := range []int{6, 100, 2999, 3000} {
		checkDrain(t, n, most, want, copies, true, api.OK)
	}
	for _, most := range []int{0, 1, 3000} {
		checkDrain(t, want, most, want, nil, true, api.OK)
		checkDrain(t, of(1), most, of(1), nil, true, api.OK)
	}
}

func TestDrainBeginsAnew(t *testing.T) { // P18.3: the first port that has something is served each time
	raw := frameOf(all, ann, "x")
	n := of(4, "13", "21", "02")
	n = put(t, n, 0, raw) // it goes by 2's port to segment 2, by 1's to 1, and by 0's to 3
	_, copies := drain(t, n, 3000)
	if want := []api.Copy{byPort(2, 2, 1, raw), byPort(1, 1, 1, raw), byPort(3, 0, 1, raw)}; !slices.Equal(copies, want) {
		t.Errorf("%+v", copies)
	}
	n = waiting(waiting(of(3, "01", "12", "2"), 1, 0, "a", raw, "b"), 2, 0, "c")
	_, copies = drain(t, n, 3000) // what 1 sends to 0 goes on ahead of all else
	want := []api.Copy{byPort(1, 1, 0, "a"), byPort(1, 1, 0, raw), byPort(0, 0, 0, raw), byPort(1, 1, 0, "b"), byPort(2, 2, 0, "c")}
	if !slices.Equal(copies, want) {
		t.Errorf("%+v", copies)
	}
}

func TestDrainOfWhatGoesRound(t *testing.T) { // P18.3: it ends, as no more than most are served
	n := put(t, of(2, "01", "01"), 0, frameOf(all, ann, "x"))
	for _, most := range []int{0, 1, 2, 100, 2999, 3000} {
		want, copies, done := wantDrain(n, most)
		if len(copies) != most || done {
			t.Errorf("%d go round, and no more is %t", len(copies), done)
		}
		checkDrain(t, n, most, want, copies, false, api.OK)
	}
}

func TestDrainIsServeAgainAndAgain(t *testing.T) { // P18.3
	n := of(4, "01", "123", "32")
	for seg := range 4 {
		n = put(t, n, seg, frameOf(all, ann, "x"))
	}
	served := n
	var copies []api.Copy
	for most := range 60 {
		checkDrain(t, n, most, served, copies, false, api.OK)
		_, first, _, _ := net.Drain(served, 1)
		next, c := serve(t, served, first[0].Bridge, first[0].Port)
		if c != first[0] {
			t.Fatalf("%+v, and %+v", c, first[0])
		}
		served, copies = next, append(copies, c)
	}
}

func TestABridgeChangesOthersByFramesAlone(t *testing.T) { // P18.4
	n := full()
	for b := range n.Bridges {
		for name, out := range map[string]api.Net{
			"Tick": tick(t, n, b), "Link down": link(t, n, b, 0, false), "Link up": link(t, n, b, 0, true),
		} {
			for other := range n.Bridges {
				if other != b && (!sameBridge(out.Bridges[other], n.Bridges[other]) || !samePlan(out.Lan.Plans[other], n.Lan.Plans[other])) {
					t.Errorf("%s of %d changes %d", name, b, other)
				}
			}
		}
	}
}

// awake tells a net of a plan, just made and settled, at which nothing waits.
func awake(t *testing.T, l api.Lan, s api.Setting) api.Net {
	t.Helper()
	return rounds(t, fresh(t, l, s), s.Most+2*s.Delay+len(l.Plans)+4)
}

// checkWay fails, unless a frame that is put comes to those segments, each once, with the bytes that it had, and tells the net behind that.
func checkWay(t *testing.T, n api.Net, seg int, raw string, segs ...int) api.Net {
	t.Helper()
	out, copies := drain(t, put(t, n, seg, raw), 3000)
	var to []int
	for _, c := range copies {
		if to = append(to, c.Seg); c.Raw != raw {
			t.Errorf("%q is on %d, where %q was put on %d", c.Raw, c.Seg, raw, seg)
		}
	}
	if slices.Sort(to); !slices.Equal(to, segs) {
		t.Errorf("%q comes from %d to %v, want %v", raw, seg, to, segs)
	}
	return out
}

func TestOneBridge(t *testing.T) { // DOC.md's examples 1 to 5
	l := of(3, "012").Lan
	l.Hosts = []api.Host{{Mac: ann, Seg: 0}, {Mac: bob, Seg: 1}}
	n := awake(t, l, api.Setting{Most: 20, Delay: 1, Room: 4, Buckets: 1, Slots: 2, Age: 5})
	n = checkWay(t, n, 0, frameOf(bob, ann, "who?"), 1, 2) // nobody is known
	n = checkWay(t, n, 1, frameOf(ann, bob, "I"), 0)       // the station answers
	n = checkWay(t, n, 0, frameOf(bob, ann, "you"), 1)     // from then on each goes one way
	n = move(t, n, 1, 2)
	n = checkWay(t, n, n.Lan.Hosts[1].Seg, frameOf(ann, bob, "moved"), 0) // it moves, and sends
	n = checkWay(t, n, 0, frameOf(bob, ann, "there?"), 2)                 // and is found where it is
	n = checkWay(t, rounds(t, n, 5), 1, frameOf(bob, ann, "still?"), 2)
	n = checkWay(t, rounds(t, n, 1), 1, frameOf(bob, ann, "gone?"), 0, 2) // it was silent for too long
	n = checkWay(t, n, 0, frameOf(ann, bob, "I again"), 1)
	n = checkWay(t, n, 1, frameOf(bob, ann, "so"), 0)
	n = checkWay(t, n, 2, frameOf(ann, cid, "room?"), 1)   // a third one comes
	n = checkWay(t, n, 1, frameOf(bob, ann, "out?"), 0, 2) // and who was heard longest ago goes
	n.Bridges[0], _ = bridge.Pin(n.Bridges[0], bob, 2)
	n = checkWay(t, n, 0, frameOf(ann, bob, "lie"), 1) // whatever is heard, it stays
	checkWay(t, n, 1, frameOf(bob, ann, "no"), 2)
}

func TestBridgesInARow(t *testing.T) { // DOC.md's examples 1 and 2, and P2, over several bridges
	n := awake(t, of(5, "01", "12", "234").Lan, api.Setting{Most: 20, Delay: 2, Room: 4, Buckets: 4, Slots: 4, Age: 100})
	n = checkWay(t, n, 0, frameOf(bob, ann, "who?"), 1, 2, 3, 4)
	n = checkWay(t, n, 3, frameOf(ann, bob, "I"), 0, 1, 2)
	n = checkWay(t, n, 0, frameOf(bob, ann, "you"), 1, 2, 3)
	n = checkWay(t, n, 2, frameOf(bob, cid, "and I"), 3)
	n = checkWay(t, n, 2, frameOf(club, cid, "all"), 0, 1, 3, 4)
	n = checkWay(t, n, 4, frameOf(ann, bob, "moved"), 0, 1, 2)
	checkWay(t, n, 0, frameOf(bob, ann, "there?"), 1, 2, 4)
}

func TestSideBySide(t *testing.T) { // DOC.md's examples 6 and 7
	l := of(3, "01", "01", "12").Lan
	n := awake(t, l, plain)
	n = checkWay(t, n, 0, frameOf(all, ann, "x"), 1, 2) // nothing goes round
	n = checkWay(t, n, 2, frameOf(all, bob, "y"), 0, 1)
	checkForwards(t, n, [][]int{{0, 1}, {0}, {0, 1}})
	n = link(t, link(t, n, 0, 0, false), 0, 1, false) // the root is gone
	n = rounds(t, n, 25)
	checkForwards(t, n, [][]int{nil, {0, 1}, {0, 1}})
	n = checkWay(t, n, 2, frameOf(all, bob, "z"), 0, 1)
	n = rounds(t, link(t, n, 0, 1, true), 25) // it is there again, by one port
	checkForwards(t, n, [][]int{{1}, {0, 1}, {0, 1}})
	checkWay(t, n, 1, frameOf(all, bob, "z"), 0, 2)
}

// checkForwards fails, unless those ports of each bridge forward.
func checkForwards(t *testing.T, n api.Net, want [][]int) {
	t.Helper()
	for b, own := range n.Bridges {
		if ports, e := stp.Forwards(own.Tree); e != api.OK || !slices.Equal(ports, want[b]) {
			t.Errorf("by %v of bridge %d frames go on, want %v", ports, b, want[b])
		}
	}
}

func TestARootThatDoesNotExist(t *testing.T) { // DOC.md's example 8
	n := awake(t, of(3, "01", "12").Lan, plain)
	isRoot := func(want int) {
		t.Helper()
		_, copies := drain(t, tick(t, n, 1), 3000)
		for _, c := range copies {
			if told, e := bpdu.Unwrap(c.Raw); e != api.OK || told.Vec.Root != want {
				t.Errorf("%+v, %d is told, want root %d", told, e, want)
			}
		}
		if len(copies) == 0 {
			t.Error("nothing is told")
		}
	}
	isRoot(10)
	n, _ = drain(t, put(t, n, 0, told(3, 0, 3, 0, 0)), 3000)
	n = rounds(t, n, 1)
	isRoot(3) // it is believed
	n = rounds(t, n, 25)
	isRoot(10) // and forgotten, as nobody tells it anew
}

func TestReservedAndBrokenOnesStay(t *testing.T) { // DOC.md's example 9
	n := awake(t, of(3, "012", "12").Lan, plain)
	for _, raw := range []string{frameOf(reserved, ann, ""), frameOf(reserved+15, ann, "x"), "", "none", frameOf(ann, club, ""), told(9, 0, 9, 0, 20)} {
		for seg := range 3 {
			checkWay(t, n, seg, raw)
		}
	}
}

func TestAFullQueueLoses(t *testing.T) { // DOC.md's example 10
	n := awake(t, of(2, "01").Lan, plain)
	for i := range 7 {
		n = put(t, n, 0, frameOf(all, ann, string(rune('a'+i))))
	}
	if q := n.Bridges[0].Queues[1]; len(q.Items) != 4 || q.Lost != 3 {
		t.Errorf("%+v", q)
	}
	_, copies := drain(t, n, 3000)
	if len(copies) != 4 || copies[3].Raw != frameOf(all, ann, "d") {
		t.Errorf("%+v", copies)
	}
}

// chance tells numbers that are always the same ones.
type chance uint64

func (c *chance) below(n int) int {
	*c = *c*6364136223846793005 + 1442695040888963407
	return int(*c>>33) % n
}

func (c *chance) of(l ...int) int {
	return l[c.below(len(l))]
}

// lan tells a plan that may be.
func (c *chance) lan(mostSegs, mostBridges, mostPorts int) api.Lan {
	l := api.Lan{Segs: 1 + c.below(mostSegs)}
	for at := range c.below(mostBridges + 1) {
		plan := api.Plan{ID: 6*c.below(10922) + at}
		for range 1 + c.below(mostPorts) {
			plan.Ports = append(plan.Ports, api.Link{Seg: c.below(l.Segs), Cost: c.of(1, 2, 10, 1000), Up: c.below(5) > 0})
		}
		l.Plans = append(l.Plans, plan)
	}
	for _, a := range allStations[:c.below(5)] {
		l.Hosts = append(l.Hosts, api.Host{Mac: a, Seg: c.below(l.Segs)})
	}
	return l
}

func (c *chance) setting() api.Setting {
	return api.Setting{
		Most: c.of(1, 3, 4, 20, 255), Delay: c.of(1, 1, 1, 2, 3), Room: 1 + c.below(4),
		Buckets: c.of(1, 2, 16), Slots: 1 + c.below(4), Age: c.of(1, 3, 1<<20),
	}
}

// raw tells what a station puts: mostly frames.
func (c *chance) raw() string {
	switch c.below(8) {
	case 0:
		return told(c.of(0, 3, 70, 65535), c.of(0, 1, 1<<31-1), c.of(0, 3, 70), c.below(8), c.of(0, 1, 3, 255))
	case 1:
		return strings.Repeat(string(rune('a'+c.below(26))), c.of(0, 1, 13, 14, 114))
	case 2:
		return frameOf(c.of(reserved, reserved+15, ann), c.of(ann, club), "junk")
	}
	return frameOf(c.of(ann, bob, cid, dot, club, all), allStations[c.below(4)], strings.Repeat("z", c.of(0, 1, 100)))
}

// step has a net go on somehow.
func (c *chance) step(t *testing.T, n api.Net) api.Net {
	t.Helper()
	if len(n.Lan.Hosts) > 0 && c.below(12) == 0 {
		return move(t, n, c.below(len(n.Lan.Hosts)), c.below(n.Lan.Segs))
	}
	if len(n.Bridges) == 0 || c.below(4) == 0 {
		return put(t, n, c.below(n.Lan.Segs), c.raw())
	}
	b := c.below(len(n.Bridges))
	port := c.below(len(n.Bridges[b].Queues))
	switch c.below(8) {
	case 0, 1, 2:
		return tick(t, n, b)
	case 3:
		return link(t, n, b, port, c.below(4) > 0)
	case 4:
		if out, _, e := net.Lose(n, b, port); e == api.OK {
			return out
		}
	case 5:
		n, _ = drain(t, n, c.below(20))
	default:
		if out, _, e := net.Serve(n, b, port); e == api.OK {
			return out
		}
	}
	return n
}

func TestHistories(t *testing.T) { // P18.1, P18.2, P18.3, P18.4
	c := chance(18)
	for range 120 {
		l, s := c.lan(5, 6, 3), c.setting()
		checkNew(t, l, s, wantNew(t, l, s), api.OK)
		n := fresh(t, l, s)
		for range 60 {
			if c.below(8) == 0 {
				checkAll(t, n, c.raw(), c.raw())
			}
			n = c.step(t, n)
			checkRight(t, n, true)
		}
		if t.Failed() {
			return
		}
	}
}

func TestHistoriesOfGreatNets(t *testing.T) { // P18.1, P18.2, P18.3, P18.4
	c := chance(19)
	for range 4 {
		n := fresh(t, c.lan(8, 6, 8), c.setting())
		for range 60 {
			n = c.step(t, n)
		}
		checkAll(t, n, c.raw(), c.raw())
	}
	checkAll(t, full(), frameOf(bob, ann, "x"), frameOf(all, ann, "x"), told(0, 0, 0, 0, 0), "")
}

func TestRoundsFindTheTree(t *testing.T) { // P3, P4: what the tree's chapter asks of the plan
	c := chance(20)
	for range 60 {
		l := c.lan(6, 5, 3)
		n := awake(t, l, api.Setting{Most: 16, Delay: 1 + c.below(2), Room: 8, Buckets: 1, Slots: 4, Age: 100})
		open, _ := tree.Open(l)
		want := make([][]int, len(open))
		for b, row := range open {
			for port, is := range row {
				if is {
					want[b] = append(want[b], port)
				}
			}
		}
		checkForwards(t, n, want)
	}
}

// spoil writes over all that an answer reaches.
func spoil(n api.Net) {
	for _, p := range n.Lan.Plans {
		overwrite(p.Ports, api.Link{Seg: -7})
	}
	overwrite(n.Lan.Plans, api.Plan{ID: -7})
	overwrite(n.Lan.Hosts, api.Host{Mac: -7})
	for _, b := range n.Bridges {
		self := b.Tree.Self
		overwrite(self.Costs, -7)
		overwrite(self.Ups, !(len(self.Ups) > 0 && self.Ups[0]))
		overwrite(self.Infos, api.Info{Age: -7})
		overwrite(b.Tree.States, api.PortState{State: -7})
		for _, bucket := range b.Table.Buckets {
			overwrite(bucket, api.Entry{Mac: -7})
		}
		overwrite(b.Table.Buckets, []api.Entry{{Mac: -7}})
		for _, q := range b.Queues {
			overwrite(q.Items, "spoilt")
		}
		overwrite(b.Queues, api.Queue{Cap: -7})
	}
	overwrite(n.Bridges, api.Bridge{Now: -7})
}

func overwrite[T any](l []T, by T) {
	whole := l[:cap(l)]
	for i := range whole {
		whole[i] = by
	}
}

func TestWhatIsAnsweredIsNewMemory(t *testing.T) { // R1, R4
	c := chance(21)
	for range 60 {
		l := c.lan(4, 4, 4)
		lanBefore := cloneLan(l)
		spoil(fresh(t, l, plain))
		if !sameLan(l, lanBefore) {
			t.Errorf("New gave out %+v of %+v", l, lanBefore)
		}
		n := fresh(t, l, c.setting())
		for range 30 {
			n = c.step(t, n)
		}
		before := clone(n)
		for seg := range n.Lan.Segs {
			for _, raw := range []string{c.raw(), frameOf(all, ann, "x"), told(0, 0, 0, 0, 0)} {
				spoil(put(t, n, seg, raw))
			}
			for host := range n.Lan.Hosts {
				spoil(move(t, n, host, seg))
			}
		}
		for b, own := range n.Bridges {
			spoil(tick(t, n, b))
			for port := range own.Queues {
				served, _, _ := net.Serve(n, b, port)
				spoil(served)
				lost, _, _ := net.Lose(n, b, port)
				spoil(lost)
				spoil(link(t, n, b, port, true))
				spoil(link(t, n, b, port, false))
			}
		}
		for _, most := range []int{0, 1, 20} {
			drained, copies := drain(t, n, most)
			spoil(drained)
			overwrite(copies, api.Copy{At: -7})
		}
		checkKept(t, "one of all", n, before)
	}
}

func TestNothingIsSharedWithin(t *testing.T) { // R4: a list that is handed in twice is answered as two
	one := of(2, "01")
	n := api.Net{Lan: api.Lan{Segs: 2}}
	for id := range 3 {
		plan, b := one.Lan.Plans[0], one.Bridges[0]
		plan.ID, b.Tree.Self.ID = 10+id, 10+id
		n.Lan.Plans, n.Bridges = append(n.Lan.Plans, plan), append(n.Bridges, b)
	}
	n = link(t, n, 1, 0, false)
	want := of(2, "01", "A1", "01")
	checkKept(t, "Link", want, n)
	checkLink(t, n, 2, 1, false, of(2, "01", "A1", "0B"), api.OK)
	n = fresh(t, api.Lan{Segs: 2, Plans: []api.Plan{{ID: 1, Ports: one.Lan.Plans[0].Ports}, {ID: 2, Ports: one.Lan.Plans[0].Ports}}}, plain)
	before := clone(n)
	overwrite(n.Lan.Plans[0].Ports, api.Link{})
	overwrite(n.Bridges[0].Tree.Self.Costs, 0)
	overwrite(n.Bridges[0].Table.Buckets, []api.Entry{{}})
	overwrite(n.Bridges[0].Queues, api.Queue{})
	if !samePlan(n.Lan.Plans[1], before.Lan.Plans[1]) || !sameBridge(n.Bridges[1], before.Bridges[1]) {
		t.Errorf("%+v was %+v", n, before)
	}
}

func TestManyAtOnceHearTheSame(t *testing.T) { // R1
	n := waiting(of(4, "012", "01", "12", "A0"), 0, 1, frameOf(all, bob, "y"))
	var group sync.WaitGroup
	for range 8 {
		group.Go(func() {
			checkAll(t, n, frameOf(bob, ann, "x"), told(0, 0, 0, 0, 0))
		})
	}
	group.Wait()
}

// FuzzAllCalls asks that no net makes a call panic, and that all calls tell what the document asks (P1).
func FuzzAllCalls(f *testing.F) {
	f.Add(uint64(1), 0, 0, 0, "")
	f.Add(uint64(2), -1, 9, 3001, strings.Repeat("x", 115))
	f.Add(uint64(3), 1, 1, 3000, frameOf(bob, ann, "x"))
	f.Fuzz(func(t *testing.T, seed uint64, one, other, most int, raw string) {
		c := chance(seed)
		n := fresh(t, c.lan(4, 4, 3), c.setting())
		for range c.below(30) {
			n = c.step(t, n)
		}
		if len(raw) <= 114 {
			checkAll(t, n, raw)
		}
		before := clone(n)
		answers := []api.Net{}
		add := func(out api.Net, e api.Errno) {
			if e == api.OK {
				answers = append(answers, out)
			} else if !same(out, api.Net{}) {
				t.Errorf("%+v beside %d", out, e)
			}
		}
		putOut, _, putErr := net.Put(n, one, raw)
		add(putOut, putErr)
		served, _, serveErr := net.Serve(n, one, other)
		add(served, serveErr)
		lost, _, loseErr := net.Lose(n, one, other)
		add(lost, loseErr)
		add(net.Tick(n, one))
		add(net.Link(n, one, other, most > 0))
		add(net.Move(n, one, other))
		if most <= 100 || most > 3000 { // as many as may be take long
			drained, _, _, drainErr := net.Drain(n, most)
			add(drained, drainErr)
		}
		for _, out := range answers {
			checkRight(t, out, true)
		}
		checkKept(t, "one of all", n, before)
		if len(n.Bridges) > 0 {
			n.Bridges[0].Now = one
			checkRight(t, n, 0 <= one && one <= latest)
		}
	})
}
