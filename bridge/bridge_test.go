package bridge_test

import (
	"math"
	"slices"
	"strings"
	"sync"
	"testing"

	"footway/api"
	"footway/bpdu"
	"footway/bridge"
	"footway/fdb"
	"footway/stp"
)

const (
	latest   = 1 << 40
	mostLost = 1000000

	// Some stations, a group, and all of them.
	ann  = 0x020000000001
	bob  = 0x020000000002
	cid  = 0x0a0000000003
	dot  = 0xfe0000000004
	eve  = 0x000000000005
	club = 0x030000000001
	all  = 1<<48 - 1

	reserved = 0x0180c2000000

	none = -1 // no port
)

var (
	noPorts     = []int{-1, -2, -8, 8, 9, 255, 256, 1 << 32, math.MaxInt, math.MinInt}
	noStations  = []int{-1, math.MinInt, 1 << 48, 1<<48 | 2, math.MaxInt, club, all, reserved, reserved + 15}
	noTimes     = []int{-1, -latest, latest + 1, math.MaxInt, math.MinInt}
	noLosts     = []int{-1, -mostLost, mostLost + 1, math.MaxInt, math.MinInt}
	noRooms     = []int{0, -1, -32, 33, 64, 256 | 3, 1<<32 | 3, math.MaxInt, math.MinInt}
	noFrames    = []string{"", "\x00", strings.Repeat("\x00", 13), strings.Repeat("\x00", 115), strings.Repeat("\x02", 1<<16)}
	allStations = []int{ann, bob, cid, dot, eve}

	// wrongTables have one thing that may not be.
	wrongTables = []api.Table{
		{}, {Slots: 2, Age: 10},
		{Buckets: make([][]api.Entry, 3), Slots: 2, Age: 10}, {Buckets: make([][]api.Entry, 32), Slots: 2, Age: 10},
		{Buckets: make([][]api.Entry, 1), Slots: 0, Age: 10}, {Buckets: make([][]api.Entry, 1), Slots: 5, Age: 10},
		{Buckets: make([][]api.Entry, 1), Slots: 2, Age: 0}, {Buckets: make([][]api.Entry, 1), Slots: 2, Age: 1<<20 + 1},
		tableOf(1, 10, seen(ann, 0, 0), seen(bob, 0, 0)), tableOf(4, 10, seen(ann, 0, 0), seen(ann, 1, 0)),
		tableOf(4, 10, seen(club, 0, 0)), tableOf(4, 10, seen(ann, 8, 0)), tableOf(4, 10, seen(ann, none, 0)), tableOf(4, 10, seen(ann, 0, latest+1)),
		tableOf(4, 10, api.Entry{Mac: ann, Seen: 1, Static: true}),
	}

	// wrongQueues have one thing that may not be.
	wrongQueues = []api.Queue{
		{}, {Cap: -1}, {Cap: 33}, {Cap: 1, Items: []string{"", ""}}, {Cap: 2, Items: []string{"", strings.Repeat("x", 115)}},
		{Cap: 2, Lost: -1}, {Cap: 2, Lost: mostLost + 1},
	}
)

func seen(a, port, at int) api.Entry { return api.Entry{Mac: a, Port: port, Seen: at} }
func pinned(a, port int) api.Entry   { return api.Entry{Mac: a, Port: port, Static: true} }

// tableOf tells a table of one bucket.
func tableOf(slots, age int, entries ...api.Entry) api.Table {
	return api.Table{Buckets: [][]api.Entry{entries}, Slots: slots, Age: age}
}

// of tells bridge 5, whose ports are in those states, a digit each, or not up, by a minus; it knows nobody, and has room for 3 at each port.
func of(states string) api.Bridge {
	b := api.Bridge{Tree: api.Stp{Self: api.Self{ID: 5}, Max: 20, Delay: 2}, Table: tableOf(4, 10), Now: 100, Bad: 7}
	for _, digit := range states {
		var info api.Info
		var state api.PortState
		switch digit {
		case '0': // somebody else tells what it would tell itself, and is better
			info = api.Info{Has: true, Vec: api.Vec{Root: 5, Bridge: 4}}
		case '1', '2':
			state = api.PortState{State: int(digit - '0'), Left: 2}
		case '3':
			state.State = 3
		}
		b.Tree.Self.Costs = append(b.Tree.Self.Costs, 10)
		b.Tree.Self.Ups = append(b.Tree.Self.Ups, digit != '-')
		b.Tree.Self.Infos = append(b.Tree.Self.Infos, info)
		b.Tree.States = append(b.Tree.States, state)
		b.Queues = append(b.Queues, api.Queue{Cap: 3})
	}
	return b
}

// knowing tells the bridge with those in its table.
func knowing(b api.Bridge, entries ...api.Entry) api.Bridge {
	b = clone(b)
	b.Table.Buckets[0] = slices.Clone(entries)
	return b
}

// waiting tells the bridge at whose port those wait, behind what does so already.
func waiting(b api.Bridge, port int, more ...string) api.Bridge {
	b = clone(b)
	b.Queues[port].Items = append(b.Queues[port].Items, more...)
	return b
}

// lost tells the bridge whose port's queue lost one more.
func lost(b api.Bridge, port int) api.Bridge {
	b = clone(b)
	b.Queues[port].Lost++
	return b
}

func dropped(b api.Bridge) api.Bridge {
	b.Bad++
	return b
}

func address(a int) string {
	return string([]byte{byte(a >> 40), byte(a >> 32), byte(a >> 24), byte(a >> 16), byte(a >> 8), byte(a)})
}

func numberOf(bytes string) int {
	n := 0
	for i := range len(bytes) {
		n = n<<8 | int(bytes[i])
	}
	return n
}

func frameOf(dst, src int, data string) string {
	return address(dst) + address(src) + "\x08\x00" + data
}

func config(root, cost, bridge, port, age int) api.Config {
	return api.Config{Vec: api.Vec{Root: root, Cost: cost, Bridge: bridge, Port: port}, Age: age}
}

// told tells the frame of a config that may be.
func told(root, cost, bridge, port, age int) string {
	raw, e := bpdu.Wrap(config(root, cost, bridge, port, age))
	if e != api.OK {
		panic("no such config")
	}
	return raw
}

func clone(b api.Bridge) api.Bridge {
	self := &b.Tree.Self
	self.Costs, self.Ups, self.Infos = slices.Clone(self.Costs), slices.Clone(self.Ups), slices.Clone(self.Infos)
	b.Tree.States = slices.Clone(b.Tree.States)
	b.Table = cloneTable(b.Table)
	b.Queues = slices.Clone(b.Queues)
	for port := range b.Queues {
		b.Queues[port].Items = slices.Clone(b.Queues[port].Items)
	}
	return b
}

func cloneTable(t api.Table) api.Table {
	t.Buckets = slices.Clone(t.Buckets)
	for place := range t.Buckets {
		t.Buckets[place] = slices.Clone(t.Buckets[place])
	}
	return t
}

func sameTree(a, b api.Stp) bool {
	return a.Self.ID == b.Self.ID && slices.Equal(a.Self.Costs, b.Self.Costs) && slices.Equal(a.Self.Ups, b.Self.Ups) &&
		slices.Equal(a.Self.Infos, b.Self.Infos) && slices.Equal(a.States, b.States) && a.Max == b.Max && a.Delay == b.Delay
}

func sameTable(a, b api.Table) bool {
	return slices.EqualFunc(a.Buckets, b.Buckets, slices.Equal[[]api.Entry]) && a.Slots == b.Slots && a.Age == b.Age
}

func sameQueue(a, b api.Queue) bool {
	return a.Cap == b.Cap && a.Lost == b.Lost && slices.Equal(a.Items, b.Items)
}

func same(a, b api.Bridge) bool {
	return sameTree(a.Tree, b.Tree) && sameTable(a.Table, b.Table) && slices.EqualFunc(a.Queues, b.Queues, sameQueue) && a.Now == b.Now && a.Bad == b.Bad
}

func checkKept(t *testing.T, name string, b, before api.Bridge) {
	t.Helper()
	if !same(b, before) {
		t.Errorf("%s changed %+v to %+v", name, before, b)
	}
}

func checkRight(t *testing.T, b api.Bridge, want bool) {
	t.Helper()
	before := clone(b)
	if is := bridge.Right(b); is != want {
		t.Errorf("Right(%+v) is %t", b, is)
	}
	checkKept(t, "Right", b, before)
}

func checkNew(t *testing.T, id int, costs []int, most, delay int, table api.Table, room int, want api.Bridge, wantErr api.Errno) {
	t.Helper()
	costsBefore, tableBefore := slices.Clone(costs), cloneTable(table)
	if b, e := bridge.New(id, costs, most, delay, table, room); !same(b, want) || e != wantErr {
		t.Errorf("New(%d, %v, %d, %d, %+v, %d) = %+v, %d, want %+v, %d", id, costs, most, delay, table, room, b, e, want, wantErr)
	}
	if !slices.Equal(costs, costsBefore) || !sameTable(table, tableBefore) {
		t.Errorf("New changed %v and %+v to %v and %+v", costsBefore, tableBefore, costs, table)
	}
}

// checkCall fails, unless a call on a bridge tells what is wanted, and leaves that bridge as it was.
func checkCall(t *testing.T, name string, b api.Bridge, call func() (api.Bridge, api.Errno), want api.Bridge, wantErr api.Errno) {
	t.Helper()
	before := clone(b)
	out, e := call()
	if !same(out, want) || e != wantErr {
		t.Errorf("%s of\n%+v\n= %+v, %d, want\n  %+v, %d", name, b, out, e, want, wantErr)
	}
	checkKept(t, name, b, before)
}

func checkReceive(t *testing.T, b api.Bridge, port int, raw string, want api.Bridge, wantErr api.Errno) {
	t.Helper()
	checkCall(t, "Receive", b, func() (api.Bridge, api.Errno) { return bridge.Receive(b, port, raw) }, want, wantErr)
}

func checkTick(t *testing.T, b, want api.Bridge, wantErr api.Errno) {
	t.Helper()
	checkCall(t, "Tick", b, func() (api.Bridge, api.Errno) { return bridge.Tick(b) }, want, wantErr)
}

func checkTake(t *testing.T, b api.Bridge, port int, want api.Bridge, wantRaw string, wantErr api.Errno) {
	t.Helper()
	checkCall(t, "Take", b, func() (api.Bridge, api.Errno) {
		out, raw, e := bridge.Take(b, port)
		if raw != wantRaw {
			t.Errorf("Take(%+v, %d) takes %q, want %q", b, port, raw, wantRaw)
		}
		return out, e
	}, want, wantErr)
}

func checkLink(t *testing.T, b api.Bridge, port int, up bool, want api.Bridge, wantErr api.Errno) {
	t.Helper()
	checkCall(t, "Link", b, func() (api.Bridge, api.Errno) { return bridge.Link(b, port, up) }, want, wantErr)
}

func checkPin(t *testing.T, b api.Bridge, a, port int, want api.Bridge, wantErr api.Errno) {
	t.Helper()
	checkCall(t, "Pin", b, func() (api.Bridge, api.Errno) { return bridge.Pin(b, a, port) }, want, wantErr)
}

func checkUnpin(t *testing.T, b api.Bridge, a int, want api.Bridge, wantErr api.Errno) {
	t.Helper()
	checkCall(t, "Unpin", b, func() (api.Bridge, api.Errno) { return bridge.Unpin(b, a) }, want, wantErr)
}

// checkNoPort fails, unless all calls that are handed a port tell an error, whatever else they are handed.
func checkNoPort(t *testing.T, b api.Bridge, port int, want api.Errno) {
	t.Helper()
	for _, raw := range []string{"", frameOf(bob, ann, ""), told(1, 2, 3, 4, 5)} {
		checkReceive(t, b, port, raw, api.Bridge{}, want)
	}
	checkTake(t, b, port, api.Bridge{}, "", want)
	checkLink(t, b, port, true, api.Bridge{}, want)
	checkLink(t, b, port, false, api.Bridge{}, want)
	for _, a := range []int{ann, club, -1} {
		checkPin(t, b, a, port, api.Bridge{}, want)
	}
}

// checkWrong fails, unless all calls refuse a bridge, whatever else they are handed.
func checkWrong(t *testing.T, b api.Bridge) {
	t.Helper()
	checkRight(t, b, false)
	checkTick(t, b, api.Bridge{}, api.ErrArg)
	for _, port := range []int{0, 1, 7, -1, 8, math.MaxInt} {
		checkNoPort(t, b, port, api.ErrArg)
	}
	for _, a := range []int{ann, club, -1} {
		checkUnpin(t, b, a, api.Bridge{}, api.ErrArg)
	}
}

// changed says independently what a bridge is behind another tree.
func changed(b api.Bridge, tree api.Stp) api.Bridge {
	isSame := true
	for port, state := range tree.States {
		isSame = isSame && (state.State == 3) == (b.Tree.States[port].State == 3)
	}
	b = clone(b)
	b.Tree = tree
	if !isSame {
		for place, bucket := range b.Table.Buckets {
			b.Table.Buckets[place] = slices.DeleteFunc(bucket, func(e api.Entry) bool { return !e.Static })
		}
	}
	return b
}

// pushed says independently what a bridge is, once a frame came to a port's queue.
func pushed(b api.Bridge, port int, raw string) api.Bridge {
	b = clone(b)
	q := &b.Queues[port]
	if len(q.Items) < q.Cap {
		q.Items = append(q.Items, raw)
	} else if q.Lost < mostLost {
		q.Lost++
	}
	return b
}

func wantDropped(b api.Bridge) api.Bridge {
	b.Bad = min(b.Bad+1, mostLost)
	return b
}

func isFrame(raw string) bool {
	return len(raw) >= 14 && len(raw) <= 114 && raw[6]%2 == 0
}

func isReserved(raw string) bool {
	return raw[:5] == "\x01\x80\xc2\x00\x00" && raw[5] < 16
}

func wantReceive(b api.Bridge, port int, raw string) api.Bridge {
	if !b.Tree.Self.Ups[port] || !isFrame(raw) {
		return wantDropped(b)
	}
	if isReserved(raw) {
		c, e := bpdu.Unwrap(raw)
		if e != api.OK {
			return wantDropped(b)
		}
		tree, _, _ := stp.Hear(b.Tree, port, c)
		return changed(b, tree)
	}
	own := b.Tree.States[port].State
	if own < 2 {
		return wantDropped(b)
	}
	b = clone(b)
	b.Table, _ = fdb.Learn(b.Table, numberOf(raw[6:12]), port, b.Now)
	at := none
	if raw[0]%2 == 0 {
		at, _ = fdb.Find(b.Table, numberOf(raw[:6]), b.Now)
	}
	for out, state := range b.Tree.States {
		if own == 3 && state.State == 3 && out != port && (at == none || at == out) {
			b = pushed(b, out, raw)
		}
	}
	return b
}

func wantTick(b api.Bridge) api.Bridge {
	tree, sends, _ := stp.Tick(b.Tree)
	b = changed(b, tree)
	b.Now = min(b.Now+1, latest)
	for place, bucket := range b.Table.Buckets {
		b.Table.Buckets[place] = slices.DeleteFunc(bucket, func(e api.Entry) bool { return !e.Static && e.Seen+b.Table.Age < b.Now })
	}
	for _, s := range sends {
		raw, _ := bpdu.Wrap(s.Config)
		b = pushed(b, s.Port, raw)
	}
	return b
}

func wantLink(b api.Bridge, port int, up bool) api.Bridge {
	tree, _ := stp.Link(b.Tree, port, up)
	b = changed(b, tree)
	if q := &b.Queues[port]; !up {
		q.Items, q.Lost = nil, min(q.Lost+len(q.Items), mostLost)
	}
	return b
}

// checkAll fails, unless all calls tell what the document asks of a bridge that may be.
func checkAll(t *testing.T, b api.Bridge, raws ...string) {
	t.Helper()
	checkRight(t, b, true)
	checkTick(t, b, wantTick(b), api.OK)
	for port, q := range b.Queues {
		for _, raw := range raws {
			checkReceive(t, b, port, raw, wantReceive(b, port, raw), api.OK)
		}
		checkLink(t, b, port, true, wantLink(b, port, true), api.OK)
		checkLink(t, b, port, false, wantLink(b, port, false), api.OK)
		if len(q.Items) == 0 {
			checkTake(t, b, port, api.Bridge{}, "", api.ErrNone)
			continue
		}
		want := clone(b)
		want.Queues[port].Items = want.Queues[port].Items[1:]
		checkTake(t, b, port, want, q.Items[0], api.OK)
	}
}

// receive, tick, link, take and fresh have a bridge go on, and fail where they are refused.
func receive(t *testing.T, b api.Bridge, port int, raw string) api.Bridge {
	t.Helper()
	out, e := bridge.Receive(b, port, raw)
	if e != api.OK {
		t.Fatalf("Receive(%+v, %d, %q): %d", b, port, raw, e)
	}
	return out
}

func tick(t *testing.T, b api.Bridge, times int) api.Bridge {
	t.Helper()
	for range times {
		out, e := bridge.Tick(b)
		if e != api.OK {
			t.Fatalf("Tick(%+v): %d", b, e)
		}
		b = out
	}
	return b
}

func link(t *testing.T, b api.Bridge, port int, up bool) api.Bridge {
	t.Helper()
	out, e := bridge.Link(b, port, up)
	if e != api.OK {
		t.Fatalf("Link(%+v, %d, %t): %d", b, port, up, e)
	}
	return out
}

func pin(t *testing.T, b api.Bridge, a, port int) api.Bridge {
	t.Helper()
	out, e := bridge.Pin(b, a, port)
	if e != api.OK {
		t.Fatalf("Pin(%+v, %d, %d): %d", b, a, port, e)
	}
	return out
}

// takeAll tells the bridge at which nothing waits any more, and what did, by port.
func takeAll(t *testing.T, b api.Bridge) (api.Bridge, [][]string) {
	t.Helper()
	taken := make([][]string, len(b.Queues))
	for port := range taken {
		for len(b.Queues[port].Items) > 0 {
			out, raw, e := bridge.Take(b, port)
			if e != api.OK {
				t.Fatalf("Take(%+v, %d): %d", b, port, e)
			}
			b, taken[port] = out, append(taken[port], raw)
		}
	}
	return b, taken
}

func fresh(t *testing.T, ports int, table api.Table) api.Bridge {
	t.Helper()
	b, e := bridge.New(5, slices.Repeat([]int{10}, ports), 20, 1, table, 4)
	if e != api.OK {
		t.Fatalf("New of %d ports: %d", ports, e)
	}
	return b
}

func TestExample(t *testing.T) { // the chapter's table
	b, raw := of("33"), frameOf(bob, ann, "hello")
	checkReceive(t, b, 0, raw, waiting(knowing(b, seen(ann, 0, 100)), 1, raw), api.OK)
}

func TestNew(t *testing.T) { // P14.1
	for ports := 1; ports <= 8; ports++ {
		for room := 1; room <= 32; room++ {
			costs := slices.Repeat([]int{1}, ports)
			costs[ports-1] = 1000
			table := tableOf(4, 10, pinned(ann, 7), seen(bob, 3, 1000))
			tree, e := stp.New(65535, costs, 255, 30)
			if e != api.OK {
				t.Fatal(e)
			}
			want := api.Bridge{Tree: tree, Table: table, Queues: slices.Repeat([]api.Queue{{Cap: room}}, ports)}
			checkNew(t, 65535, costs, 255, 30, table, room, want, api.OK)
			checkRight(t, want, true)
		}
	}
}

func TestNewOfWhatMayNotBe(t *testing.T) { // P14.1, R2, R3, P1
	good := tableOf(4, 10)
	for _, table := range append([]api.Table{good}, wrongTables...) {
		for _, room := range append([]int{3}, noRooms...) { // stp.New's error is named first
			for _, costs := range [][]int{nil, {}, {0}, {1001}, {1, -1}, make([]int, 8), slices.Repeat([]int{1}, 9), slices.Repeat([]int{1}, 1<<16)} {
				checkNew(t, 5, costs, 20, 2, table, room, api.Bridge{}, api.ErrSize)
			}
			for _, n := range [][3]int{{-1, 20, 2}, {65536, 20, 2}, {5, 0, 2}, {5, 256, 2}, {5, 20, 0}, {5, 20, 31}, {math.MinInt, math.MaxInt, -1}} {
				checkNew(t, n[0], []int{1}, n[1], n[2], table, room, api.Bridge{}, api.ErrSize)
			}
		}
	}
	for _, table := range wrongTables {
		for _, room := range append([]int{1, 3, 32}, noRooms...) { // the table's is named ahead of the queue's
			checkNew(t, 5, []int{1, 2}, 20, 2, table, room, api.Bridge{}, api.ErrArg)
		}
	}
	for _, room := range noRooms {
		checkNew(t, 5, []int{1}, 20, 2, good, room, api.Bridge{}, api.ErrSize)
		checkNew(t, 5, slices.Repeat([]int{1}, 8), 20, 2, good, room, api.Bridge{}, api.ErrSize)
	}
}

func TestRightAtTheEdges(t *testing.T) { // P14.1
	for _, states := range []string{"3", "-", "1", "2", "10", "0123-", "33333333"} {
		for _, now := range []int{0, 1, latest - 1, latest} {
			for _, bad := range []int{0, 1, mostLost - 1, mostLost} {
				b := of(states)
				b.Now, b.Bad = now, bad
				checkRight(t, b, true)
			}
		}
	}
	b := of("33")
	b.Queues[0] = api.Queue{Cap: 32, Items: slices.Repeat([]string{strings.Repeat("x", 114)}, 32), Lost: mostLost}
	b.Queues[1] = api.Queue{Cap: 1, Items: []string{""}}
	checkRight(t, b, true)
	checkRight(t, knowing(b, seen(ann, 7, latest), pinned(bob, 7), seen(cid, 0, 0)), true) // wherever its table has somebody
}

func TestWrongNumbers(t *testing.T) { // P14.1, R2, P1
	for _, now := range noTimes {
		b := of("33")
		b.Now = now
		checkWrong(t, b)
	}
	for _, bad := range noLosts {
		b := of("33")
		b.Bad = bad
		checkWrong(t, b)
	}
}

func TestWrongTables(t *testing.T) { // P14.1, R2, P1
	for _, table := range wrongTables {
		b := of("33")
		b.Table = table
		checkWrong(t, b)
	}
}

func TestWrongQueues(t *testing.T) { // P14.1, R2, R3, P1
	for ports := 1; ports <= 8; ports++ {
		for place := range ports {
			for _, q := range wrongQueues {
				b := of("33333333"[:ports])
				b.Queues[place] = q
				checkWrong(t, b)
			}
		}
		for count := range 10 {
			b := of("33333333"[:ports])
			b.Queues = slices.Repeat([]api.Queue{{Cap: 1}}, count)
			if count != ports {
				checkWrong(t, b)
			} else {
				checkRight(t, b, true)
			}
		}
	}
	b := of("3")
	b.Queues = nil
	checkWrong(t, b)
}

func TestWrongTrees(t *testing.T) { // P14.1, R2, P1
	checkWrong(t, api.Bridge{})
	for _, spoil := range []func(s *api.Stp){
		func(s *api.Stp) { *s = api.Stp{} },
		func(s *api.Stp) { s.Self.ID = 65536 },
		func(s *api.Stp) { s.Self.Costs[1] = 0 },
		func(s *api.Stp) { s.Self.Costs = s.Self.Costs[:1] },
		func(s *api.Stp) { s.Self.Ups = nil },
		func(s *api.Stp) { s.Self.Ups[0] = false },
		func(s *api.Stp) { s.Self.Infos = append(s.Self.Infos, api.Info{}) },
		func(s *api.Stp) { s.Self.Infos[1] = api.Info{Has: true, Age: 20} },
		func(s *api.Stp) { s.States = s.States[:1] },
		func(s *api.Stp) { s.States[0] = api.PortState{} },
		func(s *api.Stp) { s.States[1] = api.PortState{State: 1, Left: 3} },
		func(s *api.Stp) { s.Max = 0 },
		func(s *api.Stp) { s.Delay = 31 },
	} {
		b := of("33")
		spoil(&b.Tree)
		checkWrong(t, b)
	}
	b := of("")
	checkWrong(t, b)
	checkWrong(t, of("333333333"))
}

func TestNoSuchPort(t *testing.T) { // P14.1, P14.3, R2, P1
	for ports := 1; ports <= 8; ports++ {
		b := waiting(of("33333333"[:ports]), 0, "x")
		for _, port := range append([]int{ports, ports + 1}, noPorts...) {
			checkNoPort(t, b, port, api.ErrRange)
		}
	}
}

func TestReceiveByAPortThatIsNotUp(t *testing.T) { // P14.2
	b := knowing(of("3-3"), seen(ann, 0, 99))
	for _, raw := range append([]string{frameOf(bob, ann, ""), frameOf(all, ann, ""), told(1, 0, 1, 0, 0), frameOf(reserved, ann, "")}, noFrames...) {
		checkReceive(t, b, 1, raw, dropped(b), api.OK)
	}
}

func TestReceiveWhatIsNoFrame(t *testing.T) { // P14.2
	for _, states := range []string{"3333", "2233", "1133", "00--", "--33"} {
		b := of(states)
		for port := range 2 {
			for _, raw := range append([]string{frameOf(ann, club, ""), frameOf(ann, all, "x"), frameOf(reserved, reserved, ""), told(1, 0, 1, 0, 0)[:13]}, noFrames...) {
				checkReceive(t, b, port, raw, dropped(b), api.OK)
			}
		}
	}
	b := of("33") // of each length
	for size := range 130 {
		raw := (frameOf(bob, ann, "") + strings.Repeat("d", 130))[:size]
		if 14 <= size && size <= 114 {
			checkReceive(t, b, 0, raw, waiting(knowing(b, seen(ann, 0, 100)), 1, raw), api.OK)
		} else {
			checkReceive(t, b, 0, raw, dropped(b), api.OK)
		}
	}
}

func TestDroppedAtMost(t *testing.T) { // P14.2
	for _, bad := range []int{0, 1, mostLost - 2, mostLost - 1, mostLost} {
		for port, raw := range []string{"", frameOf(bob, ann, ""), frameOf(reserved, ann, ""), frameOf(bob, ann, "")} {
			b := of("3-31")
			b.Bad = bad
			want := b
			want.Bad = min(bad+1, 1000000)
			checkReceive(t, b, port, raw, want, api.OK)
		}
	}
}

func TestReceiveAConfig(t *testing.T) { // P14.2
	b := knowing(of("333"), seen(ann, 2, 99), pinned(bob, 1))
	raw := "\x01\x80\xc2\x00\x00\x00" + "\x02\x00\x00\x01\x00\x03" + "\x80\x42" + "\x00\x00\x01\x00\x00\x00\x02\x00\x03\x04\x05\xf1"
	want := clone(b) // it is the root port, and forwards as it did, so that nobody is forgotten
	want.Tree.Self.Infos[1] = api.Info{Has: true, Vec: api.Vec{Root: 1, Cost: 2, Bridge: 3, Port: 4}, Age: 5}
	checkReceive(t, b, 1, raw, want, api.OK)

	want = knowing(b, pinned(bob, 1)) // what it would tell itself is worse, so it is blocked
	want.Tree.Self.Infos[0] = api.Info{Has: true, Vec: api.Vec{Root: 5, Bridge: 4, Port: 7}, Age: 19}
	want.Tree.States[0] = api.PortState{}
	checkReceive(t, b, 0, told(5, 0, 4, 7, 19), want, api.OK)

	want = knowing(b) // whoever is at another port is forgotten, too
	b = knowing(b, seen(cid, 0, 100), seen(ann, 2, 99))
	want.Tree.Self.Infos[0] = api.Info{Has: true, Vec: api.Vec{Root: 5, Bridge: 4}}
	want.Tree.States[0] = api.PortState{}
	checkReceive(t, b, 0, told(5, 0, 4, 0, 0), want, api.OK)
}

func TestReceiveAConfigInAnyState(t *testing.T) { // P14.2
	b := knowing(of("0123"), seen(ann, 2, 99))
	for port := range 4 {
		want := clone(b)
		want.Tree.Self.Infos[port] = api.Info{Has: true, Vec: api.Vec{Root: 9, Cost: 8, Bridge: 4}, Age: 6}
		raw := told(9, 8, 4, 0, 6)
		if port == 0 { // who blocked it has got worse
			want.Tree.States[0] = api.PortState{State: 1, Left: 2}
		}
		checkReceive(t, b, port, raw, want, api.OK)
	}
}

func TestReceiveAConfigThatIsNotTaken(t *testing.T) { // P14.2: it is one, so that nothing is dropped
	b := knowing(of("03-"), seen(ann, 1, 99))
	checkReceive(t, b, 0, told(5, 0, 4, 1, 0), b, api.OK) // worse than what is known
	checkReceive(t, b, 0, told(65535, 9, 9, 7, 0), b, api.OK)
	checkReceive(t, b, 1, told(1, 0, 1, 0, 20), b, api.OK) // too old
	checkReceive(t, b, 1, told(1, 0, 1, 0, 255), b, api.OK)
	checkReceive(t, b, 2, told(1, 0, 1, 0, 0), dropped(b), api.OK) // the port is not up
}

func TestReceiveAConfigOfABetterRoot(t *testing.T) { // P14.2: other roles alone flush nothing, as long as the same ports forward
	b := knowing(of("30"), seen(ann, 0, 99), pinned(bob, 0))
	b.Tree.Self.Infos[0] = api.Info{Has: true, Vec: api.Vec{Root: 1, Bridge: 1}} // the root port
	b.Tree.Self.Infos[1].Vec.Root = 1                                            // that is better than 1 10 5 1
	checkRight(t, b, true)
	want := clone(b) // port 1 is the root port, and 0 10 5 0 is better than what port 0 knows
	want.Tree.Self.Infos[1].Vec.Root = 0
	want.Tree.States[1] = api.PortState{State: 1, Left: 2}
	checkReceive(t, b, 1, told(0, 0, 4, 0, 0), want, api.OK)
	want = knowing(b, pinned(bob, 0)) // port 1 is the root port, and port 0, of the same root, is blocked
	want.Tree.Self.Infos[1].Vec = api.Vec{Root: 1}
	want.Tree.States = []api.PortState{{}, {State: 1, Left: 2}}
	checkReceive(t, b, 1, told(1, 0, 0, 0, 0), want, api.OK)
}

func TestReceiveWhatIsReservedAndNoConfig(t *testing.T) { // P14.2, P14.4
	b := knowing(of("33210"), seen(ann, 0, 99))
	good := told(1, 0, 1, 0, 0)
	for port := range 5 {
		for last := range 16 {
			checkReceive(t, b, port, frameOf(reserved+last, ann, "hello"), dropped(b), api.OK)
			if last > 0 {
				checkReceive(t, b, port, address(reserved+last)+good[6:], dropped(b), api.OK)
			}
		}
		for _, raw := range []string{
			good[:6] + address(ann) + good[12:], // of another source
			good[:12] + "\x80\x43" + good[14:],  // of another type
			good[:25], good[:14], good + "\x00", // of another length
			good[:14] + "\x01" + good[15:],            // of another sum
			good[:14] + "\x01" + good[15:25] + "\xfc", // of no config
		} {
			checkReceive(t, b, port, raw, dropped(b), api.OK)
		}
	}
	raw := frameOf(reserved+16, ann, "") // a group like all others
	checkReceive(t, b, 0, raw, waiting(knowing(b, seen(ann, 0, 100)), 1, raw), api.OK)
}

func TestReceiveInEachState(t *testing.T) { // P14.2
	raw := frameOf(bob, ann, "x")
	b := of("0123-3")
	checkReceive(t, b, 0, raw, dropped(b), api.OK)
	checkReceive(t, b, 1, raw, dropped(b), api.OK)
	checkReceive(t, b, 2, raw, knowing(b, seen(ann, 2, 100)), api.OK)
	checkReceive(t, b, 3, raw, waiting(knowing(b, seen(ann, 3, 100)), 5, raw), api.OK)
	checkReceive(t, b, 4, raw, dropped(b), api.OK)
	checkReceive(t, b, 5, raw, waiting(knowing(b, seen(ann, 5, 100)), 3, raw), api.OK)
	b = knowing(b, seen(bob, 3, 100)) // whoever it is for is known
	checkReceive(t, b, 1, raw, dropped(b), api.OK)
	checkReceive(t, b, 2, raw, knowing(b, seen(ann, 2, 100), seen(bob, 3, 100)), api.OK)
}

func TestReceiveForAGroup(t *testing.T) { // P14.2
	b := knowing(of("3333"), seen(bob, 3, 100))
	for _, dst := range []int{club, all, reserved + 16, reserved - 1, 0xff0000000000} {
		raw := frameOf(dst, ann, "x")
		want := knowing(b, seen(ann, 1, 100), seen(bob, 3, 100))
		checkReceive(t, b, 1, raw, waiting(waiting(waiting(want, 0, raw), 2, raw), 3, raw), api.OK)
	}
}

func TestReceiveForSomebodyKnown(t *testing.T) { // P14.2
	raw := frameOf(bob, ann, "x")
	b := of("33230")
	for _, bobs := range []api.Entry{seen(bob, 3, 90), seen(bob, 3, 100), pinned(bob, 3), seen(bob, 3, 200)} {
		known := knowing(b, bobs)
		checkReceive(t, known, 0, raw, waiting(knowing(b, seen(ann, 0, 100), bobs), 3, raw), api.OK)
	}
	for _, port := range []int{0, 2, 4, 5, 7} { // there it came in, two do not forward, and two are not there
		for _, bobs := range []api.Entry{seen(bob, port, 95), pinned(bob, port)} {
			checkReceive(t, knowing(b, bobs), 0, raw, knowing(b, seen(ann, 0, 100), bobs), api.OK)
		}
	}
	old := seen(bob, 3, 89) // it is too old, though it was not swept
	want := knowing(b, seen(ann, 0, 100), old)
	checkReceive(t, knowing(b, old), 0, raw, waiting(waiting(want, 1, raw), 3, raw), api.OK)
}

func TestReceiveLooksBehindTheLearning(t *testing.T) { // P14.2
	b := knowing(of("333"), seen(ann, 1, 99))
	raw := frameOf(ann, ann, "to oneself") // it is where it came from
	checkReceive(t, b, 0, raw, knowing(b, seen(ann, 0, 100)), api.OK)

	b.Table.Slots = 1
	raw = frameOf(ann, bob, "to who goes for me")
	want := knowing(b, seen(bob, 0, 100))
	checkReceive(t, b, 0, raw, waiting(waiting(want, 1, raw), 2, raw), api.OK)

	b = knowing(b, pinned(ann, 1)) // nothing is learned, and it goes where that one is pinned
	checkReceive(t, b, 0, raw, waiting(b, 1, raw), api.OK)
	raw = frameOf(ann, ann, "by somebody else")
	checkReceive(t, b, 0, raw, waiting(b, 1, raw), api.OK)
}

func TestReceiveMovesWhoIsKnown(t *testing.T) { // P14.2
	b := knowing(of("332"), seen(bob, 1, 100), seen(ann, 1, 99))
	raw := frameOf(bob, ann, "x")
	checkReceive(t, b, 0, raw, waiting(knowing(b, seen(ann, 0, 100), seen(bob, 1, 100)), 1, raw), api.OK)
	checkReceive(t, b, 1, raw, knowing(b, seen(ann, 1, 100), seen(bob, 1, 100)), api.OK)
	checkReceive(t, b, 2, raw, knowing(b, seen(ann, 2, 100), seen(bob, 1, 100)), api.OK)
	b = knowing(b, pinned(ann, 1))
	checkReceive(t, b, 2, raw, b, api.OK)
}

func TestReceiveWhereThereIsNoRoom(t *testing.T) { // P14.2
	raw := frameOf(club, ann, "x")
	b := waiting(waiting(knowing(of("3333"), seen(ann, 0, 100)), 1, "a", "b", "c"), 2, "d", "e")
	checkReceive(t, b, 0, raw, waiting(waiting(lost(b, 1), 2, raw), 3, raw), api.OK)
	b.Queues[1].Lost = mostLost
	checkReceive(t, b, 0, raw, waiting(waiting(b, 2, raw), 3, raw), api.OK)
}

func TestTickOfAFreshOne(t *testing.T) { // P14.3
	b := fresh(t, 2, tableOf(4, 10, seen(ann, 1, 1), pinned(bob, 1)))
	want := clone(b)
	want.Now, want.Tree.States = 1, []api.PortState{{State: 2, Left: 1}, {State: 2, Left: 1}}
	want = waiting(waiting(want, 0, told(5, 0, 5, 0, 0)), 1, told(5, 0, 5, 1, 0))
	checkTick(t, b, want, api.OK)
	b = want // now both forward, as they did not, so that ann is forgotten
	want = knowing(want, pinned(bob, 1))
	want.Now, want.Tree.States = 2, []api.PortState{{State: 3}, {State: 3}}
	want = waiting(waiting(want, 0, told(5, 0, 5, 0, 0)), 1, told(5, 0, 5, 1, 0))
	checkTick(t, b, want, api.OK)
	b = knowing(want, seen(ann, 1, 2)) // nothing of that changes any more
	want = waiting(waiting(b, 0, told(5, 0, 5, 0, 0)), 1, told(5, 0, 5, 1, 0))
	want.Now = 3
	checkTick(t, b, want, api.OK)
}

func TestTickTellsByWhichPorts(t *testing.T) { // P14.3
	b := of("33-03")
	b.Tree.Self.Infos[1] = api.Info{Has: true, Vec: api.Vec{Root: 1, Cost: 2, Bridge: 3, Port: 4}, Age: 6} // the root port
	b.Tree.Self.Infos[3].Vec = api.Vec{Root: 1, Cost: 2, Bridge: 4}
	checkRight(t, b, true)
	want := waiting(waiting(b, 0, told(1, 12, 5, 0, 8)), 4, told(1, 12, 5, 4, 8))
	want.Now = 101
	want.Tree.Self.Infos[1].Age, want.Tree.Self.Infos[3].Age = 7, 1
	checkTick(t, b, want, api.OK)
}

func TestTickForgetsWhatWasTold(t *testing.T) { // P14.3
	b := knowing(of("30"), seen(ann, 0, 100))
	b.Tree.Self.Infos[1].Age = 18
	want := waiting(b, 0, told(5, 0, 5, 0, 0))
	want.Now, want.Tree.Self.Infos[1].Age = 101, 19
	checkTick(t, b, want, api.OK)
	b, want = want, waiting(waiting(want, 0, told(5, 0, 5, 0, 0)), 1, told(5, 0, 5, 1, 0)) // it listens, so the same ones forward
	want.Now, want.Tree.Self.Infos[1], want.Tree.States[1] = 102, api.Info{}, api.PortState{State: 1, Left: 1}
	checkTick(t, b, want, api.OK)
}

func TestTickByWhichOthersForward(t *testing.T) { // P14.3: they are as many as ahead
	b := of("3332")
	b.Tree.Self.Infos[0] = api.Info{Has: true, Vec: api.Vec{Root: 1, Bridge: 1}, Age: 19}
	b.Tree.Self.Infos[1] = api.Info{Has: true, Vec: api.Vec{Root: 1, Cost: 15, Bridge: 3}}
	b.Tree.Self.Infos[2] = api.Info{Has: true, Vec: api.Vec{Root: 1, Cost: 22, Bridge: 6}}
	b.Tree.States[3].Left = 1
	checkRight(t, b, true)
	want := waiting(waiting(knowing(b, pinned(bob, 2)), 0, told(1, 25, 5, 0, 2)), 3, told(1, 25, 5, 3, 2))
	want.Now = 101
	want.Tree.Self.Infos[0], want.Tree.Self.Infos[1].Age, want.Tree.Self.Infos[2].Age = api.Info{}, 1, 1
	want.Tree.States[2], want.Tree.States[3] = api.PortState{}, api.PortState{State: 3}
	checkTick(t, knowing(b, seen(ann, 0, 100), pinned(bob, 2), seen(cid, 3, 100)), want, api.OK)
}

func TestTickWhereThereIsNoRoom(t *testing.T) { // P14.3
	b := waiting(waiting(of("333"), 0, "a", "b", "c"), 2, "d", "e")
	want := waiting(waiting(lost(b, 0), 1, told(5, 0, 5, 1, 0)), 2, told(5, 0, 5, 2, 0))
	want.Now = 101
	checkTick(t, b, want, api.OK)
}

func TestTickSweeps(t *testing.T) { // P14.3
	for _, age := range []int{1, 2, 10, 100} {
		b := of("-")
		b.Table.Age = age
		want := knowing(b, seen(bob, 0, 101-age), pinned(cid, 7), seen(dot, 0, 101)) // it goes by the time behind the tick
		want.Now = 101
		checkTick(t, knowing(b, seen(bob, 0, 101-age), seen(ann, 0, 100-age), pinned(cid, 7), seen(dot, 0, 101)), want, api.OK)
	}
}

func TestTickAtTheEndOfTime(t *testing.T) { // P14.3
	for _, now := range []int{0, latest - 2, latest - 1, latest} {
		b := of("-")
		b.Now = now
		want := b
		want.Now = min(now+1, 1<<40)
		checkTick(t, b, want, api.OK)
	}
	b := knowing(of("-"), seen(ann, 0, latest-10), seen(bob, 0, latest-11))
	b.Now = latest
	checkTick(t, b, knowing(b, seen(ann, 0, latest-10)), api.OK)
}

func TestTake(t *testing.T) { // P14.3
	b := waiting(waiting(knowing(of("3-1"), seen(ann, 0, 1)), 0, "a", "b", "a"), 1, "")
	b.Queues[0].Lost = 9
	want := clone(b)
	want.Queues[0].Items = []string{"b", "a"}
	checkTake(t, b, 0, want, "a", api.OK)
	want = clone(b)
	want.Queues[1].Items = nil
	checkTake(t, b, 1, want, "", api.OK) // even by a port that is not up, and of no bytes
	checkTake(t, b, 2, api.Bridge{}, "", api.ErrNone)
	checkTake(t, want, 1, api.Bridge{}, "", api.ErrNone)
}

func TestLinkThatGoesDown(t *testing.T) { // P14.3
	b := waiting(waiting(knowing(of("3321-"), seen(ann, 1, 99), pinned(bob, 0)), 0, "a", "b"), 1, "c")
	b = waiting(waiting(b, 2, "d"), 4, "e", "f", "g")
	b.Queues[0].Lost, b.Queues[4].Lost = 5, mostLost-2
	checkLink(t, b, 0, false, linked(knowing(b, pinned(bob, 0)), 0, 7), api.OK)
	checkLink(t, b, 2, false, linked(b, 2, 1), api.OK) // it did not forward, so the same ones do
	checkLink(t, b, 3, false, linked(b, 3, 0), api.OK)
	checkLink(t, b, 4, false, linked(b, 4, mostLost), api.OK) // it was not up
}

// linked tells the bridge whose port is not up, and has lost so many in all.
func linked(b api.Bridge, port, lost int) api.Bridge {
	b = clone(b)
	b.Tree.Self.Ups[port], b.Tree.Self.Infos[port], b.Tree.States[port] = false, api.Info{}, api.PortState{}
	b.Queues[port].Items, b.Queues[port].Lost = nil, lost
	return b
}

func TestLinkThatComesUp(t *testing.T) { // P14.3
	b := waiting(waiting(knowing(of("33-0"), seen(ann, 1, 99)), 0, "a", "b"), 2, "c")
	want := clone(b) // what waits goes on waiting
	want.Tree.Self.Ups[2], want.Tree.States[2] = true, api.PortState{State: 1, Left: 2}
	checkLink(t, b, 2, true, want, api.OK)
	checkLink(t, b, 0, true, b, api.OK)
	checkLink(t, b, 3, true, b, api.OK)
}

func TestLinkOfTheRootPort(t *testing.T) { // P14.3: that other ports begin to be active flushes nothing, as they listen
	b := waiting(knowing(of("10"), seen(ann, 0, 99)), 0, "a")
	b.Tree.Self.Infos[0] = api.Info{Has: true, Vec: api.Vec{Root: 1, Bridge: 1}}
	b.Tree.Self.Infos[1].Vec.Root = 1
	want := linked(b, 0, 1)
	want.Tree.States[1] = api.PortState{State: 1, Left: 2}
	checkLink(t, b, 0, false, want, api.OK)
}

func TestPin(t *testing.T) { // P14.3
	b := waiting(knowing(of("3-"), seen(ann, 0, 99)), 0, "a")
	checkPin(t, b, ann, 1, knowing(b, pinned(ann, 1)), api.OK)
	checkPin(t, b, bob, 0, knowing(b, pinned(bob, 0), seen(ann, 0, 99)), api.OK)
	for _, a := range noStations {
		checkPin(t, b, a, 0, api.Bridge{}, api.ErrArg)
		checkPin(t, b, a, 2, api.Bridge{}, api.ErrRange) // that is named first
		checkPin(t, b, a, none, api.Bridge{}, api.ErrRange)
	}
	checkPin(t, b, ann, 2, api.Bridge{}, api.ErrRange) // fdb would take it
	full := knowing(b, pinned(ann, 0), pinned(bob, 0), pinned(cid, 7), pinned(dot, 0))
	checkPin(t, full, eve, 0, api.Bridge{}, api.ErrFull)
	checkPin(t, full, cid, 1, knowing(b, pinned(cid, 1), pinned(ann, 0), pinned(bob, 0), pinned(dot, 0)), api.OK)
}

func TestUnpin(t *testing.T) { // P14.3
	b := waiting(knowing(of("3-"), seen(ann, 0, 99), pinned(bob, 1), pinned(cid, 7)), 0, "a")
	checkUnpin(t, b, bob, knowing(b, seen(ann, 0, 99), pinned(cid, 7)), api.OK)
	checkUnpin(t, b, cid, knowing(b, seen(ann, 0, 99), pinned(bob, 1)), api.OK)
	checkUnpin(t, b, ann, api.Bridge{}, api.ErrNone)
	checkUnpin(t, b, dot, api.Bridge{}, api.ErrNone)
	for _, a := range noStations {
		checkUnpin(t, b, a, api.Bridge{}, api.ErrArg)
	}
}

// awake tells a fresh bridge whose ports forward, and at which nothing waits.
func awake(t *testing.T, ports int, table api.Table) api.Bridge {
	t.Helper()
	b, _ := takeAll(t, tick(t, fresh(t, ports, table), 2))
	return b
}

// checkWay fails, unless a frame goes by those ports, and tells the bridge behind it, at which nothing waits.
func checkWay(t *testing.T, b api.Bridge, in int, raw string, ports ...int) api.Bridge {
	t.Helper()
	out, taken := takeAll(t, receive(t, b, in, raw))
	for port, raws := range taken {
		want := slices.Contains(ports, port)
		if want && !slices.Equal(raws, []string{raw}) || !want && len(raws) > 0 {
			t.Errorf("by port %d %q goes, where %q came by %d, and goes by %v", port, raws, raw, in, ports)
		}
	}
	return out
}

func TestTheWhole(t *testing.T) { // DOC.md's examples 1 to 5
	b := awake(t, 3, tableOf(2, 5))
	b = checkWay(t, b, 0, frameOf(bob, ann, "who?"), 1, 2) // nobody is known
	b = checkWay(t, b, 1, frameOf(ann, bob, "I"), 0)       // the station answers
	b = checkWay(t, b, 0, frameOf(bob, ann, "you"), 1)     // from then on each goes one way
	b = checkWay(t, b, 2, frameOf(ann, bob, "moved"), 0)   // it moves, and sends
	b = checkWay(t, b, 0, frameOf(bob, ann, "there?"), 2)  // and is found where it is
	b, _ = takeAll(t, tick(t, b, 5))
	b = checkWay(t, b, 1, frameOf(bob, ann, "still?"), 2) // it is silent, though not for too long
	b, _ = takeAll(t, tick(t, b, 1))
	b = checkWay(t, b, 1, frameOf(bob, ann, "gone?"), 0, 2) // now it is
	b = checkWay(t, b, 0, frameOf(ann, bob, "I again"), 1)
	b = checkWay(t, b, 1, frameOf(bob, ann, "so"), 0)
	b = checkWay(t, b, 2, frameOf(ann, cid, "room?"), 1) // a third one comes, and who was heard longest ago goes
	b = checkWay(t, b, 1, frameOf(bob, ann, "gone"), 0, 2)
	b = pin(t, b, bob, 2)
	b = checkWay(t, b, 0, frameOf(ann, bob, "lie"), 1) // whatever is heard, it stays
	b = checkWay(t, b, 1, frameOf(bob, ann, "no"), 2)
	b = link(t, b, 0, false)
	checkWay(t, b, 1, frameOf(bob, ann, "no"), 2)
}

func TestReservedAndBrokenOnesStay(t *testing.T) { // DOC.md's example 9
	b := awake(t, 3, tableOf(2, 5))
	for _, raw := range []string{frameOf(reserved, ann, ""), frameOf(reserved+15, ann, "x"), told(1, 0, 1, 0, 0), "none", frameOf(ann, club, "")} {
		for in := range 3 {
			checkWay(t, b, in, raw)
		}
	}
}

func TestAFullQueueLoses(t *testing.T) { // DOC.md's example 10
	b := awake(t, 2, tableOf(2, 5))
	for i := range 7 {
		b = receive(t, b, 0, frameOf(all, ann, string(rune('a'+i))))
	}
	if q := b.Queues[1]; len(q.Items) != 4 || q.Lost != 3 {
		t.Errorf("%+v", q)
	}
}

func TestTwoBesideEachOther(t *testing.T) { // DOC.md's examples 6 and 7, as far as two go
	told := func(from, to api.Bridge) (api.Bridge, api.Bridge) {
		from, taken := takeAll(t, from)
		for port, raws := range taken {
			for _, raw := range raws {
				to = receive(t, to, port, raw)
			}
		}
		return from, to
	}
	low, e := bridge.New(1, []int{10, 10}, 4, 1, tableOf(2, 5), 4)
	if e != api.OK {
		t.Fatal(e)
	}
	high := awake(t, 2, tableOf(2, 5))
	for range 9 {
		low, high = tick(t, low, 1), tick(t, high, 1)
		low, high = told(low, high)
		high, low = told(high, low)
	}
	lowPorts, _ := stp.Forwards(low.Tree)
	highPorts, _ := stp.Forwards(high.Tree)
	if !slices.Equal(lowPorts, []int{0, 1}) || !slices.Equal(highPorts, []int{0}) {
		t.Errorf("by %v and %v frames go on", lowPorts, highPorts)
	}
	high, _ = takeAll(t, tick(t, high, 25)) // what the root told gets old
	if highPorts, _ = stp.Forwards(high.Tree); !slices.Equal(highPorts, []int{0, 1}) {
		t.Errorf("by %v frames go on, once nobody else is there", highPorts)
	}
}

func TestARootThatDoesNotExist(t *testing.T) { // DOC.md's example 8
	b := receive(t, awake(t, 2, tableOf(2, 5)), 0, told(0, 0, 9, 0, 15))
	isTold := func(root, cost, age int) {
		t.Helper()
		var taken [][]string
		b, taken = takeAll(t, tick(t, b, 1))
		if !slices.Equal(taken[1], []string{told(root, cost, 5, 1, age)}) {
			t.Errorf("at %d %q is told", b.Now, taken[1])
		}
	}
	isTold(0, 10, 17) // it is believed
	isTold(0, 10, 18)
	isTold(0, 10, 19)
	b, _ = takeAll(t, tick(t, b, 1)) // it is too old to be told
	isTold(5, 0, 0)                  // and forgotten, as nobody tells it anew
}

// chance tells numbers that are always the same ones.
type chance uint64

func (c *chance) below(n int) int {
	*c = *c*6364136223846793005 + 1442695040888963407
	return int(*c>>33) % n
}

func (c *chance) of(l []int) int {
	return l[c.below(len(l))]
}

// raw tells a frame's bytes, or some that are none.
func (c *chance) raw() string {
	switch c.below(8) {
	case 0, 1, 2:
		return told(c.of([]int{0, 3, 4, 5, 6}), c.of([]int{0, 1, 9, 10, 1<<31 - 1}), c.of([]int{0, 4, 5, 6}), c.of([]int{0, 1, 7}), c.of([]int{0, 1, 2, 3, 5, 255}))
	case 3:
		return c.junk()
	}
	dst := c.of([]int{ann, bob, cid, dot, eve, club, all})
	return frameOf(dst, c.of(allStations), strings.Repeat("z", c.of([]int{0, 1, 12, 100})))
}

func (c *chance) junk() string {
	switch c.below(5) {
	case 0:
		return noFrames[c.below(len(noFrames)-1)]
	case 1:
		return frameOf(ann, c.of([]int{club, all, reserved}), "")
	case 2:
		return frameOf(reserved+c.below(16), ann, "junk")
	}
	raw := []byte(told(3, 1, 4, 0, 0))
	raw[c.below(len(raw))] ^= byte(1 << c.below(8))
	return string(raw)
}

// bridge tells a new one, with a table that has some in it, late or not, and which has dropped few or many.
func (c *chance) bridge(t *testing.T) api.Bridge {
	table, _ := fdb.New(c.of([]int{1, 2, 4, 16}), 1+c.below(4), c.of([]int{1, 2, 5, 1 << 20}))
	now := c.of([]int{0, 1000, latest - 5, latest})
	for range c.below(6) {
		if a := c.of(allStations); c.below(3) == 0 {
			if pinnedTo, e := fdb.Pin(table, a, c.below(8)); e == api.OK {
				table = pinnedTo
			}
		} else {
			table, _ = fdb.Learn(table, a, c.below(8), now)
		}
	}
	costs := make([]int, 1+c.below(8))
	for port := range costs {
		costs[port] = c.of([]int{1, 9, 10, 1000})
	}
	b, e := bridge.New(c.of([]int{0, 4, 5, 6, 65535}), costs, c.of([]int{1, 3, 4, 20, 255}), c.of([]int{1, 1, 1, 2, 3}), table, 1+c.below(4))
	if e != api.OK {
		t.Fatal(e)
	}
	b.Now, b.Bad, b.Queues[0].Lost = now, c.of([]int{0, mostLost - 2, mostLost}), c.of([]int{0, mostLost - 2, mostLost})
	return b
}

// step has a bridge go on somehow.
func (c *chance) step(t *testing.T, b api.Bridge) api.Bridge {
	t.Helper()
	port := c.below(len(b.Queues))
	switch c.below(10) {
	case 0, 1, 2:
		return tick(t, b, 1)
	case 3:
		return link(t, b, port, c.below(3) > 0)
	case 4:
		if out, _, e := bridge.Take(b, port); e == api.OK {
			return out
		}
	case 5:
		if out, e := bridge.Pin(b, c.of(allStations), port); e == api.OK && c.below(3) == 0 {
			return out
		}
		if out, e := bridge.Unpin(b, c.of(allStations)); e == api.OK {
			return out
		}
	}
	return receive(t, b, port, c.raw())
}

func TestHistories(t *testing.T) { // P14.1, P14.2, P14.3
	c := chance(14)
	for range 150 {
		b := c.bridge(t)
		for range 60 {
			if c.below(4) == 0 {
				checkAll(t, b, c.raw(), c.raw(), c.raw())
			}
			b = c.step(t, b)
			checkRight(t, b, true)
		}
		if t.Failed() {
			return
		}
	}
}

func TestPinsInHistories(t *testing.T) { // P14.3
	c := chance(15)
	for range 100 {
		b := c.bridge(t)
		for range 20 {
			b = c.step(t, b)
			a, port := c.of(append(allStations, club)), c.below(len(b.Queues))
			want := clone(b)
			table, e := fdb.Pin(b.Table, a, port)
			if want.Table = table; e != api.OK {
				want = api.Bridge{}
			}
			checkPin(t, b, a, port, want, e)
			want = clone(b)
			table, e = fdb.Unpin(b.Table, a)
			if want.Table = table; e != api.OK {
				want = api.Bridge{}
			}
			checkUnpin(t, b, a, want, e)
		}
	}
}

func TestNeverBackNorWhereNothingForwards(t *testing.T) { // P14.4
	c := chance(16)
	for range 300 {
		b := c.bridge(t)
		for range 40 {
			in, raw := c.below(len(b.Queues)), c.raw()
			forwards, _ := stp.Forwards(b.Tree)
			out := receive(t, b, in, raw)
			for port, q := range out.Queues {
				was := b.Queues[port]
				if sameQueue(q, was) {
					continue
				}
				isWay := port != in && slices.Contains(forwards, port) && slices.Contains(forwards, in)
				isSent := slices.Equal(q.Items, append(slices.Clone(was.Items), raw)) || slices.Equal(q.Items, was.Items) && q.Lost == was.Lost+1
				if !isFrame(raw) || isReserved(raw) || !isWay || !isSent {
					t.Fatalf("Receive(%+v, %d, %q) has %+v at port %d", b, in, raw, q, port)
				}
			}
			b = c.step(t, out)
		}
	}
}

// spoil writes over all that an answer reaches.
func spoil(b api.Bridge) {
	self := b.Tree.Self
	overwrite(self.Costs, -7)
	overwrite(self.Ups, !(len(self.Ups) > 0 && self.Ups[0]))
	overwrite(self.Infos, api.Info{Age: -7})
	overwrite(b.Tree.States, api.PortState{State: -7})
	for _, bucket := range b.Table.Buckets {
		overwrite(bucket, api.Entry{Mac: -7})
	}
	overwrite(b.Table.Buckets, []api.Entry{{Mac: -7}})
	for _, q := range b.Queues {
		overwrite(q.Items, "spoilt")
	}
	overwrite(b.Queues, api.Queue{Cap: -7})
}

func overwrite[T any](l []T, by T) {
	whole := l[:cap(l)]
	for i := range whole {
		whole[i] = by
	}
}

func TestWhatIsAnsweredIsNewMemory(t *testing.T) { // R1, R4
	table := tableOf(4, 10, seen(ann, 1, 95), pinned(bob, 1), seen(cid, 0, 100))
	costs := []int{10, 20, 30}
	made, e := bridge.New(5, costs, 20, 2, table, 3)
	if e != api.OK {
		t.Fatal(e)
	}
	spoil(made)
	if !slices.Equal(costs, []int{10, 20, 30}) || !sameTable(table, tableOf(4, 10, seen(ann, 1, 95), pinned(bob, 1), seen(cid, 0, 100))) {
		t.Errorf("New gave out %v or %+v", costs, table)
	}
	c := chance(17)
	for range 60 {
		b := c.bridge(t)
		for range 30 {
			b = c.step(t, b)
		}
		before := clone(b)
		port := c.below(len(b.Queues))
		for _, raw := range []string{c.raw(), c.junk(), frameOf(bob, ann, "x"), frameOf(all, ann, "x"), told(0, 0, 0, 0, 0), told(6, 0, 6, 0, 0)} {
			spoil(receive(t, b, port, raw))
		}
		spoil(tick(t, b, 1))
		spoil(link(t, b, port, true))
		spoil(link(t, b, port, false))
		taken, _, _ := bridge.Take(b, port)
		spoil(taken)
		for _, a := range allStations {
			pinnedTo, _ := bridge.Pin(b, a, port)
			spoil(pinnedTo)
			unpinned, _ := bridge.Unpin(b, a)
			spoil(unpinned)
		}
		checkKept(t, "one of all", b, before)
	}
}

func TestQueuesShareNothing(t *testing.T) { // R4: whatever waits at a port waits there alone
	b := of("333")
	items := make([]string, 1, 3)
	items[0] = "a"
	for port := range b.Queues {
		b.Queues[port].Items = items
	}
	raw := frameOf(all, ann, "x")
	want := waiting(waiting(knowing(b, seen(ann, 0, 100)), 1, raw), 2, raw)
	checkReceive(t, b, 0, raw, want, api.OK)
	out := receive(t, b, 0, raw)
	overwrite(out.Queues[1].Items, "spoilt")
	if !slices.Equal(out.Queues[2].Items, []string{"a", raw}) || !slices.Equal(out.Queues[0].Items, []string{"a"}) || items[:3][1] != "" {
		t.Errorf("%+v", out.Queues)
	}
}

func TestManyAtOnceHearTheSame(t *testing.T) { // R1
	b := waiting(knowing(of("3332"), seen(bob, 1, 99), pinned(cid, 2)), 0, "a")
	raw := frameOf(bob, ann, "x")
	var done sync.WaitGroup
	failed := make([]bool, 16)
	for i := range failed {
		done.Go(func() {
			for range 30 {
				heard, e := bridge.Receive(b, 0, raw)
				later, f := bridge.Tick(b)
				down, g := bridge.Link(b, 2, false)
				left, first, h := bridge.Take(b, 0)
				isSame := same(heard, wantReceive(b, 0, raw)) && same(later, wantTick(b)) && same(down, wantLink(b, 2, false)) &&
					len(left.Queues[0].Items) == 0 && first == "a"
				failed[i] = failed[i] || !isSame || e != api.OK || f != api.OK || g != api.OK || h != api.OK
			}
		})
	}
	done.Wait()
	if slices.Contains(failed, true) {
		t.Error("some heard otherwise")
	}
}

func FuzzReceive(f *testing.F) { // P14.2, P1
	f.Add("0123-3", 3, frameOf(bob, ann, "x"), 0)
	f.Add("33", 0, frameOf(ann, bob, ""), 1)
	f.Add("33", 0, told(1, 0, 1, 0, 0), 1)
	f.Add("333", 1, frameOf(reserved+3, ann, "x"), 7)
	f.Add("333", 3, "", none)
	f.Add("", 0, "", 0)
	f.Add("000000000", 0, frameOf(all, ann, ""), 0)
	f.Fuzz(func(t *testing.T, states string, port int, raw string, bobsPort int) {
		b := knowing(of(states), seen(bob, bobsPort, 100), pinned(cid, 1))
		isRight := len(b.Queues) >= 1 && len(b.Queues) <= 8 && 0 <= bobsPort && bobsPort <= 7 && strings.Trim(states, "0123-") == ""
		switch {
		case !isRight && len(states) <= 20 && strings.Trim(states, "0123-") == "":
			checkReceive(t, b, port, raw, api.Bridge{}, api.ErrArg)
		case isRight && (port < 0 || port >= len(b.Queues)):
			checkReceive(t, b, port, raw, api.Bridge{}, api.ErrRange)
		case isRight:
			checkAll(t, b, raw)
			checkReceive(t, b, port, raw, wantReceive(b, port, raw), api.OK)
		}
	})
}
