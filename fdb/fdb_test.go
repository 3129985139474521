package fdb_test

import (
	"encoding/binary"
	"hash/fnv"
	"math"
	"slices"
	"sync"
	"testing"

	"footway/api"
	"footway/fdb"
)

var (
	bucketCounts   = []int{1, 2, 4, 8, 16}
	noBucketCounts = []int{0, -1, 3, 5, 6, 7, 9, 12, 15, 17, 32, 64, 1 << 32, 1<<32 | 1, math.MaxInt, math.MinInt}
	slotCounts     = []int{1, 2, 3, 4}
	noSlotCounts   = []int{0, -1, -4, 5, 6, 8, 64, 1<<32 | 2, math.MaxInt, math.MinInt}
	ages           = []int{1, 2, 3, 300, api.MaxAging - 1, api.MaxAging}
	noAges         = []int{0, -1, -api.MaxAging, api.MaxAging + 1, 2 * api.MaxAging, api.MaxTime, 1<<40 | 5, math.MaxInt, math.MinInt}
	noPorts        = []int{-2, -3, -8, api.MaxPorts, api.MaxPorts + 1, 255, 1<<32 | 3, math.MaxInt, math.MinInt}
	times          = []int{0, 1, 2, 299, 300, 301, 1 << 31, 1 << 32, api.MaxTime - 1, api.MaxTime}
	noTimes        = []int{-1, -2, -api.MaxTime, api.MaxTime + 1, api.MaxTime << 1, 1<<62 | 7, math.MaxInt, math.MinInt}

	// stations are the edges of what is of class CUnicast.
	stations = []int{
		0, 1, 0x00ffffffffff, 0x020000000000, 0x020000000001, 0x02ffffffffff, 0x0280c2000000,
		0x020000010003, 0xfe0000000000, 0xfeffffffffff,
	}
	noStations = []int{
		0x010000000000, 0x01ffffffffff, api.Reserved - 1, api.Reserved, api.Reserved + 15, api.Reserved + 16,
		0x030000000000, 0xff0000000000, api.Broadcast - 1, api.Broadcast, api.MaxMac + 1, api.MaxMac + 3,
		-1, -2, -0x020000000001, 1<<62 | 2, math.MaxInt, math.MinInt,
	}
)

// placeOf says independently into which of n buckets an address falls.
func placeOf(a, n int) int {
	var bytes [8]byte
	binary.BigEndian.PutUint64(bytes[:], uint64(a))
	sum := fnv.New32a()
	sum.Write(bytes[2:])
	return int(sum.Sum32()) % n
}

// someOf tells that many addresses that fall into a bucket of n.
func someOf(place, n, count int) []int {
	var l []int
	for a := 0x020000000001; len(l) < count; a++ {
		if placeOf(a, n) == place {
			l = append(l, a)
		}
	}
	return l
}

func seen(a, port, at int) api.Entry {
	return api.Entry{Mac: a, Port: port, Seen: at}
}

func pinned(a, port int) api.Entry {
	return api.Entry{Mac: a, Port: port, Static: true}
}

// one tells a table of one bucket.
func one(slots, age int, entries ...api.Entry) api.Table {
	return api.Table{Buckets: [][]api.Entry{entries}, Slots: slots, Age: age}
}

// filled tells a table each bucket of which has that many entries; which of them are Static, bits say.
func filled(n, slots, count, bits int) api.Table {
	t := api.Table{Buckets: make([][]api.Entry, n), Slots: slots, Age: 20}
	for place := range n {
		for i, a := range someOf(place, n, count) {
			e := seen(a, (place+3*i)%api.MaxPorts, 10*(place+3*i%4))
			if bits>>i&1 == 1 {
				e = pinned(a, e.Port)
			}
			t.Buckets[place] = append(t.Buckets[place], e)
		}
	}
	return t
}

// tables are of each size, as full as may be, with each choice of Static entries.
func tables() []api.Table {
	var all []api.Table
	for _, n := range bucketCounts {
		for _, slots := range slotCounts {
			for count := range slots + 1 {
				for bits := range 1 << count {
					all = append(all, filled(n, slots, count, bits))
				}
			}
		}
	}
	return all
}

func clone(t api.Table) api.Table {
	buckets := make([][]api.Entry, len(t.Buckets))
	for i := range buckets {
		buckets[i] = slices.Clone(t.Buckets[i])
	}
	t.Buckets = buckets
	return t
}

func same(a, b api.Table) bool {
	return a.Slots == b.Slots && a.Age == b.Age && slices.EqualFunc(a.Buckets, b.Buckets, slices.Equal)
}

func entries(t api.Table) []api.Entry {
	return slices.Concat(t.Buckets...)
}

func addresses(t api.Table) []int {
	var l []int
	for _, e := range entries(t) {
		l = append(l, e.Mac)
	}
	return l
}

// known says independently what a table has of an address, wherever it lies.
func known(t api.Table, a int) (api.Entry, bool) {
	for _, e := range entries(t) {
		if e.Mac == a {
			return e, true
		}
	}
	return api.Entry{}, false
}

// wantPut says independently what a table is once an entry was put, and whether it fits.
func wantPut(t api.Table, e api.Entry) (api.Table, bool) {
	out := clone(t)
	bucket := &out.Buckets[placeOf(e.Mac, len(t.Buckets))]
	l := []api.Entry{e}
	for _, o := range *bucket {
		if o.Mac != e.Mac {
			l = append(l, o)
		}
	}
	for i := len(l) - 1; i > 0 && len(l) > t.Slots; i-- {
		if !l[i].Static {
			l = slices.Delete(l, i, i+1)
		}
	}
	*bucket = l
	return out, len(l) <= t.Slots
}

func wantLearn(t api.Table, a, port, now int) api.Table {
	if e, isThere := known(t, a); isThere && e.Static {
		return t
	}
	if out, fits := wantPut(t, seen(a, port, now)); fits {
		return out
	}
	return t
}

// wantLeft says independently which entries stay, where some go.
func wantLeft(t api.Table, goes func(e api.Entry) bool) api.Table {
	out := api.Table{Slots: t.Slots, Age: t.Age}
	for _, bucket := range t.Buckets {
		var left []api.Entry
		for _, e := range bucket {
			if !goes(e) {
				left = append(left, e)
			}
		}
		out.Buckets = append(out.Buckets, left)
	}
	return out
}

// checkCall fails, unless a call answers what is wanted, and its argument stays as it is.
func checkCall(t *testing.T, table api.Table, call func() (api.Table, api.Errno), want api.Table, wantErr api.Errno, name string, handed ...int) api.Table {
	t.Helper()
	before := clone(table)
	if wantErr != api.OK {
		want = api.Table{}
	}
	out, e := call()
	if e != wantErr || !same(out, want) {
		t.Errorf("%s(%v, %d) = %v, %d, want %v, %d", name, table, handed, out, e, want, wantErr)
	}
	if wantErr == api.OK && !fdb.Right(out) {
		t.Errorf("%s(%v, %d) is no table: %v", name, table, handed, out)
	}
	if !same(table, before) {
		t.Errorf("%s changed %v to %v", name, before, table)
	}
	return out
}

func learn(t *testing.T, table api.Table, a, port, now int, want api.Table, wantErr api.Errno) api.Table {
	t.Helper()
	return checkCall(t, table, func() (api.Table, api.Errno) { return fdb.Learn(table, a, port, now) }, want, wantErr, "Learn", a, port, now)
}

func pin(t *testing.T, table api.Table, a, port int, want api.Table, wantErr api.Errno) api.Table {
	t.Helper()
	return checkCall(t, table, func() (api.Table, api.Errno) { return fdb.Pin(table, a, port) }, want, wantErr, "Pin", a, port)
}

func unpin(t *testing.T, table api.Table, a int, want api.Table, wantErr api.Errno) api.Table {
	t.Helper()
	return checkCall(t, table, func() (api.Table, api.Errno) { return fdb.Unpin(table, a) }, want, wantErr, "Unpin", a)
}

func sweep(t *testing.T, table api.Table, now int, want api.Table, wantErr api.Errno) api.Table {
	t.Helper()
	return checkCall(t, table, func() (api.Table, api.Errno) { return fdb.Sweep(table, now) }, want, wantErr, "Sweep", now)
}

func flush(t *testing.T, table api.Table, port int, want api.Table, wantErr api.Errno) api.Table {
	t.Helper()
	return checkCall(t, table, func() (api.Table, api.Errno) { return fdb.Flush(table, port) }, want, wantErr, "Flush", port)
}

func find(t *testing.T, table api.Table, a, now, want int, wantErr api.Errno) {
	t.Helper()
	before := clone(table)
	if port, e := fdb.Find(table, a, now); port != want || e != wantErr {
		t.Errorf("Find(%v, %#x, %d) = %d, %d, want %d, %d", table, a, now, port, e, want, wantErr)
	}
	if !same(table, before) {
		t.Errorf("Find changed %v to %v", before, table)
	}
}

func checkLearn(t *testing.T, table api.Table, a, port, now int) api.Table {
	t.Helper()
	return learn(t, table, a, port, now, wantLearn(table, a, port, now), api.OK)
}

func checkFind(t *testing.T, table api.Table, a, now int) {
	t.Helper()
	want := -1
	if e, isThere := known(table, a); isThere && (e.Static || now <= e.Seen+table.Age) {
		want = e.Port
	}
	find(t, table, a, now, want, api.OK)
}

func checkPin(t *testing.T, table api.Table, a, port int) api.Table {
	t.Helper()
	want, fits := wantPut(table, pinned(a, port))
	if !fits {
		return pin(t, table, a, port, api.Table{}, api.ErrFull)
	}
	return pin(t, table, a, port, want, api.OK)
}

func checkUnpin(t *testing.T, table api.Table, a int) api.Table {
	t.Helper()
	if e, isThere := known(table, a); !isThere || !e.Static {
		return unpin(t, table, a, api.Table{}, api.ErrNone)
	}
	return unpin(t, table, a, wantLeft(table, func(e api.Entry) bool { return e.Mac == a }), api.OK)
}

func checkSweep(t *testing.T, table api.Table, now int) api.Table {
	t.Helper()
	return sweep(t, table, now, wantLeft(table, func(e api.Entry) bool { return !e.Static && e.Seen+table.Age < now }), api.OK)
}

func checkFlush(t *testing.T, table api.Table, port int) api.Table {
	t.Helper()
	return flush(t, table, port, wantLeft(table, func(e api.Entry) bool { return !e.Static && (port < 0 || e.Port == port) }), api.OK)
}

// checkRefused fails, unless all calls tell ErrArg: either the table may not be, or nothing else that is handed may.
func checkRefused(t *testing.T, table api.Table, a, port, now int) {
	t.Helper()
	learn(t, table, a, port, now, api.Table{}, api.ErrArg)
	find(t, table, a, now, 0, api.ErrArg)
	pin(t, table, a, port, api.Table{}, api.ErrArg)
	unpin(t, table, a, api.Table{}, api.ErrArg)
	sweep(t, table, now, api.Table{}, api.ErrArg)
	flush(t, table, port, api.Table{}, api.ErrArg)
}

// checkWrong fails, unless all calls refuse a table, whatever else they are handed.
func checkWrong(t *testing.T, table api.Table) {
	t.Helper()
	if fdb.Right(table) {
		t.Errorf("Right(%v) is true", table)
	}
	checkRefused(t, table, 0x020000000001, 3, 5)
	checkRefused(t, table, 0, 0, 0)
	checkRefused(t, table, -1, -1, -1)
	for _, e := range entries(table) {
		checkRefused(t, table, e.Mac, e.Port, e.Seen)
	}
}

func TestExample(t *testing.T) { // P8.2, P8.3
	const a, b, c = 0x020000000001, 0x020000000002, 0x020000000003
	table, e := fdb.New(1, 2, 10)
	if e != api.OK {
		t.Fatal(e)
	}
	for i, who := range []int{a, b, a, c} {
		if table, e = fdb.Learn(table, who, i, i); e != api.OK {
			t.Error(e)
		}
	}
	if want := one(2, 10, seen(c, 3, 3), seen(a, 2, 2)); !same(table, want) {
		t.Errorf("%v, want %v", table, want)
	}
	find(t, table, a, 4, 2, api.OK)
	find(t, table, b, 4, -1, api.OK)
	find(t, table, c, 4, 3, api.OK)
}

func TestNew(t *testing.T) { // P8.1
	for _, n := range bucketCounts {
		for _, slots := range slotCounts {
			for _, age := range ages {
				table, e := fdb.New(n, slots, age)
				want := api.Table{Buckets: make([][]api.Entry, n), Slots: slots, Age: age}
				if e != api.OK || !same(table, want) || !fdb.Right(table) {
					t.Errorf("New(%d, %d, %d) = %v, %d", n, slots, age, table, e)
				}
			}
		}
	}
}

func TestNewOfWrongSizes(t *testing.T) { // P8.1, P1, R2
	check := func(n, slots, age int) {
		t.Helper()
		if table, e := fdb.New(n, slots, age); e != api.ErrSize || !same(table, api.Table{}) {
			t.Errorf("New(%d, %d, %d) = %v, %d", n, slots, age, table, e)
		}
	}
	for _, n := range noBucketCounts {
		check(n, 2, 300)
		for _, slots := range noSlotCounts {
			check(n, slots, 300)
			check(1, slots, 300)
			for _, age := range noAges {
				check(n, slots, age)
				check(n, 2, age)
				check(4, slots, age)
				check(16, 4, age)
			}
		}
	}
}

func TestRightTables(t *testing.T) { // P8.1, R3
	right := []api.Table{
		{Buckets: [][]api.Entry{nil}, Slots: 1, Age: 1},
		{Buckets: [][]api.Entry{{}}, Slots: 4, Age: api.MaxAging},
		{Buckets: [][]api.Entry{nil, {}}, Slots: 1, Age: 1},
		one(2, 1, pinned(0, 0), seen(1, 0, 0)),
		one(2, 1, seen(0, 0, 0), pinned(1, 0)),
		one(4, 9, seen(3, 7, 0), seen(2, 7, api.MaxTime), seen(1, 7, 5), pinned(0, 7)),
	}
	for _, table := range append(right, tables()...) {
		if !fdb.Right(table) {
			t.Errorf("Right(%v) is false", table)
		}
	}
	for _, a := range stations {
		for port := range 8 {
			for _, at := range times {
				if !fdb.Right(one(1, 1, seen(a, port, at))) || !fdb.Right(one(1, 1, pinned(a, port))) {
					t.Errorf("Right of %#x at %d, seen at %d, is false", a, port, at)
				}
			}
		}
	}
}

func TestTablesOfWrongSizes(t *testing.T) { // P8.1, P1
	checkWrong(t, api.Table{})
	checkWrong(t, api.Table{Slots: 2, Age: 300})
	checkWrong(t, api.Table{Buckets: [][]api.Entry{}, Slots: 2, Age: 300})
	for n := range 70 {
		if !slices.Contains(bucketCounts, n) {
			checkWrong(t, api.Table{Buckets: make([][]api.Entry, n), Slots: 2, Age: 300})
		}
	}
	for _, n := range bucketCounts {
		for _, slots := range noSlotCounts {
			checkWrong(t, api.Table{Buckets: make([][]api.Entry, n), Slots: slots, Age: 300})
		}
		for _, age := range noAges {
			checkWrong(t, api.Table{Buckets: make([][]api.Entry, n), Slots: 2, Age: age})
		}
	}
}

func TestBucketsOfTooMany(t *testing.T) { // P8.1
	for _, n := range bucketCounts {
		for _, slots := range slotCounts {
			for _, bits := range []int{0, 1, -1} {
				for place := range n {
					for _, more := range []int{1, 2, 5} {
						table := filled(n, slots, slots, bits)
						table.Buckets[place] = filled(n, slots, slots+more, bits).Buckets[place]
						checkWrong(t, table)
					}
				}
			}
		}
	}
}

// checkWrongAtAnyPlace fails, unless a table is refused into which that entry comes instead of any other.
func checkWrongAtAnyPlace(t *testing.T, change func(e *api.Entry)) {
	t.Helper()
	for _, n := range []int{1, 4} {
		for _, bits := range []int{0, 5, -1} {
			for place := range n {
				for i := range 3 {
					table := filled(n, 4, 3, bits)
					change(&table.Buckets[place][i])
					checkWrong(t, table)
				}
			}
		}
	}
}

func TestWrongEntries(t *testing.T) { // P8.1, P1
	for _, a := range noStations {
		checkWrongAtAnyPlace(t, func(e *api.Entry) { e.Mac = a })
		checkWrong(t, one(1, 1, seen(a, 0, 0)))
		checkWrong(t, one(1, 1, pinned(a, 0)))
	}
	for _, port := range append([]int{-1}, noPorts...) {
		checkWrongAtAnyPlace(t, func(e *api.Entry) { e.Port = port })
	}
	for _, at := range noTimes {
		checkWrongAtAnyPlace(t, func(e *api.Entry) { e.Seen = at })
	}
	for _, at := range times[1:] {
		checkWrongAtAnyPlace(t, func(e *api.Entry) { e.Seen, e.Static = at, true })
	}
}

func TestEachIsInItsBucket(t *testing.T) { // P8.1
	for _, n := range bucketCounts {
		for _, a := range append(someOf(0, n, 2), stations...) {
			for place := range n {
				for _, e := range []api.Entry{seen(a, 1, 5), pinned(a, 1)} {
					table := api.Table{Buckets: make([][]api.Entry, n), Slots: 2, Age: 300}
					table.Buckets[place] = []api.Entry{e}
					if place != placeOf(a, n) {
						checkWrong(t, table)
					} else if !fdb.Right(table) {
						t.Errorf("Right(%v) is false", table)
					}
				}
			}
		}
	}
}

func TestNoTwoAreOfOneAddress(t *testing.T) { // P8.1
	for _, bits := range []int{0, 1, 6, 9, -1} {
		for _, n := range []int{1, 8} {
			for i := range 4 {
				for k := range i {
					table := filled(n, 4, 4, bits)
					bucket := table.Buckets[n-1]
					bucket[i].Mac = bucket[k].Mac
					checkWrong(t, table)
					bucket[i] = bucket[k]
					checkWrong(t, table)
				}
			}
		}
	}
}

func TestWrongNumbersAreRefused(t *testing.T) { // P8.1, P1, R2
	for _, table := range []api.Table{filled(1, 2, 0, 0), filled(1, 2, 2, 0), filled(4, 3, 3, -1), filled(16, 4, 4, 5)} {
		a := someOf(0, len(table.Buckets), 1)[0]
		for _, wrong := range noStations {
			learn(t, table, wrong, 0, 0, api.Table{}, api.ErrArg)
			find(t, table, wrong, 0, 0, api.ErrArg)
			pin(t, table, wrong, 0, api.Table{}, api.ErrArg)
			unpin(t, table, wrong, api.Table{}, api.ErrArg)
		}
		for _, wrong := range noPorts {
			learn(t, table, a, wrong, 0, api.Table{}, api.ErrArg)
			pin(t, table, a, wrong, api.Table{}, api.ErrArg)
			flush(t, table, wrong, api.Table{}, api.ErrArg)
		}
		learn(t, table, a, api.NoPort, 0, api.Table{}, api.ErrArg)
		pin(t, table, a, api.NoPort, api.Table{}, api.ErrArg)
		for _, wrong := range noTimes {
			learn(t, table, a, 0, wrong, api.Table{}, api.ErrArg)
			find(t, table, a, wrong, 0, api.ErrArg)
			sweep(t, table, wrong, api.Table{}, api.ErrArg)
			checkRefused(t, table, noStations[0], noPorts[0], wrong)
		}
	}
}

func TestWrongNumbersComeAheadOfAllElse(t *testing.T) { // P8.1, P1
	full := one(1, 5, pinned(7, 1))
	pin(t, full, 9, 8, api.Table{}, api.ErrArg)
	pin(t, full, api.Broadcast, 1, api.Table{}, api.ErrArg)
	unpin(t, full, api.Broadcast, api.Table{}, api.ErrArg)
	full.Age = 0
	pin(t, full, 9, 1, api.Table{}, api.ErrArg)
	unpin(t, full, 9, api.Table{}, api.ErrArg)
}

func TestLearnOfWhoIsNew(t *testing.T) { // P8.2
	for _, table := range tables() {
		n := len(table.Buckets)
		for place := range n {
			a := someOf(place, n, 5)[4]
			checkLearn(t, table, a, place%8, 7)
			checkLearn(t, table, a, 7, api.MaxTime)
		}
	}
}

func TestLearnOfWhoIsThere(t *testing.T) { // P8.2
	for _, table := range tables() {
		for _, e := range entries(table) {
			checkLearn(t, table, e.Mac, e.Port, e.Seen)
			checkLearn(t, table, e.Mac, (e.Port+1)%8, e.Seen+1)
			checkLearn(t, table, e.Mac, 0, 0)
		}
	}
}

func TestLearnAtTheEdges(t *testing.T) { // P8.2
	for _, n := range bucketCounts {
		for _, a := range stations {
			for port := range 8 {
				for _, now := range times {
					table := checkLearn(t, filled(n, 2, 1, 0), a, port, now)
					find(t, table, a, now, port, api.OK)
				}
			}
		}
	}
}

func TestWhoGoes(t *testing.T) { // P8.2, P8.3
	full := one(3, 5, seen(1, 1, 1), pinned(2, 2), seen(3, 3, 3))
	learn(t, full, 9, 4, 4, one(3, 5, seen(9, 4, 4), seen(1, 1, 1), pinned(2, 2)), api.OK)
	pin(t, full, 9, 4, one(3, 5, pinned(9, 4), seen(1, 1, 1), pinned(2, 2)), api.OK)
	full = one(3, 5, seen(1, 1, 9), seen(3, 3, 0), pinned(2, 2))
	learn(t, full, 9, 4, 4, one(3, 5, seen(9, 4, 4), seen(1, 1, 9), pinned(2, 2)), api.OK)
	// Who is old stays, as long as another one is the last.
	full = one(2, 5, seen(1, 1, 0), seen(2, 2, 90))
	learn(t, full, 9, 4, 99, one(2, 5, seen(9, 4, 99), seen(1, 1, 0)), api.OK)
	full = one(2, 5, pinned(1, 1), pinned(2, 2))
	learn(t, full, 9, 4, 99, full, api.OK)
	pin(t, full, 9, 4, api.Table{}, api.ErrFull)
	pin(t, full, 2, 4, one(2, 5, pinned(2, 4), pinned(1, 1)), api.OK)
}

func TestAStaticEntryStaysWhateverIsHeard(t *testing.T) { // P8.2
	for _, table := range tables() {
		for _, e := range entries(table) {
			if e.Static {
				out := learn(t, table, e.Mac, (e.Port+1)%8, api.MaxTime, table, api.OK)
				find(t, out, e.Mac, 0, e.Port, api.OK)
				find(t, out, e.Mac, api.MaxTime, e.Port, api.OK)
			}
		}
	}
}

func TestFind(t *testing.T) { // P8.2
	for _, table := range tables() {
		n := len(table.Buckets)
		for place := range n {
			for _, a := range someOf(place, n, 5) {
				for _, now := range []int{0, 5, 19, 20, 21, 35, 50, 51, 200, api.MaxTime} {
					checkFind(t, table, a, now)
				}
			}
		}
		for _, a := range stations {
			checkFind(t, table, a, 0)
		}
	}
}

func TestWhoIsOld(t *testing.T) { // P8.2, P8.3
	for _, age := range ages {
		for _, at := range append([]int{api.MaxTime - age - 1, api.MaxTime - age, api.MaxTime - age + 1}, times...) {
			table := one(2, age, seen(7, 3, at), pinned(8, 4))
			for _, now := range append([]int{at - 1, at, at + 1, at + age - 1, at + age, at + age + 1, at + age + 2}, times...) {
				if now < 0 || now > api.MaxTime {
					continue
				}
				find(t, table, 8, now, 4, api.OK)
				if now-at > age {
					find(t, table, 7, now, -1, api.OK)
					sweep(t, table, now, one(2, age, pinned(8, 4)), api.OK)
				} else {
					find(t, table, 7, now, 3, api.OK)
					sweep(t, table, now, table, api.OK)
				}
			}
		}
	}
}

func TestPin(t *testing.T) { // P8.3
	for _, table := range tables() {
		n := len(table.Buckets)
		for place := range n {
			for i, a := range someOf(place, n, 5) {
				if out := checkPin(t, table, a, (place+i)%8); len(out.Buckets) > 0 {
					find(t, out, a, api.MaxTime, (place+i)%8, api.OK)
				}
			}
		}
	}
	for _, a := range stations {
		for port := range 8 {
			checkPin(t, filled(4, 2, 1, 0), a, port)
		}
	}
}

func TestUnpin(t *testing.T) { // P8.3
	for _, table := range tables() {
		n := len(table.Buckets)
		for place := range n {
			for _, a := range someOf(place, n, 5) {
				checkUnpin(t, table, a)
			}
		}
		for _, a := range stations {
			checkUnpin(t, table, a)
		}
	}
	unpin(t, one(2, 5, seen(0, 0, 0)), 0, api.Table{}, api.ErrNone)
	unpin(t, one(2, 5, seen(7, 0, 0)), 0, api.Table{}, api.ErrNone)
	unpin(t, one(2, 5, seen(7, 0, 0), pinned(0, 0)), 0, one(2, 5, seen(7, 0, 0)), api.OK)
}

func TestSweepAndFlush(t *testing.T) { // P8.3
	for _, table := range tables() {
		for _, now := range []int{0, 1, 19, 20, 21, 29, 30, 31, 45, 50, 51, 100, 200, api.MaxTime} {
			checkSweep(t, table, now)
		}
		for port := -1; port < 8; port++ {
			checkFlush(t, table, port)
		}
	}
	table := one(4, 5, seen(1, 2, 0), pinned(2, 2), seen(3, 0, 9), seen(4, 2, 9))
	flush(t, table, 2, one(4, 5, pinned(2, 2), seen(3, 0, 9)), api.OK)
	flush(t, table, 0, one(4, 5, seen(1, 2, 0), pinned(2, 2), seen(4, 2, 9)), api.OK)
	flush(t, table, api.NoPort, one(4, 5, pinned(2, 2)), api.OK)
	sweep(t, table, 9, one(4, 5, pinned(2, 2), seen(3, 0, 9), seen(4, 2, 9)), api.OK)
}

// chance tells numbers that are always the same ones.
type chance uint64

func (c *chance) below(n int) int {
	*c = *c*6364136223846793005 + 1442695040888963407
	return int(*c>>33) % n
}

// history is what happened to each address last: where it was seen, or pinned.
type history map[int]api.Entry

// step lets one thing happen to a table, and keeps it; time goes on meanwhile.
func (h history) step(t *testing.T, c *chance, table api.Table, who, now int) api.Table {
	port := c.below(8)
	switch c.below(12) {
	case 0:
		if out := checkPin(t, table, who, port); len(out.Buckets) > 0 {
			h[who] = pinned(who, port)
			return out
		}
	case 1:
		if out := checkUnpin(t, table, who); len(out.Buckets) > 0 {
			delete(h, who)
			return out
		}
	case 2:
		return checkSweep(t, table, now)
	case 3:
		return checkFlush(t, table, port-1)
	default:
		if !h[who].Static {
			h[who] = seen(who, port, now)
		}
		return checkLearn(t, table, who, port, now)
	}
	return table
}

// check fails, unless each address is found where it was last, or is not found, and pinned ones always.
func (h history) check(t *testing.T, table api.Table, who, now int) {
	t.Helper()
	port, e := fdb.Find(table, who, now)
	last, isThere := h[who]
	isOld := isThere && !last.Static && now-last.Seen > table.Age
	switch {
	case e != api.OK:
		t.Errorf("Find(%v, %#x, %d): %d", table, who, now, e)
	case (!isThere || isOld) && port != -1:
		t.Errorf("%#x is found at %d, though it is forgotten: %v", who, port, table)
	case isThere && port != -1 && port != last.Port:
		t.Errorf("%#x is found at %d, though it was at %d last: %v", who, port, last.Port, table)
	case isThere && last.Static && port == -1:
		t.Errorf("%#x is not found, though it is pinned: %v", who, table)
	}
	if known, isThere := known(table, who); isThere && known != last {
		t.Errorf("%v is in the table, though %v was last", known, last)
	}
}

func TestWhatIsFoundIsWhereItWasLast(t *testing.T) { // P8.4
	c := chance(1)
	for round := range 300 {
		n, slots := bucketCounts[c.below(5)], 1+c.below(4)
		table, e := fdb.New(n, slots, 1+c.below(20))
		if e != api.OK {
			t.Fatal(e)
		}
		h, now := history{}, 0
		for range 60 {
			now += c.below(3)
			who := 0x020000000001 + c.below(4+round%20)
			table = h.step(t, &c, table, who, now)
			for a := range h {
				h.check(t, table, a, now)
			}
		}
	}
}

func TestWhoHasRoomIsFoundUntilItIsOld(t *testing.T) { // P8.2, P8.4
	c := chance(2)
	for _, n := range bucketCounts {
		for _, slots := range slotCounts {
			table, _ := fdb.New(n, slots, 6)
			last := map[int]api.Entry{}
			for now := range 100 {
				a := someOf(c.below(n), n, slots)[c.below(slots)]
				last[a] = seen(a, c.below(8), now)
				table = checkLearn(t, table, a, last[a].Port, now)
				for _, e := range last {
					want := e.Port
					if now > e.Seen+6 {
						want = -1
					}
					find(t, table, e.Mac, now, want, api.OK)
				}
				if now%7 == 0 {
					table = checkSweep(t, table, now)
				}
			}
		}
	}
}

func TestOfMoreThanHaveRoomThoseHeardLastStay(t *testing.T) { // P8.2
	c := chance(3)
	for _, slots := range slotCounts {
		var heard []int
		table, _ := fdb.New(1, slots, api.MaxAging)
		for now := range 200 {
			a := c.below(8)
			heard = append(slices.DeleteFunc(heard, func(o int) bool { return o == a }), a)
			table = checkLearn(t, table, a, a, now)
			want := slices.Clone(heard[max(0, len(heard)-slots):])
			slices.Reverse(want)
			if !slices.Equal(addresses(table), want) {
				t.Errorf("there are %v, want %v", addresses(table), want)
			}
		}
	}
}

// spoil writes over all that a table reaches.
func spoil(t api.Table) {
	for _, bucket := range t.Buckets {
		whole := bucket[:cap(bucket)]
		for i := range whole {
			whole[i] = seen(-9, -9, -9)
		}
	}
	for i := range t.Buckets[:cap(t.Buckets)] {
		t.Buckets[:cap(t.Buckets)][i] = nil
	}
}

// checkApart fails, unless an answer has memory of its own, and so has each of its buckets.
func checkApart(t *testing.T, table, out api.Table) {
	t.Helper()
	before, want := clone(table), clone(out)
	for place, bucket := range out.Buckets {
		_ = append(bucket, seen(-9, -9, -9))
		whole := bucket[:cap(bucket)]
		kept := slices.Clone(whole)
		for i := range whole {
			whole[i] = seen(-9, -9, -9)
		}
		for other := range out.Buckets {
			if other != place && !slices.Equal(out.Buckets[other], want.Buckets[other]) {
				t.Errorf("buckets %d and %d share memory", place, other)
			}
		}
		copy(whole, kept)
	}
	spoil(out)
	if !same(table, before) {
		t.Errorf("an answer shares memory with its argument: %v became %v", before, table)
	}
}

func TestAnswersAreNewMemory(t *testing.T) { // R1, R4
	for _, base := range []api.Table{filled(1, 4, 0, 0), filled(2, 3, 3, 2), filled(4, 4, 2, 3), filled(4, 4, 4, 15), filled(16, 4, 4, 5)} {
		table := clone(base)
		for place := range table.Buckets {
			table.Buckets[place] = append(make([]api.Entry, 0, 9), table.Buckets[place]...)
		}
		n := len(table.Buckets)
		made, _ := fdb.New(n, 4, 9)
		checkApart(t, table, made)
		for _, a := range someOf(n-1, n, 5) {
			checkApart(t, table, checkLearn(t, table, a, 2, 3))
			checkApart(t, table, checkPin(t, table, a, 2))
			checkApart(t, table, checkUnpin(t, table, a))
		}
		for _, now := range []int{0, 30, 40, api.MaxTime} {
			checkApart(t, table, checkSweep(t, table, now))
		}
		for port := -1; port < 8; port++ {
			checkApart(t, table, checkFlush(t, table, port))
		}
		if !same(table, base) {
			t.Errorf("%v became %v", base, table)
		}
	}
}

func TestManyAtOnceHearTheSame(t *testing.T) { // R1
	table := filled(8, 4, 4, 2)
	a := someOf(3, 8, 5)
	learned, swept := wantLearn(table, a[4], 6, 50), wantLeft(table, func(e api.Entry) bool { return !e.Static && e.Seen < 30 })
	var all sync.WaitGroup
	failed := make([]bool, 16)
	for i := range failed {
		all.Go(func() {
			for range 50 {
				b, e := fdb.Learn(table, a[4], 6, 50)
				c, f := fdb.Sweep(table, 50)
				failed[i] = failed[i] || e != api.OK || f != api.OK || !same(b, learned) || !same(c, swept)
			}
		})
	}
	all.Wait()
	if slices.Contains(failed, true) {
		t.Error("some heard otherwise")
	}
}

func isStation(a int) bool { return 0 <= a && a < 1<<48 && a>>40&1 == 0 }

func isTime(at int) bool { return 0 <= at && at <= 1<<40 }

func isPort(port int) bool { return 0 <= port && port <= 7 }

// wantRight says independently whether a table of one bucket may be.
func wantRight(t api.Table) bool {
	if t.Slots < 1 || t.Slots > 4 || t.Age < 1 || t.Age > 1<<20 || len(t.Buckets[0]) > t.Slots {
		return false
	}
	once := map[int]bool{}
	for _, e := range t.Buckets[0] {
		if once[e.Mac] || !isStation(e.Mac) || !isPort(e.Port) || !isTime(e.Seen) || e.Static && e.Seen != 0 {
			return false
		}
		once[e.Mac] = true
	}
	return true
}

func FuzzTwoEntries(f *testing.F) { // P8.1, P8.2, P8.3, P1
	f.Add(2, 300, 1, 2, 3, false, 4, 5, 0, true, 6, 7, 8)
	f.Add(2, 300, 1, 2, 3, false, 4, 5, 6, false, 6, 7, 304)
	f.Add(4, 1, 0, 0, 0, true, 1, 7, api.MaxTime, false, 0, 0, api.MaxTime)
	f.Add(1, 1, 0, 0, 0, true, 1, 7, api.MaxTime, false, 0, 0, api.MaxTime)
	f.Add(2, 300, 1, 2, 0, true, 4, 5, 0, true, 6, -1, 8)
	f.Add(2, 300, 1, 2, 3, true, 1, 5, -1, true, api.MaxMac, math.MaxInt, math.MinInt)
	f.Fuzz(func(t *testing.T, slots, age, a, port, at int, static bool, a2, port2, at2 int, static2 bool, who, by, now int) {
		table := one(slots, age, api.Entry{Mac: a, Port: port, Seen: at, Static: static}, api.Entry{Mac: a2, Port: port2, Seen: at2, Static: static2})
		if !wantRight(table) {
			checkWrong(t, table)
			return
		}
		if !fdb.Right(table) {
			t.Errorf("Right(%v) is false", table)
		}
		checkAllCalls(t, table, who, by, now)
	})
}

// checkAllCalls hands a right table and any numbers to each call.
func checkAllCalls(t *testing.T, table api.Table, who, by, now int) {
	t.Helper()
	switch {
	case !isStation(who) || !isTime(now):
		find(t, table, who, now, 0, api.ErrArg)
		learn(t, table, who, by, now, api.Table{}, api.ErrArg)
	case !isPort(by):
		checkFind(t, table, who, now)
		learn(t, table, who, by, now, api.Table{}, api.ErrArg)
	default:
		checkFind(t, table, who, now)
		checkLearn(t, table, who, by, now)
	}
	if isStation(who) && isPort(by) {
		checkPin(t, table, who, by)
	} else {
		pin(t, table, who, by, api.Table{}, api.ErrArg)
	}
	if isStation(who) {
		checkUnpin(t, table, who)
	} else {
		unpin(t, table, who, api.Table{}, api.ErrArg)
	}
	if isTime(now) {
		checkSweep(t, table, now)
	} else {
		sweep(t, table, now, api.Table{}, api.ErrArg)
	}
	if isPort(by) || by == -1 {
		checkFlush(t, table, by)
	} else {
		flush(t, table, by, api.Table{}, api.ErrArg)
	}
}
