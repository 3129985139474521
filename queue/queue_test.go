package queue_test

import (
	"math"
	"slices"
	"strconv"
	"strings"
	"sync"
	"testing"

	"footway/api"
	"footway/queue"
)

var (
	caps    = []int{1, 2, 3, 7, 16, 31, 32}
	noCaps  = []int{0, -1, -32, 33, 34, 64, 255, 256, 1<<32 | 1, 1 << 62, math.MaxInt, math.MinInt}
	losts   = []int{0, 1, 2, 999967, 999968, 999969, 999998, 999999, 1000000}
	noLosts = []int{-1, -2, -1000000, 1000001, 1000002, 2000000, 1<<32 | 3, math.MaxInt, math.MinInt}

	// items are of bytes that may be; each of them is another one.
	items = []string{"", "a", "b", "\x00", "\xff\x00", "not a frame", text(13), text(14), text(100), text(113), text(114)}
	// noItems are too long.
	noItems = []string{text(115), text(116), text(128), text(255), text(256 + 14), text(1 << 16)}
)

func text(length int) string {
	return strings.Repeat("\x80z", length)[:length]
}

// many tells that many items, each another one; the longest ones among them.
func many(count int) []string {
	l := []string{}
	for i := range count {
		number := strconv.Itoa(i)
		l = append(l, number+text((i*71)%(115-len(number))))
	}
	return l
}

func of(room, lost int, items ...string) api.Queue {
	return api.Queue{Cap: room, Items: items, Lost: lost}
}

// queues are of all rooms, as full as may be, with the edges of what was lost.
func queues() []api.Queue {
	all := []api.Queue{
		of(1, 0), {Cap: 1, Items: []string{}}, {Cap: 2, Items: make([]string, 0, 5)},
		of(32, 0, slices.Repeat([]string{text(114)}, 32)...), of(32, 1000000, make([]string, 32)...),
		of(3, 5, "a", "a", "a"), of(len(items), 7, items...),
	}
	for room := 1; room <= 32; room++ {
		for count := range room + 1 {
			all = append(all, of(room, losts[(room+count)%len(losts)], many(count)...))
		}
	}
	for _, lost := range losts {
		all = append(all, of(1, lost), of(1, lost, "x"), of(32, lost, many(32)...), of(32, lost, many(31)...))
	}
	return all
}

// noQueues each have one fault, or some.
func noQueues() []api.Queue {
	all := []api.Queue{{}, {Items: []string{"a"}}, {Lost: 1}}
	for _, room := range noCaps {
		all = append(all, of(room, 0), of(room, 0, "a"), of(room, 1000000, many(31)...), of(room, -1, text(115)))
	}
	for _, lost := range noLosts {
		all = append(all, of(1, lost), of(1, lost, "a"), of(32, lost, many(32)...), of(9, lost, many(4)...))
	}
	for _, room := range caps {
		for _, count := range []int{room + 1, room + 2, 2*room + 1, 33, 64, 1000} {
			all = append(all, of(room, 0, many(count)...), of(room, 0, make([]string, count)...))
		}
		for place := range room {
			for _, long := range noItems {
				l := many(room)
				l[place] = long
				all = append(all, of(room, 0, l...), of(room, 9, l[:place+1]...))
			}
		}
	}
	return all
}

func clone(q api.Queue) api.Queue {
	q.Items = slices.Clone(q.Items)
	return q
}

func same(a, b api.Queue) bool {
	return a.Cap == b.Cap && a.Lost == b.Lost && slices.Equal(a.Items, b.Items)
}

// lostOf says independently how many were lost, if some more are.
func lostOf(lost, more int) int {
	for range more {
		if lost < 1000000 {
			lost++
		}
	}
	return lost
}

func checkNew(t *testing.T, n int, want api.Queue, wantErr api.Errno) {
	t.Helper()
	if q, e := queue.New(n); !same(q, want) || e != wantErr {
		t.Errorf("New(%d) = %#v, %d, want %#v, %d", n, q, e, want, wantErr)
	}
}

func checkKept(t *testing.T, name string, q, before api.Queue) {
	t.Helper()
	if !same(q, before) {
		t.Errorf("%s changed %#v to %#v", name, before, q)
	}
}

func push(t *testing.T, q api.Queue, s string, want api.Queue, wantIn bool, wantErr api.Errno) api.Queue {
	t.Helper()
	before := clone(q)
	out, isIn, e := queue.Push(q, s)
	if !same(out, want) || isIn != wantIn || e != wantErr {
		t.Errorf("Push(%#v, %q) = %#v, %t, %d, want %#v, %t, %d", q, s, out, isIn, e, want, wantIn, wantErr)
	}
	checkKept(t, "Push", q, before)
	return out
}

func pop(t *testing.T, q, want api.Queue, wantItem string, wantErr api.Errno) api.Queue {
	t.Helper()
	before := clone(q)
	out, item, e := queue.Pop(q)
	if !same(out, want) || item != wantItem || e != wantErr {
		t.Errorf("Pop(%#v) = %#v, %q, %d, want %#v, %q, %d", q, out, item, e, want, wantItem, wantErr)
	}
	checkKept(t, "Pop", q, before)
	return out
}

func empty(t *testing.T, q, want api.Queue, wantCount int, wantErr api.Errno) api.Queue {
	t.Helper()
	before := clone(q)
	out, count, e := queue.Clear(q)
	if !same(out, want) || count != wantCount || e != wantErr {
		t.Errorf("Clear(%#v) = %#v, %d, %d, want %#v, %d, %d", q, out, count, e, want, wantCount, wantErr)
	}
	checkKept(t, "Clear", q, before)
	return out
}

// checkPush fails, unless Push tells what the document asks of a queue and an item that may be; it answers that.
func checkPush(t *testing.T, q api.Queue, s string) api.Queue {
	t.Helper()
	if len(q.Items) == q.Cap {
		return push(t, q, s, of(q.Cap, lostOf(q.Lost, 1), q.Items...), false, api.OK)
	}
	return push(t, q, s, of(q.Cap, q.Lost, slices.Concat(q.Items, []string{s})...), true, api.OK)
}

func checkPop(t *testing.T, q api.Queue) api.Queue {
	t.Helper()
	if len(q.Items) == 0 {
		return pop(t, q, api.Queue{}, "", api.ErrNone)
	}
	return pop(t, q, of(q.Cap, q.Lost, q.Items[1:]...), q.Items[0], api.OK)
}

func checkClear(t *testing.T, q api.Queue) api.Queue {
	t.Helper()
	return empty(t, q, of(q.Cap, lostOf(q.Lost, len(q.Items))), len(q.Items), api.OK)
}

// checkWrong fails, unless all calls refuse a queue, whatever else they are handed.
func checkWrong(t *testing.T, q api.Queue) {
	t.Helper()
	if queue.Right(q) {
		t.Errorf("Right(%#v) is true", q)
	}
	for _, s := range []string{"", "a", text(114), text(115)} {
		push(t, q, s, api.Queue{}, false, api.ErrArg)
	}
	pop(t, q, api.Queue{}, "", api.ErrArg)
	empty(t, q, api.Queue{}, 0, api.ErrArg)
}

func TestRight(t *testing.T) { // P9.1, R3
	for _, q := range queues() {
		before := clone(q)
		if !queue.Right(q) {
			t.Errorf("Right(%#v) is false", q)
		}
		checkKept(t, "Right", q, before)
	}
}

func TestWhatIsNoQueue(t *testing.T) { // P9.1, R2, P1
	for _, q := range noQueues() {
		checkWrong(t, q)
	}
}

func TestNew(t *testing.T) { // P9.1, R2
	for room := 1; room <= 32; room++ {
		checkNew(t, room, of(room, 0), api.OK)
		if q, _ := queue.New(room); !queue.Right(q) {
			t.Errorf("New(%d) is no queue: %#v", room, q)
		}
	}
	for _, room := range noCaps {
		checkNew(t, room, api.Queue{}, api.ErrSize)
	}
}

func TestPush(t *testing.T) { // P9.2, R3
	for _, q := range queues() {
		for _, s := range items {
			if out := checkPush(t, q, s); !queue.Right(out) {
				t.Errorf("Push(%#v, %q) is no queue: %#v", q, s, out)
			}
		}
	}
}

func TestPushOfTooManyBytes(t *testing.T) { // P9.2, R2
	for _, q := range queues() {
		for _, s := range noItems {
			push(t, q, s, api.Queue{}, false, api.ErrArg)
		}
	}
}

func TestPop(t *testing.T) { // P9.2, R2, R3
	for _, q := range queues() {
		out := checkPop(t, q)
		if len(q.Items) > 0 && !queue.Right(out) {
			t.Errorf("Pop(%#v) is no queue: %#v", q, out)
		}
	}
}

func TestClear(t *testing.T) { // P9.2, R3
	for _, q := range queues() {
		if out := checkClear(t, q); !queue.Right(out) {
			t.Errorf("Clear(%#v) is no queue: %#v", q, out)
		}
	}
}

func TestExample(t *testing.T) { // the chapter's table
	q, e := queue.New(1)
	if e != api.OK {
		t.Fatal(e)
	}
	q = push(t, q, "a", of(1, 0, "a"), true, api.OK)
	q = push(t, q, "b", of(1, 1, "a"), false, api.OK)
	q = pop(t, q, of(1, 1), "a", api.OK)
	pop(t, q, api.Queue{}, "", api.ErrNone)
	q = push(t, q, "c", of(1, 1, "c"), true, api.OK)
	q = empty(t, q, of(1, 2), 1, api.OK)
	empty(t, q, of(1, 2), 0, api.OK)
}

func TestNoMoreThanAMillionAreLost(t *testing.T) { // P9.2
	push(t, of(1, 999998, "a"), "b", of(1, 999999, "a"), false, api.OK)
	push(t, of(1, 999999, "a"), "b", of(1, 1000000, "a"), false, api.OK)
	push(t, of(1, 1000000, "a"), "b", of(1, 1000000, "a"), false, api.OK)
	push(t, of(2, 1000000, "a"), "b", of(2, 1000000, "a", "b"), true, api.OK)
	empty(t, of(3, 999997, "a", "b", "c"), of(3, 1000000), 3, api.OK)
	empty(t, of(3, 999998, "a", "b", "c"), of(3, 1000000), 3, api.OK)
	empty(t, of(3, 1000000, "a", "b", "c"), of(3, 1000000), 3, api.OK)
	empty(t, of(3, 1000000), of(3, 1000000), 0, api.OK)
	pop(t, of(3, 1000000, "a"), of(3, 1000000), "a", api.OK)
}

func TestWhatIsPoppedWasPushed(t *testing.T) { // P9.3
	for _, room := range caps {
		for _, count := range []int{0, 1, 2, room - 1, room, room + 1, 3 * room, 100} {
			q, e := queue.New(room)
			if e != api.OK {
				t.Fatal(e)
			}
			l := many(count)
			for _, s := range l {
				q = checkPush(t, q, s)
			}
			in := min(count, room)
			if q.Lost != count-in {
				t.Errorf("%d lost of %d in a room of %d", q.Lost, count, room)
			}
			for _, s := range l[:in] {
				q = pop(t, q, of(room, q.Lost, q.Items[1:]...), s, api.OK)
			}
			pop(t, q, api.Queue{}, "", api.ErrNone)
		}
	}
}

// chance tells numbers that are always the same ones.
type chance uint64

func (c *chance) below(n int) int {
	*c = *c*6364136223846793005 + 1442695040888963407
	return int(*c>>33) % n
}

// book says independently what becomes of whatever is pushed: it waits, or was popped, or is lost.
type book struct {
	waiting, popped []string
	lost            int
}

func (b *book) push(s string, room int) bool {
	if len(b.waiting) == room {
		b.lost++
		return false
	}
	b.waiting = append(b.waiting, s)
	return true
}

func (b *book) pop() string {
	first := b.waiting[0]
	b.waiting, b.popped = b.waiting[1:], append(b.popped, first)
	return first
}

func (b *book) clear() int {
	count := len(b.waiting)
	b.waiting, b.lost = nil, b.lost+count
	return count
}

// step does one of all calls by chance, and fails, unless the book has the same.
func step(t *testing.T, c *chance, b *book, q api.Queue, s string) api.Queue {
	t.Helper()
	switch kind := c.below(20); {
	case kind < 11:
		isIn := b.push(s, q.Cap)
		return push(t, q, s, of(q.Cap, b.lost, b.waiting...), isIn, api.OK)
	case kind < 19 && len(b.waiting) > 0:
		first := b.pop()
		return pop(t, q, of(q.Cap, b.lost, b.waiting...), first, api.OK)
	case kind < 19:
		pop(t, q, api.Queue{}, "", api.ErrNone)
		return q
	}
	count := b.clear()
	return empty(t, q, of(q.Cap, b.lost), count, api.OK)
}

func TestManyCallsOneAfterTheOther(t *testing.T) { // P9.2, P9.3
	c := chance(1)
	for _, room := range caps {
		q, e := queue.New(room)
		if e != api.OK {
			t.Fatal(e)
		}
		var b book
		pushed := 0
		for i := range 600 {
			before := b.lost + len(b.popped) + len(b.waiting)
			q = step(t, &c, &b, q, strconv.Itoa(i))
			pushed += b.lost + len(b.popped) + len(b.waiting) - before
			if len(b.popped)+len(q.Items)+q.Lost != pushed {
				t.Fatalf("%d were pushed, %d popped, %d wait, and %d are lost", pushed, len(b.popped), len(q.Items), q.Lost)
			}
		}
		if len(b.popped) == 0 || b.lost == 0 {
			t.Errorf("room %d: nothing was popped, or nothing lost", room)
		}
	}
}

// spoil writes over all that a queue reaches.
func spoil(q api.Queue) {
	whole := q.Items[:cap(q.Items)]
	for i := range whole {
		whole[i] = "spoilt"
	}
}

func TestWhatIsAnsweredIsNewMemory(t *testing.T) { // R4
	base := many(32)
	before := slices.Clone(base)
	for _, room := range caps {
		for count := range room + 1 {
			q := of(room, 0, base[:count]...)
			spoil(checkPush(t, q, "one more"))
			spoil(checkPop(t, q))
			spoil(checkClear(t, q))
			if !slices.Equal(base, before) {
				t.Fatalf("%q became %q", before, base)
			}
		}
	}
}

func TestManyAtOnceHearTheSame(t *testing.T) { // R1
	q, full := of(32, 3, many(31)...), of(32, 3, many(32)...)
	var all sync.WaitGroup
	failed := make([]bool, 16)
	for i := range failed {
		all.Go(func() {
			for range 50 {
				pushed, isIn, e := queue.Push(q, text(i))
				refused, isNotIn, f := queue.Push(full, text(i))
				popped, first, g := queue.Pop(q)
				cleared, count, h := queue.Clear(q)
				isSame := same(pushed, of(32, 3, append(many(31), text(i))...)) && isIn && !isNotIn &&
					same(refused, of(32, 4, many(32)...)) && first == q.Items[0] &&
					same(popped, of(32, 3, many(31)[1:]...)) && same(cleared, of(32, 34)) && count == 31
				failed[i] = failed[i] || !isSame || e != api.OK || f != api.OK || g != api.OK || h != api.OK
			}
		})
	}
	all.Wait()
	if slices.Contains(failed, true) {
		t.Error("some heard otherwise")
	}
}

func FuzzAllCalls(f *testing.F) { // P9.1, P9.2, P1
	f.Add(1, 0, "", "a")
	f.Add(3, 1000000, "a|b|c", "d")
	f.Add(32, 999999, strings.Repeat("|", 31), text(114))
	f.Add(33, -1, text(115), text(115))
	f.Add(math.MinInt, math.MaxInt, "|", "")
	f.Fuzz(func(t *testing.T, room, lost int, raw, s string) {
		q := of(room, lost, strings.Split(raw, "|")...)
		isQueue := room > 0 && room < 33 && len(q.Items) <= room && lost >= 0 && lost < 1000001
		for _, item := range q.Items {
			isQueue = isQueue && len(item) < 115
		}
		if !isQueue {
			checkWrong(t, q)
			return
		}
		if !queue.Right(q) {
			t.Errorf("Right(%#v) is false", q)
		}
		if len(s) > 114 {
			push(t, q, s, api.Queue{}, false, api.ErrArg)
		} else {
			checkPush(t, q, s)
		}
		checkPop(t, q)
		checkClear(t, q)
	})
}
