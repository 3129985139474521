package hash_test

import (
	"encoding/binary"
	"hash/fnv"
	"math"
	"math/big"
	"slices"
	"sync"
	"testing"

	"footway/api"
	"footway/hash"
)

var (
	bucketCounts   = []int{1, 2, 4, 8, 16}
	noBucketCounts = []int{
		0, 3, 5, 6, 7, 9, 10, 11, 12, 13, 14, 15, 17, 18, 20, 24, 31, 32, 64, 128, 256,
		-1, -2, -3, -4, -8, -16, -32, 1 << 16, 1 << 32, 1<<32 | 1, 1<<32 | 16, 1 << 62, math.MaxInt, math.MinInt + 1, math.MinInt,
	}
	noAddresses = []int{-1, -2, -api.Reserved, api.MaxMac + 1, api.MaxMac + 2, api.MaxMac + 1 + api.Reserved, 1 << 62, math.MaxInt, math.MinInt}
)

// addresses are the edges, each single bit, and each byte at each place.
func addresses() []int {
	all := []int{
		0, 1, api.MaxMac - 1, api.MaxMac, api.Broadcast,
		api.Reserved - 1, api.Reserved, api.Reserved + 15, api.Reserved + 16,
		0x020000000001, 0x020000010003, 0x010203040506, 0xfedcba987654, 0x0123456789ab,
	}
	for bit := range 48 {
		all = append(all, 1<<bit, api.MaxMac^1<<bit)
	}
	for place := range 6 {
		for b := range 256 {
			all = append(all, b<<(8*place), 0x5a5a5a5a5a5a&^(255<<(8*place))|b<<(8*place))
		}
	}
	return all
}

// some tells that many addresses that are spread over all; a few stand there twice.
func some(count int) []int {
	l := []int{}
	for i := range count {
		l = append(l, (i-i%7/6)*0x3b9aca07*101&api.MaxMac)
	}
	return l
}

// lists are of all sizes, with the edges among them.
func lists() [][]int {
	all := [][]int{nil, {}, make([]int, 0, 4), {0}, {api.MaxMac}, {0, api.MaxMac}, {5, 5}, {5, 6, 5}, addresses(), slices.Repeat([]int{3}, 100)}
	for count := range 70 {
		all = append(all, some(count))
	}
	return append(all, some(1000), some(1001), some(1002), some(1003))
}

// wantSum says independently what an address's sum is, as the document words it.
func wantSum(a int) int {
	sum := 2166136261
	for _, power := range []int{40, 32, 24, 16, 8, 0} {
		sum = (sum ^ a/(1<<power)%256) * 16777619 % (1 << 32)
	}
	return sum
}

// wantSpread says independently how many fall into each bucket: of each one, all are looked at.
func wantSpread(l []int, n int) []int {
	var counts []int
	for bucket := range n {
		count := 0
		for _, a := range l {
			if wantSum(a)%n == bucket {
				count++
			}
		}
		counts = append(counts, count)
	}
	return counts
}

// total is how many are in all buckets together.
func total(counts []int) int {
	sum := 0
	for _, count := range counts {
		sum += count
	}
	return sum
}

// checkSpread fails, unless Spread and Crowd tell what the document asks of addresses and a number of buckets; it answers the former.
func checkSpread(t *testing.T, l []int, n int) []int {
	t.Helper()
	before := slices.Clone(l)
	want := wantSpread(l, n)
	counts, e := hash.Spread(l, n)
	if !slices.Equal(counts, want) || e != api.OK {
		t.Errorf("Spread(%v, %d) = %v, %d, want %v", l, n, counts, e, want)
	}
	if most, e := hash.Crowd(l, n); most != slices.Max(want) || e != api.OK {
		t.Errorf("Crowd(%v, %d) = %d, %d, want %d", l, n, most, e, slices.Max(want))
	}
	if !slices.Equal(l, before) {
		t.Errorf("%v became %v", before, l)
	}
	return counts
}

func checkSpreadRefused(t *testing.T, l []int, n int, wantErr api.Errno) {
	t.Helper()
	if counts, e := hash.Spread(l, n); len(counts) != 0 || e != wantErr {
		t.Errorf("Spread(%v, %d) = %v, %d, want %d", l, n, counts, e, wantErr)
	}
	if most, e := hash.Crowd(l, n); most != 0 || e != wantErr {
		t.Errorf("Crowd(%v, %d) = %d, %d, want %d", l, n, most, e, wantErr)
	}
}

func checkBucket(t *testing.T, a, n, want int, wantErr api.Errno) {
	t.Helper()
	if bucket, e := hash.Bucket(a, n); bucket != want || e != wantErr {
		t.Errorf("Bucket(%#x, %d) = %d, %d, want %d, %d", a, n, bucket, e, want, wantErr)
	}
}

func TestExample(t *testing.T) { // P7.1
	modulus := big.NewInt(1 << 32)
	want := new(big.Int).Exp(big.NewInt(16777619), big.NewInt(6), nil)
	want.Mul(want, big.NewInt(2166136261)).Mod(want, modulus)
	if sum, e := hash.Sum(0); int64(sum) != want.Int64() || e != api.OK {
		t.Errorf("Sum(0) = %d, %d, want %s", sum, e, want)
	}
}

func TestSumsThatAreKnown(t *testing.T) { // P7.1
	for a, want := range map[int]int{
		0x666f6f626172: 0xbf9cf968, // "foobar", whose sum is well known
		0:              0x7f77879d,
		1:              0x7e77860a,
		api.MaxMac:     0xc4f2886f,
		0x010203040506: 0x03d252aa,
		0x060504030201: 0x21c97fd0,
	} {
		if sum, e := hash.Sum(a); sum != want || e != api.OK {
			t.Errorf("Sum(%#x) = %#x, %d, want %#x", a, sum, e, want)
		}
	}
}

func TestSumIsThatOfTheSixBytesInOrder(t *testing.T) { // P7.1
	for _, a := range addresses() {
		h := fnv.New32a()
		h.Write(binary.BigEndian.AppendUint64(nil, uint64(a))[2:])
		sum, e := hash.Sum(a)
		if sum != int(h.Sum32()) || sum != wantSum(a) || e != api.OK {
			t.Errorf("Sum(%#x) = %#x, %d, want %#x", a, sum, e, h.Sum32())
		}
		if sum < 0 || sum > math.MaxUint32 {
			t.Errorf("Sum(%#x) = %#x is not of 32 bits", a, sum)
		}
	}
}

func TestSumsReachAllBits(t *testing.T) { // P7.1
	always, ever := math.MaxUint32, 0
	for _, a := range addresses() {
		sum, e := hash.Sum(a)
		if e != api.OK {
			t.Errorf("Sum(%#x): %d", a, e)
		}
		always, ever = always&sum, ever|sum
	}
	if always != 0 || ever != math.MaxUint32 {
		t.Errorf("of all sums, %#x is there always, and %#x at times", always, ever)
	}
}

func TestNoAddressHasASum(t *testing.T) { // P7.1, R2
	for _, a := range noAddresses {
		if sum, e := hash.Sum(a); sum != 0 || e != api.ErrArg {
			t.Errorf("Sum(%#x) = %#x, %d", a, sum, e)
		}
	}
}

func TestBucketIsTheSumsRemainder(t *testing.T) { // P7.1
	for _, n := range bucketCounts {
		isThere := make([]bool, n)
		for _, a := range addresses() {
			want := wantSum(a) % n
			checkBucket(t, a, n, want, api.OK)
			isThere[want] = true
		}
		if slices.Contains(isThere, false) {
			t.Errorf("of %d buckets one stays empty: %v", n, isThere)
		}
	}
	checkBucket(t, 0x666f6f626172, 1, 0, api.OK)
	checkBucket(t, 0x666f6f626172, 2, 0, api.OK)
	checkBucket(t, 0x666f6f626172, 4, 0, api.OK)
	checkBucket(t, 0x666f6f626172, 8, 0, api.OK)
	checkBucket(t, 0x666f6f626172, api.MaxBuckets, 8, api.OK)
}

func TestNumbersOfBuckets(t *testing.T) { // P7.1, P7.2
	for n := -300; n <= 300; n++ {
		if slices.Contains(bucketCounts, n) {
			checkBucket(t, 7, n, wantSum(7)%n, api.OK)
			checkSpread(t, []int{7}, n)
			continue
		}
		checkBucket(t, 7, n, 0, api.ErrSize)
		checkSpreadRefused(t, []int{7}, n, api.ErrSize)
	}
	for bit := range 64 {
		if n := 1 << bit; n > api.MaxBuckets || n < 0 {
			checkBucket(t, 7, n, 0, api.ErrSize)
			checkSpreadRefused(t, []int{7}, n, api.ErrSize)
		}
	}
}

func TestNoNumberOfBucketsIsRefusedWithZeroValues(t *testing.T) { // P7.1, P7.2, R2
	for _, n := range noBucketCounts {
		for _, a := range addresses() {
			checkBucket(t, a, n, 0, api.ErrSize)
		}
		for _, l := range lists() {
			checkSpreadRefused(t, l, n, api.ErrSize)
		}
	}
}

func TestNoAddressFallsIntoABucket(t *testing.T) { // P7.1, P7.2, R2
	for _, n := range bucketCounts {
		for _, a := range noAddresses {
			checkBucket(t, a, n, 0, api.ErrArg)
			checkSpreadRefused(t, []int{a}, n, api.ErrArg)
			checkSpreadRefused(t, []int{a, a}, n, api.ErrArg)
		}
		checkSpreadRefused(t, noAddresses, n, api.ErrArg)
	}
}

func TestOneThatIsNoAddressAtAnyPlace(t *testing.T) { // P7.2
	for _, count := range []int{1, 2, 3, 4, 5, 16, 17, 64} {
		for place := range count {
			for _, a := range noAddresses {
				l := some(count)
				l[place] = a
				checkSpreadRefused(t, l, 4, api.ErrArg)
			}
		}
	}
}

func TestTheNumberOfBucketsIsLookedAtFirst(t *testing.T) { // P7.1, P7.2, P1
	for _, n := range noBucketCounts {
		for _, a := range noAddresses {
			checkBucket(t, a, n, 0, api.ErrSize)
			checkSpreadRefused(t, []int{a}, n, api.ErrSize)
			checkSpreadRefused(t, []int{1, a, 2}, n, api.ErrSize)
		}
	}
}

func TestSpreadAndCrowd(t *testing.T) { // P7.2, P7.3
	for _, l := range lists() {
		for _, n := range bucketCounts {
			counts := checkSpread(t, l, n)
			if len(counts) != n || total(counts) != len(l) {
				t.Errorf("%v are not in %d buckets: %v", l, n, counts)
			}
		}
	}
}

func TestSpreadOfNone(t *testing.T) { // P7.2, R3
	for _, l := range [][]int{nil, {}} {
		for _, n := range bucketCounts {
			if counts, e := hash.Spread(l, n); !slices.Equal(counts, make([]int, n)) || e != api.OK {
				t.Errorf("Spread(%v, %d) = %v, %d", l, n, counts, e)
			}
			if most, e := hash.Crowd(l, n); most != 0 || e != api.OK {
				t.Errorf("Crowd(%v, %d) = %d, %d", l, n, most, e)
			}
		}
	}
}

func TestEachIsCountedAsOftenAsItIsThere(t *testing.T) { // P7.2
	for _, a := range []int{0, 1, 0x666f6f626172, api.Reserved, api.MaxMac} {
		for _, n := range bucketCounts {
			for _, times := range []int{1, 2, 3, 4, 5, 7, 8, 9, 100, 1001} {
				want := make([]int, n)
				want[wantSum(a)%n] = times
				l := slices.Repeat([]int{a}, times)
				if counts, e := hash.Spread(l, n); !slices.Equal(counts, want) || e != api.OK {
					t.Errorf("Spread of %d times %#x, %d = %v, %d", times, a, n, counts, e)
				}
				if most, e := hash.Crowd(l, n); most != times || e != api.OK {
					t.Errorf("Crowd of %d times %#x, %d = %d, %d", times, a, n, most, e)
				}
			}
		}
	}
}

// oneEach tells an address of each of n buckets, in order.
func oneEach(n int) []int {
	l := make([]int, n)
	for a := range 1000 {
		l[wantSum(a)%n] = a
	}
	return l
}

func TestCrowdIsTheFullestWhereverItIs(t *testing.T) { // P7.2
	for _, n := range bucketCounts {
		each := oneEach(n)
		for bucket, a := range each {
			if most, e := hash.Crowd(append(slices.Clone(each), a, a), n); most != 3 || e != api.OK {
				t.Errorf("Crowd is %d, %d, where bucket %d of %d has three", most, e, bucket, n)
			}
		}
		if most, e := hash.Crowd(each, n); most != 1 || e != api.OK {
			t.Errorf("Crowd is %d, %d, where each of %d has one", most, e, n)
		}
	}
}

func TestMany(t *testing.T) { // P7.2, P7.3
	for _, count := range []int{1 << 16, 1<<16 + 1, 1<<17 - 1} {
		l := some(count)
		for _, n := range bucketCounts {
			checkSpread(t, l, n)
		}
	}
}

func TestWithHalfAsManyBucketsTwoFallIntoOne(t *testing.T) { // P7.3
	for _, l := range lists() {
		for _, n := range bucketCounts[1:] {
			whole, half := checkSpread(t, l, n), checkSpread(t, l, n/2)
			for bucket, count := range half {
				if count != whole[bucket]+whole[bucket+n/2] {
					t.Errorf("%v: %v in %d buckets, %v in half as many", l, whole, n, half)
				}
			}
		}
	}
	for _, a := range addresses() {
		for _, n := range bucketCounts[1:] {
			whole, e := hash.Bucket(a, n)
			half, f := hash.Bucket(a, n/2)
			if whole%(n/2) != half || e != api.OK || f != api.OK {
				t.Errorf("%#x is in %d of %d, and in %d of half as many", a, whole, n, half)
			}
		}
	}
}

func TestAllThatAreSpreadAreInTheirBuckets(t *testing.T) { // P7.2, P7.3
	for _, l := range lists() {
		for _, n := range bucketCounts {
			counts := checkSpread(t, l, n)
			for _, a := range l {
				bucket, e := hash.Bucket(a, n)
				if e != api.OK {
					t.Errorf("Bucket(%#x, %d): %d", a, n, e)
				}
				counts[bucket]--
			}
			if !slices.Equal(counts, make([]int, n)) {
				t.Errorf("%v are in other ones of %d buckets, apart by %v", l, n, counts)
			}
		}
	}
}

func TestTheOrderOfAddressesMakesNoDifference(t *testing.T) { // P7.2
	for _, l := range lists() {
		turned := slices.Clone(l)
		slices.Reverse(turned)
		sorted := slices.Sorted(slices.Values(l))
		for _, n := range bucketCounts {
			want := checkSpread(t, l, n)
			if !slices.Equal(checkSpread(t, turned, n), want) || !slices.Equal(checkSpread(t, sorted, n), want) {
				t.Errorf("%v are spread over %d otherwise in another order", l, n)
			}
		}
	}
}

func TestWhatIsAnsweredIsNewMemory(t *testing.T) { // R1, R4
	base := some(64)
	before := slices.Clone(base)
	for length := range 20 {
		for _, n := range bucketCounts {
			counts := checkSpread(t, base[:length], n)
			whole := counts[:cap(counts)]
			for i := range whole {
				whole[i] = -9
			}
			checkSpread(t, base[:length], n)
		}
	}
	if !slices.Equal(base, before) {
		t.Errorf("%v became %v", before, base)
	}
}

func TestNobodyCountsAnyMoreWhenItIsAnswered(t *testing.T) { // R1
	l := some(1000)
	for range 200 {
		counts := checkSpread(t, l, 4)
		// Who counted still would find what is no address, or be found by the race detector.
		for i := range l {
			l[i] = -1
		}
		clear(counts)
		if !slices.Equal(counts, make([]int, 4)) {
			t.Fatalf("they still count: %v", counts)
		}
		copy(l, some(1000))
	}
}

func TestManyAtOnceHearTheSame(t *testing.T) { // R1
	l := some(1003)
	want := wantSpread(l, api.MaxBuckets)
	var all sync.WaitGroup
	failed := make([]bool, 16)
	for i := range failed {
		all.Go(func() {
			for range 50 {
				counts, e := hash.Spread(l, api.MaxBuckets)
				most, f := hash.Crowd(l, api.MaxBuckets)
				sum, g := hash.Sum(l[i])
				isSame := slices.Equal(counts, want) && most == slices.Max(want) && sum == wantSum(l[i])
				failed[i] = failed[i] || !isSame || e != api.OK || f != api.OK || g != api.OK
			}
		})
	}
	all.Wait()
	if slices.Contains(failed, true) {
		t.Error("some heard otherwise")
	}
}

func FuzzOneAddress(f *testing.F) { // P7.1, P1
	f.Add(0, 1)
	f.Add(api.MaxMac, 16)
	f.Add(-1, 3)
	f.Add(math.MinInt, math.MinInt)
	f.Fuzz(func(t *testing.T, a, n int) {
		isAddress := 0 <= a && a < 1<<48
		want, wantErr := 0, api.ErrArg
		if isAddress {
			want, wantErr = wantSum(a), api.OK
		}
		if sum, e := hash.Sum(a); sum != want || e != wantErr {
			t.Errorf("Sum(%#x) = %#x, %d", a, sum, e)
		}
		switch {
		case !slices.Contains(bucketCounts, n):
			checkBucket(t, a, n, 0, api.ErrSize)
		case !isAddress:
			checkBucket(t, a, n, 0, api.ErrArg)
		default:
			checkBucket(t, a, n, want%n, api.OK)
		}
	})
}

func FuzzManyAddresses(f *testing.F) { // P7.2, P7.3, P1
	f.Add([]byte("sixsixsixsix"), 8, 0)
	f.Add([]byte{}, 1, -1)
	f.Add([]byte("four, and more"), 5, math.MaxInt)
	f.Fuzz(func(t *testing.T, raw []byte, n, last int) {
		l := []int{}
		for part := range slices.Chunk(raw, 6) {
			a := 0
			for _, b := range part {
				a = a<<8 | int(b)
			}
			l = append(l, a)
		}
		l = append(l, last)
		switch {
		case !slices.Contains(bucketCounts, n):
			checkSpreadRefused(t, l, n, api.ErrSize)
		case last < 0 || last > api.MaxMac:
			checkSpreadRefused(t, l, n, api.ErrArg)
		default:
			checkSpread(t, l, n)
		}
	})
}
