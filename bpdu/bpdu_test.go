package bpdu_test

import (
	"encoding/binary"
	"fmt"
	"math"
	"strings"
	"sync"
	"testing"

	"footway/api"
	"footway/bpdu"
	"footway/frame"
)

var (
	ids    = []int{0, 1, 2, 0xff, 0x100, 0x1234, 0x7fff, 0x8000, 0xff00, api.MaxID - 1, api.MaxID}
	costs  = []int{0, 1, 0xff, 0x100, 0xffff, 0x10000, 0x12345678, 0x7f000000, api.MaxCost - 1, api.MaxCost}
	ports  = []int{0, 1, 2, 3, 4, 5, 6, 7}
	ages   = []int{0, 1, 5, 127, 128, 254, api.MaxAge}
	noIDs  = []int{-1, -2, -api.MaxID, api.MaxID + 1, api.MaxID + 2, 1<<16 | 3, 1<<32 | 3, math.MaxInt, math.MinInt}
	noCost = []int{-1, -2, -api.MaxCost, api.MaxCost + 1, api.MaxCost + 2, math.MaxUint32, 1<<32 | 2, math.MaxInt, math.MinInt}
	noPort = []int{-1, -8, api.MaxPorts, api.MaxPorts + 1, 255, 256, 256 | 4, math.MaxInt, math.MinInt}
	noAges = []int{-1, -255, api.MaxAge + 1, api.MaxAge + 2, 256 | 5, 1 << 32, math.MaxInt, math.MinInt}
)

// example is that of the chapter.
var example = config(1, 2, 3, 4, 5)

const exampleData = "\x00\x00\x01\x00\x00\x00\x02\x00\x03\x04\x05\xf1"

func config(root, cost, bridge, port, age int) api.Config {
	return api.Config{Vec: api.Vec{Root: root, Cost: cost, Bridge: bridge, Port: port}, Age: age}
}

// rightConfigs are all that the edges of the parts give together.
func rightConfigs() []api.Config {
	all := []api.Config{example, {}}
	for _, root := range ids {
		for _, cost := range costs {
			for _, bridge := range ids {
				for _, age := range ages {
					for _, port := range ports {
						all = append(all, config(root, cost, bridge, port, age))
					}
				}
			}
		}
	}
	return all
}

// fewConfigs are spread over all, where each is tried in many ways.
func fewConfigs() []api.Config {
	return []api.Config{
		example, {},
		config(api.MaxID, api.MaxCost, api.MaxID, 7, api.MaxAge),
		config(0x1234, 0x12345678, 0x9abc, 6, 0xde),
		config(0xff00, 0x00ff00ff, 0x00ff, 0, 128),
	}
}

// wrongConfigs have one part that may not be, or several.
func wrongConfigs() []api.Config {
	var all []api.Config
	for i, root := range append([]int{1}, noIDs...) {
		for j, cost := range append([]int{2}, noCost...) {
			for k, bridge := range append([]int{3}, noIDs...) {
				for l, port := range append([]int{4}, noPort...) {
					for m, age := range append([]int{5}, noAges...) {
						if i+j+k+l+m > 0 {
							all = append(all, config(root, cost, bridge, port, age))
						}
					}
				}
			}
		}
	}
	return all
}

// mended has its last byte so that all are a multiple of 256.
func mended(data string) string {
	b, total := []byte(data), 0
	for _, x := range b[:len(b)-1] {
		total += int(x)
	}
	b[len(b)-1] = byte((256 - total%256) % 256)
	return string(b)
}

// wantData says independently what a config's bytes are.
func wantData(c api.Config) string {
	b := []byte{0}
	b = binary.BigEndian.AppendUint16(b, uint16(c.Vec.Root))
	b = binary.BigEndian.AppendUint32(b, uint32(c.Vec.Cost))
	b = binary.BigEndian.AppendUint16(b, uint16(c.Vec.Bridge))
	b = append(b, byte(c.Vec.Port), byte(c.Age), 0)
	return mended(string(b))
}

// wantConfig says independently which config bytes are.
func wantConfig(data string) (api.Config, api.Errno) {
	switch {
	case len(data) < 12:
		return api.Config{}, api.ErrShort
	case len(data) > 12:
		return api.Config{}, api.ErrLong
	case mended(data) != data:
		return api.Config{}, api.ErrChar
	case data[0] != 0, data[3] >= 128, data[9] >= 8:
		return api.Config{}, api.ErrWord
	}
	b := []byte(data)
	root, bridge := int(binary.BigEndian.Uint16(b[1:])), int(binary.BigEndian.Uint16(b[7:]))
	return config(root, int(binary.BigEndian.Uint32(b[3:])), bridge, int(b[9]), int(b[10])), api.OK
}

// rawWith is a frame's bytes, none of which have to be those of a config.
func rawWith(dst, src, kind int, data string) string {
	var b []byte
	b = append(b, binary.BigEndian.AppendUint64(nil, uint64(dst))[2:]...)
	b = append(b, binary.BigEndian.AppendUint64(nil, uint64(src))[2:]...)
	return string(binary.BigEndian.AppendUint16(b, uint16(kind))) + data
}

// wantRaw says independently what the bytes of a config's frame are.
func wantRaw(c api.Config) string {
	return rawWith(0x0180c2000000, 0x020000010000+c.Vec.Bridge, 0x8042, wantData(c))
}

// wantUnwrapped says independently what is read of a frame's bytes.
func wantUnwrapped(raw string) (api.Config, api.Errno) {
	switch {
	case len(raw) < 14:
		return api.Config{}, api.ErrShort
	case len(raw) > 114:
		return api.Config{}, api.ErrLong
	case raw[6]%2 == 1, raw[:6] != "\x01\x80\xc2\x00\x00\x00", raw[12:14] != "\x80\x42":
		return api.Config{}, api.ErrWord
	}
	c, e := wantConfig(raw[14:])
	if e == api.OK && raw[6:12] != "\x02\x00\x00\x01"+raw[21:23] {
		return api.Config{}, api.ErrWord
	}
	return c, e
}

func checkParse(t *testing.T, data string, want api.Config, wantErr api.Errno) {
	t.Helper()
	if c, e := bpdu.Parse(data); c != want || e != wantErr {
		t.Errorf("Parse(%q) = %+v, %d, want %+v, %d", data, c, e, want, wantErr)
	}
}

func checkUnwrap(t *testing.T, raw string, want api.Config, wantErr api.Errno) {
	t.Helper()
	if c, e := bpdu.Unwrap(raw); c != want || e != wantErr {
		t.Errorf("Unwrap(%q) = %+v, %d, want %+v, %d", raw, c, e, want, wantErr)
	}
}

func TestExample(t *testing.T) { // P3.1
	if data, e := bpdu.Print(example); data != exampleData || e != api.OK {
		t.Errorf("Print = %q, %d", data, e)
	}
	checkParse(t, exampleData, example, api.OK)
}

func TestRightConfigsAreTold(t *testing.T) { // P3.1, P3.3
	for _, c := range rightConfigs() {
		if !bpdu.Right(c) {
			t.Errorf("Right(%+v) is false", c)
		}
		data, e := bpdu.Print(c)
		if data != wantData(c) || e != api.OK {
			t.Errorf("Print(%+v) = %q, %d", c, data, e)
		}
		checkParse(t, data, c, api.OK)
	}
}

func TestWrongConfigsAreRefusedWithZeroValues(t *testing.T) { // P3.1, P3.2, P1, R2
	for _, c := range wrongConfigs() {
		if bpdu.Right(c) {
			t.Errorf("Right(%+v) is true", c)
		}
		if data, e := bpdu.Print(c); data != "" || e != api.ErrArg {
			t.Errorf("Print(%+v) = %q, %d", c, data, e)
		}
		if raw, e := bpdu.Wrap(c); raw != "" || e != api.ErrArg {
			t.Errorf("Wrap(%+v) = %q, %d", c, raw, e)
		}
	}
}

func TestPrintPutsTheHighestByteFirst(t *testing.T) { // P3.1
	data, e := bpdu.Print(config(0x0102, 0x03040506, 0x0708, 7, 0x0a))
	if data != "\x00\x01\x02\x03\x04\x05\x06\x07\x08\x07\x0a\xcb" || e != api.OK {
		t.Errorf("Print = %q, %d", data, e)
	}
}

func TestTheLastByteAtItsEdges(t *testing.T) { // P3.1
	for _, c := range []struct {
		config api.Config
		last   byte
	}{
		{config(0, 0, 0, 0, 0), 0},
		{config(0, 0, 0, 0, 1), 255},
		{config(0, 0, 0, 0, 255), 1},
		{config(0, 0, 0, 1, 255), 0},
		{config(0, 0, 0, 2, 255), 255},
		{config(0xffff, 0x7fffffff, 0xffff, 7, 255), 0x82},
	} {
		if data, e := bpdu.Print(c.config); e != api.OK || len(data) != 12 || data[11] != c.last {
			t.Errorf("Print(%+v) = %q, %d, want %#x last", c.config, data, e, c.last)
		}
	}
}

func TestParseLooksAtTheLengthFirst(t *testing.T) { // P3.1, P1, R2
	for n := range 60 {
		for _, unit := range []string{"\x00", "\x01", "\xff", exampleData, "\xff" + exampleData[:11]} {
			data := strings.Repeat(unit, n)[:n]
			switch {
			case n < 12:
				checkParse(t, data, api.Config{}, api.ErrShort)
			case n > 12:
				checkParse(t, data, api.Config{}, api.ErrLong)
			}
		}
	}
	checkParse(t, strings.Repeat("\x00", 1<<20), api.Config{}, api.ErrLong)
	checkParse(t, exampleData[:11], api.Config{}, api.ErrShort)
	checkParse(t, exampleData+"\x00", api.Config{}, api.ErrLong)
}

func TestParseRefusesBytesOfNoConfig(t *testing.T) { // P3.1
	for _, data := range []string{
		"\x01" + exampleData[1:],
		"\xff" + exampleData[1:],
		exampleData[:3] + "\x80" + exampleData[4:],
		exampleData[:3] + "\xff\xff\xff\xff" + exampleData[7:],
		exampleData[:9] + "\x08" + exampleData[10:],
		exampleData[:9] + "\xff" + exampleData[10:],
		"\x01" + exampleData[1:3] + "\x80" + exampleData[4:9] + "\x80" + exampleData[10:],
	} {
		checkParse(t, mended(data), api.Config{}, api.ErrWord)
	}
}

func TestParseLooksAtTheSumAheadOfTheWords(t *testing.T) { // P3.1, P1, R2
	for _, data := range []string{
		"\x01" + exampleData[1:],
		exampleData[:3] + "\x80" + exampleData[4:],
		exampleData[:9] + "\x08" + exampleData[10:],
		"\xff\xff\xff\xff\xff\xff\xff\xff\xff\xff\xff\xff",
		"\x00\x00\x00\x00\x00\x00\x00\x00\x00\x00\x00\x01",
	} {
		checkParse(t, data, api.Config{}, api.ErrChar)
	}
}

func TestParseWithAnyByteAtAnyPlace(t *testing.T) { // P3.1, P3.3
	for _, c := range fewConfigs() {
		right := wantData(c)
		for place := range len(right) {
			for b := range 256 {
				text := []byte(right)
				text[place] = byte(b)
				data := string(text)
				if data != right {
					checkParse(t, data, api.Config{}, api.ErrChar)
				}
				want, wantErr := wantConfig(mended(data))
				checkParse(t, mended(data), want, wantErr)
			}
		}
	}
}

func TestWhatIsParsedIsPrintedAsItWas(t *testing.T) { // P3.3
	for i := range 1 << 16 {
		root, cost, bridge := i, i*0x7fff&api.MaxCost, i*0x9e37&api.MaxID
		raw := wantData(config(root, cost, bridge, i%8, i%256))
		c, e := bpdu.Parse(raw)
		if e != api.OK {
			t.Errorf("Parse(%q): %d", raw, e)
		}
		if again, e := bpdu.Print(c); again != raw || e != api.OK {
			t.Errorf("Print(Parse(%q)) = %q, %d", raw, again, e)
		}
	}
}

func TestWrapOfTheExample(t *testing.T) { // P3.2
	want := "\x01\x80\xc2\x00\x00\x00" + "\x02\x00\x00\x01\x00\x03" + "\x80\x42" + exampleData
	if raw, e := bpdu.Wrap(example); raw != want || e != api.OK {
		t.Errorf("Wrap = %q, %d", raw, e)
	}
	checkUnwrap(t, want, example, api.OK)
	f, e := frame.Parse(want)
	if e != api.OK || f != (api.Frame{Dst: api.Reserved, Src: 0x020000010003, Type: api.Spanner, Data: exampleData}) {
		t.Errorf("its frame is %+v, %d", f, e)
	}
}

func TestWhatIsWrappedIsUnwrappedAsItWas(t *testing.T) { // P3.2, P3.3
	for _, c := range rightConfigs() {
		raw, e := bpdu.Wrap(c)
		if raw != wantRaw(c) || e != api.OK {
			t.Errorf("Wrap(%+v) = %q, %d", c, raw, e)
		}
		checkUnwrap(t, raw, c, api.OK)
	}
}

func TestBridgesAddressesAtTheirEdges(t *testing.T) { // P3.2
	for bridge, src := range map[int]string{
		0:         "\x02\x00\x00\x01\x00\x00",
		1:         "\x02\x00\x00\x01\x00\x01",
		0x0100:    "\x02\x00\x00\x01\x01\x00",
		0xfffe:    "\x02\x00\x00\x01\xff\xfe",
		api.MaxID: "\x02\x00\x00\x01\xff\xff",
	} {
		raw, e := bpdu.Wrap(config(9, 8, bridge, 7, 6))
		if e != api.OK || len(raw) != 26 || raw[6:12] != src {
			t.Errorf("Wrap by bridge %#x = %q, %d", bridge, raw, e)
		}
	}
}

func TestUnwrapTellsTheFramesErrorFirst(t *testing.T) { // P3.2, P1, R2
	const wrong = "\x00\x11\x22\x33\x44\x55\x03\x00\x00\x00\x00\x00\x08\x00"
	for n := range 300 {
		for _, begin := range []string{wantRaw(example), wrong} {
			raw := begin
			for len(raw) < n {
				raw += exampleData
			}
			want, wantErr := wantUnwrapped(raw[:n])
			checkUnwrap(t, raw[:n], want, wantErr)
			if n < 14 && wantErr != api.ErrShort || n > 114 && wantErr != api.ErrLong {
				t.Errorf("of %d bytes the test wants %d", n, wantErr)
			}
		}
	}
	checkUnwrap(t, rawWith(api.Reserved, 0x030000010003, api.Spanner, exampleData), api.Config{}, api.ErrWord)
	checkUnwrap(t, rawWith(api.Reserved, api.Reserved, api.Spanner, exampleData[:11]), api.Config{}, api.ErrWord)
}

func TestUnwrapRefusesOtherFrames(t *testing.T) { // P3.2
	const src = 0x020000010003
	for _, dst := range []int{0, 1, src, api.Reserved - 1, api.Reserved + 1, api.Reserved + 15, api.Reserved + 16, api.Broadcast} {
		checkUnwrap(t, rawWith(dst, src, api.Spanner, exampleData), api.Config{}, api.ErrWord)
	}
	for _, kind := range []int{0, 1, 0x0042, 0x8000, 0x4280, api.Spanner - 1, api.Spanner + 1, api.MaxType} {
		checkUnwrap(t, rawWith(api.Reserved, src, kind, exampleData), api.Config{}, api.ErrWord)
	}
	for _, other := range []int{0, 3, src - 1, src + 1, src + 1<<16, src - 1<<16, src | 0xff00, src | 1<<40, 0xfeffffffffff} {
		checkUnwrap(t, rawWith(api.Reserved, other, api.Spanner, exampleData), api.Config{}, api.ErrWord)
	}
}

func TestUnwrapTellsTheErrorOfData(t *testing.T) { // P3.2
	const src = 0x020000010003
	for data, want := range map[string]api.Errno{
		"":                               api.ErrShort,
		exampleData[:11]:                 api.ErrShort,
		exampleData + "\x00":             api.ErrLong,
		strings.Repeat("\x00", 100):      api.ErrLong,
		exampleData[:11] + "\xf2":        api.ErrChar,
		"\x01" + exampleData[1:]:         api.ErrChar,
		mended("\x01" + exampleData[1:]): api.ErrWord,
		mended("\x00\x00\x01\xff" + exampleData[4:]): api.ErrWord,
	} {
		checkUnwrap(t, rawWith(api.Reserved, src, api.Spanner, data), api.Config{}, want)
	}
}

func TestUnwrapFindsErrorsInTheirOrder(t *testing.T) { // P3.2, P1, R2
	const src, other = 0x020000010003, 0x020000010004
	bad := map[string]api.Errno{
		exampleData[:11]:                 api.ErrShort,
		exampleData + "\x00":             api.ErrLong,
		exampleData[:11] + "\xf2":        api.ErrChar,
		mended("\x01" + exampleData[1:]): api.ErrWord,
	}
	for data, e := range bad {
		for _, by := range []int{src, other} {
			checkUnwrap(t, rawWith(api.Reserved, by, api.Spanner, data), api.Config{}, e)
			checkUnwrap(t, rawWith(api.Reserved+1, by, api.Spanner, data), api.Config{}, api.ErrWord)
			checkUnwrap(t, rawWith(api.Reserved, by, 0x0800, data), api.Config{}, api.ErrWord)
			checkUnwrap(t, rawWith(api.Broadcast, by, 0x0800, data), api.Config{}, api.ErrWord)
		}
	}
	checkUnwrap(t, rawWith(0, api.Reserved, 0x0800, strings.Repeat("\xff", 101)), api.Config{}, api.ErrLong)
	checkUnwrap(t, rawWith(0, api.Reserved, 0x0800, "")[:13], api.Config{}, api.ErrShort)
}

func TestAFrameWithAnotherByteIsNotRead(t *testing.T) { // P3.3, P3.2
	for _, c := range fewConfigs() {
		right := wantRaw(c)
		for place := range len(right) {
			want := api.ErrWord
			if place >= 14 {
				want = api.ErrChar
			}
			for change := 1; change < 256; change++ {
				raw := []byte(right)
				raw[place] ^= byte(change)
				checkUnwrap(t, string(raw), api.Config{}, want)
			}
		}
	}
}

func TestUnwrapOfOthersThatAreMended(t *testing.T) { // P3.2
	for _, c := range fewConfigs() {
		for place := range 12 {
			for b := range 256 {
				data := []byte(wantData(c))
				data[place] = byte(b)
				for _, bridge := range []int{c.Vec.Bridge, int(binary.BigEndian.Uint16(data[7:]))} {
					raw := rawWith(api.Reserved, 0x020000010000+bridge, api.Spanner, mended(string(data)))
					want, wantErr := wantUnwrapped(raw)
					checkUnwrap(t, raw, want, wantErr)
				}
			}
		}
	}
}

func TestManyAtOnceHearTheSame(t *testing.T) { // P3.1, P3.2, R1
	var all sync.WaitGroup
	failed := make([]string, 32)
	for i := range failed {
		all.Add(1)
		go func() {
			defer all.Done()
			for n := range 200 {
				c := config(i*n, i+n, n, n%8, i)
				raw, e := bpdu.Wrap(c)
				if got, f := bpdu.Unwrap(raw); raw != wantRaw(c) || got != c || e != api.OK || f != api.OK {
					failed[i] = fmt.Sprintf("Wrap(%+v) = %q, %d; Unwrap = %+v, %d", c, raw, e, got, f)
				}
			}
		}()
	}
	all.Wait()
	for _, f := range failed {
		if f != "" {
			t.Error(f)
		}
	}
}

func FuzzDataIsReadAndToldAgain(f *testing.F) { // P3.1, P3.3, P1
	for _, data := range []string{"", exampleData, exampleData[:11], exampleData + "\x00", "\xff" + exampleData[1:]} {
		f.Add(data)
	}
	f.Fuzz(func(t *testing.T, data string) {
		all := []string{data}
		if len(data) == 12 {
			all = append(all, mended(data))
		}
		for _, d := range all {
			want, wantErr := wantConfig(d)
			checkParse(t, d, want, wantErr)
			if again, e := bpdu.Print(want); wantErr == api.OK && (again != d || e != api.OK) {
				t.Errorf("Print(Parse(%q)) = %q, %d", d, again, e)
			}
		}
	})
}

func FuzzFramesAreReadAndToldAgain(f *testing.F) { // P3.2, P3.3, P1
	for _, raw := range []string{"", wantRaw(example), wantRaw(example)[:25], wantRaw(example) + "\x00", rawWith(api.Reserved, 3, 0x0800, exampleData), strings.Repeat("\xff", 115)} {
		f.Add(raw)
	}
	f.Fuzz(func(t *testing.T, raw string) {
		want, wantErr := wantUnwrapped(raw)
		checkUnwrap(t, raw, want, wantErr)
		if again, e := bpdu.Wrap(want); wantErr == api.OK && (again != raw || e != api.OK) {
			t.Errorf("Wrap(Unwrap(%q)) = %q, %d", raw, again, e)
		}
	})
}

func FuzzConfigsAreToldOrRefused(f *testing.F) { // P3.1, P3.2, P3.3, P1
	f.Add(1, 2, 3, 4, 5)
	f.Add(api.MaxID+1, -1, math.MinInt, 8, math.MaxInt)
	f.Fuzz(func(t *testing.T, root, cost, bridge, port, age int) {
		c := config(root, cost, bridge, port, age)
		right := root == int(uint16(root)) && 0 <= cost && cost == int(int32(cost)) && bridge == int(uint16(bridge)) && port == port&7 && age == int(uint8(age))
		if bpdu.Right(c) != right {
			t.Errorf("Right(%+v) is %v", c, !right)
		}
		wantText, wantFrame, wantErr := "", "", api.ErrArg
		if right {
			wantText, wantFrame, wantErr = wantData(c), wantRaw(c), api.OK
		}
		if data, e := bpdu.Print(c); data != wantText || e != wantErr {
			t.Errorf("Print(%+v) = %q, %d", c, data, e)
		}
		if raw, e := bpdu.Wrap(c); raw != wantFrame || e != wantErr {
			t.Errorf("Wrap(%+v) = %q, %d", c, raw, e)
		}
		if right {
			checkParse(t, wantText, c, api.OK)
			checkUnwrap(t, wantFrame, c, api.OK)
		}
	})
}
