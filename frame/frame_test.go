package frame_test

import (
	"math"
	"strings"
	"testing"

	"footway/api"
	"footway/frame"
)

const (
	someDst = 0x0a0b0c0d0e0f
	someSrc = 0x020406080a0c
)

var (
	groups = []int{0x010000000000, 0x01ffffffffff, 0x0380c2000000, 0x0180c1ffffff, 0x0180c2000010, 0xff0000000000, api.Broadcast}
	// reserved are of a class of their own, and are no source either.
	reserved    = []int{api.Reserved, api.Reserved + 1, api.Reserved + 14, api.Reserved + 15}
	unicasts    = []int{0, 1, 0x00ffffffffff, 0x0080c2000000, 0x020000000000, someSrc, 0x808080808080, 0xfe0000000000, 0xfeffffffffff}
	noAddresses = []int{-1, -2, -someSrc, api.MaxMac + 1, api.MaxMac + 2, 1<<48 | someSrc, 1 << 62, math.MaxInt, math.MinInt}
	types       = []int{0, 1, 0xff, 0x100, 0x0800, 0x7fff, 0x8000, api.Spanner, 0xff00, api.MaxType - 1, api.MaxType}
	noTypes     = []int{-1, -2, -api.MaxType, api.MaxType + 1, api.MaxType + 2, 1<<16 | 0x0800, math.MaxInt, math.MinInt}
)

// allData are of each length that may be, and of each byte.
func allData() []string {
	var all []string
	for n := range 101 {
		for _, unit := range []string{"\x00", "z", "\xff", "\u00e4\n"} {
			all = append(all, strings.Repeat(unit, n)[:n])
		}
	}
	for b := range 256 {
		all = append(all, string([]byte{byte(b)}), string([]byte{0, byte(b), 255}))
	}
	return all
}

// rightFrames vary each part by itself, and the three numbers together.
func rightFrames() []api.Frame {
	var all []api.Frame
	dsts := append(append(append([]int{someDst}, groups...), reserved...), unicasts...)
	for _, dst := range dsts {
		for _, src := range unicasts {
			for _, kind := range types {
				all = append(all, api.Frame{Dst: dst, Src: src, Type: kind, Data: "abc"}, api.Frame{Dst: dst, Src: src, Type: kind})
			}
		}
	}
	for kind := range 1 << 16 {
		all = append(all, api.Frame{Dst: someDst, Src: someSrc, Type: kind})
	}
	for _, data := range allData() {
		all = append(all, api.Frame{Dst: someDst, Src: someSrc, Type: 0x0800, Data: data})
	}
	return all
}

// wrongFrames have one part that may not be, or several.
func wrongFrames() []api.Frame {
	var all []api.Frame
	dsts, srcs, kinds, datas := []int{someDst}, []int{someSrc}, []int{0x0800}, []string{""}
	dsts = append(dsts, noAddresses...)
	srcs = append(append(append(srcs, noAddresses...), groups...), reserved...)
	kinds = append(kinds, noTypes...)
	for _, n := range []int{101, 102, 200, 1000, 70000} {
		datas = append(datas, strings.Repeat("d", n))
	}
	for i, dst := range dsts {
		for j, src := range srcs {
			for k, kind := range kinds {
				for l, data := range datas {
					if i+j+k+l > 0 {
						all = append(all, api.Frame{Dst: dst, Src: src, Type: kind, Data: data})
					}
				}
			}
		}
	}
	return all
}

// wantRaw says independently what a frame's bytes are.
func wantRaw(f api.Frame) string {
	var raw []byte
	for _, a := range []int{f.Dst, f.Src} {
		for _, power := range []int{40, 32, 24, 16, 8, 0} {
			raw = append(raw, byte(a/(1<<power)%256))
		}
	}
	return string(raw) + string([]byte{byte(f.Type / 256), byte(f.Type % 256)}) + f.Data
}

// wantClass says independently of which class the first six bytes are.
func wantClass(raw string) int {
	switch {
	case raw[:5] == "\x01\x80\xc2\x00\x00" && raw[5] < 16:
		return api.CReserved
	case raw[0]%2 == 1:
		return api.CGroup
	}
	return api.CUnicast
}

// checkRefused fails, unless Parse and Kind tell that error and zero values beside it.
func checkRefused(t *testing.T, raw string, want api.Errno) {
	t.Helper()
	if f, e := frame.Parse(raw); f != (api.Frame{}) || e != want {
		t.Errorf("Parse(%q) = %+v, %d, want %d", raw, f, e, want)
	}
	if k, e := frame.Kind(raw); k != 0 || e != want {
		t.Errorf("Kind(%q) = %d, %d, want %d", raw, k, e, want)
	}
}

func TestRightFramesAreTold(t *testing.T) { // P2.1
	for _, f := range rightFrames() {
		if !frame.Right(f) {
			t.Errorf("Right(%+v) is false", f)
		}
		if raw, e := frame.Print(f); raw != wantRaw(f) || e != api.OK {
			t.Errorf("Print(%+v) = %q, %d", f, raw, e)
		}
		if n, e := frame.Size(f); n != 14+len(f.Data) || e != api.OK {
			t.Errorf("Size(%+v) = %d, %d", f, n, e)
		}
	}
}

func TestPrintPutsTheHigherByteFirst(t *testing.T) { // P2.1
	f := api.Frame{Dst: 0x010203040506, Src: 0x0a0b0c0d0e0f, Type: 0x1122, Data: "hi"}
	if raw, e := frame.Print(f); raw != "\x01\x02\x03\x04\x05\x06\x0a\x0b\x0c\x0d\x0e\x0f\x11\x22hi" || e != api.OK {
		t.Errorf("Print = %q, %d", raw, e)
	}
	if n, e := frame.Size(f); n != 16 || e != api.OK {
		t.Errorf("Size = %d, %d", n, e)
	}
}

func TestSizesAtTheirEdges(t *testing.T) { // P2.1
	for n, want := range map[int]int{0: 14, 1: 15, 99: 113, 100: 114} {
		f := api.Frame{Data: strings.Repeat("x", n)}
		if size, e := frame.Size(f); size != want || e != api.OK {
			t.Errorf("Size of %d bytes of data = %d, %d, want %d", n, size, e, want)
		}
	}
}

func TestWrongFramesAreRefusedWithZeroValues(t *testing.T) { // P2.1, P1, R2
	for _, f := range wrongFrames() {
		if frame.Right(f) {
			t.Errorf("Right(%+v) is true", f)
		}
		if raw, e := frame.Print(f); raw != "" || e != api.ErrArg {
			t.Errorf("Print(%+v) = %q, %d", f, raw, e)
		}
		if n, e := frame.Size(f); n != 0 || e != api.ErrArg {
			t.Errorf("Size(%+v) = %d, %d", f, n, e)
		}
	}
}

func TestParseOfRightBytes(t *testing.T) { // P2.2
	raw := "\x01\x02\x03\x04\x05\x06\x0a\x0b\x0c\x0d\x0e\x0f\x11\x22hi\x00\xff"
	want := api.Frame{Dst: 0x010203040506, Src: 0x0a0b0c0d0e0f, Type: 0x1122, Data: "hi\x00\xff"}
	if f, e := frame.Parse(raw); f != want || e != api.OK {
		t.Errorf("Parse = %+v, %d", f, e)
	}
	if f, e := frame.Parse(raw[:14]); f.Data != "" || f.Type != 0x1122 || e != api.OK {
		t.Errorf("Parse without data = %+v, %d", f, e)
	}
	for _, f := range rightFrames() {
		if g, e := frame.Parse(wantRaw(f)); g != f || e != api.OK {
			t.Errorf("Parse(%q) = %+v, %d", wantRaw(f), g, e)
		}
	}
}

func TestParseLooksAtTheLengthFirst(t *testing.T) { // P2.2, P1, R2
	for _, seventh := range []string{"\x02", "\x03", "\x01\x80\xc2\x00\x00\x05"} {
		long := someBytes("\x00\x11\x22\x33\x44\x55"+seventh, 300)
		for n := range len(long) {
			switch {
			case n < 14:
				checkRefused(t, long[:n], api.ErrShort)
			case n > 114:
				checkRefused(t, long[:n], api.ErrLong)
			case seventh != "\x02":
				checkRefused(t, long[:n], api.ErrWord)
			default:
				if f, e := frame.Parse(long[:n]); e != api.OK || f.Data != long[14:n] {
					t.Errorf("Parse(%q) = %+v, %d", long[:n], f, e)
				}
				if k, e := frame.Kind(long[:n]); k != api.CUnicast || e != api.OK {
					t.Errorf("Kind(%q) = %d, %d", long[:n], k, e)
				}
			}
		}
	}
}

// someBytes begin as told, and are so many.
func someBytes(begin string, n int) string {
	raw := []byte(begin)
	for i := len(raw); i < n; i++ {
		raw = append(raw, byte(i*7))
	}
	return string(raw)
}

func TestLengthsFarAway(t *testing.T) { // P2.2, P1
	checkRefused(t, "", api.ErrShort)
	checkRefused(t, strings.Repeat("\x00", 1<<16+14), api.ErrLong)
	checkRefused(t, strings.Repeat("\xff", 1<<20), api.ErrLong)
}

func TestSourcesOfOtherClassesAreRefused(t *testing.T) { // P2.2
	for _, srcs := range [][]int{groups, reserved} {
		for _, src := range srcs {
			for _, data := range []string{"", "x", strings.Repeat("y", 100)} {
				checkRefused(t, wantRaw(api.Frame{Dst: someDst, Src: src, Type: 0x0800, Data: data}), api.ErrWord)
			}
		}
	}
}

func TestAnyByteAtAnyPlace(t *testing.T) { // P2.2, P2.3
	for _, base := range []string{strings.Repeat("\x00", 14), strings.Repeat("\xfe", 20), "\x01\x80\xc2\x00\x00\x00\x02\x80\xc2\x00\x00\x00\x80\x42" + strings.Repeat("\xff", 100)} {
		for place := range len(base) {
			for b := range 256 {
				text := []byte(base)
				text[place] = byte(b)
				raw := string(text)
				if raw[6]%2 == 1 {
					checkRefused(t, raw, api.ErrWord)
					continue
				}
				f, e := frame.Parse(raw)
				if e != api.OK || wantRaw(f) != raw {
					t.Errorf("Parse(%q) = %+v, %d", raw, f, e)
				}
				if k, e := frame.Kind(raw); k != wantClass(raw) || e != api.OK {
					t.Errorf("Kind(%q) = %d, %d", raw, k, e)
				}
			}
		}
	}
}

func TestKindIsThatOfDst(t *testing.T) { // P2.2
	for class, dsts := range map[int][]int{api.CUnicast: unicasts, api.CGroup: groups, api.CReserved: reserved} {
		for _, dst := range dsts {
			raw := wantRaw(api.Frame{Dst: dst, Src: someSrc, Type: api.Spanner, Data: "k"})
			if k, e := frame.Kind(raw); k != class || e != api.OK {
				t.Errorf("Kind(%q) = %d, %d, want %d", raw, k, e, class)
			}
		}
	}
}

func TestWhatIsPrintedIsParsedAsItWas(t *testing.T) { // P2.3
	for _, f := range rightFrames() {
		raw, _ := frame.Print(f)
		if g, e := frame.Parse(raw); g != f || e != api.OK {
			t.Errorf("Parse(Print(%+v)) = %+v, %d", f, g, e)
		}
	}
}

func TestWhatIsParsedIsPrintedAsItWas(t *testing.T) { // P2.3
	for n := 14; n <= 114; n++ {
		for first := range 256 {
			raw := someBytes(string([]byte{byte(first), 1, 2, 3, 4, 5, byte(first) &^ 1}), n)
			f, e := frame.Parse(raw)
			if e != api.OK {
				t.Errorf("Parse(%q): %d", raw, e)
			}
			if again, e := frame.Print(f); again != raw || e != api.OK {
				t.Errorf("Print(Parse(%q)) = %q, %d", raw, again, e)
			}
			if size, e := frame.Size(f); size != n || e != api.OK {
				t.Errorf("Size(Parse(%q)) = %d, %d", raw, size, e)
			}
		}
	}
}

func FuzzBytesAreReadAndToldAgain(f *testing.F) { // P2.2, P2.3, P1
	for _, raw := range []string{"", "thirteen byte", "\x00\x00\x00\x00\x00\x00\x03\x00\x00\x00\x00\x00\x00\x00", someBytes("", 14), someBytes("", 114), someBytes("", 115)} {
		f.Add(raw)
	}
	f.Fuzz(func(t *testing.T, raw string) {
		switch {
		case len(raw) < 14:
			checkRefused(t, raw, api.ErrShort)
		case len(raw) > 114:
			checkRefused(t, raw, api.ErrLong)
		case raw[6]%2 == 1:
			checkRefused(t, raw, api.ErrWord)
		default:
			g, e := frame.Parse(raw)
			if e != api.OK || wantRaw(g) != raw || !frame.Right(g) {
				t.Errorf("Parse(%q) = %+v, %d", raw, g, e)
			}
			if again, e := frame.Print(g); again != raw || e != api.OK {
				t.Errorf("Print(Parse(%q)) = %q, %d", raw, again, e)
			}
			if k, e := frame.Kind(raw); k != wantClass(raw) || e != api.OK {
				t.Errorf("Kind(%q) = %d, %d", raw, k, e)
			}
		}
	})
}

func FuzzFramesAreToldOrRefused(f *testing.F) { // P2.1, P2.3, P1
	f.Add(someDst, someSrc, 0x0800, "data")
	f.Add(-1, api.Reserved, api.MaxType+1, strings.Repeat("x", 101))
	f.Fuzz(func(t *testing.T, dst, src, kind int, data string) {
		g := api.Frame{Dst: dst, Src: src, Type: kind, Data: data}
		right := 0 <= dst && dst < 1<<48 && 0 <= src && src < 1<<48 && src>>40%2 == 0 && 0 <= kind && kind < 1<<16 && len(data) <= 100
		if frame.Right(g) != right {
			t.Errorf("Right(%+v) is %v", g, !right)
		}
		want, wantErr := "", api.ErrArg
		if right {
			want, wantErr = wantRaw(g), api.OK
		}
		if raw, e := frame.Print(g); raw != want || e != wantErr {
			t.Errorf("Print(%+v) = %q, %d", g, raw, e)
		}
		if n, e := frame.Size(g); n != len(want) || e != wantErr {
			t.Errorf("Size(%+v) = %d, %d", g, n, e)
		}
		if h, e := frame.Parse(want); right && (h != g || e != api.OK) {
			t.Errorf("Parse(Print(%+v)) = %+v, %d", g, h, e)
		}
	})
}
