package mac_test

import (
	"fmt"
	"math"
	"strconv"
	"strings"
	"sync"
	"testing"

	"footway/api"
	"footway/mac"
)

// addresses are the edges, each single bit, each byte at each place, and some that are spread over all.
func addresses() []int {
	all := []int{
		0, 1, api.MaxMac - 1, api.MaxMac, api.Broadcast,
		api.Reserved - 1, api.Reserved, api.Reserved + 1, api.Reserved + 14, api.Reserved + 15, api.Reserved + 16,
		0x020000000001, 0x010203040506, 0xfedcba987654, 0x0123456789ab,
	}
	for bit := range 48 {
		all = append(all, 1<<bit, api.MaxMac^1<<bit)
	}
	for place := range 6 {
		for b := range 256 {
			all = append(all, b<<(8*place), 0x5a5a5a5a5a5a&^(255<<(8*place))|b<<(8*place))
		}
	}
	for a := 0; a <= api.MaxMac; a += 0x3b9aca07 * 101 {
		all = append(all, a)
	}
	return all
}

var noAddresses = []int{-1, -2, api.MaxMac + 1, api.MaxMac + 2, api.MaxMac + 1 + api.Reserved, -api.Reserved, 1 << 62, math.MaxInt, math.MinInt}

// wantText and wantBytes say independently what an address's text and bytes are.
func wantText(a int) string {
	b := wantBytes(a)
	return fmt.Sprintf("%02x:%02x:%02x:%02x:%02x:%02x", b[0], b[1], b[2], b[3], b[4], b[5])
}

func wantBytes(a int) string {
	var b []byte
	for _, power := range []int{40, 32, 24, 16, 8, 0} {
		b = append(b, byte(a/(1<<power)%256))
	}
	return string(b)
}

func TestRightTellsAddresses(t *testing.T) { // P1.1
	for _, a := range addresses() {
		if !mac.Right(a) {
			t.Errorf("Right(%#x) is false", a)
		}
	}
	for _, a := range noAddresses {
		if mac.Right(a) {
			t.Errorf("Right(%#x) is true", a)
		}
	}
}

func TestNoAddressIsRefusedWithZeroValues(t *testing.T) { // P1.1, R2
	for _, a := range noAddresses {
		if k, e := mac.Class(a); k != 0 || e != api.ErrArg {
			t.Errorf("Class(%#x) = %d, %d", a, k, e)
		}
		if b, e := mac.Bytes(a); b != "" || e != api.ErrArg {
			t.Errorf("Bytes(%#x) = %q, %d", a, b, e)
		}
		if s, e := mac.Print(a); s != "" || e != api.ErrArg {
			t.Errorf("Print(%#x) = %q, %d", a, s, e)
		}
	}
}

func TestClassAtItsEdges(t *testing.T) { // P1.1
	for _, c := range []struct{ a, want int }{
		{0, api.CUnicast},
		{0x020000000001, api.CUnicast},
		{0x00ffffffffff, api.CUnicast},
		{0x010000000000, api.CGroup},
		{0x01ffffffffff, api.CGroup},
		{0x020000000000, api.CUnicast},
		{0xfeffffffffff, api.CUnicast},
		{0xff0000000000, api.CGroup},
		{api.Broadcast, api.CGroup},
		{0x0180c1ffffff, api.CGroup},
		{0x0180c2000000, api.CReserved},
		{0x0180c200000f, api.CReserved},
		{0x0180c2000010, api.CGroup},
		{0x0080c2000000, api.CUnicast},
		{0x0380c2000000, api.CGroup},
		{0x0180c2000100, api.CGroup},
	} {
		if k, e := mac.Class(c.a); k != c.want || e != api.OK {
			t.Errorf("Class(%#x) = %d, %d, want %d", c.a, k, e, c.want)
		}
	}
}

func TestClassHangsOnTheFirstByte(t *testing.T) { // P1.1
	for first := range 256 {
		want := api.CUnicast
		if first%2 == 1 {
			want = api.CGroup
		}
		for _, rest := range []int{0, 1, 0x0100000000, 0xffffffffff} {
			if k, e := mac.Class(first<<40 + rest); k != want || e != api.OK {
				t.Errorf("Class(%#x) = %d, %d, want %d", first<<40+rest, k, e, want)
			}
		}
	}
}

func TestReservedAddressesAreOfAGroup(t *testing.T) { // P1.3
	for a := api.Reserved; a <= 0x0180c200000f; a++ {
		if k, e := mac.Class(a); k != api.CReserved || e != api.OK {
			t.Errorf("Class(%#x) = %d, %d", a, k, e)
		}
		if b, e := mac.Bytes(a); e != api.OK || b[0]%2 != 1 {
			t.Errorf("Bytes(%#x) = %q, %d: not of a group", a, b, e)
		}
	}
}

func TestBytesAndPrint(t *testing.T) { // P1.1
	for _, a := range addresses() {
		if b, e := mac.Bytes(a); b != wantBytes(a) || e != api.OK {
			t.Errorf("Bytes(%#x) = %q, %d", a, b, e)
		}
		if s, e := mac.Print(a); s != wantText(a) || e != api.OK {
			t.Errorf("Print(%#x) = %q, %d", a, s, e)
		}
	}
}

func TestExamples(t *testing.T) { // P1.1, P1.2
	for text, class := range map[string]int{
		"02:00:00:00:00:01": api.CUnicast,
		"01:80:c2:00:00:0f": api.CReserved,
		"01:80:c2:00:00:10": api.CGroup,
	} {
		a, e := mac.Parse(text)
		if e != api.OK {
			t.Errorf("Parse(%q): %d", text, e)
		}
		if k, e := mac.Class(a); k != class || e != api.OK {
			t.Errorf("Class of %s = %d, %d", text, k, e)
		}
	}
	if a, e := mac.Parse("89:ab:cd:ef:01:67"); a != 0x89abcdef0167 || e != api.OK {
		t.Errorf("Parse = %#x, %d", a, e)
	}
	if a, e := mac.Of("\x89\xab\xcd\xef\x00\x67"); a != 0x89abcdef0067 || e != api.OK {
		t.Errorf("Of = %#x, %d", a, e)
	}
}

func TestOfTakesSixBytes(t *testing.T) { // P1.2, R2
	for n := range 40 {
		for _, unit := range []string{"\x00", "a", "\xff"} {
			s := strings.Repeat(unit, n)
			a, e := mac.Of(s)
			switch {
			case n < 6 && (a != 0 || e != api.ErrShort),
				n > 6 && (a != 0 || e != api.ErrLong),
				n == 6 && (a != int(unit[0])*0x010101010101 || e != api.OK):
				t.Errorf("Of(%q) = %#x, %d", s, a, e)
			}
		}
	}
}

func TestParseLooksAtTheLengthFirst(t *testing.T) { // P1.2, P1, R2
	const right = "01:23:45:67:89:ab"
	for n := range 40 {
		for _, s := range []string{strings.Repeat("x", n), strings.Repeat("\xff", n), (right + ":" + right + ":" + right)[:n]} {
			a, e := mac.Parse(s)
			switch {
			case n < 17 && (a != 0 || e != api.ErrShort),
				n > 17 && (a != 0 || e != api.ErrLong),
				n == 17 && s == right && (a != 0x0123456789ab || e != api.OK),
				n == 17 && s != right && (a != 0 || e != api.ErrChar):
				t.Errorf("Parse(%q) = %#x, %d", s, a, e)
			}
		}
	}
}

// wantParse reads a text of 17 bytes by the library's means.
func wantParse(s string) (int, api.Errno) {
	var all string
	for i, part := range strings.Split(s, ":") {
		if i > 5 || len(part) != 2 || strings.Trim(part, "0123456789abcdef") != "" {
			return 0, api.ErrChar
		}
		all += part
	}
	a, err := strconv.ParseInt(all, 16, 64)
	if err != nil {
		return 0, api.ErrChar
	}
	return int(a), api.OK
}

func TestParseWithAnyByteAtAnyPlace(t *testing.T) { // P1.2
	for _, right := range []string{"00:00:00:00:00:00", "fe:dc:ba:98:76:54", "ff:ff:ff:ff:ff:ff"} {
		for place := range right {
			for b := range 256 {
				text := []byte(right)
				text[place] = byte(b)
				want, wantErr := wantParse(string(text))
				if a, e := mac.Parse(string(text)); a != want || e != wantErr {
					t.Errorf("Parse(%q) = %#x, %d, want %#x, %d", text, a, e, want, wantErr)
				}
			}
		}
	}
}

func TestParseRefusesOtherTexts(t *testing.T) { // P1.2
	for _, s := range []string{
		"00:00:00:00:00:0A", // capitals are no digits
		"FF:FF:FF:FF:FF:FF",
		"00-00-00-00-00-00",
		"0:000:00:00:00:00", // colons elsewhere
		":00:00:00:00:00:0",
		"00000000000000000",
		":::::::::::::::::",
		"00:00:00:00:00:-1",
		"+0:00:00:00:00:00",
		"0x:00:00:00:00:00",
		"00:00:00:00:00: 1",
		"00:00:00:00:00:0\x00",
		"00:00:00:00:00:\u0131", // characters of two bytes, the low bits of whose numbers are those of a digit or a colon
		"\u0130:00:00:00:00:00",
		"00\u013a0:00:00:00:00",
		"00:00:00:00:00:0\xff",
		"00:00:00:00:0\uff10:", // a wide digit, of three bytes
		"00:00:00:00:0\U0001d7d8",
		"00\xc0\xba0:00:00:00:00", // a colon in too many bytes
	} {
		if len(s) != 17 {
			t.Fatalf("%q has %d bytes", s, len(s))
		}
		if a, e := mac.Parse(s); a != 0 || e != api.ErrChar {
			t.Errorf("Parse(%q) = %#x, %d", s, a, e)
		}
	}
}

// wantDigit says independently what a digit is worth.
func wantDigit(char rune) (int, api.Errno) {
	if i := strings.IndexRune("0123456789abcdef", char); i >= 0 {
		return i, api.OK
	}
	return 0, api.ErrChar
}

func TestDigitTellsEachCharacter(t *testing.T) { // P1, R2
	chars := []rune{math.MinInt32, -'0', -'a', -1, '0' + 1<<8, 'a' + 1<<16, 0xff10, 0x1d7d8, 0xfffd, 0x10ffff, 0x110000, math.MaxInt32}
	for char := rune(0); char < 1000; char++ {
		chars = append(chars, char)
	}
	for _, char := range chars {
		want, wantErr := wantDigit(char)
		if value, e := mac.Digit(char); value != want || e != wantErr {
			t.Errorf("Digit(%#x) = %d, %d, want %d, %d", char, value, e, want, wantErr)
		}
	}
}

func TestDigitAndParseAgree(t *testing.T) { // P1.2
	for char := rune(0); char < 128; char++ {
		value, e := mac.Digit(char)
		if a, parseErr := mac.Parse("00:00:00:00:00:0" + string(char)); a != value || parseErr != e {
			t.Errorf("Digit(%q) = %d, %d, but Parse = %d, %d", char, value, e, a, parseErr)
		}
	}
}

func TestWhatIsToldIsReadAsItWas(t *testing.T) { // P1.3
	for _, a := range addresses() {
		b, _ := mac.Bytes(a)
		if c, e := mac.Of(b); c != a || e != api.OK {
			t.Errorf("Of(Bytes(%#x)) = %#x, %d", a, c, e)
		}
		s, _ := mac.Print(a)
		if c, e := mac.Parse(s); c != a || e != api.OK {
			t.Errorf("Parse(Print(%#x)) = %#x, %d", a, c, e)
		}
	}
}

func TestParseAndDigitByManyAtOnce(t *testing.T) { // R1
	var all sync.WaitGroup
	for n := range 32 {
		all.Go(func() {
			for char := range rune(128) {
				want, wantErr := wantDigit(char)
				if value, e := mac.Digit(char); value != want || e != wantErr {
					t.Errorf("Digit(%q) = %d, %d", char, value, e)
				}
			}
			for i := range 1000 {
				a := (n<<40 + i*0x10f0f0f1) & api.MaxMac
				if b, e := mac.Parse(wantText(a)); b != a || e != api.OK {
					t.Errorf("Parse(%q) = %#x, %d", wantText(a), b, e)
				}
			}
		})
	}
	all.Wait()
}

func FuzzWhatIsReadIsToldAsItWas(f *testing.F) { // P1.2, P1.3, P1
	for _, s := range []string{"", "12345", "123456", "1234567", "\xff\xff\xff\xff\xff\xff", "00:00:00:00:00:0", "01:80:c2:00:00:0f", "01:80:c2:00:00:0F", "01:80:c2:00:00:0ff", "00:00:00:00:00:\u0131"} {
		f.Add(s)
	}
	f.Fuzz(func(t *testing.T, s string) {
		if a, e := mac.Of(s); e == api.OK {
			if b, e := mac.Bytes(a); b != s || e != api.OK {
				t.Errorf("Bytes(Of(%q)) = %q, %d", s, b, e)
			}
		} else if len(s) == 6 || a != 0 {
			t.Errorf("Of(%q) = %#x, %d", s, a, e)
		}
		a, e := mac.Parse(s)
		if len(s) == 17 {
			if want, wantErr := wantParse(s); a != want || e != wantErr {
				t.Errorf("Parse(%q) = %#x, %d, want %#x, %d", s, a, e, want, wantErr)
			}
		}
		if e == api.OK {
			if u, e := mac.Print(a); u != s || e != api.OK {
				t.Errorf("Print(Parse(%q)) = %q, %d", s, u, e)
			}
		} else if a != 0 {
			t.Errorf("Parse(%q) = %#x, %d", s, a, e)
		}
	})
}
