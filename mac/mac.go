// Package mac is layer 1: see shared/doc/01-mac.md.
package mac

import (
	"sync"

	"footway/api"
)

const (
	byteCount = 6
	textSize  = 3*byteCount - 1
	digits    = "0123456789abcdef"
	noDigit   = -1
)

// values is the table of digitValue that is made once. It ends behind 'f', the greatest digit. Digit alone reads it, so that what the chapter's functions answer hangs on nothing that is kept.
var (
	valuesOnce sync.Once
	values     ['f' + 1]int
)

// Right tells whether a number is an address.
func Right(a int) bool {
	return 0 <= a && a <= api.MaxMac
}

// Class tells of which class an address is.
func Class(a int) (int, api.Errno) {
	switch {
	case !Right(a):
		return 0, api.ErrArg
	case isReserved(a):
		return api.CReserved, api.OK
	case isOfGroup(a):
		return api.CGroup, api.OK
	}
	return api.CUnicast, api.OK
}

// Bytes tells an address's six bytes, the highest first.
func Bytes(a int) (string, api.Errno) {
	if !Right(a) {
		return "", api.ErrArg
	}
	var bytes [byteCount]byte
	for i := range bytes {
		bytes[i] = byteAt(a, i)
	}
	return string(bytes[:]), api.OK
}

// Of tells the address of six bytes.
func Of(bytes string) (int, api.Errno) {
	if e := checkLength(bytes, byteCount); e != api.OK {
		return 0, e
	}
	a := 0
	for i := range len(bytes) {
		a = a<<8 | int(bytes[i])
	}
	return a, api.OK
}

// Print tells an address's text.
func Print(a int) (string, api.Errno) {
	if !Right(a) {
		return "", api.ErrArg
	}
	text := make([]byte, 0, textSize)
	for i := range byteCount {
		if i > 0 {
			text = append(text, ':')
		}
		b := byteAt(a, i)
		text = append(text, digits[b>>4], digits[b&15])
	}
	return string(text), api.OK
}

// Parse tells the address of a text.
func Parse(text string) (int, api.Errno) {
	if e := checkLength(text, textSize); e != api.OK {
		return 0, e
	}
	a := 0
	// A character of several bytes is neither a colon nor a digit, so that i goes up by one as long as the text is right.
	for i, char := range text {
		if i%3 == 2 {
			if char != ':' {
				return 0, api.ErrChar
			}
			continue
		}
		value := digitValue(char)
		if value == noDigit {
			return 0, api.ErrChar
		}
		a = a<<4 | value
	}
	return a, api.OK
}

// Digit tells what a digit of an address's text is worth: ErrChar, if it is none.
func Digit(char rune) (int, api.Errno) {
	valuesOnce.Do(makeValues)
	if char < 0 || int(char) >= len(values) || values[char] == noDigit {
		return 0, api.ErrChar
	}
	return values[char], api.OK
}

func isReserved(a int) bool {
	return api.Reserved <= a && a <= api.Reserved+15
}

func isOfGroup(a int) bool {
	return byteAt(a, 0)&1 == 1
}

func byteAt(a, i int) byte {
	return byte(a >> (8 * (byteCount - 1 - i)))
}

func checkLength(s string, want int) api.Errno {
	switch {
	case len(s) < want:
		return api.ErrShort
	case len(s) > want:
		return api.ErrLong
	}
	return api.OK
}

func digitValue(char rune) int {
	switch {
	case '0' <= char && char <= '9':
		return int(char - '0')
	case 'a' <= char && char <= 'f':
		return int(char-'a') + 10
	}
	return noDigit
}

func makeValues() {
	for char := range values {
		values[char] = digitValue(rune(char))
	}
}
