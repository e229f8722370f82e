package nat

import (
	"strings"

	"anticline/api"
)

const (
	groupDigits = 9 // as many as one limb can hold
	groupSize   = 1000000000
	limbDigits  = 10 // a limb has at most so many
)

func Text(a []uint32) string {
	rest := trim(clone(a))
	if len(rest) == 0 {
		return "0"
	}
	digits := make([]byte, limbDigits*len(rest)+groupDigits)
	at := len(digits)
	for len(rest) > 0 {
		group := divideByLimb(rest, groupSize)
		rest = trim(rest)
		writeGroup(digits[at-groupDigits:at], group)
		at -= groupDigits
	}
	return strings.TrimLeft(string(digits[at:]), "0")
}

func writeGroup(room []byte, group uint32) {
	for i := len(room) - 1; i >= 0; i-- {
		room[i] = '0' + byte(group%10)
		group /= 10
	}
}

func Parse(s string) ([]uint32, api.Errno) {
	if len(s) > api.MaxDigits {
		return nil, api.ErrLong
	}
	if !isNumber(s) {
		return nil, api.ErrForm
	}
	var a []uint32
	for i := range len(s) {
		a = appendDigit(a, s[i]-'0')
	}
	return a, api.OK
}

func isNumber(s string) bool {
	if s == "" || len(s) > 1 && s[0] == '0' {
		return false
	}
	for i := range len(s) {
		if s[i] < '0' || s[i] > '9' {
			return false
		}
	}
	return true
}

// appendDigit makes a ten times as great and adds the digit, in a's memory
// or, where that has no room, in new one.
func appendDigit(a []uint32, digit byte) []uint32 {
	carry := uint64(digit)
	for i, limb := range a {
		carry += 10 * uint64(limb)
		a[i] = uint32(carry)
		carry >>= limbBits
	}
	if carry == 0 {
		return a
	}
	return append(a, uint32(carry))
}
