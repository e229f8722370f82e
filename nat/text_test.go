package nat_test

import (
	"math/big"
	"math/rand"
	"strings"
	"testing"

	"anticline/api"
	"anticline/nat"
)

func TestP103Text(t *testing.T) {
	r := rand.New(rand.NewSource(103))
	numbers := append(edges(), []uint32{999999999}, []uint32{1000000000}, []uint32{1000000001}, long(r, 4000))
	for i := range 800 {
		numbers = append(numbers, thrown(r, 1+i/20))
	}
	for _, a := range numbers {
		if got, want := nat.Text(a), toBig(a).String(); got != want {
			t.Fatalf("Text of %v: %s", a, got)
		}
	}
	if nat.Text(nil) != "0" || nat.Text([]uint32{}) != "0" {
		t.Error("Text of nought")
	}
}

// P103: noughts inside and at the end are told, however they are grouped.
func TestP103TextOfPowersOfTen(t *testing.T) {
	ten := big.NewInt(1)
	for k := range 500 {
		want := "1" + strings.Repeat("0", k)
		if got := nat.Text(fromBig(ten)); got != want {
			t.Fatalf("Text of 10^%d: %s", k, got)
		}
		ten.Mul(ten, big.NewInt(10))
	}
}

func TestP103Parse(t *testing.T) {
	for _, s := range []string{"0", "1", "7", "9", "10", "4294967295", "4294967296", "18446744073709551615", "18446744073709551616", "1" + strings.Repeat("0", 399), strings.Repeat("9", 399), strings.Repeat("9", 400), strings.Repeat("1234567890", 40)} {
		want, _ := new(big.Int).SetString(s, 10)
		got, e := nat.Parse(s)
		if e != api.OK {
			t.Fatalf("Parse(%q): %v", s, e)
		}
		same(t, "Parse", got, want)
	}
}

func refused(t *testing.T, s string, want api.Errno) {
	t.Helper()
	if a, e := nat.Parse(s); e != want || len(a) != 0 {
		t.Errorf("Parse of %d bytes %.20q: %v, %v", len(s), s, a, e)
	}
}

func TestP103ParseTooLong(t *testing.T) {
	for _, s := range []string{"1", "9", "0", "x", " ", "\x00", "\xff", "é"} {
		refused(t, strings.Repeat(s, 401), api.ErrLong)
		refused(t, strings.Repeat(s, 1<<16/len(s)), api.ErrLong)
	}
	refused(t, "1"+strings.Repeat("0", 400), api.ErrLong)
}

func TestP103ParseNoNumber(t *testing.T) {
	for _, s := range []string{"", "00", "01", "007", "0" + strings.Repeat("0", 399), "0" + strings.Repeat("1", 399), "-1", "+1", "-0", " 1", "1 ", "1\n", "1_000", "1,0", "1.0", "1/2", "0x10", "1e3", "a", "1a", "a1", "\x00", "1\x00", "\xff", "٣", "１", "12é", "-", "+", strings.Repeat("x", 400), strings.Repeat("9", 399) + "x", "x" + strings.Repeat("9", 399)} {
		refused(t, s, api.ErrForm)
	}
}

// P103: of all single bytes just the digits are numbers; of two just those
// without a first 0.
func TestP103ParseOfAllShortTexts(t *testing.T) {
	digit := func(c int) bool { return c >= '0' && c <= '9' }
	for c := range 256 {
		a, e := nat.Parse(string([]byte{byte(c)}))
		if (e == api.OK) != digit(c) || !digit(c) && (e != api.ErrForm || len(a) != 0) {
			t.Fatalf("byte %d: %v, %v", c, a, e)
		}
		for d := range 256 {
			_, e := nat.Parse(string([]byte{byte(c), byte(d)}))
			if (e == api.OK) != (digit(c) && c != '0' && digit(d)) {
				t.Fatalf("bytes %d, %d: %v", c, d, e)
			}
		}
	}
}
