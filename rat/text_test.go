package rat_test

import (
	"math/big"
	"strings"
	"testing"

	"anticline/api"
	"anticline/rat"
)

func TestP203Text(t *testing.T) {
	for _, p := range pairs(203) {
		a := p[0]
		if got, want := rat.Text(a), bigOf(a).RatString(); got != want {
			t.Fatalf("Text of %v: %s, not %s", a, got, want)
		}
	}
}

func TestP203TextByHand(t *testing.T) {
	one := []uint32{1}
	for _, x := range []struct {
		a    api.Rat
		want string
	}{
		{api.Rat{D: one}, "0"},
		{api.Rat{N: one, D: one}, "1"},
		{api.Rat{Neg: true, N: one, D: one}, "-1"},
		{api.Rat{Neg: true, N: []uint32{3}, D: []uint32{2}}, "-3/2"},
		{api.Rat{N: one, D: []uint32{0, 1}}, "1/4294967296"},
		{api.Rat{N: []uint32{0, 1}, D: one}, "4294967296"},
		{api.Rat{N: []uint32{2}, D: []uint32{1, 1}}, "2/4294967297"},
		{api.Rat{Neg: true, N: []uint32{1000000000}, D: []uint32{1000000007}}, "-1000000000/1000000007"},
	} {
		if got := rat.Text(x.a); got != x.want {
			t.Errorf("%v: %s, not %s", x.a, got, x.want)
		}
	}
}

func nines(n int) string { return strings.Repeat("9", n) }

func TestP203Parse(t *testing.T) {
	for _, s := range []string{
		"0", "-0", "0/5", "-0/5", "0/1", "-0/1", "0/" + nines(400),
		"1", "-1", "7/7", "-7/7", "1/1", "5/1", "-5/1", "6/4", "-6/4", "4/6", "10/5", "-10/5", "3/2", "12",
		"4294967296/4294967295", "18446744073709551616/4294967296", "-1/18446744073709551616",
		nines(399), nines(400), "-" + nines(400), nines(400) + "/1", "1/" + nines(400),
		nines(400) + "/" + nines(400), "-" + nines(400) + "/" + nines(399), "-" + nines(400) + "/" + nines(200),
	} {
		want, ok := new(big.Rat).SetString(s)
		if !ok {
			t.Fatalf("math/big doesn't read %s", s)
		}
		got, e := rat.Parse(s)
		if e != api.OK {
			t.Fatalf("Parse(%s): %v", s, e)
		}
		same(t, "Parse of "+s, got, want)
	}
}

func refuses(t *testing.T, want api.Errno, texts ...string) {
	t.Helper()
	for _, s := range texts {
		if a, e := rat.Parse(s); e != want || !isZero(a) {
			t.Errorf("Parse of %d bytes, %.30q: %v, %v, not %v", len(s), s, a, e, want)
		}
	}
}

// P203: more than one `/` goes ahead of all that nat.Parse could say.
func TestP203ParseTwoStrokes(t *testing.T) {
	refuses(t, api.ErrForm, "1/2/3", "//", "-//", "1//2", "/1/", "1/2/", "/1/2", "-1/2/3", "1/0/0", "0/0/",
		nines(401)+"/1/1", "-"+nines(401)+"/1/1", "1/1/"+nines(401), nines(401)+"/"+nines(401)+"/"+nines(401),
		strings.Repeat("/", 401), strings.Repeat("/", 1<<16), "//"+nines(500), "--//"+nines(500))
}

func TestP203ParseNoNumber(t *testing.T) {
	refuses(t, api.ErrForm, "", "-", "--", "--1", "---1", "+1", "-+1", "+", "1-", "-1-", "- 1", " 1", "1 ", "-1 ", "1\n",
		"01", "-01", "00", "-00", "x", "-x", "1.5", "1e3", "0x1", "1_0", "1,5", "\x00", "\xff", "٣", "\u22121", "１",
		nines(399)+"x", "-"+nines(399)+"x", "0"+nines(399))
}

func TestP203ParseNoNumberInPart(t *testing.T) {
	refuses(t, api.ErrForm, "/", "-/", "/1", "-/1", "1/", "-1/", "1/-2", "1/--2", "-1/-2", "1/+2", "1-/2", "1/2-", "--1/2",
		"01/2", "1/02", "00/1", "1/00", "0/00", "x/1", "1/x", "1/ 2", "1 /2", " 1/2", "1/2 ", "/0", "x/0", "1/2.0",
		"1/"+nines(399)+"x", nines(399)+"x/1")
}

// P203: a sign is not counted among the digits.
func TestP203ParseTooLong(t *testing.T) {
	refuses(t, api.ErrLong, nines(401), "-"+nines(401), "1"+strings.Repeat("0", 400), strings.Repeat("0", 401), strings.Repeat("x", 401),
		"-"+strings.Repeat("-", 401), strings.Repeat("x", 1<<16), nines(1<<16),
		nines(401)+"/1", "-"+nines(401)+"/1", "1/"+nines(401), "-1/"+nines(401), "0/"+nines(401), "1/"+strings.Repeat("0", 401),
		nines(401)+"/0", nines(401)+"/"+nines(401), "1/-"+nines(400))
	refuses(t, api.ErrForm, strings.Repeat("x", 400), strings.Repeat("-", 401))
}

// P203: of two parts that are both refused the first one's error is told.
func TestP203ParseBothRefused(t *testing.T) {
	refuses(t, api.ErrForm, "x/"+nines(401), "-x/"+nines(401), "/"+nines(401), "01/"+nines(401), "--1/"+nines(401), "x/0")
	refuses(t, api.ErrLong, nines(401)+"/x", "-"+nines(401)+"/x", nines(401)+"/", nines(401)+"/01", nines(401)+"/-1", nines(401)+"/0")
}

func TestP203ParseByNought(t *testing.T) {
	refuses(t, api.ErrZero, "1/0", "-1/0", "0/0", "-0/0", nines(400)+"/0", "-"+nines(400)+"/0")
}

// P203: all texts of up to five of these bytes, against the promise's words
// read one by one.
func TestP203ParseOfAllShortTexts(t *testing.T) {
	const letters = "-/012x"
	texts, from := []string{""}, 0
	for range 5 {
		to := len(texts)
		for ; from < to; from++ {
			for i := range len(letters) {
				texts = append(texts, texts[from]+letters[i:i+1])
			}
		}
	}
	for _, s := range texts {
		want, wantErr := slowParse(s)
		got, e := rat.Parse(s)
		if e != wantErr || !equal(got, want) {
			t.Fatalf("Parse(%q): %v, %v; not %v, %v", s, got, e, want, wantErr)
		}
	}
}

func slowParse(s string) (api.Rat, api.Errno) {
	bare := strings.TrimPrefix(s, "-")
	parts := strings.Split(bare, "/")
	if len(parts) > 2 {
		return api.Rat{}, api.ErrForm
	}
	for _, p := range parts {
		if p == "" || strings.Trim(p, "012") != "" || len(p) > 1 && p[0] == '0' {
			return api.Rat{}, api.ErrForm
		}
	}
	if len(parts) == 2 && parts[1] == "0" {
		return api.Rat{}, api.ErrZero
	}
	v, _ := new(big.Rat).SetString(s)
	return fromBig(v), api.OK
}
