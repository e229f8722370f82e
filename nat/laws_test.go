package nat_test

import (
	"math/rand"
	"slices"
	"strings"
	"testing"

	"anticline/api"
	"anticline/nat"
)

// P104: the laws of arithmetic, with no other arithmetic at hand.
func TestP104Laws(t *testing.T) {
	r := rand.New(rand.NewSource(104))
	equal := func(law string, x, y []uint32) {
		t.Helper()
		mustRight(t, law, x, y)
		if !slices.Equal(x, y) {
			t.Fatalf("%s: %v, %v", law, x, y)
		}
	}
	for range 2000 {
		a, b, c := thrown(r, 8), thrown(r, 6), thrown(r, 5)
		equal("a + b = b + a", nat.Add(a, b), nat.Add(b, a))
		equal("a b = b a", nat.Mul(a, b), nat.Mul(b, a))
		equal("(a + b) + c", nat.Add(nat.Add(a, b), c), nat.Add(a, nat.Add(b, c)))
		equal("(a b) c", nat.Mul(nat.Mul(a, b), c), nat.Mul(a, nat.Mul(b, c)))
		equal("a (b + c)", nat.Mul(a, nat.Add(b, c)), nat.Add(nat.Mul(a, b), nat.Mul(a, c)))
		equal("a + 0", nat.Add(a, nil), a)
		equal("a 0", nat.Mul(a, nil), nil)
		equal("a 1", nat.Mul(a, nat.Of(1)), a)
		rest, e := nat.Sub(nat.Add(a, b), b)
		if e != api.OK {
			t.Fatal(e)
		}
		equal("a + b - b", rest, a)
		if len(b) == 0 {
			continue
		}
		q, left, _ := nat.Div(a, b)
		equal("q b + r", nat.Add(nat.Mul(q, b), left), a)
		mustRight(t, "r", left)
		if nat.Cmp(left, b) >= 0 {
			t.Fatalf("what is left of %v by %v: %v", a, b, left)
		}
		g := nat.Gcd(a, b)
		equal("Gcd of multiples", nat.Gcd(nat.Mul(a, c), nat.Mul(b, c)), nat.Mul(g, c))
	}
}

func TestP104WrittenAndRead(t *testing.T) {
	r := rand.New(rand.NewSource(105))
	numbers := edges()
	for range 500 {
		numbers = append(numbers, thrown(r, 41))
	}
	for _, a := range numbers {
		if got, e := nat.Parse(nat.Text(a)); e != api.OK || !slices.Equal(got, a) {
			t.Fatalf("%v is read as %v, %v", a, got, e)
		}
	}
	for n := 1; n <= 400; n++ {
		s := strings.Repeat("9070503010", 40)[:n]
		a, e := nat.Parse(s)
		if e != api.OK || nat.Text(a) != s {
			t.Fatalf("%s is written as %s, %v", s, nat.Text(a), e)
		}
	}
}

// P104: 10^400 is written, too, but has a digit more than is read.
func TestP104WrittenTooLongToRead(t *testing.T) {
	a, _ := nat.Parse("1" + strings.Repeat("0", 399))
	text := nat.Text(nat.Mul(a, nat.Of(10)))
	if text != "1"+strings.Repeat("0", 400) {
		t.Errorf("written: %s", text)
	}
	if _, e := nat.Parse(text); e != api.ErrLong {
		t.Errorf("read: %v", e)
	}
}
