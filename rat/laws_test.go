package rat_test

import (
	"math/rand"
	"strings"
	"testing"

	"anticline/api"
	"anticline/rat"
)

// P204: the laws of a field, with no other arithmetic at hand.
func TestP204Field(t *testing.T) {
	r := rand.New(rand.NewSource(204))
	zero, one := api.Rat{D: []uint32{1}}, api.Rat{N: []uint32{1}, D: []uint32{1}}
	holds := func(law string, x, y api.Rat) {
		t.Helper()
		if !rat.Right(x) || !rat.Right(y) || !rat.Same(x, y) || rat.Cmp(x, y) != 0 {
			t.Fatalf("%s: %v, %v", law, x, y)
		}
	}
	for range 1500 {
		a, b := thrown(r, 6), thrown(r, 4)
		c := related(r, a)
		holds("a + b = b + a", rat.Add(a, b), rat.Add(b, a))
		holds("a b = b a", rat.Mul(a, b), rat.Mul(b, a))
		holds("(a + b) + c", rat.Add(rat.Add(a, b), c), rat.Add(a, rat.Add(b, c)))
		holds("(a b) c", rat.Mul(rat.Mul(a, b), c), rat.Mul(a, rat.Mul(b, c)))
		holds("a (b + c)", rat.Mul(a, rat.Add(b, c)), rat.Add(rat.Mul(a, b), rat.Mul(a, c)))
		holds("a + 0", rat.Add(a, zero), a)
		holds("a 1", rat.Mul(a, one), a)
		holds("a + -a", rat.Add(a, rat.Neg(a)), zero)
		holds("a - b", rat.Sub(a, b), rat.Add(a, rat.Neg(b)))
		if rat.Same(a, zero) {
			continue
		}
		inverse, e := rat.Quo(one, a)
		if e != api.OK {
			t.Fatal(e)
		}
		holds("a (1 / a)", rat.Mul(a, inverse), one)
		q, _ := rat.Quo(b, a)
		holds("b / a", q, rat.Mul(b, inverse))
	}
}

// P204: the laws of an order, and how it goes with sums and products.
func TestP204Order(t *testing.T) {
	r := rand.New(rand.NewSource(2041))
	zero := api.Rat{D: []uint32{1}}
	for range 1500 {
		a, b := thrown(r, 5), thrown(r, 5)
		c := related(r, a)
		order := rat.Cmp(a, b)
		if order != -rat.Cmp(b, a) || (order == 0) != rat.Same(a, b) {
			t.Fatalf("%v, %v: %d", a, b, order)
		}
		if order <= 0 && rat.Cmp(b, c) <= 0 && rat.Cmp(a, c) > 0 {
			t.Fatalf("%v, %v, %v go round", a, b, c)
		}
		if rat.Cmp(rat.Add(a, c), rat.Add(b, c)) != order {
			t.Fatalf("a + c and b + c: %v, %v, %v", a, b, c)
		}
		if rat.Cmp(rat.Mul(a, c), rat.Mul(b, c)) != order*rat.Cmp(c, zero) {
			t.Fatalf("a c and b c: %v, %v, %v", a, b, c)
		}
		if rat.Cmp(rat.Sub(a, b), zero) != order {
			t.Fatalf("a - b beside nought: %v, %v", a, b)
		}
		if rat.Cmp(rat.Abs(rat.Add(a, b)), rat.Add(rat.Abs(a), rat.Abs(b))) > 0 {
			t.Fatalf("the triangle's law: %v, %v", a, b)
		}
	}
}

func TestP204WrittenAndRead(t *testing.T) {
	r := rand.New(rand.NewSource(2042))
	numbers := edges()
	for range 500 {
		numbers = append(numbers, thrown(r, 41))
	}
	for _, a := range numbers {
		if got, e := rat.Parse(rat.Text(a)); e != api.OK || !equal(got, a) {
			t.Fatalf("%v is read as %v, %v", a, got, e)
		}
	}
}

// P204: texts in lowest terms are written as they were read.
func TestP204ReadAndWritten(t *testing.T) {
	digits := strings.Repeat("9070503010", 40)
	for n := 1; n <= 400; n++ {
		for _, s := range []string{digits[:n], "-" + digits[:n], "1/" + digits[:n], "-1/" + digits[:n]} {
			if a, e := rat.Parse(s); e != api.OK || rat.Text(a) != s {
				t.Fatalf("%s is written as %s, %v", s, rat.Text(a), e)
			}
		}
	}
	for _, s := range []string{"0", "1", "-1", "-3/2", "22/7", "1/4294967296", "-4294967296/4294967295"} {
		if a, e := rat.Parse(s); e != api.OK || rat.Text(a) != s {
			t.Fatalf("%s is written as %s, %v", s, rat.Text(a), e)
		}
	}
}
