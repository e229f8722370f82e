package nat_test

import (
	"math/rand"
	"slices"
	"testing"

	"anticline/nat"
)

// P101: Right takes any limbs.
func TestP101Right(t *testing.T) {
	long := make([]uint32, 5001)
	long[4999] = 1
	for _, x := range []struct {
		a    []uint32
		want bool
	}{
		{nil, true}, {[]uint32{}, true}, {[]uint32{1}, true}, {[]uint32{top}, true}, {[]uint32{0, 1}, true}, {[]uint32{0, 0, top}, true}, {long[:4000], false}, {long[:5000], true},
		{[]uint32{0}, false}, {[]uint32{0, 0}, false}, {[]uint32{5, 0}, false}, {[]uint32{top, top, 0}, false}, {long, false},
	} {
		if got := nat.Right(x.a); got != x.want {
			t.Errorf("Right of %d limbs: %v", len(x.a), got)
		}
	}
}

func TestP101OfSmall(t *testing.T) {
	for _, x := range []struct {
		v    uint64
		want []uint32
	}{
		{0, nil}, {1, []uint32{1}}, {top, []uint32{top}}, {1 << 32, []uint32{0, 1}}, {1<<32 + 7, []uint32{7, 1}}, {1 << 63, []uint32{0, 1 << 31}}, {1<<64 - 2, []uint32{top - 1, top}}, {1<<64 - 1, []uint32{top, top}},
	} {
		got := nat.Of(x.v)
		if !slices.Equal(got, x.want) {
			t.Errorf("Of(%d): %v", x.v, got)
		}
		if v, is := nat.Small(x.want); v != x.v || !is {
			t.Errorf("Small(%v): %d, %v", x.want, v, is)
		}
	}
}

// P101, P4: from 2^64 on there is nothing small, and nothing beside the false.
func TestP101SmallOfGreat(t *testing.T) {
	for _, a := range [][]uint32{{0, 0, 1}, {1, 0, 1}, {top, top, 1}, full(3), full(4000)} {
		if v, is := nat.Small(a); v != 0 || is {
			t.Errorf("Small of %d limbs: %d, %v", len(a), v, is)
		}
	}
}

func TestP101Cmp(t *testing.T) {
	r := rand.New(rand.NewSource(101))
	numbers := edges()
	for range 40 {
		numbers = append(numbers, thrown(r, 5))
	}
	for _, a := range numbers {
		for _, b := range numbers {
			if got, want := nat.Cmp(a, b), toBig(a).Cmp(toBig(b)); got != want {
				t.Errorf("Cmp(%v, %v): %d", a, b, got)
			}
		}
	}
}

func TestP101CmpOfLong(t *testing.T) {
	a := long(rand.New(rand.NewSource(1)), 4000)
	b := slices.Clone(a)
	if nat.Cmp(a, b) != 0 {
		t.Error("the same")
	}
	a[0], b[0] = 0, top
	if nat.Cmp(a, b) != -1 || nat.Cmp(b, a) != 1 {
		t.Error("the lowest limb alone tells them apart")
	}
}

func TestP101Bits(t *testing.T) {
	if got := nat.Bits(nil); got != 0 {
		t.Errorf("Bits of nought: %d", got)
	}
	for _, k := range []int{0, 1, 30, 31, 32, 33, 63, 64, 65, 95, 96, 127999} {
		a := pow2(k)
		if got := nat.Bits(a); got != k+1 {
			t.Errorf("Bits of 2^%d: %d", k, got)
		}
		less := fromBig(toBig(a).Sub(toBig(a), toBig([]uint32{1})))
		if got := nat.Bits(less); got != k {
			t.Errorf("Bits of 2^%d - 1: %d", k, got)
		}
	}
	for _, a := range edges() {
		if got, want := nat.Bits(a), toBig(a).BitLen(); got != want {
			t.Errorf("Bits of %v: %d", a, got)
		}
	}
}
