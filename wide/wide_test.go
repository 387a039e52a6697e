package wide

import (
	"math/big"
	"testing"
)

func words() []uint64 { return []uint64{0, 1, 1 << 63, ^uint64(0), 0x0123456789abcdef} }

// samples: every pattern of words in which a carry, a borrow or a shift may go wrong.
func samples[W Words]() []W {
	out := []W{*new(W)}
	for i := 0; i < len(*new(W)); i++ {
		var next []W
		for _, x := range out {
			for _, w := range words() {
				x[i] = w
				next = append(next, x)
			}
		}
		out = next
	}
	return out
}

func whole[W Words](x W) *big.Int {
	out := new(big.Int)
	for i := len(x) - 1; i >= 0; i-- {
		out.Lsh(out, 64)
		out.Or(out, new(big.Int).SetUint64(x[i]))
	}
	return out
}

// wrapped is what of x fits W.
func wrapped[W Words](x *big.Int) *big.Int {
	limit := new(big.Int).Lsh(big.NewInt(1), uint(len(*new(W)))*64)
	return new(big.Int).Mod(x, limit)
}

func sumsOf[W Words](t *testing.T) {
	all := samples[W]()
	for i, x := range all {
		for k := i % 7; k < len(all); k += 7 {
			y := all[k]
			want := wrapped[W](new(big.Int).Add(whole(x), whole(y)))
			if got := Add(x, y); whole(got).Cmp(want) != 0 {
				t.Fatalf("Add(%x, %x) = %x", x, y, got)
			}
			want = wrapped[W](new(big.Int).Sub(whole(x), whole(y)))
			got, less := Sub(x, y)
			if whole(got).Cmp(want) != 0 || less != (whole(x).Cmp(whole(y)) < 0) {
				t.Fatalf("Sub(%x, %x) = %x, %v", x, y, got, less)
			}
		}
	}
}

func timesOf[W Words](t *testing.T) {
	for _, x := range samples[W]() {
		for _, y := range words() {
			want := wrapped[W](new(big.Int).Mul(whole(x), new(big.Int).SetUint64(y)))
			if got := Times(x, y); whole(got).Cmp(want) != 0 {
				t.Fatalf("Times(%x, %x) = %x", x, y, got)
			}
		}
	}
}

func restOf(x *big.Int, n uint) Rest {
	unit := new(big.Int).Lsh(big.NewInt(1), n)
	rest := new(big.Int).Mod(x, unit)
	if rest.Sign() == 0 {
		return Nothing
	}
	return Rest(int(Half) + rest.Lsh(rest, 1).Cmp(unit))
}

func shiftsOf[W Words](t *testing.T) {
	for _, x := range samples[W]() {
		if got := Length(x); got != whole(x).BitLen() {
			t.Fatalf("Length(%x) = %d", x, got)
		}
		if got := Room(x); got != 64*len(x)-whole(x).BitLen() {
			t.Fatalf("Room(%x) = %d", x, got)
		}
		for _, n := range []uint{0, 1, 2, 53, 63, 64, 65, 127, 128, 129, 192, 255, 256, 257, 320, 2100} {
			want := wrapped[W](new(big.Int).Lsh(whole(x), n))
			if got := Left(x, n); whole(got).Cmp(want) != 0 {
				t.Fatalf("Left(%x, %d) = %x", x, n, got)
			}
			want = new(big.Int).Rsh(whole(x), n)
			got, rest := Cut(x, n)
			if whole(got).Cmp(want) != 0 || rest != restOf(whole(x), n) {
				t.Fatalf("Cut(%x, %d) = %x, %d", x, n, got, rest)
			}
		}
	}
}

func TestSums(t *testing.T) {
	t.Run("two words", sumsOf[Two])
	t.Run("four words", sumsOf[Four])
}

func TestTimes(t *testing.T) {
	t.Run("two words", timesOf[Two])
	t.Run("four words", timesOf[Four])
}

func TestShifts(t *testing.T) {
	t.Run("two words", shiftsOf[Two])
	t.Run("four words", shiftsOf[Four])
}

func TestWider(t *testing.T) {
	for _, x := range samples[Two]() {
		if got := Wider(x); whole(got).Cmp(whole(x)) != 0 {
			t.Errorf("Wider(%x) = %x", x, got)
		}
	}
}

func TestProduct(t *testing.T) {
	for _, p := range samples[Two]() {
		want := new(big.Int).Mul(new(big.Int).SetUint64(p[0]), new(big.Int).SetUint64(p[1]))
		if got := Product(p[0], p[1]); whole(got).Cmp(want) != 0 {
			t.Errorf("Product(%x, %x) = %x", p[0], p[1], got)
		}
	}
}
