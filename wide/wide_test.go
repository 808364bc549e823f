package wide_test

import (
	"math"
	"math/big"
	"math/rand"
	"testing"

	"lorgnette/api"
	. "lorgnette/wide"
)

func toBig(w api.Wide) *big.Int {
	b := new(big.Int).SetInt64(int64(w.Hi))
	b.Lsh(b, 64)
	return b.Add(b, new(big.Int).SetUint64(w.Lo))
}

func fits(b *big.Int) bool {
	least := new(big.Int).Lsh(big.NewInt(-1), 127)
	most := new(big.Int).Sub(new(big.Int).Lsh(big.NewInt(1), 127), big.NewInt(1))
	return b.Cmp(least) >= 0 && b.Cmp(most) <= 0
}

func samples() []api.Wide {
	list := []api.Wide{}
	ends := []uint64{0, 1, 2, 3, 7, 10, 1<<32 - 1, 1 << 32, 1<<63 - 1, 1 << 63, 1<<63 + 1, math.MaxUint64 - 1, math.MaxUint64}
	for _, hi := range ends {
		for _, lo := range ends {
			list = append(list, api.Wide{Hi: hi, Lo: lo})
		}
	}
	r := rand.New(rand.NewSource(1))
	for range 60 {
		list = append(list, api.Wide{Hi: r.Uint64() >> uint(r.Intn(64)), Lo: r.Uint64()}, api.Wide{Lo: r.Uint64() >> uint(r.Intn(64))})
	}
	return list
}

func check(t *testing.T, what string, a, b api.Wide, got api.Wide, e api.Errno, want *big.Int) {
	t.Helper()
	if want == nil || !fits(want) {
		if e != api.ErrConst || got != (api.Wide{}) {
			t.Fatal(what, Print(a), Print(b), Print(got), e)
		}
		return
	}
	if e != api.OK || toBig(got).Cmp(want) != 0 {
		t.Fatal(what, Print(a), Print(b), Print(got), e, want)
	}
}

// P1.3, P1.4: against whole numbers without an end.
func TestArithmetic(t *testing.T) {
	list := samples()
	for _, a := range list {
		x := toBig(a)
		w, e := Neg(a)
		check(t, "neg", a, a, w, e, new(big.Int).Neg(x))
		for _, b := range list {
			y := toBig(b)
			w, e := Add(a, b)
			check(t, "add", a, b, w, e, new(big.Int).Add(x, y))
			w, e = Sub(a, b)
			check(t, "sub", a, b, w, e, new(big.Int).Sub(x, y))
			w, e = Mul(a, b)
			check(t, "mul", a, b, w, e, new(big.Int).Mul(x, y))
			var q, r *big.Int
			if y.Sign() != 0 {
				q, r = new(big.Int).QuoRem(x, y, new(big.Int))
			}
			w, e = Quo(a, b)
			check(t, "quo", a, b, w, e, q)
			w, e = Rem(a, b)
			check(t, "rem", a, b, w, e, r)
			if Cmp(a, b) != x.Cmp(y) {
				t.Fatal("cmp", x, y)
			}
		}
	}
}

// P1.1
func TestInt(t *testing.T) {
	for _, n := range []int{0, 1, -1, math.MaxInt, math.MinInt, 12345, -99} {
		if got, e := Int(Of(n)); got != n || e != api.OK || toBig(Of(n)).Cmp(big.NewInt(int64(n))) != 0 {
			t.Error(n, got, e)
		}
	}
	for _, w := range []api.Wide{{Lo: 1 << 63}, {Hi: 1}, {Hi: math.MaxUint64, Lo: 1<<63 - 1}, {Hi: 1 << 63}} {
		if n, e := Int(w); n != 0 || e != api.ErrConst {
			t.Error(w, n, e)
		}
	}
}

// P1.2, P1.4
func TestText(t *testing.T) {
	for _, w := range samples() {
		s := Print(w)
		if s != toBig(w).String() {
			t.Fatal(s, toBig(w))
		}
		if s[0] == '-' {
			continue
		}
		if got, e := Parse(s); got != w || e != api.OK {
			t.Fatal(s, got, e)
		}
	}
	for _, s := range []string{"", "00", "01", "-1", "+1", "1_0", " 1", "1 ", "x", "9999999999999999999999999999999999999999999x"} {
		if w, e := Parse(s); w != (api.Wide{}) || e != api.ErrForm {
			t.Error(s, w, e)
		}
	}
	for _, s := range []string{"170141183460469231731687303715884105728", "340282366920938463463374607431768211456", "340282366920938463463374607431768211457", "99999999999999999999999999999999999999999999999"} {
		if w, e := Parse(s); w != (api.Wide{}) || e != api.ErrConst {
			t.Error(s, w, e)
		}
	}
	if w, e := Parse("170141183460469231731687303715884105727"); e != api.OK || w.Hi != 1<<63-1 || w.Lo != math.MaxUint64 {
		t.Error(w, e)
	}
}
