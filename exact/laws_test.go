package exact_test

import (
	"testing"

	"indelible/api"
	"indelible/exact"
)

// validRatios returns the valid ones of ratios and some others, few enough for triples.
func validRatios() []api.Ratio {
	var l []api.Ratio
	for k, x := range append(ratios(), manyRatios(17, 40)...) {
		if x.D >= 1 && k%3 == 0 {
			l = append(l, x)
		}
	}
	return l
}

// P1.7
func TestCmpIsATotalOrder(t *testing.T) {
	all := validRatios()
	for _, x := range all {
		for _, y := range all {
			c := exact.Cmp(x, y)
			if exact.Cmp(y, x) != -c {
				t.Errorf("Cmp is not antisymmetric for %v and %v", x, y)
			}
			a, _ := exact.Lowest(x)
			b, _ := exact.Lowest(y)
			if (c == 0) != (a == b) {
				t.Errorf("Cmp(%v, %v) = %d, but Lowest gives %v and %v", x, y, c, a, b)
			}
			for _, z := range all {
				if c <= 0 && exact.Cmp(y, z) <= 0 && exact.Cmp(x, z) > 0 {
					t.Errorf("Cmp is not transitive for %v, %v and %v", x, y, z)
				}
			}
		}
	}
}

// P1.7
func TestSumAndMulAreCommutative(t *testing.T) {
	all := ratios()
	refused := 0
	for _, o := range operations {
		for _, x := range all {
			for _, y := range all {
				a, first := o.call(x, y)
				b, second := o.call(y, x)
				if a != b || first != second {
					t.Errorf("%s(%v, %v) = %v, %v, but %v, %v the other way round", o.name, x, y, a, first, b, second)
				}
				if !first {
					refused++
				}
			}
		}
	}
	if refused == 0 {
		t.Error("nothing was refused")
	}
}

// P1.7
func TestNeutralRatios(t *testing.T) {
	for _, x := range append(ratios(), manyRatios(18, 1000)...) {
		want, fine := exact.Lowest(x)
		for k, o := range operations {
			if got, ok := o.call(x, api.Ratio{N: k, D: 1}); got != want || ok != fine {
				t.Errorf("%s(%v, %d/1) = %v, %v; want %v, %v", o.name, x, k, got, ok, want, fine)
			}
		}
	}
}

// both applies f to x and y unless one of them is refused already.
func both(f operation, x, y api.Ratio, ok bool) (api.Ratio, bool) {
	if !ok {
		return api.Ratio{}, false
	}
	return f.call(x, y)
}

// P1.7
func TestSumAndMulAreAssociative(t *testing.T) {
	all := validRatios()
	for _, o := range operations {
		compared := 0
		for _, x := range all {
			for _, y := range all {
				for _, z := range all {
					xy, first := o.call(x, y)
					yz, second := o.call(y, z)
					a, first := both(o, xy, z, first)
					b, second := both(o, x, yz, second)
					if first && second && a != b {
						t.Errorf("%s of %v, %v and %v is %v or %v", o.name, x, y, z, a, b)
					}
					if first && second {
						compared++
					}
				}
			}
		}
		if compared == 0 {
			t.Errorf("%s: all results were refused", o.name)
		}
	}
}

// P1.7
func TestMulDistributesOverSum(t *testing.T) {
	sum, mul := operations[0], operations[1]
	all := validRatios()
	compared := 0
	for _, x := range all {
		for _, y := range all {
			for _, z := range all {
				yz, first := sum.call(y, z)
				a, first := both(mul, x, yz, first)
				xy, second := mul.call(x, y)
				xz, third := mul.call(x, z)
				b, second := both(sum, xy, xz, second && third)
				if first && second && a != b {
					t.Errorf("%v times the sum of %v and %v is %v or %v", x, y, z, a, b)
				}
				if first && second {
					compared++
				}
			}
		}
	}
	if compared == 0 {
		t.Error("all results were refused")
	}
}

// P1.7
func TestMulDivOfEqualFactorAndDivisor(t *testing.T) {
	for _, a := range append(edges, numbers(19, 200)...) {
		for _, c := range edges {
			if c < 1 {
				continue
			}
			for _, x := range [][2]int{{a, c}, {c, a}} {
				if got, ok := exact.MulDiv(x[0], x[1], c); !ok || got != a {
					t.Errorf("MulDiv(%d, %d, %d) = %d, %v; want %d", x[0], x[1], c, got, ok, a)
				}
			}
		}
	}
}

// P1 and R2 to R5: whatever the arguments are, the calls end, a refusal carries zero values, and the same calls return the same results.
func TestCallsAreTotalAndDeterministic(t *testing.T) {
	type results struct {
		floor, round, muldiv, cmp int
		lowest, sum, mul          api.Ratio
		fine                      [6]bool
	}
	call := func(a, b, c, d int) (r results) {
		x, y := api.Ratio{N: a, D: b}, api.Ratio{N: c, D: d}
		r.floor, r.fine[0] = exact.Floor(a, b)
		r.round, r.fine[1] = exact.Round(a, b)
		r.muldiv, r.fine[2] = exact.MulDiv(a, b, c)
		r.lowest, r.fine[3] = exact.Lowest(x)
		r.sum, r.fine[4] = exact.Sum(x, y)
		r.mul, r.fine[5] = exact.Mul(x, y)
		r.cmp = exact.Cmp(x, y)
		return r
	}
	for x := numbers(20, 40000); len(x) > 0; x = x[4:] {
		r := call(x[0], x[1], x[2], x[3])
		if call(x[0], x[1], x[2], x[3]) != r {
			t.Errorf("%v: the results differ from call to call", x[:4])
		}
		zero := []bool{r.floor == 0, r.round == 0, r.muldiv == 0, r.lowest == api.Ratio{}, r.sum == api.Ratio{}, r.mul == api.Ratio{}}
		for k, fine := range r.fine {
			if !fine && !zero[k] {
				t.Errorf("%v: a result is refused and not zero: %+v", x[:4], r)
			}
		}
	}
}
