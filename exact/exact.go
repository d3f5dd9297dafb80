// Package exact is layer 1: see shared/doc/01-exact.md.
package exact

import "indelible/api"

// Floor returns the greatest integer that is not greater than a / b.
func Floor(a, b int) (int, bool) {
	if b == 0 {
		return 0, false
	}
	s := sign(b)
	// The product b s wraps around for the least int alone, and is right as a word without sign even then.
	return product(a, s).floor(uint64(b * s))
}

// Round returns the integer that is nearest to a / b, the greater one of two.
func Round(a, b int) (int, bool) {
	if b < 1 {
		return 0, false
	}
	return product(a, 2).plus(product(b, 1)).floor(2 * uint64(b))
}

// MulDiv returns the greatest integer that is not greater than a b / c, computed exactly.
func MulDiv(a, b, c int) (int, bool) {
	if c < 1 {
		return 0, false
	}
	return product(a, b).floor(uint64(c))
}

// Cmp compares two ratios.
func Cmp(x, y api.Ratio) int {
	if !valid(x) || !valid(y) {
		return 0
	}
	return product(x.N, y.D).minus(product(y.N, x.D)).sign()
}

// Lowest returns a ratio in lowest terms.
func Lowest(x api.Ratio) (api.Ratio, bool) {
	if !valid(x) {
		return api.Ratio{}, false
	}
	g := divisor(x.N, x.D)
	return api.Ratio{N: x.N / g, D: x.D / g}, true
}

// Sum returns the sum of two ratios in lowest terms.
func Sum(x, y api.Ratio) (api.Ratio, bool) {
	x, y, ok := bothLowest(x, y)
	if !ok {
		return api.Ratio{}, false
	}
	g := divisor(x.D, y.D)
	n := product(x.N, y.D/g).plus(product(y.N, x.D/g))
	d := product(x.D, y.D/g)
	// What n and d have in common divides g, because x and y are in lowest terms.
	return ratio(n, d, divisor(n.rest(uint64(g)), uint64(g)))
}

// Mul returns the product of two ratios in lowest terms.
func Mul(x, y api.Ratio) (api.Ratio, bool) {
	x, y, ok := bothLowest(x, y)
	if !ok {
		return api.Ratio{}, false
	}
	g, h := divisor(x.N, y.D), divisor(y.N, x.D)
	return ratio(product(x.N/g, y.N/h), product(x.D/h, y.D/g), 1)
}

func valid(x api.Ratio) bool { return x.D >= 1 }

func bothLowest(x, y api.Ratio) (api.Ratio, api.Ratio, bool) {
	x, first := Lowest(x)
	y, second := Lowest(y)
	return x, y, first && second
}

// ratio returns n / d after both are divided by g, which divides them.
func ratio(n, d wide, g uint64) (api.Ratio, bool) {
	above, first := n.floor(g)
	below, second := d.floor(g)
	if !first || !second {
		return api.Ratio{}, false
	}
	return api.Ratio{N: above, D: below}, true
}
