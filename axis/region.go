package axis

import (
	"cmp"

	"indelible/api"
	"indelible/exact"
)

// Fits reports whether a region is valid for n axes.
func Fits(region []api.Tent, n int) bool {
	if len(region) != n {
		return false
	}
	for _, t := range region {
		if !isValid(t) {
			return false
		}
	}
	return true
}

// isValid reports whether a tent is valid. Its numbers are in order if each of them stays as it is when it is limited to what the one before permits.
func isValid(t api.Tent) bool {
	low := limitedToNormal(t.Low)
	peak := limited(t.Peak, low, api.MaxAxis)
	high := limited(t.High, peak, api.MaxAxis)
	inOrder := t == api.Tent{Low: low, Peak: peak, High: high}
	return inOrder && (t.Low >= 0 || t.High <= 0 || t.Peak == 0)
}

// Scalar returns the value of a region at a normalized position.
func Scalar(region []api.Tent, at []int) api.Ratio {
	if !Fits(region, len(region)) {
		return api.Ratio{}
	}
	product, ok := api.Ratio{N: 1, D: 1}, true
	for i, t := range region {
		if product, ok = exact.Mul(product, value(t, position(at, i))); !ok {
			return api.Ratio{}
		}
	}
	return product
}

// position returns the normalized position number i.
func position(at []int, i int) int {
	if i >= len(at) {
		return 0
	}
	return limitedToNormal(at[i])
}

// value returns the value of a tent that is valid, not always in lowest terms.
func value(t api.Tent, at int) api.Ratio {
	sign := cmp.Compare(at, t.Peak)
	if t.Peak == 0 || sign == 0 {
		return api.Ratio{N: 1, D: 1}
	}
	far, whole := sides(t.Low, t.Peak, t.High)(sign, at)
	if far >= whole {
		return api.Ratio{N: 0, D: 1}
	}
	return api.Ratio{N: whole - far, D: whole}
}
