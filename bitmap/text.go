package bitmap

import (
	"strings"

	"indelible/api"
)

const (
	dotByte   = '#'
	blankByte = '.'
	endByte   = '\n'
)

// Text returns the rows of a bitmap.
func Text(b api.Bitmap) string {
	if Check(b) != api.OK {
		return ""
	}
	var text strings.Builder
	for y := b.H - 1; y >= 0; y-- {
		for _, dot := range b.Dots[y*b.W : (y+1)*b.W] {
			text.WriteByte(dotOrBlank(dot))
		}
		text.WriteByte(endByte)
	}
	return text.String()
}

func dotOrBlank(dot bool) byte {
	if dot {
		return dotByte
	}
	return blankByte
}

// Parse returns the bitmap with given rows.
func Parse(s string) (api.Bitmap, bool) {
	w := strings.IndexByte(s, endByte)
	if w < 1 {
		return api.Bitmap{}, false
	}
	b, _ := New(w, len(s)/(w+1))
	for k := range b.Dots {
		x, y := k%b.W, k/b.W
		b.Dots[k] = s[(b.H-1-y)*(w+1)+x] == dotByte
	}
	// This fails for anything in s that is neither a dot nor a blank nor the end of a row of that length, and for sizes beyond the limit.
	if Text(b) != s {
		return api.Bitmap{}, false
	}
	return b, true
}
