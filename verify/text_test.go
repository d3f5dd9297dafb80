package verify_test

import (
	"math/big"
	"regexp"
	"slices"
	"strings"
	"testing"

	"indelible/api"
	"indelible/verify"
)

// written returns what Text promises.
func written(p program) string {
	s := ""
	for i, op := range p {
		if !formed(op) {
			return ""
		}
		if i > 0 {
			s += "; "
		}
		s += traits[op.Code].word
		for _, n := range []int{op.N, op.M}[:traits[op.Code].fields] {
			s += " " + big.NewInt(int64(n)).String()
		}
	}
	return s
}

var (
	number = `(?:0|-?[1-9][0-9]*)`
	// form matches the texts of operations, whose numbers may be too great.
	form = regexp.MustCompile(`\A(?:(add|sub|min|max|neg|half|round|size)|(push|getx|gety|setx|sety|if) (` + number + `)|(loop) (` + number + `) (` + number + `))\z`)
)

// numeral returns the int of a number, and whether it is one.
func numeral(s string) (int, bool) {
	if s == "" {
		return 0, true
	}
	n, ok := new(big.Int).SetString(s, 10)
	return int(n.Int64()), ok && n.IsInt64()
}

// read returns what Parse promises.
func read(s string) (program, bool) {
	if s == "" {
		return nil, true
	}
	var p program
	for _, part := range strings.Split(s, "; ") {
		x := form.FindStringSubmatch(part)
		if x == nil {
			return nil, false
		}
		n, ok := numeral(x[3] + x[5])
		m, alsoOK := numeral(x[6])
		if !ok || !alsoOK {
			return nil, false
		}
		for code, y := range traits {
			if y.word == x[1]+x[2]+x[4] {
				p = append(p, api.Op{Code: code, N: n, M: m})
			}
		}
	}
	return p, true
}

func checkText(t *testing.T, p program, want string) {
	t.Helper()
	if got := verify.Text(p); got != want {
		t.Errorf("Text(%v) = %q; want %q", p, got, want)
	}
}

func checkParse(t *testing.T, s string, want program, wantOK bool) {
	t.Helper()
	if got, ok := verify.Parse(s); !slices.Equal(got, want) || ok != wantOK {
		t.Errorf("Parse(%q) = %v, %v; want %v, %v", s, got, ok, want, wantOK)
	}
}

// checkBoth checks a program of formed operations and its text.
func checkBoth(t *testing.T, p program, s string) {
	t.Helper()
	checkText(t, p, s)
	checkParse(t, s, p, true)
}

// P8.2, P8.3: the document's examples, and each operation.
func TestTextsOfPrograms(t *testing.T) {
	checkBoth(t, nil, "")
	checkBoth(t, program{}, "")
	checkBoth(t, program{getx(1), round, setx(1)}, "getx 1; round; setx 1")
	checkBoth(t, program{loop(4, 3), getx(0), push(-16), add}, "loop 4 3; getx 0; push -16; add")
	checkBoth(t, program{size, push(9), sub, when(2), push(64), sety(3)}, "size; push 9; sub; if 2; push 64; sety 3")
	checkBoth(t, program{loop(16, 4), push(1), when(2), gety(2), sety(2)}, "loop 16 4; push 1; if 2; gety 2; sety 2")
	checkBoth(t, program{push(12), add, sub, least, most, neg, half, round, size, getx(1), gety(2), setx(3), sety(4), when(5), loop(6, 7)},
		"push 12; add; sub; min; max; neg; half; round; size; getx 1; gety 2; setx 3; sety 4; if 5; loop 6 7")
	for code, x := range traits {
		fields := []string{"", " 20", " 20 -3"}[x.fields]
		op := api.Op{Code: code, N: []int{0, 20, 20}[x.fields], M: []int{0, 0, -3}[x.fields]}
		checkBoth(t, program{op}, x.word+fields)
		checkBoth(t, program{op, op}, x.word+fields+"; "+x.word+fields)
	}
	// These are no programs that Check accepts.
	checkBoth(t, program{when(0), loop(0, 0), loop(17, 99), setx(-5), when(-1), add}, "if 0; loop 0 0; loop 17 99; setx -5; if -1; add")
}

// P8.2, P8.3: negative numbers, and the least and the greatest int.
func TestTextsOfNumbers(t *testing.T) {
	for _, x := range []struct {
		n int
		s string
	}{
		{0, "0"}, {1, "1"}, {-1, "-1"}, {9, "9"}, {10, "10"}, {-10, "-10"}, {100, "100"}, {-64, "-64"},
		{1 << 31, "2147483648"}, {-1 << 31, "-2147483648"}, {1 << 53, "9007199254740992"},
		{1<<63 - 1, "9223372036854775807"}, {-1 << 63, "-9223372036854775808"}, {-1<<63 + 1, "-9223372036854775807"},
	} {
		checkBoth(t, program{push(x.n)}, "push "+x.s)
		checkBoth(t, program{getx(x.n), neg, when(x.n)}, "getx "+x.s+"; neg; if "+x.s)
		checkBoth(t, program{loop(x.n, 7)}, "loop "+x.s+" 7")
		checkBoth(t, program{loop(7, x.n)}, "loop 7 "+x.s)
		checkBoth(t, program{loop(x.n, x.n), size}, "loop "+x.s+" "+x.s+"; size")
	}
}

// P8.2: an operation that is not formed, alone and among others.
func TestTextOfWhatIsNotFormed(t *testing.T) {
	for _, op := range (program{
		{}, {Code: -1}, {Code: 16}, {Code: 1 << 32}, {Code: 1<<32 + 2}, {Code: -1 << 63}, {Code: 1<<63 - 1}, {Code: 16, N: 1, M: 1},
		{Code: api.OpAdd, N: 1}, {Code: api.OpAdd, M: 1}, {Code: api.OpMax, N: -1}, {Code: api.OpSize, M: -1}, {Code: api.OpPush, N: 5, M: 1}, {Code: api.OpPush, M: -1}, {Code: api.OpSetY, M: 1}, {Code: api.OpIf, N: 1, M: 1},
	}) {
		checkText(t, program{op}, "")
		checkText(t, program{op, add}, "")
		checkText(t, program{add, op}, "")
		checkText(t, program{add, push(3), op, loop(1, 2)}, "")
	}
	r := newSource(82)
	for range 20000 {
		p := make(program, r.IntN(6))
		for i := range p {
			p[i] = r.wild()
		}
		checkText(t, p, written(p))
	}
}

// P8.3: strings that are no text of a program.
func TestParseOfOtherStrings(t *testing.T) {
	for _, s := range []string{
		// other words
		"x", "ad", "addd", "Add", "ADD", "\tadd", "add\n", "add\x00", "1", "0", "-", "pushx 1", "getz 1", "get 1", "set 1", "loops 1 2", "if1", "push1", "aдд", "\xff",
		// missing and further fields
		"push", "getx", "gety", "setx", "sety", "if", "loop", "loop 1", "push 1 2", "push 1 0", "getx 1 2", "if 1 2", "if 1 0", "loop 1 2 3", "loop 1 2 0", "add 1", "add 0", "neg 0", "size 0", "round -1", "add 0 0",
		// numbers
		"push 00", "push 01", "push -01", "push -00", "push +1", "push +0", "push -0", "push --1", "push -", "push +", "push x", "push 1x", "push x1", "push 1.0", "push 1e3", "push 0x1", "push 0b1", "push 0o7", "push 1_000", "push 1,000", "push ٣", "push \"1\"",
		"push 9223372036854775808", "push -9223372036854775809", "push 18446744073709551616", "push 18446744073709551617", "push 10000000000000000000000000000000", "push -10000000000000000000000000000000", "push 09223372036854775807",
		"loop 01 2", "loop 1 02", "loop +1 2", "loop 1 +2", "loop -0 2", "loop 1 -0", "loop 9223372036854775808 1", "loop 1 9223372036854775808", "loop x 1", "loop 1 x", "if -0", "getx 007",
		// blanks
		" ", "  ", " add", "add ", " push 1", "push  1", "push 1 ", "push\t1", "push\u00a01", "loop 1  2", "loop  1 2", "loop 1 2 ", "loop 12 ", "push -  1", "push - 1", "add add", "push 1 push 1", "push 1 add",
		"add;add", "add;  add", "add ; add", "add  ; add", "add;\tadd", "add;\nadd", "add; add ", " add; add", "add,  add", "add, add", "push 1;add", "push 1;  add", "push 1 ; add", "push; 1",
		// separators
		";", "; ", ";;", "; ; ", "add;", "add; ", "; add", ";add", "add;; add", "add; ; add", "add; add;", "add; add; ", "push 1; ", "push 1;", "; push 1", "loop 1 2; ", "add;  ",
		// one that is wrong among others
		"add; x", "x; add", "add; push; add", "add; push 01; add", "push 1; push +1", "add; add 0",
	} {
		checkParse(t, s, nil, false)
		if _, ok := read(s); ok {
			t.Errorf("%q is a text", s)
		}
	}
	for _, s := range []string{strings.Repeat(" ", 1<<20), strings.Repeat("; ", 1<<20), "push " + strings.Repeat("9", 1<<20), "push " + strings.Repeat("0", 1<<20), strings.Repeat("a", 1<<20), strings.Repeat("add; ", 1<<18)} {
		if p, ok := verify.Parse(s); p != nil || ok {
			t.Errorf("Parse of %d bytes that begin with %q = %d operations, %v", len(s), s[:8], len(p), ok)
		}
	}
}

// tokens are what the short strings are made of.
var tokens = []string{"add", "push", "loop", "if", " ", "; ", ";", "0", "1", "7", "-", "+", "x", "push 1", "9223372036854775807"}

// P8.2, P8.3: all strings of up to 5 tokens.
func TestParseOfShortStrings(t *testing.T) {
	results := map[bool]int{}
	var grow func(s string, left int)
	grow = func(s string, left int) {
		want, ok := read(s)
		checkParse(t, s, want, ok)
		if ok {
			checkText(t, want, s)
		}
		results[ok]++
		if left == 0 {
			return
		}
		for _, x := range tokens {
			grow(s+x, left-1)
		}
	}
	grow("", 5)
	if results[true] < 300 || results[false] < 100000 {
		t.Errorf("Parse accepted and refused: %v", results)
	}
}

// P8.2, P8.3: the text of each program of formed operations leads back to it, and has no text beside it.
func TestTextsOfRandomPrograms(t *testing.T) {
	r := newSource(83)
	for range 10000 {
		var p program
		for range r.IntN(10) {
			if op := r.wild(); formed(op) {
				p = append(p, op)
			}
		}
		s := written(p)
		checkBoth(t, p, s)
		for range 5 {
			// a byte that is missing, doubled, or another one
			if s == "" {
				continue
			}
			k := r.IntN(len(s))
			b := string("0123456789 ;-+addx\x00\xff"[r.IntN(20)])
			for _, x := range []string{s[:k] + s[k+1:], s[:k+1] + s[k:], s[:k] + b + s[k+1:], s[:k] + b + s[k:]} {
				want, ok := read(x)
				checkParse(t, x, want, ok)
			}
		}
	}
}

// P8.2, P8.3: many operations, more than Check permits.
func TestTextsOfManyOperations(t *testing.T) {
	checkBoth(t, times(65, add), strings.Repeat("add; ", 64)+"add")
	p := times(100000, loop(-3, 12345), neg)
	s := strings.TrimSuffix(strings.Repeat("loop -3 12345; neg; ", 100000), "; ")
	if got := verify.Text(p); got != s {
		t.Errorf("Text of 200000 operations has %d bytes; want %d", len(got), len(s))
	}
	if got, ok := verify.Parse(s); !ok || !slices.Equal(got, p) {
		t.Errorf("Parse of 200000 operations = %d of them, %v", len(got), ok)
	}
	if got, ok := verify.Parse(s + ";"); ok || got != nil {
		t.Errorf("Parse of 200000 operations and a semicolon = %d of them, %v", len(got), ok)
	}
	if got := verify.Text(append(p, api.Op{})); got != "" {
		t.Errorf("Text of 200000 operations, and of one that is not formed, has %d bytes", len(got))
	}
}
