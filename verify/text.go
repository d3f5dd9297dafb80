package verify

import (
	"strconv"
	"strings"

	"indelible/api"
)

// separator stands between operations.
const separator = "; "

// Text returns the text of a program.
func Text(p []api.Op) string {
	var texts []string
	for _, op := range p {
		if !isFormed(op) {
			return ""
		}
		texts = append(texts, textOf(op))
	}
	return strings.Join(texts, separator)
}

// textOf returns the text of a formed operation.
func textOf(op api.Op) string {
	k := kinds[op.Code]
	s := k.word
	if k.fields >= 1 {
		s += " " + strconv.Itoa(op.N)
	}
	if k.fields >= 2 {
		s += " " + strconv.Itoa(op.M)
	}
	return s
}

// Parse returns the program with a given text.
func Parse(s string) ([]api.Op, bool) {
	var p []api.Op
	for more := s != ""; more; {
		var text string
		text, s, more = strings.Cut(s, separator)
		op, ok := parse(text)
		if !ok {
			return nil, false
		}
		p = append(p, op)
	}
	return p, true
}

// parse returns the formed operation with a given text. It reads what may be one, and then compares the texts: no operation has two of them.
func parse(s string) (api.Op, bool) {
	word, fields, _ := strings.Cut(s, " ")
	n, m, _ := strings.Cut(fields, " ")
	op := api.Op{Code: codeOf(word), N: number(n), M: number(m)}
	if !isFormed(op) || textOf(op) != s {
		return api.Op{}, false
	}
	return op, true
}

// codeOf returns the Code of the operations with a word, or 0.
func codeOf(word string) int {
	for code, k := range kinds {
		if k.word == word {
			return code
		}
	}
	return 0
}

// number returns the number of a field. A string that is none gets a number, too, but it is not its text.
func number(s string) int {
	n, _ := strconv.Atoi(s)
	return n
}
