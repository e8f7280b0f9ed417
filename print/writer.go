package print

import (
	"strings"

	"usufruct/api"
)

// writer has a text as far as it is written. What it writes is copied: no answer shares memory with an argument.
type writer struct {
	text strings.Builder
	open int // blocks that are open
}

func (w *writer) put(pieces ...string) {
	for _, s := range pieces {
		w.text.WriteString(s)
	}
}

func (w *writer) putIf(is bool, s string) {
	if is {
		w.put(s)
	}
}

func (w *writer) newLine() {
	w.put("\n")
	for range w.open {
		w.put("\t")
	}
}

// tooLong is asked of crates alone: types and heads may be of any length.
func (w *writer) tooLong() bool { return w.text.Len() > api.MaxText }

// upToMost writes n things, but none any more once the text is too long: lists that share their members may stand for more than there is room for.
func (w *writer) upToMost(n int, thing func(i int)) {
	for i := 0; i < n && !w.tooLong(); i++ {
		thing(i)
	}
}

func (w *writer) list(n int, between string, member func(i int)) {
	for i := range n {
		w.putIf(i > 0, between)
		member(i)
	}
}

// angled writes a list that is left out with its signs, if it is empty.
func (w *writer) angled(n int, member func(i int)) {
	if n == 0 {
		return
	}
	w.put("<")
	w.list(n, ", ", member)
	w.put(">")
}

func (w *writer) rounded(n int, member func(i int)) {
	w.put("(")
	w.list(n, ", ", member)
	w.put(")")
}

func (w *writer) braced(n int, member func(i int)) {
	w.put("{ ")
	w.list(n, ", ", member)
	w.putIf(n > 0, " ")
	w.put("}")
}
