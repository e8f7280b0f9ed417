package manifest

import (
	"slices"
	"strings"

	"usufruct/api"
)

// writer has a text as far as it is written. It takes no more than MaxBlob bytes: crates that share their memory may stand for more than there is room for.
type writer struct {
	text    strings.Builder
	tooLong bool
}

func (w *writer) put(pieces ...string) {
	for _, s := range pieces {
		w.tooLong = w.tooLong || len(s) > api.MaxBlob-w.text.Len()
		if w.tooLong {
			return
		}
		w.text.WriteString(s)
	}
}

// each goes on only as long as the text is not too long.
func (w *writer) each(n int, put func(i int)) {
	for i := 0; i < n && !w.tooLong; i++ {
		put(i)
	}
}

func (w *writer) crate(crate *api.Source) {
	w.put(headMark, blank, crate.Name)
	if len(crate.Deps) > 0 {
		w.put(depsMark)
	}
	w.each(len(crate.Deps), func(i int) { w.put(blank, crate.Deps[i]) })
	w.put(lineEnd, crate.Text)
}

// write does not ask whether the crates are of a right form: means does.
func write(l []api.Source) (s string, fits bool) {
	var w writer
	w.each(len(l), func(i int) { w.crate(&l[i]) })
	return w.text.String(), !w.tooLong
}

func means(s string, l []api.Source) bool {
	crates, err := Parse(s)
	return err == nil && slices.EqualFunc(crates, l, same)
}

func same(a, b api.Source) bool {
	return a.Name == b.Name && slices.Equal(a.Deps, b.Deps) && a.Text == b.Text
}
