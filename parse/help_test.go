package parse_test

import (
	"reflect"
	"slices"
	"strings"
	"testing"

	"usufruct/api"
	"usufruct/fault"
	"usufruct/lex"
	"usufruct/parse"
	"usufruct/tree"
)

func words() []string {
	return strings.Fields("fn struct pub let mut if else while loop break continue return drop true false int bool")
}

func signs() []string {
	return strings.Fields("( ) { } < > , ; : :: . * & + - -> = == !")
}

// vocabulary has a token of each kind, and each word and sign; the last lifetime has a word as its Text.
func vocabulary() []string {
	return slices.Concat(words(), signs(), []string{"x", "'a", "'mut", "7"})
}

// pieces are the tokens of a text as they stand in it, without its end.
func pieces(t *testing.T, s string) []string {
	t.Helper()
	tokens, err := lex.Lex(s)
	if err != nil {
		t.Fatalf("%q: %v", short(s), err)
	}
	var list []string
	for _, x := range tokens[:len(tokens)-1] {
		if x.Kind == api.TokLife {
			x.Text = "'" + x.Text
		}
		list = append(list, x.Text)
	}
	return list
}

// lay makes a text of tokens, with a gap ahead of each and of the end; places tells where each of them stands, the end as well.
func lay(list []string, gap func(i int) string) (s string, places []int) {
	var b strings.Builder
	for i, piece := range append(slices.Clone(list), "") {
		b.WriteString(gap(i))
		places = append(places, b.Len())
		b.WriteString(piece)
	}
	return b.String(), places
}

// spaced has one blank ahead of each token but the first.
func spaced(list []string) (s string, places []int) {
	return lay(list, func(i int) string {
		if i == 0 || i == len(list) {
			return ""
		}
		return " "
	})
}

// short keeps a long text out of what a test tells.
func short(s string) string {
	if len(s) > 120 {
		return s[:60] + " .. " + s[len(s)-60:]
	}
	return s
}

func parsed(t *testing.T, s string) api.Crate {
	t.Helper()
	c, err := parse.Crate(s)
	if err != nil {
		t.Fatalf("%q: error %d at %v", short(s), fault.Code(err), fault.Path(err))
	}
	if !tree.May(c) {
		t.Fatalf("%q: what is parsed may not be", short(s))
	}
	return c
}

func parsedType(t *testing.T, s string) api.Type {
	t.Helper()
	x, err := parse.Type(s)
	if err != nil {
		t.Fatalf("%q: error %d at %v", short(s), fault.Code(err), fault.Path(err))
	}
	if !tree.May(api.Crate{Funcs: []api.Func{{Name: "f", Params: []api.Field{{Name: "x", Type: x}}}}}) {
		t.Fatalf("%q: what is parsed may not be", short(s))
	}
	return x
}

// refused asks for an error's number and all of its places, and that nothing but it is told.
func refused(t *testing.T, s string, code api.Errno, path ...int) {
	t.Helper()
	c, err := parse.Crate(s)
	isError(t, s, err, code, path)
	if !tree.Same(c, api.Crate{}) {
		t.Fatalf("%q: a crate beside an error", short(s))
	}
}

func refusedType(t *testing.T, s string, code api.Errno, at int) {
	t.Helper()
	x, err := parse.Type(s)
	isError(t, s, err, code, []int{at})
	if !tree.SameType(x, api.Type{}) {
		t.Fatalf("%q: a type beside an error", short(s))
	}
}

func isError(t *testing.T, s string, err error, code api.Errno, path []int) {
	t.Helper()
	if fault.Code(err) != code || !slices.Equal(fault.Path(err), path) || !fault.Is(err, code) {
		t.Fatalf("%q: error %d at %v, not %d at %v", short(s), fault.Code(err), fault.Path(err), code, path)
	}
}

// same holds a parsed crate against a wanted one, whose places are numbers of tokens.
func same(t *testing.T, s string, got, want api.Crate, places []int) {
	t.Helper()
	eachAt(reflect.ValueOf(&got).Elem(), func(at reflect.Value) {
		at.SetInt(int64(slices.Index(places, int(at.Int()))))
	})
	if !tree.Same(got, want) {
		t.Fatalf("%q:\n%+v\nnot\n%+v", short(s), got, want)
	}
}

func eachAt(v reflect.Value, tell func(at reflect.Value)) {
	switch v.Kind() {
	case reflect.Struct:
		for i := range v.NumField() {
			if v.Type().Field(i).Name == "At" {
				tell(v.Field(i))
				continue
			}
			eachAt(v.Field(i), tell)
		}
	case reflect.Slice:
		for i := range v.Len() {
			eachAt(v.Index(i), tell)
		}
	}
}

// inBody is a text of one function, with statements that begin at bodyAt.
func inBody(stmts string) string { return "fn f() { " + stmts + " }" }

const bodyAt = len("fn f() { ")
