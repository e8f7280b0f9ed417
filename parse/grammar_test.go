package parse_test

import (
	"slices"
	"strings"
	"testing"

	"usufruct/api"
	"usufruct/fault"
	"usufruct/lex"
	"usufruct/parse"
)

// What follows finds the first token that cannot stand where it does in another way than the package: by Earley's sets of all rules that may be under way at a place, made of the chapter's grammar itself. Words and signs of the language stand in quotes.
const grammar = `
crate  = { [ "pub" ] ( struct | func ) } ;
struct = "struct" NAME [ "<" LIFE { "," LIFE } ">" ] "{" [ NAME ":" type { "," NAME ":" type } ] "}" ;
func   = "fn" NAME [ "<" life { "," life } ">" ] "(" [ param { "," param } ] ")" [ "->" type ] block ;
life   = LIFE [ ":" LIFE { "+" LIFE } ] ;
param  = [ "mut" ] NAME ":" type ;
type   = "int" | "bool" | "&" [ LIFE ] [ "mut" ] type | name [ "<" LIFE { "," LIFE } ">" ] ;
name   = NAME [ "::" NAME ] ;
block  = "{" { stmt } "}" ;
stmt   = "let" [ "mut" ] NAME ":" type [ "=" value ] ";"
       | "if" oper block [ "else" block ] | "while" oper block | "loop" block | block
       | "break" ";" | "continue" ";" | "return" [ value ] ";" | "drop" place ";"
       | place "=" value ";" | call ";" ;
value  = "&" [ "mut" ] place | "!" oper | call | make | oper [ ( "+" | "-" | "<" | "==" ) oper ] ;
call   = name "(" [ oper { "," oper } ] ")" ;
make   = name "{" [ NAME ":" oper { "," NAME ":" oper } ] "}" ;
oper   = INT | "true" | "false" | place ;
place  = NAME { "." ( NAME | "*" ) } ;
`

// grammarReader makes plain rules of the grammar: each pair of brackets becomes a name of its own.
type grammarReader struct {
	left  []string
	rules map[string][][]string
}

func (g *grammarReader) take() string {
	s := g.left[0]
	g.left = g.left[1:]
	return s
}

// choices reads up to the sign that ends them.
func (g *grammarReader) choices(name, end string) {
	var row []string
	for {
		switch s := g.take(); s {
		case end:
			g.rules[name] = append(g.rules[name], row)
			return
		case "|":
			g.rules[name] = append(g.rules[name], row)
			row = nil
		case "(", "[", "{":
			row = append(row, g.bracket(s))
		default:
			row = append(row, s)
		}
	}
}

func (g *grammarReader) bracket(begin string) string {
	name := begin + strings.Repeat("'", len(g.rules))
	g.rules[name] = nil
	switch begin {
	case "(":
		g.choices(name, ")")
	case "[":
		g.choices(name, "]")
		g.rules[name] = append(g.rules[name], nil)
	case "{":
		one := name + "one"
		g.choices(one, "}")
		g.rules[name] = [][]string{nil, {name, one}}
	}
	return name
}

func grammarRules() map[string][][]string {
	g := &grammarReader{left: strings.Fields(grammar), rules: map[string][][]string{}}
	for len(g.left) > 0 {
		name := g.take()
		if g.take() != "=" {
			panic("the grammar has no such form")
		}
		g.choices(name, ";")
	}
	return g.rules
}

// state is a rule under way: how much of its row is there, and at which token it began.
type state struct {
	name       string
	row, dot   int
	from, size int
}

// oracle keeps the sets of the text that it was asked last: the next one mostly begins as that one.
type oracle struct {
	rules map[string][][]string
	empty map[string]bool
	seen  []api.Token
	sets  [][]state
}

func newOracle(begin string) *oracle {
	o := &oracle{rules: grammarRules(), empty: map[string]bool{}}
	o.rules["all"] = [][]string{{begin, "END"}}
	for grown := true; grown; {
		grown = false
		for name, rows := range o.rules {
			if !o.empty[name] && slices.ContainsFunc(rows, o.mayBeEmpty) {
				o.empty[name], grown = true, true
			}
		}
	}
	o.sets = [][]state{o.closed([]state{{name: "all", size: 2}}, nil)}
	return o
}

func (o *oracle) mayBeEmpty(row []string) bool {
	return !slices.ContainsFunc(row, func(s string) bool { return !o.empty[s] })
}

// wanted is what a state waits for; nothing, if it is done.
func (o *oracle) wanted(s state) string {
	if s.dot == s.size {
		return ""
	}
	return o.rules[s.name][s.row][s.dot]
}

// closed adds all that follows from the states of a place, with the sets ahead of it.
func (o *oracle) closed(set []state, ahead [][]state) []state {
	here := len(ahead)
	known := map[state]bool{}
	var list []state
	add := func(s state) {
		if !known[s] {
			known[s] = true
			list = append(list, s)
		}
	}
	for _, s := range set {
		add(s)
	}
	for i := 0; i < len(list); i++ {
		s := list[i]
		want := o.wanted(s)
		for row, parts := range o.rules[want] {
			add(state{want, row, 0, here, len(parts)})
		}
		if want != "" && o.empty[want] {
			s.dot++
			add(s)
		}
		if want == "" && s.from < here {
			for _, outer := range ahead[s.from] {
				if o.wanted(outer) == s.name {
					outer.dot++
					add(outer)
				}
			}
		}
	}
	return list
}

func fits(token api.Token, want string) bool {
	switch token.Kind {
	case api.TokName:
		return want == "NAME"
	case api.TokLife:
		return want == "LIFE"
	case api.TokInt:
		return want == "INT"
	case api.TokEnd:
		return want == "END"
	}
	return want == `"`+token.Text+`"`
}

// goesOn answers no states if the token cannot stand behind those of the place.
func (o *oracle) goesOn(place int, token api.Token) []state {
	var set []state
	for _, s := range o.sets[place] {
		if want := o.wanted(s); want != "" && fits(token, want) {
			s.dot++
			set = append(set, s)
		}
	}
	return set
}

// firstWrong is the number of the first token that cannot stand there; -1: there is none.
func (o *oracle) firstWrong(tokens []api.Token) int {
	keep := 0
	for keep < len(o.seen) && keep < len(tokens) && o.seen[keep].Kind == tokens[keep].Kind && o.seen[keep].Text == tokens[keep].Text {
		keep++
	}
	o.sets, o.seen = o.sets[:keep+1], o.seen[:keep]
	for i := keep; i < len(tokens); i++ {
		set := o.goesOn(i, tokens[i])
		if len(set) == 0 {
			return i
		}
		o.sets, o.seen = append(o.sets, o.closed(set, o.sets)), append(o.seen, tokens[i])
	}
	return -1
}

// wantPath is the places of an error at a token: ahead of its own that of the item that it is in, if it is in one.
func (o *oracle) wantPath(tokens []api.Token, wrong int) []int {
	at := tokens[wrong].At
	between := len(o.goesOn(wrong, api.Token{Kind: api.TokEnd})) > 0
	if between || fits(tokens[wrong-1], `"pub"`) {
		return []int{at}
	}
	item := wrong - 1
	for !fits(tokens[item], `"fn"`) && !fits(tokens[item], `"struct"`) {
		item--
	}
	return []int{tokens[item].At, at}
}

// asGrammar holds Crate against the grammar, and tells whether the text is one of it. The text has to be below all limits.
func (o *oracle) asGrammar(t *testing.T, s string) bool {
	t.Helper()
	tokens, err := lex.Lex(s)
	if err != nil {
		t.Fatalf("%q: %v", short(s), err)
	}
	wrong := o.firstWrong(tokens)
	if wrong < 0 {
		parsed(t, s)
		return true
	}
	refused(t, s, api.ErrSyntax, o.wantPath(tokens, wrong)...)
	return false
}

// asType holds Type against the grammar.
func (o *oracle) asType(t *testing.T, s string) bool {
	t.Helper()
	tokens, err := lex.Lex(s)
	if err != nil {
		t.Fatalf("%q: %v", short(s), err)
	}
	wrong := o.firstWrong(tokens)
	if wrong < 0 {
		parsedType(t, s)
		return true
	}
	refusedType(t, s, api.ErrSyntax, tokens[wrong].At)
	return false
}

// The other way has to be right itself: some texts whose first wrong token is known.
func TestGrammarOfTheTest(t *testing.T) {
	o := newOracle("crate")
	for _, x := range []struct {
		s    string
		path []int
	}{
		{"", nil},
		{"fn f(x: int) -> int { return x + 1; }", nil},
		{"fn f( {", []int{0, 6}},
		{"fn f() { }\npub x", []int{15}},
		{"fn f() { } fn", []int{11, 13}},
		{"fn f() { a::b = 1; }", []int{0, 14}},
		{"fn f(a: int,) { }", []int{0, 12}},
	} {
		tokens, _ := lex.Lex(x.s)
		wrong := o.firstWrong(tokens)
		if (wrong < 0) != (x.path == nil) || wrong >= 0 && !slices.Equal(o.wantPath(tokens, wrong), x.path) {
			t.Errorf("%q: token %d is wrong, wanted: at %v", x.s, wrong, x.path)
		}
		if _, err := parse.Crate(x.s); !slices.Equal(fault.Path(err), x.path) {
			t.Errorf("%q: %v, wanted %v", x.s, fault.Path(err), x.path)
		}
	}
}
