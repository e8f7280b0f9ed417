package parse_test

import (
	"strings"
	"testing"

	"usufruct/api"
	"usufruct/tree"
)

// many is n times a text, with another one between.
func many(s, between string, n int) string {
	return strings.Repeat(s+between, n-1) + s
}

// wrongTokens are tokens that can't stand where a member, a statement or an item begins, or a block or a type; the empty one is the text's end.
func wrongTokens() []string { return []string{")", ";", ",", ">", "else", "::", "==", ""} }

// listForm is a kind of list: what stands around it, a member, what is between two members, and how many there are in a tree.
type listForm struct {
	before, member, between, after string
	count                          func(c api.Crate) int
}

func listForms() map[string]listForm {
	first := func(c api.Crate) api.Func { return c.Funcs[0] }
	stmt := func(c api.Crate) api.Stmt { return c.Funcs[0].Body[0] }
	return map[string]listForm{
		"lifetimes of a struct":    {"struct S<", "'a", ", ", "> { }", func(c api.Crate) int { return len(c.Structs[0].Lives) }},
		"lifetimes of a function":  {"fn f<", "'a: 'b", ", ", ">() { }", func(c api.Crate) int { return len(first(c).Lives) }},
		"those that one outlives":  {"fn f<'a: ", "'b", " + ", ">() { }", func(c api.Crate) int { return len(first(c).Lives[0].Over) }},
		"lifetimes of a field":     {"struct S { f: T<", "'a", ",", "> }", func(c api.Crate) int { return len(c.Structs[0].Fields[0].Type.Lives) }},
		"lifetimes of a parameter": {"fn f(x: & d::S<", "'a", ",", ">) { }", func(c api.Crate) int { return len(first(c).Params[0].Type.Elem[0].Lives) }},
		"lifetimes of a result":    {"fn f() -> S<", "'a", ",", "> { }", func(c api.Crate) int { return len(first(c).Result.Lives) }},
		"lifetimes of a let":       {"fn f() { let x: S<", "'a", ",", ">; }", func(c api.Crate) int { return len(stmt(c).Type.Lives) }},
		"fields":                   {"struct S { ", "f: int", ", ", " }", func(c api.Crate) int { return len(c.Structs[0].Fields) }},
		"parameters":               {"fn f(", "x: int", ", ", ") { }", func(c api.Crate) int { return len(first(c).Params) }},
		"mutable parameters":       {"pub fn f(", "mut x: int", ", ", ") { }", func(c api.Crate) int { return len(first(c).Params) }},
		"arguments":                {"fn f() { g(", "x.y", ", ", "); }", func(c api.Crate) int { return len(stmt(c).Value.Args) }},
		"arguments of a value":     {"fn f() { x = d::g(", "1", ", ", "); }", func(c api.Crate) int { return len(stmt(c).Value.Args) }},
		"parts of a struct":        {"fn f() { x = S { ", "f: 1", ", ", " }; }", func(c api.Crate) int { return len(stmt(c).Value.Names) }},
		"a path to drop":           {"fn f() { drop x.", "y", ".", "; }", func(c api.Crate) int { return len(stmt(c).Place.Path) }},
		"a path to set":            {"fn f() { x.", "*", ".", " = 1; }", func(c api.Crate) int { return len(stmt(c).Place.Path) }},
		"a path in a value":        {"fn f() { x = y.", "*", ".", "; }", func(c api.Crate) int { return len(stmt(c).Value.A.Place.Path) }},
		"a path behind a sign":     {"fn f() { x = 1 + y.", "z", ".", "; }", func(c api.Crate) int { return len(stmt(c).Value.B.Place.Path) }},
		"a path to refer to":       {"fn f() { x = &mut y.", "z", ".", "; }", func(c api.Crate) int { return len(stmt(c).Value.Place.Path) }},
		"a path to ask":            {"fn f() { if x.", "y", ".", " { } }", func(c api.Crate) int { return len(stmt(c).Cond.Place.Path) }},
		"a path of an argument":    {"fn f() { g(x.", "y", ".", "); }", func(c api.Crate) int { return len(stmt(c).Value.Args[0].Place.Path) }},
	}
}

func TestMostParts(t *testing.T) {
	for what, x := range listForms() {
		for _, n := range []int{1, 2, api.MaxParts - 1, api.MaxParts} {
			c := parsed(t, x.before+many(x.member, x.between, n)+x.after)
			if got := x.count(c); got != n {
				t.Errorf("%s: %d, not %d", what, got, n)
			}
		}
		item := len(x.before) - len(strings.TrimPrefix(x.before, "pub "))
		full := x.before + many(x.member, x.between, api.MaxParts) + x.between
		refused(t, full+x.member+x.after, api.ErrLong, item, len(full))
		refused(t, full+many(x.member, x.between, 100)+x.after, api.ErrLong, item, len(full))
		for _, wrong := range wrongTokens() {
			refused(t, full+wrong, api.ErrLong, item, len(full))
		}
		// Ahead of the member that is too many nothing is told of it.
		one := x.before + many(x.member, x.between, api.MaxParts-1) + x.between
		refused(t, one+"; "+many(x.member, x.between, 2)+x.after, api.ErrSyntax, item, len(one))
	}
}

// Lists within one another, and behind one another, are counted each for itself.
func TestPartsApart(t *testing.T) {
	most := many("'a", ",", api.MaxParts)
	over := many("'b", "+", api.MaxParts)
	fields := many("f: T<"+most+">", ",", api.MaxParts)
	lives := many("'a: "+over, ",", api.MaxParts)
	path := many("y", ".", api.MaxParts)
	args := many("x."+path, ",", api.MaxParts)
	c := parsed(t, "struct S<"+most+"> {"+fields+"} fn f<"+lives+">("+fields+") -> S<"+most+"> { g("+args+"); x = d::g("+args+"); }")
	f := c.Funcs[0]
	if len(f.Lives) != api.MaxParts || len(f.Lives[api.MaxParts-1].Over) != api.MaxParts || len(f.Params) != api.MaxParts || len(f.Body[1].Value.Args[api.MaxParts-1].Place.Path) != api.MaxParts {
		t.Error("a list is cut short")
	}
}

func TestMostTypeLives(t *testing.T) {
	full := "S<" + many("'a", ",", api.MaxParts)
	parsedType(t, full+">")
	refusedType(t, full+",'a>", api.ErrLong, len(full)+1)
	for _, wrong := range wrongTokens() {
		refusedType(t, full+","+wrong, api.ErrLong, len(full)+1)
	}
}

func TestMostItems(t *testing.T) {
	for _, item := range []string{"fn f() { }", "pub fn f() { }", "struct S { }", "pub struct S { }", "struct S { } fn f() { }"} {
		each := strings.Count(item, "{")
		full := strings.Repeat(item+"\n", api.MaxItems/each)
		c := parsed(t, full+" // fn\n")
		if len(c.Structs)+len(c.Funcs) != api.MaxItems {
			t.Errorf("%q: %d structs and %d functions", item, len(c.Structs), len(c.Funcs))
		}
		for _, next := range []string{"fn f() { }", "struct S { }", "pub fn", "pub struct S { }", "pub", "struct", "fn", "x", "}", "'a", "pub pub", "1"} {
			refused(t, full+"  "+next, api.ErrLong, len(full)+2)
		}
		// What is wrong ahead of it is told first.
		at := len(full) - len("}\n")
		item := strings.LastIndex(full, "fn")
		item = max(item, strings.LastIndex(full, "struct"))
		refused(t, full[:at]+")"+full[at+1:]+"fn f() { }", api.ErrSyntax, item, at)
		refused(t, full[:at], api.ErrSyntax, item, at)
	}
}

// bodies are texts of a hundred statements each.
func bodies() map[string]string {
	return map[string]string{
		"one kind":      strings.Repeat("break;", 100),
		"every kind":    strings.Repeat("let x: int;x = 1;g();if x { }while x { }loop { }{ }break;return;drop x;", 10),
		"within others": strings.Repeat("if x { break; } else { break; } loop { { } } while x { let x: int = 1; { } }", 12) + "x = 1;{ { } }return x;",
		"deep":          strings.Repeat("{", 50) + strings.Repeat("}", 50) + strings.Repeat("loop{", 50) + strings.Repeat("}", 50),
	}
}

func TestMostStatements(t *testing.T) {
	for what, hundred := range bodies() {
		c := parsed(t, inBody(hundred))
		if n := tree.Count(c.Funcs[0].Body); n != 100 {
			t.Fatalf("%s: %d statements", what, n)
		}
		full := "fn f() { " + strings.Repeat(hundred, api.MaxStmts/100)
		c = parsed(t, full+"}")
		if n := tree.Count(c.Funcs[0].Body); n != api.MaxStmts {
			t.Fatalf("%s: %d statements", what, n)
		}
		for _, next := range []string{"break;", "let x: int;", "x = 1;", "g();", "if x { }", "loop { }", "{ }", "{", "return;", "'a", "fn", "1"} {
			refused(t, full+next+" }", api.ErrLong, 0, len(full))
		}
		for _, wrong := range wrongTokens() {
			refused(t, full+wrong, api.ErrLong, 0, len(full))
		}
		// What is wrong ahead of it is told first.
		refused(t, full+"} }", api.ErrSyntax, len(full)+2)
		refused(t, strings.Replace(full, "{ ", "{ ;", 1)+"break; }", api.ErrSyntax, 0, bodyAt)
	}
}

// A statement counts ahead of those within it: the last one that may be has no room for any.
func TestStatementsCountFirst(t *testing.T) {
	ahead := "struct S { } pub fn f() { " + strings.Repeat("break;", api.MaxStmts-1)
	item := len("struct S { } pub ")
	for _, open := range []string{"{ ", "loop { ", "while x { ", "if x { ", "if x { } else { "} {
		parsed(t, ahead+open+"} }")
		refused(t, ahead+open+"break; } }", api.ErrLong, item, len(ahead+open))
		refused(t, ahead+open+"{ } } }", api.ErrLong, item, len(ahead+open))
		refused(t, ahead+open, api.ErrLong, item, len(ahead+open))
	}
	for _, before := range []string{"{ break; ", "if x { break; } else { "} {
		refused(t, ahead+before, api.ErrLong, item, len(ahead)+strings.Index(before, "break"))
	}
	two := "struct S { } pub fn f() { " + strings.Repeat("break;", api.MaxStmts-2)
	for _, pair := range []string{"{ break; }", "{ { } }", "loop { break; }", "if x { break; }", "if x { break; } else { }", "if x { } else { break; }"} {
		parsed(t, two+pair+" }")
		refused(t, two+pair+" g(); }", api.ErrLong, item, len(two+pair)+1)
	}
}

// Each function has its own statements and its own depth.
func TestFunctionsApart(t *testing.T) {
	body := strings.Repeat("break;", api.MaxStmts-api.MaxDepth+1)
	deep := strings.Repeat("{", api.MaxDepth-1) + strings.Repeat("}", api.MaxDepth-1)
	one := "fn f() { " + body + deep + "}\n"
	parsed(t, strings.Repeat(one, 20))
	tail := "fn f() { " + body + deep
	refused(t, one+one+tail+"break; }", api.ErrLong, 2*len(one), 2*len(one)+len(tail))
}

// opens are all ways into a block within a statement, without its brace.
func opens() []string {
	return []string{"", "loop ", "while x ", "if x ", "if x { } else "}
}

func TestDeepestBlocks(t *testing.T) {
	for _, open := range opens() {
		nested := strings.Repeat(open+"{ ", api.MaxDepth-1)
		closing := strings.Repeat("} ", api.MaxDepth)
		parsed(t, "fn f() { "+nested+"break; "+closing)
		parsed(t, "fn f() { "+nested+closing)
		full := "fn f() { " + nested
		for _, last := range opens() {
			// The block of an if comes ahead of that of its else.
			last, _, _ = strings.Cut(last, "{")
			refused(t, full+last+"{ } "+closing, api.ErrDeep, 0, len(full+last))
			refused(t, full+last+"{ ", api.ErrDeep, 0, len(full+last))
			if last == "" {
				continue
			}
			for _, wrong := range wrongTokens() {
				refused(t, full+last+wrong, api.ErrDeep, 0, len(full+last))
			}
		}
		// Where no block can be meant, the token alone is wrong; so is what is wrong ahead of the block.
		refused(t, full+")", api.ErrSyntax, 0, len(full))
		refused(t, full+"while { }", api.ErrSyntax, 0, len(full+"while "))
	}
}

// Blocks that have ended are not counted any more.
func TestBlocksSideBySide(t *testing.T) {
	deep := strings.Repeat("{", api.MaxDepth-1) + strings.Repeat("}", api.MaxDepth-1)
	parsed(t, inBody(strings.Repeat(deep, 31)))
	ifs := "if x " + deep + " else " + deep
	parsed(t, inBody(ifs+" while x "+deep+" loop "+deep+deep))
	s := "fn f() { " + deep + ifs
	deeper := strings.Repeat("{", api.MaxDepth)
	refused(t, s+deeper, api.ErrDeep, 0, len(s+deeper)-1)
}

// typePlaces are all places where a type stands: what is ahead of it, and behind it.
func typePlaces() map[string]string {
	return map[string]string{
		"struct S { f: ":                         " }",
		"struct S { f: int, g: ":                 ", h: int }",
		"fn f(x: ":                               ") { }",
		"fn f(x: int, mut y: ":                   ") { }",
		"fn f() -> ":                             " { }",
		"fn f() { let x: ":                       "; }",
		"fn f() { { let mut x: int = 1; let y: ": " = x; } }",
	}
}

func TestDeepestTypes(t *testing.T) {
	for before, after := range typePlaces() {
		for _, to := range []string{"&", "& mut ", "&'a ", "&'mut mut "} {
			parsed(t, before+strings.Repeat(to, api.MaxDepth-1)+"int"+after)
			parsed(t, before+strings.Repeat(to, api.MaxDepth-1)+"d::S<'a, 'b>"+after)
			full := before + strings.Repeat(to, api.MaxDepth)
			for _, last := range []string{"int", "S<'a>", "d::S", "bool"} {
				refused(t, full+last+after, api.ErrDeep, 0, len(full))
			}
			refused(t, full+"&int"+after, api.ErrDeep, 0, len(full))
			for _, wrong := range wrongTokens() {
				refused(t, full+wrong, api.ErrDeep, 0, len(full))
			}
		}
	}
}

func TestDeepestTypeAlone(t *testing.T) {
	for _, to := range []string{"&", "& mut ", "&'a ", "&'mut mut "} {
		x := parsedType(t, strings.Repeat(to, api.MaxDepth-1)+"int")
		depth := 1
		for ; len(x.Elem) == 1; depth++ {
			x = x.Elem[0]
		}
		if depth != api.MaxDepth || x.Kind != api.KindInt {
			t.Errorf("%q: %d deep", to, depth)
		}
		full := strings.Repeat(to, api.MaxDepth)
		for _, last := range append(wrongTokens(), "int", "S<", "&", "&int", "7") {
			refusedType(t, full+last, api.ErrDeep, len(full))
		}
	}
	// A lifetime, or mut, behind the last & is not yet what that refers to.
	full := strings.Repeat("&", api.MaxDepth)
	refusedType(t, full+"'a int", api.ErrDeep, len(full)+3)
	refusedType(t, full+"mut int", api.ErrDeep, len(full)+4)
	refusedType(t, full+"'a 'b int", api.ErrDeep, len(full)+3)
	refusedType(t, full+"mut mut int", api.ErrDeep, len(full)+4)
	refusedType(t, strings.Repeat("&", api.MaxDepth-1)+"'a 'b", api.ErrSyntax, api.MaxDepth-1+3)
}

// A type's depth and the blocks around it are not counted together.
func TestTypesWithinBlocks(t *testing.T) {
	blocks := "fn f() " + strings.Repeat("{", api.MaxDepth) + "let x: " + strings.Repeat("&", api.MaxDepth-1)
	parsed(t, blocks+"int;"+strings.Repeat("}", api.MaxDepth))
	refused(t, blocks+"&int;", api.ErrDeep, 0, len(blocks)+1)
}

// Where a statement is one too many, and its block is too deep as well, it is one too many.
func TestLongAheadOfDeep(t *testing.T) {
	deep := strings.Repeat("{", api.MaxDepth-1)
	body := strings.Repeat("break;", api.MaxStmts-api.MaxDepth)
	full := "fn f() { " + body + deep
	refused(t, full+"{ }", api.ErrDeep, 0, len(full))
	refused(t, full+"break;{ }", api.ErrLong, 0, len(full+"break;"))
	refused(t, full+"loop { }", api.ErrDeep, 0, len(full+"loop "))
	refused(t, full+"break;loop { }", api.ErrLong, 0, len(full+"break;"))
	parsed(t, full+"break;"+strings.Repeat("}", api.MaxDepth))
}
