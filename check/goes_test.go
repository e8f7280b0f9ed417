package check_test

import (
	"testing"

	"usufruct/api"
	"usufruct/check"
)

// bodyOf is a body whose names mean nothing: Goes does not ask for them.
func bodyOf(t *testing.T, body string) []api.Stmt {
	t.Helper()
	return parsed(t, "fn f() { "+body+" }").Funcs[0].Body
}

func TestGoes(t *testing.T) {
	for _, x := range []struct {
		body string
		want bool
	}{
		{"", true},
		// Those that go on, and those that do not.
		{"let a: int = 1;", true},
		{"let mut a: int;", true},
		{"a = 1;", true},
		{"f();", true},
		{"drop a;", true},
		{"break;", false},
		{"continue;", false},
		{"return;", false},
		{"return a;", false},
		// An if, with an else and without one.
		{"if a { }", true},
		{"if a { return; }", true},
		{"if a { return; } else { }", true},
		{"if a { } else { return; }", true},
		{"if a { return; } else { return; }", false},
		{"if a { break; } else { continue; }", false},
		{"if a { if b { return; } } else { return; }", true},
		{"if a { return; } else { if b { return; } else { return; } }", false},
		{"if a { f(); return; } else { f(); return; }", false},
		{"if a { return; f(); } else { return; f(); }", false},
		// A while goes on, whatever is in it.
		{"while true { }", true},
		{"while true { return; }", true},
		{"while true { break; }", true},
		{"while true { continue; }", true},
		{"while true { loop { } }", true},
		// A block as what is in it.
		{"{ }", true},
		{"{ return; }", false},
		{"{ { { return; } } }", false},
		{"{ f(); { f(); } }", true},
		{"{ if a { return; } }", true},
		{"{ break; }", false},
		{"{ return; f(); }", false},
		// A loop by a break of its own, whether that is come to or not.
		{"loop { }", false},
		{"loop { f(); }", false},
		{"loop { continue; }", false},
		{"loop { return; }", false},
		{"loop { break; }", true},
		{"loop { f(); break; }", true},
		{"loop { return; break; }", true},
		{"loop { break; return; }", true},
		{"loop { if a { break; } }", true},
		{"loop { if a { } else { break; } }", true},
		{"loop { if a { return; } else { { break; } } }", true},
		{"loop { { { break; } } }", true},
		{"loop { { if a { { break; } } } return; }", true},
		{"loop { loop { break; } }", false},
		{"loop { while a { break; } }", false},
		{"loop { if a { loop { break; } } }", false},
		{"loop { { while a { if b { break; } } } }", false},
		{"loop { loop { break; } break; }", true},
		{"loop { while a { break; } if b { break; } }", true},
		{"loop { loop { } break; }", true},
		{"loop { break; loop { } }", true},
		{"loop { loop { loop { break; } break; } break; }", true},
		{"loop { loop { loop { break; } break; } }", false},
		// One of several that does not go on is enough.
		{"f(); f();", true},
		{"return; f();", false},
		{"f(); return;", false},
		{"f(); loop { } f();", false},
		{"loop { break; } while a { break; } { } if a { }", true},
		{"break; loop { break; }", false},
	} {
		if check.Goes(bodyOf(t, x.body)) != x.want {
			t.Errorf("15.1: %q: not %v", x.body, x.want)
		}
	}
}

// smallBodies are all lists of these statements, one behind the other or within one another, with at most so many in all.
func smallBodies(count int) [][]api.Stmt {
	bodies := [][]api.Stmt{nil}
	for used := 1; used <= count; used++ {
		for _, first := range smallStmts(used) {
			for _, rest := range smallBodies(count - used) {
				bodies = append(bodies, append([]api.Stmt{first}, rest...))
			}
		}
	}
	return bodies
}

// smallStmts are all statements that, with those within them, are so many.
func smallStmts(count int) []api.Stmt {
	var l []api.Stmt
	if count == 1 {
		for _, kind := range []int{api.StmtCall, api.StmtBreak, api.StmtContinue, api.StmtReturn} {
			l = append(l, api.Stmt{Kind: kind})
		}
	}
	for _, then := range smallBodies(count - 1) {
		size := countOf(then)
		for _, kind := range []int{api.StmtIf, api.StmtWhile, api.StmtLoop, api.StmtBlock} {
			if size == count-1 {
				l = append(l, api.Stmt{Kind: kind, Then: then})
			}
		}
		for _, other := range smallBodies(count - 1 - size) {
			if size+countOf(other) == count-1 {
				l = append(l, api.Stmt{Kind: api.StmtIf, Has: true, Then: then, Else: other})
			}
		}
	}
	return l
}

func countOf(l []api.Stmt) int {
	n := 0
	for _, x := range l {
		n += 1 + countOf(x.Then) + countOf(x.Else)
	}
	return n
}

func TestGoesOfAllSmallBodies(t *testing.T) {
	goes := 0
	all := smallBodies(4)
	for _, l := range all {
		want := wantGoes(l)
		if check.Goes(l) != want {
			t.Fatalf("15.1: %s: not %v", short(l), want)
		}
		if want {
			goes++
		}
	}
	if goes < 1000 || len(all)-goes < 1000 {
		t.Fatalf("15.1: only %d of %d go on", goes, len(all))
	}
}

// Lists that the kind of a statement does not have are no part of it.
func TestGoesOfWhatNoTextMeans(t *testing.T) {
	back := []api.Stmt{{Kind: api.StmtReturn}}
	stop := []api.Stmt{{Kind: api.StmtBreak}}
	for _, x := range []struct {
		what string
		l    []api.Stmt
		want bool
	}{
		{"an unknown kind", []api.Stmt{{Kind: 99}, {Kind: -1}, {Kind: 0}}, true},
		{"an unknown kind with a block", []api.Stmt{{Kind: 12, Then: back, Else: back, Has: true}}, true},
		{"an else that the if does not have", []api.Stmt{{Kind: api.StmtIf, Then: back, Else: back}}, true},
		{"a call with a block", []api.Stmt{{Kind: api.StmtCall, Then: back}}, true},
		{"a block with an else", []api.Stmt{{Kind: api.StmtBlock, Has: true, Else: back}}, true},
		{"a loop with a break in an else of its own", []api.Stmt{{Kind: api.StmtLoop, Has: true, Else: stop}}, false},
		{"a loop with a break in an else that the if does not have", []api.Stmt{{Kind: api.StmtLoop, Then: []api.Stmt{{Kind: api.StmtIf, Else: stop}}}}, false},
		{"a loop with a break in a block of a call", []api.Stmt{{Kind: api.StmtLoop, Then: []api.Stmt{{Kind: api.StmtCall, Then: stop}}}}, false},
		{"a loop with a break in an else of a block", []api.Stmt{{Kind: api.StmtLoop, Then: []api.Stmt{{Kind: api.StmtBlock, Has: true, Else: stop}}}}, false},
		{"a break with a block", []api.Stmt{{Kind: api.StmtBreak, Then: []api.Stmt{{Kind: api.StmtCall}}}}, false},
	} {
		if check.Goes(x.l) != x.want {
			t.Errorf("15.1: %s: not %v", x.what, x.want)
		}
	}
}

func TestGoesLeavesWhatIsHandedIn(t *testing.T) {
	for _, body := range []string{"", "f(); if a { return; } else { loop { break; } }", "loop { while a { break; } { continue; } }"} {
		l := bodyOf(t, body)
		want := check.Goes(l)
		kept(t, "15.1: "+body, l, func(l []api.Stmt) { check.Goes(l) })
		if check.Goes(hollowed(l)) != want || check.Goes(l) != want {
			t.Errorf("15.1: %s: with lists that are empty, but not nil, or asked again: not %v", body, want)
		}
	}
	if !check.Goes([]api.Stmt{}) {
		t.Error("15.1: an empty list does not go on")
	}
}
