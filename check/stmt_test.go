package check_test

import (
	"testing"

	"usufruct/api"
)

func TestFlow(t *testing.T) {
	areWrong(t, "15.2", "", []wrong{
		{"", api.OK},
		{"return; @none();", api.ErrFlow},
		{"return; @return;", api.ErrFlow},
		{"return; @{ }", api.ErrFlow},
		{"none(); return; @none(); none();", api.ErrFlow},
		{"{ return; } @none();", api.ErrFlow},
		{"{ return; @none(); }", api.ErrFlow},
		{"{ { return; } @none(); }", api.ErrFlow},
		{"{ none(); } none();", api.OK},
		{"if k { return; } none();", api.OK},
		{"if k { return; } else { return; } @none();", api.ErrFlow},
		{"if k { return; } else { } none();", api.OK},
		{"if k { } else { return; } none();", api.OK},
		{"if k { return; @none(); }", api.ErrFlow},
		{"if k { } else { return; @none(); }", api.ErrFlow},
		{"while k { return; } none();", api.OK},
		{"while k { return; @none(); }", api.ErrFlow},
		{"while k { break; @none(); }", api.ErrFlow},
		{"while k { continue; @none(); }", api.ErrFlow},
		{"while k { if k { break; } else { continue; } @none(); }", api.ErrFlow},
		{"loop { } @none();", api.ErrFlow},
		{"loop { return; } @none();", api.ErrFlow},
		{"loop { break; } none();", api.OK},
		{"loop { if k { break; } } none();", api.OK},
		{"loop { if k { } else { break; } } none();", api.OK},
		{"loop { { break; } } none();", api.OK},
		{"loop { loop { break; } } @none();", api.ErrFlow},
		{"loop { while k { break; } } @none();", api.ErrFlow},
		{"loop { loop { break; } break; } none();", api.OK},
		{"loop { loop { } @none(); }", api.ErrFlow},
		{"loop { break; @break; }", api.ErrFlow},
		// It is asked ahead of all that the statement itself is asked.
		{"return; @let x: U = u;", api.ErrFlow},
		{"return; @u = 1;", api.ErrFlow},
		{"return; @u();", api.ErrFlow},
		{"return; @if x { }", api.ErrFlow},
		{"return; @while x { }", api.ErrFlow},
		{"return; @return 1;", api.ErrFlow},
		{"return; @drop x;", api.ErrFlow},
		// What is wrong ahead of it is told.
		{"return; @{ u(); }", api.ErrFlow},
		{"@return 1; none();", api.ErrType},
		{"{ return; @none(); } none();", api.ErrFlow},
		{"if k { return; } else { @u(); return; } none();", api.ErrName},
	})
}

func TestLet(t *testing.T) {
	areWrong(t, "15.2", "", []wrong{
		{"let a: int = 1;", api.OK},
		{"let mut a: int = 1;", api.OK},
		{"let mut a: int;", api.OK},
		{"@let a: int;", api.ErrMut},
		{"let a: bool = true;", api.OK},
		{"@let a: bool = 1;", api.ErrType},
		{"@let a: int = true;", api.ErrType},
		{"@let x: int = 1;", api.ErrTwice},
		{"@let y: int = 1;", api.ErrTwice},
		{"let a: int = 1; @let a: int = 1;", api.ErrTwice},
		{"let a: int = 1; { @let a: int = 1; }", api.ErrTwice},
		{"{ let a: int = 1; } let a: bool = true;", api.OK},
		{"{ let a: int = 1; } { let a: bool = true; }", api.OK},
		{"if k { let a: int = 1; } else { let a: bool = k; } let a: P = p;", api.OK},
		{"while k { let a: int = 1; } loop { let a: int = 1; break; } let a: int = 1;", api.OK},
		{"if k { @let x: int = 1; }", api.ErrTwice},
		{"loop { @let x: int = 1; }", api.ErrTwice},
		// Names of functions and structs are others.
		{"let f: int = 1; let id: int = id(f); let P: int = id;", api.OK},
		// The type.
		{"@let a: U = 1;", api.ErrName},
		{"@let a: d::U = 1;", api.ErrName},
		{"@let a: T = t;", api.ErrName},
		{"let a: d::T = t;", api.OK},
		{"let a: d::T<'a> = t;", api.OK},
		{"let a: d::T<'b> = t;", api.OK},
		{"@let a: d::T<'z> = t;", api.ErrLife},
		{"@let a: d::T<'a, 'b> = t;", api.ErrArgs},
		{"@let a: d::P<'a> = c;", api.ErrArgs},
		{"let a: &int = r;", api.OK},
		{"let a: &'b int = r;", api.OK},
		{"@let a: &'z int = r;", api.ErrLife},
		{"@let a: & &'z P = rr;", api.ErrLife},
		{"@let a: &U = r;", api.ErrName},
		{"@let a: &S<'a, 'a> = &s;", api.ErrArgs},
		{"let mut a: &'a mut &'b mut S<'a>;", api.OK},
		{"let a: D = d;", api.OK},
		{"let a: D<'b, 'a> = d;", api.OK},
		{"@let a: D<'b> = d;", api.ErrArgs},
		// The value's type.
		{"@let a: d::P = p;", api.ErrType},
		{"@let a: P = c;", api.ErrType},
		{"@let a: &P = p;", api.ErrType},
		{"@let a: P = &p;", api.ErrType},
		{"@let a: &mut int = r;", api.ErrType},
		{"@let a: &int = m;", api.ErrType},
		{"let a: &mut int = m;", api.OK},
		{"@let a: & &mut P = rr;", api.ErrType},
		{"let a: & &mut P = rm;", api.OK},
		{"@let a: &mut &P = mm;", api.ErrType},
		{"@let a: int = r;", api.ErrType},
		{"@let a: int = none();", api.ErrType},
		{"@let mut a: bool = none();", api.ErrType},
		// One is asked ahead of the other.
		{"@let x: U = u;", api.ErrTwice},
		{"@let x: int;", api.ErrTwice},
		{"@let a: U;", api.ErrName},
		{"@let a: U = u;", api.ErrName},
		{"@let a: &'z int;", api.ErrLife},
		{"@let a: &'z int = u;", api.ErrLife},
		{"@let a: P<'z> = u;", api.ErrArgs},
		{"@let a: int = id(k);", api.ErrType},
		{"@let a: bool = id(1, 2);", api.ErrArgs},
		{"@let a: int = mm.*;", api.ErrBehind},
		// A name is there behind its let, not in its value.
		{"@let a: int = a;", api.ErrName},
		{"@let a: &int = &a;", api.ErrName},
		{"let a: int = x; let h: int = a;", api.OK},
	})
}

func TestNames(t *testing.T) {
	areWrong(t, "15.2", "", []wrong{
		{"{ let a: int = 1; } @y = a;", api.ErrName},
		{"let a: int = 1; { y = a; } y = a;", api.OK},
		{"if k { let a: int = 1; } else { @y = a; }", api.ErrName},
		{"if k { let a: int = 1; y = a; } @y = a;", api.ErrName},
		{"if k { } else { let a: int = 1; } @y = a;", api.ErrName},
		{"while k { let a: int = 1; } @y = a;", api.ErrName},
		{"while k { @y = a; let a: int = 1; }", api.ErrName},
		{"loop { let a: int = 1; break; } @y = a;", api.ErrName},
		{"{ { let a: int = 1; } @y = a; }", api.ErrName},
		{"{ let a: int = 1; { let h: int = a; } @y = h; }", api.ErrName},
		{"let a: int = 1; @let b: int = a;", api.ErrTwice},
		{"let a: int = 1; { let h: int = a; { let i: int = h; y = a; y = i; } y = h; } y = a;", api.OK},
		{"{ let a: int = 1; } { let h: bool = k; } @y = h;", api.ErrName},
		{"{ let a: int = 1; } let a: bool = k; l = a;", api.OK},
		{"{ let a: int = 1; } let a: bool = k; @y = a;", api.ErrType},
		{"{ let mut a: int = 1; a = 2; } let a: int = 1; @a = 2;", api.ErrMut},
		{"{ let a: int = 1; } let mut a: int = 1; a = 2;", api.OK},
		{"@u = 1;", api.ErrName},
		{"@drop u;", api.ErrName},
		{"@y = u;", api.ErrName},
		{"@if u { }", api.ErrName},
		{"@none = 1;", api.ErrName},
		{"@y = id;", api.ErrName},
	})
}

func TestSet(t *testing.T) {
	areWrong(t, "15.2", "", []wrong{
		{"y = 1;", api.OK},
		{"y = x;", api.OK},
		{"l = y < x;", api.OK},
		{"z = p;", api.OK},
		{"g = d::make(1);", api.OK},
		{"ro = &p;", api.OK},
		{"o = &mut y;", api.OK},
		{"@x = 1;", api.ErrMut},
		{"@k = true;", api.ErrMut},
		{"@y = true;", api.ErrType},
		{"@y = k;", api.ErrType},
		{"@l = 1;", api.ErrType},
		{"@z = c;", api.ErrType},
		{"@g = p;", api.ErrType},
		{"@ro = &mut z;", api.ErrType},
		{"@o = &y;", api.ErrType},
		{"@y = none();", api.ErrType},
		{"@l = no(p);", api.ErrType},
		{"let mut a: int; a = 1;", api.OK},
		{"let a: int = 1; @a = 1;", api.ErrMut},
		{"let mut a: int = 1; { a = 2; }", api.OK},
		// The place's errors, then whether it may be changed, then the value's errors, then its type.
		{"@u = v;", api.ErrName},
		{"@x.u = w();", api.ErrType},
		{"@p.u = w();", api.ErrName},
		{"@x.* = w();", api.ErrType},
		{"@x = u();", api.ErrMut},
		{"@x = u;", api.ErrMut},
		{"@x = true;", api.ErrMut},
		{"@p.n = u;", api.ErrMut},
		{"@y = u;", api.ErrName},
		{"@y = id(1, 2);", api.ErrArgs},
		{"@y = id(k);", api.ErrType},
		{"@l = id(u);", api.ErrName},
		{"@y = mm.*;", api.ErrBehind},
		{"@z = s.q.*;", api.ErrBehind},
	})
}

func TestCalls(t *testing.T) {
	areWrong(t, "15.2", "", []wrong{
		{"none();", api.OK},
		{"no(p);", api.OK},
		{"no(p); no(p);", api.OK},
		{"id(1);", api.OK},
		{"id(x);", api.OK},
		{"d::make(1);", api.OK},
		{"d::take(c);", api.OK},
		{"@f();", api.ErrArgs},
		{"@u();", api.ErrName},
		{"@d::u();", api.ErrName},
		{"@make(1);", api.ErrName},
		{"@P(1, k);", api.ErrName},
		{"@x();", api.ErrName},
		{"@id();", api.ErrArgs},
		{"@id(1, 2);", api.ErrArgs},
		{"@none(1);", api.ErrArgs},
		{"@id(true);", api.ErrType},
		{"@no(c);", api.ErrType},
		{"@d::take(p);", api.ErrType},
		{"@no(u);", api.ErrName},
		{"@no(s.q.*);", api.ErrBehind},
		{"@u(v);", api.ErrName},
		{"@id(u, v);", api.ErrArgs},
	})
}

func TestIfsAndWhiles(t *testing.T) {
	areWrong(t, "15.2", "", []wrong{
		{"if k { }", api.OK},
		{"if true { } else { }", api.OK},
		{"if b.c.* { }", api.OK},
		{"if b.d.* { }", api.OK},
		{"@if x { }", api.ErrType},
		{"@if 1 { }", api.ErrType},
		{"@if b { }", api.ErrType},
		{"@if b.c { }", api.ErrType},
		{"@if u { }", api.ErrName},
		{"@if mm.* { }", api.ErrBehind},
		{"while k { }", api.OK},
		{"while false { }", api.OK},
		{"@while x { }", api.ErrType},
		{"@while 0 { }", api.ErrType},
		{"@while u { }", api.ErrName},
		{"@while k.u { }", api.ErrType},
		{"@while b.u { }", api.ErrName},
		{"@while mm.* { }", api.ErrBehind},
		// The condition, then the blocks, Then first.
		{"@if x { u(); } else { v(); }", api.ErrType},
		{"if k { @u(); } else { x = 1; }", api.ErrName},
		{"if k { @x = 1; } else { u(); }", api.ErrMut},
		{"if k { } else { @x = 1; }", api.ErrMut},
		{"if k { if k { } else { @x = 1; } } else { u(); }", api.ErrMut},
		{"@while x { u(); }", api.ErrType},
		{"while k { none(); @u(); }", api.ErrName},
		{"while k { while k { @x = 1; } u(); }", api.ErrMut},
	})
}

func TestLoopsAndBlocks(t *testing.T) {
	areWrong(t, "15.2", "", []wrong{
		{"loop { }", api.OK},
		{"loop { none(); }", api.OK},
		{"loop { @u(); }", api.ErrName},
		{"loop { none(); @x = 1; }", api.ErrMut},
		{"loop { loop { @x = 1; } }", api.ErrMut},
		{"{ }", api.OK},
		{"{ @u(); }", api.ErrName},
		{"{ none(); @x = 1; u(); }", api.ErrMut},
		{"{ { @x = 1; } u(); }", api.ErrMut},
		{"{ none(); } @u();", api.ErrName},
	})
}

func TestBreaks(t *testing.T) {
	for _, word := range []string{"break;", "continue;"} {
		areWrong(t, "15.2", "", []wrong{
			{"@" + word, api.ErrFlow},
			{"{ @" + word + " }", api.ErrFlow},
			{"if k { @" + word + " }", api.ErrFlow},
			{"if k { } else { @" + word + " }", api.ErrFlow},
			{"loop { break; } @" + word, api.ErrFlow},
			{"while k { } @" + word, api.ErrFlow},
			{"{ loop { break; } @" + word + " }", api.ErrFlow},
			{"if k { while k { } } else { @" + word + " }", api.ErrFlow},
			{"loop { " + word + " }", api.OK},
			{"while k { " + word + " }", api.OK},
			{"loop { { " + word + " } }", api.OK},
			{"loop { if k { " + word + " } }", api.OK},
			{"while k { if k { } else { { " + word + " } } }", api.OK},
			{"loop { while k { " + word + " } }", api.OK},
			{"while k { loop { " + word + " } }", api.OK},
			{"loop { while k { } " + word + " }", api.OK},
			{"{ if k { loop { if k { " + word + " } } } }", api.OK},
		})
	}
}

func TestReturns(t *testing.T) {
	areWrong(t, "15.2", "", []wrong{
		{"return;", api.OK},
		{"@return 1;", api.ErrType},
		{"@return none();", api.ErrType},
		{"@return u;", api.ErrType},
		{"if k { return; }", api.OK},
		{"if k { @return x; }", api.ErrType},
	})
	areWrong(t, "15.2", "int", []wrong{
		{"return 1;", api.OK},
		{"return x;", api.OK},
		{"return id(x);", api.OK},
		{"return x + s.p.n;", api.OK},
		{"@return;", api.ErrType},
		{"@return true;", api.ErrType},
		{"@return none();", api.ErrType},
		{"@return u;", api.ErrName},
		{"@return id();", api.ErrArgs},
		{"@return x < y;", api.ErrType},
		{"@return mm.*;", api.ErrBehind},
		{"if k { @return; } return 1;", api.ErrType},
		{"if k { return 1; } @return k;", api.ErrType},
	})
	areWrong(t, "15.2", "P", []wrong{
		{"return p;", api.OK},
		{"return P { n: 1, b: k };", api.OK},
		{"@return c;", api.ErrType},
		{"@return &p;", api.ErrType},
		{"@return s.q.*;", api.ErrBehind},
	})
	areWrong(t, "15.2", "&'a mut d::T<'b>", []wrong{
		{"return w.t;", api.OK},
		{"let mut a: d::T = t; return &mut a;", api.OK},
		{"@return &t;", api.ErrType},
		{"@return &mut t;", api.ErrMut},
		{"@return t;", api.ErrType},
	})
}

func TestDrops(t *testing.T) {
	areWrong(t, "15.2", "", []wrong{
		{"drop p;", api.OK},
		{"drop p; drop p;", api.OK},
		{"drop s;", api.OK},
		{"drop s.p;", api.OK},
		{"drop s.q;", api.OK},
		{"drop m;", api.OK},
		{"drop mr;", api.OK},
		{"@drop x;", api.ErrType},
		{"@drop k;", api.ErrType},
		{"@drop r;", api.ErrType},
		{"@drop rm;", api.ErrType},
		{"@drop s.r;", api.ErrType},
		{"@drop s.i;", api.ErrType},
		{"@drop s.q.*;", api.ErrBehind},
		{"@drop s.r.*;", api.ErrBehind},
		{"@drop mm.*;", api.ErrBehind},
		{"@drop mm.*.*;", api.ErrBehind},
		{"@drop rm.*;", api.ErrBehind},
		{"@drop e.t.*;", api.ErrBehind},
		// A Copy is told ahead of a "*", and the place ahead of both.
		{"@drop m.*;", api.ErrType},
		{"@drop s.q.*.n;", api.ErrType},
		{"@drop rr.*;", api.ErrType},
		{"@drop u;", api.ErrName},
		{"@drop p.u;", api.ErrName},
		{"@drop s.q.*.u;", api.ErrName},
		{"@drop x.n;", api.ErrType},
		{"@drop p.*;", api.ErrType},
	})
}

func TestTheEnd(t *testing.T) {
	// Without a mark, the error is at the function.
	areWrong(t, "15.2", "int", []wrong{
		{"", api.ErrFlow},
		{"none();", api.ErrFlow},
		{"if k { return 1; }", api.ErrFlow},
		{"if k { return 1; } else { }", api.ErrFlow},
		{"if k { return 1; } else { return 2; }", api.OK},
		{"while true { return 1; }", api.ErrFlow},
		{"while true { }", api.ErrFlow},
		{"loop { }", api.OK},
		{"loop { return 1; }", api.OK},
		{"loop { break; }", api.ErrFlow},
		{"loop { if k { break; } return 1; }", api.ErrFlow},
		{"loop { while k { break; } }", api.OK},
		{"loop { loop { break; } }", api.OK},
		{"{ return 1; }", api.OK},
		{"{ }", api.ErrFlow},
		{"none(); { if k { return 1; } else { loop { } } }", api.OK},
		{"return 1;", api.OK},
		{"y = 1; return y;", api.OK},
		// What is wrong in the body is told ahead of the end.
		{"@u();", api.ErrName},
		{"if k { @return; }", api.ErrType},
		{"return 1; @none();", api.ErrFlow},
	})
	areWrong(t, "15.2", "bool", []wrong{{"", api.ErrFlow}, {"{ { } }", api.ErrFlow}, {"return k;", api.OK}})
	areWrong(t, "15.2", "&'a int", []wrong{{"none();", api.ErrFlow}, {"return r;", api.OK}})
	areWrong(t, "15.2", "", []wrong{
		{"", api.OK},
		{"loop { }", api.OK},
		{"return;", api.OK},
		{"if k { return; }", api.OK},
		{"while true { break; }", api.OK},
	})
}
