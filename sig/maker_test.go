package sig_test

import (
	"bytes"
	"math/rand"
	"reflect"
	"slices"
	"testing"

	"usufruct/api"
	"usufruct/sig"
	"usufruct/tree"
)

// maker makes crates by chance that may be.
type maker struct{ r *rand.Rand }

func newMaker(seed int64) maker { return maker{rand.New(rand.NewSource(seed))} }

func (m maker) coin() bool { return m.r.Intn(2) == 0 }

func (m maker) pick(of ...string) string { return of[m.r.Intn(len(of))] }

func (m maker) name() string {
	return m.pick("x", "y", "f", "S", "_", "a1", "fnx", "Int", "USIG", "abcdefghijabcdefghijabcdefghij12")
}

func (m maker) farName() string {
	if m.coin() {
		return m.name()
	}
	return m.name() + "::" + m.name()
}

func (m maker) life() string {
	return m.pick("a", "b", "mut", "int", "fn", "_1", "abcdefghijabcdefghijabcdefghij12")
}

func some[T any](m maker, one func() T) []T {
	return times(m.r.Intn(4), func(int) T { return one() })
}

func (m maker) typeOf() api.Type {
	switch m.r.Intn(6) {
	case 0:
		return number()
	case 1:
		return truth()
	case 2:
		return named(m.farName(), some(m, m.life)...)
	case 3:
		return mutRef(m.typeOf())
	case 4:
		return ref(m.typeOf(), m.life())
	}
	return ref(mutRef(m.typeOf(), m.life()))
}

func (m maker) field() api.Field { return field(m.name(), m.typeOf()) }

func (m maker) param() api.Field {
	return api.Field{Mut: m.coin(), Name: m.name(), Type: m.typeOf()}
}

func (m maker) structOf() api.Struct {
	return api.Struct{Pub: m.coin(), Name: m.name(), Lives: some(m, m.life), Fields: some(m, m.field), At: m.r.Intn(3)}
}

func (m maker) lifeOf() api.Life { return api.Life{Name: m.life(), Over: some(m, m.life)} }

func (m maker) stmt() api.Stmt {
	at := m.r.Intn(9)
	switch m.r.Intn(4) {
	case 0:
		return api.Stmt{Kind: api.StmtLet, At: at, Name: m.name(), Type: m.typeOf()}
	case 1:
		return api.Stmt{Kind: api.StmtLoop, At: at, Then: []api.Stmt{{Kind: api.StmtBreak}}}
	case 2:
		return api.Stmt{Kind: api.StmtCall, At: at, Value: api.Value{Kind: api.ValueCall, Name: m.farName()}}
	}
	return api.Stmt{Kind: api.StmtReturn, At: at}
}

func (m maker) funcOf() api.Func {
	f := api.Func{Pub: m.coin(), Name: m.name(), Lives: some(m, m.lifeOf), Params: some(m, m.param), Body: some(m, m.stmt), At: m.r.Intn(3)}
	if m.coin() {
		f.Result = m.typeOf()
	}
	return f
}

func (m maker) crate() api.Crate {
	return api.Crate{Structs: some(m, m.structOf), Funcs: some(m, m.funcOf)}
}

func (m maker) sig() api.Sig { return wantOf(m.name(), m.crate()) }

// unseen changes what a sig does not show: bodies, places, and what is not Pub.
func (m maker) unseen(c api.Crate) api.Crate {
	changed := api.Crate{Structs: some(m, m.hiddenStruct), Funcs: some(m, m.hiddenFunc)}
	for _, s := range c.Structs {
		if s.Pub {
			s.At += m.r.Intn(3)
			changed.Structs = append(changed.Structs, s)
		}
		if m.coin() {
			changed.Structs = append(changed.Structs, m.hiddenStruct())
		}
	}
	for _, f := range c.Funcs {
		if f.Pub {
			f.At += m.r.Intn(3)
			f.Body = some(m, m.stmt)
			changed.Funcs = append(changed.Funcs, f)
		}
		if m.coin() {
			changed.Funcs = append(changed.Funcs, m.hiddenFunc())
		}
	}
	return changed
}

func (m maker) hiddenStruct() api.Struct {
	s := m.structOf()
	s.Pub = false
	return s
}

func (m maker) hiddenFunc() api.Func {
	f := m.funcOf()
	f.Pub = false
	return f
}

// spoilt has one thing changed somewhere: most sigs that are so may not be.
func (m maker) spoilt(s api.Sig) api.Sig {
	s = clone(s)
	var spots []reflect.Value
	each(reflect.ValueOf(&s).Elem(), "", func(_ string, v reflect.Value) {
		if v.Kind() != reflect.Struct {
			spots = append(spots, v)
		}
	})
	m.spoil(spots[m.r.Intn(len(spots))])
	return s
}

func (m maker) spoil(v reflect.Value) {
	switch v.Kind() {
	case reflect.Int:
		v.SetInt(int64(m.r.Intn(8) - 1))
	case reflect.Bool:
		v.SetBool(!v.Bool())
	case reflect.String:
		v.SetString(m.pick("", "a", "x", "let", "*", "d::g", "a::b::c", "1", "a b", long(32), long(33)))
	case reflect.Slice:
		n := m.r.Intn(v.Len() + 1)
		if n < v.Len() {
			v.Set(v.Slice(0, n))
			return
		}
		v.Set(reflect.Append(v, reflect.Zero(v.Type().Elem())))
	}
}

// turned has some bytes changed, left out, put in or put twice.
func (m maker) turned(b []byte) []byte {
	b = bytes.Clone(b)
	for range 1 + m.r.Intn(2) {
		i := m.r.Intn(len(b))
		switch m.r.Intn(4) {
		case 0:
			b[i] = byte(m.r.Intn(256))
		case 1:
			b[i] = byte(m.r.Intn(8))
		case 2:
			b = slices.Delete(b, i, min(i+1+m.r.Intn(3), len(b)))
		case 3:
			b = slices.Insert(b, i, b[i:min(i+1+m.r.Intn(9), len(b))]...)
		}
		if len(b) == 0 {
			return b
		}
	}
	return b
}

// 12.1, 12.2, 12.4

func TestCratesByChance(t *testing.T) {
	for seed := range int64(4000) {
		m := newMaker(seed)
		name, c := m.name(), m.crate()
		if !tree.May(c) {
			t.Fatalf("the maker's crate may not be: %s", short(c))
		}
		s := sig.Of(name, c)
		if want := wantOf(name, c); !alike(s, want) {
			t.Fatalf("12.1: Of %s: %s, not %s", short(c), short(s), short(want))
		}
		own(t, "Of", c, s)
		own(t, "Get", got(t, put(t, s)), s)
		if other := sig.Of(name, m.unseen(c)); !alike(s, other) {
			t.Fatalf("12.4: what is not Pub, or a body, shows: %s, not %s", short(other), short(s))
		}
	}
}

// 12.1, 12.2, 12.3

func TestSpoiltSigsByChance(t *testing.T) {
	may := 0
	for seed := range int64(8000) {
		m := newMaker(seed)
		s := m.spoilt(m.sig())
		if wantMay(s) {
			may++
			put(t, s)
			continue
		}
		refused(t, "spoilt", s)
	}
	if may == 0 {
		t.Fatal("none of them may be")
	}
}

// 12.3, 12.4

func TestTurnedBytesByChance(t *testing.T) {
	are := 0
	for seed := range int64(12000) {
		m := newMaker(seed)
		b := m.turned(wantPut(m.sig()).bytes)
		asked(t, b)
		if s, err := sig.Get(b); err == nil {
			are++
			if !bytes.Equal(put(t, s), b) {
				t.Fatalf("12.4: Put of what was got: %s", short(b))
			}
		}
	}
	if are == 0 {
		t.Fatal("none of them is a sig's")
	}
}

func TestAnyBytesByChance(t *testing.T) {
	for seed := range int64(12000) {
		m := newMaker(seed)
		b := slices.Clip(head())
		for range m.r.Intn(30) {
			b = append(b, []byte{0, 0, 1, 1, 2, 3, 4, 5, 'a', 'x', 6, 0x80}[m.r.Intn(12)])
		}
		asked(t, b)
	}
}
