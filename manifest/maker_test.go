package manifest_test

import (
	"math/rand"
	"strings"

	"usufruct/api"
)

// maker makes workspaces by chance: most parts are right, some are not.
type maker struct{ r *rand.Rand }

func newMaker(seed int64) maker { return maker{rand.New(rand.NewSource(seed))} }

func (m maker) oneIn(n int) bool { return m.r.Intn(n) == 0 }

func (m maker) pick(of ...string) string { return of[m.r.Intn(len(of))] }

func (m maker) name() string {
	if m.oneIn(60) {
		return m.pick("", "fn", "1", "a b", "a : b", "a\n", "a\n== q", " a", "a ", ":", "==", longName+"3", "é")
	}
	return m.pick("a", "b", "c", "d", "e", "f", "A", "_", "a1", "fnx", longName)
}

// unlike names are right ones, but for those that name makes.
func (m maker) unlike(n int) []string {
	all := names(70, m.pick("a", "b", "_"))
	m.r.Shuffle(len(all), func(i, j int) { all[i], all[j] = all[j], all[i] })
	all = all[:n]
	for i := range all {
		if m.oneIn(12) {
			all[i] = m.name()
		}
	}
	return all
}

func (m maker) lines() string {
	var b strings.Builder
	for range m.r.Intn(4) {
		b.WriteString(m.pick("", "x", " ", "fn f() { }", "=", " == a", "\r", "\xff", "x == y"))
		b.WriteString("\n")
	}
	return b.String()
}

func (m maker) crates() []api.Source {
	n := m.r.Intn(5)
	if m.oneIn(40) {
		n = 63 + m.r.Intn(3)
	}
	var l []api.Source
	for _, name := range m.unlike(n) {
		deps := m.unlike(m.r.Intn(4))
		if m.oneIn(80) {
			deps = m.unlike(63 + m.r.Intn(3))
		}
		if m.oneIn(10) {
			deps = append(deps, m.name())
		}
		x := crate(name, m.lines(), deps...)
		if m.oneIn(30) {
			x.Text += m.pick("x", "==", "== q\n", "=", "\n==\n")
		}
		l = append(l, x)
	}
	if n > 0 && m.oneIn(2) {
		l[n-1].Text += "x"
	}
	return l
}

// text lays crates out without asking whether there is a text for them, and harms some of what comes of it.
func (m maker) text() string {
	var b strings.Builder
	for m.oneIn(4) {
		b.WriteString("\n")
	}
	for _, x := range m.crates() {
		b.WriteString("== " + x.Name)
		for i, dep := range x.Deps {
			b.WriteString([]string{" : ", " "}[min(i, 1)] + dep)
		}
		b.WriteString("\n" + x.Text)
	}
	s := b.String()
	if m.oneIn(6) {
		s = strings.TrimSuffix(s, "\n")
	}
	if s != "" && m.oneIn(5) {
		at := m.r.Intn(len(s))
		s = s[:at] + m.pick("", " ", ":", "=", "\n", "==", "a", "\t") + s[at+m.r.Intn(2):]
	}
	return s
}
