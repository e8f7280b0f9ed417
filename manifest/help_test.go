package manifest_test

import (
	"fmt"
	"regexp"
	"slices"
	"strconv"
	"strings"
	"testing"
	"unsafe"

	"usufruct/api"
	"usufruct/fault"
	"usufruct/manifest"
)

const longName = "abcdefghijabcdefghijabcdefghij12" // just MaxName bytes

func crate(name, text string, deps ...string) api.Source {
	return api.Source{Name: name, Deps: deps, Text: text}
}

// names are unlike ones: prefix0, prefix1, ..
func names(n int, prefix string) []string {
	var l []string
	for i := range n {
		l = append(l, prefix+strconv.Itoa(i))
	}
	return l
}

// heads are so many lines, each the head of a crate without dependencies.
func heads(n int) string {
	var b strings.Builder
	for _, name := range names(n, "a") {
		b.WriteString("== " + name + "\n")
	}
	return b.String()
}

func same(a, b []api.Source) bool {
	return slices.EqualFunc(a, b, func(a, b api.Source) bool {
		return a.Name == b.Name && slices.Equal(a.Deps, b.Deps) && a.Text == b.Text
	})
}

// short keeps a long text out of what a test tells.
func short(x any) string {
	s := fmt.Sprintf("%q", x)
	if len(s) > 300 {
		return s[:150] + " .. " + s[len(s)-150:]
	}
	return s
}

func isError(t *testing.T, what string, err error, code api.Errno, at int) {
	t.Helper()
	if fault.Code(err) != code || !slices.Equal(fault.Path(err), []int{at}) || !fault.Is(err, code) {
		t.Fatalf("%s: error %d at %v, not %d at %d", what, fault.Code(err), fault.Path(err), code, at)
	}
}

// parsed asks for a text's crates, and for what holds of all of these.
func parsed(t *testing.T, s string, want ...api.Source) {
	t.Helper()
	got, err := manifest.Parse(s)
	if err != nil {
		t.Fatalf("10.1: %s: error %d at %v", short(s), fault.Code(err), fault.Path(err))
	}
	if !same(got, want) {
		t.Fatalf("10.1: %s: %s, not %s", short(s), short(got), short(want))
	}
	goesRound(t, got)
}

// goesRound is 10.4.
func goesRound(t *testing.T, l []api.Source) {
	t.Helper()
	s, err := manifest.Print(l)
	if err != nil {
		t.Fatalf("10.4: %s: not printed: error %d at %v", short(l), fault.Code(err), fault.Path(err))
	}
	back, err := manifest.Parse(s)
	if err != nil || !same(back, l) {
		t.Fatalf("10.4: %s: printed as %s, and parsed as %s, error %d", short(l), short(s), short(back), fault.Code(err))
	}
	if again, err := manifest.Print(back); err != nil || again != s {
		t.Fatalf("10.4: %s: printed again as %s, error %d", short(s), short(again), fault.Code(err))
	}
}

// refused asks that nothing but the error is told.
func refused(t *testing.T, s string, code api.Errno, at int) {
	t.Helper()
	l, err := manifest.Parse(s)
	isError(t, "10.1: "+short(s), err, code, at)
	if len(l) != 0 {
		t.Fatalf("10.1: %s: crates beside an error", short(s))
	}
}

func printed(t *testing.T, want string, l ...api.Source) {
	t.Helper()
	got, err := manifest.Print(l)
	if err != nil {
		t.Fatalf("10.2: %s: error %d at %v", short(l), fault.Code(err), fault.Path(err))
	}
	if got != want {
		t.Fatalf("10.2: %s: %s, not %s", short(l), short(got), short(want))
	}
	goesRound(t, l)
}

// textless asks that there is no text, and nothing beside the error.
func textless(t *testing.T, what string, l ...api.Source) {
	t.Helper()
	s, err := manifest.Print(l)
	isError(t, "10.2: "+what, err, api.ErrArg, 0)
	if s != "" {
		t.Fatalf("10.2: %s: a text beside an error", what)
	}
}

// kept asks that a call leaves what it is handed as it was, down to lists that are nil.
func kept(t *testing.T, l []api.Source, do func()) {
	t.Helper()
	ahead := fmt.Sprintf("%#v", l)
	do()
	if fmt.Sprintf("%#v", l) != ahead {
		t.Errorf("%s has changed", short(l))
	}
}

// within asks whether a piece, which is not empty, lies in the memory of s.
func within(piece, s string) bool {
	at, from := uintptr(unsafe.Pointer(unsafe.StringData(piece))), uintptr(unsafe.Pointer(unsafe.StringData(s)))
	return at >= from && at < from+uintptr(len(s))
}

// What follows tells a workspace's crates, its text and its index in another way than the package: by patterns, and by the chapter's list of what has no text.

var (
	headLine = regexp.MustCompile(`(?m)^==.*$`)
	headForm = regexp.MustCompile(`^== (\w+)(?: :((?: \w+)+))?$`)
	nameForm = regexp.MustCompile(`^[A-Za-z_]\w{0,31}$`)
	wordForm = regexp.MustCompile(`^(?:fn|struct|pub|let|mut|if|else|while|loop|break|continue|return|drop|true|false|int|bool)$`)
)

func isName(s string) bool { return nameForm.MatchString(s) && !wordForm.MatchString(s) }

func wantParse(s string) ([]api.Source, api.Errno, int) {
	if len(s) > api.MaxBlob {
		return nil, api.ErrLong, 0
	}
	lines := headLine.FindAllStringIndex(s, -1)
	first := len(s)
	if len(lines) > 0 {
		first = lines[0][0]
	}
	if ahead := strings.TrimLeft(s[:first], "\n"); ahead != "" {
		return nil, api.ErrManifest, first - len(ahead)
	}
	if len(lines) == 0 {
		return nil, api.ErrManifest, 0
	}
	var crates []api.Source
	for i, line := range lines {
		end := len(s)
		if i+1 < len(lines) {
			end = lines[i+1][0]
		}
		m := headForm.FindStringSubmatch(s[line[0]:line[1]])
		if m == nil {
			return nil, api.ErrManifest, line[0]
		}
		x := crate(m[1], s[min(line[1]+1, end):end], strings.Fields(m[2])...)
		if code := wantHead(x, crates); code != api.OK {
			return nil, code, line[0]
		}
		crates = append(crates, x)
	}
	return crates, api.OK, 0
}

func wantHead(x api.Source, above []api.Source) api.Errno {
	all := append([]string{x.Name}, x.Deps...)
	if slices.ContainsFunc(all, func(name string) bool { return !isName(name) }) {
		return api.ErrManifest
	}
	if len(above) >= 64 || len(x.Deps) > 64 {
		return api.ErrLong
	}
	for _, y := range above {
		if y.Name == x.Name {
			return api.ErrTwice
		}
	}
	slices.Sort(all)
	if len(slices.Compact(all)) != 1+len(x.Deps) {
		return api.ErrTwice
	}
	return api.OK
}

func wantPrint(l []api.Source) (string, bool) {
	s := ""
	for i, x := range l {
		ends := i == len(l)-1 || x.Text == "" || strings.HasSuffix(x.Text, "\n")
		if wantHead(x, l[:i]) != api.OK || !ends || headLine.MatchString(x.Text) {
			return "", false
		}
		s += "== " + x.Name
		for j, dep := range x.Deps {
			s += []string{" : ", " "}[min(j, 1)] + dep
		}
		s += "\n" + x.Text
	}
	return s, len(l) > 0 && len(s) <= api.MaxBlob
}

func wantIndex(l []api.Source) (index [][]int, at int, ok bool) {
	for i, x := range l {
		places := []int{}
		for _, dep := range x.Deps {
			place := slices.IndexFunc(l, func(y api.Source) bool { return y.Name == dep })
			if place < 0 {
				return nil, i, false
			}
			places = append(places, place)
		}
		index = append(index, places)
	}
	return index, 0, true
}
