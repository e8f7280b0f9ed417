package manifest

import (
	"slices"
	"strings"

	"usufruct/api"
	"usufruct/fault"
	"usufruct/lex"
)

const (
	lineEnd  = "\n"
	headMark = "=="
	blank    = " "
	depsMark = " :"
)

// read tells no crates of a text without a head.
func read(s string) ([]api.Source, error) {
	var crates []api.Source
	err := eachLine(s, func(at int, line string) api.Errno {
		switch {
		case strings.HasPrefix(line, headMark):
			crate, code := readHead(line, crates)
			crates = append(crates, crate)
			return code
		case len(crates) > 0:
			// A crate's lines stand one behind the other: its text ends later by this one.
			text := &crates[len(crates)-1].Text
			*text = s[at-len(*text) : at+len(line)]
		case line != lineEnd:
			return api.ErrManifest
		}
		return api.OK
	})
	if err != nil {
		return nil, err
	}
	for i := range crates {
		own(&crates[i])
	}
	return crates, nil
}

// eachLine tells each line with its byte 10 (the last one may have none), up to one that is wrong.
func eachLine(s string, tell func(at int, line string) api.Errno) error {
	for at := 0; at < len(s); {
		line := firstLine(s[at:])
		if code := tell(at, line); code != api.OK {
			return fault.New(code, at)
		}
		at += len(line)
	}
	return nil
}

func firstLine(s string) string {
	if size := strings.Index(s, lineEnd); size >= 0 {
		return s[:size+len(lineEnd)]
	}
	return s
}

// readHead takes the crates whose heads are above.
func readHead(line string, above []api.Source) (api.Source, api.Errno) {
	crate, is := cutHead(strings.TrimSuffix(line, lineEnd))
	switch {
	case !is:
		return crate, api.ErrManifest
	case len(above) == api.MaxCrates, len(crate.Deps) > api.MaxCrates:
		return crate, api.ErrLong
	case isAbove(crate.Name, above), hasTwice(append([]string{crate.Name}, crate.Deps...)):
		return crate, api.ErrTwice
	}
	return crate, api.OK
}

func cutHead(line string) (crate api.Source, is bool) {
	names, is := strings.CutPrefix(line, headMark+blank)
	name, deps, hasDeps := strings.Cut(names, depsMark+blank)
	crate.Name = name
	if hasDeps {
		crate.Deps = strings.Split(deps, blank)
	}
	for _, dep := range crate.Deps {
		is = is && lex.Name(dep)
	}
	return crate, is && lex.Name(name)
}

func isAbove(name string, above []api.Source) bool {
	return slices.ContainsFunc(above, func(crate api.Source) bool { return crate.Name == name })
}

func hasTwice(names []string) bool {
	for i, name := range names {
		if slices.Contains(names[:i], name) {
			return true
		}
	}
	return false
}

// own copies what was cut out of the text: an answer would share, and keep, all of it otherwise.
func own(crate *api.Source) {
	crate.Name = strings.Clone(crate.Name)
	crate.Text = strings.Clone(crate.Text)
	for i, dep := range crate.Deps {
		crate.Deps[i] = strings.Clone(dep)
	}
}
