// Package fault is errors with places: see DOC.md, chapter 1.
package fault

import (
	"errors"

	"usufruct/api"
)

// New is chapter 1's.
func New(code api.Errno, at int) error {
	if code == api.OK {
		return nil
	}
	return &api.Fault{Code: code, At: at, Err: code}
}

// In is chapter 1's.
func In(err error, at int) error {
	if err == nil {
		return nil
	}
	return &api.Fault{Code: Code(err), At: at, Err: err}
}

// Code is chapter 1's.
func Code(err error) api.Errno {
	if err == nil {
		return api.OK
	}
	if f := first(err); f != nil {
		return f.Code
	}
	return number(err)
}

// At is chapter 1's.
func At(err error) int {
	list := chain(first(err))
	if len(list) == 0 {
		return 0
	}
	return list[len(list)-1].At
}

// Path is chapter 1's.
func Path(err error) []int {
	var ats []int
	for _, f := range chain(first(err)) {
		ats = append(ats, f.At)
	}
	return ats
}

// Is is chapter 1's.
func Is(err error, code api.Errno) bool {
	if err == nil {
		return code == api.OK
	}
	// errors.Is would go round in a ring of faults for ever.
	if f := first(err); f != nil && len(chain(f)) == 0 {
		return false
	}
	return wraps(err, code)
}

// first answers nil for a *api.Fault that is nil itself: it has neither a code nor a place.
func first(err error) (f *api.Fault) {
	// Another program's error may panic when it is asked.
	defer func() {
		if recover() != nil {
			f = nil
		}
	}()
	if errors.As(err, &f) {
		return f
	}
	return nil
}

func number(err error) (code api.Errno) {
	// A nil *api.Fault panics when it is unwrapped, and so may another program's error.
	defer func() {
		if recover() != nil {
			code = api.ErrArg
		}
	}()
	if errors.As(err, &code) {
		return code
	}
	return api.ErrArg
}

func wraps(err error, code api.Errno) (is bool) {
	// For the same reason as in number.
	defer func() {
		if recover() != nil {
			is = false
		}
	}()
	return errors.Is(err, code)
}

// chain answers nothing for a ring: Err is open to every program, and a ring has no last fault.
func chain(f *api.Fault) []*api.Fault {
	var list []*api.Fault
	for f != nil {
		// Half the way behind suffices: in a ring the two meet.
		if n := len(list); n > 0 && list[n/2] == f {
			return nil
		}
		list = append(list, f)
		f = inner(f)
	}
	return list
}

// inner does not look through errors of other kinds: what these wrap is not of the chain.
func inner(f *api.Fault) *api.Fault {
	next, _ := f.Err.(*api.Fault)
	return next
}
