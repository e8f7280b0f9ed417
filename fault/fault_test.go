package fault_test

import (
	"errors"
	"fmt"
	"math"
	"slices"
	"testing"

	"usufruct/api"
	"usufruct/fault"
)

type want struct {
	code  api.Errno
	at    int
	path  []int
	is    []api.Errno
	isNot []api.Errno
}

func look(t *testing.T, name string, err error, w want) {
	t.Helper()
	if got := fault.Code(err); got != w.code {
		t.Errorf("%s: Code is %d, not %d", name, got, w.code)
	}
	if got := fault.At(err); got != w.at {
		t.Errorf("%s: At is %d, not %d", name, got, w.at)
	}
	if got := fault.Path(err); !slices.Equal(got, w.path) {
		t.Errorf("%s: Path is %v, not %v", name, got, w.path)
	}
	for _, c := range w.is {
		if !fault.Is(err, c) {
			t.Errorf("%s: Is %d does not hold", name, c)
		}
	}
	for _, c := range w.isNot {
		if fault.Is(err, c) {
			t.Errorf("%s: Is %d holds", name, c)
		}
	}
}

// 1.1

func TestNewOfOK(t *testing.T) {
	for _, at := range []int{0, 1, -1, math.MaxInt, math.MinInt} {
		if err := fault.New(api.OK, at); err != nil {
			t.Errorf("New(OK, %d) is %v", at, err)
		}
	}
}

func TestNewIsAFaultOfItsNumber(t *testing.T) {
	codes := []api.Errno{api.ErrArg, api.ErrForm, api.ErrNone, api.ErrName, api.ErrBlocked, -1, 999, math.MaxInt, math.MinInt}
	for _, code := range codes {
		for _, at := range []int{0, 7, -3, math.MaxInt, math.MinInt} {
			f, ok := fault.New(code, at).(*api.Fault)
			if !ok || f == nil {
				t.Fatalf("New(%d, %d) is no *api.Fault", code, at)
			}
			if f.Code != code || f.At != at || f.Err != error(code) {
				t.Errorf("New(%d, %d) is %+v", code, at, *f)
			}
		}
	}
}

func TestNewIsNewEachTime(t *testing.T) {
	a, b := fault.New(api.ErrName, 1), fault.New(api.ErrName, 1)
	if a == b {
		t.Error("two faults are one")
	}
}

func TestInOfNil(t *testing.T) {
	for _, at := range []int{0, 5, -5} {
		if err := fault.In(nil, at); err != nil {
			t.Errorf("In(nil, %d) is %v", at, err)
		}
	}
	if err := fault.In(fault.New(api.OK, 1), 2); err != nil {
		t.Errorf("In of New(OK) is %v", err)
	}
}

func TestInWrapsWhatItIsGiven(t *testing.T) {
	other := errors.New("other")
	cases := []struct {
		name string
		err  error
		code api.Errno
	}{
		{"a fault", fault.New(api.ErrType, 4), api.ErrType},
		{"a fault in a fault", fault.In(fault.New(api.ErrType, 4), 5), api.ErrType},
		{"a number", api.ErrDown, api.ErrDown},
		{"an error of another kind", other, api.ErrArg},
		{"one that wraps a number", fmt.Errorf("x: %w", api.ErrFull), api.ErrFull},
		{"one that wraps a fault", fmt.Errorf("x: %w", fault.New(api.ErrHash, 2)), api.ErrHash},
	}
	for _, c := range cases {
		f, ok := fault.In(c.err, -8).(*api.Fault)
		if !ok || f == nil {
			t.Fatalf("In of %s is no *api.Fault", c.name)
		}
		if f.Code != c.code || f.At != -8 || f.Err != c.err {
			t.Errorf("In of %s is %+v", c.name, *f)
		}
	}
}

func TestInLeavesWhatItIsGiven(t *testing.T) {
	err := fault.New(api.ErrType, 4)
	fault.In(err, 9)
	look(t, "the inner one", err, want{code: api.ErrType, at: 4, path: []int{4}, is: []api.Errno{api.ErrType}})
}

// 1.2

func TestOfNil(t *testing.T) {
	look(t, "nil", nil, want{
		code:  api.OK,
		is:    []api.Errno{api.OK},
		isNot: []api.Errno{api.ErrArg, api.ErrName, -1},
	})
}

func TestOfOneFault(t *testing.T) {
	look(t, "a fault", fault.New(api.ErrName, 7), want{
		code: api.ErrName, at: 7, path: []int{7},
		is:    []api.Errno{api.ErrName},
		isNot: []api.Errno{api.OK, api.ErrArg, api.ErrType},
	})
}

func TestOfANumber(t *testing.T) {
	look(t, "a number", api.ErrDown, want{
		code:  api.ErrDown,
		is:    []api.Errno{api.ErrDown},
		isNot: []api.Errno{api.OK, api.ErrArg},
	})
	look(t, "one that wraps a number", fmt.Errorf("x: %w", fmt.Errorf("y: %w", api.ErrDown)), want{
		code:  api.ErrDown,
		is:    []api.Errno{api.ErrDown},
		isNot: []api.Errno{api.OK, api.ErrArg},
	})
	look(t, "two numbers", errors.Join(api.ErrTorn, api.ErrDown), want{
		code:  api.ErrTorn,
		is:    []api.Errno{api.ErrTorn, api.ErrDown},
		isNot: []api.Errno{api.OK, api.ErrArg},
	})
	look(t, "OK as an error", api.OK, want{
		code:  api.OK,
		is:    []api.Errno{api.OK},
		isNot: []api.Errno{api.ErrArg},
	})
}

func TestOfAnotherKind(t *testing.T) {
	look(t, "another kind", errors.New("x"), want{
		code:  api.ErrArg,
		isNot: []api.Errno{api.OK, api.ErrArg},
	})
	look(t, "another kind, wrapped", fmt.Errorf("x: %w", errors.New("y")), want{
		code:  api.ErrArg,
		isNot: []api.Errno{api.OK, api.ErrArg},
	})
	look(t, "another kind, in a fault", fault.In(errors.New("x"), 6), want{
		code: api.ErrArg, at: 6, path: []int{6},
		isNot: []api.Errno{api.OK, api.ErrArg},
	})
}

func TestFirstFaultGoesAheadOfNumbers(t *testing.T) {
	look(t, "a number ahead of a fault", errors.Join(api.ErrDown, fault.New(api.ErrFull, 5)), want{
		code: api.ErrFull, at: 5, path: []int{5},
		is:    []api.Errno{api.ErrDown, api.ErrFull},
		isNot: []api.Errno{api.OK},
	})
	look(t, "two faults beside each other", errors.Join(fault.New(api.ErrFull, 5), fault.New(api.ErrName, 6)), want{
		code: api.ErrFull, at: 5, path: []int{5},
		is:    []api.Errno{api.ErrFull, api.ErrName},
		isNot: []api.Errno{api.OK},
	})
}

func TestChainBeginsAtTheFirstFault(t *testing.T) {
	err := fmt.Errorf("x: %w", fault.In(fault.New(api.ErrShort, 2), 1))
	look(t, "a chain that is wrapped", err, want{
		code: api.ErrShort, at: 2, path: []int{1, 2},
		is:    []api.Errno{api.ErrShort},
		isNot: []api.Errno{api.OK},
	})
}

func TestChainEndsAtAnotherKind(t *testing.T) {
	middle := fmt.Errorf("x: %w", fault.New(api.ErrShort, 9))
	look(t, "a fault behind another kind", fault.In(fault.In(middle, 2), 1), want{
		code: api.ErrShort, at: 2, path: []int{1, 2},
		is:    []api.Errno{api.ErrShort},
		isNot: []api.Errno{api.OK},
	})
}

func TestFaultsMadeByHand(t *testing.T) {
	look(t, "the zero fault", &api.Fault{}, want{
		code: api.OK, at: 0, path: []int{0},
		isNot: []api.Errno{api.OK, api.ErrArg},
	})
	look(t, "a fault that wraps nothing", &api.Fault{Code: api.ErrName, At: 3}, want{
		code: api.ErrName, at: 3, path: []int{3},
		isNot: []api.Errno{api.OK, api.ErrName},
	})
	look(t, "a fault of another number than it wraps", &api.Fault{Code: api.ErrName, At: 3, Err: api.ErrType}, want{
		code: api.ErrName, at: 3, path: []int{3},
		is:    []api.Errno{api.ErrType},
		isNot: []api.Errno{api.OK, api.ErrName},
	})
	inside := &api.Fault{Code: api.ErrForm, At: 8, Err: api.ErrForm}
	look(t, "codes that differ along the chain", &api.Fault{Code: api.ErrName, At: 3, Err: inside}, want{
		code: api.ErrName, at: 8, path: []int{3, 8},
		is:    []api.Errno{api.ErrForm},
		isNot: []api.Errno{api.ErrName},
	})
}

func TestPathIsTheCallersOwn(t *testing.T) {
	err := fault.In(fault.New(api.ErrName, 7), 3)
	fault.Path(err)[0] = 99
	if got := fault.Path(err); !slices.Equal(got, []int{3, 7}) {
		t.Errorf("Path is %v behind a change of an answer", got)
	}
}

// 1.3

func TestWrappedKeepsItsCodeAndTellsItsPlaces(t *testing.T) {
	err := fault.New(api.ErrName, 7)
	path := []int{7}
	for _, at := range []int{3, -2, 0, 0, math.MaxInt, math.MinInt} {
		err = fault.In(err, at)
		path = append([]int{at}, path...)
		look(t, "wrapped", err, want{
			code: api.ErrName, at: 7, path: path,
			is:    []api.Errno{api.ErrName},
			isNot: []api.Errno{api.OK, api.ErrArg},
		})
	}
}

func TestDeepestThatIsPromised(t *testing.T) {
	const depth = 1 << 16
	err := fault.New(api.ErrDeep, depth)
	for at := depth - 1; at > 0; at-- {
		err = fault.In(err, at)
	}
	path := fault.Path(err)
	if len(path) != depth || !slices.IsSorted(path) || path[0] != 1 || path[depth-1] != depth {
		t.Errorf("Path has %d places", len(path))
	}
	if fault.Code(err) != api.ErrDeep || fault.At(err) != depth || !fault.Is(err, api.ErrDeep) || fault.Is(err, api.ErrArg) {
		t.Error("the innermost is not found")
	}
}

// No call panics, and every call ends.

type rude struct{}

func (rude) Error() string   { return "rude" }
func (rude) As(any) bool     { panic("As") }
func (rude) Is(error) bool   { panic("Is") }
func (rude) Unwrap() []error { panic("Unwrap") }

type liar struct{}

func (liar) Error() string { return "liar" }
func (liar) As(target any) bool {
	switch x := target.(type) {
	case **api.Fault:
		*x = &api.Fault{Code: api.ErrHash, At: 1}
	case *api.Errno:
		*x = api.ErrHash
	}
	return false
}

type list []error

func (l list) Error() string { return "list" }

func TestWrongErrors(t *testing.T) {
	var none *api.Fault
	nothing := want{code: api.ErrArg, isNot: []api.Errno{api.OK, api.ErrArg, api.ErrHash}}
	look(t, "a nil fault", none, nothing)
	look(t, "a nil fault, wrapped", fmt.Errorf("x: %w", none), nothing)
	look(t, "one that panics", rude{}, nothing)
	look(t, "one that panics, wrapped", fmt.Errorf("x: %w", rude{}), nothing)
	look(t, "one that fills in what it does not answer", liar{}, nothing)
	look(t, "one that can't be held against another", list{api.ErrHash}, nothing)
	inside := want{code: api.ErrArg, at: 4, path: []int{4}, isNot: []api.Errno{api.OK, api.ErrArg}}
	look(t, "In of a nil fault", fault.In(none, 4), inside)
	look(t, "In of one that panics", fault.In(rude{}, 4), inside)
}

func TestRingsEnd(t *testing.T) {
	for ring := 1; ring <= 5; ring++ {
		for lead := 0; lead <= 5; lead++ {
			last := &api.Fault{Code: api.ErrName, At: 1}
			var err error = last
			for range ring - 1 {
				err = fault.In(err, 2)
			}
			last.Err = err
			for range lead {
				err = fault.In(err, 3)
			}
			look(t, fmt.Sprint("a ring of ", ring, " behind ", lead), err, want{
				code:  api.ErrName,
				isNot: []api.Errno{api.OK, api.ErrName},
			})
		}
	}
}
