package check

import (
	"errors"
	"testing"

	"usufruct/api"
	"usufruct/fault"
)

// What a checker did not give up by is no answer of its own.
func TestFound(t *testing.T) {
	if err := found(nil); err != nil {
		t.Errorf("of nothing: %v", err)
	}
	gave := fault.New(api.ErrName, 7)
	if err := found(gave); err != gave {
		t.Errorf("of a checker's own: %v", err)
	}
	for _, other := range []any{"text", errors.New("another error")} {
		func() {
			defer func() {
				if again := recover(); again != other {
					t.Errorf("of %v: %v", other, again)
				}
			}()
			found(other)
		}()
	}
}
