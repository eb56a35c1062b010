package fault

import (
	"errors"
	"testing"

	"seam/api"
)

func TestRefuseWrapsAFault(t *testing.T) {
	err := Refuse("a value does not fit", api.BadRow, 3)
	if _, is := err.(*api.Fault); is {
		t.Error("the fault itself came, not an error that wraps it")
	}
	var found *api.Fault
	if !errors.As(err, &found) || *found != (api.Fault{Kind: api.BadRow, At: 3}) {
		t.Errorf("found %v", found)
	}
	if got := err.Error(); got != "a value does not fit: bad row" {
		t.Errorf("it says %q", got)
	}
}

func TestRefuseSharesNoFault(t *testing.T) {
	var first, second *api.Fault
	errors.As(Refuse("", api.BadMany, 0), &first)
	errors.As(Refuse("", api.BadMany, 0), &second)
	first.At = 99
	if second.At != 0 {
		t.Error("two refusals share a fault")
	}
}
