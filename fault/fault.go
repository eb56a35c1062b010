// Package fault makes the errors with which the inner packages refuse what they are given.
package fault

import "seam/api"

// Refusal wraps what was wrong, and says in words why it was refused.
type Refusal struct {
	Why   string
	Wrong error
}

// Error tells why, and what was wrong.
func (r *Refusal) Error() string { return r.Why + ": " + r.Wrong.Error() }

// Unwrap lets errors.As find the fault.
func (r *Refusal) Unwrap() error { return r.Wrong }

// Refuse wraps a new fault: callers may write into the fault that they get, so none is handed out twice.
func Refuse(why string, kind, at int) error {
	return &Refusal{Why: why, Wrong: &api.Fault{Kind: kind, At: at}}
}
