// Package fault makes errors that say where they came from: see the document's chapter 1.
package fault

import (
	"errors"
	"strconv"
	"strings"

	"broadside/api"
)

// Fault says in which operation, and at which place of it, Err came up.
type Fault struct {
	Op  string
	At  int
	Err error
}

// Error tells the way down to what was wrong.
//
// Faults that wrap one another are gone through in a loop: were each to ask
// the next, a deep chain would copy its text once a Fault.
func (f *Fault) Error() string {
	var told strings.Builder
	var rest error
	faults, ends := walk(f, itself)
	for _, g := range faults {
		told.WriteString(g.Op)
		told.WriteString(" ")
		told.WriteString(strconv.Itoa(g.At))
		told.WriteString(": ")
		rest = g.Err
	}
	if ends {
		told.WriteString(text(rest))
	}
	return told.String()
}

// Unwrap lets errors.Is and errors.As see what the Fault wraps. A nil one may
// stand in a chain that is handed in: it wraps nothing.
func (f *Fault) Unwrap() error {
	if f == nil {
		return nil
	}
	return f.Err
}

// New wraps err; where nothing is wrong there is nothing to wrap.
func New(op string, at int, err error) error {
	if err == nil {
		return nil
	}
	return &Fault{Op: op, At: at, Err: err}
}

// Kind is the Errno that err wraps; 0, if it wraps none.
func Kind(err error) api.Errno {
	// errors.As would go round a ring for ever.
	if _, ends := walk(err, first); !ends {
		return 0
	}
	return errno(err)
}

// Trace is the Ops of err's Faults, the outermost one first.
func Trace(err error) []string {
	var ops []string
	faults, _ := walk(err, first)
	for _, f := range faults {
		ops = append(ops, f.Op)
	}
	return ops
}

// Place is the At of err's outermost Fault; -1, if it has none.
func Place(err error) int {
	if f := first(err); f != nil {
		return f.At
	}
	return -1
}

// walk lists the Faults from err on: each is what next finds in the Err of the
// one ahead of it. It says whether they end: Faults whose Err was set by hand
// may come back to one that was there, and the walk stops then. A mark that
// moves on at each power of two meets any ring.
func walk(err error, next func(error) *Fault) ([]*Fault, bool) {
	var faults []*Fault
	var mark *Fault
	for f := next(err); f != nil; f = next(f.Err) {
		if f == mark {
			return faults, false
		}
		faults = append(faults, f)
		if n := len(faults); n&(n-1) == 0 {
			mark = f
		}
	}
	return faults, true
}

// first is the outermost Fault of err, behind errors of other kinds too; nil,
// if there is none. Errors of other kinds may panic as they are asked: what
// can't be asked has none.
func first(err error) (f *Fault) {
	defer func() {
		if recover() != nil {
			f = nil
		}
	}()
	if errors.As(err, &f) {
		return f
	}
	return nil
}

// itself is err, if it is a Fault; nil, if an error of another kind comes
// ahead, which has a text of its own.
func itself(err error) *Fault {
	if f := first(err); error(f) == err {
		return f
	}
	return nil
}

// errno is the Errno that errors.As finds, with the same care as first.
func errno(err error) (kind api.Errno) {
	defer func() {
		if recover() != nil {
			kind = 0
		}
	}()
	if errors.As(err, &kind) {
		return kind
	}
	return 0
}

// text is what err says; nothing, if there is none, or it panics.
func text(err error) (said string) {
	defer func() {
		if recover() != nil {
			said = ""
		}
	}()
	if err == nil {
		return ""
	}
	return err.Error()
}
