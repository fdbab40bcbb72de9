// Package fault is layer 1: errors. See shared/doc/01-fault.md.
package fault

import (
	"errors"
	"strconv"
	"strings"

	"recension/api"
)

// plain is an error's code and place. It is a value, so that no pointer of this type can be nil within an error.
type plain struct {
	code api.Code
	at   int
}

// Error: the text of a plain error.
func (p plain) Error() string {
	return "code " + strconv.Itoa(int(p.code)) + " at " + strconv.Itoa(p.at)
}

// Is: whether the other one is plain too, and of the same code; the place doesn't count.
func (p plain) Is(other error) bool {
	q, ok := other.(plain)
	return ok && q.code == p.code
}

// wrapped is what was being done, and the error within. It is held by a pointer, for errors.Is holds errors against each other by ==, and an error of another program that is within may not be held so.
type wrapped struct {
	what   string
	within error
}

// Error: the text of a wrapped error.
func (w *wrapped) Error() string { return Text(w) }

// Unwrap: the error within.
func (w *wrapped) Unwrap() error { return w.within }

// New makes a plain error.
func New(code api.Code, at int) error {
	if code == api.OK {
		return nil
	}
	return plain{code, at}
}

// Wrap makes a wrapped error.
func Wrap(what string, err error) error {
	if err == nil {
		return nil
	}
	return &wrapped{what, err}
}

// Code: the code within.
func Code(err error) api.Code { return find(err).code }

// At: the place within.
func At(err error) int { return find(err).at }

// Is: whether an error has a code.
func Is(err error, code api.Code) bool {
	// What Code tells is asked, not err itself: an error of another program holds no plain one of its code Arg.
	return errors.Is(find(err), plain{code: code})
}

// Depth: how often an error is wrapped.
func Depth(err error) int {
	texts, _ := peel(err)
	return len(texts)
}

// Text: an error as a text.
func Text(err error) string {
	texts, bare := peel(err)
	return strings.Join(append(texts, tell(bare)), ": ")
}

// find is the plain error within; one that stands for it, if there is none.
func find(err error) (p plain) {
	if err == nil {
		return plain{code: api.OK}
	}
	// Methods of other programs' errors are called on the way, and may panic.
	defer func() {
		if recover() != nil {
			p = plain{code: api.Arg}
		}
	}()
	// An As method of another program may claim to have found what it didn't fill in.
	if !errors.As(err, &p) || p.code == api.OK {
		return plain{code: api.Arg}
	}
	return p
}

// peel takes this package's wraps off, outermost first, and tells their texts and what was within them all.
func peel(err error) ([]string, error) {
	var texts []string
	for {
		w, ok := err.(*wrapped)
		if !ok {
			return texts, err
		}
		texts = append(texts, w.what)
		err = w.within
	}
}

// tell is the text of an error that isn't wrapped.
func tell(err error) string {
	switch e := err.(type) {
	case nil:
		return "ok"
	case plain:
		return e.Error()
	}
	return "unknown"
}
