package http

import (
	"errors"
	"testing"

	"wicketman/api"
)

// The errors there are, and numbers that are none's.
func errnos() []api.Errno {
	return []api.Errno{
		api.ErrArg, api.ErrLong, api.ErrForm, api.ErrLine, api.ErrField, api.ErrBody, api.ErrTwice, api.ErrText,
		api.ErrFile, api.ErrFull, api.ErrDead, api.ErrSum, api.ErrThere, api.ErrNone, api.ErrWrong, 2, 1<<16 - 1,
	}
}

func TestWhatIsWrongIsCaught(t *testing.T) {
	for _, want := range errnos() {
		behind := false
		e := caught(func() {
			need(true, api.ErrArg)
			need(false, want)
			behind = true
		})
		if e != want || behind {
			t.Errorf("caught tells %v of %v; went on: %v", e, want, behind)
		}
	}
	if e := caught(func() { need(true, api.ErrArg) }); e != api.OK {
		t.Errorf("caught tells %v where nothing is wrong", e)
	}
}

// panicOf is what do panics with; nil: it does not.
func panicOf(do func()) (p any) {
	defer func() { p = recover() }()
	do()
	return nil
}

// A panic of another kind is no request's error: it goes on as it is, even if it is a number of an error.
func TestAnotherPanicGoesOn(t *testing.T) {
	fault := errors.New("a fault")
	for _, other := range []any{fault, api.ErrForm, &wrong{api.ErrForm}, "a fault", 10} {
		if p := panicOf(func() { caught(func() { panic(other) }) }); p != other {
			t.Errorf("the panic %v goes on as %v", other, p)
		}
	}
	p := panicOf(func() {
		caught(func() {
			var none []byte
			none[len(none)]++
		})
	})
	if _, is := p.(interface{ RuntimeError() }); !is {
		t.Errorf("the panic of a place that is not there goes on as %v", p)
	}
}

// What is panicked with is an error, of a type of its own.
func TestWrongIsAnError(t *testing.T) {
	for _, e := range errnos() {
		p := panicOf(func() { need(false, e) })
		w, ok := p.(wrong)
		if !ok || w.Errno != e {
			t.Errorf("need panics with %v, want %v", p, e)
		}
		if err, ok := p.(error); !ok || err.Error() != e.Error() {
			t.Errorf("%v is no error with the text of %v", p, e)
		}
	}
}
