package head_test

import (
	"slices"
	"strings"
	"testing"

	"wicketman/api"
	"wicketman/head"
)

const mostBytes = 2000

// every is each byte there is, once.
func every() []byte {
	b := make([]byte, 256)
	for i := range b {
		b[i] = byte(i)
	}
	return b
}

// one is the text of one byte.
func one(c byte) string { return string([]byte{c}) }

// of is a text of n bytes, all of them an 'x'.
func of(n int) string { return strings.Repeat("x", n) }

// pairs are pairs of a name, its value, the next name, its value, ..
func pairs(words ...string) []api.Pair {
	var l []api.Pair
	for i := 0; i < len(words); i += 2 {
		l = append(l, api.Pair{Name: words[i], Value: words[i+1]})
	}
	return l
}

func askToken(t *testing.T, s string, want bool) {
	t.Helper()
	if got := head.Token(s); got != want {
		t.Errorf("Token of %q: %v, want %v", s, got, want)
	}
}

func askValue(t *testing.T, s string, want bool) {
	t.Helper()
	if got := head.Value(s); got != want {
		t.Errorf("Value of %q: %v, want %v", s, got, want)
	}
}

func askField(t *testing.T, line, name, value string) {
	t.Helper()
	if got, e := head.Field(line); got.Name != name || got.Value != value || e != api.OK {
		t.Errorf("Field of %q: %q, %v, want %q, %q, OK", line, got, e, name, value)
	}
}

func refuses(t *testing.T, line string, want api.Errno) {
	t.Helper()
	if got, e := head.Field(line); got != (api.Pair{}) || e != want {
		t.Errorf("Field of %q: %q, %v, want nothing, %v", line, got, e, want)
	}
}

func askPrint(t *testing.T, name, value, want string) {
	t.Helper()
	if got, e := head.Print(api.Pair{Name: name, Value: value}); got != want || e != api.OK {
		t.Errorf("Print of %q, %q: %q, %v, want %q, OK", name, value, got, e, want)
	}
}

func printsNothing(t *testing.T, name, value string, want api.Errno) {
	t.Helper()
	if got, e := head.Print(api.Pair{Name: name, Value: value}); got != "" || e != want {
		t.Errorf("Print of %q, %q: %q, %v, want nothing, %v", name, value, got, e, want)
	}
}

func askSame(t *testing.T, a, b string, want bool) {
	t.Helper()
	if got := head.Same(a, b); got != want {
		t.Errorf("Same of %q, %q: %v, want %v", a, b, got, want)
	}
	if got := head.Same(b, a); got != want {
		t.Errorf("Same of %q, %q: %v, want %v", b, a, got, want)
	}
}

func askAll(t *testing.T, l []api.Pair, name string, want ...string) {
	t.Helper()
	if got := head.All(l, name); !slices.Equal(got, want) {
		t.Errorf("All of %q, %q: %q, want %q", l, name, got, want)
	}
}

func TestTheChapter(t *testing.T) {
	askField(t, "Host:  a ", "Host", "a")
	askPrint(t, "Host", "a", "Host: a")
	askSame(t, "Host", "hOST", true)
	askAll(t, pairs("Host", "a"), "host", "a")
}
