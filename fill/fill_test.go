package fill_test

import (
	"slices"
	"testing"

	"wicketman/api"
	"wicketman/fill"
)

const mostPairs = 30

// every is each byte there is, once.
func every() []byte {
	b := make([]byte, 256)
	for i := range b {
		b[i] = byte(i)
	}
	return b
}

// pairs are pairs of a name, its value, the next name, its value, ..
func pairs(words ...string) []api.Pair {
	var l []api.Pair
	for i := 0; i < len(words); i += 2 {
		l = append(l, api.Pair{Name: words[i], Value: words[i+1]})
	}
	return l
}

func askUnescape(t *testing.T, s, want string, wantOK bool) {
	t.Helper()
	if got, ok := fill.Unescape(s); got != want || ok != wantOK {
		t.Errorf("Unescape of %q: %q, %v, want %q, %v", s, got, ok, want, wantOK)
	}
}

func askEscape(t *testing.T, s, want string) {
	t.Helper()
	if got := fill.Escape(s); got != want {
		t.Errorf("Escape of %q: %q, want %q", s, got, want)
	}
}

func askParse(t *testing.T, s string, want []api.Pair) {
	t.Helper()
	if got, e := fill.Parse([]byte(s)); !slices.Equal(got, want) || e != api.OK {
		t.Errorf("Parse of %q: %q, %v, want %q, OK", s, got, e, want)
	}
}

func refuses(t *testing.T, s string, want api.Errno) {
	t.Helper()
	if got, e := fill.Parse([]byte(s)); len(got) != 0 || e != want {
		t.Errorf("Parse of %q: %q, %v, want nothing, %v", s, got, e, want)
	}
}

func askPrint(t *testing.T, l []api.Pair, want string) {
	t.Helper()
	if got := fill.Print(l); string(got) != want {
		t.Errorf("Print of %q: %q, want %q", l, got, want)
	}
}

func askGet(t *testing.T, l []api.Pair, name, want string, wantOK bool) {
	t.Helper()
	if got, ok := fill.Get(l, name); got != want || ok != wantOK {
		t.Errorf("Get of %q, %q: %q, %v, want %q, %v", l, name, got, ok, want, wantOK)
	}
}

func TestTheChapter(t *testing.T) {
	askParse(t, "a=1+2&b=%26", pairs("a", "1 2", "b", "&"))
	l, _ := fill.Parse([]byte("a=1+2&b=%26"))
	askGet(t, l, "a", "1 2", true)
	askGet(t, l, "b", "&", true)
	askPrint(t, l, "a=1+2&b=%26")
}
