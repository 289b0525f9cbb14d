package http_test

import (
	"slices"
	"strconv"
	"strings"
	"testing"

	"wicketman/api"
	"wicketman/http"
)

const (
	mostBytes  = 2000 // of a line
	mostFields = 40
	mostBody   = 4000
	first      = "GET / HTTP/1.1\r\n"
	plainHead  = first + "Host: a\r\n"
	end        = "\r\n"
)

// every is each byte there is, once.
func every() []byte {
	b := make([]byte, 256)
	for i := range b {
		b[i] = byte(i)
	}
	return b
}

// one is the text of one byte.
func one(c byte) string { return string([]byte{c}) }

// of is a text of n bytes, all of them an 'x'.
func of(n int) string { return strings.Repeat("x", n) }

// pairs are pairs of a name, its value, the next name, its value, ..
func pairs(words ...string) []api.Pair {
	var l []api.Pair
	for i := 0; i < len(words); i += 2 {
		l = append(l, api.Pair{Name: words[i], Value: words[i+1]})
	}
	return l
}

// asks is a request of a method, a path, a body, and of fields as pairs has them.
func asks(method, path, body string, words ...string) api.Request {
	return api.Request{Method: method, Path: path, Fields: pairs(words...), Body: []byte(body)}
}

// some are n lines of fields, the first of them a Host, and these.
func some(n int) (string, []api.Pair) {
	if n == 0 {
		return "", nil
	}
	var lines strings.Builder
	l := pairs("Host", "a")
	lines.WriteString("Host: a\r\n")
	for i := 1; i < n; i++ {
		p := api.Pair{Name: "n" + strconv.Itoa(i), Value: strconv.Itoa(i * i)}
		lines.WriteString(p.Name + ": " + p.Value + "\r\n")
		l = append(l, p)
	}
	return lines.String(), l
}

// areSame is what Same has to say, by other means.
func areSame(a, b api.Request) bool {
	return a.Method == b.Method && a.Path == b.Path && string(a.Body) == string(b.Body) && slices.Equal(a.Fields, b.Fields)
}

// isNothing says whether a request has nothing in it.
func isNothing(q api.Request) bool { return areSame(q, api.Request{}) }

func askLines(t *testing.T, s string, wantEnd int, want ...string) {
	t.Helper()
	if got, n, ok := http.Lines([]byte(s)); !slices.Equal(got, want) || n != wantEnd || !ok {
		t.Errorf("Lines of %q: %q, %d, %v, want %q, %d, true", s, got, n, ok, want, wantEnd)
	}
}

func hasNoLines(t *testing.T, s string) {
	t.Helper()
	if got, n, ok := http.Lines([]byte(s)); len(got) != 0 || n != 0 || ok {
		t.Errorf("Lines of %q: %q, %d, %v, want nothing, 0, false", s, got, n, ok)
	}
}

func askParse(t *testing.T, s string, want api.Request) {
	t.Helper()
	if got, e := http.Parse([]byte(s)); !areSame(got, want) || e != api.OK {
		t.Errorf("Parse of %q: %q, %v, want %q, OK", s, got, e, want)
	}
}

func refuses(t *testing.T, s string, want api.Errno) {
	t.Helper()
	if got, e := http.Parse([]byte(s)); !isNothing(got) || e != want {
		t.Errorf("Parse of %q: %q, %v, want nothing, %v", s, got, e, want)
	}
}

// asModel holds what Parse tells against the model, and is the error.
func asModel(t *testing.T, s string) api.Errno {
	t.Helper()
	want, wantE := model(s)
	got, e := http.Parse([]byte(s))
	if !areSame(got, want) || e != wantE {
		t.Fatalf("Parse of %q: %q, %v, want %q, %v", s, got, e, want, wantE)
	}
	return e
}

func askPrint(t *testing.T, r api.Request, want string) {
	t.Helper()
	if got, e := http.Print(r); string(got) != want || e != api.OK {
		t.Errorf("Print of %q: %q, %v, want %q, OK", r, got, e, want)
	}
}

func printsNothing(t *testing.T, r api.Request) {
	t.Helper()
	if got, e := http.Print(r); len(got) != 0 || e != api.ErrForm {
		t.Errorf("Print of %q: %q, %v, want nothing, ErrForm", r, got, e)
	}
}

func askSame(t *testing.T, a, b api.Request, want bool) {
	t.Helper()
	if got := http.Same(a, b); got != want {
		t.Errorf("Same of %q, %q: %v, want %v", a, b, got, want)
	}
	if got := http.Same(b, a); got != want {
		t.Errorf("Same of %q, %q: %v, want %v", b, a, got, want)
	}
}

func TestTheChapter(t *testing.T) {
	const s = "GET / HTTP/1.1\r\nHost: a\r\n\r\n"
	q := asks("GET", "/", "", "Host", "a")
	askParse(t, s, q)
	askLines(t, s, len(s), "GET / HTTP/1.1", "Host: a")
	askPrint(t, q, s)
	askSame(t, q, asks("GET", "/", "", "Host", "a"), true)
}

func TestStatus(t *testing.T) {
	for _, c := range []struct {
		e    api.Errno
		want int
	}{
		{api.OK, 200},
		{api.ErrArg, 400},
		{api.ErrLong, 431},
		{api.ErrForm, 400},
		{api.ErrLine, 400},
		{api.ErrField, 400},
		{api.ErrBody, 413},
		{api.ErrTwice, 400},
		{api.ErrText, 400},
		{api.ErrFile, 400},
		{api.ErrFull, 400},
		{api.ErrDead, 400},
		{api.ErrSum, 400},
		{api.ErrThere, 400},
		{api.ErrNone, 400},
		{api.ErrWrong, 400},
	} {
		if got := http.Status(c.e); got != c.want {
			t.Errorf("Status of %v: %d, want %d", c.e, got, c.want)
		}
	}
}

// Each number there is: three of them have a status of their own.
func TestStatusOfEachNumber(t *testing.T) {
	for n := range 1 << 16 {
		want := 400
		switch n {
		case 0:
			want = 200
		case 3:
			want = 431
		case 13:
			want = 413
		}
		if got := http.Status(api.Errno(n)); got != want {
			t.Errorf("Status of %d: %d, want %d", n, got, want)
		}
	}
}
