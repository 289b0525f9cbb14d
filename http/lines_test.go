package http_test

import (
	"math/rand"
	"slices"
	"strings"
	"testing"

	"wicketman/api"
	"wicketman/http"
)

func TestLines(t *testing.T) {
	for _, c := range []struct {
		s    string
		end  int
		want []string
	}{
		{"a\r\n\r\n", 5, []string{"a"}},
		{"a\r\nb\r\n\r\n", 8, []string{"a", "b"}},
		{"a\r\nbc\r\ndef\r\n\r\n", 14, []string{"a", "bc", "def"}},
		{" \r\n\r\n", 5, []string{" "}}, // a blank is a byte
		{"\x00\r\n\r\n", 5, []string{"\x00"}},
		{"\xff\xfe\r\n\u00e9\r\n\r\n", 10, []string{"\xff\xfe", "\u00e9"}},
		{of(100000) + "\r\n\r\n", 100004, []string{of(100000)}}, // nothing bounds a line here
	} {
		askLines(t, c.s, c.end, c.want...)
	}
	const many = 5000 // nor how many there are
	askLines(t, strings.Repeat("a\r\n", many)+end, 3*many+2, slices.Repeat([]string{"a"}, many)...)
}

func TestLinesUpToTheFirstEmptyOne(t *testing.T) {
	askLines(t, "\r\n", 2) // alone: no line, but there is where it ends
	askLines(t, "\r\nbody", 2)
	askLines(t, "\r\na\r\n\r\n", 2)
	askLines(t, "\r\n\r\n", 2)
	askLines(t, "a\r\n\r\nbody", 5, "a") // bytes behind it are no lines
	askLines(t, "a\r\n\r\nb\r\n\r\nc", 5, "a")
	askLines(t, "a\r\n\r\n\r\n", 5, "a")
	askLines(t, "a\r\n\r\n\r", 5, "a")
	askLines(t, "a\r\n\r\n\n", 5, "a")
	askLines(t, "a\r\n\r\n\x00\xff", 5, "a")
}

// A 0d without a 0a behind it ends no line, nor does a 0a without a 0d ahead of it: they are bytes of it.
func TestHalvesOfALinesEnd(t *testing.T) {
	askLines(t, "a\rb\r\n\r\n", 7, "a\rb")
	askLines(t, "a\nb\r\n\r\n", 7, "a\nb")
	askLines(t, "a\n\rb\r\n\r\n", 8, "a\n\rb")
	askLines(t, "a\r\rb\r\n\r\n", 8, "a\r\rb")
	askLines(t, "a\r\r\n\r\n", 6, "a\r")
	askLines(t, "a\n\r\n\r\n", 6, "a\n")
	askLines(t, "\r\r\n\r\n", 5, "\r")
	askLines(t, "\n\r\n\r\n", 5, "\n")
	askLines(t, "a\r\n\r\r\n\r\n", 8, "a", "\r")
	askLines(t, "a\r\n\n\r\n\r\n", 8, "a", "\n")
	askLines(t, "a\r\n\n\r\r\n\r\n", 9, "a", "\n\r")
}

func TestWithoutAnEmptyLine(t *testing.T) {
	for _, s := range []string{
		"", "a", " ", "\r", "\n", "\n\r", "\r\r", "\n\n", "\r\r\n", "\n\r\n",
		"a\r", "a\n", "a\r\n", "a\r\nb", "a\r\nb\r\n", "a\r\n\r", "a\r\n\n", "a\r\n\nb", "a\n\n", "a\r\r", "a\n\r\n", "a\r\r\n\n",
		"a\r\n \r\n", "a\r\n\t\r\n", "a\r\n\r\r\n", "a\r\n\n\r\n", "a\r\n\x00\r\n",
		"GET / HTTP/1.1\nHost: a\n\n", "GET / HTTP/1.1\rHost: a\r\r", "GET / HTTP/1.1\r\nHost: a\r\n", plainHead + "\r", plainHead + "\n",
		of(100000), strings.Repeat("a\r\n", 5000),
	} {
		hasNoLines(t, s)
	}
	if l, n, ok := http.Lines(nil); len(l) != 0 || n != 0 || ok {
		t.Errorf("Lines of nil: %q, %d, %v", l, n, ok)
	}
}

// linesOf is what Lines has to say, by other means.
func linesOf(s string) ([]string, int, bool) {
	if strings.HasPrefix(s, end) {
		return nil, len(end), true
	}
	ahead, _, found := strings.Cut(s, end+end)
	if !found {
		return nil, 0, false
	}
	return strings.Split(ahead, end), len(ahead) + len(end+end), true
}

func linesAsTheModel(t *testing.T, s string) bool {
	t.Helper()
	want, wantEnd, wantOK := linesOf(s)
	got, n, ok := http.Lines([]byte(s))
	if !slices.Equal(got, want) || n != wantEnd || ok != wantOK {
		t.Fatalf("Lines of %q: %q, %d, %v, want %q, %d, %v", s, got, n, ok, want, wantEnd, wantOK)
	}
	return ok
}

// All rows of up to eight bytes that are a 0d, a 0a, or another one.
func TestLinesOfAllShortRows(t *testing.T) {
	rows := []string{""}
	for range 8 {
		for _, s := range rows {
			linesAsTheModel(t, s)
		}
		var longer []string
		for _, s := range rows {
			longer = append(longer, s+"\r", s+"\n", s+"a")
		}
		rows = longer
	}
	for _, s := range rows {
		linesAsTheModel(t, s)
	}
}

func TestLinesAsTheModel(t *testing.T) {
	words := []string{"a", "b: c", "\r\n", "\r\n", "\r\n", "\r", "\n", " ", "\x00", "\xff", "\u00e9"}
	draw := rand.New(rand.NewSource(9))
	had := map[bool]int{}
	for range 40000 {
		var b strings.Builder
		for range draw.Intn(20) {
			b.WriteString(words[draw.Intn(len(words))])
		}
		had[linesAsTheModel(t, b.String())]++
	}
	if had[true] < 5000 || had[false] < 5000 {
		t.Errorf("%v: these rows test nothing", had)
	}
}

// Where the lines end is where the body of a request begins.
func TestTheBodyBeginsWhereTheLinesEnd(t *testing.T) {
	for _, body := range []string{"", "a", "\r\n", "\r\n\r\n", "a\r\n\r\nb", "\r", "\n"} {
		s := plainHead + "Content-Length: " + digits(len(body)) + end + end + body
		_, n, ok := http.Lines([]byte(s))
		q, e := http.Parse([]byte(s))
		if !ok || e != api.OK || s[n:] != body || string(q.Body) != body {
			t.Errorf("%q: the lines end at %d, the body is %q, %v", s, n, q.Body, e)
		}
	}
}
