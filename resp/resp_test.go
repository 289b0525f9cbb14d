package resp_test

import (
	"fmt"
	"math"
	"slices"
	"strconv"
	"strings"
	"testing"

	"wicketman/api"
	"wicketman/resp"
)

const (
	mostBytes  = 2000 // of a field's line
	mostFields = 40
	mostBody   = 4000
	first      = "HTTP/1.1 200 OK\r\n"
	end        = "\r\n"
)

// reasons are what the chapter has the statuses called.
func reasons() map[int]string {
	return map[int]string{
		200: "OK", 303: "See Other", 400: "Bad Request", 401: "Unauthorized", 403: "Forbidden", 404: "Not Found", 405: "Method Not Allowed", 409: "Conflict",
		413: "Content Too Large", 429: "Too Many Requests", 431: "Request Header Fields Too Large", 503: "Service Unavailable",
	}
}

// every is each byte there is, once.
func every() []byte {
	b := make([]byte, 256)
	for i := range b {
		b[i] = byte(i)
	}
	return b
}

// one is the text of one byte.
func one(c byte) string { return string([]byte{c}) }

// of is a text of n bytes, all of them an 'x'.
func of(n int) string { return strings.Repeat("x", n) }

func digits(n int) string { return strconv.Itoa(n) }

// pairs are pairs of a name, its value, the next name, its value, ..
func pairs(words ...string) []api.Pair {
	var l []api.Pair
	for i := 0; i < len(words); i += 2 {
		l = append(l, api.Pair{Name: words[i], Value: words[i+1]})
	}
	return l
}

// answers is a response of a status, a body, and of fields as pairs has them.
func answers(status int, body string, words ...string) api.Response {
	return api.Response{Status: status, Fields: pairs(words...), Body: []byte(body)}
}

// some are n lines of fields, and these.
func some(n int) (string, []api.Pair) {
	var lines strings.Builder
	var l []api.Pair
	for i := range n {
		p := api.Pair{Name: "n" + digits(i), Value: digits(i * i)}
		lines.WriteString(p.Name + ": " + p.Value + end)
		l = append(l, p)
	}
	return lines.String(), l
}

// areSame is what Same has to say, by other means.
func areSame(a, b api.Response) bool {
	return a.Status == b.Status && string(a.Body) == string(b.Body) && slices.Equal(a.Fields, b.Fields)
}

// shown is a response as a test tells it.
func shown(r api.Response) string { return fmt.Sprintf("%d %q %q", r.Status, r.Fields, r.Body) }

// isNothing says whether a response has nothing in it.
func isNothing(r api.Response) bool { return areSame(r, api.Response{}) }

func askReason(t *testing.T, status int, want string) {
	t.Helper()
	if got := resp.Reason(status); got != want {
		t.Errorf("Reason of %d: %q, want %q", status, got, want)
	}
}

func askPrint(t *testing.T, r api.Response, want string) {
	t.Helper()
	if got, e := resp.Print(r); string(got) != want || e != api.OK {
		t.Errorf("Print of %s: %q, %v, want %q, OK", shown(r), got, e, want)
	}
}

func printsNothing(t *testing.T, r api.Response, want api.Errno) {
	t.Helper()
	if got, e := resp.Print(r); len(got) != 0 || e != want {
		t.Errorf("Print of %s: %q, %v, want nothing, %v", shown(r), got, e, want)
	}
}

func askParse(t *testing.T, s string, want api.Response) {
	t.Helper()
	if got, e := resp.Parse([]byte(s)); !areSame(got, want) || e != api.OK {
		t.Errorf("Parse of %q: %s, %v, want %s, OK", s, shown(got), e, shown(want))
	}
}

func refuses(t *testing.T, s string) {
	t.Helper()
	if got, e := resp.Parse([]byte(s)); !isNothing(got) || e != api.ErrForm {
		t.Errorf("Parse of %q: %s, %v, want nothing, ErrForm", s, shown(got), e)
	}
}

func askSame(t *testing.T, a, b api.Response, want bool) {
	t.Helper()
	if got := resp.Same(a, b); got != want {
		t.Errorf("Same of %s, %s: %v, want %v", shown(a), shown(b), got, want)
	}
	if got := resp.Same(b, a); got != want {
		t.Errorf("Same of %s, %s: %v, want %v", shown(b), shown(a), got, want)
	}
}

func TestTheChapter(t *testing.T) {
	const s = "HTTP/1.1 200 OK\r\nContent-Length: 1\r\n\r\na"
	r := api.Response{Status: 200, Body: []byte("a")}
	askPrint(t, r, s)
	askParse(t, s, r)
	askSame(t, r, answers(200, "a"), true)
}

func TestReason(t *testing.T) {
	for status, want := range reasons() {
		askReason(t, status, want)
		for _, beside := range []int{status - 1, status + 1, -status, status + 1000, status << 8, status + 1<<16, status + 1<<32} {
			askReason(t, beside, reasons()[beside])
		}
	}
	// Statuses that others have are not among them.
	for _, status := range []int{100, 201, 204, 206, 301, 302, 304, 307, 308, 402, 406, 408, 410, 411, 412, 414, 415, 418, 422, 451, 500, 501, 502, 504, 505} {
		askReason(t, status, "")
	}
	for _, status := range []int{0, -1, 1, -200, 2, 20, 2000, 99, 999, 1000, math.MaxInt, math.MinInt, math.MaxInt32, math.MinInt32, math.MaxInt - 1, math.MinInt + 1} {
		askReason(t, status, "")
	}
}

func TestReasonOfEachNumber(t *testing.T) {
	want := reasons()
	told := 0
	for status := -2000; status < 1<<17; status++ {
		askReason(t, status, want[status])
		if resp.Reason(status) != "" {
			told++
		}
	}
	if told != 12 {
		t.Errorf("%d statuses have a reason, want 12", told)
	}
}

func TestPage(t *testing.T) {
	const kind, kept = "text/plain; charset=utf-8", "no-store"
	for _, c := range []struct {
		got, want api.Response
	}{
		{resp.Page(200, "hello"), answers(200, "hello", "Content-Type", kind, "Cache-Control", kept)},
		{resp.Page(404, ""), answers(404, "", "Content-Type", kind, "Cache-Control", kept)},
		{resp.Page(303, "", pairs("Location", "/me")...), answers(303, "", "Content-Type", kind, "Cache-Control", kept, "Location", "/me")},
		{
			resp.Page(401, "\x00\xff\r\n", api.Pair{Name: "b", Value: "c"}, api.Pair{Name: "a", Value: "d"}, api.Pair{Name: "b", Value: "c"}),
			answers(401, "\x00\xff\r\n", "Content-Type", kind, "Cache-Control", kept, "b", "c", "a", "d", "b", "c"), // in order, each as often as it is there
		},
		{resp.Page(200, "a", pairs("Content-Type", "b", "cache-control", "c")...), answers(200, "a", "Content-Type", kind, "Cache-Control", kept, "Content-Type", "b", "cache-control", "c")},
		{resp.Page(200, "a", []api.Pair{}...), answers(200, "a", "Content-Type", kind, "Cache-Control", kept)},
		{resp.Page(200, "a", api.Pair{}), answers(200, "a", "Content-Type", kind, "Cache-Control", kept, "", "")},
		// Whether it may be printed is not asked here.
		{resp.Page(0, "", pairs("a b", "\r\n")...), answers(0, "", "Content-Type", kind, "Cache-Control", kept, "a b", "\r\n")},
		{resp.Page(math.MinInt, of(mostBody+1)), answers(math.MinInt, of(mostBody+1), "Content-Type", kind, "Cache-Control", kept)},
	} {
		if !areSame(c.got, c.want) {
			t.Errorf("Page tells %s, want %s", shown(c.got), shown(c.want))
		}
	}
}

func TestPagesOfEachStatus(t *testing.T) {
	for status, reason := range reasons() {
		for _, body := range []string{"", "a", string(every()), of(mostBody)} {
			r := resp.Page(status, body, api.Pair{Name: "a", Value: "b"})
			askPrint(t, r, "HTTP/1.1 "+digits(status)+" "+reason+"\r\nContent-Type: text/plain; charset=utf-8\r\nCache-Control: no-store\r\na: b\r\nContent-Length: "+digits(len(body))+"\r\n\r\n"+body)
		}
	}
}

// Two of a page's fields are its own: 38 more may be printed.
func TestPagesOfManyFields(t *testing.T) {
	for n := range 2 * mostFields {
		lines, fields := some(n)
		r := resp.Page(200, "a", fields...)
		if len(r.Fields) != n+2 || !slices.Equal(r.Fields[2:], fields) {
			t.Errorf("Page of %d fields tells %q", n, r.Fields)
		}
		if n+2 > mostFields {
			printsNothing(t, r, api.ErrLong)
			continue
		}
		askPrint(t, r, first+"Content-Type: text/plain; charset=utf-8\r\nCache-Control: no-store\r\n"+lines+"Content-Length: 1\r\n\r\na")
	}
}

func TestSame(t *testing.T) {
	base := answers(200, "bc", "a", "b", "d", "e")
	askSame(t, base, answers(200, "bc", "a", "b", "d", "e"), true)
	for _, other := range []api.Response{
		{},
		answers(400, "bc", "a", "b", "d", "e"),
		answers(0, "bc", "a", "b", "d", "e"),
		answers(-200, "bc", "a", "b", "d", "e"),
		answers(200+1<<32, "bc", "a", "b", "d", "e"),
		answers(200, "", "a", "b", "d", "e"),
		answers(200, "b", "a", "b", "d", "e"),
		answers(200, "bd", "a", "b", "d", "e"),
		answers(200, "BC", "a", "b", "d", "e"),
		answers(200, "bcd", "a", "b", "d", "e"),
		answers(200, "bc\x00", "a", "b", "d", "e"),
		answers(200, "bc"),
		answers(200, "bc", "a", "b"),
		answers(200, "bc", "d", "e"),
		answers(200, "bc", "d", "e", "a", "b"), // another order is not the same one
		answers(200, "bc", "A", "b", "d", "e"), // nor is a great letter
		answers(200, "bc", "a", "B", "d", "e"),
		answers(200, "bc", "a", "", "d", "e"),
		answers(200, "bc", "", "b", "d", "e"),
		answers(200, "bc", "a", "b", "de", ""),
		answers(200, "bc", "a", "b", "d", "f"),
		answers(200, "bc", "a", "b", "f", "e"),
		answers(200, "bc", "a", "b", "a", "b"),
		answers(200, "bc", "a", "b", "d", "e", "f", "g"),
		answers(200, "bc", "a", "b", "d", "e", "", ""),
		answers(200, "bc", "a", "b", "d", "e", "Content-Length", "2"),
	} {
		askSame(t, base, other, false)
		askSame(t, other, other, true)
	}
}

// No list and an empty one are the same.
func TestSameOfNothing(t *testing.T) {
	none := api.Response{Status: 200}
	empty := api.Response{Status: 200, Fields: []api.Pair{}, Body: []byte{}}
	askSame(t, none, empty, true)
	askSame(t, api.Response{}, api.Response{}, true)
	askSame(t, api.Response{}, none, false)
	askSame(t, none, answers(200, "\x00"), false)
	askSame(t, empty, answers(200, "", "", ""), false)
}
