package http_test

import (
	"testing"

	"wicketman/api"
	"wicketman/http"
)

// backAgain has Print write what Parse told of a request, and Parse tell that again.
// A line of a field may be too long, printed: it was told of a line without a blank behind its colon.
func backAgain(t *testing.T, s string) {
	t.Helper()
	q, e := http.Parse([]byte(s))
	if e != api.OK {
		t.Fatalf("Parse of %q: %v", s, e)
	}
	want := q.Method + " " + q.Path + " HTTP/1.1\r\n"
	fits := true
	for _, p := range q.Fields {
		line := p.Name + ": " + p.Value
		want += line + end
		fits = fits && len(line) <= mostBytes
	}
	want += end + string(q.Body)
	if !fits {
		printsNothing(t, q)
		return
	}
	askPrint(t, q, want)
	askParse(t, want, q)
}

func TestPrint(t *testing.T) {
	askPrint(t, asks("GET", "/", "", "Host", "a"), "GET / HTTP/1.1\r\nHost: a\r\n\r\n")
	askPrint(t, asks("post", "/a?b=c", "x=y\r\n\r\n", "a", "", "HOST", "a", "b", "c \xff", "b", "c", "content-length", "07"),
		"post /a?b=c HTTP/1.1\r\na: \r\nHOST: a\r\nb: c \xff\r\nb: c\r\ncontent-length: 07\r\n\r\nx=y\r\n\r\n")
	askPrint(t, asks("GET", "/", "", "Host", ""), "GET / HTTP/1.1\r\nHost: \r\n\r\n")
	askPrint(t, asks("GET", "/", "", "Host", "a", "Content-Length", "0"), "GET / HTTP/1.1\r\nHost: a\r\nContent-Length: 0\r\n\r\n")
}

func TestPrintOfWhatParseTold(t *testing.T) {
	lines, _ := some(mostFields)
	for _, s := range []string{
		plainHead + end, whole, long(0), long(1), long(mostBody), first + lines + end,
		begun("GET /" + of(mostBytes-len("GET / HTTP/1.1")) + " HTTP/1.1"),
		"!#$%&'*+-.^_`|~ /!~ HTTP/1.1\r\nhOST:\t\r\n\r\n",
		with("", "a: b", "a:\t c d \t", "A:", "a: \x80\xff"),
		with("", "a: "+of(mostBytes-3)),
		with("", "a:"+of(mostBytes-3)),
		with("", "a:"+of(mostBytes-2)), // printed, this line has one byte too many
		with(string(every()), "Content-Length: 256"),
	} {
		backAgain(t, s)
	}
}

func TestPrintOfWhatIsNoRequest(t *testing.T) {
	const l = "Content-Length"
	_, many := some(mostFields + 1)
	for _, r := range []api.Request{
		{}, // nothing is in it
		asks("GET", "/", ""),
		asks("GET", "/", "", "a", "b"),
		asks("", "", "", "Host", "a"),
		asks("", "/", "", "Host", "a"),
		asks("GET", "", "", "Host", "a"),
		{Method: "GET", Path: "/", Fields: many},
		asks("GET", "/", "", "Host", "a", "Host", "a"),
		asks("GET", "/", "", "Host", "a", "host", "b"),
		asks("GET", "/", "", "Host", "a", "Transfer-Encoding", ""),
		asks("GET", "/", "", "Host", "a", "transfer-encoding", "chunked"),
		asks("GET", "/", "x", "Host", "a"), // a body without its length
		asks("GET", "/", "x", "Host", "a", l, "0"),
		asks("GET", "/", "x", "Host", "a", l, "2"),
		asks("GET", "/", "", "Host", "a", l, "1"),
		asks("GET", "/", "", "Host", "a", l, ""),
		asks("GET", "/", "x", "Host", "a", l, "+1"),
		asks("GET", "/", "x", "Host", "a", l, "1", l, "1"),
		asks("GET", "/", of(mostBody+1), "Host", "a", l, digits(mostBody+1)),
		asks("GET", "/"+of(mostBytes-len("GET / HTTP/1.1")+1), "", "Host", "a"),
		asks("GET", "/", "", "Host", "a", "a", of(mostBytes-2)),
		asks("GET", "/", "", "Host", "a", of(mostBytes), "a"),
	} {
		printsNothing(t, r)
	}
}

// What would be read as something else is not printed: no word of a request can bring another word, line, or request along.
func TestNoWordBringsAnother(t *testing.T) {
	for _, method := range []string{"GET /", "GET ", " GET", "GET\r\n", "\r\nGET", "GET / HTTP/1.1\r\nHost: a\r\n\r\nGET", "G\x00T", "G\xffT"} {
		printsNothing(t, asks(method, "/", "", "Host", "a"))
		printsNothing(t, asks(method, "", "", "Host", "a"))
	}
	for _, path := range []string{"a", " /", "/ ", "/ HTTP/1.1", "/ /", "/ HTTP/1.1\r\nHost: a", "/ HTTP/1.1\r\nHost: a\r\n\r\nGET /", "/\r\n", "/\r\n\r\n", "/\n", "/\x00", "/\x7f", "/\xff", "/\t", "\u2044"} {
		printsNothing(t, asks("GET", path, "", "Host", "a"))
		printsNothing(t, asks("GET", path, ""))
	}
	for _, name := range []string{"", " ", "a b", "a:", "a: b\r\nc", "\r\n", "a\r\n", " a", "a\xff", "\x00", "a/b"} {
		printsNothing(t, asks("GET", "/", "", "Host", "a", name, "b"))
		printsNothing(t, asks("GET", "/", "", name, "b", "Host", "a"))
	}
	for _, value := range []string{" ", "\t", " b", "b ", "b\r\nc: d", "b\r\n", "\r\n\r\n", "b\nc", "b\rc", "\x00", "b\x7f"} {
		printsNothing(t, asks("GET", "/", "", "Host", "a", "a", value))
		printsNothing(t, asks("GET", "/", "", "Host", value))
	}
}

// A field that may not be is no empty line, behind which the others would be a body.
func TestAFieldThatMayNotBeEndsNoHead(t *testing.T) {
	printsNothing(t, asks("GET", "/", "", "Host", "a", "", ""))
	printsNothing(t, asks("GET", "/", "b: c\r\n\r\n", "Host", "a", "Content-Length", "8", "a b", "c", "b", "c"))
	printsNothing(t, asks("GET", "/", "\r\n", "Host", "a", "Content-Length", "2", "a b", "c"))
	printsNothing(t, asks("GET", "/", "", "Host", "a", "Content-Length", "2", "a b", "c"))
	printsNothing(t, asks("GET", "/", "", "Host", "a", "a", of(mostBytes)))
}

func TestSame(t *testing.T) {
	base := asks("GET", "/a", "bc", "Host", "a", "d", "e", "Content-Length", "2")
	askSame(t, base, asks("GET", "/a", "bc", "Host", "a", "d", "e", "Content-Length", "2"), true)
	for _, other := range []api.Request{
		{},
		asks("POST", "/a", "bc", "Host", "a", "d", "e", "Content-Length", "2"),
		asks("get", "/a", "bc", "Host", "a", "d", "e", "Content-Length", "2"), // a letter is no other letter
		asks("", "/a", "bc", "Host", "a", "d", "e", "Content-Length", "2"),
		asks("GET", "/b", "bc", "Host", "a", "d", "e", "Content-Length", "2"),
		asks("GET", "/A", "bc", "Host", "a", "d", "e", "Content-Length", "2"),
		asks("GET", "/a/", "bc", "Host", "a", "d", "e", "Content-Length", "2"),
		asks("GET", "", "bc", "Host", "a", "d", "e", "Content-Length", "2"),
		asks("GET", "/a", "bd", "Host", "a", "d", "e", "Content-Length", "2"),
		asks("GET", "/a", "b", "Host", "a", "d", "e", "Content-Length", "2"),
		asks("GET", "/a", "bcd", "Host", "a", "d", "e", "Content-Length", "2"),
		asks("GET", "/a", "", "Host", "a", "d", "e", "Content-Length", "2"),
		asks("GET", "/a", "bc"),
		asks("GET", "/a", "bc", "Host", "a", "d", "e"),
		asks("GET", "/a", "bc", "Host", "a", "d", "e", "Content-Length", "2", "f", "g"),
		asks("GET", "/a", "bc", "Host", "a", "d", "e", "Content-Length", "3"),
		asks("GET", "/a", "bc", "Host", "a", "d", "e", "content-length", "2"),
		asks("GET", "/a", "bc", "Host", "a", "d", "", "Content-Length", "2"),
		asks("GET", "/a", "bc", "Host", "a", "de", "", "Content-Length", "2"),
		asks("GET", "/a", "bc", "Host", "a", "D", "e", "Content-Length", "2"),
		asks("GET", "/a", "bc", "d", "e", "Host", "a", "Content-Length", "2"), // nor is another order the same one
		asks("GET/a", "", "bc", "Host", "a", "d", "e", "Content-Length", "2"),
	} {
		askSame(t, base, other, false)
		askSame(t, other, other, true)
	}
}

// No list and an empty one are the same.
func TestSameOfNothing(t *testing.T) {
	none := api.Request{Method: "GET", Path: "/"}
	empty := api.Request{Method: "GET", Path: "/", Fields: []api.Pair{}, Body: []byte{}}
	askSame(t, none, empty, true)
	askSame(t, api.Request{}, api.Request{}, true)
	askSame(t, api.Request{}, none, false)
	some := none
	some.Body = []byte{0}
	askSame(t, none, some, false)
	some = none
	some.Fields = []api.Pair{{}}
	askSame(t, empty, some, false)
}

// printAsModel holds what Print tells against the model: the words of a request, if they are read as just that one.
func printAsModel(t *testing.T, r api.Request) bool {
	t.Helper()
	s := r.Method + " " + r.Path + " HTTP/1.1\r\n"
	for _, p := range r.Fields {
		s += p.Name + ": " + p.Value + end
	}
	s += end + string(r.Body)
	if told, e := model(s); e != api.OK || !areSame(told, r) {
		printsNothing(t, r)
		return false
	}
	askPrint(t, r, s)
	askParse(t, s, r)
	return true
}

// Each byte there is, at each place of a request that is to be printed.
func TestThereAndBack(t *testing.T) {
	had := map[bool]int{}
	for _, c := range every() {
		s := one(c)
		for _, r := range []api.Request{
			asks(s, "/", "", "Host", "a"),
			asks("a"+s+"b", "/", "", "Host", "a"),
			asks("a", s, "", "Host", "a"),
			asks("a", "/"+s, "", "Host", "a"),
			asks("a", "/", "", "Host", "a", s, "c"),
			asks("a", "/", "", "Host", "a", "b"+s, "c"),
			asks("a", "/", "", "Host", s),
			asks("a", "/", "", "Host", "b"+s+"c"),
			asks("a", "/", s, "Host", "a"),
			asks("a", "/", s, "Host", "a", "Content-Length", "1"),
			asks("a", "/", of(7), "Host", "a", "Content-Length", s),
			asks("a", "/", of(7), "Host", "a", "Content-Length", s+"7"),
		} {
			had[printAsModel(t, r)]++
		}
	}
	if had[true] < 500 || had[false] < 500 {
		t.Errorf("%v: these requests test nothing", had)
	}
}
