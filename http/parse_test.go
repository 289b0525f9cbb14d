package http_test

import (
	"math/rand"
	"regexp"
	"slices"
	"strconv"
	"strings"
	"testing"

	"wicketman/api"
	"wicketman/head"
	"wicketman/http"
)

func digits(n int) string { return strconv.Itoa(n) }

// with is a request with these lines behind its first one and its Host, and with that body.
func with(body string, lines ...string) string {
	return plainHead + strings.Join(append(lines, ""), end) + end + body
}

// long is a request whose body has n bytes, as its length tells.
func long(n int) string { return with(of(n), "Content-Length: "+digits(n)) }

// begun is a request with that first line.
func begun(line string) string { return line + end + "Host: a\r\n\r\n" }

func TestParse(t *testing.T) {
	askParse(t, "POST /login HTTP/1.1\r\nHost: gate.example\r\nCookie: __Host-id=5\r\nContent-Type: application/x-www-form-urlencoded\r\nContent-Length: 19\r\n\r\nuser=anna&pass=blue",
		asks("POST", "/login", "user=anna&pass=blue", "Host", "gate.example", "Cookie", "__Host-id=5", "Content-Type", "application/x-www-form-urlencoded", "Content-Length", "19"))
	askParse(t, "GET /me?a=b HTTP/1.1\r\nAccept: */*\r\nHOST:a:80\r\nX:\t b \r\nX: \r\nX:c\r\n\r\n",
		asks("GET", "/me?a=b", "", "Accept", "*/*", "HOST", "a:80", "X", "b", "X", "", "X", "c")) // in order, each as it stands there
	askParse(t, with("\x00\r\n\xff\r\n\r\n", "Content-Length: 8"), asks("GET", "/", "\x00\r\n\xff\r\n\r\n", "Host", "a", "Content-Length", "8"))
	askParse(t, with("GET / HTTP/1.1\r\n\r\n", "Content-Length: 18"), asks("GET", "/", "GET / HTTP/1.1\r\n\r\n", "Host", "a", "Content-Length", "18"))
	askParse(t, with("", "a: \xff\x80\u00e9"), asks("GET", "/", "", "Host", "a", "a", "\xff\x80\u00e9"))
}

func TestFirstLines(t *testing.T) {
	for _, c := range []struct{ line, method, path string }{
		{"GET / HTTP/1.1", "GET", "/"},
		{"get /a HTTP/1.1", "get", "/a"}, // letters stay as they are, and any token is a method
		{"X / HTTP/1.1", "X", "/"},
		{"M-SEARCH /a/b/c HTTP/1.1", "M-SEARCH", "/a/b/c"},
		{"!#$%&'*+-.^_`|~09 / HTTP/1.1", "!#$%&'*+-.^_`|~09", "/"},
		{"GET // HTTP/1.1", "GET", "//"},
		{"GET /HTTP/1.1 HTTP/1.1", "GET", "/HTTP/1.1"},
		{"GET /../..?a=b&c=%zz#d HTTP/1.1", "GET", "/../..?a=b&c=%zz#d"}, // no byte of a path is looked into
		{"GET /!~ HTTP/1.1", "GET", "/!~"},
		{"GET /\"<>\\^`{|} HTTP/1.1", "GET", "/\"<>\\^`{|}"},
	} {
		askParse(t, begun(c.line), asks(c.method, c.path, "", "Host", "a"))
	}
}

func TestFirstLinesThatMayNotBe(t *testing.T) {
	for _, line := range []string{
		"a", " ", "GET", "/", "HTTP/1.1", "GET /", "GET HTTP/1.1", "/ HTTP/1.1", "GET/ HTTP/1.1", "GET /HTTP/1.1", "GET/HTTP/1.1", // too few words
		" / HTTP/1.1", "GET  HTTP/1.1", "GET / ", "GET /  ", "  HTTP/1.1", "  ", "   ", // some have no byte
		"GET  / HTTP/1.1", "GET /  HTTP/1.1", " GET / HTTP/1.1", "GET / HTTP/1.1 ", "GET / a HTTP/1.1", "GET / HTTP/1.1 a", "GET a / HTTP/1.1", // a blank too many
		"GET\t/ HTTP/1.1", "GET /\tHTTP/1.1", "GET / \tHTTP/1.1", "GET / HTTP/1.1\t", "GET \t/ HTTP/1.1", // a tab is no blank here
		"GET / HTTP/1.0", "GET / HTTP/2", "GET / HTTP/1.2", "GET / HTTP/1.11", "GET / HTTP/1.", "GET / HTTP/1", "GET / HTTP/01.1", "GET / HTTP/0.9",
		"GET / http/1.1", "GET / Http/1.1", "GET / HTTP 1.1", "GET / HTTP1.1", "GET / HTTPS/1.1", "GET / xHTTP/1.1", "GET / HTTP/1,1", "GET / HTTP/1.1\x00", "GET / HTTP/1.\uff11",
		"HTTP/1.1 / HTTP/1.1", "G:T / HTTP/1.1", "G(T / HTTP/1.1", "\"GET\" / HTTP/1.1", "GET, / HTTP/1.1", "G\xffT / HTTP/1.1", "G\u00c9T / HTTP/1.1", "G\x00T / HTTP/1.1", "\rGET / HTTP/1.1", "\nGET / HTTP/1.1", "G\x7fT / HTTP/1.1",
		"GET a HTTP/1.1", "GET a/ HTTP/1.1", "GET * HTTP/1.1", "GET http://a/ HTTP/1.1", "GET a:80 HTTP/1.1", "GET ?a HTTP/1.1", "GET \\ HTTP/1.1", "GET %2F HTTP/1.1", "OPTIONS * HTTP/1.1",
		"GET /a\x20b HTTP/1.1", "GET /\x7f HTTP/1.1", "GET /\x80 HTTP/1.1", "GET /\xff HTTP/1.1", "GET /\u00e9 HTTP/1.1", "GET /\x00 HTTP/1.1", "GET /\x1f HTTP/1.1", "GET /\r HTTP/1.1", "GET /\n HTTP/1.1", "GET /a\tb HTTP/1.1", "GET \u2044 HTTP/1.1",
		"GET / HTTP/1.1\r", "GET / HTTP/1.1\n", "GET / HTTP/1.1\nHost: b", "GET / HTTP/1.1\rHost: b",
		"Host: a",
	} {
		refuses(t, begun(line), api.ErrLine)
		refuses(t, line+end+end, api.ErrLine)
	}
}

func TestLengthsOfAFirstLine(t *testing.T) {
	for n := mostBytes - 3; n <= mostBytes+3; n++ {
		path := "/" + of(n-len("GET / HTTP/1.1"))
		method := of(n - len(" / HTTP/1.1"))
		if n > mostBytes {
			refuses(t, begun("GET "+path+" HTTP/1.1"), api.ErrLong)
			refuses(t, begun(method+" / HTTP/1.1"), api.ErrLong)
			refuses(t, begun(of(n)), api.ErrLong)
			refuses(t, begun(strings.Repeat(" ", n)), api.ErrLong)
			continue
		}
		askParse(t, begun("GET "+path+" HTTP/1.1"), asks("GET", path, "", "Host", "a"))
		askParse(t, begun(method+" / HTTP/1.1"), asks(method, "/", "", "Host", "a"))
		refuses(t, begun(of(n)), api.ErrLine)
		refuses(t, begun(strings.Repeat(" ", n)), api.ErrLine)
	}
	refuses(t, begun("GET /"+of(1000000)+" HTTP/1.1"), api.ErrLong)
}

func TestWithoutLines(t *testing.T) {
	if q, e := http.Parse(nil); !isNothing(q) || e != api.ErrForm {
		t.Errorf("Parse of nil: %q, %v", q, e)
	}
	for _, s := range []string{
		"", "\r\n", "\r\n\r\n", "\r\n" + plainHead + end, "\n", "\r", "a", first, plainHead, plainHead + "\r", plainHead + "\n",
		"GET / HTTP/1.1\nHost: a\n\n", "GET / HTTP/1.1\r\nHost: a\n\n", "GET / HTTP/1.1\r\nHost: a\r\r", "GET / HTTP/1.1\r\nHost: a\r\n \r\n",
	} {
		refuses(t, s, api.ErrForm)
	}
}

func TestNumbersOfFields(t *testing.T) {
	for n := 1; n <= 3*mostFields; n++ {
		lines, fields := some(n)
		s := first + lines + end
		if n > mostFields {
			refuses(t, s, api.ErrLong)
			continue
		}
		askParse(t, s, api.Request{Method: "GET", Path: "/", Fields: fields})
	}
	refuses(t, first+strings.Repeat("a:b\r\n", 100000)+end, api.ErrLong)
	// They are counted, whatever they are.
	refuses(t, first+strings.Repeat("a\r\n", mostFields)+end, api.ErrField)
	refuses(t, first+strings.Repeat("a\r\n", mostFields+1)+end, api.ErrLong)
	refuses(t, first+strings.Repeat("Host: a\r\n", mostFields)+end, api.ErrTwice)
	refuses(t, first+strings.Repeat("Host: a\r\n", mostFields+1)+end, api.ErrLong)
}

func TestFieldsThatMayNotBe(t *testing.T) {
	for _, line := range []string{
		"a", ":", ": b", "a b: c", "a : b", " a: b", "\ta: b", " folded", "a: b\rc: d", "a: b\nc: d", "a: b\r", "a: b\n", "\na: b", "\r", "\n",
		"a: \x00", "a: b\x7f", "a\xff: b", "\u00e9: b", "a/b: c", "Host a", "Host : a", "Content-Length 4", "GET / HTTP/1.1", of(mostBytes),
	} {
		refuses(t, with("", line), api.ErrField)
		refuses(t, with("", "b: c", line, "d: e"), api.ErrField)
		refuses(t, first+line+end+"Host: a\r\n\r\n", api.ErrField)
	}
	for _, line := range []string{of(mostBytes + 1), "a:" + of(mostBytes-1), "a: " + of(mostBytes-2), "a:\x00" + of(mostBytes), "a:" + strings.Repeat(" ", mostBytes)} {
		refuses(t, with("", line), api.ErrLong)
		refuses(t, with("", "b: c", line, "d: e"), api.ErrLong)
		refuses(t, first+line+end+"Host: a\r\n\r\n", api.ErrLong)
	}
	for n := mostBytes - 3; n <= mostBytes; n++ {
		askParse(t, with("", "a:"+of(n-2)), asks("GET", "/", "", "Host", "a", "a", of(n-2)))
	}
}

// Of several lines that are no fields the first one's error is told.
func TestWhichLinesErrorIsTold(t *testing.T) {
	long := "a:" + of(mostBytes)
	for _, c := range []struct {
		want  api.Errno
		lines []string
	}{
		{api.ErrLong, []string{long, "a b"}},
		{api.ErrField, []string{"a b", long}},
		{api.ErrLong, []string{"a: b", long, "c: d", "a b", long}},
		{api.ErrField, []string{"a: b", "a b", "c: d", long, "a b"}},
		{api.ErrField, []string{"Host: b", "a b", long}},
		{api.ErrLong, []string{"Host: b", long, "a b"}},
	} {
		refuses(t, with("", c.lines...), c.want)
		refuses(t, with("x", c.lines...), c.want)
		refuses(t, first+strings.Join(c.lines, end)+end+end, c.want)
	}
}

func TestHosts(t *testing.T) {
	for _, name := range []string{"Host", "host", "HOST", "hOsT"} {
		for _, value := range []string{"a", "", "a:80", "[::1]", "b c", "\xff"} { // no Host is looked into
			askParse(t, first+name+": "+value+end+end, asks("GET", "/", "", name, value))
			refuses(t, with("", name+": "+value), api.ErrTwice)
		}
	}
	refuses(t, first+end, api.ErrTwice) // no line behind the first
	for _, name := range []string{"X", "Hosts", "Hos", "X-Host", "Ho-st", "H"} {
		refuses(t, first+name+": a\r\n\r\n", api.ErrTwice)
		askParse(t, with("", name+": b"), asks("GET", "/", "", "Host", "a", name, "b"))
	}
	refuses(t, with("", "Host: a"), api.ErrTwice) // the same, twice
	refuses(t, with("", "Host:"), api.ErrTwice)
	refuses(t, with("", "b: c", "HOST: b", "host: c"), api.ErrTwice)
}

func TestTransferEncodings(t *testing.T) {
	for _, name := range []string{"Transfer-Encoding", "transfer-encoding", "TRANSFER-ENCODING", "tRANSFER-eNCODING"} {
		for _, value := range []string{"", "chunked", "identity", "gzip, chunked", "x"} {
			refuses(t, with("", name+": "+value), api.ErrTwice)
			refuses(t, with("", name+":"+value, name+":"+value), api.ErrTwice)
			refuses(t, with("xyz", name+": "+value, "Content-Length: 3"), api.ErrTwice)
			refuses(t, with("0\r\n\r\n", "Content-Length: 5", name+": "+value), api.ErrTwice)
			refuses(t, first+name+": "+value+end+end, api.ErrTwice) // no Host either
		}
	}
	for _, name := range []string{"TransferEncoding", "Transfer_Encoding", "Transfer-Encodings", "X-Transfer-Encoding", "Content-Encoding", "TE"} {
		askParse(t, with("", name+": chunked"), asks("GET", "/", "", "Host", "a", name, "chunked"))
	}
}

func TestContentLengths(t *testing.T) {
	for _, n := range []int{0, 1, 2, 9, 10, 999, mostBody - 1, mostBody} {
		askParse(t, long(n), asks("GET", "/", of(n), "Host", "a", "Content-Length", digits(n)))
		for _, name := range []string{"content-length", "CONTENT-LENGTH", "cONTENT-lENGTH"} {
			askParse(t, with(of(n), name+":"+digits(n)), asks("GET", "/", of(n), "Host", "a", name, digits(n)))
		}
		for _, other := range []int{n - 1, n + 1, n + 2, 2*n + 1, 0, mostBody} { // more bytes behind, and fewer
			if other >= 0 && other != n {
				refuses(t, with(of(other), "Content-Length: "+digits(n)), api.ErrBody)
			}
		}
	}
	for _, n := range []int{mostBody + 1, mostBody + 2, 9999, 40000, 100000} {
		refuses(t, long(n), api.ErrBody)
	}
	askParse(t, with("abc", "Content-Length:\t 3 \t"), asks("GET", "/", "abc", "Host", "a", "Content-Length", "3"))
	askParse(t, with("abc", "Content-Length: 003"), asks("GET", "/", "abc", "Host", "a", "Content-Length", "003"))
	askParse(t, with("abc", "Content-Length: 000000003"), asks("GET", "/", "abc", "Host", "a", "Content-Length", "000000003"))
	askParse(t, with("", "Content-Length: 000000000"), asks("GET", "/", "", "Host", "a", "Content-Length", "000000000"))
	refuses(t, with("abc", "Content-Length: 0000000003"), api.ErrBody) // ten digits
	refuses(t, with(of(mostBody), "Content-Length: 04001"), api.ErrBody)
}

func TestContentLengthsThatAreNone(t *testing.T) {
	for _, value := range []string{"", "+3", "-3", "-0", "+0", "3a", "a", "0x3", "3.0", "3,3", "3, 3", "3 3", "3;", "3e0", "\uff13", "\xb3", "three", "3\xff", "9999999999", "99999999999999999999", "4294967299", "18446744073709551619"} {
		refuses(t, with("abc", "Content-Length: "+value), api.ErrBody)
		refuses(t, with("", "Content-Length: "+value), api.ErrBody)
	}
}

func TestContentLengthTwice(t *testing.T) {
	for _, c := range [][]string{
		{"Content-Length: 3", "Content-Length: 3"},
		{"Content-Length: 3", "Content-Length: 4"},
		{"Content-Length: 4", "Content-Length: 3"},
		{"Content-Length: 3", "content-length: 3"},
		{"CONTENT-LENGTH: 3", "a: b", "content-length: 3"},
		{"Content-Length: 3", "Content-Length:"},
		{"Content-Length:", "Content-Length: 3"},
		{"Content-Length: a", "Content-Length: b"},
		{"Content-Length: 3", "Content-Length: 3", "Content-Length: 3"},
	} {
		refuses(t, with("abc", c...), api.ErrTwice)
		refuses(t, with("", c...), api.ErrTwice)
	}
}

func TestBodiesWithoutALength(t *testing.T) {
	for _, body := range []string{"a", "\x00", "\r\n", "\r", "\n", "\r\n\r\n", of(mostBody), of(mostBody + 1), "Content-Length: 0\r\n\r\n", plainHead + end} {
		refuses(t, with(body), api.ErrBody)
		refuses(t, with(body, "Content-Lengths: "+digits(len(body))), api.ErrBody)
		refuses(t, with(body, "Content-Length: 0"), api.ErrBody)
	}
	askParse(t, with(""), asks("GET", "/", "", "Host", "a"))
}

// fault is something wrong at a place of a request, of which there is one each: what stands there, and the error it is.
type fault struct {
	e     api.Errno
	place string
	what  string
}

// inOrder are faults of each kind, by the order in which Parse has to tell them.
func inOrder() []fault {
	long := of(mostBytes + 1)
	return []fault{
		{api.ErrForm, "end", ""},
		{api.ErrLong, "first", "GET /" + long + " HTTP/1.1"},
		{api.ErrLong, "first", long},
		{api.ErrLine, "first", "GET / HTTP/1.0"},
		{api.ErrLine, "first", "GET"},
		{api.ErrLong, "fields", strings.Repeat("c: d\r\n", mostFields)},
		{api.ErrLong, "field", "a: " + long + end},
		{api.ErrField, "field", "a b: c\r\n"},
		{api.ErrTwice, "names", "b: c\r\n"},
		{api.ErrTwice, "names", "Host: a\r\nHost: a\r\n"},
		{api.ErrTwice, "names", "Host: a\r\nTransfer-Encoding: chunked\r\n"},
		{api.ErrTwice, "names", "Host: a\r\nContent-Length: x\r\nContent-Length: 5001\r\n"},
		{api.ErrBody, "body", "x"},
		{api.ErrBody, "body", of(mostBody + 1)},
	}
}

// all is a request with these faults, and the error of the first of them.
func all(faults []fault) (string, api.Errno) {
	at := map[string]string{"first": "GET / HTTP/1.1", "names": "Host: a\r\n", "end": end}
	for _, f := range faults {
		at[f.place] = f.what
	}
	s := at["first"] + end + at["names"] + at["fields"] + at["field"] + at["end"] + at["body"]
	if len(faults) == 0 {
		return s, api.OK
	}
	return s, faults[0].e
}

func onePlaceEach(faults []fault) bool {
	had := map[string]bool{}
	for _, f := range faults {
		if had[f.place] {
			return false
		}
		had[f.place] = true
	}
	return true
}

// Whichever faults a request has, the error is that of the one which the chapter names first.
func TestWhichErrorComesFirst(t *testing.T) {
	faults := inOrder()
	asked := 0
	for set := range 1 << len(faults) {
		var some []fault
		for i, f := range faults {
			if set>>i&1 == 1 {
				some = append(some, f)
			}
		}
		if !onePlaceEach(some) {
			continue
		}
		asked++
		s, want := all(some)
		if want == api.OK {
			askParse(t, s, asks("GET", "/", "", "Host", "a"))
			continue
		}
		refuses(t, s, want)
	}
	if want := 2 * 5 * 2 * 3 * 5 * 3; asked != want {
		t.Errorf("%d sets of faults, want %d", asked, want)
	}
}

var (
	firstLine = regexp.MustCompile("^([-!#$%&'*+.^_`|~0-9A-Za-z]+) (/[!-~]*) HTTP/1\\.1$")
	decimal   = regexp.MustCompile("^[0-9]{1,9}$")
)

// model is what Parse has to say, by other means.
func model(s string) (api.Request, api.Errno) {
	lines, n, ok := linesOf(s)
	if !ok || len(lines) == 0 {
		return api.Request{}, api.ErrForm
	}
	words := firstLine.FindStringSubmatch(lines[0])
	switch {
	case len(lines[0]) > mostBytes:
		return api.Request{}, api.ErrLong
	case words == nil:
		return api.Request{}, api.ErrLine
	case len(lines)-1 > mostFields:
		return api.Request{}, api.ErrLong
	}
	q := api.Request{Method: words[1], Path: words[2], Body: []byte(s[n:])}
	times := map[string]int{}
	length := "0"
	for _, line := range lines[1:] {
		p, e := head.Field(line)
		if e != api.OK {
			return api.Request{}, e
		}
		name := strings.ToLower(p.Name)
		times[name]++
		if name == "content-length" {
			length = p.Value
		}
		q.Fields = append(q.Fields, p)
	}
	if times["host"] != 1 || times["transfer-encoding"] != 0 || times["content-length"] > 1 {
		return api.Request{}, api.ErrTwice
	}
	n, _ = strconv.Atoi(length)
	if !decimal.MatchString(length) || n > mostBody || n != len(q.Body) {
		return api.Request{}, api.ErrBody
	}
	return q, api.OK
}

const whole = "POST /a?b HTTP/1.1\r\nHost: a\r\nCookie: b=c\r\ncontent-length:  007 \r\nX:\r\n\r\nd=e\r\nf="

// Each byte there is, in the place of each one of a request, and ahead of it.
func TestEachByteInARequest(t *testing.T) {
	had := map[api.Errno]int{}
	for at := range len(whole) {
		for _, c := range every() {
			had[asModel(t, whole[:at]+one(c)+whole[at+1:])]++
			had[asModel(t, whole[:at]+one(c)+whole[at:])]++
		}
	}
	for _, e := range []api.Errno{api.OK, api.ErrForm, api.ErrLine, api.ErrField, api.ErrBody, api.ErrTwice} {
		if had[e] == 0 {
			t.Errorf("none of these requests is %v", e)
		}
	}
}

// Each beginning of a request, each end of it, and it without each piece of it.
func TestPiecesOfARequest(t *testing.T) {
	if e := asModel(t, whole); e != api.OK {
		t.Fatalf("the whole is %v", e)
	}
	for from := range len(whole) {
		for to := from; to <= len(whole); to++ {
			asModel(t, whole[:from]+whole[to:])
		}
		asModel(t, whole[from:])
	}
}

// Requests of words in any order are one request each, or one error, the same one each time; and what was told is the same behind Print.
func TestParseAsTheModel(t *testing.T) {
	lines := []string{"a: b", "a: b", "A:b ", "Cookie: c=d", "X:", "Content-Length: 3", "content-length: 0", "x-host: a"}
	rare := []string{
		"Host: b", "Content-Length: 4000", "Content-Length: 4001", "Content-Length: +3", "Transfer-Encoding: chunked", "transfer-encoding:", "a b", "a", " a: b", "a: \x00",
		"a: " + of(1997), "a:" + of(1998), "a: " + of(1998), "a: b\rc", strings.Repeat("a: b\r\n", 36) + "a: b", strings.Repeat("a: b\r\n", 41) + "a: b", "\r\n", "",
	}
	firsts := []string{"GET /b HTTP/1.1", "POST / HTTP/1.0", "GET / / HTTP/1.1", "G@T / HTTP/1.1", "GET b HTTP/1.1", "GET /" + of(1986) + " HTTP/1.1", "GET /" + of(1987) + " HTTP/1.1", "GET /\xff HTTP/1.1", ""}
	bodies := []string{"abc", "abc", "abc", "ab", "abcd", "\r\n\r", of(4000), of(4001)}
	draw := rand.New(rand.NewSource(28))
	had := map[api.Errno]int{}
	for range 40000 {
		start := "GET / HTTP/1.1"
		if draw.Intn(6) == 0 {
			start = firsts[draw.Intn(len(firsts))]
		}
		l := []string{start}
		for range draw.Intn(5) {
			from := lines
			if draw.Intn(6) == 0 {
				from = rare
			}
			l = append(l, from[draw.Intn(len(from))])
		}
		if draw.Intn(10) > 0 {
			l = slices.Insert(l, 1+draw.Intn(len(l)), "Host: a")
		}
		s := strings.Join(l, end) + end
		if draw.Intn(20) > 0 {
			s += end
		}
		if draw.Intn(3) == 0 || strings.Contains(s, "Length: 3") && draw.Intn(4) > 0 {
			s += bodies[draw.Intn(len(bodies))]
		}
		e := asModel(t, s)
		if e == api.OK {
			backAgain(t, s)
		}
		had[e]++
	}
	for _, e := range []api.Errno{api.OK, api.ErrForm, api.ErrLong, api.ErrLine, api.ErrField, api.ErrTwice, api.ErrBody} {
		if had[e] < 500 {
			t.Errorf("%d of the requests are %v: these requests test nothing", had[e], e)
		}
	}
}
