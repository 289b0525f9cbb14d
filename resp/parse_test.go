package resp_test

import (
	"math/rand"
	"regexp"
	"slices"
	"strconv"
	"strings"
	"testing"

	"wicketman/api"
	"wicketman/resp"
)

const whole = "HTTP/1.1 401 Unauthorized\r\nSet-Cookie: __Host-id=5; Path=/\r\nX: \r\nContent-Length: 0\r\nb: c d\r\nContent-Length: 12\r\n\r\nwho\r\n\r\nis it"

// with is a response with these lines behind its first one, and with that body.
func with(body string, lines ...string) string {
	return first + strings.Join(append(lines, ""), end) + end + body
}

// long is a response whose body has n bytes, as its length tells.
func long(n int) string { return with(of(n), "Content-Length: "+digits(n)) }

func TestParse(t *testing.T) {
	askParse(t, whole, answers(401, "who\r\n\r\nis it", "Set-Cookie", "__Host-id=5; Path=/", "X", "", "Content-Length", "0", "b", "c d"))
	askParse(t, with("", "Content-Length: 0"), answers(200, ""))
	askParse(t, "HTTP/1.1 303 See Other\r\nLocation: /me\r\nContent-Length: 0\r\n\r\n", answers(303, "", "Location", "/me"))
	askParse(t, with(string(every()), "b: c", "a: \xff", "b: c", "B: c:d", "Content-Length: 256"), answers(200, string(every()), "b", "c", "a", "\xff", "b", "c", "B", "c:d"))
	askParse(t, with(whole, "Content-Length: "+digits(len(whole))), answers(200, whole)) // a body may look as it likes
}

func TestParseOfNothing(t *testing.T) {
	if r, e := resp.Parse(nil); !isNothing(r) || e != api.ErrForm {
		t.Errorf("Parse of nil: %s, %v", shown(r), e)
	}
	for _, s := range []string{"", " ", "\r\n", "\r\n\r\n", "\r\n\r\n\r\n", "\n", "\r", "a", first, first + end, first + end + end, "Content-Length: 0\r\n\r\n", "\r\nContent-Length: 0\r\n\r\n", "a\r\n\r\n", "a\r\nb\r\n\r\n"} {
		refuses(t, s)
	}
}

func TestParseOfAByteMoreOrFewer(t *testing.T) {
	for _, s := range []string{whole, long(0), long(1), long(9), long(10), long(mostBody - 1), long(mostBody)} {
		if _, e := resp.Parse([]byte(s)); e != api.OK {
			t.Errorf("Parse of %q: %v", s, e)
		}
		for _, c := range []string{"x", "\x00", " ", "\r", "\n", "\r\n"} {
			refuses(t, s+c)
			refuses(t, c+s)
		}
		refuses(t, s[1:])
		refuses(t, s[:len(s)-1])
		refuses(t, s+s)
	}
}

func TestParseOfAnotherByte(t *testing.T) {
	askParse(t, with("b", "Content-Length: 1"), answers(200, "b"))
	askParse(t, with("a", "c: d", "Content-Length: 1"), answers(200, "a", "c", "d"))
	askParse(t, with("a", "c: e", "Content-Length: 1"), answers(200, "a", "c", "e")) // these are other responses
	for _, s := range []string{
		with("a", "c; d", "Content-Length: 1"), with("a", "c:\td", "Content-Length: 1"), with("a", "\x00: d", "Content-Length: 1"), with("a", "c: \x00", "Content-Length: 1"),
		with("a", "c: d", "content-Length: 1"), with("a", "c: d", "Content-length: 1"), with("a", "c: d", "Content_Length: 1"), with("a", "c: d", "Content-Length; 1"), with("a", "c: d", "Content-Length:\t1"),
		"HTTP/1.0 200 OK\r\nContent-Length: 0\r\n\r\n", "HTTP/2.1 200 OK\r\nContent-Length: 0\r\n\r\n", "http/1.1 200 OK\r\nContent-Length: 0\r\n\r\n",
	} {
		refuses(t, s)
	}
}

// One blank stands behind a colon, and a value ends with none.
func TestBlanksOfAField(t *testing.T) {
	askParse(t, with("", "a: b", "Content-Length: 0"), answers(200, "", "a", "b"))
	askParse(t, with("", "a: ", "Content-Length: 0"), answers(200, "", "a", ""))
	askParse(t, with("", "a: b  c", "Content-Length: 0"), answers(200, "", "a", "b  c"))
	for _, line := range []string{"a:b", "a:  b", "a:\tb", "a: \tb", "a:\t b", "a: b ", "a: b\t", "a : b", " a: b", "a:", "a:  ", "a:\t", "a: \t", "a :b", "a\t: b"} {
		refuses(t, with("", line, "Content-Length: 0"))
		refuses(t, with("", "c: d", line, "Content-Length: 0"))
		refuses(t, with("", line, "c: d", "Content-Length: 0"))
	}
	for _, line := range []string{"Content-Length:1", "Content-Length:  1", "Content-Length:\t1", "Content-Length: 1 ", "Content-Length: 1\t", "Content-Length : 1", " Content-Length: 1", "Content-Length: \t1"} {
		refuses(t, with("a", line))
		refuses(t, with("a", "c: d", line))
	}
}

func TestBlanksOfAFirstLine(t *testing.T) {
	const behind = "\r\nContent-Length: 0\r\n\r\n"
	askParse(t, "HTTP/1.1 404 Not Found"+behind, answers(404, ""))
	for _, line := range []string{
		"HTTP/1.1  404 Not Found", "HTTP/1.1 404  Not Found", "HTTP/1.1 404 Not  Found", " HTTP/1.1 404 Not Found", "HTTP/1.1 404 Not Found ", "HTTP/1.1\t404 Not Found", "HTTP/1.1 404\tNot Found", "HTTP/1.1 404 Not\tFound",
		"HTTP/1.1 404 NotFound", "HTTP/1.1 404Not Found", "HTTP/1.1404 Not Found", "HTTP/1.1 404 ", "HTTP/1.1 404", "HTTP/1.1 ", "HTTP/1.1", " 404 Not Found", "404 Not Found", "Not Found", " ", "  ",
		"HTTP/1.1 404 not found", "HTTP/1.1 404 NOT FOUND", "HTTP/1.1 404 Not Foun", "HTTP/1.1 404 Not Founds", "HTTP/1.1 404 Not Found\r", "HTTP/1.1 404 Not Found\n", "a 404 Not Found", "HTTP/1.1 HTTP/1.1 404 Not Found",
		"HTTP/1.1 0404 Not Found", "HTTP/1.1 +404 Not Found", "HTTP/1.1 -404 Not Found", "HTTP/1.1 404.0 Not Found", "HTTP/1.1 0x194 Not Found", "HTTP/1.1 4O4 Not Found", "HTTP/1.1 \uff14\uff10\uff14 Not Found", "HTTP/1.1 4294967700 Not Found",
		"HTTP/1.1 Not Found 404", "HTTP/1.1 Not 404 Found", "GET / HTTP/1.1", "GET 404 Not Found", "Content-Length: 0", "HTTP/1.1 404 Not Found, HTTP/1.1 404 Not Found",
	} {
		refuses(t, line+behind)
	}
}

// A reason stands behind its own status alone.
func TestReasonsOfOtherStatuses(t *testing.T) {
	for status := range 1100 {
		for of, reason := range reasons() {
			s := "HTTP/1.1 " + digits(status) + " " + reason + "\r\nContent-Length: 1\r\n\r\na"
			if status == of {
				askParse(t, s, answers(status, "a"))
				continue
			}
			refuses(t, s)
		}
		refuses(t, "HTTP/1.1 "+digits(status)+" \r\nContent-Length: 1\r\n\r\na") // no status is called nothing
		refuses(t, "HTTP/1.1 "+digits(status)+"\r\nContent-Length: 1\r\n\r\na")
		refuses(t, "HTTP/1.1 "+digits(status)+" Yes\r\nContent-Length: 1\r\n\r\na")
	}
}

func TestParseOfAnotherLength(t *testing.T) {
	for _, n := range []int{0, 1, 2, 9, 10, 99, 100, 999, 1000, mostBody - 1, mostBody} {
		askParse(t, long(n), answers(200, of(n)))
		for _, other := range []int{-n - 1, n - 1, n + 1, 10 * n, n / 10, n + 100, 1<<32 + n, mostBody + 1} {
			if other != n {
				refuses(t, with(of(n), "Content-Length: "+digits(other)))
			}
		}
		for _, value := range []string{"0" + digits(n), "00" + digits(n), "+" + digits(n), "-" + digits(n), digits(n) + ".0", digits(n) + "x", "x" + digits(n), digits(n) + ", " + digits(n), strconv.FormatInt(int64(n), 2) + "b", ""} {
			refuses(t, with(of(n), "Content-Length: "+value))
		}
	}
	for _, n := range []int{mostBody + 1, mostBody + 2, 5000, 10000, 100000} {
		refuses(t, long(n))
	}
	refuses(t, with("abc", "Content-Length: \uff13"))
	refuses(t, with("abcdefghij", "Content-Length: a"))
}

// A length stands as the last line, and is what a field of its name says only there.
func TestWhereTheLengthStands(t *testing.T) {
	refuses(t, with(""))
	refuses(t, with("a"))
	refuses(t, with("a", "c: d"))
	refuses(t, with("a", "Content-Length: 1", "c: d"))
	refuses(t, with("", "Content-Length: 0", "c: d"))
	refuses(t, with("ab", "Content-Length: 2", "Content-Length: 1"))
	askParse(t, with("a", "Content-Length: 2", "Content-Length: 1"), answers(200, "a", "Content-Length", "2"))
	askParse(t, with("a", "Content-Length: 1", "Content-Length: 1"), answers(200, "a", "Content-Length", "1"))
	askParse(t, with("a", "content-length: 01", "Content-Length: 1"), answers(200, "a", "content-length", "01"))
	refuses(t, with("a", "Content-Length: 1", "content-length: 1"))
	refuses(t, first+end+"Content-Length: 0\r\n\r\n")
	refuses(t, "Content-Length: 0\r\n"+first+end)
}

// A line ends with both its bytes, and no other one.
func TestOtherEndsOfLines(t *testing.T) {
	const plain = first + "a: b\r\nContent-Length: 1\r\n\r\nc"
	askParse(t, plain, answers(200, "c", "a", "b"))
	for _, other := range []string{"\n", "\r", "\n\r", "\r\r\n", "\r\n\n", "\n\n", "\r\n ", " \r\n", "", "\x00"} {
		refuses(t, strings.ReplaceAll(plain, end, other))
		for at := range len(plain) {
			if strings.HasPrefix(plain[at:], end) {
				refuses(t, plain[:at]+other+plain[at+len(end):])
			}
		}
	}
	refuses(t, first+"a: b\r\n c\r\nContent-Length: 0\r\n\r\n") // no line goes on in the next one
	refuses(t, first+"a: b\r\n\r\nContent-Length: 0\r\n\r\n")
}

func TestParseOfManyFields(t *testing.T) {
	for n := range 3 * mostFields {
		lines, fields := some(n)
		s := first + lines + "Content-Length: 1\r\n\r\na"
		if n > mostFields {
			refuses(t, s)
			continue
		}
		askParse(t, s, api.Response{Status: 200, Fields: fields, Body: []byte("a")})
	}
	refuses(t, first+strings.Repeat("a: b\r\n", 100000)+"Content-Length: 0\r\n\r\n")
}

func TestParseOfLongFields(t *testing.T) {
	for n := mostBytes - 3; n <= mostBytes+3; n++ {
		value, name := of(n-len("a: ")), of(n-len(": "))
		one, other := with("", "a: "+value, "Content-Length: 0"), with("", name+": ", "Content-Length: 0")
		if n > mostBytes {
			refuses(t, one)
			refuses(t, other)
			continue
		}
		askParse(t, one, answers(200, "", "a", value))
		askParse(t, other, answers(200, "", name, ""))
		refuses(t, with("", "a:"+of(n-len("a:")), "Content-Length: 0"))
	}
	refuses(t, of(1000000))
	refuses(t, of(1000000)+"\r\nContent-Length: 0\r\n\r\n")
	refuses(t, with("", "a: "+of(1000000), "Content-Length: 0"))
	refuses(t, with("", "Content-Length: "+strings.Repeat("0", 1000000)))
}

func TestParseOfFieldsThatMayNotBe(t *testing.T) {
	for _, line := range []string{
		"a", ":", ": b", "a b: c", "a\xff: b", "\u00e9: b", "a/b: c", "\x00: b", "a: \x00", "a: b\x7f", "a: b\rc", "a: b\nc", "a: b\n", "a: b\r", "\na: b", "\ra: b", "a b", "HTTP/1.1 200 OK", "GET / HTTP/1.1",
	} {
		refuses(t, with("", line, "Content-Length: 0"))
		refuses(t, with("", "c: d", line, "e: f", "Content-Length: 0"))
		refuses(t, with("", line))
		refuses(t, with("", "Content-Length: 0", line))
	}
}

// A request is no response.
func TestParseOfRequests(t *testing.T) {
	for _, s := range []string{"GET / HTTP/1.1\r\nHost: a\r\n\r\n", "POST / HTTP/1.1\r\nHost: a\r\nContent-Length: 1\r\n\r\na", "GET /200 OK\r\nContent-Length: 0\r\n\r\n"} {
		refuses(t, s)
	}
}

var (
	firstLine  = regexp.MustCompile(`^HTTP/1\.1 ([1-9][0-9][0-9]) (.*)$`)
	lengthLine = regexp.MustCompile(`^Content-Length: (0|[1-9][0-9]{0,3})$`)
)

// parsed is what Parse has to say, by other means; false: there is no response.
func parsed(s string) (api.Response, bool) {
	ahead, body, found := strings.Cut(s, end+end)
	lines := strings.Split(ahead, end)
	last := len(lines) - 1
	if !found || last < 1 || last-1 > mostFields {
		return api.Response{}, false
	}
	words, length := firstLine.FindStringSubmatch(lines[0]), lengthLine.FindStringSubmatch(lines[last])
	if words == nil || length == nil || length[1] != digits(len(body)) || len(body) > mostBody {
		return api.Response{}, false
	}
	status, _ := strconv.Atoi(words[1])
	if reason, is := reasons()[status]; !is || reason != words[2] {
		return api.Response{}, false
	}
	r := answers(status, body)
	for _, line := range lines[1:last] {
		n, v, found := strings.Cut(line, ": ")
		if !found || len(line) > mostBytes || !aToken.MatchString(n) || !aValue.MatchString(v) {
			return api.Response{}, false
		}
		r.Fields = append(r.Fields, api.Pair{Name: n, Value: v})
	}
	return r, true
}

// parsesAsModel holds what Parse tells against the model, has Print write it again, and says whether it is a response.
func parsesAsModel(t *testing.T, s string) bool {
	t.Helper()
	want, is := parsed(s)
	wantE := api.OK
	if !is {
		wantE = api.ErrForm
	}
	got, e := resp.Parse([]byte(s))
	if !areSame(got, want) || e != wantE {
		t.Fatalf("Parse of %q: %s, %v, want %s, %v", s, shown(got), e, shown(want), wantE)
	}
	if is {
		askPrint(t, got, s)
	}
	return is
}

// Each byte there is, at each place of a response, in place of what stands there and ahead of it.
func TestEachByteAtEachPlace(t *testing.T) {
	had := map[bool]int{}
	for at := range len(whole) {
		for _, c := range every() {
			had[parsesAsModel(t, whole[:at]+one(c)+whole[at+1:])]++
			had[parsesAsModel(t, whole[:at]+one(c)+whole[at:])]++
		}
	}
	if had[true] < 5000 || had[false] < 5000 {
		t.Errorf("%v: these rows test nothing", had)
	}
}

// Each beginning of a response, each end of it, and it without each piece of it, or with each twice.
func TestPiecesOfAResponse(t *testing.T) {
	had := map[bool]int{}
	for from := range len(whole) {
		for to := from; to <= len(whole); to++ {
			had[parsesAsModel(t, whole[:from]+whole[to:])]++
			had[parsesAsModel(t, whole[:to]+whole[from:])]++
		}
		parsesAsModel(t, whole[from:])
	}
	if had[true] < 100 || had[false] < 10000 {
		t.Errorf("%v: these rows test nothing", had)
	}
}

// Rows of lines in any order are one response each, or none, the same one each time.
func TestParseAsTheModel(t *testing.T) {
	lines := []string{"a: b", "A: ", "Set-Cookie: c=d", "Content-Length: 3", "Content-Length: 0", "content-length: 0", "a: b: c", "b: \xff"}
	rare := []string{
		"a:b", "a: b ", "a:  b", "a b", "a", " a: b", "a: \x00", "a: " + of(1997), "a: " + of(1998), "a: b\rc", "a: b\nc", strings.Repeat("a: b\r\n", 36) + "a: b", strings.Repeat("a: b\r\n", 41) + "a: b", "",
		"Content-Length: 03", "Content-Length: 4000", "Content-Length: 4001",
	}
	firsts := []string{"HTTP/1.1 303 See Other", "HTTP/1.1 503 Service Unavailable", "HTTP/1.1 200 Ok", "HTTP/1.0 200 OK", "HTTP/1.1 201 Created", "HTTP/1.1 200", "HTTP/1.1 404 OK", ""}
	bodies := []string{"abc", "\r\n\r", "", "ab", "abcd", of(4000), of(4001)}
	draw := rand.New(rand.NewSource(32))
	had := map[bool]int{}
	for range 40000 {
		l := []string{"HTTP/1.1 200 OK"}
		if draw.Intn(6) == 0 {
			l[0] = firsts[draw.Intn(len(firsts))]
		}
		for range draw.Intn(5) {
			from := lines
			if draw.Intn(8) == 0 {
				from = rare
			}
			l = append(l, from[draw.Intn(len(from))])
		}
		body := bodies[draw.Intn(len(bodies))]
		if draw.Intn(8) > 0 {
			l = append(l, "Content-Length: "+digits(len(body)))
		}
		if draw.Intn(10) == 0 {
			l = slices.Insert(l, draw.Intn(len(l)+1), "c: d")
		}
		had[parsesAsModel(t, strings.Join(l, end)+end+end+body)]++
	}
	if had[true] < 5000 || had[false] < 5000 {
		t.Errorf("%v: these rows test nothing", had)
	}
}
