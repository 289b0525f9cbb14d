package resp_test

import (
	"fmt"
	"math"
	"math/rand"
	"regexp"
	"strings"
	"testing"

	"wicketman/api"
	"wicketman/head"
	"wicketman/resp"
)

func TestPrint(t *testing.T) {
	askPrint(t, answers(303, "", "Location", "/me", "Set-Cookie", "__Host-id=5; Secure; Path=/"),
		"HTTP/1.1 303 See Other\r\nLocation: /me\r\nSet-Cookie: __Host-id=5; Secure; Path=/\r\nContent-Length: 0\r\n\r\n")
	askPrint(t, answers(401, "who knocks?\n", "b", "c", "a", "", "b", "c", "B", "\xff\x80"),
		"HTTP/1.1 401 Unauthorized\r\nb: c\r\na: \r\nb: c\r\nB: \xff\x80\r\nContent-Length: 12\r\n\r\nwho knocks?\n") // in order, each as often as it is there
	askPrint(t, answers(503, "a\r\n\r\nb"), "HTTP/1.1 503 Service Unavailable\r\nContent-Length: 6\r\n\r\na\r\n\r\nb")
	askPrint(t, answers(404, "b", "a", "\xe9 \t b"), "HTTP/1.1 404 Not Found\r\na: \xe9 \t b\r\nContent-Length: 1\r\n\r\nb")
}

// Lists that are nil and empty ones are the same thing.
func TestPrintOfNoFieldsAndNoBody(t *testing.T) {
	for status, reason := range reasons() {
		want := "HTTP/1.1 " + digits(status) + " " + reason + "\r\nContent-Length: 0\r\n\r\n"
		askPrint(t, api.Response{Status: status}, want)
		askPrint(t, api.Response{Status: status, Fields: []api.Pair{}, Body: []byte{}}, want)
	}
}

func TestPrintOfAStatusWithoutAReason(t *testing.T) {
	for _, status := range []int{0, -1, 1, 2, 99, 100, 199, 201, 204, 302, 304, 399, 402, 500, 504, 999, 2000, -200, 200 + 1<<32, math.MaxInt, math.MinInt} {
		printsNothing(t, answers(status, ""), api.ErrArg)
		printsNothing(t, answers(status, "a", "b", "c"), api.ErrArg)
	}
	printsNothing(t, api.Response{}, api.ErrArg)
}

func TestPrintOfLongBodies(t *testing.T) {
	for n := range mostBody + 3 {
		body := of(n)
		if n > mostBody {
			printsNothing(t, answers(200, body), api.ErrLong)
			printsNothing(t, answers(200, body, "a", "b"), api.ErrLong)
			continue
		}
		askPrint(t, answers(200, body), first+"Content-Length: "+digits(n)+"\r\n\r\n"+body)
	}
	printsNothing(t, answers(200, of(1000000)), api.ErrLong)
}

func TestPrintOfManyFields(t *testing.T) {
	for n := range 3 * mostFields {
		lines, fields := some(n)
		r := api.Response{Status: 200, Fields: fields, Body: []byte("a")}
		if n > mostFields {
			printsNothing(t, r, api.ErrLong)
			continue
		}
		askPrint(t, r, first+lines+"Content-Length: 1\r\n\r\na")
	}
	printsNothing(t, api.Response{Status: 200, Fields: make([]api.Pair, mostFields)}, api.ErrField)
	printsNothing(t, api.Response{Status: 200, Fields: make([]api.Pair, mostFields+1)}, api.ErrLong) // they are counted, whatever they are
}

func TestPrintOfFieldsThatMayNotBe(t *testing.T) {
	for _, words := range [][]string{
		{"", ""}, {"", "b"}, {"a b", "c"}, {"a:", "b"}, {"a ", "b"}, {" a", "b"}, {"a\r\nb", "c"}, {"a\xff", "b"}, {"\u00e9", "b"}, {"a/b", "c"}, {"\x00", "b"},
		{"a", " "}, {"a", "\t"}, {"a", " b"}, {"a", "b "}, {"a", "\tb"}, {"a", "b\t"}, {"a", "b\r\nc: d"}, {"a", "b\r\n\r\nc"}, {"a", "b\n"}, {"a", "b\rc"}, {"a", "\x00"}, {"a", "b\x7f"},
		{of(mostBytes), " "}, {"a b", of(mostBytes)},
	} {
		printsNothing(t, answers(200, "", words...), api.ErrField)
		printsNothing(t, answers(200, "", append([]string{"d", "e"}, words...)...), api.ErrField)
		printsNothing(t, answers(200, "", append(words, "d", "e")...), api.ErrField)
	}
	for n := mostBytes - 3; n <= mostBytes+3; n++ {
		value, name := of(n-len("a: ")), of(n-len(": "))
		if n > mostBytes {
			printsNothing(t, answers(200, "", "a", value), api.ErrLong)
			printsNothing(t, answers(200, "", name, ""), api.ErrLong)
			printsNothing(t, answers(200, "", "d", "e", "a", value, "d", "e"), api.ErrLong)
			continue
		}
		askPrint(t, answers(200, "", "a", value), first+"a: "+value+"\r\nContent-Length: 0\r\n\r\n")
		askPrint(t, answers(200, "", name, ""), first+name+": \r\nContent-Length: 0\r\n\r\n")
	}
	// No line is too long that many fields make up.
	askPrint(t, answers(200, "", "a", of(1500), "b", of(1500)), first+"a: "+of(1500)+"\r\nb: "+of(1500)+"\r\nContent-Length: 0\r\n\r\n")
}

// What a field is named is not asked, but whether it is a token: a length that stands among the fields is one more line.
func TestPrintOfAFieldThatIsNamedAsTheLength(t *testing.T) {
	for _, name := range []string{"Content-Length", "content-length", "Transfer-Encoding", "Host"} {
		for _, value := range []string{"0", "1", "7", "", "a", "4001"} {
			r := answers(200, "b", name, value)
			want := first + name + ": " + value + "\r\nContent-Length: 1\r\n\r\nb"
			askPrint(t, r, want)
			askParse(t, want, r)
			r = answers(200, "", "c", "d", name, value, name, value, "e", "f")
			want = first + "c: d\r\n" + name + ": " + value + "\r\n" + name + ": " + value + "\r\ne: f\r\nContent-Length: 0\r\n\r\n"
			askPrint(t, r, want)
			askParse(t, want, r)
		}
	}
}

// Of several fields that may not be, the first one's error is told.
func TestWhichFieldsErrorIsTold(t *testing.T) {
	long := of(mostBytes)
	printsNothing(t, answers(200, "", "a", long, "a b", "c"), api.ErrLong)
	printsNothing(t, answers(200, "", "a b", "c", "a", long), api.ErrField)
	printsNothing(t, answers(200, "", "a", "b", "a", long, "c", "d", "e", "\x00", "a", long), api.ErrLong)
	printsNothing(t, answers(200, "", "a", "b", "e", "\x00", "c", "d", "a", long, "a b", "c"), api.ErrField)
}

// fault is something wrong with a response: what has it so, and the error it is.
type fault struct {
	e  api.Errno
	do func(*api.Response)
}

// inOrder are faults of each kind, by the order in which Print has to tell them.
func inOrder() []fault {
	return []fault{
		{api.ErrArg, func(r *api.Response) { r.Status = 201 }},
		{api.ErrLong, func(r *api.Response) { r.Body = []byte(of(mostBody + 1)) }},
		{api.ErrLong, func(r *api.Response) { r.Fields = append(r.Fields, make([]api.Pair, mostFields)...) }},
		{api.ErrLong, func(r *api.Response) { r.Fields[0].Value = of(mostBytes) }},
		{api.ErrField, func(r *api.Response) { r.Fields[1].Name = "a b" }},
		{api.ErrLong, func(r *api.Response) { r.Fields[2].Value = of(mostBytes) }},
		{api.ErrField, func(r *api.Response) { r.Fields[3].Value = "\x00" }},
	}
}

// Whichever faults a response has, the error is that of the one which the chapter names first.
func TestWhichErrorComesFirst(t *testing.T) {
	faults := inOrder()
	for set := range 1 << len(faults) {
		r := answers(200, "a", "a", "b", "c", "d", "e", "f", "g", "h")
		want := api.OK
		for i, f := range faults {
			if set>>i&1 == 0 {
				continue
			}
			if want == api.OK {
				want = f.e
			}
			f.do(&r)
		}
		if want == api.OK {
			askPrint(t, r, first+"a: b\r\nc: d\r\ne: f\r\ng: h\r\nContent-Length: 1\r\n\r\na")
			continue
		}
		printsNothing(t, r, want)
	}
}

var (
	aToken = regexp.MustCompile("^[-!#$%&'*+.^_`|~0-9A-Za-z]+$")
	aValue = regexp.MustCompile("^([!-~\u0080-\U0010ffff]([ \t!-~\u0080-\U0010ffff]*[!-~\u0080-\U0010ffff])?)?$") // a byte that is of no rune is one of these
)

// model is what Print has to say, by other means.
func model(r api.Response) (string, api.Errno) {
	reason, is := reasons()[r.Status]
	switch {
	case !is:
		return "", api.ErrArg
	case len(r.Body) > mostBody || len(r.Fields) > mostFields:
		return "", api.ErrLong
	}
	s := fmt.Sprintf("HTTP/1.1 %d %s\r\n", r.Status, reason)
	for _, p := range r.Fields {
		line := p.Name + ": " + p.Value
		switch {
		case !aToken.MatchString(p.Name) || !aValue.MatchString(p.Value):
			return "", api.ErrField
		case len(line) > mostBytes:
			return "", api.ErrLong
		}
		s += line + end
	}
	return fmt.Sprintf("%sContent-Length: %d\r\n\r\n%s", s, len(r.Body), r.Body), api.OK
}

// asModel holds what Print tells against the model, has Parse tell it back, and is the error.
func asModel(t *testing.T, r api.Response) api.Errno {
	t.Helper()
	want, wantE := model(r)
	got, e := resp.Print(r)
	if string(got) != want || e != wantE {
		t.Fatalf("Print of %s: %q, %v, want %q, %v", shown(r), got, e, want, wantE)
	}
	if e == api.OK {
		askParse(t, want, r)
	}
	return e
}

// Each byte there is, at each place of a response that is to be printed.
func TestEachByteOfAResponse(t *testing.T) {
	had := map[api.Errno]int{}
	for _, c := range every() {
		s := one(c)
		for _, r := range []api.Response{
			answers(200, s),
			answers(200, "a"+s),
			answers(200, s+"\n"),
			answers(200, "\r"+s+"\r\n"),
			answers(200, "", s, "a"),
			answers(200, "", s+"a", "b"),
			answers(200, "", "a"+s, "b"),
			answers(200, "", "a"+s+"b", "c"),
			answers(200, "", "a", s),
			answers(200, "", "a", s+"b"),
			answers(200, "", "a", "b"+s),
			answers(200, "", "a", "b"+s+"c"),
			answers(200, "", "a", "b", "c"+s, "d"),
			answers(int(c)*2, ""),
		} {
			had[asModel(t, r)]++
		}
	}
	if had[api.OK] < 1000 || had[api.ErrField] < 500 || had[api.ErrArg] < 200 {
		t.Errorf("%v: these responses test nothing", had)
	}
	askPrint(t, answers(200, string(every())), first+"Content-Length: 256\r\n\r\n"+string(every()))
}

// Whatever is in a response: Print tells what the model does, and Parse tells that back.
func TestThereAndBack(t *testing.T) {
	names := []string{"a", "B", "Content-Length", "Content-Type", "Set-Cookie", "content-length", "!#$%&'*+-.^_`|~", of(mostBytes - 2)}
	values := []string{"", "0", "4", "b", "b c", "b: c", "\xff", "\u00e9\t:", "text/plain; charset=utf-8", of(100)}
	rare := []string{"", " ", "a b", ":", "\x00", "b\r\n", "\r\n\r\n", of(mostBytes - 3), of(mostBytes - 1), of(mostBytes)}
	bodies := []string{"", "a", "\r\n", "\r\n\r\n", "Content-Length: 0\r\n\r\n", first + "Content-Length: 0\r\n\r\n", "\x00\xff", of(mostBody), of(mostBody + 1)}
	statuses := []int{200, 201, 0, 303, 400, 401, 403, 404, 405, 409, 413, 429, 431, 503}
	draw := rand.New(rand.NewSource(10))
	had := map[api.Errno]int{}
	for range 20000 {
		r := answers(statuses[draw.Intn(len(statuses))], bodies[draw.Intn(len(bodies))])
		many := draw.Intn(6)
		if draw.Intn(10) == 0 {
			many = mostFields - 1 + draw.Intn(3)
		}
		for range many {
			p := api.Pair{Name: names[draw.Intn(len(names))], Value: values[draw.Intn(len(values))]}
			if draw.Intn(40) == 0 {
				p.Name = rare[draw.Intn(len(rare))]
			}
			if draw.Intn(40) == 0 {
				p.Value = rare[draw.Intn(len(rare))]
			}
			r.Fields = append(r.Fields, p)
		}
		had[asModel(t, r)]++
	}
	for _, e := range []api.Errno{api.OK, api.ErrArg, api.ErrLong, api.ErrField} {
		if had[e] < 500 {
			t.Errorf("%d of the responses are %v: these responses test nothing", had[e], e)
		}
	}
}

// What of a field is too long is head's to say, here as there.
func TestErrorsOfFieldsAreHeads(t *testing.T) {
	for _, p := range pairs("a", "b", "", "", "a", of(mostBytes), "a b", of(mostBytes), strings.Repeat("a", mostBytes+1), " ", "a", "\n") {
		_, want := head.Print(p)
		if _, e := resp.Print(api.Response{Status: 200, Fields: []api.Pair{p}}); e != want {
			t.Errorf("Print of the field %q: %v, want %v", p, e, want)
		}
	}
}
