package http_test

import (
	"bytes"
	"slices"
	"strings"
	"testing"

	"wicketman/api"
	"wicketman/http"
)

// spoil writes over all bytes of a list, and over those behind its length.
func spoil(b []byte) {
	b = b[:cap(b)]
	for i := range b {
		b[i] ^= 0x15
	}
}

func spoilPairs(l []api.Pair) {
	l = l[:cap(l)]
	for i := range l {
		l[i] = api.Pair{Name: "spoilt", Value: "spoilt"}
	}
}

// within is a list whose memory has other bytes ahead of it and behind its length.
func within(b []byte, behind string) (list, whole []byte) {
	whole = append([]byte(plainHead+end), b...)
	whole = append(whole, behind...)
	from := len(plainHead + end)
	return whole[from : from+len(b)], whole
}

// What Parse and Lines are handed is neither changed nor kept, and nothing behind its length is read: not even the rest of a request.
func TestBytesThatAreHandedInStay(t *testing.T) {
	for n := range len(whole) + 1 {
		for _, behind := range []string{whole[n:], "\n\r\n", "\r\n\r\n", "Host: b\r\n\r\n", strings.Repeat("x", 100)} {
			list, memory := within([]byte(whole[:n]), behind)
			was := bytes.Clone(memory)
			want, wantE := model(whole[:n])
			wantLines, wantEnd, wantOK := linesOf(whole[:n])
			q, e := http.Parse(list)
			lines, end, ok := http.Lines(list)
			if !bytes.Equal(memory, was) {
				t.Fatalf("%q was changed: %q", was, memory)
			}
			spoil(memory)
			if !areSame(q, want) || e != wantE {
				t.Fatalf("Parse of %q with %q behind its length: %q, %v, want %q, %v", whole[:n], behind, q, e, want, wantE)
			}
			if !slices.Equal(lines, wantLines) || end != wantEnd || ok != wantOK {
				t.Fatalf("Lines of %q with %q behind its length: %q, %d, %v, want %q, %d, %v", whole[:n], behind, lines, end, ok, wantLines, wantEnd, wantOK)
			}
		}
	}
}

// What comes out is the asker's own: spoilt, it changes nothing else that came out, or went in, or comes out later.
func TestWhatParseTellsIsNew(t *testing.T) {
	for _, s := range []string{whole, plainHead + end, long(mostBody)} {
		b := []byte(s)
		want, _ := model(s)
		one, _ := http.Parse(b)
		two, _ := http.Parse(b)
		spoil(one.Body)
		spoilPairs(one.Fields)
		if string(b) != s {
			t.Errorf("what Parse told of %q shares its memory with it", s)
		}
		if !areSame(two, want) {
			t.Errorf("two requests share their memory: %q", two)
		}
		askParse(t, s, want)
	}
}

func TestWhatLinesTellsIsNew(t *testing.T) {
	b := []byte(plainHead + end)
	one, _, _ := http.Lines(b)
	two, _, _ := http.Lines(b)
	for i := range one[:cap(one)] {
		one[:cap(one)][i] = "spoilt"
	}
	if want := []string{"GET / HTTP/1.1", "Host: a"}; !slices.Equal(two, want) || string(b) != plainHead+end {
		t.Errorf("two lists of lines share their memory: %q, of %q", two, b)
	}
}

func TestWhatIsPrintedIsNew(t *testing.T) {
	r := asks("POST", "/a", "bcd", "Host", "a", "Content-Length", "3")
	const want = "POST /a HTTP/1.1\r\nHost: a\r\nContent-Length: 3\r\n\r\nbcd"
	body, fields := bytes.Clone(r.Body), slices.Clone(r.Fields)
	one, _ := http.Print(r)
	two, _ := http.Print(r)
	spoil(one)
	if !bytes.Equal(r.Body, body) || !slices.Equal(r.Fields, fields) {
		t.Errorf("what is printed shares its memory with the request: %q", r)
	}
	if string(two) != want {
		t.Errorf("two rows of Print share their memory: %q", two)
	}
	spoil(r.Body)
	spoilPairs(r.Fields)
	if string(two) != want {
		t.Errorf("what is printed was kept by the request: %q", two)
	}
}

// A request's lists end where their length says, and are not changed: neither by Print nor by Same.
func TestListsOfARequestStay(t *testing.T) {
	fields := pairs("x", "y", "Host", "a", "Content-Length", "2", "Host", "b")
	body := []byte("abcdef")
	fieldsWere, bodyWas := slices.Clone(fields), bytes.Clone(body)
	r := api.Request{Method: "GET", Path: "/", Fields: fields[1:3], Body: body[1:3]}
	askPrint(t, r, "GET / HTTP/1.1\r\nHost: a\r\nContent-Length: 2\r\n\r\nbc")
	askSame(t, r, asks("GET", "/", "bc", "Host", "a", "Content-Length", "2"), true)
	for n := range 4 {
		for m := range 6 {
			other := api.Request{Method: "GET", Path: "/", Fields: fields[1 : 1+n], Body: body[1 : 1+m]}
			askSame(t, r, other, n == 2 && m == 2)
			printAsModel(t, other)
		}
	}
	if !slices.Equal(fields, fieldsWere) || !bytes.Equal(body, bodyWas) {
		t.Errorf("what was handed in was changed: %q, %q", fields, body)
	}
}

// Nothing is kept from one call to the next: not what was wrong, nor what was right.
func TestOneCallKnowsNothingOfAnother(t *testing.T) {
	b := make([]byte, len(whole))
	for range 3 {
		for _, other := range []string{whole, strings.Replace(whole, "Host", "Hist", 1), strings.Replace(whole, "007", "008", 1), strings.Replace(whole, " /", "//", 1), strings.Replace(whole, "d=e", "e=d", 1)} {
			copy(b, other)
			want, wantE := model(other)
			if q, e := http.Parse(b); !areSame(q, want) || e != wantE {
				t.Errorf("Parse of %q: %q, %v, want %q, %v", other, q, e, want, wantE)
			}
		}
	}
}
