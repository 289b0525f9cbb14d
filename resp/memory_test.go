package resp_test

import (
	"bytes"
	"slices"
	"strings"
	"testing"
	"unsafe"

	"wicketman/api"
	"wicketman/resp"
)

// spoil writes over all bytes of a list, and over those behind its length.
func spoil(b []byte) {
	b = b[:cap(b)]
	for i := range b {
		b[i] ^= 0x15
	}
}

func spoilPairs(l []api.Pair) {
	l = l[:cap(l)]
	for i := range l {
		l[i] = api.Pair{Name: "spoilt", Value: "spoilt"}
	}
}

// within is a list whose memory has other bytes ahead of it and behind its length.
func within(b []byte, behind string) (list, memory []byte) {
	memory = append([]byte(first), b...)
	memory = append(memory, behind...)
	return memory[len(first) : len(first)+len(b)], memory
}

// What Parse is handed is neither changed nor kept, and nothing behind its length is read: not even the rest of a response.
func TestBytesThatAreHandedInStay(t *testing.T) {
	for n := range len(whole) + 1 {
		for _, behind := range []string{whole[n:], "\n\r\n", "\r\n\r\n", "Content-Length: 0\r\n\r\n", of(100)} {
			list, memory := within([]byte(whole[:n]), behind)
			was := bytes.Clone(memory)
			want, is := parsed(whole[:n])
			r, e := resp.Parse(list)
			if !bytes.Equal(memory, was) {
				t.Fatalf("%q was changed: %q", was, memory)
			}
			spoil(memory)
			if !areSame(r, want) || (e == api.OK) != is {
				t.Fatalf("Parse of %q with %q behind its length: %s, %v, want %s", whole[:n], behind, shown(r), e, shown(want))
			}
		}
	}
}

// What comes out is the asker's own: spoilt, it changes nothing else that came out, or went in, or comes out later.
func TestWhatParseTellsIsNew(t *testing.T) {
	for _, s := range []string{whole, long(0), long(mostBody)} {
		b := []byte(s)
		want, _ := parsed(s)
		one, _ := resp.Parse(b)
		two, _ := resp.Parse(b)
		spoil(one.Body)
		spoilPairs(one.Fields)
		if string(b) != s {
			t.Errorf("what Parse told of %q shares its memory with it", s)
		}
		if !areSame(two, want) {
			t.Errorf("two responses share their memory: %s", shown(two))
		}
		askParse(t, s, want)
	}
}

func TestWhatIsPrintedIsNew(t *testing.T) {
	r := answers(404, "bcd", "a", "b", "c", "d")
	const want = "HTTP/1.1 404 Not Found\r\na: b\r\nc: d\r\nContent-Length: 3\r\n\r\nbcd"
	body, fields := bytes.Clone(r.Body), slices.Clone(r.Fields)
	one, _ := resp.Print(r)
	two, _ := resp.Print(r)
	spoil(one)
	if !bytes.Equal(r.Body, body) || !slices.Equal(r.Fields, fields) {
		t.Errorf("what is printed shares its memory with the response: %s", shown(r))
	}
	if string(two) != want {
		t.Errorf("two rows of Print share their memory: %q", two)
	}
	spoil(r.Body)
	spoilPairs(r.Fields)
	if string(two) != want {
		t.Errorf("what is printed was kept by the response: %q", two)
	}
}

// A response's lists end where their length says, and are not changed: neither by Print nor by Same.
func TestListsOfAResponseStay(t *testing.T) {
	fields := pairs("x", "y", "a", "b", "Content-Length", "2", "c", "d")
	body := []byte("abcdef")
	fieldsWere, bodyWas := slices.Clone(fields), bytes.Clone(body)
	r := api.Response{Status: 200, Fields: fields[1:3], Body: body[1:3]}
	askPrint(t, r, first+"a: b\r\nContent-Length: 2\r\nContent-Length: 2\r\n\r\nbc")
	for n := range 4 {
		for m := range 6 {
			other := api.Response{Status: 200, Fields: fields[1 : 1+n], Body: body[1 : 1+m]}
			askSame(t, r, other, n == 2 && m == 2)
			asModel(t, other)
		}
	}
	if !slices.Equal(fields, fieldsWere) || !bytes.Equal(body, bodyWas) {
		t.Errorf("what was handed in was changed: %q, %q", fields, body)
	}
}

// The fields that are handed to Page are neither changed nor kept, and none behind their length is told.
func TestFieldsThatAreHandedToPageStay(t *testing.T) {
	all := pairs("a", "b", "c", "d", "e", "f")
	were := slices.Clone(all)
	for from := range len(all) {
		for to := from; to <= len(all); to++ {
			handed := all[from:to]
			want := answers(200, "g", append([]string{"Content-Type", "text/plain; charset=utf-8", "Cache-Control", "no-store"}, wordsOf(handed)...)...)
			one, two := resp.Page(200, "g", handed...), resp.Page(200, "g", handed...)
			spoilPairs(one.Fields)
			spoil(one.Body)
			if !slices.Equal(all, were) {
				t.Fatalf("a page shares its fields with those it was handed: %q", all)
			}
			spoilPairs(all)
			if !areSame(two, want) {
				t.Errorf("a page's fields or body are not its own: %s, want %s", shown(two), shown(want))
			}
			copy(all, were)
		}
	}
}

// wordsOf are a list's names and values, as pairs takes them.
func wordsOf(l []api.Pair) []string {
	var words []string
	for _, p := range l {
		words = append(words, p.Name, p.Value)
	}
	return words
}

// Nor does a page's text lie where one lies that was handed in.
func TestTextsOfAPageAreNew(t *testing.T) {
	handed := pairs(strings.Repeat("a", 2), strings.Repeat("b", 3))
	body := strings.Repeat("c", 4)
	r := resp.Page(200, body, handed...)
	got := r.Fields[2]
	if unsafe.StringData(got.Name) == unsafe.StringData(handed[0].Name) || unsafe.StringData(got.Value) == unsafe.StringData(handed[0].Value) {
		t.Error("a field's text is the one that was handed in")
	}
	if unsafe.SliceData(r.Body) == unsafe.StringData(body) {
		t.Error("the body is the text that was handed in")
	}
}

// Nothing is kept from one call to the next: not what was wrong, nor what was right.
func TestOneCallKnowsNothingOfAnother(t *testing.T) {
	b := make([]byte, len(whole))
	for range 3 {
		for _, other := range []string{whole, strings.Replace(whole, "401", "402", 1), strings.Replace(whole, "X: ", "X:\t", 1), strings.Replace(whole, "12", "13", 1), strings.Replace(whole, "who", "how", 1)} {
			copy(b, other)
			want, is := parsed(other)
			if r, e := resp.Parse(b); !areSame(r, want) || (e == api.OK) != is {
				t.Errorf("Parse of %q: %s, %v, want %s", other, shown(r), e, shown(want))
			}
		}
		askPrint(t, answers(200, "a"), first+"Content-Length: 1\r\n\r\na")
		printsNothing(t, answers(200, "a", "b c", "d"), api.ErrField)
		askPrint(t, answers(200, "", "b", "c"), first+"b: c\r\nContent-Length: 0\r\n\r\n")
	}
}
