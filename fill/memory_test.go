package fill_test

import (
	"bytes"
	"slices"
	"strings"
	"testing"
	"unsafe"

	"wicketman/api"
	"wicketman/fill"
)

// over is a text in memory that can be spoilt, and that memory.
func over(s string) (string, []byte) {
	b := []byte(s)
	return unsafe.String(unsafe.SliceData(b), len(b)), b
}

func spoil(b []byte) {
	b = b[:cap(b)]
	for i := range b {
		b[i] ^= 0x15
	}
}

// shares says whether two texts have a byte of memory in common.
func shares(one, two string) bool {
	if one == "" || two == "" {
		return false
	}
	a := uintptr(unsafe.Pointer(unsafe.StringData(one)))
	b := uintptr(unsafe.Pointer(unsafe.StringData(two)))
	return a < b+uintptr(len(two)) && b < a+uintptr(len(one))
}

// What comes out of a text is new memory, even where all of it stays as it is; and the text is not changed.
func TestTextsThatComeOutAreNew(t *testing.T) {
	unescape := func(s string) string {
		plain, _ := fill.Unescape(s)
		return plain
	}
	get := func(s string) string {
		value, _ := fill.Get([]api.Pair{{Name: "a", Value: s}}, "a")
		return value
	}
	for _, c := range []struct {
		call    string
		ask     func(string) string
		s, want string
	}{
		{"Unescape", unescape, "plain", "plain"},
		{"Unescape", unescape, "a+b", "a b"},
		{"Unescape", unescape, "abc%41", "abcA"},
		{"Unescape", unescape, strings.Repeat("long", 1000), strings.Repeat("long", 1000)},
		{"Escape", fill.Escape, "plain", "plain"},
		{"Escape", fill.Escape, "a b", "a+b"},
		{"Escape", fill.Escape, "abc/", "abc%2F"},
		{"Escape", fill.Escape, strings.Repeat("long", 1000), strings.Repeat("long", 1000)},
		{"Get", get, "plain", "plain"},
		{"Get", get, "a b%41", "a b%41"},
		{"Get", get, strings.Repeat("long", 1000), strings.Repeat("long", 1000)},
	} {
		s, memory := over(c.s)
		one, two := c.ask(s), c.ask(s)
		if string(memory) != c.s {
			t.Errorf("%s of %q changed it: %q", c.call, c.s, memory)
		}
		if shares(one, s) || shares(two, s) || shares(one, two) {
			t.Errorf("%s of %q: what came out shares its memory", c.call, c.s)
		}
		spoil(memory)
		if one != c.want || two != c.want {
			t.Errorf("%s of %q kept it: %q, %q", c.call, c.s, one, two)
		}
	}
}

// within is a list whose memory has other bytes ahead of it and behind its length.
func within(b []byte) (list, whole []byte) {
	whole = append([]byte("x=1&"), b...)
	whole = append(whole, bytes.Repeat([]byte("41=2&%"), 20)...)
	return whole[4 : 4+len(b)], whole
}

// What Parse is handed is neither changed nor kept, and nothing behind its length is read.
func TestParseKeepsNothing(t *testing.T) {
	thirty, _ := some(mostPairs)
	for _, s := range []string{"", "a", "a=", "a=1", "a=1+2&b=%26", "name=value&other=value", thirty, "%", "%4", "a=%", "a&", thirty + "&"} {
		list, whole := within([]byte(s))
		was := bytes.Clone(whole)
		want, wantE := model(s)
		got, e := fill.Parse(list)
		if !bytes.Equal(whole, was) {
			t.Errorf("Parse of %q changed it: %q", s, whole)
		}
		spoil(whole)
		if !slices.Equal(got, want) || e != wantE {
			t.Errorf("Parse of %q with other bytes behind its length: %q, %v, want %q, %v", s, got, e, want, wantE)
		}
	}
}

// What Parse tells is the asker's own: spoilt, it changes nothing else that came out, or comes out later.
func TestWhatParseTellsIsNew(t *testing.T) {
	const form = "name=value&name=value&other=1+2"
	want, _ := model(form)
	one, _ := fill.Parse([]byte(form))
	two, _ := fill.Parse([]byte(form))
	var texts []string
	for _, p := range slices.Concat(one, two) {
		texts = append(texts, p.Name, p.Value)
	}
	for i, text := range texts {
		for _, other := range texts[:i] {
			if shares(text, other) {
				t.Errorf("%q and %q share their memory", text, other)
			}
		}
	}
	for i := range one[:cap(one)] {
		one[:cap(one)][i] = api.Pair{Name: "spoilt", Value: "spoilt"}
	}
	if !slices.Equal(two, want) {
		t.Errorf("two lists of pairs share their memory: %q", two)
	}
	askParse(t, form, want)
}

// Print and Get change no list, keep none, and look at nothing behind its length.
func TestListsOfPairsStay(t *testing.T) {
	whole := pairs("a", "1", "b", "2", "c", "3", "a", "4", "d", "5")
	was := slices.Clone(whole)
	for n, want := range []string{"", "b=2", "b=2&c=3", "b=2&c=3&a=4", "b=2&c=3&a=4&d=5"} {
		list := whole[1 : 1+n]
		askPrint(t, list, want)
		askGet(t, list, "b", []string{"", "2"}[min(n, 1)], n >= 1)
		askGet(t, list, "a", []string{"", "4"}[n/3], n >= 3)
		askGet(t, list, "d", []string{"", "5"}[n/4], n >= 4)
		if !slices.Equal(whole, was) {
			t.Fatalf("a list that was handed in was changed: %q", whole)
		}
	}
	value, _ := fill.Get(whole, "b")
	whole[1].Value = "other"
	askGet(t, whole, "b", "other", true)
	if value != "2" {
		t.Errorf("what Get told was changed: %q", value)
	}
}

func TestWhatIsPrintedIsNew(t *testing.T) {
	name, nameMemory := over("name")
	value, valueMemory := over("value")
	l := pairs(name, value)
	one, two := fill.Print(l), fill.Print(l)
	if string(nameMemory) != "name" || string(valueMemory) != "value" {
		t.Errorf("Print changed what was handed in: %q", l)
	}
	spoil(one)
	if string(two) != "name=value" {
		t.Errorf("two rows of Print share their memory: %q", two)
	}
	askPrint(t, l, "name=value")
	spoil(nameMemory)
	spoil(valueMemory)
	if string(two) != "name=value" {
		t.Errorf("what is printed shares its memory with the pairs: %q", two)
	}
}
