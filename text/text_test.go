package text_test

import (
	"math/rand"
	"strings"
	"testing"
	"unicode/utf8"

	"wicketman/text"
)

const (
	nameBytes = 20
	passBytes = 60
	noteBytes = 200
	lastRune  = 0x10ffff
)

// sizes are signs of one, two, three and four bytes.
func sizes() []string { return []string{"a", "\u00e9", "\u20ac", "\U0001f600"} }

// whole are runes at the edges that the chapter and RFC 3629 name, with a few that others take for none.
func whole() []string {
	return []string{
		"\x00", "\x7f", "\u0080", "\u07ff", "\u0800", "\uffff", "\U00010000", "\U0010ffff",
		"\ud7ff", "\ue000", "\ufffd", "\ufffe", "\ufeff", "\ufdd0", "\u0085", "\u00a0", "\u2028", "\u200b", "\u0fff", "\u1000",
		"\U0001fffe", "\U0003ffff", "\U00040000", "\U000fffff", "\U00100000",
	}
}

// broken are bytes that are none of a rune, each of them, whatever stands beside them but bytes of 80 to bf behind.
func broken() []string {
	return []string{
		"\x80", "\xbf", "\x80\x80", "\xbf\xbf\xbf", "\xfe", "\xff", "\xff\xff", "\xf5", "\xf8", "\xfc", // that begin none
		"\xc0\x80", "\xc0\xbc", "\xc1\xbf", "\xc0\xa6", "\xe0\x80\x80", "\xe0\x82\x80", "\xe0\x9f\xbf", "\xe0\x80\xbc", // of more bytes than they need
		"\xf0\x80\x80\x80", "\xf0\x80\x80\xbc", "\xf0\x8f\xbf\xbf", "\xf0\x82\x82\xac", "\xf8\x80\x80\x80\xbc", "\xfc\x80\x80\x80\x80\xbc",
		"\xed\xa0\x80", "\xed\xad\xbf", "\xed\xae\x80", "\xed\xb0\x80", "\xed\xbf\xbf", "\xed\xa0\xbd\xed\xb8\x80", // d800 to dfff, and a pair of them
		"\xf4\x90\x80\x80", "\xf4\xbf\xbf\xbf", "\xf5\x80\x80\x80", "\xf7\xbf\xbf\xbf", "\xf8\x88\x80\x80\x80", // above 10ffff
		"\xc2", "\xdf", "\xe0", "\xe0\xa0", "\xe2", "\xe2\x82", "\xed", "\xed\x9f", "\xef", "\xef\xbf", // that are cut off
		"\xf0", "\xf0\x90", "\xf0\x9f\x98", "\xf4", "\xf4\x8f", "\xf4\x8f\xbf", "\xc3\xc3", "\xe2\xe2\x82", "\xef\xef\xbf",
	}
}

func askRunes(t *testing.T, s string, want int, valid bool) {
	t.Helper()
	if n, ok := text.Runes(s); n != want || ok != valid {
		t.Errorf("Runes of %q: %d, %v, want %d, %v", s, n, ok, want, valid)
	}
}

func askOne(t *testing.T, call string, ask func(string) bool, s string, want bool) {
	t.Helper()
	if ask(s) != want {
		t.Errorf("%s of %q, of %d bytes: %v", call, s, len(s), !want)
	}
}

func askName(t *testing.T, s string, want bool) { t.Helper(); askOne(t, "Name", text.Name, s, want) }
func askPass(t *testing.T, s string, want bool) { t.Helper(); askOne(t, "Pass", text.Pass, s, want) }
func askNote(t *testing.T, s string, want bool) { t.Helper(); askOne(t, "Note", text.Note, s, want) }

func askEscape(t *testing.T, s, want string) {
	t.Helper()
	if got := text.Escape(s); got != want {
		t.Errorf("Escape of %q: %q, want %q", s, got, want)
	}
}

// askAll holds what each call answers to one text against the model.
func askAll(t *testing.T, s string) {
	t.Helper()
	want := modelOf(s)
	var got model
	got.runes, got.valid = text.Runes(s)
	got.name, got.pass, got.note = text.Name(s), text.Pass(s), text.Note(s)
	got.escaped = text.Escape(s)
	if got != want {
		t.Fatalf("of %q: %+v, want %+v", s, got, want)
	}
}

func TestTheChapter(t *testing.T) {
	askEscape(t, "a<b", "a&lt;b")
	askName(t, "9a", false)
}

func TestTheTextOfNoSigns(t *testing.T) {
	askRunes(t, "", 0, true)
	askName(t, "", false)
	askPass(t, "", false)
	askNote(t, "", true)
	askEscape(t, "", "")
}

func TestRunes(t *testing.T) {
	askRunes(t, "a", 1, true)
	askRunes(t, "hello", 5, true)
	askRunes(t, "a\u00e9", 2, true)
	askRunes(t, "a\u00e9\u20ac\U0001f600", 4, true)
	askRunes(t, "e\u0301", 2, true)
	askRunes(t, "\x00\x00\n\x7f", 4, true)
	askRunes(t, "&lt;<", 5, true)
	for _, sign := range append(sizes(), whole()...) {
		for _, n := range []int{1, 2, 3, 100} {
			askRunes(t, strings.Repeat(sign, n), n, true)
		}
		askRunes(t, "a"+sign+"\u00e9", 3, true)
	}
	askRunes(t, strings.Repeat("\u20ac", 1<<18), 1<<18, true)
	askRunes(t, strings.Repeat("\u20ac", 1<<18)+"\xe2\x82", 0, false)
}

// Wherever bytes stand that are none of a rune, the text is no UTF-8, and nothing may be, and each is one `?`.
func TestBrokenBytesAnywhere(t *testing.T) {
	around := append([]string{"", "abc", "<", "\ufffd", "\n"}, sizes()...)
	for _, bad := range broken() {
		for _, ahead := range around {
			for _, behind := range around {
				s := ahead + bad + behind
				askRunes(t, s, 0, false)
				askName(t, s, false)
				askPass(t, s, false)
				askNote(t, s, false)
				askEscape(t, s, text.Escape(ahead)+strings.Repeat("?", len(bad))+text.Escape(behind))
				askAll(t, s)
			}
		}
		askPass(t, strings.Repeat("a", passBytes-len(bad))+bad, false)
		askNote(t, strings.Repeat("a", noteBytes-len(bad))+bad, false)
	}
}

// The rune fffd is one, though it also stands for what is none; a piece of it is none.
func TestTheRuneThatStandsForNone(t *testing.T) {
	askRunes(t, "\ufffd", 1, true)
	askRunes(t, "\ufffd\ufffd", 2, true)
	askPass(t, "\ufffd", true)
	askNote(t, "\ufffd\n", true)
	askName(t, "a\ufffd", false)
	askEscape(t, "\ufffd", "\ufffd")
	askEscape(t, "<\ufffd>", "&lt;\ufffd&gt;")
	askEscape(t, "\ufffd\xff\ufffd", "\ufffd?\ufffd")
	askEscape(t, "\xef\xbf\ufffd", "??\ufffd")
	askEscape(t, "\ufffd\xef\xbf", "\ufffd??")
	askEscape(t, "\xff\xef\xbf\xbd", "?\ufffd")
	askRunes(t, "\ufffd\xef\xbf", 0, false)
	askRunes(t, "\xff\ufffd", 0, false)
	askRunes(t, "\xef\xbf\xbd\xbd", 0, false)
}

// Every number up to what four bytes can tell, as those bytes, is a rune or is none; each byte of one that is none is a `?`.
func TestEveryRune(t *testing.T) {
	for r := rune(0); r <= 0x1fffff; r++ {
		s := string(bytesOf(r))
		valid := r <= lastRune && (r < 0xd800 || r > 0xdfff)
		n, ok := text.Runes(s)
		if ok != valid || ok && n != 1 || !ok && n != 0 {
			t.Fatalf("Runes of %x: %d, %v", r, n, ok)
		}
		if got, want := text.Pass(s), valid && r >= 0x20 && r != 0x7f; got != want {
			t.Fatalf("Pass of %x: %v", r, got)
		}
		if got, want := text.Note(s), valid && (r >= 0x20 && r != 0x7f || r == 0x0a); got != want {
			t.Fatalf("Note of %x: %v", r, got)
		}
		if got, want := text.Name(s), r >= 'a' && r <= 'z'; got != want {
			t.Fatalf("Name of %x: %v", r, got)
		}
		want := strings.Repeat("?", len(s))
		if valid {
			want = inPage(s)
		}
		if got := text.Escape(s); got != want {
			t.Fatalf("Escape of %x: %q, want %q", r, got, want)
		}
	}
}

// bytesOf is a number in as few bytes as UTF-8's way has for it, be it a rune or not.
func bytesOf(r rune) []byte {
	tail := func(shift int) byte { return 0x80 | byte(r>>shift)&0x3f }
	switch {
	case r < 0x80:
		return []byte{byte(r)}
	case r < 0x800:
		return []byte{0xc0 | byte(r>>6), tail(0)}
	case r < 0x10000:
		return []byte{0xe0 | byte(r>>12), tail(6), tail(0)}
	}
	return []byte{0xf0 | byte(r>>18), tail(12), tail(6), tail(0)}
}

// Every rune that fewer bytes tell is none when it is written in more.
func TestRunesOfMoreBytesThanTheyNeed(t *testing.T) {
	for r := rune(0); r < 0x10000; r++ {
		var longer [][]byte
		if r < 0x80 {
			longer = append(longer, []byte{0xc0 | byte(r>>6), 0x80 | byte(r)&0x3f})
		}
		if r < 0x800 {
			longer = append(longer, []byte{0xe0, 0x80 | byte(r>>6)&0x3f, 0x80 | byte(r)&0x3f})
		}
		longer = append(longer, []byte{0xf0, 0x80 | byte(r>>12)&0x3f, 0x80 | byte(r>>6)&0x3f, 0x80 | byte(r)&0x3f})
		for _, b := range longer {
			s := string(b)
			if n, ok := text.Runes(s); n != 0 || ok || text.Pass(s) || text.Note(s) || text.Escape(s) != "????"[:len(s)] {
				t.Fatalf("%x in %d bytes: %d, %v", r, len(s), n, ok)
			}
		}
	}
}

// edgeBytes are those at which the forms of runes begin and end, and some between.
func edgeBytes() []byte {
	return []byte{
		0x00, 0x0a, 0x1f, 0x20, '&', '<', '_', 'a', 0x7e, 0x7f, 0x80, 0x8f, 0x90, 0x9f, 0xa0, 0xbd, 0xbf, 0xc0, 0xc1,
		0xc2, 0xdf, 0xe0, 0xe1, 0xec, 0xed, 0xee, 0xef, 0xf0, 0xf1, 0xf3, 0xf4, 0xf5, 0xff,
	}
}

func TestEachTextOfFewBytes(t *testing.T) {
	for x := range 256 {
		askAll(t, string([]byte{byte(x)}))
		for y := range 256 {
			askAll(t, string([]byte{byte(x), byte(y)}))
		}
	}
	edges := edgeBytes()
	for _, x := range edges {
		for _, y := range edges {
			for _, z := range edges {
				askAll(t, string([]byte{x, y, z}))
			}
		}
	}
}

func TestEachTextOfFourEdgeBytes(t *testing.T) {
	// Of the first bytes those are left out that are like another one: with them all it would take long.
	for _, x := range []byte{'a', 0x80, 0xbf, 0xc2, 0xdf, 0xe0, 0xed, 0xef, 0xf0, 0xf1, 0xf3, 0xf4, 0xf5, 0xff} {
		for _, y := range edgeBytes() {
			for _, z := range edgeBytes() {
				for _, last := range edgeBytes() {
					askAll(t, string([]byte{x, y, z, last}))
				}
			}
		}
	}
}

// Texts of pieces that are drawn, whole ones and broken ones side by side, of lengths around each limit.
func TestDrawnTexts(t *testing.T) {
	pieces := append(append(append(sizes(), whole()...), broken()...), "<", ">", "&", "'", "\"", "&lt;", "\n", " ", "~", "z", "0", "9", "_", "A")
	draw := rand.New(rand.NewSource(6))
	valid := 0
	for range 50000 {
		own := pieces[draw.Intn(len(pieces)):]
		own = own[:1+draw.Intn(min(len(own), 12))]
		most := []int{5, 25, 65, 205}[draw.Intn(4)]
		var s strings.Builder
		for s.Len() < most && draw.Intn(most) > 0 {
			s.WriteString(own[draw.Intn(len(own))])
		}
		askAll(t, s.String())
		n, ok := text.Runes(s.String())
		if ok != utf8.ValidString(s.String()) || ok && n != utf8.RuneCountInString(s.String()) {
			t.Fatalf("Runes of %q: %d, %v: another library tells otherwise", s.String(), n, ok)
		}
		if ok {
			valid++
		}
	}
	if valid == 0 || valid == 50000 {
		t.Errorf("%d of the texts are UTF-8: these texts test nothing", valid)
	}
}
