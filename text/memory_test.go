package text_test

import (
	"bytes"
	"strings"
	"testing"
	"unsafe"

	"wicketman/text"
)

// over is a text in memory that can be spoilt, and that memory.
func over(s string) (string, []byte) {
	b := []byte(s)
	return unsafe.String(unsafe.SliceData(b), len(b)), b
}

// What is escaped is new memory, and nothing that is handed in is changed, even where all of it stays as it is.
func TestWhatIsEscapedIsNew(t *testing.T) {
	for _, c := range []struct{ s, want string }{
		{"a", "a"},
		{"plain", "plain"},
		{"\u00e9\u20ac\U0001f600", "\u00e9\u20ac\U0001f600"},
		{"a<b", "a&lt;b"},
		{"abc<", "abc&lt;"},
		{"&abc", "&amp;abc"},
		{"\xff", "?"},
		{"abc\xff", "abc?"},
		{"\xffabc", "?abc"},
		{strings.Repeat("long", 1000), strings.Repeat("long", 1000)},
	} {
		s, memory := over(c.s)
		one := text.Escape(s)
		two := text.Escape(s)
		if string(memory) != c.s {
			t.Errorf("Escape of %q changed it: %q", c.s, memory)
		}
		for i := range memory {
			memory[i] ^= 0x15
		}
		if one != c.want || two != c.want {
			t.Errorf("what is escaped of %q shares its memory: %q, %q", c.s, one, two)
		}
		if unsafe.StringData(one) == unsafe.StringData(two) && len(c.s) > 1 {
			t.Errorf("two answers to %q share their memory", c.s)
		}
	}
}

// Nothing is kept: a text in the memory of another one is asked anew.
func TestNothingIsKept(t *testing.T) {
	s, memory := over("abcd")
	for _, other := range []string{"abcd", "<>&'", "\xff\xfe\xfd\xfc", "a\nb ", "\U0001f600", "abcd"} {
		copy(memory, other)
		askAll(t, s)
		if !bytes.Equal(memory, []byte(other)) {
			t.Fatalf("%q was changed: %q", other, memory)
		}
	}
}

// A text that is a piece of another one ends where it ends: what stands behind it makes no rune whole.
func TestAPieceOfAText(t *testing.T) {
	whole := "a\u00e9<\u20ac\n\U0001f600\ufffd\x7f_9&b\xff\u20ac"
	kept := strings.Clone(whole)
	for from := range len(whole) {
		for to := from; to <= len(whole); to++ {
			askAll(t, whole[from:to])
		}
	}
	if whole != kept {
		t.Errorf("what was handed in was changed: %q", whole)
	}
	askRunes(t, "\u20ac"[:2], 0, false)
	askRunes(t, "\ufffd"[:2], 0, false)
	askEscape(t, "\ufffd"[:2], "??")
	askEscape(t, "\ufffd"[1:], "??")
	names := strings.Repeat("a", 30)
	for n := range 30 {
		askName(t, names[:n], n >= 1 && n <= nameBytes)
	}
}
