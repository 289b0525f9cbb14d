package text_test

import (
	"strings"
	"testing"

	"wicketman/text"
)

func TestNames(t *testing.T) {
	for _, s := range []string{"a", "z", "m", "a9", "a_", "a__", "z0", "anna", "a_b_c", "user_007", "abcdefghijklmnopqrst", "uvwxyz0123456789_", "a0000000000000000000"} {
		askName(t, s, true)
	}
	for _, s := range []string{
		"9a", "0", "9", "_", "_a", "__", "A", "Anna", "aNna", "annA", "Z", "a b", " a", "a ", "a\n", "\na", "a\x00", "\x00a", "a-b", "-a", "a.b", "a@b", "a/b",
		"a`", "`a", "a{", "{a", "a[", "a^", "a:", ":a", "a/", "/a", "a&b", "a<b", "a'", "a\"", "a%20", "a+b", "a=b", "a;b",
		"\u00e9", "a\u00e9", "\u00e9a", "\u0430nna", "ann\u0430", "a\u0661", "a\uff10", "\uff41a", "a\u0161", "a\u017f", "a\u212a", "a\U0001d41a", "a\ufffd", "a\xff", "\xffa", "a\xe1",
	} {
		askName(t, s, false)
	}
}

func TestHowLongANameMayBe(t *testing.T) {
	for n := range 300 {
		want := n >= 1 && n <= nameBytes
		askName(t, strings.Repeat("a", n), want)
		if n > 0 {
			askName(t, "z"+strings.Repeat("9", n-1), want)
			askName(t, "z"+strings.Repeat("_", n-1), want)
			askName(t, "9"+strings.Repeat("a", n-1), false)
			askName(t, strings.Repeat("a", n-1)+"-", false)
		}
	}
	askName(t, strings.Repeat("a", 1<<20), false)
	// The limit is of bytes, but no sign of more than one is a name's.
	askName(t, strings.Repeat("\u00e9", 10), false)
}

// Each byte there is, first in a name and at each place behind.
func TestWhatANameMayHave(t *testing.T) {
	for c := range 256 {
		letter := c >= 'a' && c <= 'z'
		other := c >= '0' && c <= '9' || c == '_'
		b := string([]byte{byte(c)})
		for n := range nameBytes {
			askName(t, b+strings.Repeat("b", n), letter)
		}
		for at := 1; at < nameBytes; at++ {
			askName(t, strings.Repeat("b", at)+b+strings.Repeat("0", nameBytes-1-at), letter || other)
		}
	}
}

func TestPasswords(t *testing.T) {
	for _, s := range []string{
		"x", " ", "  ", "~", "!", "correct horse battery staple", "P4$$w0rd", "<script>", "&'\"", "9", "_", "%00", "\\n",
		"\u0080", "\u0085", "\u009f", "\u00a0", "p\u00e4ss", "\u20ac", "\U0001f600", "\u2028", "\ufeff", "\ufffd", "\ud7ff", "\ue000", "\U0010ffff",
	} {
		askPass(t, s, true)
	}
	for _, s := range []string{"\n", "a\n", "\na", "a\nb", "\r", "\t", "a\tb", "\x00", "a\x00", "\x1f", "\x1fa", "\x7f", "a\x7f", "\x7fa", "\x1b[0m", "a\r\n", "\u20ac\x7f"} {
		askPass(t, s, false)
	}
}

func TestNotes(t *testing.T) {
	for _, s := range []string{
		"", " ", "x", "\n", "\n\n\n", "a\n", "\na", "a\nb\n\nc", "<b>bold</b>", "&'\"", "~", "\u0080", "\u0085", "\u009f", "p\u00e4ss\n\u20ac\n\U0001f600", "\u2028", "\ufeff", "\ufffd", "\U0010ffff\n",
	} {
		askNote(t, s, true)
	}
	for _, s := range []string{"\r", "a\r\n", "\t", "a\tb", "\x00", "\n\x00", "\x0b", "\x0c", "\x09", "\x1f", "a\x1fb", "\x7f", "a\x7f", "\n\x7f\n", "\x1b[0m", "\u20ac\x7f"} {
		askNote(t, s, false)
	}
}

// Each rune below 20, and those around 7f, at the beginning, within, and at the end.
func TestRunesThatMayNotBe(t *testing.T) {
	for r := rune(0); r <= 0xff; r++ {
		pass := r >= 0x20 && r != 0x7f
		note := pass || r == 0x0a
		for _, ahead := range append(sizes(), "", strings.Repeat("\u00e9", 29)) {
			for _, behind := range append(sizes(), "") {
				s := ahead + string(r) + behind
				askPass(t, s, pass && len(s) <= passBytes)
				askNote(t, s, note)
			}
		}
		askPass(t, strings.Repeat("a", passBytes-len(string(r)))+string(r), pass)
		askNote(t, strings.Repeat("a", noteBytes-len(string(r)))+string(r), note)
	}
}

// The limits are of bytes, whatever runes these are.
func TestHowLongPasswordsAndNotesMayBe(t *testing.T) {
	for n := range 300 {
		for _, sign := range append(sizes(), " ", "~", "\ufffd", "<") {
			s := strings.Repeat(sign, n)
			askPass(t, s, len(s) >= 1 && len(s) <= passBytes)
			askNote(t, s, len(s) <= noteBytes)
			for range len(sign) {
				s += "a" // so that each number of bytes is had with signs of each length
				askPass(t, s, len(s) <= passBytes)
				askNote(t, s, len(s) <= noteBytes)
			}
		}
		askNote(t, strings.Repeat("\n", n), n <= noteBytes)
	}
	askPass(t, strings.Repeat("a", 1<<20), false)
	askNote(t, strings.Repeat("a", 1<<20), false)
	for _, edge := range []struct {
		n          int
		pass, note bool
	}{{1, true, true}, {60, true, true}, {61, false, true}, {200, false, true}, {201, false, false}} {
		askPass(t, strings.Repeat("x", edge.n), edge.pass)
		askNote(t, strings.Repeat("x", edge.n), edge.note)
	}
}

// What is a name may be a password, and what is a password may be a note, but not the other way.
func TestWhatMayBeOneThingAndNotAnother(t *testing.T) {
	for _, c := range []struct {
		s                string
		name, pass, note bool
	}{
		{"anna", true, true, true},
		{"Anna", false, true, true},
		{"an\nna", false, false, true},
		{"an\rna", false, false, false},
		{strings.Repeat("a", 21), false, true, true},
		{strings.Repeat("a", 61), false, false, true},
		{strings.Repeat("a", 201), false, false, false},
		{"", false, false, true},
		{"\xff", false, false, false},
	} {
		if text.Name(c.s) != c.name || text.Pass(c.s) != c.pass || text.Note(c.s) != c.note {
			t.Errorf("%q: %v, %v, %v", c.s, text.Name(c.s), text.Pass(c.s), text.Note(c.s))
		}
	}
}
