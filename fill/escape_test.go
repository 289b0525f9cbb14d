package fill_test

import (
	"math/rand"
	"net/url"
	"strings"
	"testing"

	"wicketman/fill"
)

const (
	smallDigits = "0123456789abcdef"
	greatDigits = "0123456789ABCDEF"
	unescaped   = "abcdefghijklmnopqrstuvwxyzABCDEFGHIJKLMNOPQRSTUVWXYZ0123456789-._~"
)

func TestUnescape(t *testing.T) {
	for _, c := range []struct{ s, want string }{
		{"", ""},
		{"a", "a"},
		{"anna", "anna"},
		{"Anna9", "Anna9"},
		{"+", " "},
		{"++", "  "},
		{"a+b", "a b"},
		{"+a", " a"},
		{"a+", "a "},
		{" ", " "},
		{"a b", "a b"},
		{"%20", " "},
		{"%2B", "+"},
		{"%2b", "+"},
		{"1%2B1+is+2", "1+1 is 2"},
		{"%26", "&"},
		{"%3D", "="},
		{"%3d", "="},
		{"%25", "%"},
		{"%2525", "%25"}, // what was told is not told again
		{"%252", "%2"},
		{"%252B", "%2B"},
		{"%25+", "% "},
		{"%00", "\x00"},
		{"a%00b", "a\x00b"},
		{"%7F", "\x7f"},
		{"%ff", "\xff"},
		{"%Ff%fF", "\xff\xff"},
		{"%C3%A9", "\u00e9"},
		{"%41%42%43", "ABC"},
		{"%414", "A4"},
		{"a%41", "aA"},
		{"a%41a", "aAa"},
		{"%2B%2B", "++"},
		{"&=;/?#", "&=;/?#"},
		{"a\x00\n\r\x7f\x80\xff", "a\x00\n\r\x7f\x80\xff"},
		{"\u00e9\u20ac", "\u00e9\u20ac"},
	} {
		askUnescape(t, c.s, c.want, true)
	}
}

// Two digits have to stand behind a '%', wherever it stands.
func TestUnescapeOfTooFewDigits(t *testing.T) {
	for _, s := range []string{
		"%", "%4", "%f", "%F", "a%", "a%4", "abc%a", "+%", "+%2", "%20%", "%20%2", "%41%4",
		"%%", "%%%", "%%41", "%4%", "%4%1", "%%4", "%25%",
		"%g0", "%0g", "%G0", "%0G", "%gg", "%zz", "%x1", "%4x", "%+1", "%1+", "%-1", "%1-", "% 1", "%1 ", "%  ", "%++",
		"a%zzb", "a%4zb", "a%z4b", "%4&", "%=1", "%u0041", "%0x41", "%\n1", "%1\n", "%\x001", "%1\x00", "%\x00\x00",
		"%/0", "%0/", "%:0", "%0:", "%@0", "%0@", "%`0", "%0`",
		"%\u0661\u0661", "%\uff11\uff11", "%\uff10", "%\u00e9", "%\xff\xff", "%1\xff", "%\xc0\xb0",
	} {
		askUnescape(t, s, "", false)
		askUnescape(t, "plain+%41"+s, "", false)
	}
	for _, s := range []string{"%", "%4", "%zz", "%4z", "%z4", "%%"} {
		askUnescape(t, s+"+and+more", "", false)
		askUnescape(t, s+"zz", "", false)
	}
}

// Behind a '%' each two bytes there are tell a byte just if both are digits, and then they tell that of their number.
func TestUnescapeOfEachTwoBytes(t *testing.T) {
	number := func(c byte) int {
		return max(strings.IndexByte(smallDigits, c), strings.IndexByte(greatDigits, c))
	}
	for _, x := range every() {
		askUnescape(t, "%"+string([]byte{x}), "", false)
		for _, y := range every() {
			s := "%" + string([]byte{x, y})
			if number(x) < 0 || number(y) < 0 {
				askUnescape(t, s, "", false)
				askUnescape(t, "a"+s+"00", "", false)
				continue
			}
			want := string([]byte{byte(16*number(x) + number(y))})
			askUnescape(t, s, want, true)
			askUnescape(t, "a"+s+"00", "a"+want+"00", true)
		}
	}
}

// Each byte but '+' and '%' is what it is.
func TestUnescapeOfEachByte(t *testing.T) {
	for _, c := range every() {
		s := string([]byte{c})
		switch c {
		case '+':
			askUnescape(t, s, " ", true)
		case '%':
			askUnescape(t, s, "", false)
		default:
			askUnescape(t, s, s, true)
			askUnescape(t, "%41"+s+"+", "A"+s+" ", true)
		}
	}
}

func TestEscape(t *testing.T) {
	for _, c := range []struct{ s, want string }{
		{"", ""},
		{"a", "a"},
		{"Anna9", "Anna9"},
		{"-._~", "-._~"},
		{" ", "+"},
		{"  ", "++"},
		{"a b", "a+b"},
		{"a b/", "a+b%2F"},
		{"+", "%2B"},
		{"%", "%25"},
		{"%20", "%2520"},
		{"&", "%26"},
		{"=", "%3D"},
		{"1+1 is 2", "1%2B1+is+2"},
		{"a&b=c", "a%26b%3Dc"},
		{"!*'()", "%21%2A%27%28%29"},
		{"<>\"", "%3C%3E%22"},
		{"\x00", "%00"},
		{"\t\r\n", "%09%0D%0A"},
		{"\x7f", "%7F"},
		{"\x80\xff", "%80%FF"},
		{"\u00e9", "%C3%A9"},
		{"\u20ac", "%E2%82%AC"},
		{"\U0001f600", "%F0%9F%98%80"},
		{"\xe2\x82", "%E2%82"},
		{"\ufffd", "%EF%BF%BD"},
		{"\u0130\u00aa\uff41\u0661", "%C4%B0%C2%AA%EF%BD%81%D9%A1"}, // letters and digits, but none of ASCII
	} {
		askEscape(t, c.s, c.want)
	}
}

func TestEscapeOfEachByte(t *testing.T) {
	for _, c := range every() {
		s := string([]byte{c})
		want := "%" + greatDigits[c/16:c/16+1] + greatDigits[c%16:c%16+1]
		if strings.IndexByte(unescaped, c) >= 0 {
			want = s
		}
		if c == ' ' {
			want = "+"
		}
		askEscape(t, s, want)
		askEscape(t, "a"+s+s+" ", "a"+want+want+"+")
		askUnescape(t, want, s, true)
	}
}

func TestThereAndBackOfTexts(t *testing.T) {
	draw := rand.New(rand.NewSource(7))
	texts := []string{"", string(every()), strings.Repeat(" ", 1000), strings.Repeat("%", 1000), strings.Repeat("long", 100000)}
	for range 2000 {
		b := make([]byte, draw.Intn(200))
		draw.Read(b)
		texts = append(texts, string(b))
	}
	for _, s := range texts {
		form := fill.Escape(s)
		if form != url.QueryEscape(s) {
			t.Errorf("Escape of %q: another library tells another one", s)
		}
		if strings.Trim(form, unescaped+"+%") != "" {
			t.Errorf("Escape of %q has signs that may not be: %q", s, form)
		}
		if back, ok := fill.Unescape(form); back != s || !ok {
			t.Errorf("%q is not there again: %q, %v", s, back, ok)
		}
	}
}

// Texts of signs that are near to an escape: another library says the same of them.
func TestUnescapeAsAnotherLibrary(t *testing.T) {
	signs := strings.Split("%%%%0123456789abcdefABCDEF+ &=gGzZ/:@`~", "")
	signs = append(signs, "\x00", "\x80", "\xff", "\u00e9", "%41", "%2B", "%00", "%fF")
	draw := rand.New(rand.NewSource(20))
	had := 0
	const texts = 50000
	for range texts {
		var b strings.Builder
		for range draw.Intn(10) {
			b.WriteString(signs[draw.Intn(len(signs))])
		}
		s := b.String()
		want, err := url.QueryUnescape(s)
		askUnescape(t, s, want, err == nil)
		if err == nil {
			had++
		}
	}
	if had == 0 || had == texts {
		t.Errorf("%d of the texts may be: these texts test nothing", had)
	}
}
