package head_test

import (
	"math/rand"
	"regexp"
	"strings"
	"testing"

	"wicketman/head"
)

// isToken and isValue are what the chapter says of a text, byte by byte.
func isToken(s string) bool {
	for i := range len(s) {
		if !inToken(s[i]) {
			return false
		}
	}
	return len(s) > 0
}

func isValue(s string) bool {
	for i := range len(s) {
		if !inValue(s[i]) {
			return false
		}
	}
	return len(s) == 0 || !isBlank(s[0]) && !isBlank(s[len(s)-1])
}

func inToken(c byte) bool {
	switch c {
	case '!', '#', '$', '%', '&', '\'', '*', '+', '-', '.', '^', '_', 0x60, '|', '~':
		return true
	}
	return c >= '0' && c <= '9' || c >= 'a' && c <= 'z' || c >= 'A' && c <= 'Z'
}

func inValue(c byte) bool { return c >= 0x21 && c <= 0x7e || c >= 0x80 || isBlank(c) }

func isBlank(c byte) bool { return c == 0x20 || c == 0x09 }

func TestToken(t *testing.T) {
	for _, s := range []string{
		"a", "Z", "0", "9", "Host", "host", "HOST", "Content-Length", "X-9", "9x", "GET", "__Host-id", "a.b",
		"!", "#", "$", "%", "&", "'", "*", "+", "-", ".", "^", "_", "`", "|", "~", "!#$%&'*+-.^_`|~",
		"abcdefghijklmnopqrstuvwxyzABCDEFGHIJKLMNOPQRSTUVWXYZ0123456789", of(100000), // nothing bounds its length
	} {
		askToken(t, s, true)
	}
	for _, s := range []string{
		"", " ", "\t", "a b", " a", "a ", "\ta", "a\t", "a\tb", "a:", ":", ":a", "a:b",
		"\"", "(", ")", ",", "/", ";", "<", "=", ">", "?", "@", "[", "\\", "]", "{", "}", "\"a\"", "a/b", "a=b", "a,b",
		"\x00", "a\x00", "\r", "\n", "a\r\n", "a\n", "\x7f", "a\x7f", "\x80", "a\x80", "\xff", "\xffa", "a\xffb",
		"\u00e9", "H\u00f6st", "\u0410", "\uff21", "\u0661", "\u212a", "\u017f", "\ufffd", "a\ufffd", "\U0001f600",
		of(100000) + " ",
	} {
		askToken(t, s, false)
	}
}

func TestValue(t *testing.T) {
	for _, s := range []string{
		"", "a", "a b", "a  b", "a\tb", "a \t b", "a, b; c=\"d\"", "text/html", "127.0.0.1:80", ":", "a:b", "!", "~",
		"\x80", "\xff", "a\x80", "\xffa", "\x80 \xff", "\x80\t\xff", "\u00e9", "caf\u00e9 cr\u00e8me", "\u20ac\U0001f600\ufffd",
		"\u00a0", "\u00a0a\u00a0", "\u2003a\u2003", "\u0085", "\ufeff", // no blanks of ASCII
		"!\"#$%&'()*+,-./0123456789:;<=>?@ABCDEFGHIJKLMNOPQRSTUVWXYZ[\\]^_`abcdefghijklmnopqrstuvwxyz{|}~",
		of(100000),
	} {
		askValue(t, s, true)
	}
	for _, s := range []string{
		" ", "\t", "  ", "\t\t", " \t", "\t ", " a", "a ", " a ", "\ta", "a\t", "\ta\t", "  a", "a  ", "a b ", " a b", "a\tb\t",
		" \xff", "\xff ", "\t\x80", "\x80\t", " \u00e9", "\u00e9 ",
		"\x00", "\r", "\n", "\r\n", "\v", "\f", "\x1f", "\x7f", "a\x00b", "a\rb", "a\nb", "a\r\nb", "a\r\n", "\na", "a\x7f", "\x7fa", "a\x7fb",
		"a\x1fb", "\u00e9\x7f", "\xff\x00", "\x08", "\x0b", of(100000) + " ", of(100000) + "\x00",
	} {
		askValue(t, s, false)
	}
}

// Each byte there is, alone and at each place among others.
func TestEachByte(t *testing.T) {
	for _, c := range every() {
		s := one(c)
		for _, text := range []string{s, s + "a", "a" + s, "a" + s + "b", s + s} {
			askToken(t, text, inToken(c))
		}
		askValue(t, s, inValue(c) && !isBlank(c))
		askValue(t, s+"a", inValue(c) && !isBlank(c))
		askValue(t, "a"+s, inValue(c) && !isBlank(c))
		askValue(t, s+s, inValue(c) && !isBlank(c))
		askValue(t, "a"+s+"b", inValue(c))
		askValue(t, "a"+s+s+"b", inValue(c))
		askValue(t, "\u20ac"+s+"\x80", inValue(c))
	}
}

// Each two bytes: such as begin a rune and do not end it, or the other way round, are two bytes all the same.
func TestEachTwoBytes(t *testing.T) {
	for _, x := range every() {
		for _, y := range every() {
			s := string([]byte{x, y})
			askToken(t, s, isToken(s))
			askValue(t, s, isValue(s))
			askValue(t, "a"+s+"a", inValue(x) && inValue(y))
		}
	}
}

// How many signs there are: 77 of a token, and of a value 94 that show, 128 above 7f, a blank and a tab.
func TestHowManySignsThereAre(t *testing.T) {
	tokens, values := 0, 0
	for _, c := range every() {
		if head.Token(one(c)) {
			tokens++
		}
		if head.Value("a" + one(c) + "a") {
			values++
		}
	}
	if tokens != 77 || values != 94+128+2 {
		t.Errorf("%d signs of a token, %d of a value", tokens, values)
	}
}

// Texts of any signs: a token and a value as another library tells them.
func TestSignsAsAnotherLibrary(t *testing.T) {
	token := regexp.MustCompile("^[-!#$%&'*+.^_`|~0-9A-Za-z]+$")
	value := regexp.MustCompile("^([!-~\\x{80}-\\x{10ffff}]([!-~\\x{80}-\\x{10ffff} \\t]*[!-~\\x{80}-\\x{10ffff}])?)?$")
	signs := strings.Split("a b Z 0 9 - _ ~ ` | ! a b c d", " ")
	rare := strings.Split(" ,\t,:,\",(,{,\x00,\r,\n,\x1f,\x7f,\x80,\xff,\u00e9,\u20ac,\xe2\x82,\ufffd,\U0001f600", ",")
	draw := rand.New(rand.NewSource(8))
	const texts = 50000
	tokens, values := 0, 0
	for range texts {
		var b strings.Builder
		for range draw.Intn(10) {
			from := signs
			if draw.Intn(6) == 0 {
				from = rare
			}
			b.WriteString(from[draw.Intn(len(from))])
		}
		s := b.String()
		isT, isV := token.MatchString(s), value.MatchString(s)
		askToken(t, s, isT)
		askValue(t, s, isV)
		if isT != isToken(s) || isV != isValue(s) {
			t.Fatalf("the test itself is of two minds about %q", s)
		}
		if isT {
			tokens++
		}
		if isV {
			values++
		}
	}
	if tokens < 500 || tokens > texts-500 || values < 500 || values > texts-500 {
		t.Errorf("%d tokens, %d values: these texts test nothing", tokens, values)
	}
}
