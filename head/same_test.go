package head_test

import (
	"math/rand"
	"strings"
	"testing"
)

const (
	greatOnes = "ABCDEFGHIJKLMNOPQRSTUVWXYZ"
	smallOnes = "abcdefghijklmnopqrstuvwxyz"
)

// asSmall is the small letter of a great one, and any other byte itself.
func asSmall(c byte) byte {
	if at := strings.IndexByte(greatOnes, c); at >= 0 {
		return smallOnes[at]
	}
	return c
}

// areSame is what the chapter says of two texts, byte by byte.
func areSame(a, b string) bool {
	if len(a) != len(b) {
		return false
	}
	for i := range len(a) {
		if asSmall(a[i]) != asSmall(b[i]) {
			return false
		}
	}
	return true
}

func TestSame(t *testing.T) {
	for _, c := range []struct{ a, b string }{
		{"", ""},
		{"a", "a"},
		{"a", "A"},
		{"Host", "host"},
		{"Host", "hOST"},
		{"HOST", "host"},
		{"Content-Length", "CONTENT-length"},
		{greatOnes, smallOnes},
		{"9", "9"},
		{"a b", "A B"}, // nothing says that it is a token
		{" ", " "},
		{"\x00", "\x00"},
		{"\xff", "\xff"},
		{"\xffA", "\xffa"},
		{"A\xff", "a\xff"},
		{"A\xe2\x82B", "a\xe2\x82b"},
		{"\xe2A\x82", "\xe2a\x82"},
		{"\u00e9", "\u00e9"},
		{"A\u00c9Z", "a\u00c9z"},
		{"\u20acX\U0001f600Y\ufffdZ", "\u20acx\U0001f600y\ufffdz"},
		{strings.Repeat("A", 100000), strings.Repeat("a", 100000)},
	} {
		askSame(t, c.a, c.b, true)
	}
}

func TestNotSame(t *testing.T) {
	for _, c := range []struct{ a, b string }{
		{"", "a"},
		{"", " "},
		{"", "\x00"},
		{"a", "b"},
		{"a", "B"},
		{"a", "aa"},
		{"A", "aa"},
		{"Host", "Hos"},
		{"Host", "Hosts"},
		{"Host", "Host "},
		{"Host", " Host"},
		{"Host", "Ghost"},
		{"Host", "Hosu"},
		{"Host", "Gost"},
		{"Hosta", "Hostb"},
		{"Host", "Host\x00"},
		{"@", "`"}, // no letters, though they lie as far apart
		{"[", "{"},
		{"\\", "|"},
		{"]", "}"},
		{"^", "~"},
		{"_", "\x7f"},
		{"a-b", "a\rb"},
		{"0", "\x10"},
		{" ", "\x00"},
		{"A", "!"},
		{"a", "\x81"},
		{"A", "\xc1"},
		{"\xc1", "\xe1"},
		{"\xda", "\xfa"},
		{"\xff", "\xfe"}, // bytes that are no rune are themselves all the same
		{"\x80", "\x81"},
		{"\xff\xff\xff", "\ufffd"},
		{"\xff", "\ufffd"},
		{"\xe2\x82", "\xe2\x83"},
		{"\u00c9", "\u00e9"}, // great and small, but not of ASCII
		{"\u0410", "\u0430"},
		{"\u00e9", "\u00e8"},
		{"\u20ac", "\u20ab"},
		{"\u212a", "k"},
		{"k\u212a", "\u212ak"},
		{"\u017fs", "s\u017f"},
		{"\u00df", "ss"},
		{strings.Repeat("a", 100000), strings.Repeat("a", 99999) + "b"},
	} {
		askSame(t, c.a, c.b, false)
	}
}

// Each two bytes, alone and at each place among others.
func TestSameOfEachTwoBytes(t *testing.T) {
	for _, x := range every() {
		for _, y := range every() {
			want := asSmall(x) == asSmall(y)
			askSame(t, one(x), one(y), want)
			askSame(t, one(x)+"b", one(y)+"B", want)
			askSame(t, "A"+one(x), "a"+one(y), want)
			askSame(t, "\xe2"+one(x)+"\x82", "\xe2"+one(y)+"\x82", want)
			askSame(t, "\xe2\x82"+one(x), "\xe2\x82"+one(y), want)
		}
	}
}

// Texts that are near to each other.
func TestSameAsTheModel(t *testing.T) {
	signs := []string{"a", "A", "z", "Z", "k", "K", "@", "`", "[", "{", "\x80", "\xa0", "\xc1", "\xe1", "\xe2\x82", "\u20ac", "\ufffd", "\xff"}
	draw := rand.New(rand.NewSource(9))
	const texts = 50000
	had := 0
	for range texts {
		var a, b strings.Builder
		for range draw.Intn(6) {
			sign := signs[draw.Intn(len(signs))]
			a.WriteString(sign)
			switch draw.Intn(12) {
			case 0:
				b.WriteString(signs[draw.Intn(len(signs))])
			case 1:
				b.WriteString(strings.ToUpper(sign))
			default:
				b.WriteString(one(asSmall(sign[0])) + sign[1:])
			}
		}
		want := areSame(a.String(), b.String())
		askSame(t, a.String(), b.String(), want)
		if want {
			had++
		}
	}
	if had < 500 || had > texts-500 {
		t.Errorf("%d of the texts are the same: these texts test nothing", had)
	}
}

func TestAll(t *testing.T) {
	l := pairs("Host", "a", "Cookie", "1", "cookie", "2", "Accept", "", "COOKIE", "1", "", "none", "X", "3", "cOOKIE ", "4", "A@", "5", "\xc1", "6")
	askAll(t, l, "Host", "a")
	askAll(t, l, "host", "a")
	askAll(t, l, "hOsT", "a")
	askAll(t, l, "Cookie", "1", "2", "1") // in order, the same one twice
	askAll(t, l, "cooKIE", "1", "2", "1")
	askAll(t, l, "Accept", "")
	askAll(t, l, "x", "3")
	askAll(t, l, "", "none")
	askAll(t, l, "cookie ", "4")
	askAll(t, l, "a@", "5")
	askAll(t, l, "a`")
	askAll(t, l, "\xc1", "6")
	askAll(t, l, "\xe1")
	askAll(t, l, "Hos")
	askAll(t, l, "Hosts")
	askAll(t, l, "a")
	askAll(t, l, "Date")
	askAll(t, l, "*")
	askAll(t, l, " ")
}

func TestAllOfFewFields(t *testing.T) {
	for _, name := range []string{"", "a", "Host"} {
		askAll(t, nil, name)
		askAll(t, pairs(), name)
		askAll(t, pairs("b", "1"), name)
		askAll(t, pairs("b", name), name)
		askAll(t, pairs(name, "1"), name, "1")
		askAll(t, pairs(name, "1", "b", "2"), name, "1")
		askAll(t, pairs("b", "2", name, "1"), name, "1")
		askAll(t, pairs(name, "1", name, "2"), name, "1", "2")
		askAll(t, pairs(name, "2", name, "1"), name, "2", "1")
		askAll(t, pairs(name, "", name, ""), name, "", "")
	}
	// Values and names that no line could have are told as they are.
	askAll(t, pairs("a b", " \x00 ", "A B", "\r\n"), "A b", " \x00 ", "\r\n")
}

func TestAllOfManyFields(t *testing.T) {
	draw := rand.New(rand.NewSource(10))
	names := []string{"a", "A", "b", "B", "host", "Host", "HOST", "", "\xff", "@", "`"}
	for range 2000 {
		var words []string
		for i := range draw.Intn(50) {
			words = append(words, names[draw.Intn(len(names))], strings.Repeat("v", i))
		}
		l := pairs(words...)
		for _, name := range names {
			var want []string
			for _, p := range l {
				if areSame(p.Name, name) {
					want = append(want, p.Value)
				}
			}
			askAll(t, l, name, want...)
		}
	}
}
