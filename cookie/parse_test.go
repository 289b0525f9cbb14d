package cookie_test

import (
	"math/rand"
	"slices"
	"strconv"
	"strings"
	"testing"

	"wicketman/api"
	"wicketman/cookie"
)

func TestParse(t *testing.T) {
	askParse(t, "a=1", "a", "1")
	askParse(t, "a=1; b=2", "a", "1", "b", "2")
	askParse(t, "b=2; a=1", "b", "2", "a", "1") // in order
	askParse(t, "a=1; __Host-id=5", "a", "1", "__Host-id", "5")
	askParse(t, "a=1; a=1; a=2; A=1", "a", "1", "a", "1", "a", "2", "A", "1") // twice is twice
	askParse(t, "theme=dark; lang=en-GB; n=42", "theme", "dark", "lang", "en-GB", "n", "42")
	askParse(t, "!#$%&'*+-.^_`|~09AZaz=!#$%&'()*+-./09:<=>?@AZ[]^_`az{|}~", "!#$%&'*+-.^_`|~09AZaz", "!#$%&'()*+-./09:<=>?@AZ[]^_`az{|}~")
	askParse(t, "a=\"1\"; b=\"2\"", "a", "1", "b", "2")
	askParse(t, "a=\"1\"; b=2; c=\"\"; d=", "a", "1", "b", "2", "c", "", "d", "")
	askParse(t, "a="+of(100000), "a", of(100000))
	askParse(t, of(100000)+"=a", of(100000), "a")
	askParse(t, "__Host-id=5", "__Host-id", "5")
	askParse(t, "__Secure-a=%20", "__Secure-a", "%20") // nothing is unescaped
}

func TestParseOfNothing(t *testing.T) {
	askParse(t, "")
	for _, value := range []string{" ", "  ", "\t", ";", "; ", " ;", "; ; ", "=", "\"", "\"\"", "\x00", "\r\n", "\xff"} {
		refuses(t, value)
	}
}

// some is the text of n cookies, and these.
func some(n int) (string, []string) {
	var pieces, words []string
	for i := range n {
		name, value := "n"+strconv.Itoa(i), strconv.Itoa(i*i)
		pieces = append(pieces, name+"="+value)
		words = append(words, name, value)
	}
	return strings.Join(pieces, "; "), words
}

func TestParseOfMany(t *testing.T) {
	for _, n := range []int{1, 2, 3, 29, 30, 31, 40, 41, 200, 201, 5000} {
		value, words := some(n)
		askParse(t, value, words...)
	}
}

// Where one of many is wrong, be it the last one, nothing comes out.
func TestParseOfManyOfWhichOneIsWrong(t *testing.T) {
	for _, n := range []int{1, 2, 10, 1000} {
		value, words := some(n)
		for _, wrong := range []string{"", "a", "=1", "a b=1", "a=b c", "a=\"", "a=1\"", "a=\x00", "a=\u00e9", "a=1,b=2", "a=\\", " a=1", "a=1 ", "\ta=1", "a =1"} {
			refuses(t, value+"; "+wrong)
			refuses(t, wrong+"; "+value)
			refuses(t, value+"; "+wrong+"; "+value)
		}
		askParse(t, value+"; a=\"1\"", append(slices.Clone(words), "a", "1")...)
	}
}

func TestEachByteOfAValue(t *testing.T) {
	for _, c := range every() {
		for _, s := range []string{one(c), one(c) + "b", "b" + one(c), "b" + one(c) + "d", one(c) + one(c)} {
			for _, value := range []string{s, "\"" + s + "\""} {
				for _, text := range []string{"a=" + value, "x=y; a=" + value, "a=" + value + "; x=y"} {
					if !inValue(c) {
						asModel(t, text) // a quote may make it a value all the same
						continue
					}
					if got, ok := cookie.Parse(text); !ok || !slices.Contains(got, api.Pair{Name: "a", Value: s}) {
						t.Errorf("Parse of %q: %q, %v", text, got, ok)
					}
				}
			}
			if !inValue(c) && c != '"' {
				refuses(t, "a="+s)
				refuses(t, "a=\""+s+"\"")
			}
		}
	}
}

func TestEachByteOfAName(t *testing.T) {
	for _, c := range every() {
		for _, name := range []string{one(c), one(c) + "b", "b" + one(c), "b" + one(c) + "d", one(c) + one(c)} {
			switch {
			case inName(c):
				askParse(t, name+"=1", name, "1")
				askParse(t, name+"=", name, "")
				askParse(t, "x=y; "+name+"=\"1\"; x=y", "x", "y", name, "1", "x", "y")
			case c != '=': // a name ends there
				refuses(t, name+"=1")
				refuses(t, name+"=")
				refuses(t, "x=y; "+name+"=1")
				refuses(t, name+"=1; x=y")
			}
			asModel(t, name+"=1")
		}
	}
}

func TestParseOfValuesOfNoByte(t *testing.T) {
	askParse(t, "a=", "a", "")
	askParse(t, "a=\"\"", "a", "")
	askParse(t, "a=; b=; c=", "a", "", "b", "", "c", "")
	askParse(t, "a=\"\"; b=\"\"", "a", "", "b", "")
	askParse(t, "a=; b=\"\"; c=1", "a", "", "b", "", "c", "1")
	askParse(t, "__Host-id=", "__Host-id", "")
}

// Two quotes stand around a whole value, or there are none.
func TestQuotes(t *testing.T) {
	askParse(t, "a=\"b\"", "a", "b")
	askParse(t, "a=\"b=c\"", "a", "b=c")
	askParse(t, "a='b'", "a", "'b'") // these are octets
	for _, value := range []string{
		"\"", "\"b", "b\"", "b\"c", "\"b\"c", "b\"c\"", "b\"c\"d", "\"\"\"", "\"\"b", "b\"\"", "\"\"b\"", "\"b\"\"", "\"\"b\"\"", "\"\"\"\"", "\"b\"c\"", "\"b\"\"c\"", "\"b\" \"c\"", " \"b\"", "\"b\" ", "\" b\"", "\"b \"", "\"b c\"", "\"b;c\"", "\"b; c\"", "\"b; c=d\"", "\"b,c\"", "\"\\\"\"", "\\\"b\\\"", "\u201cb\u201d", "\"b'", "'b\"",
	} {
		refuses(t, "a="+value)
		refuses(t, "x=y; a="+value)
		refuses(t, "a="+value+"; x=y")
		if !strings.Contains(value, "; ") {
			refuses(t, "a=\""+value+"\"")
		}
	}
	for _, text := range []string{"\"a\"=b", "\"a=b\"", "\"a\"", "a\"=b", "\"a=b", "a=\"b; c=d\"", "a\"=\"b", "\"a=1; b=2\""} {
		refuses(t, text)
	}
}

// The first sign of equality ends a name: it has none, and a value may have more.
func TestEquals(t *testing.T) {
	askParse(t, "a=b=c", "a", "b=c")
	askParse(t, "a==", "a", "=")
	askParse(t, "a==b", "a", "=b")
	askParse(t, "a=b=", "a", "b=")
	askParse(t, "a===; b=c==", "a", "==", "b", "c==")
	askParse(t, "a=\"=\"", "a", "=")
	askParse(t, "__Host-id=id=5", "__Host-id", "id=5")
	for _, text := range []string{"a", "abc", "__Host-id", "a:b", "a; b", "a=1; b", "a; b=1", "a=1; b; c=2", "=", "==", "=b", "=b=c", "=a=", "=\"b\"", "=; a=b", "a=b; =", "a=b; =c", "a =b", "a= b", "a = b", "a=b =c", "a=b= c"} {
		refuses(t, text)
	}
}

// A semicolon and one blank stand between two cookies, and nowhere else.
func TestBetween(t *testing.T) {
	askParse(t, "a=1; b=2", "a", "1", "b", "2")
	for _, between := range []string{
		"", ";", " ", ";  ", " ; ", " ;", ";;", "; ;", "; ; ", ";; ", "; ;b=2; ", ";\t", "\t; ", ";\t ", "; \t", "\t", ";\n", ";\r\n", ";\r\n ", "; \n", ";\x00", ";\u00a0", "; \u00a0", ";\u2003", ",", ", ", ",; ", ";, ", "&", "&&", ": ", "\u037e ", "\uff1b ",
	} {
		text := "a=1" + between + "b=2"
		if between == "" || between == "&" || between == "&&" {
			askParse(t, text, "a", "1"+between+"b=2") // that is all of one value
			continue
		}
		refuses(t, text)
		refuses(t, "x=y; "+text)
		refuses(t, text+"; x=y")
	}
	for _, text := range []string{"; a=1", ";a=1", " a=1", "a=1; ", "a=1;", "a=1 ", "; a=1; ", "a=1; b=2; ", "a=1; b=2;", "; a=1; b=2", "a=1; ; b=2", "a=1; ; ", "\ta=1", "a=1\t", "a=1\r\n", "a=1; b=2\n", "$Version=1; a=1;"} {
		refuses(t, text)
	}
	askParse(t, "$Version=1; a=1; $Path=/", "$Version", "1", "a", "1", "$Path", "/") // these are names as others are
}

// model is what Parse has to say, by other means: byte by byte.
func model(text string) ([]api.Pair, bool) {
	if text == "" {
		return nil, true
	}
	var l []api.Pair
	for {
		n := 0
		for n < len(text) && inName(text[n]) {
			n++
		}
		if n == 0 || n == len(text) || text[n] != '=' {
			return nil, false
		}
		name := text[:n]
		text = text[n+1:]
		quoted := strings.HasPrefix(text, "\"")
		if quoted {
			text = text[1:]
		}
		n = 0
		for n < len(text) && inValue(text[n]) {
			n++
		}
		l = append(l, api.Pair{Name: name, Value: text[:n]})
		text = text[n:]
		if quoted {
			if !strings.HasPrefix(text, "\"") {
				return nil, false
			}
			text = text[1:]
		}
		if text == "" {
			return l, true
		}
		if !strings.HasPrefix(text, "; ") {
			return nil, false
		}
		text = text[2:]
	}
}

// asModel holds Parse against the model, and says whether there are cookies.
func asModel(t *testing.T, text string) bool {
	t.Helper()
	want, is := model(text)
	for range 2 { // a text has one answer
		if got, ok := cookie.Parse(text); ok != is || !slices.Equal(got, want) {
			t.Fatalf("Parse of %q: %q, %v, want %q, %v", text, got, ok, want, is)
		}
	}
	return is
}

// Each byte at each place of a text: in its place, ahead of it, and none there.
func TestEachByteInAText(t *testing.T) {
	for _, text := range []string{"a=1; __Host-id=5", "ab=\"cd\"; e=", "a=\"\"; b=="} {
		for at := range len(text) + 1 {
			for _, c := range every() {
				asModel(t, text[:at]+one(c)+text[at:])
				if at < len(text) {
					asModel(t, text[:at]+one(c)+text[at+1:])
				}
			}
			asModel(t, text[:at])
			asModel(t, text[at:])
			if at < len(text) {
				asModel(t, text[:at]+text[at+1:])
			}
		}
	}
}

// Texts of words that come in any order are cookies, or none; and what was told is the same when it is written again.
func TestParseAsTheModel(t *testing.T) {
	words := []string{"a", "B", "9", "=", "=", "; ", "; ", "a=", "__Host-id=", "\"", "a=\"b\"", "-"}
	rare := []string{";", " ", "\t", ",", "\\", "\x00", "\x7f", "\x80", "\xff", "\u00e9", "\ufffd", "\r\n", "(", "/", "  "}
	draw := rand.New(rand.NewSource(35))
	had := map[bool]int{}
	for range 100000 {
		var b strings.Builder
		if draw.Intn(3) > 0 {
			b.WriteString("a=")
		}
		for range draw.Intn(10) {
			if draw.Intn(30) == 0 {
				b.WriteString(rare[draw.Intn(len(rare))])
				continue
			}
			b.WriteString(words[draw.Intn(len(words))])
		}
		is := asModel(t, b.String())
		if is {
			backAgain(t, b.String())
		}
		had[is]++
	}
	if had[true] < 5000 || had[false] < 5000 {
		t.Errorf("%d of the texts are cookies, %d none: these texts test nothing", had[true], had[false])
	}
}

// backAgain holds the cookies of a text, written bare, and between quotes, against those of the text itself.
func backAgain(t *testing.T, text string) {
	t.Helper()
	l, _ := cookie.Parse(text)
	var bare, quoted []string
	for _, c := range l {
		bare = append(bare, c.Name+"="+c.Value)
		quoted = append(quoted, c.Name+"=\""+c.Value+"\"")
	}
	for _, again := range []string{strings.Join(bare, "; "), strings.Join(quoted, "; ")} {
		if back, ok := cookie.Parse(again); !ok || !slices.Equal(back, l) {
			t.Fatalf("the cookies of %q, written again, %q: %q, %v, want %q", text, again, back, ok, l)
		}
	}
}
