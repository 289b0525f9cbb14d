package head_test

import (
	"math/rand"
	"strings"
	"testing"

	"wicketman/api"
	"wicketman/head"
)

func TestField(t *testing.T) {
	for _, c := range []struct{ line, name, value string }{
		{"Host: a", "Host", "a"},
		{"Host:a", "Host", "a"},
		{"Host:  a ", "Host", "a"},
		{"Host:\ta\t", "Host", "a"},
		{"Host: \t \ta \t\t ", "Host", "a"},
		{"host: A", "host", "A"}, // letters stay as they are
		{"HOST: A", "HOST", "A"},
		{"Content-Length: 42", "Content-Length", "42"},
		{"Cookie: a=1; __Host-id=5", "Cookie", "a=1; __Host-id=5"},
		{"X-9: two words", "X-9", "two words"},
		{"X: a  \t b", "X", "a  \t b"}, // blanks within stay
		{"a:", "a", ""},
		{"a: ", "a", ""},
		{"a:\t", "a", ""},
		{"a: \t \t", "a", ""},
		{"a::", "a", ":"},
		{"a:b:c", "a", "b:c"},
		{"a: b: c", "a", "b: c"},
		{"a: :b", "a", ":b"},
		{"a::b", "a", ":b"},
		{"Host: 127.0.0.1:80", "Host", "127.0.0.1:80"},
		{"!#$%&'*+-.^_`|~:!", "!#$%&'*+-.^_`|~", "!"},
		{"a: \"q\" (c) [d] {e} \\ / @", "a", "\"q\" (c) [d] {e} \\ / @"},
		{"a:\x80", "a", "\x80"},
		{"a: \xff ", "a", "\xff"},
		{"a: caf\u00e9", "a", "caf\u00e9"},
		{"a: \xe2\x82 \xe2\x82", "a", "\xe2\x82 \xe2\x82"},
		{"a:\u00a0", "a", "\u00a0"}, // no blank of ASCII: it stays
		{"a: \u2003b\u2003 ", "a", "\u2003b\u2003"},
	} {
		askField(t, c.line, c.name, c.value)
	}
}

func TestFieldOfWhatIsNone(t *testing.T) {
	for _, line := range []string{
		"", " ", "a", "Host", "Host a", "Host; a", "Host\uff1a a", // no colon
		":", "::", ":a", ": a", ":a:b", // nothing ahead of the first
		" :a", "\t:a", "Host : a", "Host\t: a", "Host \t: a", " Host: a", "\tHost: a", "Ho st: a", " : ", // blanks ahead of it
		"a b: c", "a/b: c", "\"a\": c", "(a): b", "a=b: c", "a,b: c", "a;b: c", "[a]: b", "{a}: b", "a@b: c", "a\\b: c", "<a>: b", "a?: b",
		"\x00: a", "a\x00: b", "a\x7f: b", "a\r: b", "a\n: b", "\r\na: b", "a\x80: b", "\xff: b", "H\u00f6st: a", "\ufffd: a",
		"a: \x00", "a: b\x00", "a: \x7f", "a: b\x7fc", "a: b\r", "a: b\n", "a: b\r\n", "a: b\r\n c", "a: b\nc: d", "a: b\rc: d",
		"a:\v", "a:\f", "a: \x1f", "a:\r", "a:\n", "a: \n ", "a:\x08b", "a:\x01", "a: \xff\x00",
	} {
		refuses(t, line, api.ErrField)
	}
}

// Each byte at each place of a line.
func TestEachByteInALine(t *testing.T) {
	for _, c := range every() {
		s := one(c)
		for _, line := range []string{s, s + "a:b", "a" + s + "b:c", "a" + s + ":b", "a" + s, "a:" + s, "a: " + s + " ", "a:b" + s + "c", "a:b" + s, "a: " + s + "b", s + ":", s + ":" + s} {
			want, wantE := model(line)
			if wantE != api.OK {
				refuses(t, line, wantE)
				continue
			}
			askField(t, line, want.Name, want.Value)
		}
	}
}

func TestLengthsOfALine(t *testing.T) {
	for n := mostBytes - 3; n <= mostBytes+3; n++ {
		for _, c := range []struct{ line, name, value string }{
			{"a:" + of(n-2), "a", of(n - 2)},
			{"a: " + of(n-3), "a", of(n - 3)},
			{of(n-1) + ":", of(n - 1), ""},
			{of(n-2) + ":a", of(n - 2), "a"},
			{"a:" + strings.Repeat(" ", n-2), "a", ""}, // blanks count in the line, though they are not told
			{"a:b" + strings.Repeat("\t", n-3), "a", "b"},
			{"a:" + strings.Repeat("\xff", n-2), "a", strings.Repeat("\xff", n-2)},
			{"a:" + strings.Repeat("\u00e9", (n-2)/2) + of(n%2), "a", strings.Repeat("\u00e9", (n-2)/2) + of(n%2)}, // bytes count, not runes
		} {
			if len(c.line) != n {
				t.Fatalf("%d bytes, want %d", len(c.line), n)
			}
			if n > mostBytes {
				refuses(t, c.line, api.ErrLong)
				continue
			}
			askField(t, c.line, c.name, c.value)
		}
	}
	refuses(t, "a:"+of(1000000), api.ErrLong)
}

// A line that is too long is that, whatever else it is.
func TestWhichErrorOfALineComesFirst(t *testing.T) {
	for _, n := range []int{mostBytes, mostBytes + 1} {
		want := api.ErrField
		if n > mostBytes {
			want = api.ErrLong
		}
		refuses(t, of(n), want)
		refuses(t, strings.Repeat(" ", n), want)
		refuses(t, strings.Repeat(":", n), want)
		refuses(t, ":"+of(n-1), want)
		refuses(t, "a :"+of(n-3), want)
		refuses(t, "a:\x00"+of(n-3), want)
		refuses(t, "a:"+of(n-3)+"\x00", want)
		refuses(t, "a:"+of(n-3)+"\n", want)
		refuses(t, strings.Repeat("\xff", n-1)+":", want)
	}
}

func TestPrint(t *testing.T) {
	for _, c := range []struct{ name, value, want string }{
		{"Host", "a", "Host: a"},
		{"host", "A", "host: A"},
		{"a", "", "a: "}, // the blank stands there all the same
		{"Content-Length", "42", "Content-Length: 42"},
		{"X-9", "two words", "X-9: two words"},
		{"a", "b  \t c", "a: b  \t c"},
		{"a", ":", "a: :"},
		{"a", "b: c", "a: b: c"},
		{"!#$%&'*+-.^_`|~", "\"", "!#$%&'*+-.^_`|~: \""},
		{"a", "\x80\xff", "a: \x80\xff"},
		{"a", "\u00e9", "a: \u00e9"},
	} {
		askPrint(t, c.name, c.value, c.want)
	}
}

func TestPrintOfWhatIsNone(t *testing.T) {
	names := []string{"", " ", "a b", " a", "a ", "a\t", "a:", ":", "a:b", "a\x00", "a\r\n", "\x7f", "\x80", "\xff", "\u00e9", "a/b", "\"a\""}
	values := []string{" ", "\t", " a", "a ", "\ta", "a\t", "a\x00", "a\r\nb: c", "a\n", "\r", "\x7f", "a\x7fb", "\x1f"}
	for _, name := range names {
		printsNothing(t, name, "a", api.ErrField)
		printsNothing(t, name, "", api.ErrField)
		for _, value := range values {
			printsNothing(t, name, value, api.ErrField)
		}
	}
	for _, value := range values {
		printsNothing(t, "a", value, api.ErrField)
	}
	for _, c := range every() {
		if !inToken(c) {
			printsNothing(t, "a"+one(c), "b", api.ErrField)
		}
		if !inValue(c) {
			printsNothing(t, "a", "b"+one(c)+"c", api.ErrField)
		}
	}
}

func TestLengthsOfWhatIsPrinted(t *testing.T) {
	for n := mostBytes - 3; n <= mostBytes+3; n++ {
		for _, c := range []struct{ name, value string }{
			{"a", of(n - 3)},
			{of(n - 3), "a"},
			{of(n - 2), ""},
			{of(n / 2), of(n - n/2 - 2)},
			{"a", strings.Repeat("\xff", n-3)},
		} {
			if n > mostBytes {
				printsNothing(t, c.name, c.value, api.ErrLong)
				continue
			}
			askPrint(t, c.name, c.value, c.name+": "+c.value)
		}
	}
	printsNothing(t, "a", of(1000000), api.ErrLong)
	printsNothing(t, of(1000000), "a", api.ErrLong)
}

// What is no field is that, however long it is: Print names its errors the other way round than Field.
func TestWhichErrorOfPrintComesFirst(t *testing.T) {
	for _, n := range []int{10, mostBytes - 10, mostBytes, mostBytes + 1, 100000} {
		printsNothing(t, "", of(n), api.ErrField)
		printsNothing(t, "a b", of(n), api.ErrField)
		printsNothing(t, of(n)+" ", "a", api.ErrField)
		printsNothing(t, of(n)+":", "", api.ErrField)
		printsNothing(t, "a", of(n)+" ", api.ErrField)
		printsNothing(t, "a", "\t"+of(n), api.ErrField)
		printsNothing(t, "a", of(n)+"\x00", api.ErrField)
		printsNothing(t, of(n)+"\xff", of(n)+"\n", api.ErrField)
	}
}

// model is what Field has to say, by other means.
func model(line string) (api.Pair, api.Errno) {
	if len(line) > mostBytes {
		return api.Pair{}, api.ErrLong
	}
	at := strings.IndexByte(line, ':')
	if at < 0 {
		return api.Pair{}, api.ErrField
	}
	from, to := at+1, len(line)
	for from < to && isBlank(line[from]) {
		from++
	}
	for from < to && isBlank(line[to-1]) {
		to--
	}
	p := api.Pair{Name: line[:at], Value: line[from:to]}
	if !isToken(p.Name) || !isValue(p.Value) {
		return api.Pair{}, api.ErrField
	}
	return p, api.OK
}

// Lines of words that come in any order are one field each, or one error; and what was told is the same behind Print.
func TestFieldAsTheModel(t *testing.T) {
	words := []string{"a", "B", "9", "-", "Host", ":", ":", ": ", " ", "\t", ";", "\"", "\x80", "\xff", "\u00e9", "\ufffd"}
	rare := []string{"\x00", "\r", "\n", "\x7f", "\x1f", " :", of(990), of(1997), of(1998), strings.Repeat(" ", 1990)}
	draw := rand.New(rand.NewSource(24))
	had := map[api.Errno]int{}
	for range 60000 {
		var b strings.Builder
		if draw.Intn(3) > 0 {
			b.WriteString("Name:")
		}
		for range draw.Intn(10) {
			if draw.Intn(30) == 0 {
				b.WriteString(rare[draw.Intn(len(rare))])
				continue
			}
			b.WriteString(words[draw.Intn(len(words))])
		}
		line := b.String()
		want, wantE := model(line)
		got, e := head.Field(line)
		if got != want || e != wantE {
			t.Fatalf("Field of %q: %q, %v, want %q, %v", line, got, e, want, wantE)
		}
		if e == api.OK {
			backAgain(t, got)
		}
		had[e]++
	}
	for _, e := range []api.Errno{api.OK, api.ErrField, api.ErrLong} {
		if had[e] < 500 {
			t.Errorf("%d of the lines are %v: these lines test nothing", had[e], e)
		}
	}
}

// backAgain holds what Print tells of a field, and what Field tells of that, against it.
// A field that was told of a line without a blank behind its colon may have one byte too many, printed.
func backAgain(t *testing.T, p api.Pair) {
	t.Helper()
	line, e := head.Print(p)
	if len(p.Name)+len(": ")+len(p.Value) > mostBytes {
		if line != "" || e != api.ErrLong {
			t.Fatalf("Print of %q: %q, %v, want nothing, ErrLong", p, line, e)
		}
		return
	}
	if line != p.Name+": "+p.Value || e != api.OK {
		t.Fatalf("Print of %q: %q, %v", p, line, e)
	}
	if back, e := head.Field(line); back != p || e != api.OK {
		t.Fatalf("%q is not there again: %q, %v", p, back, e)
	}
}

func TestThereAndBack(t *testing.T) {
	for _, c := range every() {
		if inToken(c) {
			backAgain(t, api.Pair{Name: one(c), Value: "a"})
			backAgain(t, api.Pair{Name: "a" + one(c)})
		}
		if inValue(c) {
			backAgain(t, api.Pair{Name: "a", Value: "b" + one(c) + "c"})
		}
	}
	for _, p := range pairs("a", "", "a", ":", "a", "b c", "a", of(mostBytes-3), of(mostBytes-2), "", "a", of(mostBytes-2)) {
		backAgain(t, p)
	}
	// But for blanks: lines that differ by these alone are one field, and so are printed as one line.
	for _, line := range []string{"Host:a b", "Host: a b", "Host:  a b  ", "Host:\ta b\t", "Host: \t a b \t "} {
		p, _ := head.Field(line)
		if again, e := head.Print(p); again != "Host: a b" || e != api.OK {
			t.Errorf("%q is printed as %q, %v", line, again, e)
		}
	}
	// That blank may be the one byte too many.
	p, e := head.Field("a:" + of(mostBytes-2))
	if e != api.OK {
		t.Fatalf("Field of a line of 2000 bytes: %v", e)
	}
	printsNothing(t, p.Name, p.Value, api.ErrLong)
}
