package cookie_test

import (
	"math/rand"
	"strconv"
	"strings"
	"testing"

	"wicketman/api"
	"wicketman/cookie"
)

func TestRead(t *testing.T) {
	askRead(t, "a=1; Max-Age=7; Path=/; Secure; HttpOnly; SameSite=Strict", "a", "1", 7)
	askRead(t, "__Host-id=5; Max-Age=0; Path=/; Secure; HttpOnly; SameSite=Strict", "__Host-id", "5", 0)
	askRead(t, "a=; Max-Age=999999999; Path=/; Secure; HttpOnly; SameSite=Strict", "a", "", mostAge)
	askRead(t, "a=b=c; Max-Age=10; Path=/; Secure; HttpOnly; SameSite=Strict", "a", "b=c", 10)
	askRead(t, "a==; Max-Age=10; Path=/; Secure; HttpOnly; SameSite=Strict", "a", "=", 10)
	askRead(t, "Max-Age=1; Max-Age=2; Path=/; Secure; HttpOnly; SameSite=Strict", "Max-Age", "1", 2)
	askRead(t, "A=B; Max-Age=1; Path=/; Secure; HttpOnly; SameSite=Strict", "A", "B", 1)
}

func TestReadOfNothing(t *testing.T) {
	for _, s := range []string{
		"", " ", "=", ";", "; ", "a", "a=", "a=1", "a=1; ", "a=1; Max-Age=7", "a=1; Max-Age=7; ", "; Max-Age=7", "Max-Age=7", "; Max-Age=7" + tail, "Max-Age=7" + tail, tail, tail[2:], "7" + tail, "a=1" + tail, "a=1; Max-Age=7; Max-Age=7", "; Max-Age=", "; Max-Age=" + tail, "\x00", "\xff",
	} {
		readsNothing(t, s)
	}
}

// readOf is what Read has to say, by other means: from the end to the beginning.
func readOf(s string) (api.Pair, int, bool) {
	s, cut := strings.CutSuffix(s, tail)
	at := strings.LastIndexByte(s, ';')
	if !cut || at < 0 {
		return api.Pair{}, 0, false
	}
	digits, cut := strings.CutPrefix(s[at:], "; Max-Age=")
	age, err := strconv.ParseUint(digits, 10, 62)
	if !cut || err != nil || age > mostAge || strconv.FormatUint(age, 10) != digits {
		return api.Pair{}, 0, false
	}
	n := 0
	for n < at && inName(s[n]) {
		n++
	}
	if n == 0 || n == at || s[n] != '=' || !isValue(s[n+1:at]) {
		return api.Pair{}, 0, false
	}
	return api.Pair{Name: s[:n], Value: s[n+1 : at]}, int(age), true
}

// readAsModel holds Read against the model, and what it read against what Set makes of that; it says whether there was something.
func readAsModel(t *testing.T, s string) bool {
	t.Helper()
	want, wantAge, is := readOf(s)
	for range 2 { // a text has one answer
		if got, age, ok := cookie.Read(s); got != want || age != wantAge || ok != is {
			t.Fatalf("Read of %q: %q, %d, %v, want %q, %d, %v", s, got, age, ok, want, wantAge, is)
		}
	}
	if again, e := cookie.Set(want, wantAge); is && (again != s || e != api.OK) {
		t.Fatalf("Set of what was read of %q: %q, %v", s, again, e)
	}
	return is
}

func someThatAreSet() []string {
	return []string{set("a", "1", "7"), set(id, "5", "0"), set("ab", "", "10"), set("a", "=b", "999999999"), set("a", "1", "100000000")}
}

func TestReadOfAByteMore(t *testing.T) {
	for _, s := range someThatAreSet() {
		fixed := strings.Index(s, ";")
		digits := strings.Index(s, "Max-Age=") + len("Max-Age=")
		for at := range len(s) + 1 {
			for _, c := range every() {
				more := s[:at] + one(c) + s[at:]
				// A byte more may be one of the name's, of the value's, or of the age's.
				if is := readAsModel(t, more); is && at > fixed && !(at >= digits && at <= len(s)-len(tail)) {
					t.Errorf("Read of %q is true", more)
				}
			}
		}
		for _, more := range []string{" ", ";", "; ", "\n", "\r\n", "; Secure", "; Domain=a", "; a=1", s, "; " + s} {
			readsNothing(t, s+more)
		}
		for _, more := range []string{" ", ";", "; ", "=", "\t", "; Secure; ", s, s + "; ", "a=1; ", "Set-Cookie: "} {
			readsNothing(t, more+s)
		}
	}
}

func TestReadOfAByteFewer(t *testing.T) {
	for _, s := range someThatAreSet() {
		for at := range len(s) {
			readAsModel(t, s[:at]+s[at+1:])
			readsNothing(t, s[:at])
			if at >= len(s)-len(tail) {
				readsNothing(t, s[:at]+s[at+1:])
			}
		}
	}
	readsNothing(t, set("", "1", "7"))
	readsNothing(t, "a1; Max-Age=7"+tail)
	readsNothing(t, "a=1 Max-Age=7"+tail)
	readsNothing(t, "a=1;Max-Age=7"+tail)
	readsNothing(t, "a=1; MaxAge=7"+tail)
	readsNothing(t, "a=1; Max-Age7"+tail)
	askRead(t, set("a", "", "7"), "a", "", 7) // a value may have none
}

func TestReadOfAnotherByte(t *testing.T) {
	for _, s := range someThatAreSet() {
		fixed := strings.Index(s, ";")
		digits := strings.Index(s, "Max-Age=") + len("Max-Age=")
		for at := range len(s) {
			for _, c := range every() {
				other := s[:at] + one(c) + s[at+1:]
				if c == s[at] {
					continue
				}
				readAsModel(t, other)
				if at >= fixed && at < digits || at >= len(s)-len(tail) {
					readsNothing(t, other)
				}
			}
		}
	}
}

func TestReadOfAnAge(t *testing.T) {
	for _, age := range ages() {
		askRead(t, set("a", "1", strconv.Itoa(age)), "a", "1", age)
	}
	for _, age := range []string{
		"", " ", "00", "01", "07", "007", "000000000", "000000007", "0000000000", "0999999999", "0000000007", // a nought ahead
		"+7", "-7", "+0", "-0", "-1", "+", "-", " 7", "7 ", "7\t", "\t7", "7;", // a sign
		"1000000000", "1234567890", "9999999999", "4294967303", "18446744073709551623", strings.Repeat("9", 1000), // ten digits, and more
		"a", "7a", "a7", "0x7", "7.0", "7e0", "1_0", "1,0", "1 0", "VII", "\uff17", "\u0667", "7\x00", "\x007", "\xff", "\"7\"", "7=", "=7",
	} {
		readsNothing(t, set("a", "1", age))
		readsNothing(t, set(id, "", age))
	}
}

func TestReadOfANameOrAValueThatIsNone(t *testing.T) {
	for _, c := range every() {
		for _, s := range []string{one(c), one(c) + "b", "b" + one(c)} {
			readAsModel(t, set(s, "1", "7"))
			if inValue(c) {
				askRead(t, set("a", s, "7"), "a", s, 7)
			} else {
				readsNothing(t, set("a", s, "7"))
			}
		}
	}
	for _, value := range []string{"\"1\"", "\"\"", "\"", "1\"", " 1", "1 ", "1 2", "1;", "1; b=2", "1; Max-Age=7", "1; Max-Age=8", "1; Path=/", "1; Secure", "\u00e9", "1" + tail} {
		readsNothing(t, set("a", value, "7"))
	}
	for _, name := range []string{"", " ", "a b", " a", "a ", "\"a\"", "a; b", "a;b", "a, b", "\u00e9", "b=1; a", "Max-Age=7; a"} {
		readsNothing(t, set(name, "1", "7"))
	}
}

// The parts stand in this order, each once, and as they are written here.
func TestReadOfOtherParts(t *testing.T) {
	parts := []string{"a=1", "Max-Age=7", "Path=/", "Secure", "HttpOnly", "SameSite=Strict"}
	askRead(t, strings.Join(parts, "; "), "a", "1", 7)
	for i := range parts {
		without := append(append([]string{}, parts[:i]...), parts[i+1:]...)
		readsNothing(t, strings.Join(without, "; "))
		for j := range parts {
			swapped := append([]string{}, parts...)
			swapped[i], swapped[j] = swapped[j], swapped[i]
			if i != j {
				readsNothing(t, strings.Join(swapped, "; "))
			}
			twice := append(append(append([]string{}, parts[:j]...), parts[i]), parts[j:]...)
			readsNothing(t, strings.Join(twice, "; "))
		}
		other := append([]string{}, parts...)
		for _, change := range []func(string) string{strings.ToLower, strings.ToUpper, strings.ToTitle} {
			other[i] = change(parts[i])
			if s := strings.Join(other, "; "); i > 0 && other[i] != parts[i] {
				readsNothing(t, s)
			}
		}
	}
	for _, between := range []string{";", " ", "", ";  ", " ; ", ";\t", ", ", ";; ", "; ; ", ";\r\n "} {
		readsNothing(t, strings.Join(parts, between))
	}
	askRead(t, set("A", "B", "7"), "A", "B", 7) // a name's letters, and a value's, are its own
	for _, s := range []string{
		strings.ToLower(set("a", "1", "7")), strings.ToUpper(set("a", "1", "7")),
		"a=1; Max-Age=7; Path=/a; Secure; HttpOnly; SameSite=Strict", "a=1; Max-Age=7; Path=; Secure; HttpOnly; SameSite=Strict", "a=1; Max-Age=7; Path=/; Secure; HttpOnly; SameSite=Lax", "a=1; Max-Age=7; Path=/; Secure; HttpOnly; SameSite=None", "a=1; Max-Age=7; Path=/; Secure; HttpOnly", "a=1; Expires=7; Path=/; Secure; HttpOnly; SameSite=Strict", "a=1; Max-Age=7; Path=/; Domain=a; Secure; HttpOnly; SameSite=Strict", "a=1; Max-Age = 7; Path=/; Secure; HttpOnly; SameSite=Strict",
	} {
		readsNothing(t, s)
	}
}

func TestReadAsTheModel(t *testing.T) {
	words := []string{"a", "=", "1", "9", "0", "; Max-Age=", "; Max-Age=7", tail, "; ", "Path=/", id, "\"", " ", "-"}
	draw := rand.New(rand.NewSource(37))
	had := map[bool]int{}
	for range 100000 {
		var b strings.Builder
		word := func() { b.WriteString(words[draw.Intn(len(words))]) }
		some := func(most int, of string) {
			for range draw.Intn(most) {
				b.WriteByte(of[draw.Intn(len(of))])
			}
			if draw.Intn(20) == 0 {
				word()
			}
		}
		some(4, "aB9-")
		b.WriteString("=")
		some(4, "aB9=/")
		b.WriteString("; Max-Age=")
		some(11, "0123456789")
		b.WriteString(tail)
		if draw.Intn(20) == 0 {
			word()
		}
		had[readAsModel(t, b.String())]++
	}
	if had[true] < 5000 || had[false] < 5000 {
		t.Errorf("%d of the texts are set, %d not: these texts test nothing", had[true], had[false])
	}
}
