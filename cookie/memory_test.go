package cookie_test

import (
	"slices"
	"strings"
	"testing"
	"unsafe"

	"wicketman/api"
	"wicketman/cookie"
)

// over is a text in memory that can be spoilt, and that memory.
func over(s string) (string, []byte) {
	b := []byte(s)
	return unsafe.String(unsafe.SliceData(b), len(b)), b
}

func spoil(b []byte) {
	for i := range b {
		b[i] ^= 0x15
	}
}

// shares says whether two texts have a byte of memory in common.
func shares(one, two string) bool {
	if one == "" || two == "" {
		return false
	}
	a := uintptr(unsafe.Pointer(unsafe.StringData(one)))
	b := uintptr(unsafe.Pointer(unsafe.StringData(two)))
	return a < b+uintptr(len(two)) && b < a+uintptr(len(one))
}

// apart holds texts that came out against each other, and against those that went in.
func apart(t *testing.T, call string, texts ...string) {
	t.Helper()
	for i, text := range texts {
		for _, other := range texts[:i] {
			if shares(text, other) {
				t.Errorf("%s: %q and %q share their memory", call, text, other)
			}
		}
	}
}

// wordsOf are a list's names and values.
func wordsOf(l []api.Pair) []string {
	var words []string
	for _, p := range l {
		words = append(words, p.Name, p.Value)
	}
	return words
}

func TestWhatParseTellsIsNew(t *testing.T) {
	many, _ := some(50)
	for _, s := range []string{"a=1", "name=value", "name=\"value\"; __Host-id=5", "a=; b=\"\"", many} {
		want, _ := model(s)
		value, memory := over(s)
		l, _ := cookie.Parse(value)
		again, _ := cookie.Parse(value)
		if string(memory) != s {
			t.Errorf("Parse of %q changed it: %q", s, memory)
		}
		apart(t, "Parse", slices.Concat([]string{value}, wordsOf(l), wordsOf(again))...)
		spoil(memory)
		for i := range l[:cap(l)] {
			l[:cap(l)][i] = api.Pair{Name: "spoilt", Value: "spoilt"}
		}
		if !slices.Equal(again, want) {
			t.Errorf("two lists of Parse share their memory, or that of %q: %q", s, again)
		}
		askParse(t, s, wordsOf(want)...) // nothing of before is kept
	}
}

func TestWhatSessionTellsIsNew(t *testing.T) {
	for _, s := range []string{id + "=5", id + "=\"value\"", "a=1; " + id + "=" + of(64) + "; b=2"} {
		want, _ := sessionOf([]string{s})
		value, memory := over(s)
		values := []string{"a=1", value, "b=2"}
		was := slices.Clone(values)
		got, _ := cookie.Session(values)
		again, _ := cookie.Session(values)
		if string(memory) != s || !slices.Equal(values, was) {
			t.Errorf("Session of %q changed it: %q, %q", s, memory, values)
		}
		apart(t, "Session", value, got, again)
		spoil(memory)
		values[0], values[2] = "spoilt", "spoilt"
		if got != want || again != want {
			t.Errorf("Session of %q kept it: %q, %q", s, got, again)
		}
	}
}

// What lies behind a list's length, or ahead of its beginning, is not looked at, nor changed.
func TestSessionOfAPieceOfAList(t *testing.T) {
	whole := []string{id + "=1", "a=1", id + "=2", "", id + "=3", "wrong"}
	was := slices.Clone(whole)
	for from := range len(whole) {
		for to := from; to <= len(whole); to++ {
			if want, is := sessionOf(whole[from:to]); is {
				askSession(t, want, whole[from:to]...)
			} else {
				hasNoSession(t, whole[from:to]...)
			}
		}
	}
	if !slices.Equal(whole, was) {
		t.Errorf("a list that was handed in was changed: %q", whole)
	}
}

func TestWhatIsSetIsNew(t *testing.T) {
	for _, c := range pairs("name", "value", "a", "", "a", "1", of(1000), of(1000)) {
		name, nameMemory := over(c.Name)
		value, valueMemory := over(c.Value)
		handed := api.Pair{Name: name, Value: value}
		got, _ := cookie.Set(handed, 7)
		again, _ := cookie.Set(handed, 7)
		if string(nameMemory) != c.Name || string(valueMemory) != c.Value {
			t.Errorf("Set changed what was handed in: %q", handed)
		}
		apart(t, "Set", name, value, got, again)
		spoil(nameMemory)
		spoil(valueMemory)
		if want := set(c.Name, c.Value, "7"); got != want || again != want {
			t.Errorf("Set of %q kept it: %q, %q", c, got, again)
		}
	}
}

func TestWhatIsReadIsNew(t *testing.T) {
	for _, c := range pairs("name", "value", "a", "", "a", "1", of(1000), of(1000)) {
		s, memory := over(set(c.Name, c.Value, "7"))
		kept := strings.Clone(s)
		got, _, _ := cookie.Read(s)
		again, _, _ := cookie.Read(s)
		if string(memory) != kept {
			t.Errorf("Read of %q changed it: %q", kept, memory)
		}
		apart(t, "Read", s, got.Name, got.Value, again.Name, again.Value)
		spoil(memory)
		if got != c || again != c {
			t.Errorf("Read of %q kept it: %q, %q", kept, got, again)
		}
	}
}

// A text in the memory of another one is asked anew: no call knows of one ahead of it.
func TestNothingIsKept(t *testing.T) {
	value, memory := over("__Host-id=5; a=1")
	for _, other := range []string{"__Host-id=5; a=1", "__Host-id=6; a=1", "__host-id=5; a=1", "__Host-id=5;a=12", "__Host-id=\"\"; a=", "aa=\"aaaa\"; aa=aa", "__Host-id=5; a=1"} {
		copy(memory, other)
		asModel(t, value)
		if want, is := sessionOf([]string{other}); is {
			askSession(t, want, value)
		} else {
			hasNoSession(t, value)
		}
		if string(memory) != other {
			t.Fatalf("%q was changed: %q", other, memory)
		}
	}
	name, nameMemory := over("__Host-id")
	for _, other := range []string{"__Host-id", "__HOST-ID", "__Secure-", "__Host_id", "__Host-id"} {
		copy(nameMemory, other)
		if got, want := cookie.Prefix(name, false, "/", false), other == "__Host_id"; got != want {
			t.Errorf("Prefix of %q: %v", other, got)
		}
		if string(nameMemory) != other {
			t.Fatalf("%q was changed: %q", other, nameMemory)
		}
	}
}

// A text that is a piece of another one ends where it ends, and begins where it begins.
func TestAPieceOfAText(t *testing.T) {
	whole := "x; " + set("__Host-a", "\"1\"", "70") + "; b=2; Max-Age=8" + tail + "=; "
	kept := strings.Clone(whole)
	read := 0
	for from := range len(whole) {
		for to := from; to <= len(whole); to++ {
			asModel(t, whole[from:to])
			if readAsModel(t, whole[from:to]) {
				read++
			}
		}
	}
	if whole != kept {
		t.Errorf("what was handed in was changed: %q", whole)
	}
	if read != 1 {
		t.Errorf("%d pieces were read, want the one whose value has no quotes", read)
	}
}
