package head_test

import (
	"slices"
	"strings"
	"testing"
	"unsafe"

	"wicketman/api"
	"wicketman/head"
)

// over is a text in memory that can be spoilt, and that memory.
func over(s string) (string, []byte) {
	b := []byte(s)
	return unsafe.String(unsafe.SliceData(b), len(b)), b
}

func spoil(b []byte) {
	for i := range b {
		b[i] ^= 0x15
	}
}

// shares says whether two texts have a byte of memory in common.
func shares(one, two string) bool {
	if one == "" || two == "" {
		return false
	}
	a := uintptr(unsafe.Pointer(unsafe.StringData(one)))
	b := uintptr(unsafe.Pointer(unsafe.StringData(two)))
	return a < b+uintptr(len(two)) && b < a+uintptr(len(one))
}

// apart holds texts that came out against each other, and against those that went in.
func apart(t *testing.T, call string, texts ...string) {
	t.Helper()
	for i, text := range texts {
		for _, other := range texts[:i] {
			if shares(text, other) {
				t.Errorf("%s: %q and %q share their memory", call, text, other)
			}
		}
	}
}

func TestWhatFieldTellsIsNew(t *testing.T) {
	for _, c := range []struct{ line, name, value string }{
		{"Host: value", "Host", "value"},
		{"Host:value", "Host", "value"},
		{"name:", "name", ""},
		{"a: b", "a", "b"},
		{"a:" + of(mostBytes-2), "a", of(mostBytes - 2)},
	} {
		line, memory := over(c.line)
		p, _ := head.Field(line)
		q, _ := head.Field(line)
		if string(memory) != c.line {
			t.Errorf("Field of %q changed it: %q", c.line, memory)
		}
		apart(t, "Field", line, p.Name, p.Value, q.Name, q.Value)
		spoil(memory)
		want := api.Pair{Name: c.name, Value: c.value}
		if p != want || q != want {
			t.Errorf("Field of %q kept it: %q, %q", c.line, p, q)
		}
	}
}

func TestWhatIsPrintedIsNew(t *testing.T) {
	for _, c := range []struct{ name, value, want string }{
		{"Host", "value", "Host: value"},
		{"a", "", "a: "},
		{"a", of(mostBytes - 3), "a: " + of(mostBytes-3)},
	} {
		name, nameMemory := over(c.name)
		value, valueMemory := over(c.value)
		p := api.Pair{Name: name, Value: value}
		line, _ := head.Print(p)
		again, _ := head.Print(p)
		if string(nameMemory) != c.name || string(valueMemory) != c.value {
			t.Errorf("Print changed what was handed in: %q", p)
		}
		apart(t, "Print", name, value, line, again)
		spoil(nameMemory)
		spoil(valueMemory)
		if line != c.want || again != c.want {
			t.Errorf("Print of %q, %q kept them: %q, %q", c.name, c.value, line, again)
		}
	}
}

func TestWhatAllTellsIsNew(t *testing.T) {
	value, memory := over("value")
	l := pairs("a", value, "A", value, "b", "other")
	was := slices.Clone(l)
	name, nameMemory := over("a")
	got, again := head.All(l, name), head.All(l, name)
	if !slices.Equal(l, was) || string(memory) != "value" || string(nameMemory) != "a" {
		t.Errorf("All changed what was handed in: %q", l)
	}
	apart(t, "All", append(slices.Concat(got, again), value)...)
	spoil(memory)
	spoil(nameMemory)
	for i := range got[:cap(got)] {
		got[:cap(got)][i] = "spoilt"
	}
	if !slices.Equal(again, []string{"value", "value"}) {
		t.Errorf("two lists of All share their memory, or that of the fields: %q", again)
	}
	copy(memory, "later")
	askAll(t, l, "A", "later", "later") // nothing of before is kept
}

// What lies behind a list's length is not looked at, nor changed.
func TestAllOfAPieceOfAList(t *testing.T) {
	whole := pairs("a", "1", "b", "2", "a", "3", "A", "4", "a", "5")
	was := slices.Clone(whole)
	want := []string{"3", "4", "5"}
	for n := range 5 {
		askAll(t, whole[1:1+n], "a", want[:max(n-1, 0)]...)
		askAll(t, whole[1:1+n], "b", []string{"2"}[:min(n, 1)]...)
	}
	if !slices.Equal(whole, was) {
		t.Errorf("a list that was handed in was changed: %q", whole)
	}
}

// Token, Value and Same change and keep nothing: a text in the memory of another one is asked anew.
func TestNothingIsKept(t *testing.T) {
	s, memory := over("abcd")
	for _, other := range []string{"abcd", "ABCD", "a cd", " abc", "abc\t", "a\x00cd", "\xff\xfe\xfd\xfc", "A:bc", "abcd"} {
		copy(memory, other)
		askToken(t, s, isToken(other))
		askValue(t, s, isValue(other))
		askSame(t, s, "aBcD", areSame(other, "aBcD"))
		if string(memory) != other {
			t.Fatalf("%q was changed: %q", other, memory)
		}
	}
}

// A text that is a piece of another one ends where it ends, and begins where it begins.
func TestAPieceOfAText(t *testing.T) {
	whole := "Ho: \u20ac\tb:\xff\x7fZ :\x80 "
	kept := strings.Clone(whole)
	for from := range len(whole) {
		for to := from; to <= len(whole); to++ {
			s := whole[from:to]
			askToken(t, s, isToken(s))
			askValue(t, s, isValue(s))
			askSame(t, s, strings.Clone(s), true)
			if want, e := model(s); e == api.OK {
				askField(t, s, want.Name, want.Value)
			} else {
				refuses(t, s, e)
			}
		}
	}
	if whole != kept {
		t.Errorf("what was handed in was changed: %q", whole)
	}
}
