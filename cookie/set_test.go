package cookie_test

import (
	"math"
	"strconv"
	"testing"

	"wicketman/api"
	"wicketman/cookie"
)

// set is what Set of these has to say, with the age as it is written there.
func set(name, value, age string) string { return name + "=" + value + "; Max-Age=" + age + tail }

func ages() []int {
	l := []int{0, 1, 7, 9, 10, 42, 99, 100, 3600, 86400, 31536000, 99999999, 100000000, 123456789, mostAge - 1, mostAge}
	for n := 1; n < mostAge; n = n*3 + 1 {
		l = append(l, n)
	}
	return l
}

func TestSet(t *testing.T) {
	askSet(t, "a", "1", 7, "a=1; Max-Age=7; Path=/; Secure; HttpOnly; SameSite=Strict")
	askSet(t, id, of(64), 3600, "__Host-id="+of(64)+"; Max-Age=3600; Path=/; Secure; HttpOnly; SameSite=Strict")
	askSet(t, id, "", 0, "__Host-id=; Max-Age=0; Path=/; Secure; HttpOnly; SameSite=Strict") // takes it away
	askSet(t, "a", "", 999999999, "a=; Max-Age=999999999; Path=/; Secure; HttpOnly; SameSite=Strict")
	askSet(t, "a", "b=c", 1, set("a", "b=c", "1"))
	askSet(t, "a", "=", 1, set("a", "=", "1"))
	askSet(t, "A", "Max-Age=5", 1, set("A", "Max-Age=5", "1"))
	askSet(t, "Max-Age", "5", 1, "Max-Age=5; Max-Age=1; Path=/; Secure; HttpOnly; SameSite=Strict")
	askSet(t, "Path", "/", 1, set("Path", "/", "1"))
	askSet(t, "__Secure-a", "1", 1, set("__Secure-a", "1", "1")) // any name may be
	askSet(t, "__HOST-A", "1", 1, set("__HOST-A", "1", "1"))
	askSet(t, of(100000), of(100000), 1, set(of(100000), of(100000), "1"))
}

func TestSetOfANameThatIsNone(t *testing.T) {
	for _, name := range []string{"", " ", "a b", " a", "a ", "a\t", "a=", "=a", "a=b", "a;", "a; b", "a,b", "a:b", "a/b", "\"a\"", "a\\b", "(a)", "[a]", "{a}", "<a>", "a@b", "a?", "a\x00", "a\r\n", "\x7f", "\x80", "\xff", "\u00e9", "\ufffd", "\u017f"} {
		setsNothing(t, name, "1", 7)
		setsNothing(t, name, "", 0)
		setsNothing(t, of(1000)+name+" ", "1", 7)
	}
	for _, c := range every() {
		for _, name := range []string{one(c), one(c) + "b", "b" + one(c), "b" + one(c) + "d"} {
			if inName(c) {
				askSet(t, name, "1", 7, set(name, "1", "7"))
				continue
			}
			setsNothing(t, name, "1", 7)
		}
	}
}

func TestSetOfEachByteOfAValue(t *testing.T) {
	for _, c := range every() {
		for _, value := range []string{one(c), one(c) + "b", "b" + one(c), "b" + one(c) + "d", one(c) + one(c)} {
			if inValue(c) {
				askSet(t, "a", value, 7, set("a", value, "7"))
				continue
			}
			setsNothing(t, "a", value, 7)
		}
	}
}

func TestSetOfAValueThatIsNone(t *testing.T) {
	for _, value := range []string{"\"\"", "\"1\"", "\"", "\"1", "1\"", "\"\"\"", "1\"2", " ", "1 ", " 1", "1 2", "1;", ";", "; ", "1; Path=/", "1; Secure", "1,2", "\\", "\t", "1\r\nSet-Cookie: b=2", "\n", "\x00", "\x7f", "\xff", "\u00e9", "\ufffd", of(100000) + " "} {
		setsNothing(t, "a", value, 7)
		setsNothing(t, id, value, 0)
	}
}

func TestSetOfAnAge(t *testing.T) {
	for _, age := range ages() {
		askSet(t, "a", "1", age, "a=1; Max-Age="+strconv.FormatInt(int64(age), 10)+"; Path=/; Secure; HttpOnly; SameSite=Strict")
	}
	for _, age := range []int{-1, -2, -7, -10, -mostAge, -mostAge - 1, mostAge + 1, mostAge + 2, 1234567890, math.MaxInt32, math.MinInt32, math.MaxInt, math.MaxInt - 1, math.MinInt, math.MinInt + 1} {
		setsNothing(t, "a", "1", age)
		setsNothing(t, id, "", age)
	}
}

// More than one of these at once is no other error.
func TestSetOfMoreThanOneThatIsWrong(t *testing.T) {
	for _, name := range []string{"a", "", "a b", "\xff"} {
		for _, value := range []string{"1", "\"1\"", "1 2", "\x00"} {
			for _, age := range []int{7, -1, mostAge + 1, math.MinInt, math.MaxInt} {
				if isName(name) && isValue(value) && age == 7 {
					askSet(t, name, value, age, set(name, value, "7"))
					continue
				}
				setsNothing(t, name, value, age)
			}
		}
	}
}

// backFrom holds Read of what Set made against what it was made of, and so that which a browser sends back.
func backFrom(t *testing.T, name, value string, age int) {
	t.Helper()
	c := api.Pair{Name: name, Value: value}
	s, e := cookie.Set(c, age)
	if e != api.OK {
		t.Fatalf("Set of %q, %d: %v", c, age, e)
	}
	askRead(t, s, name, value, age)
	askParse(t, name+"="+value, name, value)
}

func TestThereAndBack(t *testing.T) {
	for _, c := range every() {
		if inName(c) {
			backFrom(t, one(c), "1", 7)
			backFrom(t, "a"+one(c), "", 7)
		}
		if inValue(c) {
			backFrom(t, "a", one(c), 7)
			backFrom(t, "a", "b"+one(c)+"d", 7)
		}
	}
	for _, age := range ages() {
		backFrom(t, "a", "1", age)
		backFrom(t, id, "", age)
	}
	for _, c := range pairs("a", "", "a", "=", "a", "==", "a", "b=c", "Max-Age", "7", "Max-Age", "Max-Age=7", "Path", "/", "Secure", "", "a", "Path=/", "a", "SameSite=Strict", of(100000), of(100000)) {
		backFrom(t, c.Name, c.Value, 7)
	}
}
