package cookie_test

import (
	"math/rand"
	"testing"

	"wicketman/cookie"
)

func TestSession(t *testing.T) {
	askSession(t, "5", id+"=5")
	askSession(t, "5", id+"=\"5\"") // quotes are not told
	askSession(t, "5", id+"=5; a=1")
	askSession(t, "5", "a=1; "+id+"=5; b=2")
	askSession(t, "5", "a=1", id+"=5")
	askSession(t, "5", id+"=5", "a=1")
	askSession(t, "5", "a=1; b=2", "c=3; "+id+"=5; d=4", "e=5; f=6")
	askSession(t, "5", "", id+"=5", "")
	askSession(t, "id=5", id+"=id=5")
	askSession(t, "1", "a=1; a=1; a=2", id+"=1", "a=1") // others may be there as often as they like
	askSession(t, of(64), id+"="+of(64))
	askSession(t, of(100000), id+"="+of(100000)) // whether it is an ID is asked elsewhere
}

func TestSessionOfNone(t *testing.T) {
	askSession(t, "")
	if got, ok := cookie.Session(nil); got != "" || !ok {
		t.Errorf("Session of nil: %q, %v, want nothing, true", got, ok)
	}
	if got, ok := cookie.Session([]string{}); got != "" || !ok {
		t.Errorf("Session of no values: %q, %v, want nothing, true", got, ok)
	}
	askSession(t, "", "")
	askSession(t, "", "", "", "")
	askSession(t, "", "a=1")
	askSession(t, "", "a=1; b=2", "c=3")
	askSession(t, "", "a="+id, "b=\""+id+"\"", "c="+id+"=5") // a value is no name
}

// A value may have no byte: that is true too, and it counts as one.
func TestSessionOfAnEmptyValue(t *testing.T) {
	for _, empty := range []string{id + "=", id + "=\"\""} {
		askSession(t, "", empty)
		askSession(t, "", "a=1; "+empty, "b=2")
		for _, other := range []string{id + "=", id + "=\"\"", id + "=5"} {
			hasNoSession(t, empty, other)
			hasNoSession(t, other, empty)
			hasNoSession(t, empty+"; "+other)
			hasNoSession(t, other+"; "+empty)
		}
	}
}

func TestSessionThatComesTwice(t *testing.T) {
	for _, other := range []string{"5", "6", "\"5\"", "", "55", of(64)} {
		a, b := id+"=5", id+"="+other
		hasNoSession(t, a+"; "+b)
		hasNoSession(t, b+"; "+a)
		hasNoSession(t, a, b)
		hasNoSession(t, b, a)
		hasNoSession(t, "x=y; "+a+"; x=y; "+b+"; x=y")
		hasNoSession(t, a+"; x=y", "x=y", "", "x=y; "+b)
		hasNoSession(t, "x=y", a+"; "+b, "x=y")
		hasNoSession(t, a, b, a)
		hasNoSession(t, a+"; "+b+"; "+a)
		hasNoSession(t, a, "x=y", "x=y", b)
	}
	many := make([]string, 1000)
	for i := range many {
		many[i] = id + "=5"
	}
	hasNoSession(t, many...)
}

// The name is this one, byte by byte.
func TestSessionOfOtherNames(t *testing.T) {
	for _, name := range []string{
		"__host-id", "__HOST-ID", "__Host-ID", "__Host-Id", "__Host-iD", "__hOST-id", "__Host-i", "_Host-id", "__Host-idd", "___Host-id", "__Host-", "__Host", "Host-id", "id", "ID", "__Host_id", "__Hostid", "__Secure-id", "x__Host-id", "__Host-id.", "__Host-id_", "--Host-id",
	} {
		askSession(t, "", name+"=5")
		askSession(t, "", name+"=5; "+name+"=6", name+"=7")
		askSession(t, "4", name+"=5; "+id+"=4")
		askSession(t, "4", id+"=4", name+"=5")
		hasNoSession(t, id+"=4; "+name+"=5; "+id+"=4")
	}
	for at := range len(id) {
		for _, c := range every() {
			if name := id[:at] + one(c) + id[at+1:]; inName(c) && name != id {
				askSession(t, "", name+"=5")
			}
		}
	}
}

// A field that is wrong makes all of them wrong, wherever it stands, and whatever else is there.
func TestSessionOfAFieldThatIsWrong(t *testing.T) {
	for _, wrong := range []string{
		" ", ";", "; ", "a", "=", "=5", id, "=" + id, id + " =5", id + "= 5", id + "=5;", id + "=5; ", " " + id + "=5", id + "=5 ", id + "=5;a=1", id + "=5;  a=1", id + "=5,6", id + "=\"5", id + "=5\"", id + "=\"", id + "=\xff", id + "=\u00e9", id + "=5\r\n", id + "=5\x00", id + "=5\\", "a=1; b", "a b=1", id + "=5; b", "b; " + id + "=5",
	} {
		hasNoSession(t, wrong)
		hasNoSession(t, wrong, "")
		hasNoSession(t, "", wrong)
		hasNoSession(t, wrong, "a=1")
		hasNoSession(t, "a=1", wrong)
		hasNoSession(t, wrong, id+"=5")
		hasNoSession(t, id+"=5", wrong)
		hasNoSession(t, id+"=5", "a=1", "b=2", wrong)
		hasNoSession(t, wrong, "a=1", "b=2", id+"=5")
		hasNoSession(t, "a=1", wrong, id+"=5")
		hasNoSession(t, wrong, wrong)
		hasNoSession(t, id+"=5", id+"=5", wrong)
		hasNoSession(t, wrong, id+"=5", id+"=5")
	}
}

// sessionOf is what Session has to say, by other means: all cookies first, then how many are the session's.
func sessionOf(values []string) (string, bool) {
	var ids []string
	for _, value := range values {
		l, ok := model(value)
		if !ok {
			return "", false
		}
		for _, c := range l {
			if c.Name == id {
				ids = append(ids, c.Value)
			}
		}
	}
	switch len(ids) {
	case 0:
		return "", true
	case 1:
		return ids[0], true
	}
	return "", false
}

func TestSessionAsTheModel(t *testing.T) {
	fields := []string{"", "a=1", "a=1; b=2", "a=", "__host-id=4", "b=\"3\"", "__Host-i=2; __Host-idd=2"}
	rare := []string{id + "=5", id + "=\"6\"", "a=1; " + id + "=7", id + "=8; a=1", id + "=", id + "=5; " + id + "=5", id, "a=1;", ";", id + "=9;", "a b"}
	draw := rand.New(rand.NewSource(36))
	had := map[bool]int{}
	found := 0
	for range 50000 {
		var values []string
		for range draw.Intn(7) {
			if draw.Intn(5) == 0 {
				values = append(values, rare[draw.Intn(len(rare))])
				continue
			}
			values = append(values, fields[draw.Intn(len(fields))])
		}
		want, is := sessionOf(values)
		for range 2 {
			if got, ok := cookie.Session(values); got != want || ok != is {
				t.Fatalf("Session of %q: %q, %v, want %q, %v", values, got, ok, want, is)
			}
		}
		had[is]++
		if want != "" {
			found++
		}
	}
	if had[true] < 5000 || had[false] < 5000 || found < 5000 {
		t.Errorf("%d true, %d false, %d with a value: these fields test nothing", had[true], had[false], found)
	}
}
