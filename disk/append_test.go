package disk_test

import (
	"math"
	"strconv"
	"strings"
	"testing"

	"wicketman/disk"
)

func TestAppend(t *testing.T) {
	d := disk.New(1000)
	all := ""
	for _, b := range []string{"a", "", "bc", string(every()), "\x00", "\r\n", "\xff\xfe", ""} {
		appends(t, d, "x", b, true)
		all += b
		holds(t, d, "x", all, "")
	}
	appends(t, d, "y", "other", true)
	holds(t, d, "x", all, "", "y", "other", "")
	appends(t, d, "x", "more", true)
	holds(t, d, "x", all+"more", "", "y", "other", "")
}

// A name has 1 to 20 bytes, of any kind, and is just those bytes.
func TestNamesThatMayBe(t *testing.T) {
	names := []string{"a", "log", "a b", " ", ".", "..", "/", "a/b", "../x", "\\", "A", "\u00e9", strings.Repeat("\u00e9", 10), "\xff\xfe", strings.Repeat("\x00", 20), strings.Repeat("\xff", 20)}
	for n := 1; n <= mostName; n++ {
		names = append(names, of(n))
	}
	for _, c := range every() {
		names = append(names, one(c), one(c)+of(19), of(19)+one(c), one(c)+"a", "a"+one(c))
	}
	for _, name := range names {
		d := disk.New(100)
		appends(t, d, name, "ab", true)
		holds(t, d, name, "ab", "")
		syncs(t, d, name, true)
		holds(t, d, name, "ab", "ab")
		appends(t, d, name, "cd", true)
		holds(t, d, name, "abcd", "ab")
		drops(t, d, name, true)
		holds(t, d)
		appends(t, d, "other name", "ef", true)
		renames(t, d, "other name", name, true)
		holds(t, d, name, "ef", "")
		renames(t, d, name, "other name", true)
		holds(t, d, "other name", "ef", "")
	}
}

func TestNamesThatMayNotBe(t *testing.T) {
	for _, name := range wrongNames() {
		for _, b := range []string{"", "a", "abc"} {
			d := with(t, "x", "ab", "c")
			appends(t, d, name, b, false)
			holds(t, d, "x", "abc", "ab")
			isDead(t, d, false)
			appends(t, d, "x", "d", true)
			holds(t, d, "x", "abcd", "ab")
		}
	}
}

// Names that differ in one byte are two files'.
func TestNamesAreExact(t *testing.T) {
	for _, c := range []struct{ a, b string }{{"x", "X"}, {"x", "x "}, {"x", " x"}, {"x", "x\x00"}, {"x", "xx"}, {"\u00e9", "e\u0301"}, {"\xff", "\ufffd"}, {"\xff", "\xfe"}, {of(20), of(19)}, {of(19) + "a", of(19) + "b"}} {
		d := disk.New(100)
		appends(t, d, c.a, "1", true)
		appends(t, d, c.b, "2", true)
		holds(t, d, c.a, "1", "", c.b, "2", "")
		syncs(t, d, c.a, true)
		holds(t, d, c.a, "1", "1", c.b, "2", "")
		drops(t, d, c.b, true)
		holds(t, d, c.a, "1", "1")
	}
}

// Append of no bytes makes a file and is no step.
func TestAppendOfNoBytes(t *testing.T) {
	for _, b := range [][]byte{nil, {}, row(5)[:0], row(5)[5:]} {
		for _, fuse := range []int{-1, 0, 1, math.MaxInt} {
			d := with(t, "x", "ab", "c")
			d.Fuse(fuse)
			for range 3 {
				tells(t, d.Append("x", b), true, "Append of no bytes to one that is there")
			}
			holds(t, d, "x", "abc", "ab")
			for range 3 {
				tells(t, d.Append("y", b), true, "Append of no bytes to one that is not")
			}
			holds(t, d, "x", "abc", "ab", "y", "", "")
			isDead(t, d, false)
			syncs(t, d, "y", fuse != 0) // all steps are left
			isDead(t, d, fuse == 0)
			syncs(t, d, "y", fuse != 0 && fuse != 1)
		}
	}
}

func TestRoom(t *testing.T) {
	for _, room := range []int{0, 1, 2, 3, 10, 255, 256, 1000, 65536, mostRoom - 1, mostRoom} {
		for _, first := range []int{0, 1, room / 2, room - 1, room} {
			if first < 0 || first > room {
				continue
			}
			start, rest := string(row(first)), room-first
			d := disk.New(room)
			appends(t, d, "x", start, true)
			tells(t, d.Append("x", row(rest+1)), false, "Append of one byte more than the room "+strconv.Itoa(room))
			holds(t, d, "x", start, "")
			tells(t, d.Append("y", row(rest+1)), false, "Append of one byte more to a file that would be new")
			holds(t, d, "x", start, "") // it is not there
			tells(t, d.Append("y", row(rest)), true, "Append of what there is room for")
			holds(t, d, "x", start, "", "y", string(row(rest)), "")
			appends(t, d, "x", "a", false)
			appends(t, d, "y", "a", false)
			appends(t, d, "z", "a", false)
			holds(t, d, "x", start, "", "y", string(row(rest)), "")
			isDead(t, d, false)
		}
	}
}

// All files' bytes are in one room, whatever lasts of them; what is dropped, replaced or lost is room again.
func TestRoomThatIsFreeAgain(t *testing.T) {
	d := disk.New(10)
	appends(t, d, "x", "abcd", true)
	appends(t, d, "y", "efgh", true)
	syncs(t, d, "x", true)
	appends(t, d, "z", "123", false)
	appends(t, d, "z", "12", true)
	drops(t, d, "y", true)
	appends(t, d, "y", "12345", false)
	appends(t, d, "y", "1234", true)
	renames(t, d, "z", "x", true)
	holds(t, d, "x", "12", "", "y", "1234", "")
	appends(t, d, "w", "12345", false)
	appends(t, d, "w", "6789", true)
	d.Crash(5)
	holds(t, d, "w", "6789", "6789", "x", "1", "1", "y", "", "")
	appends(t, d, "y", "123456", false)
	appends(t, d, "y", "12345", true)
	appends(t, d, "y", "6", false)
	renames(t, d, "y", "v", true) // that is no room
	appends(t, d, "v", "6", false)
	syncs(t, d, "v", true) // nor that
	appends(t, d, "v", "6", false)
	holds(t, d, "v", "12345", "12345", "w", "6789", "6789", "x", "1", "1")
}

func TestTheGreatestLists(t *testing.T) {
	for _, n := range []int{mostRoom + 1, 1 << 21, 1<<24 + 1, 1<<31 - 1} {
		great := make([]byte, n)
		for _, d := range []*disk.Disk{disk.New(0), disk.New(1), disk.New(mostRoom), disk.New(math.MaxInt)} {
			tells(t, d.Append("x", great), false, "Append of "+strconv.Itoa(n)+" bytes")
			holds(t, d)
			appends(t, d, "x", "", true)
			tells(t, d.Append("x", great), false, "Append of "+strconv.Itoa(n)+" bytes")
			holds(t, d, "x", "", "")
			isDead(t, d, false)
		}
		d := with(t, "x", "ab", "c")
		d.Fuse(3) // what there is no room for is no step
		tells(t, d.Append("x", great), false, "Append of "+strconv.Itoa(n)+" bytes")
		tells(t, d.Append("y", great), false, "Append of "+strconv.Itoa(n)+" bytes")
		holds(t, d, "x", "abc", "ab")
		appends(t, d, "x", "def", true)
		isDead(t, d, false)
	}
}

func TestEightFiles(t *testing.T) {
	d := disk.New(100)
	var words []string
	for i := range mostFiles {
		name := "file " + strconv.Itoa(i)
		appends(t, d, name, strconv.Itoa(i), true)
		words = append(words, name, strconv.Itoa(i), "")
		holds(t, d, words...)
	}
	for _, b := range []string{"", "a"} {
		appends(t, d, "ninth", b, false)
		holds(t, d, words...)
	}
	isDead(t, d, false)
	for i := range mostFiles {
		appends(t, d, words[3*i], "more", true)
		words[3*i+1] += "more"
		holds(t, d, words...)
	}
	renames(t, d, "file 0", "a new name", true) // that is no ninth file
	words[0] = "a new name"
	holds(t, d, words...)
	appends(t, d, "file 0", "", false)
	renames(t, d, "file 7", "file 6", true)
	appends(t, d, "file 7", "again", true)
	words[6*3+1], words[7*3+1] = words[7*3+1], "again"
	holds(t, d, words...)
	drops(t, d, "file 3", true)
	appends(t, d, "ninth", "is the eighth", true)
	words[3*3], words[3*3+1] = "ninth", "is the eighth"
	holds(t, d, words...)
	appends(t, d, "file 3", "", false)
	d.Crash(0) // all of them are there still
	appends(t, d, "file 3", "", false)
	if n := len(d.Names()); n != mostFiles {
		t.Errorf("%d files behind a Crash, want 8", n)
	}
}

// More than one of these at once is false all the same, and changes nothing.
func TestMoreThanOneThatIsWrong(t *testing.T) {
	for _, name := range []string{"", "x", "ninth", of(21)} {
		for _, b := range []string{"", "a", of(100)} {
			for _, dead := range []bool{false, true} {
				d := disk.New(50)
				words := []string{"x", "ab", ""}
				appends(t, d, "x", "ab", true)
				for i := range mostFiles - 1 {
					appends(t, d, strconv.Itoa(i), "", true)
					words = append(words, strconv.Itoa(i), "", "")
				}
				if dead {
					d.Fuse(0)
					syncs(t, d, "x", false)
				}
				may := name == "x" && len(b) < 50 && !dead
				appends(t, d, name, b, may)
				if may {
					words[1] += b
				}
				holds(t, d, words...)
				isDead(t, d, dead)
			}
		}
	}
}
