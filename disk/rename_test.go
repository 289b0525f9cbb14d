package disk_test

import (
	"slices"
	"testing"
)

func TestRename(t *testing.T) {
	d := with(t, "x", "ab", "c")
	renames(t, d, "x", "y", true)
	holds(t, d, "y", "abc", "ab")
	renames(t, d, "x", "y", false)
	renames(t, d, "x", "z", false)
	holds(t, d, "y", "abc", "ab")
	appends(t, d, "x", "1", true) // another file of that name
	holds(t, d, "x", "1", "", "y", "abc", "ab")
	appends(t, d, "y", "d", true)
	holds(t, d, "x", "1", "", "y", "abcd", "ab")
	d.Crash(0)
	holds(t, d, "x", "", "", "y", "ab", "ab")
}

func TestRenameInPlaceOfAnother(t *testing.T) {
	for _, from := range [][]string{{"x", "", ""}, {"x", "ab", ""}, {"x", "", "c"}, {"x", "ab", "c"}} {
		for _, to := range [][]string{{"y", "", ""}, {"y", "1", ""}, {"y", "", "2345"}, {"y", "123", "45"}} {
			d := with(t, slices.Concat(from, to, []string{"z", "6", "7"})...)
			renames(t, d, "x", "y", true)
			holds(t, d, "y", from[1]+from[2], from[1], "z", "67", "6")
			d.Crash(0)
			holds(t, d, "y", from[1], from[1], "z", "6", "6")
		}
	}
}

func TestRenameToItsOwnName(t *testing.T) {
	for _, name := range []string{"x", "\xff", of(20)} {
		d := with(t, name, "ab", "c", "y", "1", "2")
		for range 3 {
			renames(t, d, name, name, true)
			holds(t, d, name, "abc", "ab", "y", "12", "1")
		}
		d.Fuse(1)
		renames(t, d, name, name, true)
		isDead(t, d, false)
		renames(t, d, name, name, false)
		isDead(t, d, true)
		holds(t, d, name, "abc", "ab", "y", "12", "1")
		d.Crash(0)
		holds(t, d, name, "ab", "ab", "y", "1", "1")
	}
}

func TestRenameToANameThatMayNotBe(t *testing.T) {
	for _, to := range wrongNames() {
		d := with(t, "x", "ab", "c")
		renames(t, d, "x", to, false)
		renames(t, d, "y", to, false)
		renames(t, d, to, to, false)
		holds(t, d, "x", "abc", "ab")
		isDead(t, d, false)
	}
}

// A file that is not there takes the place of none.
func TestRenameOfNone(t *testing.T) {
	d := with(t, "x", "ab", "c")
	renames(t, d, "y", "x", false)
	renames(t, d, "y", "y", false)
	renames(t, d, "", "x", false)
	holds(t, d, "x", "abc", "ab")
}

// What lasts goes with the file, and not with its name.
func TestWhatLastsBehindARename(t *testing.T) {
	d := with(t, "x", "ab", "c", "y", "12345", "")
	renames(t, d, "x", "y", true)
	holds(t, d, "y", "abc", "ab")
	syncs(t, d, "y", true)
	holds(t, d, "y", "abc", "abc")
	appends(t, d, "x", "de", true)
	holds(t, d, "x", "de", "", "y", "abc", "abc")
	renames(t, d, "x", "y", true)
	holds(t, d, "y", "de", "")
	renames(t, d, "y", "z", true)
	holds(t, d, "z", "de", "")
	d.Crash(1)
	holds(t, d, "z", "d", "d")
}

// Names go round: each file stays itself.
func TestRenamesInACircle(t *testing.T) {
	d := with(t, "x", "ab", "c", "y", "1", "2", "z", "", "!")
	renames(t, d, "x", "w", true)
	renames(t, d, "y", "x", true)
	renames(t, d, "z", "y", true)
	renames(t, d, "w", "z", true)
	holds(t, d, "x", "12", "1", "y", "!", "", "z", "abc", "ab")
}

func TestDrop(t *testing.T) {
	d := with(t, "x", "ab", "c", "y", "1", "2")
	drops(t, d, "x", true)
	holds(t, d, "y", "12", "1")
	drops(t, d, "x", false)
	holds(t, d, "y", "12", "1")
	d.Crash(100) // what is not there comes not back
	holds(t, d, "y", "12", "12")
}

// A file that is made anew has nothing of that which was dropped: no bytes, and none that last.
func TestDropAndAppend(t *testing.T) {
	d := with(t, "x", "ab", "c")
	drops(t, d, "x", true)
	appends(t, d, "x", "", true)
	holds(t, d, "x", "", "")
	appends(t, d, "x", "1234", true)
	holds(t, d, "x", "1234", "")
	drops(t, d, "x", true)
	appends(t, d, "x", "567", true)
	holds(t, d, "x", "567", "")
	d.Crash(0)
	holds(t, d, "x", "", "")
}

func TestSync(t *testing.T) {
	d := with(t, "x", "", "ab", "y", "", "1")
	holds(t, d, "x", "ab", "", "y", "1", "")
	syncs(t, d, "x", true)
	holds(t, d, "x", "ab", "ab", "y", "1", "") // that file alone
	syncs(t, d, "x", true)
	holds(t, d, "x", "ab", "ab", "y", "1", "")
	appends(t, d, "x", "c", true)
	holds(t, d, "x", "abc", "ab", "y", "1", "")
	appends(t, d, "z", "", true)
	syncs(t, d, "z", true)
	holds(t, d, "x", "abc", "ab", "y", "1", "", "z", "", "")
}
