package disk_test

import (
	"math"
	"slices"
	"strconv"
	"testing"

	"wicketman/disk"
)

func TestCrash(t *testing.T) {
	for keep, want := range map[int][]string{
		math.MinInt: {"ab", "1", ""}, math.MinInt32: {"ab", "1", ""}, -2: {"ab", "1", ""}, -1: {"ab", "1", ""}, 0: {"ab", "1", ""},
		1: {"abc", "1", ""}, 2: {"abcd", "1", ""}, 3: {"abcd", "12", ""}, 4: {"abcd", "123", ""}, 5: {"abcd", "1234", ""}, 6: {"abcd", "1234", "!"},
		7: {"abcd", "1234", "!?"}, 8: {"abcd", "1234", "!?"}, 1000: {"abcd", "1234", "!?"}, math.MaxInt32: {"abcd", "1234", "!?"}, math.MaxInt: {"abcd", "1234", "!?"},
	} {
		for range 20 { // whatever way a map is gone through
			d := with(t, "x", "ab", "cd", "y", "1", "234", "z", "", "!?")
			d.Crash(keep)
			holds(t, d, "x", want[0], want[0], "y", want[1], want[1], "z", want[2], want[2])
			isDead(t, d, false)
		}
	}
}

// Bytes are kept by rising names, however the files were made, and called ahead.
func TestCrashGoesByRisingNames(t *testing.T) {
	files := map[string][]string{"a": {"a", "", "12"}, "b": {"b", "x", "34"}, "c": {"c", "yz", "56"}}
	for _, order := range [][]string{{"a", "b", "c"}, {"a", "c", "b"}, {"b", "a", "c"}, {"b", "c", "a"}, {"c", "a", "b"}, {"c", "b", "a"}} {
		for keep := range 8 {
			d := with(t, slices.Concat(files[order[0]], files[order[1]], files[order[2]])...)
			d.Crash(keep)
			a, b, c := "12"[:min(keep, 2)], "x"+"34"[:min(max(keep-2, 0), 2)], "yz"+"56"[:min(max(keep-4, 0), 2)]
			holds(t, d, "a", a, a, "b", b, b, "c", c, c)
		}
	}
	d := with(t, "a", "", "12", "b", "", "34")
	renames(t, d, "a", "c", true)
	d.Crash(3)
	holds(t, d, "b", "34", "34", "c", "1", "1")
	d = with(t, "a", "", "1", "B", "", "2", "\xff", "", "3", "\x00", "", "4", "\u00e9", "", "5", "10", "", "6", "9", "", "7")
	d.Crash(5)
	holds(t, d, "\x00", "4", "4", "10", "6", "6", "9", "7", "7", "B", "2", "2", "a", "1", "1", "\u00e9", "", "", "\xff", "", "")
}

// What lasts is not counted: all of keep is for what stands behind it.
func TestCrashCountsWhatIsKeptAlone(t *testing.T) {
	d := with(t, "a", string(row(100)), "", "b", "12", "345")
	d.Crash(2)
	holds(t, d, "a", string(row(100)), string(row(100)), "b", "1234", "1234")
}

func TestCrashOfFilesOfWhichNothingIsThere(t *testing.T) {
	for _, keep := range []int{-1, 0, 1, 2, 100} {
		d := with(t, "a", "", "", "b", "", "1", "c", "", "")
		d.Crash(keep)
		b := "1"[:min(max(keep, 0), 1)]
		holds(t, d, "a", "", "", "b", b, b, "c", "", "")
		d.Crash(keep)
		holds(t, d, "a", "", "", "b", b, b, "c", "", "")
	}
	d := disk.New(100)
	d.Crash(5)
	holds(t, d)
}

// All that is kept lasts: another crash takes none of it.
func TestWhatIsKeptLasts(t *testing.T) {
	for keep := range 6 {
		for _, again := range []int{-1, 0, 1, 100} {
			d := with(t, "x", "ab", "cde")
			d.Crash(keep)
			d.Crash(again)
			want := "abcde"[:min(2+keep, 5)]
			holds(t, d, "x", want, want)
			appends(t, d, "x", "fg", true) // behind what was kept, and nothing of what was lost
			holds(t, d, "x", want+"fg", want)
			d.Crash(1)
			holds(t, d, "x", want+"f", want+"f")
			syncs(t, d, "x", true)
			holds(t, d, "x", want+"f", want+"f")
		}
	}
}

// Be it dead or not, with a fuse or without: behind a crash it is neither dead, nor has it one.
func TestCrashOfADiskThatWasNotDead(t *testing.T) {
	for _, fuse := range []int{-1, 0, 1, 5, math.MaxInt} {
		for _, dies := range []bool{false, true} {
			d := with(t, "x", "ab", "cd")
			d.Fuse(fuse)
			if dies {
				tells(t, d.Append("x", row(10)), fuse < 0 || fuse > 10, "Append with a fuse of "+strconv.Itoa(fuse))
			}
			d.Crash(1)
			isDead(t, d, false)
			holds(t, d, "x", "abc", "abc")
			tells(t, d.Append("x", row(900)), true, "Append behind a crash")
			for range 20 {
				syncs(t, d, "x", true)
			}
			isDead(t, d, false)
			holds(t, d, "x", "abc"+string(row(900)), "abc"+string(row(900)))
			d.Fuse(0) // and may be dead again
			syncs(t, d, "x", false)
			isDead(t, d, true)
		}
	}
}

// The room is what it was.
func TestCrashKeepsTheRoom(t *testing.T) {
	d := disk.New(5)
	appends(t, d, "x", "abcde", true)
	d.Crash(3)
	appends(t, d, "x", "fgh", false)
	appends(t, d, "x", "fg", true)
	holds(t, d, "x", "abcfg", "abc")
}
