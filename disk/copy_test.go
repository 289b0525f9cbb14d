package disk_test

import (
	"slices"
	"testing"

	"wicketman/disk"
)

func TestCopy(t *testing.T) {
	for _, words := range [][]string{nil, {"x", "", ""}, {"x", "ab", "c"}, {"x", "ab", "c", "y", "", "12", "z", "!", ""}} {
		d := with(t, words...)
		want := kept(d)
		other := d.Copy()
		holds(t, other, want...)
		isDead(t, other, false)
		holds(t, other.Copy().Copy(), want...)
		holds(t, d, want...)
		isDead(t, d, false)
	}
}

// changes is each call that changes a disk of twoFiles.
func changes() map[string]func(*disk.Disk) {
	return map[string]func(*disk.Disk){
		"Append":          func(d *disk.Disk) { d.Append("x", []byte("d")) },
		"Append anew":     func(d *disk.Disk) { d.Append("z", []byte("d")) },
		"Append of none":  func(d *disk.Disk) { d.Append("z", nil) },
		"Sync":            func(d *disk.Disk) { d.Sync("x") },
		"Rename":          func(d *disk.Disk) { d.Rename("x", "z") },
		"Rename in place": func(d *disk.Disk) { d.Rename("x", "y") },
		"Drop":            func(d *disk.Disk) { d.Drop("x") },
		"Crash":           func(d *disk.Disk) { d.Crash(0) },
		"a fuse":          func(d *disk.Disk) { d.Fuse(0) },
		"a death":         func(d *disk.Disk) { d.Fuse(0); d.Sync("x") },
		"all at once": func(d *disk.Disk) {
			d.Append("y", []byte("abc"))
			d.Rename("y", "w")
			d.Sync("w")
			d.Drop("x")
			d.Append("x", []byte("new"))
			d.Fuse(1)
			d.Append("x", []byte("newer"))
		},
	}
}

// goesOn holds a disk of twoFiles, to which nothing was done: neither dead nor with a fuse.
func goesOn(t *testing.T, d *disk.Disk) {
	t.Helper()
	holds(t, d, "x", "abc", "ab", "y", "12", "1")
	isDead(t, d, false)
	appends(t, d, "y", "3", true)
	syncs(t, d, "y", true)
	holds(t, d, "x", "abc", "ab", "y", "123", "123")
	d.Crash(0)
	holds(t, d, "x", "ab", "ab", "y", "123", "123")
}

// What is done to one of two disks is not done to the other, whichever was the first.
func TestACopyKnowsNothingOfTheOther(t *testing.T) {
	for name, change := range changes() {
		d := twoFiles(t)
		other := d.Copy()
		change(d)
		goesOn(t, other)

		d = twoFiles(t)
		other = d.Copy()
		change(other)
		goesOn(t, d)

		d = twoFiles(t)
		other = d.Copy()
		change(d)
		change(other)
		if !slices.Equal(kept(d), kept(other)) || d.Dead() != other.Dead() {
			t.Errorf("behind %s a copy is another one: %q, want %q", name, kept(other), kept(d))
		}
	}
}

// Two that grow by turns do not write into one another's memory.
func TestCopiesThatGrow(t *testing.T) {
	d := disk.New(1000)
	appends(t, d, "x", "a", true)
	for range 6 {
		appends(t, d, "x", "b", true)
		other := d.Copy()
		was := kept(d)
		appends(t, other, "x", "12345678", true)
		holds(t, d, was...)
		appends(t, d, "x", "cdefghij", true)
		holds(t, other, "x", was[1]+"12345678", "")
		holds(t, d, "x", was[1]+"cdefghij", "")
	}
}

// A fuse burns on in a copy, from what was left of it on.
func TestCopyOfADiskWithAFuse(t *testing.T) {
	for fuse := range 6 {
		for burnt := range fuse + 1 {
			d := twoFiles(t)
			d.Fuse(fuse)
			for range burnt {
				syncs(t, d, "x", true)
			}
			other := d.Copy()
			isDead(t, other, false)
			for range fuse - burnt {
				syncs(t, other, "y", true)
			}
			syncs(t, other, "y", false)
			isDead(t, other, true)
			isDead(t, d, false)
			for range fuse - burnt {
				syncs(t, d, "y", true)
			}
			syncs(t, d, "y", false)
			isDead(t, d, true)
		}
	}
}

func TestCopyOfADeadDisk(t *testing.T) {
	d := twoFiles(t)
	d.Fuse(1)
	appends(t, d, "x", "de", false)
	other := d.Copy()
	isDead(t, other, true)
	holds(t, other, "x", "abcd", "ab", "y", "12", "1")
	other.Fuse(5)
	syncs(t, other, "x", false)
	other.Crash(1)
	isDead(t, other, false)
	holds(t, other, "x", "abc", "abc", "y", "1", "1")
	isDead(t, d, true)
	holds(t, d, "x", "abcd", "ab", "y", "12", "1")
	third := d.Copy()
	d.Crash(100)
	isDead(t, third, true)
	holds(t, third, "x", "abcd", "ab", "y", "12", "1")
	isDead(t, other, false)
}

// A copy has the same room, and may have as many files.
func TestCopyHasTheSameRoom(t *testing.T) {
	for _, room := range []int{0, 1, 10, mostRoom} {
		d := disk.New(room).Copy()
		tells(t, d.Append("x", row(room+1)), false, "Append of more than the room")
		tells(t, d.Append("x", row(room)), true, "Append of the room")
		other := d.Copy()
		appends(t, other, "x", "a", false)
		drops(t, d, "x", true)
		appends(t, other, "x", "a", false)
		drops(t, other, "x", true)
		tells(t, other.Append("y", row(room)), true, "Append of the room")
	}
	d := disk.New(10)
	for i := range mostFiles {
		appends(t, d, one(byte('a'+i)), "", true)
	}
	other := d.Copy()
	appends(t, other, "i", "", false)
	drops(t, other, "a", true)
	appends(t, other, "i", "", true)
	appends(t, d, "i", "", false)
}
