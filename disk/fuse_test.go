package disk_test

import (
	"math"
	"slices"
	"strconv"
	"testing"

	"wicketman/disk"
)

// The last step that a fuse has is done, and the disk is not dead for that.
func TestAFuseOfAsManyStepsAsAreAskedFor(t *testing.T) {
	d := with(t, "x", "ab", "c", "y", "1", "")
	d.Fuse(7)
	appends(t, d, "x", "def", true)
	syncs(t, d, "x", true)
	renames(t, d, "y", "z", true)
	drops(t, d, "z", true)
	appends(t, d, "w", "4", true)
	holds(t, d, "x", "abcdef", "abcdef", "w", "4", "")
	isDead(t, d, false)
	appends(t, d, "x", "", true)
	isDead(t, d, false)
	appends(t, d, "x", "g", false)
	isDead(t, d, true)
	holds(t, d, "x", "abcdef", "abcdef", "w", "4", "")
}

func TestAFuseOfOneStepFewer(t *testing.T) {
	d := with(t, "x", "ab", "c", "y", "1", "")
	d.Fuse(5)
	appends(t, d, "x", "def", true)
	syncs(t, d, "x", true)
	renames(t, d, "y", "z", true)
	isDead(t, d, false)
	drops(t, d, "z", false)
	isDead(t, d, true)
	holds(t, d, "x", "abcdef", "abcdef", "z", "1", "1")
}

// stepsOf is each call that is one step, and what the files are if it was done.
func stepsOf(t *testing.T) map[string]struct {
	call func(*disk.Disk) bool
	want []string
} {
	t.Helper()
	return map[string]struct {
		call func(*disk.Disk) bool
		want []string
	}{
		"Append":            {func(d *disk.Disk) bool { return d.Append("x", []byte("d")) }, []string{"x", "abcd", "ab", "y", "12", "1"}},
		"Sync":              {func(d *disk.Disk) bool { return d.Sync("x") }, []string{"x", "abc", "abc", "y", "12", "1"}},
		"Rename":            {func(d *disk.Disk) bool { return d.Rename("x", "z") }, []string{"z", "abc", "ab", "y", "12", "1"}},
		"Rename in place":   {func(d *disk.Disk) bool { return d.Rename("x", "y") }, []string{"y", "abc", "ab"}},
		"Rename to its own": {func(d *disk.Disk) bool { return d.Rename("x", "x") }, []string{"x", "abc", "ab", "y", "12", "1"}},
		"Drop":              {func(d *disk.Disk) bool { return d.Drop("x") }, []string{"y", "12", "1"}},
	}
}

func twoFiles(t *testing.T) *disk.Disk {
	t.Helper()
	return with(t, "x", "ab", "c", "y", "1", "2")
}

// Each of these is just one step: done at the last one, and not behind it.
func TestEachStep(t *testing.T) {
	for name, step := range stepsOf(t) {
		for _, ahead := range []int{0, 1, 2, 10} {
			d := twoFiles(t)
			d.Fuse(ahead + 1)
			for range ahead { // steps that change nothing
				renames(t, d, "y", "y", true)
			}
			tells(t, step.call(d), true, name+" at the last step")
			holds(t, d, step.want...)
			isDead(t, d, false)
			renames(t, d, "y", "y", false)
			isDead(t, d, true)
			holds(t, d, step.want...)

			d = twoFiles(t)
			d.Fuse(ahead)
			for range ahead {
				renames(t, d, "y", "y", true)
			}
			isDead(t, d, false)
			for range 3 {
				tells(t, step.call(d), false, name+" behind the last step")
				isDead(t, d, true)
				holds(t, d, "x", "abc", "ab", "y", "12", "1")
			}
		}
	}
}

// noStepsOf is each call that is none.
func noStepsOf() map[string]struct {
	call func(*disk.Disk) bool
	want bool
} {
	return map[string]struct {
		call func(*disk.Disk) bool
		want bool
	}{
		"Append of no bytes":       {func(d *disk.Disk) bool { return d.Append("x", nil) }, true},
		"Append to no name":        {func(d *disk.Disk) bool { return d.Append("", []byte("a")) }, false},
		"Append to a long name":    {func(d *disk.Disk) bool { return d.Append(of(21), []byte("a")) }, false},
		"Append without room":      {func(d *disk.Disk) bool { return d.Append("x", row(996)) }, false},
		"Sync of none":             {func(d *disk.Disk) bool { return d.Sync("z") }, false},
		"Sync of no name":          {func(d *disk.Disk) bool { return d.Sync("") }, false},
		"Rename of none":           {func(d *disk.Disk) bool { return d.Rename("z", "x") }, false},
		"Rename of none to itself": {func(d *disk.Disk) bool { return d.Rename("z", "z") }, false},
		"Rename to no name":        {func(d *disk.Disk) bool { return d.Rename("x", "") }, false},
		"Rename to a long name":    {func(d *disk.Disk) bool { return d.Rename("x", of(21)) }, false},
		"Drop of none":             {func(d *disk.Disk) bool { return d.Drop("z") }, false},
		"Drop of no name":          {func(d *disk.Disk) bool { return d.Drop("") }, false},
		"Read":                     {func(d *disk.Disk) bool { _, is := d.Read("x"); return is }, true},
		"Names":                    {func(d *disk.Disk) bool { return len(d.Names()) == 2 }, true},
		"Used":                     {func(d *disk.Disk) bool { return d.Used() == 5 }, true},
		"Lasting":                  {func(d *disk.Disk) bool { return len(d.Lasting("x")) == 2 }, true},
		"Dead":                     {func(d *disk.Disk) bool { return !d.Dead() }, true},
		"Copy":                     {func(d *disk.Disk) bool { return d.Copy() != nil }, true},
	}
}

func TestWhatIsNoStep(t *testing.T) {
	for name, c := range noStepsOf() {
		for left := range 3 {
			d := twoFiles(t)
			d.Fuse(left)
			for range 3 {
				tells(t, c.call(d), c.want, name)
				isDead(t, d, false)
				holds(t, d, "x", "abc", "ab", "y", "12", "1")
			}
			for range left { // all of them are left
				syncs(t, d, "y", true)
			}
			syncs(t, d, "x", false)
			isDead(t, d, true)
		}
	}
}

// A ninth file is refused ahead of any step.
func TestANinthFileIsNoStep(t *testing.T) {
	d := disk.New(100)
	for i := range mostFiles {
		appends(t, d, strconv.Itoa(i), "", true)
	}
	d.Fuse(0)
	appends(t, d, "ninth", "a", false)
	isDead(t, d, false)
	appends(t, d, "7", "a", false)
	isDead(t, d, true)
}

// Append is cut off behind as many bytes as there are steps; that is told by false and by Dead at once.
func TestAppendThatIsCutOff(t *testing.T) {
	for _, n := range []int{1, 2, 3, 10, 300, 990} {
		b := string(row(n))
		for _, left := range []int{0, 1, 2, n / 2, n - 2, n - 1, n, n + 1} {
			if left < 0 {
				continue
			}
			there := b[:min(n, left)]
			for name, words := range map[string][]string{"x": {"x", "abc" + there, "ab", "y", "12", "1"}, "new": {"new", there, "", "x", "abc", "ab", "y", "12", "1"}} {
				d := twoFiles(t)
				d.Fuse(left)
				tells(t, d.Append(name, []byte(b)), left >= n, "Append of "+strconv.Itoa(n)+" bytes, of which "+strconv.Itoa(left)+" are done")
				isDead(t, d, left < n)
				holds(t, d, words...)
				syncs(t, d, name, left > n)
				isDead(t, d, left <= n)
				appends(t, d, name, "", left > n)
				if left <= n {
					holds(t, d, words...)
				}
			}
		}
	}
}

// What was cut off is a new file's front; in a Crash it is what was not synced.
func TestWhatACutAppendLeaves(t *testing.T) {
	for left := range 6 {
		for keep := range 8 {
			d := with(t, "x", "ab", "")
			d.Fuse(left)
			appends(t, d, "x", "cdefg", left >= 5)
			d.Crash(keep)
			want := "ab" + "cdefg"[:min(left, keep, 5)]
			holds(t, d, "x", want, want)
			isDead(t, d, false)
		}
	}
}

func TestAFuseBelowNoughtIsNone(t *testing.T) {
	for _, n := range []int{-1, -2, -3, -100, math.MinInt32, math.MinInt + 1, math.MinInt} {
		d := twoFiles(t)
		d.Fuse(2)
		d.Fuse(n)
		appends(t, d, "z", string(row(995)), true)
		for range 100 {
			syncs(t, d, "z", true)
		}
		drops(t, d, "x", true)
		isDead(t, d, false)
		holds(t, d, "y", "12", "1", "z", string(row(995)), string(row(995)))
	}
}

// A fuse that is set anew is the new one, whatever was left of the old one.
func TestAFuseThatIsSetAnew(t *testing.T) {
	for first := range 4 {
		for burnt := range first + 1 {
			for second := range 4 {
				d := twoFiles(t)
				d.Fuse(first)
				for range burnt {
					syncs(t, d, "y", true)
				}
				d.Fuse(second)
				for range second {
					syncs(t, d, "y", true)
				}
				isDead(t, d, false)
				syncs(t, d, "x", false)
				isDead(t, d, true)
			}
		}
	}
	d := twoFiles(t)
	d.Fuse(math.MaxInt)
	appends(t, d, "x", "def", true)
	isDead(t, d, false)
}

func TestADeadDisk(t *testing.T) {
	for _, fuse := range []int{-1, 0, 1, 100, math.MinInt, math.MaxInt} {
		d := twoFiles(t)
		d.Fuse(2)
		appends(t, d, "x", "def", false)
		isDead(t, d, true)
		d.Fuse(fuse) // is nothing
		words := []string{"x", "abcde", "ab", "y", "12", "1"}
		for name, step := range stepsOf(t) {
			tells(t, step.call(d), false, name+" of a dead disk")
			isDead(t, d, true)
			holds(t, d, words...)
		}
		for _, name := range []string{"x", "z", "", of(21)} {
			appends(t, d, name, "", false)
			appends(t, d, name, "a", false)
			tells(t, d.Append(name, row(2000)), false, "Append without room of a dead disk")
			renames(t, d, name, "", false)
			holds(t, d, words...)
		}
		syncs(t, d, "z", false)
		renames(t, d, "z", "x", false)
		drops(t, d, "z", false)
		other := d.Copy()
		isDead(t, other, true)
		holds(t, other, words...)
		holds(t, d, words...)
		isDead(t, d, true)
		d.Crash(0) // the fuse that was set on the dead disk is none behind it
		isDead(t, d, false)
		for range 200 {
			syncs(t, d, "x", true)
		}
		holds(t, d, "x", "ab", "ab", "y", "1", "1")
	}
}

// Whatever step is not done first, the disk is dead from then on, and not ahead of it.
func TestWhereADiskDies(t *testing.T) {
	script := []func(*disk.Disk) bool{
		func(d *disk.Disk) bool { return d.Append("x", []byte("ab")) }, // 2 steps
		func(d *disk.Disk) bool { return d.Sync("x") },                 // 3
		func(d *disk.Disk) bool { return d.Append("y", nil) },          // 3
		func(d *disk.Disk) bool { return d.Append("y", []byte("c")) },  // 4
		func(d *disk.Disk) bool { return d.Rename("y", "z") },          // 5
		func(d *disk.Disk) bool { return d.Drop("x") },                 // 6
		func(d *disk.Disk) bool { return d.Sync("z") },                 // 7
	}
	ends := []int{2, 3, 3, 4, 5, 6, 7}
	for fuse := range 10 {
		d := disk.New(100)
		d.Fuse(fuse)
		for i, call := range script {
			before := kept(d)
			tells(t, call(d), fuse >= ends[i], "call "+strconv.Itoa(i)+" with a fuse of "+strconv.Itoa(fuse))
			isDead(t, d, fuse < ends[i])
			if i > 0 && fuse < ends[i-1] && !slices.Equal(kept(d), before) {
				t.Errorf("call %d of a dead disk changed it: %q, it was %q", i, kept(d), before)
			}
		}
	}
}
