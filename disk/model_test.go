package disk_test

import (
	"math/rand"
	"slices"
	"strconv"
	"testing"

	"wicketman/disk"
)

// cell is one byte of a file.
type cell struct {
	c     byte
	lasts bool
}

// paper is a disk as the chapter's words have it: a list of files, and of each its bytes one by one.
type paper struct {
	room  int
	names []string
	files [][]cell
	steps []bool // those of the fuse that are done still, if it burns
	burns bool
	dead  bool
}

func newPaper(room int) *paper {
	switch {
	case room < 0:
		room = 0
	case room > mostRoom:
		room = mostRoom
	}
	return &paper{room: room}
}

func (p *paper) used() int {
	n := 0
	for _, f := range p.files {
		n += len(f)
	}
	return n
}

func (p *paper) step() bool {
	switch {
	case p.dead:
		return false
	case p.burns && len(p.steps) == 0:
		p.dead = true
		return false
	case p.burns:
		p.steps = p.steps[1:]
	}
	return true
}

func (p *paper) append(name string, b string) bool {
	at := slices.Index(p.names, name)
	if p.dead || name == "" || len(name) > mostName || p.used()+len(b) > p.room || at < 0 && len(p.names) == mostFiles {
		return false
	}
	if at < 0 {
		at = len(p.names)
		p.names, p.files = append(p.names, name), append(p.files, nil)
	}
	for i := range len(b) {
		if !p.step() {
			return false
		}
		p.files[at] = append(p.files[at], cell{b[i], false})
	}
	return true
}

func (p *paper) sync(name string) bool {
	at := slices.Index(p.names, name)
	if at < 0 || !p.step() {
		return false
	}
	for i := range p.files[at] {
		p.files[at][i].lasts = true
	}
	return true
}

func (p *paper) take(at int) {
	p.names, p.files = slices.Delete(p.names, at, at+1), slices.Delete(p.files, at, at+1)
}

func (p *paper) rename(from, to string) bool {
	at := slices.Index(p.names, from)
	if at < 0 || to == "" || len(to) > mostName || !p.step() {
		return false
	}
	if from == to {
		return true
	}
	p.names[at] = to
	for i, name := range p.names {
		if name == to && i != at {
			p.take(i)
			break
		}
	}
	return true
}

func (p *paper) drop(name string) bool {
	at := slices.Index(p.names, name)
	if at < 0 || !p.step() {
		return false
	}
	p.take(at)
	return true
}

func (p *paper) fuse(n int) {
	if p.dead {
		return
	}
	p.burns, p.steps = n >= 0, make([]bool, max(n, 0))
}

func (p *paper) crash(keep int) {
	order := slices.Sorted(slices.Values(p.names))
	for _, name := range order {
		at := slices.Index(p.names, name)
		var there []cell
		for _, c := range p.files[at] {
			if !c.lasts {
				if keep <= 0 {
					break
				}
				keep--
			}
			there = append(there, cell{c.c, true})
		}
		p.files[at] = there
	}
	p.dead, p.burns, p.steps = false, false, nil
}

func (p *paper) copy() *paper {
	other := *p
	other.names, other.files, other.steps = slices.Clone(p.names), nil, slices.Clone(p.steps)
	for _, f := range p.files {
		other.files = append(other.files, slices.Clone(f))
	}
	return &other
}

// words are what holds is asked with.
func (p *paper) words() []string {
	var words []string
	for i, name := range p.names {
		var all, lasts []byte
		for _, c := range p.files[i] {
			all = append(all, c.c)
			if c.lasts {
				lasts = append(lasts, c.c)
			}
		}
		words = append(words, name, string(all), string(lasts))
	}
	return words
}

// act is one call, done to a disk and to a paper.
type act struct {
	kind     int
	name, to string
	n        int
}

const kinds = 7

func (a act) String() string {
	return []string{"Append", "Sync", "Rename", "Drop", "Fuse", "Crash", "Append"}[a.kind] + " " + strconv.Quote(a.name) + " " + strconv.Quote(a.to) + " " + strconv.Itoa(a.n)
}

func (a act) do(d *disk.Disk, p *paper) (got, want bool) {
	switch a.kind {
	case 0, 6:
		b := string(row(max(a.n, 0)))
		return d.Append(a.name, []byte(b)), p.append(a.name, b)
	case 1:
		return d.Sync(a.name), p.sync(a.name)
	case 2:
		return d.Rename(a.name, a.to), p.rename(a.name, a.to)
	case 3:
		return d.Drop(a.name), p.drop(a.name)
	case 4:
		d.Fuse(a.n)
		p.fuse(a.n)
	case 5:
		d.Crash(a.n)
		p.crash(a.n)
	}
	return false, false
}

func (a act) asPaper(t *testing.T, d *disk.Disk, p *paper) {
	t.Helper()
	got, want := a.do(d, p)
	tells(t, got, want, a.String())
	isDead(t, d, p.dead)
	holds(t, d, p.words()...)
}

func drawn(draw *rand.Rand) act {
	names := []string{"a", "b", "c", "d", "e", "f", "g", "h", "i", "j", of(20), of(21), "", "\xff"}
	if draw.Intn(3) == 0 {
		names = names[:3]
	}
	return act{kind: draw.Intn(kinds), name: names[draw.Intn(len(names))], to: names[draw.Intn(len(names))], n: draw.Intn(12) - 1}
}

// Whatever is done to a disk, it is as the chapter's words have it; so is a copy that was taken on the way.
func TestDisksAsOnPaper(t *testing.T) {
	draw := rand.New(rand.NewSource(12))
	deaths, full, copies := 0, 0, 0
	for round := range 1500 {
		room := draw.Intn(80) - 5
		d, p := disk.New(room), newPaper(room)
		if round%3 == 0 {
			for _, name := range "abcdefgh"[:6+round/3%3] {
				act{name: string(name)}.asPaper(t, d, p)
			}
		}
		other, otherPaper := d.Copy(), p.copy()
		for range 60 {
			a := drawn(draw)
			if a.kind == 4 && draw.Intn(3) != 0 || a.kind == 5 && !p.dead && draw.Intn(4) != 0 {
				continue
			}
			a.asPaper(t, d, p)
			if p.dead {
				deaths++
			}
			if len(p.names) == mostFiles {
				full++
			}
			if draw.Intn(2) == 0 {
				drawn(draw).asPaper(t, other, otherPaper)
				holds(t, d, p.words()...)
			}
			if draw.Intn(15) == 0 {
				other, otherPaper = d.Copy(), p.copy()
				copies++
			}
		}
		if t.Failed() {
			t.Fatalf("in round %d", round)
		}
	}
	if deaths < 1000 || full < 1000 || copies < 1000 {
		t.Errorf("%d calls of dead disks, %d of full ones, %d copies: these scripts test nothing", deaths, full, copies)
	}
}

// scripts are what is done to files as a log of changes would do it, and otherwise.
func scripts() [][]act {
	return [][]act{
		{{0, "log", "", 3}, {1, "log", "", 0}, {0, "log", "", 2}, {1, "log", "", 0}, {0, "log", "", 2}},
		{{0, "snap", "", 2}, {1, "snap", "", 0}, {0, "log", "", 2}, {1, "log", "", 0}, {0, "next", "", 3}, {1, "next", "", 0}, {2, "next", "snap", 0}, {3, "log", "", 0}, {0, "log", "", 1}, {1, "log", "", 0}},
		{{0, "x", "", 2}, {2, "x", "y", 0}, {1, "y", "", 0}, {0, "y", "", 2}, {2, "y", "y", 0}, {0, "x", "", 1}, {1, "x", "", 0}, {2, "x", "y", 0}, {3, "y", "", 0}},
		{{0, "a", "", 0}, {0, "b", "", 2}, {0, "a", "", 2}, {1, "a", "", 0}, {3, "b", "", 0}, {0, "b", "", 1}},
	}
}

// Wherever a script is cut off, and whatever is kept then: what Sync told true of is there, and lasts.
func TestWhatWasSyncedLasts(t *testing.T) {
	for at, script := range scripts() {
		for fuse := -1; fuse < 25; fuse++ {
			for keep := -1; keep < 8; keep++ {
				d, p := disk.New(1000), newPaper(1000)
				act{kind: 4, n: fuse}.asPaper(t, d, p)
				synced := map[string]string{}
				for _, a := range script {
					told, _ := a.do(d, p)
					if !told {
						continue
					}
					switch a.kind {
					case 1:
						b, _ := d.Read(a.name)
						synced[a.name] = string(b)
					case 2:
						front := synced[a.name]
						delete(synced, a.name)
						synced[a.to] = front
					case 3:
						delete(synced, a.name)
					}
				}
				before := kept(d)
				act{kind: 5, n: keep}.asPaper(t, d, p)
				for name, want := range synced {
					b, is := d.Read(name)
					if lasting := string(d.Lasting(name)); !is || len(b) < len(want) || string(b[:len(want)]) != want || lasting != string(b) {
						t.Errorf("script %d, a fuse of %d, Crash of %d: %q is %q, %v, of which %q lasts; %q of it was synced", at, fuse, keep, name, b, is, lasting, want)
					}
				}
				isFront(t, before, kept(d))
			}
		}
	}
}

// isFront says that a crash makes nothing up: each file is there still, with a front of its bytes.
func isFront(t *testing.T, before, behind []string) {
	t.Helper()
	if len(before) != len(behind) {
		t.Fatalf("files %q behind a Crash, ahead of it %q", behind, before)
	}
	for i := 0; i < len(before); i += 3 {
		if n := len(behind[i+1]); before[i] != behind[i] || n > len(before[i+1]) || before[i+1][:n] != behind[i+1] {
			t.Errorf("%q is %q behind a Crash; %q was %q", behind[i], behind[i+1], before[i], before[i+1])
		}
	}
}
