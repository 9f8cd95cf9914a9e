package disk_test

import (
	"errors"
	"math"
	"testing"

	"mooring/disk"
)

func fileIs(t *testing.T, d *disk.Disk, name, want string) {
	t.Helper()
	if got := d.Read(name); got != want {
		t.Errorf("the file %s has %q, want %q", name, got, want)
	}
}

func appends(t *testing.T, d *disk.Disk, name, text string) {
	t.Helper()
	if err := d.Append(name, text); err != nil {
		t.Errorf("Append(%s, %q): %v", name, text, err)
	}
}

func TestFilesHaveWhatIsAppended(t *testing.T) {
	d := disk.New(100, "log")
	fileIs(t, d, "log", "")
	fileIs(t, d, "new", "")
	appends(t, d, "log", "ab")
	appends(t, d, "log", "c")
	d.Create("new")
	appends(t, d, "new", "xy")
	fileIs(t, d, "log", "abc")
	fileIs(t, d, "new", "xy")
	d.Create("new")
	fileIs(t, d, "new", "")
	fileIs(t, d, "log", "abc")
}

func TestARenamedFileHasItsNewNameOnly(t *testing.T) {
	d := disk.New(100, "log")
	appends(t, d, "log", "old")
	d.Create("new")
	appends(t, d, "new", "next")
	d.Rename("new", "log")
	fileIs(t, d, "log", "next")
	fileIs(t, d, "new", "")
	appends(t, d, "log", "!")
	fileIs(t, d, "log", "next!")
}

func TestStepsAtNamesThatNoFileHas(t *testing.T) {
	d := disk.New(3, "log")
	appends(t, d, "log", "abc")
	appends(t, d, "new", "abcd")
	d.Sync("new")
	d.Rename("new", "log")
	fileIs(t, d, "log", "abc")
	fileIs(t, d, "new", "")
}

// noRoom tells that an append does nothing, and that its error says why.
func noRoom(t *testing.T, d *disk.Disk, name, text string) {
	t.Helper()
	ahead := d.Read(name)
	err := d.Append(name, text)
	var fault *disk.Fault
	if !errors.Is(err, disk.ErrRoom) || !errors.As(err, &fault) || fault.Step != disk.Appending || fault.File != name {
		t.Errorf("Append(%s, %q): %v, want no room", name, text, err)
	}
	if err != nil && err.Error() != "append "+name+": no room" {
		t.Errorf("the error says %q", err.Error())
	}
	fileIs(t, d, name, ahead)
}

func TestRoomIsForAllFilesThatHaveAName(t *testing.T) {
	d := disk.New(10, "log")
	noRoom(t, d, "log", "0123456789a")
	appends(t, d, "log", "012345")
	d.Create("new")
	noRoom(t, d, "new", "01234")
	noRoom(t, d, "log", "01234")
	appends(t, d, "new", "0123")
	noRoom(t, d, "log", "0")
	noRoom(t, d, "new", "0")
	appends(t, d, "new", "")
	// The file that was the log has its kept name only, and counts no more.
	d.Rename("new", "log")
	appends(t, d, "log", "456789")
	noRoom(t, d, "log", "a")
	d.Create("log")
	appends(t, d, "log", "0123456789")
}

func TestACrashKeepsWhatWasSynced(t *testing.T) {
	for _, c := range []struct {
		keep int
		want string
	}{{0, "abc"}, {1, "abcd"}, {2, "abcde"}, {3, "abcde"}, {math.MaxInt, "abcde"}} {
		d := disk.New(100, "log")
		appends(t, d, "log", "abc")
		d.Sync("log")
		appends(t, d, "log", "de")
		d.Crash(c.keep)
		fileIs(t, d, "log", c.want)
		// What stayed is synced.
		d.Crash(0)
		fileIs(t, d, "log", c.want)
		appends(t, d, "log", "x")
		d.Crash(0)
		fileIs(t, d, "log", c.want)
	}
}

func TestACrashKeepsTheNamesThatWereSynced(t *testing.T) {
	d := disk.New(100, "log")
	appends(t, d, "log", "old")
	d.Sync("log")
	d.Create("new")
	appends(t, d, "new", "next")
	d.Sync("new")
	d.Rename("new", "log")
	d.Crash(0)
	fileIs(t, d, "log", "old")
	fileIs(t, d, "new", "")
	d.Create("new")
	appends(t, d, "new", "next")
	d.SyncNames()
	d.Rename("new", "log")
	d.Sync("log")
	d.Crash(0)
	fileIs(t, d, "log", "old")
	fileIs(t, d, "new", "next")
	d.Rename("new", "log")
	d.SyncNames()
	appends(t, d, "log", "+")
	d.Crash(5)
	fileIs(t, d, "log", "next+")
	fileIs(t, d, "new", "")
	// What is named behind a crash is not kept by it.
	d.Create("log")
	d.Create("new")
	appends(t, d, "new", "x")
	d.Crash(5)
	fileIs(t, d, "log", "next+")
	fileIs(t, d, "new", "")
}
