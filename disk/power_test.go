package disk_test

import (
	"math"
	"testing"

	"mooring/disk"
)

// outage tells whether power has failed in what is done, and with which number.
func outage(t *testing.T, do func()) (keep int, failed bool) {
	t.Helper()
	defer func() {
		switch v := recover().(type) {
		case nil:
		case disk.Outage:
			keep, failed = v.Keep, true
		default:
			t.Errorf("a panic with %v", v)
		}
	}()
	do()
	return 0, false
}

// steps is each step of a disk, once.
func steps(d *disk.Disk) []func() {
	return []func(){
		func() { d.Create("new") },
		func() { _ = d.Append("new", "xy") },
		func() { d.Sync("new") },
		func() { d.Rename("new", "log") },
		func() { d.SyncNames() },
	}
}

func TestPowerFailsBehindSoManySteps(t *testing.T) {
	for n := range 5 {
		d := disk.New(100, "log")
		d.Fail(n, 40+n)
		for i, step := range steps(d) {
			keep, failed := outage(t, step)
			if failed != (i >= n) || failed && keep != 40+n {
				t.Errorf("Fail(%d): step %d has failed: %v, with %d", n, i, failed, keep)
			}
		}
	}
}

func TestAStepInWhichPowerFailsIsNotTaken(t *testing.T) {
	d := disk.New(100, "log")
	appends(t, d, "log", "a")
	d.Fail(0, 0)
	for _, step := range steps(d) {
		outage(t, step)
	}
	outage(t, func() { _ = d.Append("log", "b") })
	outage(t, func() { d.Sync("log") })
	fileIs(t, d, "log", "a")
	d.Crash(0)
	fileIs(t, d, "log", "")
	d.Create("new")
	appends(t, d, "new", "xy")
	d.Sync("new")
	d.Rename("new", "log")
	d.Fail(0, 0)
	outage(t, d.SyncNames)
	d.Crash(0)
	fileIs(t, d, "log", "")
}

func TestAnAppendThatDoesNotFitIsAStep(t *testing.T) {
	d := disk.New(1, "log")
	d.Fail(1, 7)
	noRoom(t, d, "log", "ab")
	if keep, failed := outage(t, func() { _ = d.Append("log", "ab") }); !failed || keep != 7 {
		t.Errorf("an append that does not fit was no step: %d, %v", keep, failed)
	}
}

func TestReadingIsNoStep(t *testing.T) {
	d := disk.New(100, "log")
	d.Fail(0, 0)
	for range 3 {
		fileIs(t, d, "log", "")
	}
}

func TestANewFailureTakesThePlaceOfTheOld(t *testing.T) {
	d := disk.New(100, "log")
	d.Fail(0, 1)
	d.Fail(2, 9)
	appends(t, d, "log", "a")
	appends(t, d, "log", "b")
	if keep, failed := outage(t, func() { d.Sync("log") }); !failed || keep != 9 {
		t.Errorf("the third step has failed: %v, with %d", failed, keep)
	}
}

func TestNoFailureIsLeftBehindACrash(t *testing.T) {
	for n := range 3 {
		d := disk.New(100, "log")
		d.Fail(n, 0)
		d.Crash(0)
		for _, step := range steps(d) {
			if _, failed := outage(t, step); failed {
				t.Errorf("Fail(%d): power fails behind a crash", n)
			}
		}
	}
}

func TestPowerThatFailsTooLateToMatter(t *testing.T) {
	d := disk.New(100, "log")
	d.Fail(math.MaxInt, math.MaxInt)
	for range 1000 {
		if _, failed := outage(t, func() { d.Sync("log") }); failed {
			t.Fatalf("power has failed")
		}
	}
}
