// Package disk is the disk of an acceptor: files with names, of which a crash
// keeps what was synced, and a part of what was not.
package disk

import "maps"

type file struct {
	text   string
	synced int
}

// Disk has files by their names as they are, and as they were synced last.
// Both may name one file, so what is done to it is seen under either name. A
// step at a name that no file has does nothing.
type Disk struct {
	room    int
	names   map[string]*file
	kept    map[string]*file
	failure *failure
}

// New makes a disk that has one file, empty, its name kept.
func New(room int, name string) *Disk {
	d := &Disk{room: room, names: map[string]*file{name: {}}}
	d.SyncNames()
	return d
}

// Read tells the bytes of a file, synced or not.
func (d *Disk) Read(name string) string {
	if f, ok := d.names[name]; ok {
		return f.text
	}
	return ""
}

// Create makes an empty file; what had its name has it no more.
func (d *Disk) Create(name string) {
	d.step()
	d.names[name] = &file{}
}

// Append puts bytes behind those of a file. If they do not fit it does nothing,
// and the error is a Fault; it is a step all the same.
func (d *Disk) Append(name, text string) error {
	d.step()
	f, ok := d.names[name]
	if !ok {
		return nil
	}
	if err := d.fits(len(text)); err != nil {
		return &Fault{Step: Appending, File: name, Err: err}
	}
	f.text += text
	return nil
}

func (d *Disk) fits(more int) error {
	for _, f := range d.names {
		more += len(f.text)
	}
	if more > d.room {
		return ErrRoom
	}
	return nil
}

// Sync syncs all bytes of a file.
func (d *Disk) Sync(name string) {
	d.step()
	if f, ok := d.names[name]; ok {
		f.synced = len(f.text)
	}
}

// Rename gives a file a new name; what had that name has it no more.
func (d *Disk) Rename(name, to string) {
	d.step()
	if f, ok := d.names[name]; ok {
		delete(d.names, name)
		d.names[to] = f
	}
}

// SyncNames keeps the names as they are.
func (d *Disk) SyncNames() {
	d.step()
	d.kept = maps.Clone(d.names)
}

// Crash leaves the names that were kept, and of their files the bytes that were
// synced and so many more. It leaves no failure that is to come.
func (d *Disk) Crash(keep int) {
	d.failure = nil
	d.names = maps.Clone(d.kept)
	for _, f := range d.names {
		// keep may be so great that a sum with it would wrap round.
		f.text = f.text[:f.synced+min(keep, len(f.text)-f.synced)]
		f.synced = len(f.text)
	}
}
