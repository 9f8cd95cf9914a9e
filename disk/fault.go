package disk

import "errors"

// ErrRoom is why an append does nothing: all files would have more bytes than
// there is room for.
var ErrRoom = errors.New("no room")

// Appending is the step that may find no room.
const Appending = "append"

// Fault tells which step of the disk failed, at which file, and why.
type Fault struct {
	Step, File string
	Err        error
}

func (f *Fault) Error() string { return f.Step + " " + f.File + ": " + f.Err.Error() }

// Unwrap tells why the step failed.
func (f *Fault) Unwrap() error { return f.Err }
