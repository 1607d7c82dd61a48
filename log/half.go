package log

import (
	"bytes"
	"iter"

	"groupage/api"
	"groupage/disk"
)

// half is one of a disk's two halves; its sectors are told from its head, 0, on.
type half struct {
	disk        *disk.Disk
	start, size int
}

// read tells a sector; all of a half are on its disk, so there is no error.
func (h half) read(at int) []byte {
	b, _ := h.disk.Read(h.start + at)
	return b
}

// write writes a sector.
func (h half) write(at int, b []byte) api.Errno {
	return h.disk.Write(h.start+at, b)
}

// generation tells that of the half's head, and 0 if the half isn't one.
func (h half) generation() int {
	head := h.read(0)
	generation := number(head[:4])
	if generation < 1 || generation > mostGeneration || !bytes.Equal(head, headOf(generation)) {
		return 0
	}
	return generation
}

// isNew tells whether nothing was ever written to the half but, at most, a head that was torn.
func (h half) isNew() bool {
	for at := 1; at < h.size; at++ {
		if !isWiped(h.read(at)) {
			return false
		}
	}
	return h.read(0)[api.Sector-1] == 0
}

// records goes through the half's records, each with the sector behind it.
func (h half) records(generation int) iter.Seq2[int, []byte] {
	return func(yield func(int, []byte) bool) {
		end := 1
		for place := 0; ; place++ {
			b, ok := h.record(end, generation, place)
			if !ok {
				return
			}
			end += sectorsOf(len(b))
			if !yield(end, b) {
				return
			}
		}
	}
}

// record tells the bytes of the record of that generation and place, if it stands at a sector, whole.
func (h half) record(at, generation, place int) ([]byte, bool) {
	if at >= h.size {
		return nil, false
	}
	laid := h.read(at)
	length := number(laid[:lengthBytes])
	if length > mostBytes || at+sectorsOf(length) > h.size {
		return nil, false
	}
	for further := 1; further < sectorsOf(length); further++ {
		laid = append(laid, h.read(at+further)...)
	}
	b := bytesOf(laid, length)
	// Made anew, it shows each byte that was turned, also among those that only fill up.
	return b, bytes.Equal(laid, recordOf(b, generation, place))
}

// wipe writes all 0 where it isn't so yet, from the last sector down to one.
func (h half) wipe(to int) api.Errno {
	for at := h.size - 1; at >= to; at-- {
		if isWiped(h.read(at)) {
			continue
		}
		if e := h.write(at, nil); e != api.OK {
			return e
		}
	}
	return api.OK
}

// lay writes a record's sectors, its first one last: only then is it a record.
func (h half) lay(at int, laid []byte) api.Errno {
	for from := api.Sector; from < len(laid); from += api.Sector {
		if e := h.write(at+from/api.Sector, laid[from:from+api.Sector]); e != api.OK {
			return e
		}
	}
	return h.write(at, laid[:api.Sector])
}

// fill lets the half have these records, of that generation; its head comes last: only then is it a half.
func (h half) fill(records [][]byte, generation int) api.Errno {
	if e := h.wipe(0); e != api.OK {
		return e
	}
	at := 1
	for place, b := range records {
		if e := h.lay(at, recordOf(b, generation, place)); e != api.OK {
			return e
		}
		at += sectorsOf(len(b))
	}
	return h.write(0, headOf(generation))
}
