package build

import (
	"slices"

	"graticule/api"
	"graticule/block"
	"graticule/level"
	"graticule/net"
	"graticule/proto"
	"graticule/table"
	"graticule/value"
)

// The fields of a head's message.
const (
	bufferField = 1
	tolField    = 2
	faceField   = 3
	levelField  = 4
)

// The fields of a face's attributes, in pairs.
const (
	keyField   = 1
	valueField = 2
)

// The fields of a level's message.
const (
	zoomField   = 1
	statusField = 2
	netField    = 3
)

// zooms is how many levels there may be.
const zooms = api.MaxZoom + 1

// checkState tells what is wrong with a level of so many faces, behind one of a zoom.
func checkState(s State, ahead, faces int) api.Errno {
	if !isLevel(s.Zoom) {
		return api.ErrRange
	}
	if s.Zoom <= ahead {
		return api.ErrOrder
	}
	switch s.Status {
	case level.Collapsed:
		if len(s.Net.Arcs) > 0 || len(s.Net.Rings) > 0 {
			return api.ErrForm
		}
	case level.Present:
		if err := block.Check(s.Net); err != api.OK {
			return err
		}
		if len(s.Net.Rings) != faces {
			return api.ErrForm
		}
	default:
		return api.ErrKind
	}
	return api.OK
}

// CheckHead tells what is wrong with a head.
func CheckHead(h Head) api.Errno {
	if !isBuffer(h.Buffer) || !isTol(h.Tol) {
		return api.ErrRange
	}
	if len(h.Attrs) > api.MaxFaces {
		return api.ErrMany
	}
	for _, attrs := range h.Attrs {
		if err := table.Check(attrs...); err != api.OK {
			return err
		}
	}
	ahead := -1
	for _, s := range h.Levels {
		if err := checkState(s, ahead, len(h.Attrs)); err != api.OK {
			return err
		}
		ahead = s.Zoom
	}
	return api.OK
}

// number is a field with a number.
func number(num, n int) proto.Field {
	return proto.Field{Num: num, Kind: proto.Number, N: uint64(n)}
}

// content is a field with bytes.
func content(num int, b []byte) proto.Field {
	return proto.Field{Num: num, Kind: proto.Bytes, Bytes: b}
}

// Bytes are a head's.
func Bytes(h Head) ([]byte, api.Errno) {
	if err := CheckHead(h); err != api.OK {
		return nil, err
	}
	fields := []proto.Field{number(bufferField, h.Buffer), number(tolField, h.Tol)}
	for _, attrs := range h.Attrs {
		b, err := attrsBytes(attrs)
		if err != api.OK {
			return nil, err
		}
		fields = append(fields, content(faceField, b))
	}
	for _, s := range h.Levels {
		b, err := stateBytes(s)
		if err != api.OK {
			return nil, err
		}
		fields = append(fields, content(levelField, b))
	}
	return proto.Write(fields...)
}

// attrsBytes is the message of a face's attributes.
func attrsBytes(l []table.Attr) ([]byte, api.Errno) {
	var fields []proto.Field
	for _, a := range l {
		b, err := value.Bytes(a.Value)
		if err != api.OK {
			return nil, err
		}
		fields = append(fields, content(keyField, []byte(a.Key)), content(valueField, b))
	}
	return proto.Write(fields...)
}

// stateBytes is the message of a level.
func stateBytes(s State) ([]byte, api.Errno) {
	fields := []proto.Field{number(zoomField, s.Zoom), number(statusField, s.Status)}
	if s.Status == level.Present {
		b, err := block.Bytes(s.Net)
		if err != api.OK {
			return nil, err
		}
		fields = append(fields, content(netField, b))
	}
	return proto.Write(fields...)
}

// parts are a head's fields.
type parts struct{ numbers, faces, levels []proto.Field }

// partsOf parts a head's fields; false if they aren't in order.
func partsOf(l []proto.Field) (parts, bool) {
	place := 0
	while := func(num, kind, most int) []proto.Field {
		begin := place
		for place < len(l) && place-begin < most && l[place].Num == num && l[place].Kind == kind {
			place++
		}
		return l[begin:place]
	}
	var p parts
	p.numbers = append(p.numbers, while(bufferField, proto.Number, 1)...)
	p.numbers = append(p.numbers, while(tolField, proto.Number, 1)...)
	p.faces = while(faceField, proto.Bytes, len(l))
	p.levels = while(levelField, proto.Bytes, len(l))
	return p, len(p.numbers) == 2 && place == len(l)
}

// Read is the head of bytes.
func Read(b []byte) (Head, api.Errno) {
	fields, _, err := proto.All(b)
	if err != api.OK {
		return Head{}, err
	}
	p, ok := partsOf(fields)
	switch {
	case !ok:
		return Head{}, api.ErrForm
	case p.numbers[0].N > api.MaxBuffer || p.numbers[1].N > api.MaxTol:
		return Head{}, api.ErrRange
	case len(p.faces) > api.MaxFaces:
		return Head{}, api.ErrMany
	}
	h := Head{Buffer: int(p.numbers[0].N), Tol: int(p.numbers[1].N)}
	for _, f := range p.faces {
		attrs, err := readAttrs(f.Bytes)
		if err != api.OK {
			return Head{}, err
		}
		h.Attrs = append(h.Attrs, attrs)
	}
	if len(p.levels) > zooms {
		return Head{}, api.ErrMany
	}
	ahead := -1
	for _, f := range p.levels {
		s, err := readState(f.Bytes, ahead, len(h.Attrs))
		if err != api.OK {
			return Head{}, err
		}
		ahead = s.Zoom
		h.Levels = append(h.Levels, s)
	}
	return h, api.OK
}

// readAttrs are the attributes of a face's message.
func readAttrs(b []byte) ([]table.Attr, api.Errno) {
	l, _, err := proto.All(b)
	if err != api.OK {
		return nil, err
	}
	if len(l)%2 != 0 {
		return nil, api.ErrForm
	}
	for i, f := range l {
		if f.Num != keyField+i%2 || f.Kind != proto.Bytes {
			return nil, api.ErrForm
		}
	}
	var out []table.Attr
	for i := 0; i < len(l); i += 2 {
		v, err := value.Read(l[i+1].Bytes)
		if err != api.OK {
			return nil, err
		}
		out = append(out, table.Attr{Key: string(l[i].Bytes), Value: v})
	}
	if err := table.Check(out...); err != api.OK {
		return nil, err
	}
	return out, api.OK
}

// readState is the level of a message, of so many faces, behind one of a zoom.
func readState(b []byte, ahead, faces int) (State, api.Errno) {
	l, _, err := proto.All(b)
	if err != api.OK {
		return State{}, err
	}
	told := func(place, num, kind int) bool {
		return place < len(l) && l[place].Num == num && l[place].Kind == kind
	}
	if !told(0, zoomField, proto.Number) || !told(1, statusField, proto.Number) {
		return State{}, api.ErrForm
	}
	// Numbers that are too great stay so.
	s := State{Zoom: int(min(l[0].N, zooms)), Status: int(min(l[1].N, level.Collapsed+1))}
	// As a level that has collapsed it is looked at without its net, which is read behind that.
	bare := s
	if s.Status == level.Present {
		bare.Status = level.Collapsed
	}
	if err := checkState(bare, ahead, faces); err != api.OK {
		return State{}, err
	}
	if s.Status == level.Collapsed && len(l) == 2 {
		return s, api.OK
	}
	if s.Status == level.Collapsed || len(l) != 3 || !told(2, netField, proto.Bytes) {
		return State{}, api.ErrForm
	}
	if s.Net, err = block.Parse(l[2].Bytes); err != api.OK {
		return State{}, err
	}
	if err := checkState(s, ahead, faces); err != api.OK {
		return State{}, err
	}
	return s, api.OK
}

// Same tells whether heads are the same.
func Same(a, b Head) bool {
	return a.Buffer == b.Buffer && a.Tol == b.Tol && slices.EqualFunc(a.Attrs, b.Attrs, table.Same) && slices.EqualFunc(a.Levels, b.Levels, sameState)
}

// sameState tells whether levels are the same.
func sameState(a, b State) bool {
	return a.Zoom == b.Zoom && a.Status == b.Status && net.Same(a.Net, b.Net)
}
