package mvt

import (
	"graticule/api"
	"graticule/geom"
	"graticule/proto"
	"graticule/table"
	"graticule/value"
	"graticule/varint"
)

// The field of a tile's message.
const layerField = 3

// The fields of a layer's message, and what two of them have.
const (
	nameField    = 1
	featureField = 2
	keyField     = 3
	valueField   = 4
	extentField  = 5
	versionField = 15
	version      = 2
)

// The fields of a feature's message.
const (
	idField    = 1
	tagsField  = 2
	kindField  = 3
	partsField = 4
)

// farthestTag is the greatest tag that is looked up.
const farthestTag = 1 << 31

// places are of each field's number, as far as a message may have it once, its place there and 1; 0 of none.
type places [versionField + 1]int

// number is a field with a number.
func number(num int, n uint64) proto.Field {
	return proto.Field{Num: num, Kind: proto.Number, N: n}
}

// content is a field with bytes.
func content(num int, b []byte) proto.Field {
	return proto.Field{Num: num, Kind: proto.Bytes, Bytes: b}
}

// Encode is a tile's bytes.
func Encode(t Tile) ([]byte, api.Errno) {
	if err := Check(t); err != api.OK {
		return nil, err
	}
	var fields []proto.Field
	for _, l := range t.Layers {
		b, err := layerBytes(l)
		if err != api.OK {
			return nil, err
		}
		fields = append(fields, content(layerField, b))
	}
	return proto.Write(fields...)
}

// layerBytes is a layer's message.
func layerBytes(l Layer) ([]byte, api.Errno) {
	var known table.Table
	fields := []proto.Field{number(versionField, version), content(nameField, []byte(l.Name))}
	for _, f := range l.Features {
		b, err := featureBytes(f, &known)
		if err != api.OK {
			return nil, err
		}
		fields = append(fields, content(featureField, b))
	}
	for _, key := range known.Keys {
		fields = append(fields, content(keyField, []byte(key)))
	}
	for _, v := range known.Values {
		b, err := value.Bytes(v)
		if err != api.OK {
			return nil, err
		}
		fields = append(fields, content(valueField, b))
	}
	return proto.Write(append(fields, number(extentField, api.Extent))...)
}

// featureBytes is a feature's message; its attributes come into the layer's table.
func featureBytes(f Feature, known *table.Table) ([]byte, api.Errno) {
	var fields []proto.Field
	if f.ID > 0 {
		fields = append(fields, number(idField, uint64(f.ID)))
	}
	tags, err := known.Add(f.Attrs...)
	if err != api.OK {
		return nil, err
	}
	if len(tags) > 0 {
		var told []byte
		for _, tag := range tags {
			told = append(told, varint.Bytes(uint64(tag))...)
		}
		fields = append(fields, content(tagsField, told))
	}
	parts, err := geom.Bytes(f.Kind, f.Parts...)
	if err != api.OK {
		return nil, err
	}
	return proto.Write(append(fields, number(kindField, uint64(f.Kind)), content(partsField, parts))...)
}

// contents gives the bytes of fields of a number one by one.
func contents(l []proto.Field, num int) func(yield func([]byte) bool) {
	return func(yield func([]byte) bool) {
		for _, f := range l {
			if f.Num == num && !yield(f.Bytes) {
				return
			}
		}
	}
}

// count is how many fields of a number there are.
func count(l []proto.Field, num int) int {
	n := 0
	for range contents(l, num) {
		n++
	}
	return n
}

// Decode is the tile of bytes.
func Decode(b []byte) (Tile, api.Errno) {
	fields, _, err := proto.All(b)
	if err != api.OK {
		return Tile{}, err
	}
	for _, f := range fields {
		if f.Num == layerField && f.Kind != proto.Bytes {
			return Tile{}, api.ErrWire
		}
	}
	if count(fields, layerField) > Layers {
		return Tile{}, api.ErrMany
	}
	var out Tile
	met := map[string]bool{}
	for told := range contents(fields, layerField) {
		l, err := readLayer(told)
		if err == api.OK && met[l.Name] {
			err = api.ErrTwice
		}
		if err != api.OK {
			return Tile{}, err
		}
		met[l.Name] = true
		out.Layers = append(out.Layers, l)
	}
	return out, api.OK
}

// placed are the places of a layer's fields.
func placed(l []proto.Field) (places, api.Errno) {
	var at places
	for i, f := range l {
		kind, once := proto.Bytes, false
		switch f.Num {
		case extentField, versionField:
			kind = proto.Number
			fallthrough
		case nameField:
			once = true
			fallthrough
		case featureField, keyField, valueField:
			if f.Kind != kind {
				return places{}, api.ErrWire
			}
			if once && at[f.Num] > 0 {
				return places{}, api.ErrTwice
			}
			at[f.Num] = i + 1
		}
	}
	return at, api.OK
}

// readLayer is the layer of a message.
func readLayer(b []byte) (Layer, api.Errno) {
	var at places
	var out Layer
	var known table.Table
	fields, _, err := proto.All(b)
	if err != api.OK {
		goto wrong
	}
	if at, err = placed(fields); err != api.OK {
		goto wrong
	}
	if out.Name, err = readHead(fields, at); err != api.OK {
		goto wrong
	}
	if known, err = readTable(fields); err != api.OK {
		goto wrong
	}
	if err = checkMany(count(fields, featureField)); err != api.OK {
		goto wrong
	}
	for told := range contents(fields, featureField) {
		var f Feature
		if f, err = readFeature(told, &known); err != api.OK {
			goto wrong
		}
		out.Features = append(out.Features, f)
	}
	return out, api.OK
wrong:
	return Layer{}, err
}

// readHead is the name of a layer, whose version and extent are looked at, too.
func readHead(l []proto.Field, at places) (string, api.Errno) {
	if at[versionField] == 0 {
		return "", api.ErrNone
	}
	if l[at[versionField]-1].N != version {
		return "", api.ErrKind
	}
	if at[nameField] == 0 {
		return "", api.ErrNone
	}
	name := string(l[at[nameField]-1].Bytes)
	if err := checkName(name); err != api.OK {
		return "", err
	}
	if at[extentField] > 0 && l[at[extentField]-1].N != api.Extent {
		return "", api.ErrRange
	}
	return name, api.OK
}

// readTable is the table of a layer.
func readTable(l []proto.Field) (table.Table, api.Errno) {
	var known table.Table
	for told := range contents(l, keyField) {
		known.Keys = append(known.Keys, string(told))
	}
	for told := range contents(l, valueField) {
		v, err := value.Read(told)
		if err != api.OK {
			return table.Table{}, err
		}
		known.Values = append(known.Values, v)
	}
	return known, known.Check()
}

// placedOnce are the places of a feature's fields.
func placedOnce(l []proto.Field) (places, api.Errno) {
	var at places
	for i, f := range l {
		kind := proto.Bytes
		switch f.Num {
		case idField, kindField:
			kind = proto.Number
			fallthrough
		case tagsField, partsField:
			if f.Kind != kind {
				return places{}, api.ErrWire
			}
			if at[f.Num] > 0 {
				return places{}, api.ErrTwice
			}
			at[f.Num] = i + 1
		}
	}
	return at, api.OK
}

// field is that of a number, the zero one if there is none.
func field(l []proto.Field, at places, num int) proto.Field {
	if at[num] == 0 {
		return proto.Field{}
	}
	return l[at[num]-1]
}

// readFeature is the feature of a message.
func readFeature(b []byte, known *table.Table) (Feature, api.Errno) {
	var at places
	var out Feature
	fields, _, err := proto.All(b)
	if err != api.OK {
		goto wrong
	}
	if at, err = placedOnce(fields); err != api.OK {
		goto wrong
	}
	if field(fields, at, idField).N > greatest {
		err = api.ErrRange
		goto wrong
	}
	out.ID = int(field(fields, at, idField).N)
	if out.Attrs, err = readTags(field(fields, at, tagsField).Bytes, known); err != api.OK {
		goto wrong
	}
	if out.Kind, err = readKind(fields, at); err != api.OK {
		goto wrong
	}
	if at[partsField] == 0 {
		err = api.ErrNone
		goto wrong
	}
	if out.Parts, err = geom.Parse(out.Kind, field(fields, at, partsField).Bytes); err != api.OK {
		goto wrong
	}
	return out, api.OK
wrong:
	return Feature{}, err
}

// readKind is the kind of a feature.
func readKind(l []proto.Field, at places) (int, api.Errno) {
	if at[kindField] == 0 {
		return 0, api.ErrNone
	}
	switch field(l, at, kindField).N {
	case geom.Line:
		return geom.Line, api.OK
	case geom.Polygon:
		return geom.Polygon, api.OK
	}
	return 0, api.ErrKind
}

// readTags are the attributes of tags.
func readTags(b []byte, known *table.Table) ([]table.Attr, api.Errno) {
	row, _, err := varint.Row(b)
	if err != api.OK {
		return nil, err
	}
	var tags []int
	for _, tag := range row {
		if tag > farthestTag {
			return nil, api.ErrRange
		}
		tags = append(tags, int(tag))
	}
	return known.Attrs(tags...)
}
