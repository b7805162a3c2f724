package tables

import (
	"slices"

	"portolan/api"
	"portolan/colvec"
)

// none stands for a place, an ID, a type that is not there; anyType, where a type is asked for, for all of them.
const (
	none    = -1
	anyType = -1
)

// marks are the IDs of records, rising, and their types: what is known of any record by its place alone.
type marks struct {
	ids   []int64
	types []int
}

func (m *marks) count() int { return len(m.ids) }

func (m *marks) has(i int) bool { return i >= 0 && i < len(m.ids) }

func (m *marks) id(i int) int64 {
	if !m.has(i) {
		return none
	}
	return m.ids[i]
}

func (m *marks) typeOf(i int) int {
	if !m.has(i) {
		return none
	}
	return m.types[i]
}

// at is the place of an ID.
func (m *marks) at(id int64) int {
	i, there := slices.BinarySearch(m.ids, id)
	if !there {
		return none
	}
	return i
}

// ofType are the places of a type's records. A type that is not there has none, so that it need not be told apart.
func (m *marks) ofType(t int) []int {
	var places []int
	for i, of := range m.types {
		if t == anyType || of == t {
			places = append(places, i)
		}
	}
	return places
}

// table has records by rising IDs; R is what each has beside its ID, its type and its properties.
type table[R any] struct {
	marks
	sheets []sheet // one a type
	rows   []int   // of each record: its row in its type's sheet
	beside []R
}

// newTable is one without records. It keeps the types.
func newTable[R any](types []api.TypeDecl) table[R] {
	t := table[R]{sheets: make([]sheet, len(types))}
	for i, d := range types {
		t.sheets[i] = newSheet(d)
	}
	return t
}

// put lets a record stand behind the others: its ID must be above theirs, its label one of the types'.
func (t *table[R]) put(id int64, label string, props []api.PropValue, beside R) {
	of := slices.IndexFunc(t.sheets, func(s sheet) bool { return s.Label == label })
	t.ids = append(t.ids, id)
	t.types = append(t.types, of)
	t.rows = append(t.rows, t.sheets[of].put(props))
	t.beside = append(t.beside, beside)
}

// prop is the property of that name at a place.
func (t *table[R]) prop(i int, name string) api.Value {
	if !t.has(i) {
		return api.Value{}
	}
	return t.sheets[t.types[i]].prop(t.rows[i], name)
}

// told is the label, and are the properties, of the record at a place that there is.
func (t *table[R]) told(i int) (string, []api.PropValue) {
	s := &t.sheets[t.types[i]]
	return s.Label, s.props(t.rows[i])
}

// declared are the types, in memory of their own.
func (t *table[R]) declared() []api.TypeDecl {
	var types []api.TypeDecl
	for _, s := range t.sheets {
		types = append(types, api.TypeDecl{Label: s.Label, Props: slices.Clone(s.Props)})
	}
	return types
}

// sheet has the properties of one type's records: a column for each that the type declares, a row for each record.
type sheet struct {
	api.TypeDecl
	columns []*colvec.Vec
	rows    int // a type without properties has no column that would tell it
}

func newSheet(d api.TypeDecl) sheet {
	s := sheet{TypeDecl: d}
	for _, p := range d.Props {
		s.columns = append(s.columns, colvec.New(p.Kind))
	}
	return s
}

// put lets a record's properties, which must stand as they are declared, be the next row, and tells which one it is. No column refuses them: rawgraph has held them against their kinds.
func (s *sheet) put(props []api.PropValue) int {
	for i, d := range s.Props {
		var v api.Value
		if len(props) > 0 && props[0].Name == d.Name {
			v, props = props[0].Value, props[1:]
		}
		s.columns[i].Append(v)
	}
	s.rows++
	return s.rows - 1
}

// prop is the property of that name in a row that there is.
func (s *sheet) prop(row int, name string) api.Value {
	at := slices.IndexFunc(s.Props, func(d api.PropDecl) bool { return d.Name == name })
	if at < 0 {
		return api.Value{}
	}
	return s.columns[at].At(row)
}

// props are those of a row that are not null, as they are declared.
func (s *sheet) props(row int) []api.PropValue {
	var props []api.PropValue
	for i, d := range s.Props {
		if v := s.columns[i].At(row); v.Kind != api.Null {
			props = append(props, api.PropValue{Name: d.Name, Value: v})
		}
	}
	return props
}
