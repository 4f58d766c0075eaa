package memory

import "sepal/api"

const integer = "int"

// kinds tells which values of a model are pointers.
type kinds struct {
	names   map[string]string // types
	records map[string][]api.Param
}

func kindsOf(types []api.Param, records []api.Record) kinds {
	k := kinds{names: map[string]string{}, records: map[string][]api.Param{}}
	for _, x := range types {
		if _, ok := k.names[x.Name]; !ok {
			k.names[x.Name] = x.Type
		}
	}
	for _, r := range records {
		if _, ok := k.records[r.Name]; !ok {
			k.records[r.Name] = r.Fields
		}
	}
	return k
}

// isPointerName reports whether the values of a name of a store are pointers.
func (k kinds) isPointerName(name string) bool {
	kind, ok := k.names[name]
	return ok && kind != integer
}

// isPointerField reports whether the values of a field of a record are pointers.
func (k kinds) isPointerField(record string, index int) bool {
	fields := k.records[record]
	return index < len(fields) && fields[index].Type != integer
}
