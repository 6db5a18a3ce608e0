package printer

import (
	"reflect"

	"hornbook/tables"
)

// PartTypes: the types of the parts that both files of the tables are made of, each in its order.
func PartTypes(t *tables.Tables) (affixes, dictionary []string) {
	return typesOf(affixParts(t.Affixes())), typesOf(dictionaryParts(t.Entries()))
}

func typesOf(parts []part) []string {
	var names []string
	for _, p := range parts {
		names = append(names, reflect.TypeOf(p).Name())
	}
	return names
}
