package prim

// Parts and nodes are hashed with different first bytes, so that no part can
// pass for a node.
const (
	partMark = "\x00"
	nodeMark = "\x01"
)

// root is the root of the tree over parts that keep to their bounds.
func root(parts []string) string {
	if len(parts) == 0 {
		return sum("")
	}
	row := make([]string, 0, len(parts))
	for _, part := range parts {
		row = append(row, sum(partMark+part))
	}
	for len(row) > 1 {
		row = rowAbove(row)
	}
	return row[0]
}

// rowAbove hashes two by two; one that is left over goes up as it is.
func rowAbove(row []string) []string {
	above := make([]string, 0, (len(row)+1)/2)
	for i := 0; i+1 < len(row); i += 2 {
		above = append(above, sum(nodeMark+row[i]+row[i+1]))
	}
	if len(row)%2 == 1 {
		above = append(above, row[len(row)-1])
	}
	return above
}
