package coding

import "cairn/field"

// inverse gives the inverse of a square of rows, and uses them up.
//
// The row at place t is row t itself, or a row of an index from k on; no two have one index. Then no two rows ever need to change places: a row
// has something but 0 at its own place when its turn comes, because each corner of the square (its first rows, as far as their first places) can
// be inverted. Unit rows struck out of the corner with their places leave a square of inverses of i exclusive-or j, all i and j different:
// a Cauchy matrix, and every one of these can be inverted.
func inverse(rows [][]byte) [][]byte {
	answer := make([][]byte, len(rows))
	for t := range answer {
		answer[t] = unitRow(len(rows), t)
	}
	for t := range rows {
		factor := field.Inv(rows[t][t])
		field.Scale(rows[t], factor)
		field.Scale(answer[t], factor)
		clearPlace(rows, answer, t)
	}
	return answer
}

// clearPlace makes place t 0 in each row but row t, which has a 1 there; what is done to the rows is done to the answer.
func clearPlace(rows [][]byte, answer [][]byte, t int) {
	for i := range rows {
		if i == t {
			continue
		}
		factor := rows[i][t]
		field.AddTimes(rows[i], factor, rows[t])
		field.AddTimes(answer[i], factor, answer[t])
	}
}
