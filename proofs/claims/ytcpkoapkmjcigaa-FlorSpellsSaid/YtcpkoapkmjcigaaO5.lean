/- What lies at a cell of an argument of whatever struct or array type: a leaf of the type, read. -/
import Derived.Test.YtcpkoapkmjcigaaO1
import Derived.OpenShut
namespace Go.Proofs.Ytcpkoapkmjcigaa
open Go.ChangeShapes Go.WideShapes Go.ChangeAt Go.RowKit

/-- the type of the leaf that lies at the cell j of a value of a type -/
def leafOf (P : Program) : Nat → TypeId → Nat → Option TypeId
  | 0, _, _ => none
  | k + 1, T, j => match P.underlying T with
    | some (.struct fs) => fs.toList.findSome? fun f => if f.offset ≤ j ∧ j < f.offset + P.cellsOf f.type then leafOf P k f.type (j - f.offset) else none
    | some (.array n e) => if j < n * P.cellsOf e then leafOf P k e (j % P.cellsOf e) else none
    | some (.int _) => if j = 0 then some T else none
    | some .string => if j = 0 then some T else none
    | some .bool => if j = 0 then some T else none
    | some (.slice _) => if j = 0 then some T else none
    | _ => none
section
variable {H : Type} {enc : TypeId × Value → H} {P : Program} {w : World} {base : Nat} {spare : Nat → Bool} {held : Bool}
theorem leaf_read : ∀ (k : Nat) {T j L fuel : Nat} {cs : List Value} {y : DataW H × List MemPlace}, leafOf P k T j = some L → DataW.trod enc P w base spare held fuel T cs = some y →
    ∃ v m y', cs[j]? = some v ∧ DataW.trod enc P w base spare held m L [v] = some y'
  | 0, _, _, _, _, _, _, h, _ => by simp [leafOf] at h
  | k + 1, T, j, L, fuel, cs, y, h, hy => by
    unfold leafOf at h
    split at h
    · rename_i fs hT
      obtain ⟨f, hf, hh⟩ := List.exists_of_findSome?_eq_some h
      split at hh
      case isFalse => cases hh
      rename_i hc
      obtain ⟨xs, n, _, _, hl, hlen, hall⟩ := DataW.trod_struct hT hy
      obtain ⟨i, hi⟩ := List.getElem?_of_mem hf
      rw [Array.getElem?_toList] at hi
      have hlt : i < xs.length := by rw [hlen]; exact (Array.getElem?_eq_some_iff.1 hi).1
      have h1 := hall i f hi
      rw [List.getElem?_eq_getElem hlt] at h1
      obtain ⟨v, m, y', h2, h3⟩ := leaf_read k hh h1
      refine ⟨v, m, y', ?_, h3⟩
      rw [List.getElem?_take, List.getElem?_drop] at h2
      split at h2
      · rwa [show f.offset + (j - f.offset) = j by omega] at h2
      · cases h2
    · rename_i n e hT
      split at h
      case isFalse => cases h
      rename_i hc
      obtain ⟨xs, m0, _, _, hl, hlen, hall⟩ := DataW.trod_array hT hy
      have hpos : 0 < P.cellsOf e := by rcases Nat.eq_zero_or_pos (P.cellsOf e) with hz | hz; · rw [hz, Nat.mul_zero] at hc; omega
                                        · exact hz
      have hq : j / P.cellsOf e < n := Nat.div_lt_of_lt_mul (by rwa [Nat.mul_comm] at hc)
      have h1 := hall _ hq
      rw [List.getElem?_eq_getElem (by rw [hlen]; exact hq)] at h1
      obtain ⟨v, m, y', h2, h3⟩ := leaf_read k h h1
      refine ⟨v, m, y', ?_, h3⟩
      rw [List.getElem?_take, List.getElem?_drop] at h2
      split at h2
      · rwa [show j / P.cellsOf e * P.cellsOf e + j % P.cellsOf e = j by rw [Nat.mul_comm]; exact Nat.div_add_mod _ _] at h2
      · cases h2
    · rename_i hT
      split at h
      case isFalse => cases h
      rename_i hj
      subst hj
      cases h
      obtain ⟨n, rfl, _, _⟩ := DataW.trod_int hT hy
      exact ⟨_, _, _, rfl, hy⟩
    · rename_i hT
      split at h
      case isFalse => cases h
      rename_i hj
      subst hj
      cases h
      obtain ⟨n, rfl, _, _⟩ := DataW.trod_string hT hy
      exact ⟨_, _, _, rfl, hy⟩
    · rename_i hT
      split at h
      case isFalse => cases h
      rename_i hj
      subst hj
      cases h
      obtain ⟨n, rfl, _⟩ := DataW.trod_bool hT hy
      exact ⟨_, _, _, rfl, hy⟩
    · rename_i e hT
      split at h
      case isFalse => cases h
      rename_i hj
      subst hj
      cases h
      rcases DataW.trod_slice hT hy with ⟨rfl, _⟩ | ⟨a, len, cap, elems, rest, n, _, rfl, _⟩
      · exact ⟨_, _, _, rfl, hy⟩
      · exact ⟨_, _, _, rfl, hy⟩
    · cases h
/-- a leaf that is an int -/
theorem leaf_int {T j fuel : Nat} {cs : List Value} {y : DataW H × List MemPlace} {v : Value} (k L : Nat) (hk : leafOf P k T j = some L) (hL : P.underlying L = some (.int .i64)) (h : DataW.trod enc P w base spare held fuel T cs = some y) (hv : cs[j]? = some v) :
    ∃ n, v = .int .i64 n ∧ (Lit.int .i64 n).wf = true := by
  obtain ⟨u, m, y', h1, h2⟩ := leaf_read k hk h
  obtain ⟨n, e, _, wf⟩ := DataW.trod_int hL h2
  rw [h1] at hv
  cases hv
  cases e
  exact ⟨n, rfl, wf⟩
end
end Go.Proofs.Ytcpkoapkmjcigaa
