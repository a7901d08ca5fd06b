/- A book of gaugings as families: what symbols stand for. -/
import Derived.Test.YtlmnhlmgbcpclaaSY26
import Derived.Test.YtlmnhlmgbcpclaaProg
import Derived.Test.YtlmnhlmgbcpclaaJ13
set_option linter.unusedVariables false
set_option linter.unusedSimpArgs false
namespace Go.Proofs.Ytlmnhlmgbcpclaa
open Go.RowKit
namespace Sy
open Go.RowKit

def ho (n : Nat) : Value := .iface 0 (.int .i64 (.ofNat n))
def li (n : Int) : Value := .int .i64 n
def ap1 (c : Nat) (a : Value) : Value := .iface c (.tuple #[a])
def bn (t : Nat) (a b : Value) : Value := .iface t (.tuple #[a, b])
/-- the lists of a book; their lengths; a string; an element's parts -/
def fR : Value := mkF1 96 1 []
def fM : Value := mkF1 96 2 []
def nR : Value := lenS 1 []
def nM : Value := lenS 2 []
def sC : Value := mkF1 98 9 []
def rS (i : Value) : Value := mkF1 98 1 [i]
def rD (i : Value) : Value := ap1 110 i
def rL (i : Value) : Value := ap1 111 i
def rH (i : Value) : Value := ap1 112 i
def rE (i : Value) : Value := ap1 113 i
def mD (i : Value) : Value := ap1 120 i
def mA (i : Value) : Value := mkF1 98 2 [i]
def mB (i : Value) : Value := mkF1 98 3 [i]
def mV (i : Value) : Value := ap1 121 i
def mE (i : Value) : Value := ap1 122 i
def bookFams : List (Nat × List (Nat × Nat)) := [(1, [(1, 1), (0, 110), (0, 111), (0, 112)]), (2, [(0, 120), (1, 2), (1, 3), (0, 121)])]
def hLo : Value := ho 0
def hHi : Value := ho 1
def bkV : Value := .agg #[hLo, hHi, fR, fM]
/-- the rows of a slice of readings, of moves -/
structure Bk where
  lo : Int
  hi : Int
  n : Nat
  m : Nat
  x : Nat → Rd
  y : Nat → Mw
  vr : Value
  vm : Value
  c : ByteArray
  w : World
def numB (B : Bk) (nu : Nat → List Int → Int) (t : Nat) (xs : List Int) : Int :=
  match t, xs with
  | 110, [i] => (B.x i.toNat).d
  | 111, [i] => (B.x i.toNat).lo
  | 112, [i] => (B.x i.toNat).hi
  | 113, [i] => rdE (B.x i.toNat)
  | 120, [i] => (B.y i.toNat).d
  | 121, [i] => (B.y i.toNat).v
  | 122, [i] => mvE (B.y i.toNat)
  | t, xs => nu t xs
def strB (B : Bk) (c : Nat) (xs : List Int) : ByteArray :=
  match c, xs with
  | 1, [i] => (B.x i.toNat).s
  | 2, [i] => (B.y i.toNat).a
  | 3, [i] => (B.y i.toNat).b
  | 9, [] => B.c
  | _, _ => ⟨#[]⟩
def slcB (B : Bk) (c : Nat) (xs : List Int) : Value :=
  match c, xs with
  | 1, [] => B.vr
  | 2, [] => B.vm
  | _, _ => .slice none 0 0
def holB (B : Bk) (ot : Nat → Int) (k : Nat) : Value := .int .i64 (if k = 0 then B.lo else if k = 1 then B.hi else ot k)
/-- the copies: kinds 61, 62 -/
def atR (ob : Obj) (n s : Nat) (g : Nat → Nat → Value) : Prop := ∃ cs e fr, ob = .cells cs e fr ∧ ∀ i j, i < n → j < s → cs[i * s + j]? = some (g i j)
def objB (B : Bk) (k : Nat) (xs : List Int) (ob : Obj) : Prop := if k = 61 then atR ob B.n 4 (fun i => (B.x i).at) else if k = 62 then atR ob B.m 4 (fun i => (B.y i).at) else False
def DB (B : Bk) (ot : Nat → Int) (nu : Nat → List Int → Int) : Dn := famD (holB B ot) (numB B nu) (strB B) (slcB B) (roW B.w) (objB B)
structure BkOk (B : Bk) : Prop where
  r : ListW (roW B.w) B.vr B.n 4 (fun i => (B.x i).at)
  m : ListW (roW B.w) B.vm B.m 4 (fun i => (B.y i).at)
  rn : B.n ≤ 1000000
  mn : B.m ≤ 1000000
/-- a run's symbols mean the book's, whatever holes there are -/
structure IsB (B : Bk) (nu : Nat → List Int → Int) (P : Pg) : Prop where
  prog : P.prog = Try.prog
  int : P.den.int = (DB B (fun _ => 0) nu).int
  str : P.den.str = strB B
  slc : P.den.slc = slcB B
  ro : P.den.ro = roW B.w
  obj : P.den.obj = objB B
section
variable {B : Bk} {ot : Nat → Int} {nu : Nat → List Int → Int}
theorem bk_fam (h : BkOk B) : ∀ x ∈ bookFams, ∀ xs : List Int, ∃ (sa : Option Addr) (n cap : Nat), (DB B ot nu).slc x.1 xs = .slice sa n cap ∧ (DB B ot nu).int (1000 + x.1) xs = n ∧ (0 < n → ∃ (b r : Nat) (cs : Array Value), sa = some ⟨b, r, none⟩ ∧ (DB B ot nu).ro b = some cs ∧
    ∀ (k j : Nat) (f : Nat × Nat), k < n → x.2[j]? = some f → cs[r + k * x.2.length + j]? = some (formV (DB B ot nu) f (xs ++ [(k : Int)]))) := by
  intro x hx
  simp only [bookFams, List.mem_cons, List.not_mem_nil, or_false] at hx
  rcases hx with rfl | rfl
  · refine fam_ok fun xs => ⟨famD_len (by decide) xs, ?_⟩
    match xs with
    | [] =>
      refine ⟨B.n, _, h.r, fun i j f hi hj => ?_⟩
      match j, hj with
      | 0, hj => cases hj; rfl
      | 1, hj => cases hj; rfl
      | 2, hj => cases hj; rfl
      | 3, hj => cases hj; rfl
    | _ :: _ => exact ⟨0, fun _ _ => .nilIface, listW_none _ _ _, fun i j f hi => by omega⟩
  · refine fam_ok fun xs => ⟨famD_len (by decide) xs, ?_⟩
    match xs with
    | [] =>
      refine ⟨B.m, _, h.m, fun i j f hi hj => ?_⟩
      match j, hj with
      | 0, hj => cases hj; rfl
      | 1, hj => cases hj; rfl
      | 2, hj => cases hj; rfl
      | 3, hj => cases hj; rfl
    | _ :: _ => exact ⟨0, fun _ _ => .nilIface, listW_none _ _ _, fun i j f hi => by omega⟩
noncomputable def pdB (l : List Fact) (q : List (Value × Value × Bool)) : Pd := { prog := Try.prog, facts := l, fams := bookFams, seqs := q, sl := true }
noncomputable def pgB (h : BkOk B) (ot : Nat → Int) (nu : Nat → List Int → Int) (l : List Fact) (q : List (Value × Value × Bool)) (h1 : AllL (OkFc (DB B ot nu)) l) (h2 : AllL (OkSq (DB B ot nu)) q) : Pg :=
  { toPd := pdB l q, den := DB B ot nu, ok := h1.mem, okFam := bk_fam h, okSeq := h2.mem, okSl := fun _ => famD_sl, okEq := fun t h => absurd h List.not_mem_nil, okEqh := fun t h => absurd h List.not_mem_nil, okStr := fun t h => absurd h List.not_mem_nil, okExt := fun t h => absurd h List.not_mem_nil, okCps := fun t h => absurd h List.not_mem_nil }
theorem isB_pg {h : BkOk B} {l q h1 h2} : IsB B nu (pgB h ot nu l q h1 h2) := ⟨rfl, rfl, rfl, rfl, rfl, rfl⟩
theorem IsB.upd {P P' : Pg} {ks : List Nat} {xs : List Int} (h : IsB B nu P) (hp : P'.prog = P.prog) (hd : P'.den = updD P.den ks xs) : IsB B nu P' :=
  ⟨hp.trans h.prog, by rw [hd]; exact h.int, by rw [hd]; exact h.str, by rw [hd]; exact h.slc, by rw [hd]; exact h.ro, by rw [hd]; exact h.obj⟩
theorem upd_int (D : Dn) (ks : List Nat) (xs : List Int) : (updD D ks xs).int = D.int := rfl
theorem upd_str (D : Dn) (ks : List Nat) (xs : List Int) : (updD D ks xs).str = D.str := rfl
theorem dv_ho {D : Dn} {k : Nat} {x : Int} (h : D.hole k = .int .i64 x) : Dv D (ho k) x := .hole h
theorem dv_li {D : Dn} (n : Int) : Dv D (li n) n := .lit n
theorem dv_bn {D : Dn} {t : Nat} {a b : Value} {x y : Int} (ht : 1 ≤ t ∧ t ≤ 20) (ha : Dv D a x) (hb : Dv D b y) : Dv D (bn t a b) (binN t x y) := .bin ht ha hb
/-- numbers of an element -/
theorem dvB {D : Dn} {t : Nat} {a : Value} {k : Nat} (hi : D.int = (DB B (fun _ => 0) nu).int) (h100 : 100 ≤ t) (ht : t < 1000) (ha : Dv D a (k : Int)) {y : Int} (hy : numB B nu t [(k : Int)] = y) : Dv D (ap1 t a) y := by
  have := Dv.ap1 (D := D) (t := t) h100 ha
  rwa [hi, show (DB B (fun _ => 0) nu).int t [(k : Int)] = numB B nu t [(k : Int)] from famD_num ht _, hy] at this
theorem dvD {t : Nat} {a : Value} {k : Nat} (h100 : 100 ≤ t) (ht : t < 1000) (ha : Dv (DB B ot nu) a (k : Int)) {y : Int} (hy : numB B nu t [(k : Int)] = y) : Dv (DB B ot nu) (ap1 t a) y := dvB (D := DB B ot nu) rfl h100 ht ha hy
theorem dv_nR {D : Dn} (hi : D.int = (DB B (fun _ => 0) nu).int) (h : BkOk B) : Dv D nR (B.n : Int) := by
  have := Dv.apL (D := D) (t := 1001) (by decide) (DvL.nil D)
  rw [hi, show (DB B (fun _ => 0) nu).int 1001 [] = lenV B.vr from famD_len (c := 1) (by decide) []] at this
  obtain ⟨sa, cap, e, _⟩ := h.r
  rw [e] at this
  exact this
theorem dv_nM {D : Dn} (hi : D.int = (DB B (fun _ => 0) nu).int) (h : BkOk B) : Dv D nM (B.m : Int) := by
  have := Dv.apL (D := D) (t := 1002) (by decide) (DvL.nil D)
  rw [hi, show (DB B (fun _ => 0) nu).int 1002 [] = lenV B.vm from famD_len (c := 2) (by decide) []] at this
  obtain ⟨sa, cap, e, _⟩ := h.m
  rw [e] at this
  exact this
theorem sdB {D : Dn} (hs : D.str = strB B) {c : Nat} {a : Value} {x : Int} {s : ByteArray} (ha : Dv D a x) (h : strB B c [x] = s) : SDen D (mkF1 98 c [a]) s := by
  have := SDen.f1 (D := D) (c := c) ha
  rwa [hs, h] at this
theorem sdC {D : Dn} (hs : D.str = strB B) : SDen D sC B.c := by
  have := SDen.f0 (D := D) (c := 9)
  rwa [hs] at this
end
end Sy
end Go.Proofs.Ytlmnhlmgbcpclaa
