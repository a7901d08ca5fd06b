/- What is known of the calls that gauge's volumes make, for the reckoner with symbols. -/
import Derived.Test.YtpfhfphcmomfdaaSZ
import Derived.Test.YtpfhfphcmomfdaaJB
namespace Go.Proofs.Ytpfhfphcmomfdaa
open Go.RowKit
namespace Sy
open Go.RowKit

/-- the area of a circle up to a level, which may lie beyond it -/
def clampJ (ρ level : Int) : Nat := (min (max 0 (ρ + level)) (2 * ρ)).toNat
/-- num / 100000 as the program has it -/
def floorP (n : Int) : Int := if n.tmod 100000 < 0 then wrap64 (wrap64 (n.tdiv 100000) - 1) else wrap64 (n.tdiv 100000)
def ceilP (n : Int) : Int := wrap64 (-(floorP (IntKind.i64.wrap (-n))))
def snOf (xs : List Int) (i : Nat) : Sn := ⟨xs.getD (i * 3) 0, xs.getD (i * 3 + 1) 0, xs.getD (i * 3 + 2) 0⟩
def caskS (s : ByteArray) (bung : Int) (xs : List Int) : Int × Int :=
  if caskE s bung (xs.length / 3) ≠ 0 then (0, caskE s bung (xs.length / 3)) else eachF (snE bung (snOf xs)) (xs.length / 3) 0
/-- what the sums stand for -/
def loZ (L : Int) (xs : List Int) : Nat → Int
  | 0 => 0
  | k + 1 => IntKind.i64.wrap (loZ L xs k + IntKind.i64.wrap (IntKind.i64.wrap (xs.getD ((k + 1) * 3 + 0) 0 - xs.getD (k * 3 + 0) 0) * arLo (min (xs.getD (k * 3 + 1) 0) (xs.getD ((k + 1) * 3 + 1) 0)) (clampJ (min (xs.getD (k * 3 + 1) 0) (xs.getD ((k + 1) * 3 + 1) 0)) L)))
def hiZ (L : Int) (xs : List Int) : Nat → Int
  | 0 => 0
  | k + 1 => IntKind.i64.wrap (hiZ L xs k + IntKind.i64.wrap (IntKind.i64.wrap (xs.getD ((k + 1) * 3 + 0) 0 - xs.getD (k * 3 + 0) 0) * arHi (max (xs.getD (k * 3 + 2) 0) (xs.getD ((k + 1) * 3 + 2) 0)) (clampJ (max (xs.getD (k * 3 + 2) 0) (xs.getD ((k + 1) * 3 + 2) 0)) L)))
/-- the ends of the volume up to a dip -/
def vLo (bung : Int) (xs : List Int) (N : Nat) (m : Int) : Int := floorP (loZ (m - bung) xs (N - 1))
def vHi (bung : Int) (xs : List Int) (N : Nat) (m : Int) : Int := ceilP (hiZ (m - bung) xs (N - 1))
/-- where a search ends -/
def bis (p : Nat → Bool) (lo hi : Nat) : Nat :=
  if lo < hi then (if p ((lo + hi) / 2) then bis p lo ((lo + hi) / 2) else bis p ((lo + hi) / 2 + 1) hi) else lo
termination_by hi - lo
/-- the dips of a volume -/
def enS (bung : Int) (xs : List Int) (N : Nat) (vol : Int) : Nat := bis (fun d => decide (vol ≤ vHi bung xs N (d : Int))) 0 (2 * bung + 1).toNat
def tmS (bung : Int) (xs : List Int) (N : Nat) (vol : Int) : Nat := bis (fun d => decide (vol < vLo bung xs N (d : Int))) 0 (2 * bung + 1).toNat
/-- n / 1000, rounded down and up -/
def floorM (n : Int) : Int := if n.tmod 1000 < 0 then wrap64 (wrap64 (n.tdiv 1000) - 1) else wrap64 (n.tdiv 1000)
def ceilM (n : Int) : Int := wrap64 (-(floorM (IntKind.i64.wrap (-n))))
def intG (s : ByteArray) (t : Nat) (xs : List Int) : Int :=
  match t, xs with
  | 101, [ρ, l] => arLo ρ (clampJ ρ l)
  | 102, [ρ, l] => arHi ρ (clampJ ρ l)
  | 103, [n, lo, hi] => numE n lo hi
  | 104, xs => firstL xs
  | 105, [n] => floorP n
  | 106, [n] => ceilP n
  | 107, [n, b] => n % b
  | 108, [n] => floorM n
  | 109, [n] => ceilM n
  | 120, b :: xs => (caskS s b xs).1
  | 121, b :: xs => (caskS s b xs).2
  | 122, b :: v :: xs => (enS b xs (xs.length / 3) v : Int)
  | 123, b :: v :: xs => (tmS b xs (xs.length / 3) v : Int) - 1
  | _, _ => 0
/-- the areas of a circle in a block -/
def areaObj (ρ : Int) (ob : Obj) : Prop := 10 ≤ ρ ∧ ρ ≤ 800 ∧ ∀ (W : World) (b : Nat), W.heap[b]? = some ob → ∀ j : Nat, (j : Int) ≤ 2 * ρ → W.cell? ⟨b, 0 + j * 2, none⟩ = some (.int .i64 (arLo ρ j)) ∧ W.cell? ⟨b, 0 + j * 2 + 1, none⟩ = some (.int .i64 (arHi ρ j))
def objG (O : Obj → Prop) (k : Nat) (xs : List Int) (ob : Obj) : Prop :=
  match k, xs with
  | 0, [ρ] => areaObj ρ ob
  | 1, _ => O ob
  | _, _ => False
def denG (s : ByteArray) (hole : Nat → Value) (O : Obj → Prop) : Dn := { hole := hole, int := intG s, obj := objG O, pin := O }

def lenT (t : Value) : Value := .iface 1 (.tuple #[.iface 3 (.tuple #[.int .i64 2, t]), .int .i64 1])
noncomputable def spAreas (f : Nat) (l : List Value) : CallF := fun t args hp nid =>
  match t with
  | .fn g => ck (Nat.beq g f && Nat.beq args.length 1) (ob args[0]? fun r => ck (l.any fun x => eqT 90 x r) (ob (hp.set nid (some (.opq 0 [r]))) fun hp => some (.iface 91 (.tuple #[.int .i64 (.ofNat nid), lenT r]), hp, Nat.succ nid)))
  | .yield _ => none
theorem cell_obj {W V : World} {b g i : Nat} (h : W.heap[b]? = V.heap[g]?) : W.cell? ⟨b, i, none⟩ = V.cell? ⟨g, i, none⟩ := by
  simp only [World.cell?, h]
theorem ok_spAreas {P : Pg} (hp : P.prog = Try.prog) {s : ByteArray} {hole : Nat → Value} {O : Obj → Prop} (hd : P.den = denG s hole O) {l : List Value} (hl : ∀ r ∈ l, ∃ ρ : Nat, Dv P.den r ρ ∧ 10 ≤ ρ ∧ ρ ≤ 800) : CallOk P (spAreas 37 l) := fun t args hp0 nid v hp' nid' h => by
  cases t with
  | yield l => cases h
  | fn g =>
    obtain ⟨hck, h1⟩ := ck_some h
    clear h
    simp only [Bool.and_eq_true] at hck
    have hg := Nat.eq_of_beq_eq_true hck.1
    subst hg
    obtain ⟨r, hr, h2⟩ := ob_some h1
    clear h1
    obtain ⟨hin, h3⟩ := ck_some h2
    clear h2
    obtain ⟨hp1, hset, h4⟩ := ob_some h3
    clear h3
    cases h4
    obtain ⟨x, hx, hxr⟩ := List.any_eq_true.1 hin
    have := eqT_eq _ _ _ hxr
    subst this
    obtain ⟨ρ, d, h10, h8⟩ := hl x hx
    refine ⟨Nat.le_succ _, fun B M args' w ha hh hB hf => ?_⟩
    obtain ⟨s', rfl, hvr⟩ := args_one ha (Nat.eq_of_beq_eq_true hck.2) hr
    have hs' : s' = .int .i64 ρ := by
      obtain ⟨y, e, d2⟩ := vrel_num hvr d.num
      rw [e, d.unique _ d2]
    subst hs'
    have hM : M nid = none := hf nid (Nat.le_refl _) (Nat.lt_succ_self _)
    show Calls P.prog _ _ _ _
    rw [hp]
    refine Calls.mono (areasOf_new ρ w h10 h8) ?_
    rintro e w' ⟨⟨g, cap, rfl, hge, hc⟩, hb⟩
    obtain ⟨ob, hob⟩ : ∃ ob, w'.heap[g]? = some ob := by
      have h0 := (hc 0 (Nat.zero_le _)).1
      cases hq : w'.heap[g]? with
      | some ob => exact ⟨ob, rfl⟩
      | none => simp [World.cell?, hq] at h0
    have hlen : Dv P.den (lenT x) ((2 * ρ + 1 : Nat) : Int) := by
      have e : ((2 * ρ + 1 : Nat) : Int) = binN 1 (binN 3 2 (ρ : Int)) 1 := by
        simp only [binN]
        rw [IntWalk.i64_in (2 * (ρ : Int)) (by omega), IntWalk.i64_in _ (by omega)]
        omega
      rw [e]
      exact .bin (by decide) (.bin (by decide) (.lit 2) d) (.lit 1)
    obtain ⟨k1, k2⟩ := new_post (r := 0) (o := .opq 0 [x]) (ob := ob) hh hB hM hb hge hob ⟨rfl, [(ρ : Int)], rfl, fun i v y hv hy => by
      match i with
      | 0 => simp at hv hy; subst hv hy; exact d
      | i + 1 => simp at hv, by
      rw [hd]
      refine ⟨by omega, by omega, fun W b hW j hj => ?_⟩
      rw [cell_obj (hW.trans hob.symm), cell_obj (hW.trans hob.symm)]
      exact hc j (by omega)⟩ (T.get_set _ _ _ _ hset)
    exact ⟨M.upd nid g 0, _, rfl, .osl (Mp.upd_self _ _ _ _) hlen, k1, k2⟩

def withOpq {β : Type} (o : AObj) (k : Nat → List Value → Option β) : Option β :=
  match o with
  | .opq n l => k n l
  | _ => none
theorem withOpq_some {β : Type} {o : AObj} {k : Nat → List Value → Option β} {y : β} (h : withOpq o k = some y) : ∃ n l, o = .opq n l ∧ k n l = some y := by
  cases o with
  | opq n l => exact ⟨n, l, rfl, h⟩
  | _ => cases h
noncomputable def spUp (f : Nat) (lv : Value) : CallF := fun t args hp nid =>
  match t with
  | .fn g => ck (Nat.beq g f && Nat.beq args.length 2) (ob args[0]? fun s => ob args[1]? fun level => withOsl s fun id lt => ob (hp.get id) fun o => withOpq o fun k l => ob l[0]? fun r =>
      ck (Nat.beq k 0 && (Nat.beq l.length 1 && (eqT 90 lt (lenT r) && eqT 90 level lv))) (some (.agg #[.iface 101 (.tuple #[r, lv]), .iface 102 (.tuple #[r, lv])], hp, nid)))
  | .yield _ => none
theorem ok_spUp {P : Pg} (hp : P.prog = Try.prog) {s : ByteArray} {hole : Nat → Value} {O : Obj → Prop} (hd : P.den = denG s hole O) {lv : Value} {L : Int} (hL : Dv P.den lv L) (h0 : -10000 ≤ L) (h1 : L ≤ 10000) : CallOk P (spUp 38 lv) := fun t args hp0 nid v hp' nid' h => by
  cases t with
  | yield l => cases h
  | fn g =>
      obtain ⟨hg0, h2⟩ := ck_some h
      clear h
      simp only [Bool.and_eq_true] at hg0
      have hg := Nat.eq_of_beq_eq_true hg0.1
      subst hg
      obtain ⟨s0, hs0, h3⟩ := ob_some h2
      clear h2
      obtain ⟨level, hs1, h4⟩ := ob_some h3
      clear h3
      obtain ⟨id, lt, rfl, h5⟩ := withOsl_some h4
      clear h4
      obtain ⟨o, ho, h6⟩ := ob_some h5
      clear h5
      obtain ⟨k, l, rfl, h7⟩ := withOpq_some h6
      clear h6
      obtain ⟨r, hl0, h8⟩ := ob_some h7
      clear h7
      obtain ⟨hck, h9⟩ := ck_some h8
      clear h8
      cases h9
      simp only [Bool.and_eq_true] at hck
      have ek := Nat.eq_of_beq_eq_true hck.1
      have el := Nat.eq_of_beq_eq_true hck.2.1
      have e1 := eqT_eq _ _ _ hck.2.2.1
      have e2 := eqT_eq _ _ _ hck.2.2.2
      subst ek
      subst e1
      subst e2
      have elr : l = [r] := by
        match l, el with
        | [z], _ => simp at hl0; rw [hl0]
      subst elr
      refine ⟨Nat.le_refl _, fun B M args' w ha hh hB hf => ?_⟩
      obtain ⟨a0, q0, r0⟩ := ha.get hs0
      obtain ⟨a1, q1, r1⟩ := ha.get hs1
      have hlen2 : args'.toList.length = 2 := by rw [← ha.1]; exact Nat.eq_of_beq_eq_true hg0.2
      have hargs : args' = #[a0, a1] := by
        apply Array.ext'
        match he : args'.toList, hlen2 with
        | [z0, z1], _ => rw [he] at q0 q1; simp at q0 q1; rw [q0, q1]
      subst hargs
      obtain ⟨y, e3, d3⟩ := vrel_num r1 hL.num
      rw [e3]
      have := hL.unique _ d3
      subst this
      cases r0 with
      | @osl _ b rr n cc _ hb hn =>
        obtain ⟨b1, r1', ob, k1, k2, k3, k4⟩ := hh.has id _ ho
        rw [hb] at k1
        cases k1
        obtain ⟨hr0, xs, l1, l2, l3⟩ := k4
        subst hr0
        match xs, l1 with
        | [ρ], _ =>
          have dr : Dv P.den r ρ := l2 0 r ρ rfl rfl
          rw [hd] at l3
          obtain ⟨m1, m2, m3⟩ := (l3 : areaObj ρ ob)
          have hlen : Dv P.den (lenT r) (2 * ρ + 1) := by
            have e : 2 * ρ + 1 = binN 1 (binN 3 2 ρ) 1 := by
              simp only [binN]
              rw [IntWalk.i64_in (2 * ρ) (by omega), IntWalk.i64_in _ (by omega)]
            rw [e]
            exact .bin (by decide) (.bin (by decide) (.lit 2) dr) (.lit 1)
          have hn2 := hlen.unique _ hn
          obtain ⟨N, rfl⟩ : ∃ N : Nat, ρ = (N : Int) := ⟨ρ.toNat, by omega⟩
          have hj : ((clampJ (N : Int) L : Nat) : Int) = min (max 0 ((N : Int) + L)) (2 * (N : Int)) := by unfold clampJ; omega
          obtain ⟨c0, c1⟩ := m3 w b k3 (clampJ (N : Int) L) (by omega)
          show Calls P.prog _ _ _ _
          rw [hp]
          refine Calls.mono (upTo_any N b 0 n cc (clampJ (N : Int) L) L _ _ w (by omega) (by omega) (by omega) h0 h1 hj c0 c1) ?_
          rintro e w' ⟨rfl, hbl⟩
          obtain ⟨p1, p2⟩ := below_post nid hh hbl
          have da : ∀ t, 100 ≤ t → Dv P.den (.iface t (.tuple #[r, level])) (P.den.int t [(N : Int), L]) := fun t ht => .app ht rfl (fun i v x hv hx => by
            match i with
            | 0 => simp at hv hx; subst hv hx; exact dr
            | 1 => simp at hv hx; subst hv hx; exact hL
            | i + 2 => simp at hv)
          refine ⟨M, _, rfl, LRel.agg (LRel.cons ?_ (LRel.cons ?_ (LRel.nil M))), p1, p2⟩
          · refine VRel.sym (P := P) (x := arLo (N : Int) (clampJ (N : Int) L)) ?_ (.inr (by decide))
            have e : P.den.int 101 [(N : Int), L] = arLo (N : Int) (clampJ (N : Int) L) := by rw [hd]; rfl
            rw [← e]; exact da 101 (by decide)
          · refine VRel.sym (P := P) (x := arHi (N : Int) (clampJ (N : Int) L)) ?_ (.inr (by decide))
            have e : P.den.int 102 [(N : Int), L] = arHi (N : Int) (clampJ (N : Int) L) := by rw [hd]; rfl
            rw [← e]; exact da 102 (by decide)
      | sym h ht => rcases ht with h | h <;> exact absurd h (by decide)
end Sy
end Go.Proofs.Ytpfhfphcmomfdaa
