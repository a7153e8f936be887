import PyProof.Rows.All
import Wide.All
import OpenK.AllK
import Wide.FinOn
import HandS.ForMost
import HandS.Base
import HandS.Call
import HandS.List
import HandS.Comp
import HandS.Ends
import HandS.Dict
import HandS.Iter
import HandS.Text
import HandS.Words
import HandS.WordsList
import HandS.WordsDict
import HandS.ForExc
import HandS.Defaults
import HandS.HeadEnd
import HandS.IsInst
import HandS.ExcIs
import PyProof.ReprRoads
import PyProof.CallFns
import HandS.ExcField
import HandS.CallSlots
import HandS.Codes
import HandS.HeadHook2
import HandS.HeadHook4
import HandS.Head0
import HandS.Head1
import HandS.Head2
import HandS.Walk
import HandS.Style
import PySem.Challenge.RW_scooprow_k09_holders_exchanged
set_option Elab.async false
set_option linter.all false
set_option maxRecDepth 100000
set_option maxHeartbeats 4000000
/-! SRA: operators by short names; the state of the draws; what a draw leaves. -/
namespace SR
open PySem L2
abbrev qAdd : R2 := rI0 fun i j => .int (i + j)
abbrev qSub : R2 := rI0 fun i j => .int (i - j)
abbrev qMul : R2 := rI CMul fun i j => .int (i * j)
abbrev qFd : R2 := rI CDivN fun i j => .int (i.fdiv j)
abbrev qMod : R2 := rI (fun _ j => j ≠ 0) fun i j => .int (i.fmod j)
abbrev qPow : R2 := rI CPow fun i j => .int (i ^ j.toNat)
abbrev qLt : R2 := rI0 fun i j => .bl (decide (i < j))
abbrev qLe : R2 := rI0 fun i j => .bl (decide (i ≤ j))
abbrev qGt : R2 := rI0 fun i j => .bl (decide (j < i))
abbrev qGe : R2 := rI0 fun i j => .bl (decide (j ≤ i))
abbrev qInt1 : List V → Hp → VK → Prop := fun xs H Q => (∃ i, xs = [.int i] ∧ Q (.int i) H) ∨ ∃ k, xs = [.bl k] ∧ Q (.int (if k then 1 else 0)) H
abbrev qListOf (K : PySem.W.Frag) : List V → Hp → VK → Prop := fun xs H Q => ∃ p ys, xs = [.ref p] ∧ (SqL K H p ys ∨ SqT K H p ys) ∧ ∀ l, H l = none → Q (.ref l) (upd H l (.lst ys))
abbrev qLen (K : PySem.W.Frag) : List V → Hp → VK → Prop := fun xs H Q => ∃ p ys, xs = [.ref p] ∧ (SqL K H p ys ∨ SqT K H p ys) ∧ Q (.int ys.length) H
abbrev qMin2 : List V → Hp → VK → Prop := fun xs H Q => ∃ i j, xs = [.int i, .int j] ∧ Q (.int (if j < i then j else i)) H
abbrev qMax2 : List V → Hp → VK → Prop := fun xs H Q => ∃ i j, xs = [.int i, .int j] ∧ Q (.int (if j > i then j else i)) H

/-! ### the state of all draws: its dict at d, the list of great cells at g, that of all cells at c; b: how often it may still be mixed -/
def stK (g c : Addr) (r t : Int) : List (Key × V) := [(.inr "great", .ref g), (.inr "cells", .ref c), (.inr "rest", .int r), (.inr "turn", .int t)]
def St0 (H : Hp) (d g c : Addr) (b : Nat) (r t : Int) (gs cs : List Int) : Prop :=
  H d = some (.dK (stK g c r t)) ∧ H g = some (.lst (gs.map V.int)) ∧ H c = some (.lst (cs.map V.int)) ∧ g ≠ c ∧ 0 ≤ t ∧ t + b ≤ 2 ^ 40
def StB (H : Hp) (d g c : Addr) (b : Nat) : Prop := ∃ r t gs cs, St0 H d g c b r t gs cs
/-- all but the state's dict and its great cells stay -/
def Kp (d g : Addr) (H H' : Hp) : Prop := ∀ a o, a ≠ d → a ≠ g → H a = some o → H' a = some o
theorem Kp.refl {d g : Addr} (H : Hp) : Kp d g H H := fun _ _ _ _ h => h
theorem Kp.trans {d g : Addr} {H H1 H2 : Hp} (x : Kp d g H H1) (y : Kp d g H1 H2) : Kp d g H H2 := fun a o h1 h2 h => y a o h1 h2 (x a o h1 h2 h)
theorem Kp.new {d g : Addr} {H : Hp} {p : Addr} {o : HO} (h : H p = none) : Kp d g H (upd H p o) := fun a u _ _ e => by
  rw [upd_ne (ne_of_none e h)]
  exact e
theorem StB.mono {H : Hp} {d g c : Addr} {b b' : Nat} (h : StB H d g c b) (e : b' ≤ b) : StB H d g c b' := by
  obtain ⟨r, t, gs, cs, h1, h2, h3, h4, h5, h6⟩ := h
  exact ⟨r, t, gs, cs, h1, h2, h3, h4, h5, by omega⟩
theorem St0.dg {H : Hp} {d g c : Addr} {b : Nat} {r t : Int} {gs cs : List Int} (h : St0 H d g c b r t gs cs) : d ≠ g := ne_of h.1 h.2.1 (by intro z; cases z)
theorem St0.dc {H : Hp} {d g c : Addr} {b : Nat} {r t : Int} {gs cs : List Int} (h : St0 H d g c b r t gs cs) : d ≠ c := ne_of h.1 h.2.2.1 (by intro z; cases z)
/-- a new object leaves the state -/
theorem StB.new {H : Hp} {d g c : Addr} {b : Nat} (h : StB H d g c b) {p : Addr} {o : HO} (hp : H p = none) : StB (upd H p o) d g c b := by
  obtain ⟨r, t, gs, cs, h1, h2, h3, h4, h5⟩ := h
  exact ⟨r, t, gs, cs, by rw [upd_ne (ne_of_none h1 hp)]; exact h1, by rw [upd_ne (ne_of_none h2 hp)]; exact h2, by rw [upd_ne (ne_of_none h3 hp)]; exact h3, h4, h5⟩
/-- an object that is none of the state's is changed -/
theorem StB.upd {H : Hp} {d g c : Addr} {b : Nat} (h : StB H d g c b) {p : Addr} {o : HO} (h1 : p ≠ d) (h2 : p ≠ g) (h3 : p ≠ c) : StB (upd H p o) d g c b := by
  obtain ⟨r, t, gs, cs, e1, e2, e3, e4⟩ := h
  exact ⟨r, t, gs, cs, by rw [upd_ne h1.symm]; exact e1, by rw [upd_ne h2.symm]; exact e2, by rw [upd_ne h3.symm]; exact e3, e4⟩

/-! ### promises of the draws -/
def spMixed : Sp := fun vs H Q _ => ∃ (d g c : Addr) (b : Nat), vs = [.ref d] ∧ ∃ r t gs cs, St0 H d g c (b + 1) r t gs cs ∧
  ∀ (i : Int) H', St0 H' d g c b r (t + 1) gs cs → Kp d g H H' → Q (.int i) H'
def spTake : Sp := fun vs H Q _ => ∃ (d g c : Addr) (b : Nat) (n : Int), vs = [.ref d, .int n] ∧ StB H d g c (b + 1) ∧ 0 < n ∧ n < 2 ^ 29 ∧
  ∀ (i : Int) H', 0 ≤ i → i < n → StB H' d g c b → Kp d g H H' → Q (.int i) H'
def spPick (K : PySem.W.Frag) : Sp := fun vs H Q _ => ∃ (d g c : Addr) (b : Nat) (a : Addr) (xs : List V), vs = [.ref d, .ref a] ∧ StB H d g c (b + 1) ∧ SqL K H a xs ∧ a ≠ d ∧ a ≠ g ∧ 0 < xs.length ∧ xs.length < 1000 ∧
  ∀ v H', v ∈ xs → StB H' d g c b → Kp d g H H' → Q v H'
def spBegun (K : PySem.W.Frag) : Sp := fun vs H Q _ => ∃ (a : Addr) (ns : List Int), vs = [.ref a] ∧ SqL K H a (ns.map V.int) ∧ ns.length ≤ 63 ∧
  ∀ d g c H', StB H' d g c (2 ^ 39) → (∀ x o, H x = some o → H' x = some o) → H d = none → H g = none → H c = none → Q (.ref d) H'

theorem kstr {x y : Str} (h : x ≠ y) : ¬ (Sum.inr x : Key) = Sum.inr y := fun e => h (Sum.inr.inj e)
end SR

set_option Elab.async false
set_option linter.all false
set_option maxRecDepth 100000
set_option maxHeartbeats 4000000
namespace SR
open PySem L2
section
variable {H : Hp} {d g c : Addr} {r t : Int} {K : PySem.W.Frag}
theorem get_great (h : H d = some (.dK (stK g c r t))) : DGet H d (.str "great") (some (.ref g)) := .inl ⟨_, .inr "great", .inl h, rfl, by rw [stK, valV_pos rfl]⟩
theorem get_cells (h : H d = some (.dK (stK g c r t))) : DGet H d (.str "cells") (some (.ref c)) := .inl ⟨_, .inr "cells", .inl h, rfl, by rw [stK, valV_neg (kstr (by decide +kernel)), valV_pos rfl]⟩
theorem get_rest (h : H d = some (.dK (stK g c r t))) : DGet H d (.str "rest") (some (.int r)) := .inl ⟨_, .inr "rest", .inl h, rfl, by rw [stK, valV_neg (kstr (by decide +kernel)), valV_neg (kstr (by decide +kernel)), valV_pos rfl]⟩
theorem get_turn (h : H d = some (.dK (stK g c r t))) : DGet H d (.str "turn") (some (.int t)) := .inl ⟨_, .inr "turn", .inl h, rfl, by rw [stK, valV_neg (kstr (by decide +kernel)), valV_neg (kstr (by decide +kernel)), valV_neg (kstr (by decide +kernel)), valV_pos rfl]⟩
theorem putK_rest (y : Int) : putK (stK g c r t) (.inr "rest") (.int y) = stK g c y t := by
  have n1 : ¬ ("great" : Str) = "rest" := by decide +kernel
  have n2 : ¬ ("cells" : Str) = "rest" := by decide +kernel
  have n3 : ¬ ("turn" : Str) = "rest" := by decide +kernel
  simp [putK, stK, n1, n2, n3]
theorem putK_turn (y : Int) : putK (stK g c r t) (.inr "turn") (.int y) = stK g c r y := by
  have n1 : ¬ ("great" : Str) = "turn" := by decide +kernel
  have n2 : ¬ ("cells" : Str) = "turn" := by decide +kernel
  have n3 : ¬ ("rest" : Str) = "turn" := by decide +kernel
  simp [putK, stK, n1, n2, n3]
theorem put_rest (y : Int) (h : H d = some (.dK (stK g c r t))) : DPut H d (.str "rest") (.int y) (upd H d (.dK (stK g c y t))) :=
  .inl ⟨_, .inr "rest", h, rfl, small1000 (by show 4 ≤ 1000; decide), by rw [putK_rest]⟩
theorem put_turn (y : Int) (h : H d = some (.dK (stK g c r t))) : DPut H d (.str "turn") (.int y) (upd H d (.dK (stK g c r y))) :=
  .inl ⟨_, .inr "turn", h, rfl, small1000 (by show 4 ≤ 1000; decide), by rw [putK_turn]⟩
/-- the state with another rest, another turn -/
theorem St0.rest {b : Nat} {gs cs : List Int} (h : St0 H d g c b r t gs cs) (y : Int) : St0 (upd H d (.dK (stK g c y t))) d g c b y t gs cs :=
  ⟨upd_same, by rw [upd_ne h.dg.symm]; exact h.2.1, by rw [upd_ne h.dc.symm]; exact h.2.2.1, h.2.2.2⟩
theorem St0.turn {b : Nat} {gs cs : List Int} (h : St0 H d g c (b + 1) r t gs cs) : St0 (upd H d (.dK (stK g c r (t + 1)))) d g c b r (t + 1) gs cs :=
  ⟨upd_same, by rw [upd_ne h.dg.symm]; exact h.2.1, by rw [upd_ne h.dc.symm]; exact h.2.2.1, h.2.2.2.1, by have := h.2.2.2.2; omega, by have := h.2.2.2.2; omega⟩
theorem St0.pop {b : Nat} {x : Int} {gs cs : List Int} (h : St0 H d g c b r t (x :: gs) cs) : St0 (upd H g (.lst (gs.map V.int))) d g c b r t gs cs :=
  ⟨by rw [upd_ne h.dg]; exact h.1, upd_same, by rw [upd_ne h.2.2.2.1.symm]; exact h.2.2.1, h.2.2.2⟩
theorem St0.new {b : Nat} {gs cs : List Int} (h : St0 H d g c b r t gs cs) {p : Addr} {o : HO} (hp : H p = none) : St0 (upd H p o) d g c b r t gs cs :=
  ⟨by rw [upd_ne (ne_of_none h.1 hp)]; exact h.1, by rw [upd_ne (ne_of_none h.2.1 hp)]; exact h.2.1, by rw [upd_ne (ne_of_none h.2.2.1 hp)]; exact h.2.2.1, h.2.2.2⟩
theorem Kp.own {o : HO} : Kp d g H (upd H d o) := fun a u h1 _ e => by rw [upd_ne h1]; exact e
theorem Kp.ownG {o : HO} : Kp d g H (upd H g o) := fun a u _ h2 e => by rw [upd_ne h2]; exact e
end
def primes : List Int := [2147483629, 2147483587, 2147483579, 2147483563, 2147483549, 2147483543]
theorem primes_mem {i : Nat} {x : V} (h : (primes.map V.int)[i]? = some x) : ∃ p : Int, x = .int p ∧ 2147483543 ≤ p ∧ p ≤ 2147483629 := by
  have hx := List.mem_of_getElem? h
  obtain ⟨p, hp, rfl⟩ := List.mem_map.mp hx
  refine ⟨p, rfl, ?_⟩
  simp [primes] at hp
  omega
theorem ints_at {ns : List Int} {i : Nat} {x : V} (h : (ns.map V.int)[i]? = some x) : ∃ z, ns[i]? = some z ∧ x = .int z := by
  rw [List.getElem?_map] at h
  cases e : ns[i]? with
  | none => rw [e] at h; cases h
  | some z => rw [e] at h; exact ⟨z, rfl, (Option.some.inj h).symm⟩
def t_mixed (K : PySem.W.Frag) : TS := tSeq (tAsg (tOp qAdd (tDGet (tVar 0) (tC (.str "turn"))) (tC (.int 1))) (gName 1))
  (tSeq (sDPut (tVar 0) (tC (.str "turn")) (tVar 1))
  (tSeq (tAsg (tC (.int 0)) (gName 2))
  (tSeq (tFor (iList K (tLst (tCons (tC (.int 2147483629)) (tCons (tC (.int 2147483587)) (tCons (tC (.int 2147483579)) (tCons (tC (.int 2147483563)) (tCons (tC (.int 2147483549)) (tCons (tC (.int 2147483543)) (tNil))))))))) (gName 3)
  (tSeq (tAsg (tOp qAdd (tOp qMul (tC (.int 130363)) (tVar 1)) (tOp qFd (tVar 3) (tC (.int 13)))) (gName 4))
  (tSeq (tFor (iList K (tDGet (tVar 0) (tC (.str "cells")))) (gName 5)
  (tAsg (tOp qMod (tCB qInt1 (tCons (tOp qAdd (tOp qMul (tVar 4) (tC (.int 48271))) (tVar 5)) (tNil))) (tVar 3)) (gName 4)))
  (tAsg (tOp qAdd (tOp qMul (tVar 2) (tC (.int 2147483647))) (tOp qMod (tCB qInt1 (tCons (tOp qPow (tVar 4) (tC (.int 5))) (tNil))) (tVar 3))) (gName 2)))))
  (tRet (tVar 2)))))
theorem pure_mixed {K : PySem.W.Frag} (vs : List V) (H : Hp) (Q : VK) (E : XK) (h : spMixed vs H Q E) : t_mixed K { nx := fun _ H' => Q .non H', rt := Q } (start ["state", "turn", "found", "prime", "blend", "cell"] vs) H := by
  obtain ⟨d, g, c, b, rfl, r, t, gs, cs, S, k⟩ := h
  -- turn = state["turn"] + 1
  refine ⟨_, rfl, d, _, rfl, get_turn S.1, _, _, rfl, rfl, ?_⟩
  -- state["turn"] = turn
  refine ⟨_, rfl, _, rfl, d, _, rfl, put_turn (t + 1) S.1, ?_⟩
  have S1 := S.turn
  have kp1 : Kp d g H (upd H d (.dK (stK g c r (t + 1)))) := Kp.own
  generalize upd H d (.dK (stK g c r (t + 1))) = H1 at S1 kp1 ⊢
  -- found = 0; for prime in [..]
  refine ⟨by show 6 ≤ sizeLine; exact Nat.le_of_lt (small1000 (by decide)), fun l hl => ⟨l, rfl, ⟨_, SqL.of upd_same⟩, ?_⟩⟩
  have S2 := S1.new (o := .lst (primes.map V.int)) hl
  have kp2 : Kp d g H (upd H1 l (.lst (primes.map V.int))) := kp1.trans (Kp.new hl)
  have hL : upd H1 l (.lst (primes.map V.int)) l = some (.lst (primes.map V.int)) := upd_same
  have ht := S2.2.2.2.2
  refine for_list (K := K) (a := l) (xs := primes.map V.int) (fun i σ H2 => H2 = upd H1 l (.lst (primes.map V.int)) ∧ ∃ (f : Int) (v3 v4 v5 : Option V), σ = [some (.ref d), some (.int (t + 1)), some (.int f), v3, v4, v5])
    ⟨rfl, 0, none, none, none, rfl⟩ (fun i σ H2 _ e => e.1 ▸ SqL.of hL) ?_ ?_
  · rintro i x σ H2 hi ⟨rfl, f, v3, v4, v5, rfl⟩
    obtain ⟨p, rfl, hp1, hp2⟩ := primes_mem hi
    generalize upd H1 l (.lst (primes.map V.int)) = H3 at S2 kp2 hL
    -- blend = 130363 * turn + prime // 13
    refine ⟨_, rfl, 130363, t + 1, rfl, rfl, .inl ⟨by decide, by decide⟩, _, rfl, _, _, rfl, rfl, ⟨by decide, by decide⟩, _, _, rfl, rfl, ?_⟩
    -- for cell in state["cells"]
    refine ⟨_, rfl, d, _, rfl, get_cells S2.1, c, rfl, ⟨_, SqL.of S2.2.2.1⟩, ?_⟩
    refine for_list (K := K) (a := c) (xs := cs.map V.int) (fun j σ H4 => H4 = H3 ∧ ∃ (bl : Int) (w5 : Option V), σ = [some (.ref d), some (.int (t + 1)), some (.int f), some (.int p), some (.int bl), w5] ∧ bl.natAbs < 2 ^ 64)
      ⟨rfl, _, v5, rfl, ?_⟩ (fun j σ H4 _ e => e.1 ▸ SqL.of S2.2.2.1) ?_ ?_
    · have : p.fdiv 13 = p / 13 := Int.fdiv_eq_ediv_of_nonneg _ (by decide)
      rw [this]; omega
    · rintro j x σ H4 hj ⟨rfl, bl, w5, rfl, hb⟩
      obtain ⟨z, _, rfl⟩ := ints_at hj
      refine ⟨_, rfl, bl, 48271, rfl, rfl, .inr ⟨by decide, by decide⟩, _, rfl, _, _, rfl, rfl, .inl ⟨_, rfl, _, rfl, _, p, rfl, rfl, by omega, ?_⟩⟩
      refine ⟨rfl, _, _, rfl, ?_⟩
      have h0 : 0 ≤ (bl * 48271 + z).fmod p := Int.fmod_nonneg_of_pos _ (by omega)
      have h1 : (bl * 48271 + z).fmod p < p := Int.fmod_lt_of_pos _ (by omega)
      omega
    · rintro σ H4 ⟨rfl, bl, w5, rfl, hb⟩
      -- found = found * 2147483647 + int(blend ** 5) % prime
      refine ⟨_, rfl, f, 2147483647, rfl, rfl, .inr ⟨by decide, by decide⟩, _, rfl, bl, 5, rfl, rfl, ⟨by decide, by decide, hb⟩, .inl ⟨_, rfl, _, rfl, _, p, rfl, rfl, by omega, _, _, rfl, rfl, ?_⟩⟩
      exact ⟨rfl, _, _, _, _, rfl⟩
  · rintro σ H2 ⟨rfl, f, v3, v4, v5, rfl⟩
    exact ⟨_, rfl, k f _ S2 kp2⟩
end SR

set_option Elab.async false
set_option linter.all false
set_option maxRecDepth 100000
set_option maxHeartbeats 4000000
namespace SR
open PySem L2
/-! ### data -/
theorem SqL.same {K : PySem.W.Frag} {H H' : Hp} {a : Addr} {xs : List V} (e : Same H H') (h : SqL K H a xs) : SqL K H' a xs := Same.seq e h
theorem SqT.same {K : PySem.W.Frag} {H H' : Hp} {a : Addr} {xs : List V} (e : Same H H') (h : SqT K H a xs) : SqT K H' a xs := by
  rcases h with (h | ⟨o, h⟩) | h
  · exact .inl (.inl (e _ _ h))
  · exact .inl (.inr ⟨o, e _ _ h⟩)
  · exact .inr h
mutual
theorem Dp.same {K : PySem.W.Frag} {H H' : Hp} (e : Same H H') : ∀ (d : PyData) (v : V), Dp K H v d → Dp K H' v d
  | .none, _, h => by cases h; exact .non
  | .bool _, _, h => by cases h; exact .bl _
  | .int _, _, h => by cases h; exact .int _
  | .str _, _, h => by cases h; exact .str _
  | .list ds, _, h => by
    cases h with
    | lst h1 h2 => exact .lst (SqL.same e h1) (DpAll.same e ds _ h2)
  | .tuple ds, _, h => by
    cases h with
    | tup h1 h2 => exact .tup (SqT.same e h1) (DpAll.same e ds _ h2)
  | .dict _, _, h => nomatch h
theorem DpAll.same {K : PySem.W.Frag} {H H' : Hp} (e : Same H H') : ∀ (ds : List PyData) (vs : List V), DpAll K H vs ds → DpAll K H' vs ds
  | [], _, h => by cases h; exact .nil
  | d :: ds, _, h => by
    cases h with
    | cons h1 h2 => exact .cons (Dp.same e d _ h1) (DpAll.same e ds _ h2)
end
theorem dp_ints {K : PySem.W.Frag} {H : Hp} : ∀ ns : List Int, DpAll K H (ns.map V.int) (ns.map PyData.int)
  | [] => .nil
  | n :: ns => .cons (.int n) (dp_ints ns)
theorem lay_ints : ∀ ns : List Int, PyData.canLayAll0 (ns.map PyData.int) = true
  | [] => rfl
  | n :: ns => by
    show (PyData.canLay0 (PyData.int n) && PyData.canLayAll0 (ns.map PyData.int)) = true
    rw [lay_ints ns] <;> rfl
theorem depth_ints : ∀ ns : List Int, PyData.depthAll (ns.map PyData.int) = 0
  | [] => rfl
  | n :: ns => by
    show max (PyData.depth (PyData.int n)) (PyData.depthAll (ns.map PyData.int)) = 0
    rw [depth_ints ns]
    simp [PyData.depth]
theorem shaped_list {ds : List PyData} (h : PyData.canLayAll0 ds = true) (h2 : PyData.depthAll ds ≤ 60) : SeqAt.shaped (.list ds) = true := by
  have e1 : PyData.canLay0 (.list ds) = true := h
  have e2 : PyData.depth (.list ds) ≤ 64 := by simp only [PyData.depth]; omega
  unfold SeqAt.shaped
  rw [e1, decide_eq_true e2] <;> rfl
theorem shaped_tup {ds : List PyData} (h : PyData.canLayAll0 ds = true) (h2 : PyData.depthAll ds ≤ 60) : SeqAt.shaped (.tuple ds) = true := by
  have e1 : PyData.canLay0 (.tuple ds) = true := h
  have e2 : PyData.depth (.tuple ds) ≤ 64 := by simp only [PyData.depth]; omega
  unfold SeqAt.shaped
  rw [e1, decide_eq_true e2] <;> rfl
theorem shaped_ints (ns : List Int) : SeqAt.shaped (.list (ns.map PyData.int)) = true := shaped_list (lay_ints ns) (by rw [depth_ints]; decide)
/-! ### the heap without the state -/
def hid (d g : Addr) (H : Hp) : Hp := fun a => if a = d ∨ a = g then none else H a
theorem hid_some {d g : Addr} {H : Hp} {a : Addr} {o : HO} (h : hid d g H a = some o) : H a = some o ∧ a ≠ d ∧ a ≠ g := by
  unfold hid at h
  by_cases e : a = d ∨ a = g
  · rw [if_pos e] at h; cases h
  · rw [if_neg e] at h
    exact ⟨h, fun z => e (.inl z), fun z => e (.inr z)⟩
theorem hid_of {d g : Addr} {H : Hp} {a : Addr} {o : HO} (h : H a = some o) (h1 : a ≠ d) (h2 : a ≠ g) : hid d g H a = some o := by
  unfold hid
  rw [if_neg (fun e => e.elim h1 h2)]
  exact h
theorem hid_same {d g : Addr} {H : Hp} : Same (hid d g H) H := fun _ _ h => (hid_some h).1
theorem Kp.hid {d g : Addr} {H H' : Hp} (k : Kp d g H H') : Same (hid d g H) (hid d g H') := fun a o h => by
  obtain ⟨h0, h1, h2⟩ := hid_some h
  exact hid_of (k a o h1 h2 h0) h1 h2
theorem Kp.of_same {d g : Addr} {H H' : Hp} (k : Same H H') : Kp d g H H' := fun a o _ _ h => k a o h
/-! ### take -/
def t_take (K : PySem.W.Frag) : TS := tSeq (tIfS (tAnd (tTest (tOp rEq (tDGet (tVar 0) (tC (.str "rest"))) (tC (.int 0)))) (tTest (tOp (rNeD K) (tDGet (tVar 0) (tC (.str "great"))) (tLst (tNil)))))
  (sDPut (tVar 0) (tC (.str "rest")) (tBM K "list" rPopAt (tDGet (tVar 0) (tC (.str "great"))) (tCons (tC (.int 0)) (tNil))))
  (tIfS (tTest (tOp rEq (tDGet (tVar 0) (tC (.str "rest"))) (tC (.int 0))))
  (sDPut (tVar 0) (tC (.str "rest")) (tCall spMixed [] E0 (tCons (tVar 0) (tNil))))
  (tNext)))
  (tSeq (tAsg (tOp qMod (tCB qInt1 (tCons (tDGet (tVar 0) (tC (.str "rest"))) (tNil))) (tVar 1)) (gName 2))
  (tSeq (sDPut (tVar 0) (tC (.str "rest")) (tOp qFd (tDGet (tVar 0) (tC (.str "rest"))) (tVar 1)))
  (tRet (tVar 2))))
theorem pure_take {K : PySem.W.Frag} (vs : List V) (H : Hp) (Q : VK) (E : XK) (h : spTake vs H Q E) : t_take K { nx := fun _ H' => Q .non H', rt := Q } (start ["state", "size", "found"] vs) H := by
  obtain ⟨d, g, c, b, n, rfl, ⟨r, t, gs, cs, S⟩, hn0, hn1, k⟩ := h
  -- behind the if
  have fin : ∀ (H1 : Hp) (r1 t1 : Int) (gs1 : List Int), St0 H1 d g c b r1 t1 gs1 cs → Kp d g H H1 →
      (tSeq (tAsg (tOp qMod (tCB qInt1 (tCons (tDGet (tVar 0) (tC (.str "rest"))) (tNil))) (tVar 1)) (gName 2))
        (tSeq (sDPut (tVar 0) (tC (.str "rest")) (tOp qFd (tDGet (tVar 0) (tC (.str "rest"))) (tVar 1))) (tRet (tVar 2)))) { nx := fun _ H' => Q .non H', rt := Q } [some (.ref d), some (.int n), none] H1 := by
    intro H1 r1 t1 gs1 S1 kp
    refine ⟨_, rfl, d, _, rfl, get_rest S1.1, .inl ⟨_, rfl, _, rfl, r1, n, rfl, rfl, by omega, ?_⟩⟩
    refine ⟨_, rfl, d, _, rfl, get_rest S1.1, _, rfl, r1, n, rfl, rfl, ⟨by omega, by omega⟩, _, rfl, d, _, rfl, put_rest _ S1.1, _, rfl, ?_⟩
    exact k _ _ (Int.fmod_nonneg_of_pos _ hn0) (Int.fmod_lt_of_pos _ hn0) ⟨_, _, _, _, S1.rest _⟩ (kp.trans Kp.own)
  have S' : St0 H d g c b r t gs cs := ⟨S.1, S.2.1, S.2.2.1, S.2.2.2.1, S.2.2.2.2.1, by have := S.2.2.2.2.2; omega⟩
  refine ⟨_, rfl, d, _, rfl, get_rest S.1, rfl, _, rfl, ?_⟩
  by_cases e : r = 0
  · subst e
    rw [decide_eq_true (rfl : V.int 0 = V.int 0)]
    refine iteT ⟨_, rfl, d, _, rfl, get_great S.1, by show 0 ≤ sizeLine; exact Nat.zero_le _, fun p hp => ⟨.list (gs.map PyData.int), .list [], ?_, ?_, shaped_ints gs, shaped_ints [], _, rfl, ?_⟩⟩
    · exact .lst (SqL.of (by rw [upd_ne (ne_of_none S.2.1 hp)]; exact S.2.1)) (dp_ints gs)
    · exact .lst (SqL.of upd_same) .nil
    have S2 := S'.new (o := .lst []) hp
    have S2b := S.new (o := .lst []) hp
    have kp2 : Kp d g H (upd H p (.lst [])) := Kp.new hp
    cases gs with
    | nil =>
      -- great is empty: the state is mixed
      rw [show (!PyData.eqv (.list (([] : List Int).map PyData.int)) (.list [])) = false from rfl]
      refine iteF ⟨_, rfl, d, _, rfl, get_rest S2.1, rfl, _, rfl, ?_⟩
      rw [decide_eq_true (rfl : V.int 0 = V.int 0)]
      refine iteT ⟨_, rfl, d, g, c, b, rfl, _, _, _, _, S2b, fun i H3 S3 kp3 => ⟨_, rfl, d, _, rfl, put_rest i S3.1, ?_⟩⟩
      exact fin _ _ _ _ (S3.rest i) ((kp2.trans kp3).trans Kp.own)
    | cons x gs =>
      rw [show (!PyData.eqv (.list ((x :: gs).map PyData.int)) (.list [])) = true from rfl]
      refine iteT ⟨_, rfl, d, _, rfl, get_great S2.1, .inl ⟨rfl, _, .inl (.inl S2.2.1)⟩, g, _, 0, 0, .int x, rfl, rfl, S2.2.1, by decide, by decide, ?_, rfl, ?_⟩
      · simp [seqIndex?]
      have S3 := S2.pop
      refine ⟨_, rfl, d, _, rfl, put_rest x S3.1, ?_⟩
      exact fin _ _ _ _ (S3.rest x) ((kp2.trans Kp.ownG).trans Kp.own)
  · have e1 : ¬ V.int r = V.int 0 := fun z => e (by injection z)
    rw [decide_eq_false e1]
    refine iteF ⟨_, rfl, d, _, rfl, get_rest S.1, rfl, _, rfl, ?_⟩
    rw [decide_eq_false e1]
    exact iteF (fin _ _ _ _ S' (Kp.refl H))
/-! ### pick -/
def t_pick (K : PySem.W.Frag) : TS := tRet (tOp (rIxL K) (tVar 1) (tCall spTake [] E0 (tCons (tVar 0) (tCons (tCB (qLen K) (tCons (tVar 1) (tNil))) (tNil)))))
theorem SqL.kp {K : PySem.W.Frag} {d g a : Addr} {H H' : Hp} {xs : List V} (k : Kp d g H H') (h : SqL K H a xs) (h1 : a ≠ d) (h2 : a ≠ g) : SqL K H' a xs := by
  rcases h with (h | ⟨o, h⟩) | h
  · exact .inl (.inl (k _ _ h1 h2 h))
  · exact .inl (.inr ⟨o, k _ _ h1 h2 h⟩)
  · exact .inr h
theorem pure_pick {K : PySem.W.Frag} (vs : List V) (H : Hp) (Q : VK) (E : XK) (h : spPick K vs H Q E) : t_pick K { nx := fun _ H' => Q .non H', rt := Q } (start ["state", "some"] vs) H := by
  obtain ⟨d, g, c, b, a, xs, rfl, S, hL, h1, h2, h3, h4, k⟩ := h
  refine ⟨_, rfl, _, rfl, _, rfl, _, xs, rfl, .inl hL, d, g, c, b, xs.length, rfl, S, by omega, by omega, fun i H1 hi0 hi1 S1 kp => ?_⟩
  obtain ⟨j, rfl⟩ : ∃ j : Nat, i = (j : Int) := ⟨i.toNat, by omega⟩
  have hj : j < xs.length := by omega
  exact ⟨a, xs, j, xs[j], rfl, rfl, SqL.kp kp hL h1 h2, atI_nat (List.getElem?_eq_getElem hj), k _ _ (List.getElem_mem hj) S1 kp⟩
/-! ### begun -/
def t_begun (K : PySem.W.Frag) : TS := tSeq (tAsg (tLc (iList K (tVar 0)) (gName 2) (tTest (tOp qGe (tVar 2) (tOp qPow (tC (.int 10)) (tC (.int 18))))) (tOp qSub (tVar 2) (tOp qPow (tC (.int 10)) (tC (.int 18)))) [2]) (gName 1))
  (tRet (tDisp ((tC (.str "great"), tVar 1) :: (tC (.str "cells"), tCB (qListOf K) (tCons (tVar 0) (tNil))) :: (tC (.str "rest"), tC (.int 0)) :: (tC (.str "turn"), tC (.int 0)) :: [])))
theorem merge_st {g c : Addr} : mergeK [] [((.inr "great" : Key), V.ref g), (.inr "cells", .ref c), (.inr "rest", .int 0), (.inr "turn", .int 0)] = stK g c 0 0 := by
  have n1 : ¬ ("great" : Str) = "cells" := by decide +kernel
  have n2 : ¬ ("great" : Str) = "rest" := by decide +kernel
  have n3 : ¬ ("cells" : Str) = "rest" := by decide +kernel
  have n4 : ¬ ("great" : Str) = "turn" := by decide +kernel
  have n5 : ¬ ("cells" : Str) = "turn" := by decide +kernel
  have n6 : ¬ ("rest" : Str) = "turn" := by decide +kernel
  simp [mergeK, putK, stK, n1, n2, n3, n4, n5, n6]
theorem pure_begun {K : PySem.W.Frag} (vs : List V) (H : Hp) (Q : VK) (E : XK) (h : spBegun K vs H Q E) : t_begun K { nx := fun _ H' => Q .non H', rt := Q } (start ["script", "wide", "cell"] vs) H := by
  obtain ⟨a, ns, rfl, hL, hlen, k⟩ := h
  refine ⟨_, rfl, a, rfl, ⟨_, hL⟩, fun D hD => lc_list (K := K) (a := a) (xs := ns.map V.int) (fun i H2 => ∃ zs : List Int, H2 D = some (.lst (zs.map V.int)) ∧ zs.length ≤ i ∧ Same H H2)
    ⟨[], upd_same, Nat.le_refl _, fun b o e => by rw [upd_ne (ne_of_none e hD)]; exact e⟩ (fun i H2 _ ⟨_, _, _, s⟩ => Same.seq s hL) ?_ ?_⟩
  · rintro i x H2 hi ⟨zs, h1, h2, s⟩
    have hil := (List.getElem?_eq_some_iff.mp hi).1
    rw [List.length_map] at hil
    obtain ⟨z, _, rfl⟩ := ints_at hi
    refine ⟨rfl, _, rfl, 10, 18, rfl, rfl, ⟨by decide, by decide, by decide⟩, z, _, rfl, rfl, _, rfl, ?_⟩
    refine ite2 (fun _ => ?_) (fun _ => ⟨zs, h1, by omega, s⟩)
    refine ⟨_, rfl, 10, 18, rfl, rfl, ⟨by decide, by decide, by decide⟩, z, _, rfl, rfl, _, h1, small1000 (by rw [List.length_map]; omega), ?_⟩
    refine ⟨zs ++ [z - 10 ^ (18 : Int).toNat], by rw [upd_same, List.map_append]; rfl, by rw [List.length_append, List.length_singleton]; omega, fun b o e => ?_⟩
    rw [upd_ne (ne_of_none e hD)]
    exact s b o e
  · rintro H2 ⟨zs, h1, h2, s⟩
    -- return {..}
    refine fun p hp => ?_
    have npD : p ≠ D := fun e => by rw [e] at hp; rw [h1] at hp; cases hp
    refine ⟨_, rfl, _, rfl, a, _, rfl, .inl (Same.seq (fun b o e => by rw [upd_ne (ne_of_none e hp)]; exact e) (Same.seq s hL)), fun l hl => ?_⟩
    have nlp : p ≠ l := fun e => by rw [← e, upd_same] at hl; cases hl
    have hl2 : H2 l = none := by rw [upd_ne nlp.symm] at hl; exact hl
    have nlD : D ≠ l := ne_of_none h1 hl2
    refine ⟨by rw [upd_ne nlp, upd_same], [((.inr "great" : Key), V.ref D), (.inr "cells", .ref l), (.inr "rest", .int 0), (.inr "turn", .int 0)], rfl, by show 4 ≤ 15; decide, ?_⟩
    rw [merge_st]
    refine k p D l _ ⟨0, 0, zs, ns, upd_same, ?_, ?_, nlD, by decide, by decide⟩ (fun x o e => ?_) ?_ hD ?_
    · rw [upd_ne npD.symm, upd_ne nlD, upd_ne npD.symm]; exact h1
    · rw [upd_ne nlp.symm, upd_same]
    · have e2 := s x o e
      rw [upd_ne (ne_of_none e2 hp), upd_ne (ne_of_none e2 hl2), upd_ne (ne_of_none e2 hp)]
      exact e2
    · exact Same.free s hp
    · exact Same.free s hl2
end SR

set_option Elab.async false
set_option linter.all false
set_option maxRecDepth 100000
set_option maxHeartbeats 4000000
/-! SRR: rules of my own over the hand layer. -/
namespace SR
open PySem PySem.Spec PyProof.Rows L2
/-! ### defs that are called where no container is being written out (repr) -/
abbrev Gs (A : Around) : Prop := A.guards = some []
theorem Gs.deep {A : Around} (h : Gs A) (env : Env) : Gs (A.deeper env) := h
/-- as FnOk, but promised only under Gs -/
structure FnG (P : Program) (w : World) (K : PySem.W.Frag) (mg : Str → Option Value) (base : Heap) (CX : CXT) (k : Nat) (f : Addr) (fd : FuncData) (ps : List Str) (sp : Sp) : Prop where
  size : ∀ vs H Q E, sp vs H Q E → vs.length = ps.length
  goes : ∀ (A : Around) (out : List Env) (s : Shared) (H : Hp) (gv : Args) (us : List Value) (vs : List V) (Q : VK) (E : XK), Gs A → Room k A → Env0 P w K mg base A out s H → BindsTo s fd gv (ps.zip us) → Vals vs us → sp vs H Q E →
    codeAny (model P w) A (.call (.ref f) gv) (CR CX out P w H s Q E) s
section
variable {X : Cx} {CX : CXT} {k : Nat} {f : Addr} {fd : FuncData} {ps : List Str} {sp : Sp} {dvs : List V} {ds : List Value} {E : XK} {x : Str} {p pos : Pos} {e : Expr} {es : List Expr} {t : TA}
theorem FnG.at (F : FnG X.prog X.w X.K X.mg X.base CX k f fd ps sp) (hgs : Gs X.A) {pins : List (Addr × Obj)} {σ : L2.St} {H : Hp} {s : Shared} {Q : VK} {us : List Value} {vs : List V} (hr : Room k X.A) (hb : Binds X.K fd ps ds) (hd : Vals dvs ds) (hx : Passes CX X E)
    (I : Inv X pins σ H s) (r : Vals vs us) (h : sp (vs ++ dvs) H Q E) : wpAny (model X.prog X.w) X.A (call (.ref f) us) (EP X pins σ Q) X.xe s := by
  have both : Vals (vs ++ dvs) (us ++ ds) := r.append hd
  have lens : (us ++ ds).length = ps.length := both.length.symm.trans (F.size _ _ _ _ h)
  refine wpAny_call (codeAny_mono (F.goes _ _ s H _ _ _ Q E hgs hr I.env0 (hb s us I.kIn lens) both h) fun out s2 hq => ?_)
  match out, hq with
  | .error e, hq => exact hx _ _ _ _ e s2 I hq
  | .ok (.ret u), hq => exact I.after hq
theorem pe_callG1 (F : FnG X.prog X.w X.K X.mg X.base CX k f fd ps sp) (hgs : Gs X.A) (hr : Room k X.A) (hg : Gl X x) (hm : X.mg x = some (.ref f)) (hk : PySem.W.keepIn X.K (.ref f) = true) (hb : Binds X.K fd ps ds) (hd : Vals dvs ds) (hx : Passes CX X E)
    (ha : PA X (e :: es) t) (hdb : (x == ("__debug__" : Str)) = false := by decide) (he : starEach (e :: es) X.env = (false, eval e X.env) :: starEach es X.env := by rfl) (hpl : (backTo pos (starEach es X.env)).any (·.1) = false := by rfl) :
    PE X (.Call (.Name x p) (e :: es) [] pos) (tCall sp dvs E t) := ⟨fun pins s σ H Q I h =>
  wpAny_Call_Name_kw (ld_glob I hg hm (PySem.W.callWith_K (h₀ := X.base) I.ok.mod.kin hk (thn (ha.run pos pins s σ H _ I h) fun _ _ ⟨_, _, I1, r, q⟩ => ⟨I1.kIn, F.at hgs hr hb hd hx I1 r q⟩) he hpl) hdb)⟩
end
section
variable {P : Program} {w : World} {K : PySem.W.Frag} {mg : Str → Option Value} {base : Heap} {x qual : Str} {params : Arguments} {body : List Stmt} {scope : Scope} {dvs : List V} {kws : List (Str × V)} {f : Addr} {fd : FuncData}
/-- a def's body under Gs: by FnOk of the very def, whose context is given -/
theorem okG {CX : CXT} {N ps : List Str} {k : Nat} {sp : Sp} (F : FunD K x qual params body scope dvs kws f fd) (S : FnScope N ps scope) (len : ∀ vs H Q E, sp vs H Q E → vs.length = ps.length)
    (hbody : ∀ (cdv : Value) (A : Around) (outer : List Env) (s : Shared) (H : Hp) (vs : List V) (Q : VK) (E : XK), Gs A → Room k (A.deeper (envOfC qual scope s.heap.objs.size f cdv)) → sp vs H Q E →
      ∃ t, PSs (cxOf CX P w K mg base N qual scope f cdv A outer s H E) body t ∧ t { nx := fun _ H' => Q .non H', rt := Q } (start N vs) H) : FnG P w K mg base CX (k + 1) f fd ps sp := by
  refine ⟨len, fun A out s H gv us vs Q E hgs hr e0 hb hv hs => ?_⟩
  obtain ⟨oc, od, dV, kV, doc, pm, an, cdv, ct, osl, rfl, lk, hcd, _, _⟩ := F.ex
  have hl := len _ _ _ _ hs
  have old : ∀ b o, base.get? b = some o → s.heap.get? b = some o := fun b o z => (e0.bs b o z).1
  have KX : K.In s.heap := e0.mod.kin.keeps old
  refine codeAny_call_function hr.depth (KX _ _ lk) rfl S.co S.gen rfl (PySem.W.codeRec_of KX hcd) (hb _ _ _ _ ?_)
  have params_known : ∀ y ∈ ps.zip us, scope.names.lookup y.1 = some .local ∨ (scope.names.lookup y.1 = some .cell ∧ ((cellsFrom (s.heap.objs.size + 1) scope.names []).lookup y.1).isSome = true) := by
    rintro ⟨n, v⟩ hy
    exact (S.par n (List.of_mem_zip hy).1).imp id fun q => ⟨q, PySem.W.cellsFrom_some _ _ _ (.inl q)⟩
  refine wpAny_newFunctionEnv_cells S.kind params_known fun env he s1 z => ?_
  subst he
  refine ⟨(e0.mod.nolimit.keeps old).keeps z.toInCall.keep, codeAny_func ?_⟩
  obtain ⟨t, ht, hq⟩ := hbody cdv A out s H vs Q E hgs (hr.deeper _) hs
  refine wpAny_mono (ht.run [] s1 (start N vs) H _ (inv_start S hr.hd e0 hl hv z) hq) (fun fl s' hf => ?_) fun _ _ hf => hf
  match fl, hf with
  | .ret u, ⟨v, _, H', J, rv, q⟩ => exact ⟨v, H', J.os, J.bare, J.base, J.hok, rv, q⟩
  | .next, ⟨_, H', J, q⟩ => exact ⟨.non, H', J.os, J.bare, J.base, J.hok, rfl, q⟩
  | .brk, ⟨_, _, _, q⟩ => exact q.elim
  | .cont, ⟨_, _, _, q⟩ => exact q.elim
end
/-! ### repr of data -/
def dRepr : PyData → Str
  | .none => "None"
  | .bool b => if b then "True" else "False"
  | .int i => toString i
  | .str x => reprText x
  | d => d.shown
section
variable {X : Cx}
/-- repr(x), x data that can be shown -/
def rRepr (K : PySem.W.Frag) : List V → Hp → VK → Prop := fun xs H Q => ∃ x d, xs = [x] ∧ Dp K H x d ∧ d.showable = true ∧ d.depth ≤ 60 ∧ (dRepr d).length ≤ sizeLine ∧ Q (.str (dRepr d)) H
mutual
theorem dp_nodict {K : PySem.W.Frag} {H : Hp} : ∀ (d : PyData) (v : V), Dp K H v d → d.hasDict = false
  | .none, _, _ => rfl
  | .bool _, _, _ => rfl
  | .int _, _, _ => rfl
  | .str _, _, _ => rfl
  | .list ds, _, h => by
    cases h with
    | lst _ h2 => exact dp_nodicts ds _ h2
  | .tuple ds, _, h => by
    cases h with
    | tup _ h2 => exact dp_nodicts ds _ h2
  | .dict _, _, h => nomatch h
theorem dp_nodicts {K : PySem.W.Frag} {H : Hp} : ∀ (ds : List PyData) (vs : List V), DpAll K H vs ds → PyData.hasDictAll ds = false
  | [], _, _ => rfl
  | d :: ds, _, h => by
    cases h with
    | cons h1 h2 =>
      show (PyData.hasDict d || PyData.hasDictAll ds) = false
      rw [dp_nodict d _ h1, dp_nodicts ds _ h2] <;> rfl
end
theorem call_reprD (hgs : Gs X.A) (hu : X.A.units + 64 < cLine) : CallR X (.builtin "repr") (rRepr X.K) := by
  intro pins s σ H xs us Q I r h
  obtain ⟨x, d, rfl, hd, hsh, hdep, hz, q⟩ := h
  obtain ⟨u, rfl, ru⟩ := vals1 r
  cases hd with
  | non => cases (show u = Value.none from ru); exact PySem.P.repr_of_none ⟨.str _, H, I.tok _, ⟨_, rfl⟩, q⟩
  | bl b => cases (show u = Value.bool b from ru); exact PySem.P.repr_of_bool ⟨.str _, H, I.tok _, ⟨_, rfl⟩, q⟩
  | int i =>
    obtain ⟨t, rfl⟩ := (show ∃ t, u = Value.int i t from ru)
    exact PySem.P.repr_of_int (of_decide_eq_true hsh) ⟨.str _, H, I.tok _, ⟨_, rfl⟩, q⟩
  | str y =>
    obtain ⟨t, rfl⟩ := (show ∃ t, u = Value.str y t from ru)
    exact PySem.P.repr_of_str ⟨.str _, H, I.tok _, ⟨_, rfl⟩, q⟩ hz
  | @lst a xs ds h1 h2 =>
    have hd : Dp X.K H (.ref a) (.list ds) := .lst h1 h2
    obtain ⟨as, rd⟩ := Dp.reads I _ _ _ hd ru
    cases (show u = Value.ref a from ru)
    exact repr_of_reads' rd hsh (fun z => by rw [dp_nodict _ _ hd] at z; cases z) hgs (by omega) (fun _ _ z => z) (fun h' u' tk hk => ⟨.str _, H, I.kept hk, ⟨_, rfl⟩, q⟩) hz
  | @tup a xs ds h1 h2 =>
    have hd : Dp X.K H (.ref a) (.tuple ds) := .tup h1 h2
    obtain ⟨as, rd⟩ := Dp.reads I _ _ _ hd ru
    cases (show u = Value.ref a from ru)
    exact repr_of_reads' rd hsh (fun z => by rw [dp_nodict _ _ hd] at z; cases z) hgs (by omega) (fun _ _ z => z) (fun h' u' tk hk => ⟨.str _, H, I.kept hk, ⟨_, rfl⟩, q⟩) hz
end
/-! ### a law's end over FnG -/
theorem law_callG {P : Program} {w : World} {K : PySem.W.Frag} {mg mb : Str → Option Value} {CX : CXT} {k : Nat} {fa a : Addr} {fd : FuncData} {x : Str} {sp : Sp} {s : Shared} {vs : List Value} {ns : List Int}
    (KX : K.In s.heap) (hns : s.heap.Ns mainGlobals mg) (hb : s.heap.Ns builtinsNs mb) (hbb : ∀ x : Str, x ≠ "__name__" → mb x = bootBuiltins x) (hlim : s.heap.NoLimit) (hg : s.gens = #[])
    (ha : s.heap.get? a = some { cls := .type "list", data := .seq vs.toArray }) (hi : IntsAre vs ns) (hl : ns.length ≤ sizeLine) (hr : Room k callerA)
    (F : ∀ base : Heap, K.In base → base.Ns mainGlobals mg → FnG P w K mg base CX k fa fd [x] sp) (hbind : ∀ (s : Shared) (u : Value), BindsTo s fd ⟨[u], []⟩ [(x, u)])
    (hsp : ∀ H : Hp, Only H → SqL K H a (ns.map V.int) → sp [.ref a] H (fun v _ => v = .bl true) fun _ _ _ => False)
    (hCX : ∀ H e s', CX [] H s (fun _ _ _ => False) e s' → False) :
    codeAny (model P w) callerA (.call (.ref fa) ⟨[.ref a], []⟩) (fun r s' => r = .ok (.ret (.bool true)) ∧ OldK s.heap s'.heap ∧ s'.os = s.os ∧ AllBare s'.gens) s := by
  have rv := vals_ints hi
  -- H tracks the script at most; what it does not track is the base
  have run_at : ∀ H : Hp, Only H → SqL K H a (ns.map V.int) → HOk P w H s.heap → (∀ b, H b ≠ none → b = a ∧ K.lookup a = none) →
      codeAny (model P w) callerA (.call (.ref fa) ⟨[.ref a], []⟩) (fun r s' => r = .ok (.ret (.bool true)) ∧ OldK s.heap s'.heap ∧ s'.os = s.os ∧ AllBare s'.gens) s := by
    intro H hO hS hok hA
    have untr : ∀ {b : Addr} {o : Obj}, s.heap.get? b = some o → (b = a → False) → (hidT s.heap H).get? b = some o := fun {b o} z n => hidT_get z (by
      by_cases q : H b = none
      · exact q
      · exact (n (hA b q).1).elim)
    have ns_ : ∀ {b : Addr} {m : Str → Option Value}, s.heap.Ns b m → (hidT s.heap H).Ns b m := by
      rintro b m ⟨o, es, ep, z, dz, rest⟩
      refine ⟨o, es, ep, untr z (fun q => ?_), dz, rest⟩
      rw [q, ha] at z
      cases z
      cases dz
    have KB : K.In (hidT s.heap H) := fun b o z => by
      by_cases q : H b = none
      · exact hidT_get (KX b o z) q
      · obtain ⟨q1, q2⟩ := hA b q
        rw [q1, q2] at z
        cases z
    obtain ⟨mc, l1, l2⟩ := hlim
    have e0 : Env0 P w K mg (hidT s.heap H) callerA [] s H :=
      ⟨rfl, ⟨KB, ns_ hns, ⟨mb, ns_ hb, hbb⟩, ⟨mc, ns_ l1, l2⟩⟩, fun b o z => of_hidT z, Nat.le_of_eq (hidT_size _ _), trivial, fun b z => (List.not_mem_nil z).elim, hok, .of_eq hg⟩
    refine codeAny_mono ((F _ KB (ns_ hns)).goes callerA [] s H ⟨[.ref a], []⟩ [.ref a] [.ref a] _ _ rfl hr e0 (hbind s (.ref a)) (.cons rfl .nil) (hsp H hO hS)) fun r s' h => ?_
    match r, h with
    | .error e, h => exact (hCX H e s' h).elim
    | .ok (.ret u), ⟨v, H', os, bare, un, hok', rel, isT⟩ =>
      cases (show v = V.bl true from isT)
      cases (show u = Value.bool true from rel)
      refine ⟨rfl, OldK.of_keep fun b o z => ?_, os, bare⟩
      rcases hO b with q | ⟨ob, xs, q⟩
      · exact un.keep b o z q (List.not_mem_nil) (List.not_mem_nil)
      · have z1 := (hok b _ q).1
        have z2 := (hok' b _ (un.frzs b ob _ q)).1
        exact z2.trans (z1.symm.trans z)
  have lenV := hi.length
  by_cases hk : K.lookup a = none
  · refine run_at (fun b => if b = a then some (.frz { cls := .type "list", data := .seq vs.toArray } (.lst (ns.map V.int))) else none) (fun b => ?_) (.inl (.inr ⟨_, if_pos rfl⟩)) (fun b u z => ?_) (fun b z => ?_)
    · by_cases q : b = a
      · exact .inr ⟨_, _, if_pos q⟩
      · exact .inl (if_neg q)
    · by_cases q : b = a
      · subst q
        cases (if_pos rfl).symm.trans z
        exact ⟨ha, by rw [List.length_map]; exact hl, vs, _, rv, ha⟩
      · cases (if_neg q).symm.trans z
    · by_cases q : b = a
      · exact ⟨q, hk⟩
      · exact (z (if_neg q)).elim
  · obtain ⟨o, ho⟩ := Option.ne_none_iff_exists'.mp hk
    cases ha.symm.trans (KX a o ho)
    exact run_at (fun _ => none) (fun _ => .inl rfl) (.inr ⟨_, vs.toArray, _, ho, rfl, rfl, rfl, by rw [List.size_toArray, lenV]; exact hl, by simpa using rv⟩) (fun b u z => nomatch (show (none : Option HO) = some u from z)) fun b z => absurd rfl z
theorem walk_ofG {l : PySem.W.OpenLaw} {n k : Nat} {q : Program} {loose : List Str} {XP : (Str → Option Value) → Heap → Prop} {YP : World → Heap → Prop} {d : DefRec} {CX : CXT} {x : Str}
    (hn : l.most = some n) (hn2 : n ≤ sizeLine) (hdf : d.params.defaults = []) (hr : Room k callerA)
    (F : ∀ (w : World) (mg : Str → Option Value) (fa : Addr) (h : Heap), YP w h → h.Ns mainGlobals mg → mg d.name = some (.ref fa) →
      ∃ (K : PySem.W.Frag) (fd : FuncData) (sp : Sp), K.In h ∧ (∀ (s : Shared) (u : Value), BindsTo s fd ⟨[u], []⟩ [(x, u)]) ∧
        (∀ (H : Hp) (a : Addr) (ns : List Int), ns.length ≤ n → Only H → SqL K H a (ns.map V.int) → sp [.ref a] H (fun v _ => v = .bl true) fun _ _ _ => False) ∧
        ∀ base : Heap, K.In base → base.Ns mainGlobals mg → FnG l.prog w K mg base CX k fa fd [x] sp)
    (hCX : ∀ (H : Hp) (s : Shared) (e : Value) (s' : Shared), CX [] H s (fun _ _ _ => False) e s' → False) :
    PySem.W.WalkO q loose XP YP l.row.toRowW d [] (fun f vs => PySem.call f vs) :=
  Att.attach_call hn hdf fun w s₀ s₁ mg mb fa o pm cd doc a vs ns G Y ho hd hcd hmg hobj hints hlen hg => by
    obtain ⟨K, fd, sp, KX, hb, hsp, hF⟩ := F w mg fa _ Y G.T.g hmg
    exact law_callG KX G.T.g G.T.b G.T.builtins G.T.nolimit hg hobj hints (Nat.le_trans hlen hn2) hr hF hb (fun H hO hS => hsp H a ns hlen hO hS) fun H e s' => hCX H s₁ e s'
end SR

set_option Elab.async false
set_option linter.all false
set_option maxRecDepth 100000
set_option maxHeartbeats 4000000
/-! SRT: an error that is caught, kept under a name, and looked at behind the try. -/
namespace SR
open PySem PySem.Spec PyProof.Rows L2
/-- X, with one more object known -/
abbrev keepX (X : Cx) (pn : List (Addr × Obj)) : Cx := { X with pn := pn }
section
variable {X : Cx} {pins : List (Addr × Obj)} {σ : L2.St} {H : Hp} {s : Shared}
theorem ok_keep {X : Cx} (ok : X.Ok) (pn : List (Addr × Obj)) : (keepX X pn).Ok :=
  ⟨ok.mod, ok.kind, ok.glob, ok.blt, ok.above, ok.inj, ok.has, ok.cab, ok.hd, ok.frames, ok.stk, ok.exf, ok.bs, ok.bsz, ok.noex, ok.exfs, ok.funs, ok.frf⟩
theorem inv_keep {a : Addr} {q : List (Addr × Obj)} (I : Inv (X.suite a q) [] σ H s) (ok : X.Ok) : Inv (keepX X q) [] σ H s :=
  ⟨ok_keep ok _, I.os, I.bare, I.base, I.loc, I.cell, I.free, I.freeC, I.pin, I.hok, I.len⟩
theorem inv_drop {q : Addr × Obj} {p2 : List (Addr × Obj)} (I : Inv (keepX X (q :: (X.pn ++ pins))) p2 σ H s) (ok : X.Ok) : Inv X pins σ H s :=
  ⟨ok, I.os, I.bare, I.base, I.loc, I.cell, I.free, I.freeC, fun p hp => I.pin p (List.mem_append_left _ (List.mem_cons_of_mem _ hp)), I.hok, I.len⟩
end
/-- what is wished of an error of the body: i the clause's own name, j the name that keeps it; v: what follows then -/
def wKeep (K : PySem.W.Frag) (c : Value) (i j : Nat) (v : Addr → Value → Option Addr → TS) (Wout : WX) (D : Ends) : WX := fun cls d σ H =>
  ∃ b, PySem.W.exmOne K cls c = some b ∧ (b = true → ∀ a, H a = none → v a cls d D (((σ.set i (some (.ref a))).set j (some (.ref a))).set i none) H) ∧ (b = false → Wout cls d σ H)
section
variable {X : Cx} {x n y : Str} {c : Value} {i j : Nat} {body rest : List Stmt} {np n2 yp ap pos pos' : Pos} {tb : WX → TS} {u : TS} {v : Addr → Value → Option Addr → TS} {Wout : WX}
theorem pss_try_keep (hs : X.stack = X.env :: X.outer) (hf : X.env.frame = some X.env.locals) (hN : X.N.Nodup) (hi : X.N[i]? = some n) (hln : X.env.kindOf n = some .local) (hj : X.N[j]? = some y) (hly : X.env.scope.names.lookup y = some .local)
    (hc : Names X x c) (tk : Takes X Wout)
    (hb : ∀ (W : WX) (pn : List (Addr × Obj)) (xe : Value → Shared → Prop), Takes (X.tr pn xe) W → PassesOwn (model X.prog X.w) X.A X.env xe → PSs (X.tr pn xe) body (tb W))
    (hu : PSs X rest u) (hv : ∀ (a : Addr) (oe : Obj) (cls : Value) (d : Option Addr) (pn : List (Addr × Obj)), Zc cls d oe → (∃ vs, oe.data = .fields vs) → PSs (keepX X ((a, oe) :: pn)) rest (v a cls d))
    (hsw : ∀ (a : Addr) (pn : List (Addr × Obj)), swapsWith (.Name n n2) (some (.Name y yp)) ap.line (X.suite a pn).env = pure false)
    (hd1 : (n == ("__debug__" : Str)) = false := by decide) (hd2 : (n == ("__classdict__" : Str)) = false := by decide) :
    PSs X (.Try body [.ExceptHandler (some (.Name x np)) (some n) [.Assign [.Name y yp] (.Name n n2) ap] pos'] [] [] pos :: rest) (fun D σ H => tb (wKeep X.K c i j v Wout D) { D with nx := u D } σ H) := by
  refine ⟨fun pins s σ H D I h => ?_⟩
  have ok := I.ok
  have hfr : X.A.frames = some (X.env :: X.outer) := ok.frames.trans (by rw [hs])
  have hloc : Loc X.env.scope n := .inl hln
  -- what the try leaves: as X knows it, or with the error known
  let G : Flow → Shared → Prop := fun f s1 => SP X pins { D with nx := u D } f s1 ∨ (f = .next ∧ ∃ a oe cls d σ' H', Zc cls d oe ∧ (∃ vs, oe.data = .fields vs) ∧ Inv (keepX X ((a, oe) :: (X.pn ++ pins))) [] σ' H' s1 ∧ v a cls d D σ' H')
  have tail : ∀ f s1, G f s1 → (match f with | .next => wpAny (model X.prog X.w) X.A (execs rest X.env) (SP X pins D) X.xe s1 | f => SP X pins D f s1) := by
    intro f s1 g
    rcases g with g | ⟨rfl, a, oe, cls, d, σ', H', hz, hdd, J, q⟩
    · cases f with
      | next => obtain ⟨σ', H', J, q⟩ := g; exact hu.run pins s1 σ' H' D J q
      | brk => exact g
      | cont => exact g
      | ret w => exact g
    · refine wpAny_mono ((hv a oe cls d _ hz hdd).run [] s1 σ' H' D J q) (fun f s2 g2 => ?_) fun _ _ z => z
      cases f with
      | next => obtain ⟨σ2, H2, J2, q2⟩ := g2; exact ⟨σ2, H2, inv_drop J2 ok, q2⟩
      | brk => obtain ⟨σ2, H2, J2, q2⟩ := g2; exact ⟨σ2, H2, inv_drop J2 ok, q2⟩
      | cont => obtain ⟨σ2, H2, J2, q2⟩ := g2; exact ⟨σ2, H2, inv_drop J2 ok, q2⟩
      | ret w => obtain ⟨w2, σ2, H2, J2, r2, q2⟩ := g2; exact ⟨w2, σ2, H2, inv_drop J2 ok, r2, q2⟩
  refine wpAny_execs_cons (thn (Q := G) ?_ fun f s1 g => by
    have z := tail f s1 g
    cases f with
    | next => exact z
    | ret w => exact z
    | brk => exact z
    | cont => exact z)
  refine wpAny_Try_except ?_
  refine wpAny_mono ((hb (wKeep X.K c i j v Wout D) (X.pn ++ pins) (fun e s₁ => wpAny (model X.prog X.w) X.A (noteFrame e X.env) (fun _ s₂ => wpAny (model X.prog X.w) X.A (setFlight e none) (fun _ s₃ =>
    wpAny (model X.prog X.w) X.A (handleBy e X.env [.ExceptHandler (some (.Name x np)) (some n) [.Assign [.Name y yp] (.Name n n2) ap] pos']) G X.xe s₃) X.xe s₂) X.xe s₁) (fun w0 s' xx => ?_) PassesOwn.looking).run [] s σ H { D with nx := u D } (I.toTry _) h) (fun f s1 hsp => ?_) (fun _ _ he => he)
  · obtain ⟨a, B, sI, pins', σ', H', cls, d, rfl, J', nb, up, sky, na, os, ag, b, hb1, hyes, hno⟩ := xx
    have J : Inv X pins σ' H' sI := J'.ofTry ok
    have sky' : Sky B (X.env :: X.outer) a (Zc cls d) X.env.locals s'.heap := by rw [← hs]; exact sky
    show wpAny (model X.prog X.w) X.A (noteFrame (.ref a) X.env) _ _ _
    refine Sky.land Zc.steady hfr hf sky' fun h3 fl3 up3 => ?_
    have J3 : Inv X pins σ' H' { s' with heap := h3 } := J.landed nb fl3.1 (up.trans up3) os ag
    obtain ⟨oe3, vs3, he3, hz3, hd3⟩ := fl3.there
    have nfr : a ∉ frs (X.env :: X.outer) := fun hm => by
      obtain ⟨_, o', e', hnf⟩ := fl3.2.2.1.mem hm
      cases he3.symm.trans e'
      exact hnf _ hd3
    have nL : a ≠ X.env.locals := fun z => nfr (List.mem_filterMap.mpr ⟨X.env, List.mem_cons_self, hf.trans (by rw [z])⟩)
    have nF : a ∉ X.fs := fun hm => by
      obtain ⟨e, he, q⟩ := List.mem_filterMap.mp hm
      exact nfr (List.mem_filterMap.mpr ⟨e, List.mem_cons_of_mem _ he, q⟩)
    have S3 := J3.suite he3 hd3 na nL nF
    refine wpAny_handleBy_cons (codeAny_handlers_test ?_) (by intro q; cases q)
    have LT : PySem.W.Looks (model X.prog X.w) h3 (typeOf (.ref a)) cls := fun A Q E s k q => wpAny_typeOf_ref (k _ _ he3) (by rw [hz3.1]; exact q)
    have LM := PySem.W.exm_one (M := model X.prog X.w) (J3.kIn) LT hb1
    have test : ∀ {Q : Value → Shared → Prop} {E : Value → Shared → Prop}, Q c { s' with heap := h3 } → wpAny (model X.prog X.w) (X.A.mark (some (.ref a))) (eval (.Name x np) X.env) Q E { s' with heap := h3 } := fun {Q E} q => by
      obtain ⟨hg, hdbg, hm | ⟨hm, hvv, hnn⟩⟩ := hc
      · exact ld_glob (X := X.suite a ((a, oe3) :: (X.pn ++ pins))) S3 hg hm q hdbg
      · exact ld_blt (X := X.suite a ((a, oe3) :: (X.pn ++ pins))) S3 hg hm hvv q hnn hdbg
    refine test (LM.here ?_)
    cases b with
    | true =>
      refine codeAny_handlers_suite_as ?_
      refine HandSPX.lands_againZ fl3 fun h4 fl4 up4 => ?_
      have J4 : Inv X pins σ' H' { s' with heap := h4 } := J.landed nb fl4.1 ((up.trans up3).trans up4) os ag
      obtain ⟨oe4, vs4, he4, hz4, hd4⟩ := fl4.there
      have S4 := J4.suite he4 hd4 na nL nF
      refine store_ok (X := X.suite a ((a, oe4) :: (X.pn ++ pins))) (v := .ref a) S4 hN hi hloc rfl (fun s5 S5 => ?_) (.inr hln)
      -- the suite: y = n
      have hil : i < (σ'.set i (some (V.ref a))).length := by
        rw [S5.len]
        exact (List.getElem?_eq_some_iff.mp hi).1
      have D0 : PSs (X.suite a ((a, oe4) :: (X.pn ++ pins))) [.Assign [.Name y yp] (.Name n n2) ap] (tAsg (tVar i) (gName j)) :=
        pss_one (ps_set (i := j) hN hj (.inl hly) (pe_var hi (.inl hln) hd1 hd2) (hsw _ _) (.inr hly))
      refine wpAny_mono (D0.run [] s5 _ H' { nx := fun σ6 H6 => v a cls d D (σ6.set i none) H6, rt := fun _ _ => False, bk := fun _ _ => False, ct := fun _ _ => False } S5 ?_) (fun f s6 hsp => ?_) (fun _ _ z => False.elim z)
      · refine ⟨.ref a, ?_, hyes rfl a na⟩
        rw [List.getElem?_set_self (by simpa using hil)]
      cases f with
      | next =>
        obtain ⟨σ6, H6, S6, q6⟩ := hsp
        exact gone_ok (X := keepX X ((a, oe4) :: (X.pn ++ pins))) (inv_keep S6 ok) hN hi hln fun s7 J7 => .inr ⟨rfl, a, oe4, cls, d, _, _, hz4, ⟨_, hd4⟩, J7, q6⟩
      | brk => exact hsp.elim fun _ z => z.elim fun _ z => z.2.elim
      | cont => exact hsp.elim fun _ z => z.elim fun _ z => z.2.elim
      | ret w => exact hsp.elim fun _ z => z.elim fun _ z => z.elim fun _ z => z.2.2.elim
    | false =>
      show wpAny _ X.A (handleBy (.ref a) X.env []) _ _ _
      refine wpAny_handleBy_nil ?_
      obtain ⟨k1, k2, k3, oe, vs, T, oT, ts', he, hz, hd, h1, hr⟩ := id fl3
      unfold PySem.passOn
      refine wpAny_bind (wpAny_field he hd h1 ?_)
      rw [if_neg (show ¬ ((Value.ref T == Value.none) = true) from by simp)]
      have fin : wpAny (model X.prog X.w) X.A (setFlight (.ref a) X.env.frame) (fun _ s4 => wpAny (model X.prog X.w) X.A (throw (.ref a) : Sem Flow) G X.xe s4) X.xe { s' with heap := h3 } := by
        rw [hf]
        refine HandSPX.setFlight_upZ fl3 fun h4 hh4 up4 => wpAny_throw (tk _ _ ?_)
        exact ⟨a, B, sI, pins, σ', H', cls, d, rfl, J, nb, (up.trans up3).trans up4, .inr (.inr (by rw [hs]; exact hh4)), na, os, ag, hno rfl⟩
      first
        | exact wpAny_bind (wpAny_pure (wpAny_bind fin))
        | exact wpAny_bind fin
  · cases f with
    | next =>
      obtain ⟨σ', H', J', q⟩ := hsp
      exact wpAny_execs_nil (.inl ⟨σ', H', J'.ofTry ok, q⟩)
    | brk =>
      obtain ⟨σ', H', J', q⟩ := hsp
      exact .inl ⟨σ', H', J'.ofTry ok, q⟩
    | cont =>
      obtain ⟨σ', H', J', q⟩ := hsp
      exact .inl ⟨σ', H', J'.ofTry ok, q⟩
    | ret u =>
      obtain ⟨v, σ', H', J', r, q⟩ := hsp
      exact .inl ⟨v, σ', H', J'.ofTry ok, r, q⟩
/-- isinstance(caught, C), where the error is known by its class and dict -/
def rIsK (K : PySem.W.Frag) (a : Addr) (cls : Value) (d : Option Addr) : List V → Hp → VK → Prop := fun xs H Q => ∃ (D : Addr) (c : V) (cv : Value) (b : Bool), cls = .ref D ∧ d = none ∧ ExcC K D ∧ xs = [.ref a, c] ∧ (∀ u, RelV c u → u = cv) ∧ PySem.W.kitOne K (.ref D) cv = some b ∧ Q (.bl b) H
theorem call_isK {a : Addr} {cls : Value} {d : Option Addr} {oe : Obj} {pn : List (Addr × Obj)} (hz : Zc cls d oe) (hf : ∃ vs, oe.data = .fields vs) : CallR (keepX X ((a, oe) :: pn)) (.builtin "isinstance") (rIsK X.K a cls d) := by
  intro pins s σ H xs us Q I r h
  obtain ⟨D, c, cv, b, rfl, rfl, C, rfl, hcv, e, q⟩ := h
  obtain ⟨u1, u2, rfl, r1, r2⟩ := vals2 r
  cases (show u1 = Value.ref a from r1)
  cases hcv _ r2
  obtain ⟨vs, hv⟩ := hf
  have here := (I.pin (a, oe) (List.mem_append.mpr (.inl List.mem_cons_self))).1
  have J : PySem.W.InstAt s.heap a oe D none := by
    obtain ⟨h1, h2⟩ := hz
    obtain ⟨oc, od, oda, osl⟩ := oe
    cases h1; cases h2; cases hv
    exact ⟨here, rfl, rfl, trivial⟩
  exact PySem.W.kia_one (PySem.W.handS_kitx_exc C.hg C.hk C.hs C.hd C.ha C.hn C.ht C.hm) I.kIn J e (fun z => nomatch z) fun tk => ⟨.bl b, H, I.tok tk, rfl, q⟩
end
/-! ### calls by keywords -/
section
variable {X : Cx} {CX : CXT} {k m : Nat} {f : Addr} {fd : FuncData} {ps ks : List Str} {sp : Sp} {E : L2.St → XK} {x : Str} {p pos : Pos} {e : Expr} {es : List Expr} {kws : List Keyword} {t tk : TA} {g : List Value → List Value → List Value} {gV : List V → List V → List V}
theorem run_kw (F : FnOk X.prog X.w X.K X.mg X.base CX k f fd ps sp) (hr : Room k X.A) (hb : KBn X.K fd ps m ks g gV) {pins : List (Addr × Obj)} {σ : L2.St} {H : Hp} {s : Shared} {Q : VK} {us ws : List Value} {vs zs : List V} (hx : PassesAt CX X σ (E σ))
    (I : Inv X pins σ H s) (r : Vals vs us) (rz : Vals zs ws) (l1 : vs.length = m) (l2 : zs.length = ks.length) (h : sp (gV vs zs) H Q (E σ)) : wpAny (model X.prog X.w) X.A (call (.ref f) us (ks.zip ws)) (EP X pins σ Q) X.xe s := by
  refine wpAny_call (codeAny_mono (F.run _ _ s H _ _ _ Q _ hr I.env0 (hb.to s us ws I.kIn (r.length.symm.trans l1) (rz.length.symm.trans l2)) (hb.rel r rz) h) fun out s2 hq => ?_)
  match out, hq with
  | .error e, hq => exact hx _ _ _ e s2 I hq
  | .ok (.ret u), hq => exact I.after hq
/-- f(k = v, ..) | f(e, .., k = v, ..); n: how many keywords -/
def tKw (n : Nat) (sp : Sp) (gV : List V → List V → List V) (E : L2.St → XK) (t tk : TA) : TE := fun σ H Q => t σ H fun vs H1 => tk σ H1 fun zs H2 => zs.length = n ∧ sp (gV vs zs) H2 Q (E σ)
theorem pe_kw0 (F : FnOk X.prog X.w X.K X.mg X.base CX k f fd ps sp) (hr : Room k X.A) (hg : Gl X x) (hm : X.mg x = some (.ref f)) (hk : PySem.W.keepIn X.K (.ref f) = true) (hb : KBn X.K fd ps 0 ks g gV) (hx : ∀ σ, PassesAt CX X σ (E σ)) (hkw : PK X kws tk)
    (hall : (backToKw pos (keywordEach kws X.env)).all (·.1.isSome) = true := by rfl) (hks : (backToKw pos (keywordEach kws X.env)).filterMap (·.1) = ks := by rfl) (hdb : (x == ("__debug__" : Str)) = false := by decide)
    (hpl : ((backTo pos (starEach [] X.env)).any (·.1) || (backToKw pos (keywordEach kws X.env)).any (·.1.isNone)) = false := by rfl) :
    PE X (.Call (.Name x p) [] kws pos) (tKw ks.length sp gV E tNil tk) := by
  refine ⟨fun pins s σ H Q I h => wpAny_Call_Name_kw (ld_glob I hg hm (PySem.W.callWith_KW0 (h₀ := X.base) I.ok.mod.kin hk hall ?_ hpl) hdb)⟩
  refine thn (hkw.run pos pins s σ H _ I h) fun ws s2 ⟨zs, H2, I2, rz, l2, q2⟩ => ⟨I2.kIn, ?_⟩
  rw [hks]
  exact run_kw (us := []) (vs := []) F hr hb (hx σ) I2 .nil rz rfl l2 q2
/-- how keywords bind, where a def has no defaults -/
theorem kb_of {K : PySem.W.Frag} {qual : Str} {params : Arguments} {body : List Stmt} {scope : Scope} {kws : List (Str × V)} {f : Addr} {fd : FuncData} {ps : List Str} (F : FunD K x qual params body scope [] kws f fd) (n : Nat) (ks : List Str) (g : {α : Type} → List α → List α → List α)
    (hrel : ∀ {vs zs : List V} {us ws : List Value}, Vals vs us → Vals zs ws → Vals (g vs zs) (g us ws))
    (h : ∀ (kV doc pm : Value) (an : Option Addr) (cdv ct : Value) (us ws : List Value), us.length = n → ws.length = ks.length → bindArgs (PySem.W.fnOf x qual params body scope .none kV doc pm an cdv ct) ⟨us, ks.zip ws⟩ = pure (ps.zip (g us ws))) :
    KBn K fd ps n ks (fun us ws => g us ws) (fun vs zs => g vs zs) := by
  obtain ⟨oc, od, dV, kV, doc, pm, an, cdv, ct, osl, rfl, lk, hcd, hD, hK⟩ := F.ex
  rcases hD with ⟨_, rfl⟩ | ⟨e, _⟩
  · exact ⟨fun s us ws X l1 l2 => .of_eq (h kV doc pm an cdv ct us ws l1 l2), hrel⟩
  · exact absurd rfl e
end
/-! ### sum of a tuple of ints -/
section
variable {X : Cx}
def rSumT (K : PySem.W.Frag) : List V → Hp → VK → Prop := fun vs H Q => ∃ (a : Addr) (ns : List Int), vs = [V.ref a] ∧ SqT K H a (ns.map V.int) ∧ Q (.int ns.sum) H
theorem cr_sumT (hc : X.calm = true) : CallR X (.builtin "sum") (rSumT X.K) := by
  intro pins s σ H vs us Q I r h
  obtain ⟨a, ns, rfl, hs, q⟩ := h
  obtain ⟨its, rv, ht, _⟩ := I.tuple hs
  rw [Vals.ref1 r]
  have hi := rv.ints
  obtain ⟨xs, e⟩ := hi.allInts.items
  have hn : numsOf (intItems xs).toList = ns := by rw [← e]; exact hi.numsOf
  rw [nums_intItems] at hn
  rw [e] at ht
  have ht' : s.heap.IsTuple a (intItems xs) := ht
  have hlt : a < s.heap.objs.size := by obtain ⟨_, z, _⟩ := ht; exact Heap.lt_size z
  refine PySem.call_sum_walkG (wpAny_pyIter_tuple ht' ?_)
  refine ⟨_, _, _, _, _, _, numAt xs, rfl, Walks.tuple (A := X.A.in1) (I.ok.hd hc) _ a (Nat.ne_of_lt hlt) (intItems xs), ⟨⟨_, Heap.get?_push_size _ rfl, rfl, rfl⟩, ht'.push _⟩, fun b hb => ?_, fun _ _ => intItems_at, fun h' tk t' hk => ?_⟩
  · show b < (s.heap.push _).objs.size
    rw [Heap.size_push]
    rcases List.mem_cons.mp hb with rfl | hb
    · exact Nat.lt_succ_self _
    · cases List.mem_singleton.mp hb
      exact Nat.lt_succ_of_lt hlt
  · refine ⟨.int ns.sum, H, I.kept fun b o z => ?_, ⟨t', ?_⟩, q⟩
    · exact hk b o (fun hm => absurd (Heap.lt_size z) ((List.mem_singleton.mp hm) ▸ Nat.lt_irrefl _)) (Heap.get?_push_of_some _ z)
    · have e2 : (intItems xs).size = xs.size := by simp [intItems]
      rw [e2, preSum_eq, List.take_of_length_le (by simp), hn]
end
end SR

set_option Elab.async false
set_option linter.all false
set_option maxRecDepth 100000
set_option maxHeartbeats 4000000
/-! SRP: values of any kind; whole numbers and numbers between bounds. -/
namespace SR
open PySem L2
/-- a value of any kind, with its class -/
inductive AnyT (K : PySem.W.Frag) (H : Hp) : V → String → Prop where
  | non : AnyT K H .non "NoneType"
  | bl (b : Bool) : AnyT K H (.bl b) "bool"
  | int (i : Int) : AnyT K H (.int i) "int"
  | str (x : Str) : AnyT K H (.str x) "str"
  | lst {a : Addr} {xs : List V} (h : SqL K H a xs) : AnyT K H (.ref a) "list"
  | tup {a : Addr} {xs : List V} (h : SqT K H a xs) : AnyT K H (.ref a) "tuple"
  | dct {a : Addr} {kvs : List (Key × V)} (h : Rd H a (.dK kvs)) : AnyT K H (.ref a) "dict"
theorem AnyT.ty {K : PySem.W.Frag} {H : Hp} {v : V} {t : String} (h : AnyT K H v t) : TyX K H v (.type t) := by
  cases h with
  | non => exact .base .non
  | bl b => exact .base (.bl b)
  | int i => exact .base (.int i)
  | str x => exact .base (.str x)
  | lst h =>
    rcases h with (h | ⟨o, h⟩) | ⟨o, its, n, hk, hc, _⟩
    · exact .base (.lst h)
    · exact .base (.frz h)
    · exact .kList hk hc
  | tup h =>
    rcases h with (h | ⟨o, h⟩) | ⟨o, its, n, hk, hc, _⟩
    · exact .base (.tup h)
    · exact .fTuple h
    · exact .kTuple hk hc
  | dct h =>
    rcases h with h | ⟨o, h⟩
    · exact .base (.dK h)
    · exact .fDict h
theorem AnyT.same {K : PySem.W.Frag} {H H' : Hp} {v : V} {t : String} (e : Same H H') (h : AnyT K H v t) : AnyT K H' v t := by
  cases h with
  | non => exact .non
  | bl b => exact .bl b
  | int i => exact .int i
  | str x => exact .str x
  | lst h => exact .lst (SqL.same e h)
  | tup h => exact .tup (SqT.same e h)
  | dct h =>
    rcases h with h | ⟨o, h⟩
    · exact .dct (.inl (e _ _ h))
    · exact .dct (.inr ⟨o, e _ _ h⟩)
def isI : V → Bool
  | .int _ => true
  | _ => false
/-- which class a value's class is, asked of a built-in one -/
theorem AnyT.kit {K : PySem.W.Frag} {H : Hp} {v : V} {t : String} (h : AnyT K H v t) :
    PySem.W.kitOne K (.type t) (.type "int") = some (isI v || t == "bool") ∧ PySem.W.kitOne K (.type t) (.type "bool") = some (t == "bool") ∧
    PySem.W.kitOne K (.type t) (.type "tuple") = some (t == "tuple") ∧ PySem.W.kitOne K (.type t) (.type "list") = some (t == "list") ∧ PySem.W.kitOne K (.type t) (.type "str") = some (t == "str") ∧ PySem.W.kitOne K (.type t) (.type "dict") = some (t == "dict") := by
  cases h with
  | non => exact ⟨kit_ty (show kitB "NoneType" "int" = some false by decide +kernel), kit_ty (by decide +kernel), kit_ty (by decide +kernel), kit_ty (by decide +kernel), kit_ty (by decide +kernel), kit_ty (by decide +kernel)⟩
  | bl b => exact ⟨kit_ty (show kitB "bool" "int" = some true by decide +kernel), kit_ty (by decide +kernel), kit_ty (by decide +kernel), kit_ty (by decide +kernel), kit_ty (by decide +kernel), kit_ty (by decide +kernel)⟩
  | int i => exact ⟨kit_ty (show kitB "int" "int" = some true by decide +kernel), kit_ty (by decide +kernel), kit_ty (by decide +kernel), kit_ty (by decide +kernel), kit_ty (by decide +kernel), kit_ty (by decide +kernel)⟩
  | str x => exact ⟨kit_ty (show kitB "str" "int" = some false by decide +kernel), kit_ty (by decide +kernel), kit_ty (by decide +kernel), kit_ty (by decide +kernel), kit_ty (by decide +kernel), kit_ty (by decide +kernel)⟩
  | lst h => exact ⟨kit_ty (show kitB "list" "int" = some false by decide +kernel), kit_ty (by decide +kernel), kit_ty (by decide +kernel), kit_ty (by decide +kernel), kit_ty (by decide +kernel), kit_ty (by decide +kernel)⟩
  | tup h => exact ⟨kit_ty (show kitB "tuple" "int" = some false by decide +kernel), kit_ty (by decide +kernel), kit_ty (by decide +kernel), kit_ty (by decide +kernel), kit_ty (by decide +kernel), kit_ty (by decide +kernel)⟩
  | dct h => exact ⟨kit_ty (show kitB "dict" "int" = some false by decide +kernel), kit_ty (by decide +kernel), kit_ty (by decide +kernel), kit_ty (by decide +kernel), kit_ty (by decide +kernel), kit_ty (by decide +kernel)⟩
theorem AnyT.notB {K : PySem.W.Frag} {H : Hp} {v : V} {t : String} (h : AnyT K H v t) (hi : isI v = true) : (t == "bool") = false := by
  cases h <;> first | rfl | (cases hi)
def spIsInt (K : PySem.W.Frag) : Sp := fun vs H Q _ => ∃ v t, vs = [v] ∧ AnyT K H v t ∧ Q (.bl (isI v)) H
def t_is_integer (K : PySem.W.Frag) : TS := tRet (tAndV (tCB (rIsi K) (tCons (tVar 0) (tCons (tC (.ty "int")) tNil))) (tNotV (tCB (rIsi K) (tCons (tVar 0) (tCons (tC (.ty "bool")) tNil)))))
theorem pure_is_integer {K : PySem.W.Frag} (vs : List V) (H : Hp) (Q : VK) (E : XK) (h : spIsInt K vs H Q E) : t_is_integer K { nx := fun _ H' => Q .non H', rt := Q } (start ["value"] vs) H := by
  obtain ⟨v, t, rfl, hv, q⟩ := h
  obtain ⟨k1, k2, _⟩ := hv.kit
  refine ⟨_, rfl, _, _, _, _, _, rfl, .ty _, hv.ty, k1, _, rfl, ?_⟩
  cases hi : isI v with
  | true =>
    refine iteT ⟨_, rfl, _, _, _, _, _, rfl, .ty _, hv.ty, k2, _, rfl, ?_⟩
    rw [hv.notB hi]
    rw [hi] at q
    exact q
  | false =>
    rw [hi] at q
    cases hb : t == "bool" with
    | true =>
      refine iteT ⟨_, rfl, _, _, _, _, _, rfl, .ty _, hv.ty, k2, _, rfl, ?_⟩
      rw [hb]
      exact q
    | false => exact iteF q
/-- an integer from lo to hi -/
def btw (lo hi : Int) : V → Bool
  | .int i => decide (lo ≤ i) && decide (i ≤ hi)
  | _ => false
def spBetween (K : PySem.W.Frag) : Sp := fun vs H Q _ => ∃ v t lo hi, vs = [v, lo, hi] ∧ AnyT K H v t ∧ (isI v = true → ∃ i j, lo = .int i ∧ hi = .int j ∧ Q (.bl (btw i j v)) H) ∧ (isI v = false → Q (.bl false) H)
def t_is_between (K : PySem.W.Frag) : TS := tRet (tAndV (tCall (spIsInt K) [] E0 (tCons (tVar 0) (tNil))) (tChain qLe qLe (tVar 1) (tVar 0) (tVar 2)))
theorem pure_is_between {K : PySem.W.Frag} (vs : List V) (H : Hp) (Q : VK) (E : XK) (h : spBetween K vs H Q E) : t_is_between K { nx := fun _ H' => Q .non H', rt := Q } (start ["value", "low", "high"] vs) H := by
  obtain ⟨v, t, lo, hi, rfl, hv, q, q'⟩ := h
  refine ⟨_, rfl, v, t, rfl, hv, _, rfl, ?_⟩
  cases e : isI v with
  | false => exact iteF (q' e)
  | true =>
    obtain ⟨i, j, rfl, rfl, q2⟩ := q e
    cases v with
    | int z =>
      refine iteT ⟨_, rfl, _, rfl, i, z, rfl, rfl, _, rfl, ?_⟩
      have q2 : Q (.bl (decide (i ≤ z) && decide (z ≤ j))) H := q2
      by_cases h1 : i ≤ z
      · rw [decide_eq_true h1] at q2 ⊢
        exact iteT ⟨_, rfl, z, j, rfl, rfl, q2⟩
      · rw [decide_eq_false h1] at q2 ⊢
        exact iteF q2
    | _ => cases e
def spCapacity (K : PySem.W.Frag) : Sp := fun vs H Q _ => ∃ v t, vs = [v] ∧ AnyT K H v t ∧ Q (.bl (btw 1 99 v)) H
def t_is_capacity (K : PySem.W.Frag) : TS := tRet (tCall (spBetween K) [] E0 (tCons (tVar 0) (tCons (tC (.int 1)) (tCons (tC (.int 99)) (tNil)))))
theorem btw_not {v : V} (h : isI v = false) (i j : Int) : btw i j v = false := by
  cases v <;> first | rfl | (cases h)
theorem pure_is_capacity {K : PySem.W.Frag} (vs : List V) (H : Hp) (Q : VK) (E : XK) (h : spCapacity K vs H Q E) : t_is_capacity K { nx := fun _ H' => Q .non H', rt := Q } (start ["value"] vs) H := by
  obtain ⟨v, t, rfl, hv, q⟩ := h
  exact ⟨_, rfl, v, t, _, _, rfl, hv, fun _ => ⟨1, 99, rfl, rfl, q⟩, fun e => by rw [btw_not e] at q; exact q⟩
end SR

set_option Elab.async false
set_option linter.all false
set_option maxRecDepth 100000
set_option maxHeartbeats 4000000
/-! SRQ: a carrier passes a box. -/
namespace SR
open PySem L2
/-- the way out of a def that raises: an error of the class, without a dict of its own -/
def tOut (C : Value) (E : XK) : TS := fun _ _ H => E C none H
/-- what a carrier of capacity c with load u leaves of a box of capacity d with x items: the count, the load -/
def stC (c u d x : Int) : Int := x - min (c - u) x + min u (d - x)
def stL (c u d x : Int) : Int := u + min (c - u) x - min u (d - x)
def okN (c u d x : Int) : Prop := (1 ≤ c ∧ c ≤ 99) ∧ (0 ≤ u ∧ u ≤ c) ∧ (1 ≤ d ∧ d ≤ 99) ∧ (0 ≤ x ∧ x ≤ d)
instance (c u d x : Int) : Decidable (okN c u d x) := by unfold okN; exact inferInstance
/-- an integer from 0 to what w is -/
def upto (w v : V) : Bool := match w with
  | .int c => btw 0 c v
  | _ => false
def okV (v1 v2 v3 v4 : V) : Bool := (btw 1 99 v1 && upto v1 v2) && (btw 1 99 v3 && upto v3 v4)
theorem min_if (i j : Int) : (if j < i then j else i) = min i j := by
  rw [Int.min_def]
  by_cases h : j < i
  · rw [if_pos h, if_neg (by omega)]
  · rw [if_neg h, if_pos (by omega)]
theorem btw_iff {lo hi : Int} {v : V} : btw lo hi v = true ↔ ∃ i, v = .int i ∧ lo ≤ i ∧ i ≤ hi := by
  cases v with
  | int i =>
    show (decide (lo ≤ i) && decide (i ≤ hi)) = true ↔ _
    rw [Bool.and_eq_true, decide_eq_true_iff, decide_eq_true_iff]
    exact ⟨fun h => ⟨i, rfl, h⟩, fun ⟨j, e, h⟩ => by cases e; exact h⟩
  | _ => exact Iff.intro (fun h => nomatch h) (fun ⟨j, e, _⟩ => nomatch e)
def spPassed (K : PySem.W.Frag) (C : Addr) : Sp := fun vs H Q E => ∃ v1 v2 v3 v4 t1 t2 t3 t4, vs = [v1, v2, v3, v4] ∧ AnyT K H v1 t1 ∧ AnyT K H v2 t2 ∧ AnyT K H v3 t3 ∧ AnyT K H v4 t4 ∧
  (okV v1 v2 v3 v4 = false → E (.ref C) none H) ∧
  ∀ c u d x, v1 = .int c → v2 = .int u → v3 = .int d → v4 = .int x → okN c u d x → ∀ p H', H p = none → Same H H' → H' p = some (.tup [.int (stC c u d x), .int (stL c u d x)]) → Q (.ref p) H'
/-- what a carrier takes and gives -/
def spHandled : Sp := fun vs H Q _ => ∃ c u d x, vs = [.int c, .int u, .int d, .int x] ∧ ∀ p, H p = none → Q (.ref p) (upd H p (.tup [.int (min (c - u) x), .int (min u (d - x))]))
def t_handled : TS := tRet (tTup (tCons (tCB qMin2 (tCons (tOp qSub (tVar 0) (tVar 1)) (tCons (tVar 3) (tNil)))) (tCons (tCB qMin2 (tCons (tVar 1) (tCons (tOp qSub (tVar 2) (tVar 3)) (tNil)))) (tNil))))
theorem pure_handled (vs : List V) (H : Hp) (Q : VK) (E : XK) (h : spHandled vs H Q E) : t_handled { nx := fun _ H' => Q .non H', rt := Q } (start ["capacity", "load", "box_capacity", "count"] vs) H := by
  obtain ⟨c, u, d, x, rfl, kQ⟩ := h
  refine ⟨_, rfl, _, rfl, c, u, rfl, rfl, _, rfl, _, _, rfl, _, rfl, _, rfl, _, rfl, d, x, rfl, rfl, _, _, rfl, (by show 2 ≤ sizeLine; exact Nat.le_of_lt (small1000 (by decide))), fun p hp => ?_⟩
  have q := kQ p hp
  rw [min_if, min_if]
  exact q
def t_passed (K : PySem.W.Frag) (c_BadNumber : Addr) (E : XK) : TS := tSeq (tIfS (tOr (tNot (tB (tCall (spCapacity K) [] E0 (tCons (tVar 0) (tNil))))) (tNot (tB (tCall (spBetween K) [] E0 (tCons (tVar 1) (tCons (tC (.int 0)) (tCons (tVar 0) (tNil))))))))
  (tOut (.ref c_BadNumber) E)
  (tNext))
  (tSeq (tIfS (tOr (tNot (tB (tCall (spCapacity K) [] E0 (tCons (tVar 2) (tNil))))) (tNot (tB (tCall (spBetween K) [] E0 (tCons (tVar 3) (tCons (tC (.int 0)) (tCons (tVar 2) (tNil))))))))
  (tOut (.ref c_BadNumber) E)
  (tNext))
  (tSeq (tAsg (tCall spHandled [] E0 (tCons (tVar 0) (tCons (tVar 1) (tCons (tVar 2) (tCons (tVar 3) (tNil)))))) (gTup K 2 (gCons (gName 4) (gCons (gName 5) (gNil)))))
  (tRet (tTup (tCons (tOp qAdd (tOp qSub (tVar 3) (tVar 4)) (tVar 5)) (tCons (tOp qSub (tOp qAdd (tVar 1) (tVar 4)) (tVar 5)) (tNil)))))))
theorem okV_no1 {v1 v2 v3 v4 : V} (h : btw 1 99 v1 = false) : okV v1 v2 v3 v4 = false := by
  unfold okV
  rw [h] <;> rfl
theorem okV_no2 {c : Int} {v2 v3 v4 : V} (h : btw 0 c v2 = false) : okV (.int c) v2 v3 v4 = false := by
  show ((btw 1 99 (.int c) && btw 0 c v2) && _) = false
  rw [h, Bool.and_false, Bool.false_and]
theorem okV_no3 {v1 v2 v3 v4 : V} (h : btw 1 99 v3 = false) : okV v1 v2 v3 v4 = false := by
  unfold okV
  rw [h, Bool.false_and, Bool.and_false]
theorem okV_no4 {d : Int} {v1 v2 v4 : V} (h : btw 0 d v4 = false) : okV v1 v2 (.int d) v4 = false := by
  show (_ && (btw 1 99 (.int d) && btw 0 d v4)) = false
  rw [h, Bool.and_false, Bool.and_false]
theorem okV_yes {v1 v2 v3 v4 : V} : okV v1 v2 v3 v4 = true ↔ ∃ c u d x, v1 = .int c ∧ v2 = .int u ∧ v3 = .int d ∧ v4 = .int x ∧ okN c u d x := by
  constructor
  · intro h
    unfold okV at h
    rw [Bool.and_eq_true, Bool.and_eq_true, Bool.and_eq_true] at h
    obtain ⟨⟨h1, h2⟩, h3, h4⟩ := h
    obtain ⟨c, rfl, c1⟩ := btw_iff.mp h1
    obtain ⟨d, rfl, d1⟩ := btw_iff.mp h3
    obtain ⟨u, rfl, u1⟩ := btw_iff.mp (show btw 0 c v2 = true from h2)
    obtain ⟨x, rfl, x1⟩ := btw_iff.mp (show btw 0 d v4 = true from h4)
    exact ⟨c, u, d, x, rfl, rfl, rfl, rfl, c1, u1, d1, x1⟩
  · rintro ⟨c, u, d, x, rfl, rfl, rfl, rfl, c1, u1, d1, x1⟩
    show ((btw 1 99 (.int c) && btw 0 c (.int u)) && (btw 1 99 (.int d) && btw 0 d (.int x))) = true
    rw [btw_iff.mpr ⟨c, rfl, c1⟩, btw_iff.mpr ⟨u, rfl, u1⟩, btw_iff.mpr ⟨d, rfl, d1⟩, btw_iff.mpr ⟨x, rfl, x1⟩] <;> rfl
theorem pure_passed {K : PySem.W.Frag} {C : Addr} (vs : List V) (H : Hp) (Q : VK) (E : XK) (h : spPassed K C vs H Q E) : t_passed K C E { nx := fun _ H' => Q .non H', rt := Q } (start ["capacity", "load", "box_capacity", "count", "up", "down"] vs) H := by
  obtain ⟨v1, v2, v3, v4, t1, t2, t3, t4, rfl, h1, h2, h3, h4, kE, kQ⟩ := h
  refine ⟨_, rfl, v1, t1, rfl, h1, _, rfl, ?_⟩
  cases b1 : btw 1 99 v1 with
  | false => exact iteT (iteT (kE (okV_no1 b1)))
  | true =>
  obtain ⟨c, rfl, c1, c2⟩ := btw_iff.mp b1
  have k2 : ∀ (b : Bool), btw 0 c v2 = b → _ := fun b e => e
  refine iteF ⟨_, rfl, _, rfl, v2, t2, _, _, rfl, h2, fun _ => ⟨0, c, rfl, rfl, _, rfl, ?_⟩, fun e => ⟨_, rfl, iteT (kE (okV_no2 (btw_not e 0 c)))⟩⟩
  cases b2 : btw 0 c v2 with
  | false => exact iteT (kE (okV_no2 b2))
  | true =>
  obtain ⟨u, rfl, u1, u2⟩ := btw_iff.mp b2
  refine iteF ⟨_, rfl, v3, t3, rfl, h3, _, rfl, ?_⟩
  cases b3 : btw 1 99 v3 with
  | false => exact iteT (iteT (kE (okV_no3 b3)))
  | true =>
  obtain ⟨d, rfl, d1, d2⟩ := btw_iff.mp b3
  refine iteF ⟨_, rfl, _, rfl, v4, t4, _, _, rfl, h4, fun _ => ⟨0, d, rfl, rfl, _, rfl, ?_⟩, fun e => ⟨_, rfl, iteT (kE (okV_no4 (btw_not e 0 d)))⟩⟩
  cases b4 : btw 0 d v4 with
  | false => exact iteT (kE (okV_no4 b4))
  | true =>
  obtain ⟨x, rfl, x1, x2⟩ := btw_iff.mp b4
  refine iteF ⟨_, rfl, _, rfl, _, rfl, _, rfl, c, u, d, x, rfl, fun p0 hp0 => ?_⟩
  have s0 := (fun b o z => (upd_ne (ne_of_none z hp0)).trans z : Same H (upd H p0 (.tup [.int (min (c - u) x), .int (min u (d - x))])))
  have T0 : upd H p0 (.tup [.int (min (c - u) x), .int (min u (d - x))]) p0 = some (.tup [.int (min (c - u) x), .int (min u (d - x))]) := upd_same
  generalize upd H p0 (.tup [.int (min (c - u) x), .int (min u (d - x))]) = H0 at s0 T0 ⊢
  refine ⟨p0, _, rfl, SqT.of T0, rfl, _, _, rfl, _, _, rfl, rfl, ?_⟩
  refine ⟨_, rfl, _, rfl, _, _, rfl, rfl, _, rfl, _, _, rfl, rfl, _, rfl, _, rfl, _, _, rfl, rfl, _, rfl, _, _, rfl, rfl, (by show 2 ≤ sizeLine; exact Nat.le_of_lt (small1000 (by decide))), fun p hp => ?_⟩
  exact kQ c u d x rfl rfl rfl rfl ⟨⟨c1, c2⟩, ⟨u1, u2⟩, ⟨d1, d2⟩, ⟨x1, x2⟩⟩ p _ (Same.free s0 hp) (fun b o z => (upd_ne (ne_of_none (s0 b o z) hp)).trans (s0 b o z)) upd_same
end SR

set_option Elab.async false
set_option linter.all false
set_option maxRecDepth 100000
set_option maxHeartbeats 4000000
/-! K04A: the defs of the law of passed boxes. -/
namespace SR
open PySem L2
theorem take_ok {H : Hp} {d g c : Addr} {b : Nat} {n : Int} {Q : VK} {E : XK} (S : StB H d g c (b + 1)) (h0 : 0 < n) (h1 : n < 2 ^ 29)
    (q : ∀ (i : Int) H', 0 ≤ i → i < n → StB H' d g c b → Kp d g H H' → Q (.int i) H') : spTake [.ref d, .int n] H Q E := ⟨d, g, c, b, n, rfl, S, h0, h1, q⟩
theorem pick_ok {K : PySem.W.Frag} {H : Hp} {d g c a : Addr} {b : Nat} {xs : List V} {Q : VK} {E : XK} (S : StB H d g c (b + 1)) (hL : SqL K (hid d g H) a xs) (ha : a ≠ d) (hb : a ≠ g) (h0 : 0 < xs.length) (h1 : xs.length < 1000)
    (q : ∀ v H', v ∈ xs → StB H' d g c b → Kp d g H H' → Q v H') : spPick K [.ref d, .ref a] H Q E := ⟨d, g, c, b, a, xs, rfl, S, Same.seq hid_same hL, ha, hb, h0, h1, q⟩
theorem StB.d {H : Hp} {d g c : Addr} {b : Nat} (S : StB H d g c b) : ∃ o, H d = some o := let ⟨_, _, _, _, h, _⟩ := S; ⟨_, h⟩
theorem StB.g {H : Hp} {d g c : Addr} {b : Nat} (S : StB H d g c b) : ∃ o, H g = some o := let ⟨_, _, _, _, _, h, _⟩ := S; ⟨_, h⟩
theorem StB.c {H : Hp} {d g c : Addr} {b : Nat} (S : StB H d g c b) : ∃ o, H c = some o := let ⟨_, _, _, _, _, _, h, _⟩ := S; ⟨_, h⟩
/-- a new address is none of the state's -/
theorem StB.off {H : Hp} {d g c p : Addr} {b : Nat} (S : StB H d g c b) (h : H p = none) : p ≠ d ∧ p ≠ g ∧ p ≠ c := by
  obtain ⟨_, h1⟩ := S.d
  obtain ⟨_, h2⟩ := S.g
  obtain ⟨_, h3⟩ := S.c
  exact ⟨(ne_of_none h1 h).symm, (ne_of_none h2 h).symm, (ne_of_none h3 h).symm⟩
theorem hid_new {d g p : Addr} {H : Hp} {o : HO} (h1 : p ≠ d) (h2 : p ≠ g) : hid d g (upd H p o) p = some o := hid_of upd_same h1 h2
theorem hid_none {d g p : Addr} {H : Hp} (h : H p = none) : hid d g H p = none := by
  unfold hid
  by_cases e : p = d ∨ p = g
  · rw [if_pos e]
  · rw [if_neg e]; exact h
theorem sz {n : Nat} (h : n ≤ 1000) : n ≤ sizeLine := Nat.le_of_lt (small1000 h)
abbrev qIsN : R2 := fun x y H Q => y = .non ∧ Q (.bl (decide (x = .non))) H
abbrev qNotN : R2 := fun x y H Q => y = .non ∧ Q (.bl (!decide (x = .non))) H
theorem tret {te : TE} {D : Ends} {σ : L2.St} {H : Hp} (h : te σ H D.rt) : tRet te D σ H := h
/-! ### _law_passed -/
def spLPassed : Sp := fun vs H Q _ => ∃ c u d x, vs = [.int c, .int u, .int d, .int x] ∧ ∀ p, H p = none → Q (.ref p) (upd H p (.tup [.int (stC c u d x), .int (stL c u d x)]))
def t_lpassed : TS := tSeq (tPar 4 5 (tCons (tCB qMin2 (tCons (tOp qSub (tVar 0) (tVar 1)) (tCons (tVar 3) (tNil)))) (tCons (tCB qMin2 (tCons (tVar 1) (tCons (tOp qSub (tVar 2) (tVar 3)) (tNil)))) (tNil))))
  (tRet (tTup (tCons (tOp qAdd (tOp qSub (tVar 3) (tVar 4)) (tVar 5)) (tCons (tOp qSub (tOp qAdd (tVar 1) (tVar 4)) (tVar 5)) (tNil)))))
theorem pure_lpassed (vs : List V) (H : Hp) (Q : VK) (E : XK) (h : spLPassed vs H Q E) : t_lpassed { nx := fun _ H' => Q .non H', rt := Q } (start ["most", "burden", "size", "amount", "up", "down"] vs) H := by
  obtain ⟨c, u, d, x, rfl, kQ⟩ := h
  refine ⟨_, rfl, _, rfl, c, u, rfl, rfl, _, rfl, _, _, rfl, _, rfl, _, rfl, _, rfl, d, x, rfl, rfl, _, _, rfl, _, _, rfl, ?_⟩
  refine ⟨_, rfl, _, rfl, _, _, rfl, rfl, _, rfl, _, _, rfl, rfl, _, rfl, _, rfl, _, _, rfl, rfl, _, rfl, _, _, rfl, rfl, (by show 2 ≤ sizeLine; exact sz (by decide)), fun p hp => ?_⟩
  have q := kQ p hp
  rw [min_if, min_if]
  exact q
/-! ### _law_is_valid -/
def spIsValid (K : PySem.W.Frag) : Sp := fun vs H Q _ => ∃ a v1 v2 v3 v4 t1 t2 t3 t4, vs = [.ref a] ∧ SqL K H a [v1, v2, v3, v4] ∧ AnyT K H v1 t1 ∧ AnyT K H v2 t2 ∧ AnyT K H v3 t3 ∧ AnyT K H v4 t4 ∧
  ∀ H', Same H H' → Q (.bl (okV v1 v2 v3 v4)) H'
def t_is_valid (K : PySem.W.Frag) : TS := tSeq (tIfS (tTest (tOp (rNeD K) (tLc (iList K (tVar 0)) (gName 5) (tOr (tNot (tB (tCB (rIsi K) (tCons (tVar 5) (tCons (tC (.ty "int")) tNil))))) (tB (tCB (rIsi K) (tCons (tVar 5) (tCons (tC (.ty "bool")) tNil))))) (tC (.int 1)) [5]) (tLst (tNil))))
  (tRet (tC (.bl false)))
  (tNext))
  (tSeq (tAsg (tVar 0) (gLst K 4 (gCons (gName 1) (gCons (gName 2) (gCons (gName 3) (gCons (gName 4) (gNil)))))))
  (tRet (tAndV (tChain qLe qLe (tC (.int 1)) (tVar 1) (tC (.int 99))) (tAndV (tChain qLe qLe (tC (.int 1)) (tVar 3) (tC (.int 99))) (tAndV (tChain qLe qLe (tC (.int 0)) (tVar 2) (tVar 1)) (tChain qLe qLe (tC (.int 0)) (tVar 4) (tVar 3)))))))
/-- a <= b <= c as a value -/
theorem chain_le {σ : L2.St} {H : Hp} {Q : VK} {ta tb tc : TE} {i j k : Int} (ha : ∀ Q' : VK, Q' (.int i) H → ta σ H Q') (hb : ∀ Q' : VK, Q' (.int j) H → tb σ H Q') (hc : ∀ Q' : VK, Q' (.int k) H → tc σ H Q') (q : Q (.bl (decide (i ≤ j) && decide (j ≤ k))) H) : tChain qLe qLe ta tb tc σ H Q := by
  refine ha _ (hb _ ⟨i, j, rfl, rfl, _, rfl, ?_⟩)
  by_cases h : i ≤ j
  · rw [decide_eq_true h] at q ⊢
    exact iteT (hc _ ⟨j, k, rfl, rfl, q⟩)
  · rw [decide_eq_false h] at q ⊢
    exact iteF q
theorem and_val {σ : L2.St} {H : Hp} {Q : VK} {ta tb : TE} {x y : Bool} (ha : ∀ Q' : VK, Q' (.bl x) H → ta σ H Q') (hb : ∀ Q' : VK, Q' (.bl y) H → tb σ H Q') (q : Q (.bl (x && y)) H) : tAndV ta tb σ H Q := by
  refine ha _ ⟨_, rfl, ?_⟩
  cases x with
  | true => exact iteT (hb _ q)
  | false => exact iteF q
theorem pure_is_valid {K : PySem.W.Frag} (vs : List V) (H : Hp) (Q : VK) (E : XK) (h : spIsValid K vs H Q E) : t_is_valid K { nx := fun _ H' => Q .non H', rt := Q } (start ["some", "most", "burden", "size", "amount", "thing"] vs) H := by
  obtain ⟨a, v1, v2, v3, v4, t1, t2, t3, t4, rfl, hL, h1, h2, h3, h4, q⟩ := h
  have at_ : ∀ (i : Nat) (v : V), [v1, v2, v3, v4][i]? = some v → ∃ t, AnyT K H v t := by
    intro i v e
    match i, e with
    | 0, e => cases e; exact ⟨_, h1⟩
    | 1, e => cases e; exact ⟨_, h2⟩
    | 2, e => cases e; exact ⟨_, h3⟩
    | 3, e => cases e; exact ⟨_, h4⟩
  refine ⟨_, rfl, a, rfl, ⟨_, hL⟩, fun D hD => lc_list (K := K) (a := a) (xs := [v1, v2, v3, v4]) (fun i H2 => ∃ ns : List Int, H2 D = some (.lst (ns.map V.int)) ∧ ns.length ≤ i ∧ Same H H2 ∧ (ns = [] ↔ ([v1, v2, v3, v4].take i).all isI = true))
    ⟨[], upd_same, Nat.le_refl _, fun b o e => by rw [upd_ne (ne_of_none e hD)]; exact e, by simp⟩ (fun i H2 _ ⟨_, _, _, s, _⟩ => Same.seq s hL) ?_ ?_⟩
  · rintro i x H2 hi ⟨ns, n1, n2, s, n3⟩
    obtain ⟨t, hx⟩ := at_ i x hi
    have hx2 : AnyT K H2 x t := hx.same s
    obtain ⟨k1, k2, _⟩ := hx2.kit
    have i4 : i < 4 := (List.getElem?_eq_some_iff.mp hi).1
    have tk : ([v1, v2, v3, v4].take (i + 1)).all isI = (([v1, v2, v3, v4].take i).all isI && isI x) := by
      rw [List.take_succ, hi, List.all_append]
      simp
    refine ⟨rfl, _, rfl, _, _, _, _, _, rfl, .ty _, hx2.ty, k1, _, rfl, ?_⟩
    have no : isI x = false → ∃ acc, H2 D = some (.lst acc) ∧ acc.length < sizeLine ∧ ∃ ns : List Int, upd H2 D (.lst (acc ++ [.int 1])) D = some (.lst (ns.map V.int)) ∧ ns.length ≤ i + 1 ∧ Same H (upd H2 D (.lst (acc ++ [.int 1]))) ∧ (ns = [] ↔ ([v1, v2, v3, v4].take (i + 1)).all isI = true) := by
      intro e
      refine ⟨_, n1, small1000 (by rw [List.length_map]; omega), ns ++ [1], by rw [upd_same, List.map_append]; rfl, by rw [List.length_append, List.length_singleton]; omega, fun b o z => by rw [upd_ne (ne_of_none z hD)]; exact s b o z, ?_⟩
      rw [tk, e, Bool.and_false]
      simp
    cases hi2 : isI x with
    | true =>
      refine iteF ⟨_, rfl, _, _, _, _, _, rfl, .ty _, hx2.ty, k2, _, rfl, ?_⟩
      rw [hx2.notB hi2]
      exact iteF ⟨ns, n1, by omega, s, by rw [tk, hi2, Bool.and_true]; exact n3⟩
    | false =>
      cases hb : t == "bool" with
      | true =>
        refine iteF ⟨_, rfl, _, _, _, _, _, rfl, .ty _, hx2.ty, k2, _, rfl, ?_⟩
        rw [hb]
        exact iteT (no hi2)
      | false => exact iteT (iteT (no hi2))
  · rintro H2 ⟨ns, n1, n2, s, n3⟩
    have n3' : ns = [] ↔ ((isI v1 = true ∧ isI v2 = true) ∧ isI v3 = true ∧ isI v4 = true) := by
      rw [n3]
      simp [and_assoc]
    refine ⟨sz (by decide), fun p hp => ⟨.list (ns.map PyData.int), .list [], ?_, ?_, shaped_ints ns, shaped_ints [], _, rfl, ?_⟩⟩
    · exact .lst (SqL.of (by rw [upd_ne (ne_of_none n1 hp)]; exact n1)) (dp_ints ns)
    · exact .lst (SqL.of upd_same) .nil
    have sm : Same H (upd H2 p (.lst [])) := fun b o z => by rw [upd_ne (ne_of_none (s b o z) hp)]; exact s b o z
    cases ns with
    | cons z zs =>
      refine iteT ?_
      have e : okV v1 v2 v3 v4 = false := by
        cases e : okV v1 v2 v3 v4 with
        | false => rfl
        | true =>
          obtain ⟨c, u, d, x, rfl, rfl, rfl, rfl, _⟩ := okV_yes.mp e
          exact nomatch n3'.mpr ⟨⟨rfl, rfl⟩, rfl, rfl⟩
      have := q _ sm
      rw [e] at this
      exact this
    | nil =>
      obtain ⟨⟨e1, e2⟩, e3, e4⟩ := n3'.mp rfl
      cases v1 with
      | int c =>
        cases v2 with
        | int u =>
          cases v3 with
          | int d =>
            cases v4 with
            | int x =>
              refine iteF ⟨_, rfl, a, _, rfl, Same.seq sm hL, rfl, _, _, rfl, _, _, rfl, _, _, rfl, _, _, rfl, rfl, ?_⟩
              have := q _ sm
              have e : okV (.int c) (.int u) (.int d) (.int x) = ((decide (1 ≤ c) && decide (c ≤ 99)) && ((decide (1 ≤ d) && decide (d ≤ 99)) && ((decide (0 ≤ u) && decide (u ≤ c)) && (decide (0 ≤ x) && decide (x ≤ d))))) := by
                show (((decide (1 ≤ c) && decide (c ≤ 99)) && (decide (0 ≤ u) && decide (u ≤ c))) && ((decide (1 ≤ d) && decide (d ≤ 99)) && (decide (0 ≤ x) && decide (x ≤ d)))) = _
                generalize (decide (1 ≤ c) && decide (c ≤ 99)) = p1
                generalize (decide (0 ≤ u) && decide (u ≤ c)) = p2
                generalize (decide (1 ≤ d) && decide (d ≤ 99)) = p3
                generalize (decide (0 ≤ x) && decide (x ≤ d)) = p4
                cases p1 <;> cases p2 <;> cases p3 <;> cases p4 <;> rfl
              rw [e] at this
              dsimp only
              refine tret ?_
              show tAndV _ _ _ _ Q
              refine and_val (fun Q' q' => ?_) (fun Q' q' => and_val (fun Q' q' => ?_) (fun Q' q' => and_val (fun Q' q' => ?_) (fun Q' q' => ?_) q') q') this
              · exact chain_le (i := 1) (j := c) (k := 99) (fun _ z => z) (fun _ z => ⟨_, rfl, z⟩) (fun _ z => z) q'
              · exact chain_le (i := 1) (j := d) (k := 99) (fun _ z => z) (fun _ z => ⟨_, rfl, z⟩) (fun _ z => z) q'
              · exact chain_le (i := 0) (j := u) (k := c) (fun _ z => z) (fun _ z => ⟨_, rfl, z⟩) (fun _ z => ⟨_, rfl, z⟩) q'
              · exact chain_le (i := 0) (j := x) (k := d) (fun _ z => z) (fun _ z => ⟨_, rfl, z⟩) (fun _ z => ⟨_, rfl, z⟩) q'
            | _ => cases e4
          | _ => cases e3
        | _ => cases e2
      | _ => cases e1
end SR

set_option Elab.async false
set_option linter.all false
set_option maxRecDepth 100000
set_option maxHeartbeats 4000000
/-! K04B: the law of passed boxes: told, law. -/
namespace SR
open PySem L2
/-- try: body / except as n: y = n, with what follows: u, or v where an error was kept -/
def tTryKeep (K : PySem.W.Frag) (c : Value) (i j : Nat) (tb : WX → TS) (u : TS) (v : Addr → Value → Option Addr → TS) (Wout : WX) : TS := fun D σ H => tb (wKeep K c i j v Wout D) { D with nx := u D } σ H
/-- count, box_capacity, load, capacity in the parameters' order -/
def gkw_passed {α : Type} (_ zs : List α) : List α := match zs with
  | [a, b, c, d] => [d, c, b, a]
  | _ => []
theorem gkw_passed_rel {vs zs : List V} {us ws : List Value} (_ : Vals vs us) (r : Vals zs ws) : Vals (gkw_passed vs zs) (gkw_passed us ws) := by
  match zs, ws, r with
  | [], _, .nil => exact .nil
  | [_], _, .cons _ .nil => exact .nil
  | [_, _], _, .cons _ (.cons _ .nil) => exact .nil
  | [_, _, _], _, .cons _ (.cons _ (.cons _ .nil)) => exact .nil
  | [_, _, _, _], _, .cons a (.cons b (.cons c (.cons d .nil))) => exact .cons d (.cons c (.cons b (.cons a .nil)))
  | _ :: _ :: _ :: _ :: _ :: _, _, .cons _ (.cons _ (.cons _ (.cons _ (.cons _ _)))) => exact .nil
def spTold (K : PySem.W.Frag) : Sp := fun vs H Q _ => ∃ a b v1 v2 v3 v4 t1 t2 t3 t4, vs = [.ref a, .bl b] ∧ SqL K H a [v1, v2, v3, v4] ∧ AnyT K H v1 t1 ∧ AnyT K H v2 t2 ∧ AnyT K H v3 t3 ∧ AnyT K H v4 t4 ∧
  (okV v1 v2 v3 v4 = false → ∀ H', Same H H' → Q (.str "number") H') ∧
  ∀ c u d x, v1 = .int c → v2 = .int u → v3 = .int d → v4 = .int x → okN c u d x → ∀ p H', H p = none → Same H H' → H' p = some (.tup [.int (stC c u d x), .int (stL c u d x)]) → Q (.ref p) H'
def t_told (K : PySem.W.Frag) (c_BadNumber c_ScoopError : Addr) : TS := tSeq (tAsg (tTup (tCons (tC .non) (tCons (tC .non) (tNil)))) (gTup K 2 (gCons (gName 2) (gCons (gName 3) (gNil)))))
  (tSeq (tAsg (tVar 0) (gLst K 4 (gCons (gName 4) (gCons (gName 5) (gCons (gName 6) (gCons (gName 7) (gNil)))))))
  (tTryKeep K (.ref c_ScoopError) 8 2 (fun W => tIfS (tB (tVar 1))
  (tAsg (tKw 4 (spPassed K c_BadNumber) gkw_passed (WE W) tNil (tCons (tVar 7) (tCons (tVar 6) (tCons (tVar 5) (tCons (tVar 4) (tNil)))))) (gName 3))
  (tAsg (tCallS (spPassed K c_BadNumber) (WE W) (tCons (tVar 4) (tCons (tVar 5) (tCons (tVar 6) (tCons (tVar 7) (tNil)))))) (gName 3)))
  (tSeq (tIfS (tTest (tOp qIsN (tVar 2) (tC .non)))
  (tRet (tVar 3))
  (tNext))
  (tRet (tIf (tB (tCB (rIsi K) (tCons (tVar 2) (tCons (tC (.ref c_BadNumber)) tNil)))) (tC (.str "number")) (tC (.str "other")))))
  (fun a cls d => tSeq (tIfS (tTest (tOp qIsN (tVar 2) (tC .non)))
  (tRet (tVar 3))
  (tNext))
  (tRet (tIf (tB (tCB (rIsK K a cls d) (tCons (tVar 2) (tCons (tC (.ref c_BadNumber)) tNil)))) (tC (.str "number")) (tC (.str "other"))))) (fun _ _ _ _ => False)))
/-- what the text's classes say: an error of class B is one of class S, and isinstance tells it -/
structure ErrF (K : PySem.W.Frag) (B S : Addr) : Prop where
  ex : PySem.W.exmOne K (.ref B) (.ref S) = some true
  ec : ExcC K B
theorem pure_told {K : PySem.W.Frag} {B S : Addr} (F : ErrF K B S) (hk : PySem.W.kitOne K (.ref B) (.ref B) = some true) (vs : List V) (H : Hp) (Q : VK) (E : XK) (h : spTold K vs H Q E) :
    t_told K B S { nx := fun _ H' => Q .non H', rt := Q } (start ["some", "is_named", "caught", "found", "most", "burden", "size", "amount", "error"] vs) H := by
  obtain ⟨a, b, v1, v2, v3, v4, t1, t2, t3, t4, rfl, hL, h1, h2, h3, h4, kE, kQ⟩ := h
  refine ⟨sz (by show 2 ≤ 1000; decide), fun p0 hp0 => ⟨p0, _, rfl, SqT.of upd_same, rfl, _, _, rfl, _, _, rfl, rfl, ?_⟩⟩
  have e0 : Same H (upd H p0 (.tup [.non, .non])) := fun b o z => (upd_ne (ne_of_none z hp0)).trans z
  generalize upd H p0 (.tup [.non, .non]) = H0 at e0 ⊢
  refine ⟨_, rfl, a, _, rfl, Same.seq e0 hL, rfl, _, _, rfl, _, _, rfl, _, _, rfl, _, _, rfl, rfl, _, rfl, b, rfl, ?_⟩
  -- what the call leaves, named or not
  have err : okV v1 v2 v3 v4 = false → wKeep K (.ref S) 8 2 (fun a cls d => tSeq (tIfS (tTest (tOp qIsN (tVar 2) (tC .non))) (tRet (tVar 3)) (tNext))
      (tRet (tIf (tB (tCB (rIsK K a cls d) (tCons (tVar 2) (tCons (tC (.ref B)) tNil)))) (tC (.str "number")) (tC (.str "other"))))) (fun _ _ _ _ => False) { nx := fun _ H' => Q .non H', rt := Q } (.ref B) none
      [some (.ref a), some (.bl b), some .non, some .non, some v1, some v2, some v3, some v4, none] H0 := by
    intro e
    refine ⟨true, F.ex, fun _ x hx => ?_, fun z => nomatch z⟩
    refine ⟨_, rfl, rfl, _, rfl, ?_⟩
    exact iteF ⟨_, rfl, B, _, _, true, rfl, rfl, F.ec, rfl, fun u hu => hu, hk, _, rfl, iteT (kE e H0 e0)⟩
  have good : ∀ c u d x, v1 = .int c → v2 = .int u → v3 = .int d → v4 = .int x → okN c u d x → ∀ p H9, H0 p = none → Same H0 H9 → H9 p = some (.tup [.int (stC c u d x), .int (stL c u d x)]) →
      (tSeq (tIfS (tTest (tOp qIsN (tVar 2) (tC .non))) (tRet (tVar 3)) (tNext))
        (tRet (tIf (tB (tCB (rIsi K) (tCons (tVar 2) (tCons (tC (.ref B)) tNil)))) (tC (.str "number")) (tC (.str "other"))))) { nx := fun _ H' => Q .non H', rt := Q }
        [some (.ref a), some (.bl b), some .non, some (.ref p), some v1, some v2, some v3, some v4, none] H9 := by
    intro c u d x e1 e2 e3 e4 o p H9 hp s9 a9
    exact ⟨_, rfl, rfl, _, rfl, iteT ⟨_, rfl, kQ c u d x e1 e2 e3 e4 o p _ (Same.free e0 hp) (fun b o z => s9 _ _ (e0 b o z)) a9⟩⟩
  cases b with
  | true => exact iteT ⟨_, rfl, _, rfl, _, rfl, _, rfl, rfl, v1, v2, v3, v4, t1, t2, t3, t4, rfl, h1.same e0, h2.same e0, h3.same e0, h4.same e0, err, good⟩
  | false => exact iteF ⟨_, rfl, _, rfl, _, rfl, _, rfl, v1, v2, v3, v4, t1, t2, t3, t4, rfl, h1.same e0, h2.same e0, h3.same e0, h4.same e0, err, good⟩
end SR

set_option Elab.async false
set_option linter.all false
set_option maxRecDepth 100000
set_option maxHeartbeats 4000000
/-! SRD: data written out: its length. -/
namespace SR
open PySem L2
mutual
def cost : PyData → Nat
  | .none => 4
  | .bool _ => 5
  | .int _ => 1921
  | .str x => (reprText x).length
  | .list xs => costAll xs + 4
  | .tuple xs => costAll xs + 4
  | .dict _ => 0
def costAll : List PyData → Nat
  | [] => 0
  | x :: xs => cost x + 2 + costAll xs
end
theorem listText_len (ts : List Str) : (listText ts).length ≤ piled ts + 2 := by
  cases ts with
  | nil => decide
  | cons t r =>
    have h := textFrom_length_pos r 1 (("[" : Str) ++ (if (0 : Nat) > 0 then ", " else "" : String) ++ t) (Nat.succ_pos 0)
    have e : ((("[" : Str) ++ (if (0 : Nat) > 0 then ", " else "" : String) ++ t)).length = 1 + t.length := by
      simp only [strLen_append] <;> rfl
    have e2 : (listText (t :: r)).length = (textFrom 1 (("[" : Str) ++ (if (0 : Nat) > 0 then ", " else "" : String) ++ t) r).length + 1 := by
      show (textFrom 1 (("[" : Str) ++ (if (0 : Nat) > 0 then ", " else "" : String) ++ t) r ++ "]").length = _
      simp only [strLen_append] <;> rfl
    rw [e2, h, e, piled_cons]
    omega
theorem tupleText_len (ts : List Str) : (tupleText ts).length ≤ piled ts + 4 := by
  unfold tupleText
  rw [strLen_append, strLen_append]
  have e1 : ((("(" : String) : Str)).length = 1 := rfl
  have e3 : (((if ts.length == 1 then ",)" else ")" : String) : Str)).length ≤ 2 := by split <;> decide
  by_cases h : ts = []
  · subst h
    have e4 : (Str.join ", " []).length = 0 := rfl
    omega
  · have := join_length_add ts h
    omega
mutual
theorem shown_cost : ∀ d : PyData, d.showable = true → d.hasDict = false → d.shown.length ≤ cost d
  | .none, _, _ => by show (("None" : String) : Str).length ≤ 4; decide
  | .bool b, _, _ => by cases b <;> (simp only [PyData.shown, cost]; decide)
  | .int i, h, _ => by
    have e := int_text_length_le (k := 1920) (by decide) (of_decide_eq_true h)
    show (Str.ofString (toString i)).length ≤ 1921
    rw [ofString_length]
    exact e
  | .str x, _, _ => Nat.le_refl _
  | .list xs, h, hd => by
    have q := shownAll_cost xs h hd
    have := listText_len (PyData.shownAll xs)
    show (listText (PyData.shownAll xs)).length ≤ costAll xs + 4
    omega
  | .tuple xs, h, hd => by
    have q := shownAll_cost xs h hd
    have := tupleText_len (PyData.shownAll xs)
    show (tupleText (PyData.shownAll xs)).length ≤ costAll xs + 4
    omega
  | .dict _, _, hd => nomatch hd
theorem shownAll_cost : ∀ ds : List PyData, PyData.showableAll ds = true → PyData.hasDictAll ds = false → piled (PyData.shownAll ds) ≤ costAll ds
  | [], _, _ => Nat.le_refl _
  | d :: ds, h, hd => by
    have h' : (PyData.showable d && PyData.showableAll ds) = true := h
    have hd' : (PyData.hasDict d || PyData.hasDictAll ds) = false := hd
    rw [Bool.and_eq_true] at h'
    rw [Bool.or_eq_false_iff] at hd'
    have q1 := shown_cost d h'.1 hd'.1
    have q2 := shownAll_cost ds h'.2 hd'.2
    show piled (PyData.shown d :: PyData.shownAll ds) ≤ cost d + 2 + costAll ds
    rw [piled_cons]
    omega
end
theorem dRepr_cost {d : PyData} (h : d.showable = true) (hd : d.hasDict = false) : (dRepr d).length ≤ cost d := by
  cases d with
  | dict _ => cases hd
  | _ => exact shown_cost _ h hd
theorem show_int {i : Int} (h : i.natAbs < 2 ^ 1900) : (PyData.int i).showable = true := by
  show decide (i.natAbs.log2 < 1920) = true
  refine decide_eq_true ?_
  by_cases e : i.natAbs = 0
  · rw [e]; decide
  · exact Nat.lt_of_lt_of_le ((Nat.log2_lt e).mpr h) (by decide)
theorem repr_fit {K : PySem.W.Frag} {H : Hp} {x : V} {d : PyData} (hs : d.showable = true) (hx : Dp K H x d) (hc : cost d ≤ 1000000) : (dRepr d).length ≤ sizeLine :=
  Nat.le_trans (dRepr_cost hs (dp_nodict _ _ hx)) (Nat.le_trans hc (by decide))
theorem eqv_same {d : PyData} (hs : SeqAt.shaped d = true) : PyData.eqv d d = true := SeqAt.eqv_refl d (by
  unfold SeqAt.shaped at hs
  rw [Bool.and_eq_true] at hs
  exact hs.1)
theorem iteNE {d : PyData} {A B : Prop} (hs : SeqAt.shaped d = true) (q : B) : if (!PyData.eqv d d) = true then A else B := by
  rw [eqv_same hs]
  exact q
/-- repr(x) != repr(y) of the same data is False -/
theorem repr_same {K : PySem.W.Frag} {σ : L2.St} {H : Hp} {ta tb : TE} {x y : V} {d : PyData} {Q : Bool → Hp → Prop} (ha : ∀ Q' : VK, Q' x H → ta σ H Q') (hb : ∀ Q' : VK, Q' y H → tb σ H Q')
    (hx : Dp K H x d) (hy : Dp K H y d) (hs : d.showable = true) (hdep : d.depth ≤ 60) (hc : cost d ≤ 1000000) (q : Q false H) : tTest (tOp rNe (tCB (rRepr K) (tCons ta tNil)) (tCB (rRepr K) (tCons tb tNil))) σ H Q := by
  have hz : (dRepr d).length ≤ sizeLine := Nat.le_trans (dRepr_cost hs (dp_nodict _ _ hx)) (Nat.le_trans hc (by decide))
  refine ha _ ⟨x, d, rfl, hx, hs, hdep, hz, hb _ ⟨y, d, rfl, hy, hs, hdep, hz, rfl, _, rfl, ?_⟩⟩
  rw [decide_eq_true (rfl : V.str (dRepr d) = V.str (dRepr d))]
  exact q
/-- x != y of the same data is False -/
theorem ne_same {K : PySem.W.Frag} {σ : L2.St} {H : Hp} {x y : V} {d : PyData} {Q : VK} (hx : Dp K H x d) (hy : Dp K H y d) (hs : SeqAt.shaped d = true) (q : Q (.bl false) H) : rNeD K x y H Q := by
  refine ⟨d, d, hx, hy, hs, hs, ?_⟩
  have e : PyData.eqv d d = true := SeqAt.eqv_refl d (by
    unfold SeqAt.shaped at hs
    rw [Bool.and_eq_true] at hs
    exact hs.1)
  rw [e]
  exact q
theorem eq_same {K : PySem.W.Frag} {H : Hp} {x y : V} {d : PyData} {Q : VK} (hx : Dp K H x d) (hy : Dp K H y d) (hs : SeqAt.shaped d = true) (q : Q (.bl true) H) : rEqD K x y H Q := by
  refine ⟨d, d, hx, hy, hs, hs, ?_⟩
  have e : PyData.eqv d d = true := SeqAt.eqv_refl d (by
    unfold SeqAt.shaped at hs
    rw [Bool.and_eq_true] at hs
    exact hs.1)
  rw [e]
  exact q
end SR

set_option Elab.async false
set_option linter.all false
set_option maxRecDepth 100000
set_option maxHeartbeats 4000000
/-! K04C: the law of passed boxes: a turn, the law. -/
namespace SR
open PySem L2
def t_rest (K : PySem.W.Frag) (c_BadNumber : Addr) : TS := tSeq (tAsg (tC (.str "number")) (gName 7))
  (tSeq (tIfS (tB (tCall (spIsValid K) [] E0 (tCons (tVar 5) (tNil))))
  (tAsg (tCall spLPassed [] E0 (tCons (tOp (rIxL K) (tVar 5) (tC (.int 0))) (tCons (tOp (rIxL K) (tVar 5) (tC (.int 1))) (tCons (tOp (rIxL K) (tVar 5) (tC (.int 2))) (tCons (tOp (rIxL K) (tVar 5) (tC (.int 3))) (tNil)))))) (gName 7))
  (tNext))
  (tSeq (tAsg (tCall (spTold K) [] E0 (tCons (tVar 5) (tCons (tOp rEq (tCall spTake [] E0 (tCons (tVar 1) (tCons (tC (.int 2)) (tNil)))) (tC (.int 0))) (tNil)))) (gName 8))
  (tSeq (tIfS (tTest (tOp rNe (tCB (rRepr K) (tCons (tVar 8) (tNil))) (tCB (rRepr K) (tCons (tVar 7) (tNil)))))
  (tRet (tC (.bl false)))
  (tNext))
  (tIfS (tB (tCB (rIsi K) (tCons (tVar 7) (tCons (tC (.ty "tuple")) tNil))))
  (tSeq (tAsg (tTup (tCons (tOp (rIxL K) (tVar 5) (tC (.int 1))) (tCons (tOp (rIxL K) (tVar 5) (tC (.int 3))) (tNil)))) (gName 9))
  (tSeq (tIfS (tOr (tTest (tOp rNe (tOp qAdd (tOp (rIxT K) (tVar 7) (tC (.int 0))) (tOp (rIxT K) (tVar 7) (tC (.int 1)))) (tCB (rSumT K) (tCons (tVar 9) (tNil))))) (tTest (tOp (rNeD K) (tCall spLPassed [] E0 (tCons (tOp (rIxL K) (tVar 5) (tC (.int 2))) (tCons (tOp (rIxT K) (tVar 7) (tC (.int 0))) (tCons (tOp (rIxL K) (tVar 5) (tC (.int 0))) (tCons (tOp (rIxT K) (tVar 7) (tC (.int 1))) (tNil)))))) (tVar 9))))
  (tRet (tC (.bl false)))
  (tNext))
  (tIfS (tTest (tOp (rNeD K) (tCall (spPassed K c_BadNumber) [] E0 (tCons (tOp (rIxL K) (tVar 5) (tC (.int 2))) (tCons (tOp (rIxT K) (tVar 7) (tC (.int 0))) (tCons (tOp (rIxL K) (tVar 5) (tC (.int 0))) (tCons (tOp (rIxT K) (tVar 7) (tC (.int 1))) (tNil)))))) (tVar 9)))
  (tRet (tC (.bl false)))
  (tNext))))
  (tNext)))))
def t_turn (K : PySem.W.Frag) (c_BadNumber : Addr) : TS := tSeq (tPar 3 4 (tCons (tCall (spPick K) [] E0 (tCons (tVar 1) (tCons (tLst (tCons (tC (.int 1)) (tCons (tC (.int 1)) (tCons (tC (.int 2)) (tCons (tC (.int 9)) (tCons (tC (.int 99)) (tCons (tOp qAdd (tC (.int 1)) (tCall spTake [] E0 (tCons (tVar 1) (tCons (tC (.int 99)) (tNil))))) (tNil)))))))) (tNil)))) (tCons (tOp qAdd (tC (.int 1)) (tCall spTake [] E0 (tCons (tVar 1) (tCons (tC (.int 99)) (tNil))))) (tNil))))
  (tSeq (tAsg (tLst (tCons (tVar 3) (tCons (tCall spTake [] E0 (tCons (tVar 1) (tCons (tOp qAdd (tVar 3) (tC (.int 1))) (tNil)))) (tCons (tCall (spPick K) [] E0 (tCons (tVar 1) (tCons (tLst (tCons (tC (.int 1)) (tCons (tVar 4) (tNil)))) (tNil)))) (tCons (tC (.int 0)) (tNil)))))) (gName 5))
  (tSeq (tAsg (tCall spTake [] E0 (tCons (tVar 1) (tCons (tOp qAdd (tOp (rIxL K) (tVar 5) (tC (.int 2))) (tC (.int 1))) (tNil)))) (gSub (tVar 5) (tC (.int 3)) rSetL))
  (tSeq (tIfS (tTest (tOp rEq (tCall spTake [] E0 (tCons (tVar 1) (tCons (tC (.int 4)) (tNil)))) (tC (.int 0))))
  (tSeq (tAsg (tLst (tCons (tC .non) (tCons (tC (.bl true)) (tCons (tC (.bl false)) (tCons (tUn (rU fun i => .int (-i)) (tC (.int 1))) (tCons (tC (.int 0)) (tCons (tC (.int 100)) (tCons (tOp qPow (tC (.int 10)) (tC (.int 30))) (tCons (tC (.str "1")) (tCons (tTup (tCons (tC (.int 1)) (tNil))) (tCons (tLst (tNil)) (tCons (tOp qAdd (tVar 3) (tC (.int 1))) (tCons (tOp qAdd (tOp (rIxL K) (tVar 5) (tC (.int 2))) (tC (.int 1))) (tNil)))))))))))))) (gName 6))
  (tAsg (tCall (spPick K) [] E0 (tCons (tVar 1) (tCons (tVar 6) (tNil)))) (gSub (tVar 5) (tCall spTake [] E0 (tCons (tVar 1) (tCons (tC (.int 4)) (tNil)))) rSetL)))
  (tNext))
  (t_rest K c_BadNumber))))
def t_law (K : PySem.W.Frag) (c_BadNumber : Addr) : TS := tSeq (tAsg (tCall (spBegun K) [] E0 (tCons (tVar 0) (tNil))) (gName 1))
  (tSeq (tFor (iRng1 (tCons (tOp qAdd (tC (.int 20)) (tCB qMin2 (tCons (tCB (qLen K) (tCons (tVar 0) (tNil))) (tCons (tC (.int 40)) (tNil))))) (tNil))) (gName 2)
  (t_turn K c_BadNumber))
  (tRet (tC (.bl true))))
section
variable {K : PySem.W.Frag} {B : Addr}
/-- passing back gives the numbers before -/
theorem back_ok {c u d x : Int} (o : okN c u d x) : stC d (stC c u d x) c (stL c u d x) = u ∧ stL d (stC c u d x) c (stL c u d x) = x ∧ stC c u d x + stL c u d x = u + x ∧ okN d (stC c u d x) c (stL c u d x) := by
  obtain ⟨h1, h2, h3, h4⟩ := o
  unfold okN stC stL
  omega
theorem StB.same {H H' : Hp} {d g c : Addr} {b : Nat} (e : Same H H') (S : StB H d g c b) : StB H' d g c b := by
  obtain ⟨r, t, gs, cs, h1, h2, h3, h4⟩ := S
  exact ⟨r, t, gs, cs, e _ _ h1, e _ _ h2, e _ _ h3, h4⟩
/-- the list of four, as the rest of a turn finds it -/
structure Four (K : PySem.W.Frag) (H : Hp) (d g c s : Addr) (v1 v2 v3 v4 : V) : Prop where
  at_ : H s = some (.lst [v1, v2, v3, v4])
  nd : s ≠ d
  ng : s ≠ g
  nc : s ≠ c
  k1 : ∃ t, AnyT K (hid d g H) v1 t
  k2 : ∃ t, AnyT K (hid d g H) v2 t
  k3 : ∃ t, AnyT K (hid d g H) v3 t
  k4 : ∃ t, AnyT K (hid d g H) v4 t
theorem Four.kp {H H' : Hp} {d g c s : Addr} {v1 v2 v3 v4 : V} (F : Four K H d g c s v1 v2 v3 v4) (k : Kp d g H H') : Four K H' d g c s v1 v2 v3 v4 :=
  ⟨k _ _ F.nd F.ng F.at_, F.nd, F.ng, F.nc, let ⟨t, h⟩ := F.k1; ⟨t, h.same k.hid⟩, let ⟨t, h⟩ := F.k2; ⟨t, h.same k.hid⟩, let ⟨t, h⟩ := F.k3; ⟨t, h.same k.hid⟩, let ⟨t, h⟩ := F.k4; ⟨t, h.same k.hid⟩⟩
def pr2 (i j : Int) : PyData := .tuple [.int i, .int j]
theorem dp_pr2 {H : Hp} {p : Addr} {i j : Int} (h : H p = some (.tup [.int i, .int j])) : Dp K H (.ref p) (pr2 i j) := .tup (SqT.of h) (.cons (.int i) (.cons (.int j) .nil))
theorem pr2_shaped (i j : Int) : SeqAt.shaped (pr2 i j) = true := shaped_tup (ds := [.int i, .int j]) rfl (by simp [PyData.depthAll, PyData.depth])
theorem pr2_show {i j : Int} (h1 : i.natAbs < 2 ^ 1900) (h2 : j.natAbs < 2 ^ 1900) : (pr2 i j).showable = true := by
  show (PyData.showable (.int i) && (PyData.showable (.int j) && true)) = true
  rw [show_int h1, show_int h2] <;> rfl
theorem rest_ok {H : Hp} {d g c s : Addr} {b : Nat} {v1 v2 v3 v4 z : V} {w2 w3 w4 w6 w7 w8 w9 : Option V} {N N2 N3 : L2.St → Hp → Prop} {R : VK} (S : StB H d g c (b + 1)) (F : Four K H d g c s v1 v2 v3 v4)
    (hN : ∀ x2 x3 x4 x5 x6 x7 x8 x9 H', StB H' d g c b → N [some z, some (.ref d), x2, x3, x4, x5, x6, x7, x8, x9] H') :
    t_rest K B { nx := N, rt := R, bk := N2, ct := N3 } [some z, some (.ref d), w2, w3, w4, some (.ref s), w6, w7, w8, w9] H := by
  obtain ⟨⟨t1, k1⟩, ⟨t2, k2⟩, ⟨t3, k3⟩, ⟨t4, k4⟩⟩ := And.intro F.k1 (And.intro F.k2 (And.intro F.k3 F.k4))
  -- due = "number"; if _law_is_valid(some)
  refine ⟨_, rfl, s, v1, v2, v3, v4, t1, t2, t3, t4, rfl, SqL.of F.at_, k1.same hid_same, k2.same hid_same, k3.same hid_same, k4.same hid_same, fun H1 e1 => ⟨_, rfl, ?_⟩⟩
  have S1 := StB.same e1 S
  have F1 := F.kp (Kp.of_same e1)
  cases ok : okV v1 v2 v3 v4 with
  | false =>
    refine iteF ⟨_, rfl, _, rfl, d, g, c, b, 2, rfl, S1, by decide, by decide, fun i H2 _ _ S2 q2 => ⟨rfl, ?_⟩⟩
    have F2 := F1.kp q2
    obtain ⟨⟨u1, l1⟩, ⟨u2, l2⟩, ⟨u3, l3⟩, ⟨u4, l4⟩⟩ := And.intro F2.k1 (And.intro F2.k2 (And.intro F2.k3 F2.k4))
    refine ⟨s, _, v1, v2, v3, v4, u1, u2, u3, u4, rfl, SqL.of F2.at_, l1.same hid_same, l2.same hid_same, l3.same hid_same, l4.same hid_same, fun _ H9 e9 => ?_, fun c u d x e1 e2 e3 e4 o => ?_⟩
    · have hz : (dRepr (.str "number")).length ≤ sizeLine := repr_fit (K := K) (H := H9) rfl (.str _) (by decide +kernel)
      refine ⟨_, rfl, _, .str "number", rfl, .str _, rfl, by decide, hz, _, rfl, _, .str "number", rfl, .str _, rfl, by decide, hz, rfl, _, rfl, iteNS rfl ?_⟩
      refine ⟨_, rfl, _, _, _, _, _, rfl, .ty _, (AnyT.str (K := K) (H := H9) "number").ty, (AnyT.str (K := K) (H := H9) "number").kit.2.2.1, _, rfl, iteF ?_⟩
      exact hN _ _ _ _ _ _ _ _ _ (StB.same e9 S2)
    · rw [okV_yes.mpr ⟨c, u, d, x, e1, e2, e3, e4, o⟩] at ok
      cases ok
  | true =>
    obtain ⟨ca, u, da, x, rfl, rfl, rfl, rfl, o⟩ := okV_yes.mp ok
    -- due = _law_passed(..)
    refine iteT ⟨_, rfl, s, _, 0, _, rfl, rfl, SqL.of F1.at_, rfl, _, rfl, s, _, 1, _, rfl, rfl, SqL.of F1.at_, rfl, _, rfl, s, _, 2, _, rfl, rfl, SqL.of F1.at_, rfl, _, rfl, s, _, 3, _, rfl, rfl, SqL.of F1.at_, rfl,
      ca, u, da, x, rfl, fun p hp => ?_⟩
    obtain ⟨p1, p2, p3⟩ := S1.off hp
    have S2 := S1.new (o := .tup [.int (stC ca u da x), .int (stL ca u da x)]) hp
    have F2 := F1.kp (Kp.new (o := .tup [.int (stC ca u da x), .int (stL ca u da x)]) hp)
    have A2 : upd H1 p (.tup [.int (stC ca u da x), .int (stL ca u da x)]) p = some (.tup [.int (stC ca u da x), .int (stL ca u da x)]) := upd_same
    generalize upd H1 p (.tup [.int (stC ca u da x), .int (stL ca u da x)]) = H2 at S2 F2 A2 ⊢
    -- told = _law_told(..)
    refine ⟨_, rfl, _, rfl, d, g, c, b, 2, rfl, S2, by decide, by decide, fun i H3 _ _ S3 q3 => ⟨rfl, ?_⟩⟩
    have F3 := F2.kp q3
    have A3 := q3 _ _ p1 p2 A2
    refine ⟨s, _, .int ca, .int u, .int da, .int x, _, _, _, _, rfl, SqL.of F3.at_, .int _, .int _, .int _, .int _, fun z => (by rw [ok] at z; cases z), fun c' u' d' x' e1 e2 e3 e4 _ r H4 hr eq4 B4 => ?_⟩
    cases e1; cases e2; cases e3; cases e4
    have S4 := StB.same eq4 S3
    have F4 := F3.kp (Kp.of_same eq4)
    have A4 := eq4 _ _ A3
    obtain ⟨b1, b2, b3, b4⟩ := back_ok o
    -- if repr(told) != repr(due)
    have big : (2 : Nat) ^ 10 ≤ 2 ^ 1900 := Nat.pow_le_pow_right (by decide) (by decide)
    have hsh : (pr2 (stC ca u da x) (stL ca u da x)).showable = true := pr2_show (by have := b4.2.1; have := b4.1; omega) (by have := b4.2.2.2; have := b4.2.2.1; omega)
    have hz : (dRepr (pr2 (stC ca u da x) (stL ca u da x))).length ≤ sizeLine := repr_fit hsh (dp_pr2 (K := K) A4) (by simp [pr2, cost, costAll])
    have hdep : (pr2 (stC ca u da x) (stL ca u da x)).depth ≤ 60 := by simp [pr2, PyData.depth, PyData.depthAll]
    refine ⟨_, rfl, _, _, rfl, dp_pr2 B4, hsh, hdep, hz, _, rfl, _, _, rfl, dp_pr2 A4, hsh, hdep, hz, rfl, _, rfl, iteNS rfl ?_⟩
    have ty := AnyT.tup (K := K) (SqT.of A4)
    refine ⟨_, rfl, _, _, _, _, _, rfl, .ty _, ty.ty, ty.kit.2.2.1, _, rfl, iteT ?_⟩
    -- back = (some[1], some[3])
    refine ⟨_, rfl, s, _, 1, _, rfl, rfl, SqL.of F4.at_, rfl, _, rfl, s, _, 3, _, rfl, rfl, SqL.of F4.at_, rfl, sz (by show 2 ≤ 1000; decide), fun t ht => ?_⟩
    have S5 := S4.new (o := .tup [.int u, .int x]) ht
    have F5 := F4.kp (Kp.new (o := .tup [.int u, .int x]) ht)
    have A5 : upd H4 t (.tup [.int u, .int x]) p = _ := (upd_ne (ne_of_none A4 ht)).trans A4
    have T5 : upd H4 t (.tup [.int u, .int x]) t = some (.tup [.int u, .int x]) := upd_same
    generalize upd H4 t (.tup [.int u, .int x]) = H5 at S5 F5 A5 T5 ⊢
    -- if due[0] + due[1] != sum(back) or _law_passed(..) != back
    refine ⟨_, rfl, p, _, 0, _, rfl, rfl, SqT.of A5, rfl, _, rfl, p, _, 1, _, rfl, rfl, SqT.of A5, rfl, _, _, rfl, rfl, _, rfl, t, [u, x], rfl, SqT.of T5, rfl, _, rfl, ?_⟩
    have e1 : V.int (stC ca u da x + stL ca u da x) = V.int ([u, x].sum) := by rw [b3]; simp
    rw [decide_eq_true e1]
    refine iteF ⟨_, rfl, s, _, 2, _, rfl, rfl, SqL.of F5.at_, rfl, _, rfl, p, _, 0, _, rfl, rfl, SqT.of A5, rfl, _, rfl, s, _, 0, _, rfl, rfl, SqL.of F5.at_, rfl, _, rfl, p, _, 1, _, rfl, rfl, SqT.of A5, rfl,
      da, stC ca u da x, ca, stL ca u da x, rfl, fun p' hp' => ⟨_, rfl, ?_⟩⟩
    rw [b1, b2]
    refine ⟨pr2 u x, pr2 u x, dp_pr2 upd_same, dp_pr2 ((upd_ne (ne_of_none T5 hp')).trans T5), pr2_shaped _ _, pr2_shaped _ _, _, rfl, iteNE (pr2_shaped _ _) ?_⟩
    have S6 := S5.new (o := .tup [.int u, .int x]) hp'
    have F6 := F5.kp (Kp.new (o := .tup [.int u, .int x]) hp')
    have A6 : upd H5 p' (.tup [.int u, .int x]) p = _ := (upd_ne (ne_of_none A5 hp')).trans A5
    have T6 : upd H5 p' (.tup [.int u, .int x]) t = _ := (upd_ne (ne_of_none T5 hp')).trans T5
    generalize upd H5 p' (.tup [.int u, .int x]) = H6 at S6 F6 A6 T6 ⊢
    -- if passed(..) != back
    refine ⟨_, rfl, s, _, 2, _, rfl, rfl, SqL.of F6.at_, rfl, _, rfl, p, _, 0, _, rfl, rfl, SqT.of A6, rfl, _, rfl, s, _, 0, _, rfl, rfl, SqL.of F6.at_, rfl, _, rfl, p, _, 1, _, rfl, rfl, SqT.of A6, rfl,
      _, _, _, _, _, _, _, _, rfl, .int _, .int _, .int _, .int _, fun z => (by rw [okV_yes.mpr ⟨_, _, _, _, rfl, rfl, rfl, rfl, b4⟩] at z; cases z), fun c' u' d' x' e1 e2 e3 e4 _ r' H7 hr' s7 a7 => ⟨_, rfl, ?_⟩⟩
    cases e1; cases e2; cases e3; cases e4
    rw [b1, b2] at a7
    refine ⟨pr2 u x, pr2 u x, dp_pr2 a7, dp_pr2 (s7 _ _ T6), pr2_shaped _ _, pr2_shaped _ _, _, rfl, iteNE (pr2_shaped _ _) ?_⟩
    exact hN _ _ _ _ _ _ _ _ _ (StB.same s7 S6)
theorem hid_upd {H : Hp} {d g s p : Addr} {o u : HO} (np : p ≠ s) (h : hid d g H p = some u) : hid d g (upd H s o) p = some u := by
  obtain ⟨h0, h1, h2⟩ := hid_some h
  exact hid_of ((upd_ne np).trans h0) h1 h2
theorem anyT_upd {H : Hp} {d g s : Addr} {o : HO} {y : V} {ty : String} (h : AnyT K (hid d g H) y ty) (hne : y ≠ .ref s) : AnyT K (hid d g (upd H s o)) y ty := by
  cases h with
  | non => exact .non
  | bl b => exact .bl b
  | int i => exact .int i
  | str x => exact .str x
  | @lst p xs h =>
    have np : p ≠ s := fun q => hne (by rw [q])
    refine .lst (xs := xs) ?_
    rcases h with (h | ⟨ob, h⟩) | h
    · exact .inl (.inl (hid_upd np h))
    · exact .inl (.inr ⟨ob, hid_upd np h⟩)
    · exact .inr h
  | @tup p xs h =>
    have np : p ≠ s := fun q => hne (by rw [q])
    refine .tup (xs := xs) ?_
    rcases h with (h | ⟨ob, h⟩) | h
    · exact .inl (.inl (hid_upd np h))
    · exact .inl (.inr ⟨ob, hid_upd np h⟩)
    · exact .inr h
  | @dct p kvs h =>
    have np : p ≠ s := fun q => hne (by rw [q])
    refine .dct (kvs := kvs) ?_
    rcases h with h | ⟨ob, h⟩
    · exact .inl (hid_upd np h)
    · exact .inr ⟨ob, hid_upd np h⟩
theorem ix4 {a b c e : V} {n : Nat} (h : n < 4) : ixN [a, b, c, e].length (n : Int) = some n := by
  have : n = 0 ∨ n = 1 ∨ n = 2 ∨ n = 3 := by omega
  rcases this with rfl | rfl | rfl | rfl <;> rfl
theorem turn_ok {H : Hp} {d g c : Addr} {b : Nat} {z : V} {w2 w3 w4 w5 w6 w7 w8 w9 : Option V} {N N2 N3 : L2.St → Hp → Prop} {R : VK} (S : StB H d g c (b + 20))
    (hN : ∀ x2 x3 x4 x5 x6 x7 x8 x9 H', StB H' d g c b → N [some z, some (.ref d), x2, x3, x4, x5, x6, x7, x8, x9] H') :
    t_turn K B { nx := N, rt := R, bk := N2, ct := N3 } [some z, some (.ref d), w2, w3, w4, w5, w6, w7, w8, w9] H := by
  -- most, size = ..
  refine ⟨_, rfl, _, rfl, d, g, c, b + 19, 99, rfl, S, by decide, by decide, fun i1 H1 i10 i11 S1 q1 => ⟨_, _, rfl, rfl, sz (by show 6 ≤ 1000; decide), fun l hl => ?_⟩⟩
  obtain ⟨l1, l2, _⟩ := S1.off hl
  refine ⟨d, g, c, b + 18, l, _, rfl, S1.new hl, SqL.of upd_same, l1, l2, by show 0 < 6; decide, by show 6 < 1000; decide, fun v H2 hv S2 q2 => ?_⟩
  obtain ⟨m, rfl, m1, m2⟩ : ∃ m : Int, v = .int m ∧ 1 ≤ m ∧ m ≤ 99 := by
    simp only [List.mem_cons, List.not_mem_nil, or_false] at hv
    rcases hv with rfl | rfl | rfl | rfl | rfl | rfl
    · exact ⟨1, rfl, by decide, by decide⟩
    · exact ⟨1, rfl, by decide, by decide⟩
    · exact ⟨2, rfl, by decide, by decide⟩
    · exact ⟨9, rfl, by decide, by decide⟩
    · exact ⟨99, rfl, by decide, by decide⟩
    · exact ⟨_, rfl, by omega, by omega⟩
  clear hv
  refine ⟨_, rfl, d, g, c, b + 17, 99, rfl, S2, by decide, by decide, fun i2 H3 i20 i21 S3 q3 => ⟨_, _, rfl, rfl, _, _, rfl, ?_⟩⟩
  -- some = [most, ..]
  refine ⟨_, rfl, _, rfl, _, rfl, _, _, rfl, rfl, d, g, c, b + 16, m + 1, rfl, S3, by omega, by omega, fun u H4 u0 u1 S4 q4 => ⟨_, rfl, _, rfl, sz (by show 2 ≤ 1000; decide), fun k hk => ?_⟩⟩
  obtain ⟨k1, k2, _⟩ := S4.off hk
  refine ⟨d, g, c, b + 15, k, _, rfl, S4.new hk, SqL.of upd_same, k1, k2, by show 0 < 2; decide, by show 2 < 1000; decide, fun v H5 hv S5 q5 => ?_⟩
  obtain ⟨e, rfl, e1, e2⟩ : ∃ m : Int, v = .int m ∧ 1 ≤ m ∧ m ≤ 99 := by
    simp only [List.mem_cons, List.not_mem_nil, or_false] at hv
    rcases hv with rfl | rfl
    · exact ⟨1, rfl, by decide, by decide⟩
    · exact ⟨_, rfl, by omega, by omega⟩
  clear hv
  refine ⟨sz (by show 4 ≤ 1000; decide), fun s hs => ?_⟩
  obtain ⟨s1, s2, s3⟩ := S5.off hs
  have S6 := S5.new (o := .lst [.int m, .int u, .int e, .int 0]) hs
  have A6 : upd H5 s (.lst [.int m, .int u, .int e, .int 0]) s = some (.lst [.int m, .int u, .int e, .int 0]) := upd_same
  generalize upd H5 s (.lst [.int m, .int u, .int e, .int 0]) = H6 at S6 A6 ⊢
  -- some[3] = ..
  refine ⟨_, rfl, _, rfl, s, _, 2, _, rfl, rfl, SqL.of A6, rfl, _, _, rfl, rfl, d, g, c, b + 14, e + 1, rfl, S6, by omega, by omega, fun x H7 x0 x1 S7 q7 => ?_⟩
  have A7 := q7 _ _ s1 s2 A6
  refine ⟨_, rfl, s, _, 3, 3, rfl, rfl, A7, rfl, ?_⟩
  have S8 := S7.upd (o := .lst ([V.int m, .int u, .int e, .int 0].set 3 (.int x))) s1 s2 s3
  have A8 : upd H7 s (.lst ([V.int m, .int u, .int e, .int 0].set 3 (.int x))) s = some (.lst [.int m, .int u, .int e, .int x]) := upd_same
  generalize upd H7 s (.lst ([V.int m, .int u, .int e, .int 0].set 3 (.int x))) = H8 at S8 A8 ⊢
  -- if _law_take(state, 4) == 0
  refine ⟨_, rfl, d, g, c, b + 13, 4, rfl, S8, by decide, by decide, fun y H9 _ _ S9 q9 => ⟨rfl, _, rfl, ?_⟩⟩
  have A9 := q9 _ _ s1 s2 A8
  refine ite2 (fun _ => ?_) (fun _ => ?_)
  · -- odd = [..]
    refine ⟨1, rfl, 10, 30, rfl, rfl, ⟨by decide, by decide, by decide⟩, sz (by show 1 ≤ 1000; decide), fun t ht => ⟨sz (Nat.zero_le _), fun r hr => ?_⟩⟩
    obtain ⟨t1, t2, _⟩ := S9.off ht
    have S10 := S9.new (o := .tup [.int 1]) ht
    have A10 : upd H9 t (.tup [.int 1]) s = _ := (upd_ne (ne_of_none A9 ht)).trans A9
    have T10 : upd H9 t (.tup [.int 1]) t = some (.tup [.int 1]) := upd_same
    generalize upd H9 t (.tup [.int 1]) = H10 at S10 A10 T10 hr ⊢
    obtain ⟨r1, r2, _⟩ := S10.off hr
    have S11 := S10.new (o := .lst []) hr
    have A11 : upd H10 r (.lst []) s = _ := (upd_ne (ne_of_none A10 hr)).trans A10
    have T11 : upd H10 r (.lst []) t = _ := (upd_ne (ne_of_none T10 hr)).trans T10
    have R11 : upd H10 r (.lst []) r = some (.lst []) := upd_same
    generalize upd H10 r (.lst []) = H11 at S11 A11 T11 R11 ⊢
    refine ⟨_, rfl, _, _, rfl, rfl, _, rfl, s, _, 2, _, rfl, rfl, SqL.of A11, rfl, _, _, rfl, rfl, sz (by show 12 ≤ 1000; decide), fun o ho => ?_⟩
    obtain ⟨o1, o2, _⟩ := S11.off ho
    have S12 := S11.new (o := .lst [.non, .bl true, .bl false, .int (-1), .int 0, .int 100, .int (10 ^ (30 : Int).toNat), .str "1", .ref t, .ref r, .int (m + 1), .int (e + 1)]) ho
    -- some[..] = _law_pick(state, odd)
    refine ⟨_, rfl, _, rfl, d, g, c, b + 12, o, _, rfl, S12, SqL.of upd_same, o1, o2, by show 0 < 12; decide, by show 12 < 1000; decide, fun v H13 hv S13 q13 => ?_⟩
    have A13 := q13 _ _ s1 s2 ((upd_ne (ne_of_none A11 ho)).trans A11)
    have T13 := q13 _ _ t1 t2 ((upd_ne (ne_of_none T11 ho)).trans T11)
    have R13 := q13 _ _ r1 r2 ((upd_ne (ne_of_none R11 ho)).trans R11)
    refine ⟨_, rfl, _, rfl, d, g, c, b + 11, 4, rfl, S13, by decide, by decide, fun n H14 n0 n1 S14 q14 => ?_⟩
    have A14 := q14 _ _ s1 s2 A13
    have nt : V.ref t ≠ .ref s := fun q => ne_of_none A9 ht (V.ref.inj q).symm
    have nr : V.ref r ≠ .ref s := fun q => ne_of_none A10 hr (V.ref.inj q).symm
    have hk : (∃ ty, AnyT K (hid d g H14) v ty) ∧ v ≠ .ref s := by
      simp only [List.mem_cons, List.not_mem_nil, or_false] at hv
      rcases hv with rfl | rfl | rfl | rfl | rfl | rfl | rfl | rfl | rfl | rfl | rfl | rfl
      · exact ⟨⟨_, .non⟩, fun q => nomatch q⟩
      · exact ⟨⟨_, .bl _⟩, fun q => nomatch q⟩
      · exact ⟨⟨_, .bl _⟩, fun q => nomatch q⟩
      · exact ⟨⟨_, .int _⟩, fun q => nomatch q⟩
      · exact ⟨⟨_, .int _⟩, fun q => nomatch q⟩
      · exact ⟨⟨_, .int _⟩, fun q => nomatch q⟩
      · exact ⟨⟨_, .int _⟩, fun q => nomatch q⟩
      · exact ⟨⟨_, .str _⟩, fun q => nomatch q⟩
      · exact ⟨⟨_, .tup (SqT.of (hid_of (q14 _ _ t1 t2 T13) t1 t2))⟩, nt⟩
      · exact ⟨⟨_, .lst (SqL.of (hid_of (q14 _ _ r1 r2 R13) r1 r2))⟩, nr⟩
      · exact ⟨⟨_, .int _⟩, fun q => nomatch q⟩
      · exact ⟨⟨_, .int _⟩, fun q => nomatch q⟩
    clear hv
    obtain ⟨j, rfl⟩ : ∃ j : Nat, n = (j : Int) := ⟨n.toNat, by omega⟩
    have hj : j < 4 := by omega
    refine ⟨s, _, (j : Int), j, rfl, rfl, A14, ix4 hj, ?_⟩
    have iz : ∀ i : Int, (∃ t, AnyT K (hid d g H14) (.int i) t) ∧ V.int i ≠ .ref s := fun i => ⟨⟨_, .int i⟩, fun q => nomatch q⟩
    have fin : ∀ v1 v2 v3 v4 : V, [V.int m, .int u, .int e, .int x].set j v = [v1, v2, v3, v4] → ((∃ t, AnyT K (hid d g H14) v1 t) ∧ v1 ≠ .ref s) → ((∃ t, AnyT K (hid d g H14) v2 t) ∧ v2 ≠ .ref s) → ((∃ t, AnyT K (hid d g H14) v3 t) ∧ v3 ≠ .ref s) → ((∃ t, AnyT K (hid d g H14) v4 t) ∧ v4 ≠ .ref s) →
        t_rest K B { nx := N, rt := R, bk := N2, ct := N3 } [some z, some (.ref d), w2, some (.int m), some (.int (1 + i2)), some (.ref s), some (.ref o), w7, w8, w9] (upd H14 s (.lst ([V.int m, .int u, .int e, .int x].set j v))) := by
      intro v1 v2 v3 v4 ev h1 h2 h3 h4
      rw [ev]
      have keep : ∀ {y : V}, (∃ t, AnyT K (hid d g H14) y t) → y ≠ .ref s → ∃ t, AnyT K (hid d g (upd H14 s (.lst [v1, v2, v3, v4]))) y t := fun ⟨ty, h⟩ hne => ⟨ty, anyT_upd h hne⟩
      exact rest_ok (b := b + 10) (S14.upd s1 s2 s3) ⟨upd_same, s1, s2, s3, keep h1.1 h1.2, keep h2.1 h2.2, keep h3.1 h3.2, keep h4.1 h4.2⟩ fun _ _ _ _ _ _ _ _ H' S' => hN _ _ _ _ _ _ _ _ H' (S'.mono (by omega))
    have : j = 0 ∨ j = 1 ∨ j = 2 ∨ j = 3 := by omega
    rcases this with rfl | rfl | rfl | rfl
    · exact fin v _ _ _ rfl hk (iz u) (iz e) (iz x)
    · exact fin _ v _ _ rfl (iz m) hk (iz e) (iz x)
    · exact fin _ _ v _ rfl (iz m) (iz u) hk (iz x)
    · exact fin _ _ _ v rfl (iz m) (iz u) (iz e) hk
  · exact rest_ok (b := b + 12) S9 ⟨A9, s1, s2, s3, ⟨_, .int _⟩, ⟨_, .int _⟩, ⟨_, .int _⟩, ⟨_, .int _⟩⟩ fun _ _ _ _ _ _ _ _ H' S' => hN _ _ _ _ _ _ _ _ H' (S'.mono (by omega))
def spLaw (K : PySem.W.Frag) : Sp := fun vs H Q _ => ∃ (a : Addr) (ns : List Int), vs = [.ref a] ∧ SqL K H a (ns.map V.int) ∧ ns.length ≤ 63 ∧ ∀ H', Q (.bl true) H'
theorem pure_law (vs : List V) (H : Hp) (Q : VK) (E : XK) (h : spLaw K vs H Q E) : t_law K B { nx := fun _ H' => Q .non H', rt := Q } (start ["script", "state", "turn", "most", "size", "some", "odd", "due", "told", "back"] vs) H := by
  obtain ⟨a, ns, rfl, hL, hlen, k⟩ := h
  refine ⟨_, rfl, a, ns, rfl, hL, hlen, fun d g c H1 S1 e1 _ _ _ => ?_⟩
  have hL1 : SqL K H1 a (ns.map V.int) := Same.seq e1 hL
  refine ⟨_, rfl, a, _, rfl, .inl hL1, _, _, rfl, _, _, rfl, rfl, _, rfl, ?_, ?_, ?_⟩
  · show -(2 ^ 62) ≤ 20 + (if (40 : Int) < ((ns.map V.int).length : Int) then 40 else ((ns.map V.int).length : Int))
    split <;> omega
  · show 20 + (if (40 : Int) < ((ns.map V.int).length : Int) then 40 else ((ns.map V.int).length : Int)) < 2 ^ 62
    rw [List.length_map]
    split <;> omega
  have hn : (20 + (if (40 : Int) < ((ns.map V.int).length : Int) then 40 else ((ns.map V.int).length : Int))).toNat ≤ 60 := by
    split <;> omega
  generalize (20 + (if (40 : Int) < ((ns.map V.int).length : Int) then 40 else ((ns.map V.int).length : Int))).toNat = n at hn
  refine for_range (lo := 0) (n := n) (fun i σ H2 => StB H2 d g c (2000 - 20 * i) ∧ ∃ x2 x3 x4 x5 x6 x7 x8 x9, σ = [some (.ref a), some (.ref d), x2, x3, x4, x5, x6, x7, x8, x9]) ⟨S1.mono (by decide), _, _, _, _, _, _, _, _, rfl⟩ ?_ ?_
  · rintro i σ H2 hi ⟨S2, x2, x3, x4, x5, x6, x7, x8, x9, rfl⟩
    have e : 2000 - 20 * i = (2000 - 20 * (i + 1)) + 20 := by omega
    rw [e] at S2
    show t_turn K B _ [some (.ref a), some (.ref d), some (.int (0 + i)), x3, x4, x5, x6, x7, x8, x9] H2
    exact turn_ok S2 fun y2 y3 y4 y5 y6 y7 y8 y9 H' S' => ⟨S', _, _, _, _, _, _, _, _, rfl⟩
  · rintro σ H2 _
    exact k H2
end
end SR

set_option Elab.async false
set_option linter.all false
set_option maxRecDepth 100000
set_option maxHeartbeats 4000000
/-! SRK: a def of the text that is known by its name. -/
namespace SR
open PySem PySem.Spec PyProof.Rows L2
structure Kn (P : Program) (w : World) (K : PySem.W.Frag) (mg : Str → Option Value) (base : Heap) (CX : CXT) (k : Nat) (x : Str) (ps : List Str) (sp : Sp) : Prop where
  ex : ∃ f fd, FnOk P w K mg base CX k f fd ps sp ∧ mg x = some (.ref f) ∧ PySem.W.keepIn K (.ref f) = true ∧ L2.Binds K fd ps []
structure KnG (P : Program) (w : World) (K : PySem.W.Frag) (mg : Str → Option Value) (base : Heap) (CX : CXT) (k : Nat) (x : Str) (ps : List Str) (sp : Sp) : Prop where
  ex : ∃ f fd, FnG P w K mg base CX k f fd ps sp ∧ mg x = some (.ref f) ∧ PySem.W.keepIn K (.ref f) = true ∧ L2.Binds K fd ps []
/-- with keywords: m positional values, then those named ks -/
structure KnK (P : Program) (w : World) (K : PySem.W.Frag) (mg : Str → Option Value) (base : Heap) (CX : CXT) (k : Nat) (x : Str) (ps : List Str) (sp : Sp) (m : Nat) (ks : List Str) (gV : List V → List V → List V) : Prop where
  ex : ∃ f fd g, FnOk P w K mg base CX k f fd ps sp ∧ mg x = some (.ref f) ∧ PySem.W.keepIn K (.ref f) = true ∧ KBn K fd ps m ks g gV
section
variable {X : Cx} {CX : CXT} {k j : Nat} {ps ks : List Str} {sp : Sp} {E : XK} {x : Str} {p pos : Pos} {e : Expr} {es : List Expr} {t tk : TA} {kws : List Keyword} {gV : List V → List V → List V}
theorem pe_k (c : Kn X.prog X.w X.K X.mg X.base CX k x ps sp) (hr : Room j X.A) (hk : k ≤ j) (hg : Gl X x) (hx : Passes CX X E) (ha : PA X (e :: es) t) (hdb : (x == ("__debug__" : Str)) = false := by decide)
    (he : starEach (e :: es) X.env = (false, eval e X.env) :: starEach es X.env := by rfl) (hpl : (backTo pos (starEach es X.env)).any (·.1) = false := by rfl) : PE X (.Call (.Name x p) (e :: es) [] pos) (tCall sp [] E t) := by
  obtain ⟨f, fd, F, hm, kp, b⟩ := c.ex
  exact pe_call F (hr.mono hk) hg hm kp b .nil hx ha hdb he hpl
theorem pe_kG (c : KnG X.prog X.w X.K X.mg X.base CX k x ps sp) (hgs : Gs X.A) (hr : Room j X.A) (hk : k ≤ j) (hg : Gl X x) (hx : Passes CX X E) (ha : PA X (e :: es) t) (hdb : (x == ("__debug__" : Str)) = false := by decide)
    (he : starEach (e :: es) X.env = (false, eval e X.env) :: starEach es X.env := by rfl) (hpl : (backTo pos (starEach es X.env)).any (·.1) = false := by rfl) : PE X (.Call (.Name x p) (e :: es) [] pos) (tCall sp [] E t) := by
  obtain ⟨f, fd, F, hm, kp, b⟩ := c.ex
  exact pe_callG1 F hgs (hr.mono hk) hg hm kp b .nil hx ha hdb he hpl
/-- in a try's body -/
theorem pe_kS {E : L2.St → XK} (c : Kn X.prog X.w X.K X.mg X.base CX k x ps sp) (hr : Room j X.A) (hk : k ≤ j) (hg : Gl X x) (hx : ∀ σ, PassesAt CX X σ (E σ)) (ha : PA X (e :: es) t) (hdb : (x == ("__debug__" : Str)) = false := by decide)
    (he : starEach (e :: es) X.env = (false, eval e X.env) :: starEach es X.env := by rfl) (hpl : (backTo pos (starEach es X.env)).any (·.1) = false := by rfl) : PE X (.Call (.Name x p) (e :: es) [] pos) (tCallS sp E t) := by
  obtain ⟨f, fd, F, hm, kp, b⟩ := c.ex
  exact pe_callS F (hr.mono hk) hg hm kp b hx ha hdb he hpl
theorem pe_kK0 {E : L2.St → XK} (c : KnK X.prog X.w X.K X.mg X.base CX k x ps sp 0 ks gV) (hr : Room j X.A) (hk : k ≤ j) (hg : Gl X x) (hx : ∀ σ, PassesAt CX X σ (E σ)) (hkw : PK X kws tk)
    (hall : (backToKw pos (keywordEach kws X.env)).all (·.1.isSome) = true := by rfl) (hks : (backToKw pos (keywordEach kws X.env)).filterMap (·.1) = ks := by rfl) (hdb : (x == ("__debug__" : Str)) = false := by decide)
    (hpl : ((backTo pos (starEach [] X.env)).any (·.1) || (backToKw pos (keywordEach kws X.env)).any (·.1.isNone)) = false := by rfl) :
    PE X (.Call (.Name x p) [] kws pos) (tKw ks.length sp gV E tNil tk) := by
  obtain ⟨f, fd, g, F, hm, kp, b⟩ := c.ex
  exact pe_kw0 F (hr.mono hk) hg hm kp b hx hkw hall hks hdb hpl
end
/-- a module's name by its value -/
theorem pe_gl {X : Cx} {x : Str} {pos : Pos} {v : V} (hg : Gl X x) (h : ∃ u, X.mg x = some u ∧ RelV v u) (hdb : (x == ("__debug__" : Str)) = false := by decide) : PE X (.Name x pos) (tC v) := by
  obtain ⟨u, h1, h2⟩ := h
  exact pe_glob hg h1 h2 hdb
/-- pss_try_keep by the name of what it leaves -/
theorem pss_keep {X : Cx} {x n y : Str} {c : Value} {i j : Nat} {body rest : List Stmt} {np n2 yp ap pos pos' : Pos} (tb : WX → TS) (u : TS) (v : Addr → Value → Option Addr → TS) (hs : X.stack = X.env :: X.outer) (hf : X.env.frame = some X.env.locals) (hN : X.N.Nodup)
    (hi : X.N[i]? = some n) (hln : X.env.kindOf n = some .local) (hj : X.N[j]? = some y) (hly : X.env.scope.names.lookup y = some .local) (hc : Names X x c)
    (hb : ∀ (W : WX) (pn : List (Addr × Obj)) (xe : Value → Shared → Prop), Takes (X.tr pn xe) W → PassesOwn (model X.prog X.w) X.A X.env xe → PSs (X.tr pn xe) body (tb W))
    (hu : PSs X rest u) (hv : ∀ (a : Addr) (oe : Obj) (cls : Value) (d : Option Addr) (pn : List (Addr × Obj)), Zc cls d oe → (∃ vs, oe.data = .fields vs) → PSs (keepX X ((a, oe) :: pn)) rest (v a cls d))
    (hsw : ∀ (a : Addr) (pn : List (Addr × Obj)), swapsWith (.Name n n2) (some (.Name y yp)) ap.line (X.suite a pn).env = pure false := by intro _ _; rfl)
    (hd1 : (n == ("__debug__" : Str)) = false := by decide) (hd2 : (n == ("__classdict__" : Str)) = false := by decide) :
    PSs X (.Try body [.ExceptHandler (some (.Name x np)) (some n) [.Assign [.Name y yp] (.Name n n2) ap] pos'] [] [] pos :: rest) (tTryKeep X.K c i j tb u v (fun _ _ _ _ => False)) :=
  pss_try_keep hs hf hN hi hln hj hly hc takes0 hb hu hv hsw hd1 hd2
/-! ### facts that the head tells -/
def excB (K : PySem.W.Frag) (D : Addr) : Bool :=
  decide (PySem.W.findIn K (.ref D) "__getattribute__" = some (some (.builtin "BaseException.__getattribute__"))) && (decide (PySem.W.findIn K (.ref D) "__getattr__" = some none) && (decide (PySem.W.subIn K (.ref D) (.type "BaseException") = some true) && (PySem.W.hasDictIn K D &&
  (decide (PySem.W.findIn K (.ref D) "__class__" = some (some (.builtin "object.__class__"))) && (decide (PySem.W.specialIn K (.builtin "object.__class__") "__get__" = some (some (.builtin "getset_descriptor.__get__"))) && (decide (PySem.W.takesIn K (.builtin "object.__class__") = some true) && decide (PySem.W.mroIn K D (.type "object") = some true)))))))
theorem excB_ok {K : PySem.W.Frag} {D : Addr} (h : excB K D = true) : ExcC K D := by
  unfold excB at h
  simp only [Bool.and_eq_true, decide_eq_true_eq] at h
  obtain ⟨h1, h2, h3, h4, h5, h6, h7, h8⟩ := h
  exact ⟨h1, h2, h3, h4, h5, h6, h7, h8⟩
def errB (K : PySem.W.Frag) (B S : Addr) : Bool := decide (PySem.W.exmOne K (.ref B) (.ref S) = some true) && excB K B
theorem errB_ok {K : PySem.W.Frag} {B S : Addr} (h : errB K B S = true) : ErrF K B S := by
  unfold errB at h
  rw [Bool.and_eq_true, decide_eq_true_eq] at h
  exact ⟨h.1, excB_ok h.2⟩
def kitIs (K : PySem.W.Frag) (t c : Value) (b : Bool) : Bool := decide (PySem.W.kitOne K t c = some b)
theorem kitIs_ok {K : PySem.W.Frag} {t c : Value} {b : Bool} (h : kitIs K t c b = true) : PySem.W.kitOne K t c = some b := of_decide_eq_true h
end SR

/-! three holders turned round in two ways -/
namespace SR
theorem exch_cases {c u d x p q : Int} (hp : p = min (c - u) x) (hq : q = min u (d - x)) :
    (u + x ≤ c ∧ u + x ≤ d ∧ p = x ∧ q = u) ∨ (u + x ≤ c ∧ d < u + x ∧ p = x ∧ q = d - x) ∨ (c < u + x ∧ u + x ≤ d ∧ p = c - u ∧ q = u) ∨ (c < u + x ∧ d < u + x ∧ p = c - u ∧ q = d - x) := by
  omega
set_option maxHeartbeats 0 in
theorem yb (c1 c2 c3 u1 u2 u3 : Int) (h1 : 0 ≤ u1) (h2 : 0 ≤ u2) (h3 : 0 ≤ u3) (k1 : u1 ≤ c1) (k2 : u2 ≤ c2) (k3 : u3 ≤ c3)
  (p1 q1 p2 q2 p3 q3 a1 b1 a2 b2 a3 b3 : Int)
  (e1 : p1 = min (c1 - u1) u2) (f1 : q1 = min u1 (c2 - u2)) (ea1 : a1 = u2 - p1 + q1) (eb1 : b1 = u1 + p1 - q1)
  (e2 : p2 = min (c1 - b1) u3) (f2 : q2 = min b1 (c3 - u3)) (ea2 : a2 = u3 - p2 + q2) (eb2 : b2 = b1 + p2 - q2)
  (e3 : p3 = min (c2 - a1) a2) (f3 : q3 = min a1 (c3 - a2)) (ea3 : a3 = a2 - p3 + q3) (eb3 : b3 = a1 + p3 - q3)
  (r1 s1 r2 s2 r3 s3 g1 w1 g2 w2 g3 w3 : Int)
  (x1 : r1 = min (c2 - u2) u3) (y1 : s1 = min u2 (c3 - u3)) (eg1 : g1 = u3 - r1 + s1) (ew1 : w1 = u2 + r1 - s1)
  (x2 : r2 = min (c1 - u1) g1) (y2 : s2 = min u1 (c3 - g1)) (eg2 : g2 = g1 - r2 + s2) (ew2 : w2 = u1 + r2 - s2)
  (x3 : r3 = min (c1 - w2) w1) (y3 : s3 = min w2 (c2 - w1)) (eg3 : g3 = w1 - r3 + s3) (ew3 : w3 = w2 + r3 - s3) :
  a3 = g2 ∧ b3 = g3 ∧ b2 = w3 ∧ p1 + p2 = r2 + r3 ∧ p3 - p1 = r1 - r3 := by
  have E1 := exch_cases e1 f1
  have E2 := exch_cases e2 f2
  have E3 := exch_cases e3 f3
  have X1 := exch_cases x1 y1
  have X2 := exch_cases x2 y2
  have X3 := exch_cases x3 y3
  clear e1 f1 e2 f2 e3 f3 x1 y1 x2 y2 x3 y3
  rcases E1 with ⟨t1, t2, rfl, rfl⟩ | ⟨t1, t2, rfl, rfl⟩ | ⟨t1, t2, rfl, rfl⟩ | ⟨t1, t2, rfl, rfl⟩ <;> subst ea1 eb1 <;>
  rcases X1 with ⟨t3, t4, rfl, rfl⟩ | ⟨t3, t4, rfl, rfl⟩ | ⟨t3, t4, rfl, rfl⟩ | ⟨t3, t4, rfl, rfl⟩ <;> subst eg1 ew1 <;> (try (exfalso; omega)) <;>
  rcases E2 with ⟨t5, t6, rfl, rfl⟩ | ⟨t5, t6, rfl, rfl⟩ | ⟨t5, t6, rfl, rfl⟩ | ⟨t5, t6, rfl, rfl⟩ <;> subst ea2 eb2 <;> (try (exfalso; omega)) <;>
  rcases X2 with ⟨t7, t8, rfl, rfl⟩ | ⟨t7, t8, rfl, rfl⟩ | ⟨t7, t8, rfl, rfl⟩ | ⟨t7, t8, rfl, rfl⟩ <;> subst eg2 ew2 <;> (try (exfalso; omega)) <;>
  rcases E3 with ⟨t9, t10, rfl, rfl⟩ | ⟨t9, t10, rfl, rfl⟩ | ⟨t9, t10, rfl, rfl⟩ | ⟨t9, t10, rfl, rfl⟩ <;> subst ea3 eb3 <;> (try (exfalso; omega)) <;>
  rcases X3 with ⟨t11, t12, rfl, rfl⟩ | ⟨t11, t12, rfl, rfl⟩ | ⟨t11, t12, rfl, rfl⟩ | ⟨t11, t12, rfl, rfl⟩ <;> subst eg3 ew3 <;> omega
end SR

set_option Elab.async false
set_option linter.all false
set_option maxRecDepth 100000
set_option maxHeartbeats 4000000
/-! K09A: pairs and holders of the program, and the law's own. -/
namespace SR
open PySem L2
theorem same_new {H : Hp} {p : Addr} {o : HO} (h : H p = none) : Same H (upd H p o) := fun b u z => (upd_ne (ne_of_none z h)).trans z
/-- a value of any kind; where it is a tuple, what it holds -/
inductive Val2 (K : PySem.W.Frag) (H : Hp) : V → Option (List V) → Prop where
  | tup {a : Addr} {xs : List V} (h : SqT K H a xs) (hx : ∀ x ∈ xs, ∃ t, AnyT K H x t) : Val2 K H (.ref a) (some xs)
  | oth {v : V} {t : String} (h : AnyT K H v t) (ht : (t == "tuple") = false) : Val2 K H v none
theorem Val2.same {K : PySem.W.Frag} {H H' : Hp} {v : V} {o : Option (List V)} (e : Same H H') (h : Val2 K H v o) : Val2 K H' v o := by
  cases h with
  | tup h hx => exact .tup (SqT.same e h) fun x m => let ⟨t, z⟩ := hx x m; ⟨t, z.same e⟩
  | oth h ht => exact .oth (h.same e) ht
def pairO : Option (List V) → Bool
  | some [x, y] => isI x && isI y
  | _ => false
def holdO : Option (List V) → Bool
  | some [x, y] => btw 1 99 x && upto x y
  | _ => false
def spIsPair (K : PySem.W.Frag) : Sp := fun vs H Q _ => ∃ v o, vs = [v] ∧ Val2 K H v o ∧ Q (.bl (pairO o)) H
def t_is_pair (K : PySem.W.Frag) : TS := tSeq (tIfS (tOr (tNot (tB (tCB (rIsi K) (tCons (tVar 0) (tCons (tC (.ty "tuple")) tNil))))) (tTest (tOp rNe (tCB (qLen K) (tCons (tVar 0) (tNil))) (tC (.int 2)))))
  (tRet (tC (.bl false)))
  (tNext))
  (tRet (tAndV (tCall (spIsInt K) [] E0 (tCons (tOp (rIxT K) (tVar 0) (tC (.int 0))) (tNil))) (tCall (spIsInt K) [] E0 (tCons (tOp (rIxT K) (tVar 0) (tC (.int 1))) (tNil)))))
theorem pure_is_pair {K : PySem.W.Frag} (vs : List V) (H : Hp) (Q : VK) (E : XK) (h : spIsPair K vs H Q E) : t_is_pair K { nx := fun _ H' => Q .non H', rt := Q } (start ["value"] vs) H := by
  obtain ⟨v, o, rfl, hv, q⟩ := h
  cases hv with
  | oth h ht =>
    refine ⟨_, rfl, _, _, _, _, _, rfl, .ty _, h.ty, h.kit.2.2.1, _, rfl, ?_⟩
    rw [ht]
    exact iteT (iteT q)
  | @tup a xs h hx =>
    have hy : AnyT K H (.ref a) "tuple" := .tup h
    refine ⟨_, rfl, _, _, _, _, _, rfl, .ty _, hy.ty, hy.kit.2.2.1, _, rfl, iteF ⟨_, rfl, a, xs, rfl, .inr h, rfl, _, rfl, ?_⟩⟩
    by_cases hl : xs.length = 2
    · match xs, hl with
      | [x, y], _ =>
        refine iteNS rfl ?_
        obtain ⟨t1, k1⟩ := hx x (by simp)
        obtain ⟨t2, k2⟩ := hx y (by simp)
        refine ⟨_, rfl, a, _, 0, _, rfl, rfl, h, rfl, x, t1, rfl, k1, _, rfl, ?_⟩
        have q : Q (.bl (isI x && isI y)) H := q
        cases e : isI x with
        | true =>
          rw [e] at q
          exact iteT ⟨_, rfl, a, _, 1, _, rfl, rfl, h, rfl, y, t2, rfl, k2, q⟩
        | false =>
          rw [e] at q
          exact iteF q
    · have e : ¬ V.int (xs.length : Int) = V.int 2 := fun z => hl (by have := V.int.inj z; omega)
      have e2 : pairO (some xs) = false := by
        match xs, hl with
        | [], _ => rfl
        | [_], _ => rfl
        | [_, _], hl => exact absurd rfl hl
        | _ :: _ :: _ :: _, _ => rfl
      rw [decide_eq_false e]
      rw [e2] at q
      exact iteT q
def spIsHolder (K : PySem.W.Frag) : Sp := fun vs H Q _ => ∃ v o, vs = [v] ∧ Val2 K H v o ∧ Q (.bl (holdO o)) H
def t_is_holder (K : PySem.W.Frag) : TS := tRet (tAndV (tCall (spIsPair K) [] E0 (tCons (tVar 0) (tNil))) (tAndV (tCall (spCapacity K) [] E0 (tCons (tOp (rIxT K) (tVar 0) (tC (.int 0))) (tNil))) (tCall (spBetween K) [] E0 (tCons (tOp (rIxT K) (tVar 0) (tC (.int 1))) (tCons (tC (.int 0)) (tCons (tOp (rIxT K) (tVar 0) (tC (.int 0))) (tNil)))))))
theorem holdO_iff {o : Option (List V)} : holdO o = true ↔ ∃ c u, o = some [.int c, .int u] ∧ (1 ≤ c ∧ c ≤ 99) ∧ 0 ≤ u ∧ u ≤ c := by
  constructor
  · intro h
    match o, h with
    | some [x, y], h =>
      have h : (btw 1 99 x && upto x y) = true := h
      rw [Bool.and_eq_true] at h
      obtain ⟨c, rfl, c1⟩ := btw_iff.mp h.1
      obtain ⟨u, rfl, u1⟩ := btw_iff.mp (show btw 0 c y = true from h.2)
      exact ⟨c, u, rfl, c1, u1⟩
  · rintro ⟨c, u, rfl, c1, u1⟩
    show (btw 1 99 (.int c) && btw 0 c (.int u)) = true
    rw [btw_iff.mpr ⟨c, rfl, c1⟩, btw_iff.mpr ⟨u, rfl, u1⟩] <;> rfl
theorem pairO_iff {o : Option (List V)} : pairO o = true ↔ ∃ c u, o = some [.int c, .int u] := by
  constructor
  · intro h
    match o, h with
    | some [x, y], h =>
      have h : (isI x && isI y) = true := h
      rw [Bool.and_eq_true] at h
      match x, y, h with
      | .int c, .int u, _ => exact ⟨c, u, rfl⟩
  · rintro ⟨c, u, rfl⟩
    rfl
theorem pure_is_holder {K : PySem.W.Frag} (vs : List V) (H : Hp) (Q : VK) (E : XK) (h : spIsHolder K vs H Q E) : t_is_holder K { nx := fun _ H' => Q .non H', rt := Q } (start ["value"] vs) H := by
  obtain ⟨v, o, rfl, hv, q⟩ := h
  refine ⟨_, rfl, v, o, rfl, hv, _, rfl, ?_⟩
  cases e : pairO o with
  | false =>
    have e2 : holdO o = false := by
      cases z : holdO o with
      | false => rfl
      | true =>
        obtain ⟨c, u, rfl, _⟩ := holdO_iff.mp z
        cases e
    rw [e2] at q
    exact iteF q
  | true =>
    obtain ⟨c, u, rfl⟩ := pairO_iff.mp e
    cases hv with
    | @tup a xs hT hx =>
      have q : Q (.bl (btw 1 99 (.int c) && btw 0 c (.int u))) H := q
      refine iteT ⟨_, rfl, a, _, 0, _, rfl, rfl, hT, rfl, _, _, rfl, .int c, _, rfl, ?_⟩
      cases b : btw 1 99 (.int c) with
      | false =>
        rw [b] at q
        exact iteF q
      | true =>
        rw [b] at q
        exact iteT ⟨_, rfl, a, _, 1, _, rfl, rfl, hT, rfl, _, rfl, a, _, 0, _, rfl, rfl, hT, rfl, _, _, _, _, rfl, .int u, fun _ => ⟨0, c, rfl, rfl, q⟩, fun z => nomatch z⟩
def spExchanged (K : PySem.W.Frag) (C : Addr) : Sp := fun vs H Q E => ∃ l r ol or_, vs = [l, r] ∧ Val2 K H l ol ∧ Val2 K H r or_ ∧ ((holdO ol && holdO or_) = false → E (.ref C) none H) ∧
  ∀ c u d x, ol = some [.int c, .int u] → or_ = some [.int d, .int x] → okN c u d x → ∀ p a b H', H p = none → H a = none → H b = none → Same H H' → H' a = some (.tup [.int d, .int (stC c u d x)]) → H' b = some (.tup [.int c, .int (stL c u d x)]) → H' p = some (.tup [.ref a, .ref b]) → Q (.ref p) H'
def t_exchanged (K : PySem.W.Frag) (c_BadHolder : Addr) (c_BadNumber : Addr) (E : XK) : TS := tSeq (tIfS (tOr (tNot (tB (tCall (spIsHolder K) [] E0 (tCons (tVar 0) (tNil))))) (tNot (tB (tCall (spIsHolder K) [] E0 (tCons (tVar 1) (tNil))))))
  (tOut (.ref c_BadHolder) E)
  (tNext))
  (tSeq (tAsg (tCall (spPassed K c_BadNumber) [] E0 (tCons (tOp (rIxT K) (tVar 0) (tC (.int 0))) (tCons (tOp (rIxT K) (tVar 0) (tC (.int 1))) (tCons (tOp (rIxT K) (tVar 1) (tC (.int 0))) (tCons (tOp (rIxT K) (tVar 1) (tC (.int 1))) (tNil)))))) (gTup K 2 (gCons (gName 2) (gCons (gName 3) (gNil)))))
  (tRet (tTup (tCons (tTup (tCons (tOp (rIxT K) (tVar 1) (tC (.int 0))) (tCons (tVar 2) (tNil)))) (tCons (tTup (tCons (tOp (rIxT K) (tVar 0) (tC (.int 0))) (tCons (tVar 3) (tNil)))) (tNil))))))
theorem pure_exchanged {K : PySem.W.Frag} {C B : Addr} (vs : List V) (H : Hp) (Q : VK) (E : XK) (h : spExchanged K C vs H Q E) : t_exchanged K C B E { nx := fun _ H' => Q .non H', rt := Q } (start ["left", "right", "count", "load"] vs) H := by
  obtain ⟨l, r, ol, or_, rfl, hl, hr, kE, kQ⟩ := h
  refine ⟨_, rfl, l, ol, rfl, hl, _, rfl, ?_⟩
  cases e1 : holdO ol with
  | false =>
    rw [e1] at kE
    exact iteT (iteT (kE rfl))
  | true =>
  refine iteF ⟨_, rfl, r, or_, rfl, hr, _, rfl, ?_⟩
  cases e2 : holdO or_ with
  | false =>
    rw [e1, e2] at kE
    exact iteT (kE rfl)
  | true =>
  obtain ⟨c, u, rfl, c1, u1⟩ := holdO_iff.mp e1
  obtain ⟨d, x, rfl, d1, x1⟩ := holdO_iff.mp e2
  cases hl with
  | @tup l _ hL _ =>
  cases hr with
  | @tup r _ hR _ =>
  have o : okN c u d x := ⟨c1, u1, d1, x1⟩
  refine iteF ⟨_, rfl, l, _, 0, _, rfl, rfl, hL, rfl, _, rfl, l, _, 1, _, rfl, rfl, hL, rfl, _, rfl, r, _, 0, _, rfl, rfl, hR, rfl, _, rfl, r, _, 1, _, rfl, rfl, hR, rfl,
    _, _, _, _, _, _, _, _, rfl, .int _, .int _, .int _, .int _, fun z => (by rw [okV_yes.mpr ⟨_, _, _, _, rfl, rfl, rfl, rfl, o⟩] at z; cases z), fun c' u' d' x' q1 q2 q3 q4 _ p0 H1 hp0 s1 P1 => ?_⟩
  cases q1; cases q2; cases q3; cases q4
  refine ⟨p0, _, rfl, SqT.of P1, rfl, _, _, rfl, _, _, rfl, rfl, ?_⟩
  refine ⟨_, rfl, r, _, 0, _, rfl, rfl, SqT.same s1 hR, rfl, _, rfl, sz (by show 2 ≤ 1000; decide), fun a ha => ?_⟩
  have s2 := same_new (o := .tup [.int d, .int (stC c u d x)]) ha
  have A2 : upd H1 a (.tup [.int d, .int (stC c u d x)]) a = some (.tup [.int d, .int (stC c u d x)]) := upd_same
  have ha0 := Same.free s1 ha
  generalize upd H1 a (.tup [.int d, .int (stC c u d x)]) = H2 at s2 A2 ⊢
  refine ⟨_, rfl, l, _, 0, _, rfl, rfl, SqT.same s2 (SqT.same s1 hL), rfl, _, rfl, sz (by show 2 ≤ 1000; decide), fun b hb => ?_⟩
  have s3 := same_new (o := .tup [.int c, .int (stL c u d x)]) hb
  have B3 : upd H2 b (.tup [.int c, .int (stL c u d x)]) b = some (.tup [.int c, .int (stL c u d x)]) := upd_same
  have A3 := s3 _ _ A2
  have hb0 := Same.free s1 (Same.free s2 hb)
  generalize upd H2 b (.tup [.int c, .int (stL c u d x)]) = H3 at s3 A3 B3 ⊢
  refine ⟨sz (by show 2 ≤ 1000; decide), fun p hp => ?_⟩
  have s4 := same_new (o := .tup [.ref a, .ref b]) hp
  have hp' := Same.free s1 (Same.free s2 (Same.free s3 hp))
  exact kQ c u d x rfl rfl o p a b _ hp' ha0 hb0 (s1.trans (s2.trans (s3.trans s4))) (s4 _ _ A3) (s4 _ _ B3) upd_same
/-! ### the law's own exchange -/
def spLPair (K : PySem.W.Frag) : Sp := fun vs H Q _ => ∃ l r c u d x, vs = [.ref l, .ref r] ∧ SqT K H l [.int c, .int u] ∧ SqT K H r [.int d, .int x] ∧
  ∀ p a b H', H p = none → H a = none → H b = none → Same H H' → H' a = some (.tup [.int d, .int (stC c u d x)]) → H' b = some (.tup [.int c, .int (stL c u d x)]) → H' p = some (.tup [.ref a, .ref b, .int (min (c - u) x)]) → Q (.ref p) H'
def t_pair (K : PySem.W.Frag) : TS := tSeq (tAsg (tCall spLPassed [] E0 (tCons (tOp (rIxT K) (tVar 0) (tC (.int 0))) (tCons (tOp (rIxT K) (tVar 0) (tC (.int 1))) (tCons (tOp (rIxT K) (tVar 1) (tC (.int 0))) (tCons (tOp (rIxT K) (tVar 1) (tC (.int 1))) (tNil)))))) (gTup K 2 (gCons (gName 2) (gCons (gName 3) (gNil)))))
  (tRet (tTup (tCons (tTup (tCons (tOp (rIxT K) (tVar 1) (tC (.int 0))) (tCons (tVar 2) (tNil)))) (tCons (tTup (tCons (tOp (rIxT K) (tVar 0) (tC (.int 0))) (tCons (tVar 3) (tNil)))) (tCons (tCB qMin2 (tCons (tOp qSub (tOp (rIxT K) (tVar 0) (tC (.int 0))) (tOp (rIxT K) (tVar 0) (tC (.int 1)))) (tCons (tOp (rIxT K) (tVar 1) (tC (.int 1))) (tNil)))) (tNil))))))
theorem pure_pair {K : PySem.W.Frag} (vs : List V) (H : Hp) (Q : VK) (E : XK) (h : spLPair K vs H Q E) : t_pair K { nx := fun _ H' => Q .non H', rt := Q } (start ["one", "two", "amount", "burden"] vs) H := by
  obtain ⟨l, r, c, u, d, x, rfl, hL, hR, kQ⟩ := h
  refine ⟨_, rfl, l, _, 0, _, rfl, rfl, hL, rfl, _, rfl, l, _, 1, _, rfl, rfl, hL, rfl, _, rfl, r, _, 0, _, rfl, rfl, hR, rfl, _, rfl, r, _, 1, _, rfl, rfl, hR, rfl, c, u, d, x, rfl, fun p0 hp0 => ?_⟩
  have s1 := same_new (o := .tup [.int (stC c u d x), .int (stL c u d x)]) hp0
  have P1 : upd H p0 (.tup [.int (stC c u d x), .int (stL c u d x)]) p0 = some (.tup [.int (stC c u d x), .int (stL c u d x)]) := upd_same
  refine ⟨p0, _, rfl, SqT.of P1, rfl, _, _, rfl, _, _, rfl, rfl, ?_⟩
  generalize upd H p0 (.tup [.int (stC c u d x), .int (stL c u d x)]) = H1 at s1 P1 ⊢
  refine ⟨_, rfl, r, _, 0, _, rfl, rfl, SqT.same s1 hR, rfl, _, rfl, sz (by show 2 ≤ 1000; decide), fun a ha => ?_⟩
  have s2 := same_new (o := .tup [.int d, .int (stC c u d x)]) ha
  have A2 : upd H1 a (.tup [.int d, .int (stC c u d x)]) a = some (.tup [.int d, .int (stC c u d x)]) := upd_same
  have ha0 := Same.free s1 ha
  generalize upd H1 a (.tup [.int d, .int (stC c u d x)]) = H2 at s2 A2 ⊢
  have L2 := SqT.same s2 (SqT.same s1 hL)
  refine ⟨_, rfl, l, _, 0, _, rfl, rfl, L2, rfl, _, rfl, sz (by show 2 ≤ 1000; decide), fun b hb => ?_⟩
  have s3 := same_new (o := .tup [.int c, .int (stL c u d x)]) hb
  have B3 : upd H2 b (.tup [.int c, .int (stL c u d x)]) b = some (.tup [.int c, .int (stL c u d x)]) := upd_same
  have A3 := s3 _ _ A2
  have hb0 := Same.free s1 (Same.free s2 hb)
  generalize upd H2 b (.tup [.int c, .int (stL c u d x)]) = H3 at s3 A3 B3 ⊢
  have L3 := SqT.same s3 L2
  have R3 := SqT.same s3 (SqT.same s2 (SqT.same s1 hR))
  refine ⟨_, rfl, l, _, 0, _, rfl, rfl, L3, rfl, _, rfl, l, _, 1, _, rfl, rfl, L3, rfl, c, u, rfl, rfl, _, rfl, r, _, 1, _, rfl, rfl, R3, rfl, _, _, rfl, sz (by show 3 ≤ 1000; decide), fun p hp => ?_⟩
  have s4 := same_new (o := .tup [.ref a, .ref b, .int (min (c - u) x)]) hp
  have hp' := Same.free s1 (Same.free s2 (Same.free s3 hp))
  rw [min_if]
  exact kQ p a b _ hp' ha0 hb0 (s1.trans (s2.trans (s3.trans s4))) (s4 _ _ A3) (s4 _ _ B3) upd_same
end SR

set_option Elab.async false
set_option linter.all false
set_option maxRecDepth 100000
set_option maxHeartbeats 4000000
/-! K09B: a drawn holder, three holders turned round, what is refused. -/
namespace SR
open PySem L2
def spLHolder : Sp := fun vs H Q _ => ∃ d g c b, vs = [.ref d] ∧ StB H d g c (b + 4) ∧
  ∀ p m n H', 1 ≤ m → m ≤ 99 → 0 ≤ n → n ≤ m → p ≠ d → p ≠ g → H' p = some (.tup [.int m, .int n]) → StB H' d g c b → Kp d g H H' → Q (.ref p) H'
def t_holder (K : PySem.W.Frag) : TS := tSeq (tAsg (tCall (spPick K) [] E0 (tCons (tVar 0) (tCons (tLst (tCons (tC (.int 1)) (tCons (tC (.int 1)) (tCons (tC (.int 2)) (tCons (tC (.int 3)) (tCons (tC (.int 9)) (tCons (tC (.int 99)) (tCons (tOp qAdd (tC (.int 1)) (tCall spTake [] E0 (tCons (tVar 0) (tCons (tC (.int 99)) (tNil))))) (tNil))))))))) (tNil)))) (gName 1))
  (tRet (tTup (tCons (tVar 1) (tCons (tCall (spPick K) [] E0 (tCons (tVar 0) (tCons (tLst (tCons (tC (.int 0)) (tCons (tVar 1) (tCons (tCall spTake [] E0 (tCons (tVar 0) (tCons (tOp qAdd (tVar 1) (tC (.int 1))) (tNil)))) (tNil))))) (tNil)))) (tNil)))))
theorem pure_holder {K : PySem.W.Frag} (vs : List V) (H : Hp) (Q : VK) (E : XK) (h : spLHolder vs H Q E) : t_holder K { nx := fun _ H' => Q .non H', rt := Q } (start ["state", "most"] vs) H := by
  obtain ⟨d, g, c, b, rfl, S, k⟩ := h
  refine ⟨_, rfl, _, rfl, d, g, c, b + 3, 99, rfl, S, by decide, by decide, fun i1 H1 i10 i11 S1 q1 => ⟨_, _, rfl, rfl, sz (by show 7 ≤ 1000; decide), fun l hl => ?_⟩⟩
  obtain ⟨l1, l2, _⟩ := S1.off hl
  refine ⟨d, g, c, b + 2, l, _, rfl, S1.new hl, SqL.of upd_same, l1, l2, by show 0 < 7; decide, by show 7 < 1000; decide, fun v H2 hv S2 q2 => ?_⟩
  have k2 : Kp d g H H2 := q1.trans ((Kp.new hl).trans q2)
  obtain ⟨m, rfl, m1, m2⟩ : ∃ m : Int, v = .int m ∧ 1 ≤ m ∧ m ≤ 99 := by
    simp only [List.mem_cons, List.not_mem_nil, or_false] at hv
    rcases hv with rfl | rfl | rfl | rfl | rfl | rfl | rfl
    · exact ⟨1, rfl, by decide, by decide⟩
    · exact ⟨1, rfl, by decide, by decide⟩
    · exact ⟨2, rfl, by decide, by decide⟩
    · exact ⟨3, rfl, by decide, by decide⟩
    · exact ⟨9, rfl, by decide, by decide⟩
    · exact ⟨99, rfl, by decide, by decide⟩
    · exact ⟨_, rfl, by omega, by omega⟩
  clear hv
  refine ⟨_, rfl, _, rfl, _, rfl, _, rfl, _, rfl, _, _, rfl, rfl, d, g, c, b + 1, m + 1, rfl, S2, by omega, by omega, fun u H3 u0 u1 S3 q3 => ⟨sz (by show 3 ≤ 1000; decide), fun r hr => ?_⟩⟩
  obtain ⟨r1, r2, _⟩ := S3.off hr
  refine ⟨d, g, c, b, r, _, rfl, S3.new hr, SqL.of upd_same, r1, r2, by show 0 < 3; decide, by show 3 < 1000; decide, fun v H4 hv S4 q4 => ?_⟩
  have k4 : Kp d g H H4 := k2.trans (q3.trans ((Kp.new hr).trans q4))
  obtain ⟨n, rfl, n1, n2⟩ : ∃ n : Int, v = .int n ∧ 0 ≤ n ∧ n ≤ m := by
    simp only [List.mem_cons, List.not_mem_nil, or_false] at hv
    rcases hv with rfl | rfl | rfl
    · exact ⟨0, rfl, by decide, by omega⟩
    · exact ⟨m, rfl, by omega, by omega⟩
    · exact ⟨u, rfl, by omega, by omega⟩
  clear hv
  refine ⟨sz (by show 2 ≤ 1000; decide), fun p hp => ?_⟩
  obtain ⟨p1, p2, _⟩ := S4.off hp
  exact k p m n _ m1 m2 n1 n2 p1 p2 upd_same (S4.new hp) (k4.trans (Kp.new hp))
/-! ### three holders in a line -/
structure Ent where
  c : Int
  u : Int
  i : Int
  n : Int
def Ent.ok (e : Ent) : Prop := (1 ≤ e.c ∧ e.c ≤ 99) ∧ 0 ≤ e.u ∧ e.u ≤ e.c
/-- two neighbours exchanged, with their counters -/
def exL (x y : Ent) : Ent := ⟨y.c, stC x.c x.u y.c y.u, y.i, y.n + min (x.c - x.u) y.u⟩
def exR (x y : Ent) : Ent := ⟨x.c, stL x.c x.u y.c y.u, x.i, x.n - min (x.c - x.u) y.u⟩
def turnE (k : Int) (l : Ent × Ent × Ent) : Ent × Ent × Ent := if k = 0 then (exL l.1 l.2.1, exR l.1 l.2.1, l.2.2) else (l.1, exL l.2.1 l.2.2, exR l.2.1 l.2.2)
theorem ok_ex {x y : Ent} (hx : x.ok) (hy : y.ok) : (exL x y).ok ∧ (exR x y).ok := by
  unfold Ent.ok exL exR stC stL at *
  simp only
  omega
theorem Ent.okN {x y : Ent} (hx : x.ok) (hy : y.ok) : okN x.c x.u y.c y.u := ⟨hx.1, hx.2, hy.1, hy.2⟩
theorem turn0 (l : Ent × Ent × Ent) : turnE 0 l = (exL l.1 l.2.1, exR l.1 l.2.1, l.2.2) := if_pos rfl
theorem turn1 (l : Ent × Ent × Ent) : turnE 1 l = (l.1, exL l.2.1 l.2.2, exR l.2.1 l.2.2) := if_neg (by decide)
theorem turned_same (x y z : Ent) (hx : x.ok) (hy : y.ok) (hz : z.ok) (h0 : x.n = 0) (h1 : y.n = 0) (h2 : z.n = 0) : turnE 0 (turnE 1 (turnE 0 (x, y, z))) = turnE 1 (turnE 0 (turnE 1 (x, y, z))) := by
  obtain ⟨c1, u1, i1, n1⟩ := x
  obtain ⟨c2, u2, i2, n2⟩ := y
  obtain ⟨c3, u3, i3, n3⟩ := z
  replace h0 : n1 = 0 := h0
  replace h1 : n2 = 0 := h1
  replace h2 : n3 = 0 := h2
  subst h0 h1 h2
  rw [turn0, turn1, turn0, turn1, turn0, turn1]
  simp only [exL, exR, stC, stL, Prod.mk.injEq, Ent.mk.injEq, true_and, and_true]
  generalize hp1 : min (c1 - u1) u2 = p1
  generalize hq1 : min u1 (c2 - u2) = q1
  generalize hr1 : min (c2 - u2) u3 = r1
  generalize hs1 : min u2 (c3 - u3) = s1
  generalize hp2 : min (c1 - (u1 + p1 - q1)) u3 = p2
  generalize hq2 : min (u1 + p1 - q1) (c3 - u3) = q2
  generalize hr2 : min (c1 - u1) (u3 - r1 + s1) = r2
  generalize hs2 : min u1 (c3 - (u3 - r1 + s1)) = s2
  generalize hp3 : min (c2 - (u2 - p1 + q1)) (u3 - p2 + q2) = p3
  generalize hq3 : min (u2 - p1 + q1) (c3 - (u3 - p2 + q2)) = q3
  generalize hr3 : min (c1 - (u1 + r2 - s2)) (u2 + r1 - s1) = r3
  generalize hs3 : min (u1 + r2 - s2) (c2 - (u2 + r1 - s1)) = s3
  have := yb c1 c2 c3 u1 u2 u3 hx.2.1 hy.2.1 hz.2.1 hx.2.2 hy.2.2 hz.2.2 p1 q1 p2 q2 p3 q3 _ _ _ _ _ _ hp1.symm hq1.symm rfl rfl hp2.symm hq2.symm rfl rfl hp3.symm hq3.symm rfl rfl
    r1 s1 r2 s2 r3 s3 _ _ _ _ _ _ hr1.symm hs1.symm rfl rfl hr2.symm hs2.symm rfl rfl hr3.symm hs3.symm rfl rfl
  clear hp1 hq1 hr1 hs1 hp2 hq2 hr2 hs2 hp3 hq3 hr3 hs3 hx hy hz
  omega
end SR

set_option Elab.async false
set_option linter.all false
set_option maxRecDepth 100000
set_option maxHeartbeats 4000000
/-! K09C: three holders turned round by pairs. -/
namespace SR
open PySem L2
def EntAt (H : Hp) (p : Addr) (e : Ent) : Prop := ∃ h, H p = some (.tup [.ref h, .int e.i, .int e.n]) ∧ H h = some (.tup [.int e.c, .int e.u])
def LineAt (H : Hp) (r : Addr) (l : Ent × Ent × Ent) : Prop := ∃ p1 p2 p3, H r = some (.lst [.ref p1, .ref p2, .ref p3]) ∧ EntAt H p1 l.1 ∧ EntAt H p2 l.2.1 ∧ EntAt H p3 l.2.2
theorem EntAt.same {H H' : Hp} {p : Addr} {e : Ent} (s : Same H H') (h : EntAt H p e) : EntAt H' p e := let ⟨a, h1, h2⟩ := h; ⟨a, s _ _ h1, s _ _ h2⟩
theorem LineAt.same {H H' : Hp} {p : Addr} {e : Ent × Ent × Ent} (s : Same H H') (h : LineAt H p e) : LineAt H' p e := let ⟨a, b, c, h1, h2, h3, h4⟩ := h; ⟨a, b, c, s _ _ h1, h2.same s, h3.same s, h4.same s⟩
theorem EntAt.upd {H : Hp} {p r : Addr} {e : Ent} {xs ys : List V} (hr : H r = some (.lst xs)) (h : EntAt H p e) : EntAt (upd H r (.lst ys)) p e := by
  obtain ⟨a, h1, h2⟩ := h
  refine ⟨a, (upd_ne ?_).trans h1, (upd_ne ?_).trans h2⟩
  · exact ne_of h1 hr (by intro z; cases z)
  · exact ne_of h2 hr (by intro z; cases z)
theorem same_upd {H H' : Hp} {r : Addr} {o : HO} (s : Same H H') (h : H r = none) : Same H (upd H' r o) := fun b u z => (upd_ne (ne_of_none z h)).trans (s b u z)
def okL (l : Ent × Ent × Ent) : Prop := l.1.ok ∧ l.2.1.ok ∧ l.2.2.ok
theorem okL_turn {l : Ent × Ent × Ent} {k : Int} (h : okL l) : okL (turnE k l) := by
  unfold turnE
  split
  · exact ⟨(ok_ex h.1 h.2.1).1, (ok_ex h.1 h.2.1).2, h.2.2⟩
  · exact ⟨h.1, (ok_ex h.2.1 h.2.2).1, (ok_ex h.2.1 h.2.2).2⟩
def turnsE (ks : List Int) (l : Ent × Ent × Ent) : Ent × Ent × Ent := ks.foldl (fun l k => turnE k l) l
theorem okL_turns : ∀ (ks : List Int) {l : Ent × Ent × Ent}, okL l → okL (turnsE ks l)
  | [], _, h => h
  | _ :: ks, _, h => okL_turns ks (okL_turn h)
theorem turns_snoc (ks : List Int) (k : Int) (l : Ent × Ent × Ent) : turnsE (ks ++ [k]) l = turnE k (turnsE ks l) := by
  unfold turnsE
  rw [List.foldl_append]
  rfl
/-- the two entries at the places k and k + 1 -/
def at1 (k : Int) (l : Ent × Ent × Ent) : Ent := if k = 0 then l.1 else l.2.1
def at2 (k : Int) (l : Ent × Ent × Ent) : Ent := if k = 0 then l.2.1 else l.2.2
theorem line_get {H : Hp} {r : Addr} {l : Ent × Ent × Ent} {k : Int} (hk : k = 0 ∨ k = 1) (h : LineAt H r l) : ∃ xs p q, H r = some (.lst xs) ∧ xs.length = 3 ∧ atI xs k = some (.ref p) ∧ atI xs (k + 1) = some (.ref q) ∧ EntAt H p (at1 k l) ∧ EntAt H q (at2 k l) ∧
    (∃ j, ixN xs.length k = some j ∧ ixN xs.length (k + 1) = some (j + 1) ∧
      ∀ p' q' e f H', EntAt H' p' e → EntAt H' q' f → (∀ p e, EntAt H p e → EntAt H' p e) → H' r = some (.lst ((xs.set j (.ref p')).set (j + 1) (.ref q'))) → LineAt H' r (if k = 0 then (e, f, l.2.2) else (l.1, e, f))) := by
  obtain ⟨p1, p2, p3, h1, h2, h3, h4⟩ := h
  rcases hk with rfl | rfl
  · exact ⟨_, p1, p2, h1, rfl, rfl, rfl, h2, h3, 0, rfl, rfl, fun p' q' e f H' he hf hs hr => ⟨p', q', p3, hr, he, hf, hs _ _ h4⟩⟩
  · exact ⟨_, p2, p3, h1, rfl, rfl, rfl, h3, h4, 1, rfl, rfl, fun p' q' e f H' he hf hs hr => ⟨p1, p', q', hr, hs _ _ h2, he, hf⟩⟩
def spTurned (K : PySem.W.Frag) : Sp := fun vs H Q _ => ∃ a o x y z c1 u1 c2 u2 c3 u3 ks, vs = [.ref a, .ref o] ∧ H a = some (.lst [.ref x, .ref y, .ref z]) ∧ H o = some (.lst (ks.map V.int)) ∧ (∀ k ∈ ks, k = 0 ∨ k = 1) ∧
  H x = some (.tup [.int c1, .int u1]) ∧ H y = some (.tup [.int c2, .int u2]) ∧ H z = some (.tup [.int c3, .int u3]) ∧ okL (⟨c1, u1, 0, 0⟩, ⟨c2, u2, 1, 0⟩, ⟨c3, u3, 2, 0⟩) ∧
  ∀ r H', H r = none → Same H H' → LineAt H' r (turnsE ks (⟨c1, u1, 0, 0⟩, ⟨c2, u2, 1, 0⟩, ⟨c3, u3, 2, 0⟩)) → Q (.ref r) H'
def t_tbody (K : PySem.W.Frag) (c_BadHolder : Addr) : TS :=   (tSeq (tAsg (tTup (tCons (tOp (rIxL K) (tVar 2) (tVar 3)) (tCons (tOp (rIxL K) (tVar 2) (tOp qAdd (tVar 3) (tC (.int 1)))) (tNil)))) (gTup K 2 (gCons (gTup K 3 (gCons (gName 4) (gCons (gName 5) (gCons (gName 6) (gNil))))) (gCons (gTup K 3 (gCons (gName 7) (gCons (gName 8) (gCons (gName 9) (gNil))))) (gNil)))))
  (tSeq (tAsg (tCall (spLPair K) [] E0 (tCons (tVar 4) (tCons (tVar 7) (tNil)))) (gTup K 3 (gCons (gName 10) (gCons (gName 11) (gCons (gName 12) (gNil))))))
  (tSeq (tIfS (tTest (tOp (rNeD K) (tCall (spExchanged K c_BadHolder) [] E0 (tCons (tVar 4) (tCons (tVar 7) (tNil)))) (tTup (tCons (tVar 10) (tCons (tVar 11) (tNil))))))
  (tRet (tC .non))
  (tNext))
  (tAsg (tTup (tCons (tTup (tCons (tVar 10) (tCons (tVar 8) (tCons (tOp qAdd (tVar 9) (tVar 12)) (tNil))))) (tCons (tTup (tCons (tVar 11) (tCons (tVar 5) (tCons (tOp qSub (tVar 6) (tVar 12)) (tNil))))) (tNil)))) (gTup K 2 (gCons (gSub (tVar 2) (tVar 3) rSetL) (gCons (gSub (tVar 2) (tOp qAdd (tVar 3) (tC (.int 1))) rSetL) (gNil))))))))
def t_turned (K : PySem.W.Frag) (c_BadHolder : Addr) : TS := tSeq (tAsg (tLc (iEnum K (tCons (tVar 0) tNil)) (gTup K 2 (gCons (gName 3) (gCons (gName 13) (gNil)))) (tYes) (tTup (tCons (tVar 13) (tCons (tVar 3) (tCons (tC (.int 0)) (tNil))))) [3, 13]) (gName 2))
  (tSeq (tFor (iList K (tVar 1)) (gName 3) (t_tbody K c_BadHolder))
  (tRet (tVar 2)))
/-- the two tuples of pairs -/
def prs (c u d x : Int) : PyData := .tuple [pr2 c u, pr2 d x]
theorem dp_prs {K : PySem.W.Frag} {H : Hp} {p a b : Addr} {c u d x : Int} (ha : H a = some (.tup [.int c, .int u])) (hb : H b = some (.tup [.int d, .int x])) (hp : H p = some (.tup [.ref a, .ref b])) : Dp K H (.ref p) (prs c u d x) := by
  exact .tup (SqT.of hp) (.cons (dp_pr2 ha) (.cons (dp_pr2 hb) .nil))
theorem prs_shaped (c u d x : Int) : SeqAt.shaped (prs c u d x) = true := shaped_tup (by rfl) (by simp [prs, pr2, PyData.depth, PyData.depthAll])
theorem val2_pr {K : PySem.W.Frag} {H : Hp} {p : Addr} {c u : Int} (h : H p = some (.tup [.int c, .int u])) : Val2 K H (.ref p) (some [.int c, .int u]) := .tup (SqT.of h) fun x hx => by
  simp only [List.mem_cons, List.not_mem_nil, or_false] at hx
  rcases hx with rfl | rfl
  · exact ⟨_, .int _⟩
  · exact ⟨_, .int _⟩
theorem holdO_ok {c u : Int} (h : (1 ≤ c ∧ c ≤ 99) ∧ 0 ≤ u ∧ u ≤ c) : holdO (some [.int c, .int u]) = true := holdO_iff.mpr ⟨c, u, rfl, h.1, h.2⟩
theorem tbody_ok {K : PySem.W.Frag} {C : Addr} {H : Hp} {r : Addr} {l : Ent × Ent × Ent} {k : Int} {w0 w1 : Option V} {w4 w5 w6 w7 w8 w9 w10 w11 w12 w13 : Option V} {N N2 N3 : L2.St → Hp → Prop} {R : VK}
    (hl : LineAt H r l) (hok : okL l) (hk : k = 0 ∨ k = 1)
    (hN : ∀ x4 x5 x6 x7 x8 x9 x10 x11 x12 H' H1, Same H H1 → H' = upd H1 r (H' r |>.getD (.lst [])) → LineAt H' r (turnE k l) → N [w0, w1, some (.ref r), some (.int k), x4, x5, x6, x7, x8, x9, x10, x11, x12, w13] H') :
    t_tbody K C { nx := N, rt := R, bk := N2, ct := N3 } [w0, w1, some (.ref r), some (.int k), w4, w5, w6, w7, w8, w9, w10, w11, w12, w13] H := by
  obtain ⟨xs, p, q, hr, hlen, g1, g2, ⟨hp, p1, p2⟩, ⟨hq, q1, q2⟩, j, j1, j2, fin⟩ := line_get hk hl
  have o1 : (at1 k l).ok := by
    unfold at1
    split
    · exact hok.1
    · exact hok.2.1
  have o2 : (at2 k l).ok := by
    unfold at2
    split
    · exact hok.2.1
    · exact hok.2.2
  have tn : turnE k l = if k = 0 then (exL (at1 k l) (at2 k l), exR (at1 k l) (at2 k l), l.2.2) else (l.1, exL (at1 k l) (at2 k l), exR (at1 k l) (at2 k l)) := by
    rcases hk with rfl | rfl <;> rfl
  rw [tn] at hN
  generalize at1 k l = e1 at *
  generalize at2 k l = e2 at *
  have ok12 := Ent.okN o1 o2
  -- (one, ..), (two, ..) = line[at], line[at + 1]
  refine ⟨_, rfl, _, rfl, r, xs, k, _, rfl, rfl, SqL.of hr, g1, _, rfl, _, rfl, _, _, rfl, rfl, r, xs, _, _, rfl, rfl, SqL.of hr, g2, sz (by show 2 ≤ 1000; decide), fun t ht => ?_⟩
  have s1 := same_new (o := .tup [.ref p, .ref q]) ht
  have T1 : upd H t (.tup [.ref p, .ref q]) t = some (.tup [.ref p, .ref q]) := upd_same
  generalize upd H t (.tup [.ref p, .ref q]) = H1 at s1 T1 ⊢
  refine ⟨t, _, rfl, SqT.of T1, rfl, _, _, rfl, ⟨p, _, rfl, SqT.of (s1 _ _ p1), rfl, _, _, rfl, _, _, rfl, _, _, rfl, rfl, _, _, rfl, ⟨q, _, rfl, SqT.of (s1 _ _ q1), rfl, _, _, rfl, _, _, rfl, _, _, rfl, rfl, rfl, ?_⟩⟩⟩
  -- the law's pair
  refine ⟨_, rfl, _, rfl, hp, hq, _, _, _, _, rfl, SqT.of (s1 _ _ p2), SqT.of (s1 _ _ q2), fun t2 a b H2 _ _ _ s2 A2 B2 T2 => ?_⟩
  refine ⟨t2, _, rfl, SqT.of T2, rfl, _, _, rfl, _, _, rfl, _, _, rfl, rfl, ?_⟩
  have s12 := s1.trans s2
  -- the program's
  refine ⟨_, rfl, _, rfl, _, _, _, _, rfl, val2_pr (s12 _ _ p2), val2_pr (s12 _ _ q2), fun z => ?_, ?_⟩
  · rw [holdO_ok o1, holdO_ok o2] at z
    cases z
  rintro c u d x z1 z2 _ t3 a' b' H3 _ _ _ s3 A3 B3 T3
  cases z1
  cases z2
  have s13 := s12.trans s3
  refine ⟨_, rfl, _, rfl, sz (by show 2 ≤ 1000; decide), fun t4 ht4 => ?_⟩
  have s4 := same_new (o := .tup [.ref a, .ref b]) ht4
  have T4 : upd H3 t4 (.tup [.ref a, .ref b]) t4 = some (.tup [.ref a, .ref b]) := upd_same
  generalize upd H3 t4 (.tup [.ref a, .ref b]) = H4 at s4 T4 ⊢
  have s14 := s13.trans s4
  have A4 := s4 _ _ (s3 _ _ A2)
  have B4 := s4 _ _ (s3 _ _ B2)
  refine ⟨_, _, dp_prs (s4 _ _ A3) (s4 _ _ B3) (s4 _ _ T3), dp_prs A4 B4 T4, prs_shaped _ _ _ _, prs_shaped _ _ _ _, _, rfl, iteNE (prs_shaped _ _ _ _) ?_⟩
  -- line[at], line[at + 1] = ..
  refine ⟨_, rfl, _, rfl, _, rfl, _, rfl, _, _, rfl, rfl, sz (by show 3 ≤ 1000; decide), fun m1 hm1 => ?_⟩
  have s5 := same_new (o := .tup [.ref a, .int e2.i, .int (e2.n + min (e1.c - e1.u) e2.u)]) hm1
  have M5 : upd H4 m1 (.tup [.ref a, .int e2.i, .int (e2.n + min (e1.c - e1.u) e2.u)]) m1 = some (.tup [.ref a, .int e2.i, .int (e2.n + min (e1.c - e1.u) e2.u)]) := upd_same
  generalize upd H4 m1 (.tup [.ref a, .int e2.i, .int (e2.n + min (e1.c - e1.u) e2.u)]) = H5 at s5 M5 ⊢
  refine ⟨_, rfl, _, rfl, _, rfl, _, rfl, _, _, rfl, rfl, sz (by show 3 ≤ 1000; decide), fun m2 hm2 => ?_⟩
  have s6 := same_new (o := .tup [.ref b, .int e1.i, .int (e1.n - min (e1.c - e1.u) e2.u)]) hm2
  have M6 : upd H5 m2 (.tup [.ref b, .int e1.i, .int (e1.n - min (e1.c - e1.u) e2.u)]) m2 = some (.tup [.ref b, .int e1.i, .int (e1.n - min (e1.c - e1.u) e2.u)]) := upd_same
  generalize upd H5 m2 (.tup [.ref b, .int e1.i, .int (e1.n - min (e1.c - e1.u) e2.u)]) = H6 at s6 M6 ⊢
  refine ⟨sz (by show 2 ≤ 1000; decide), fun t7 ht7 => ?_⟩
  have s7 := same_new (o := .tup [.ref m1, .ref m2]) ht7
  have T7 : upd H6 t7 (.tup [.ref m1, .ref m2]) t7 = some (.tup [.ref m1, .ref m2]) := upd_same
  generalize upd H6 t7 (.tup [.ref m1, .ref m2]) = H7 at s7 T7 ⊢
  have s17 := s14.trans (s5.trans (s6.trans s7))
  have R7 := s17 _ _ hr
  refine ⟨t7, _, rfl, SqT.of T7, rfl, _, _, rfl, ⟨_, rfl, _, rfl, r, xs, k, j, rfl, rfl, R7, j1, _, _, rfl, ?_⟩⟩
  refine ⟨_, rfl, _, rfl, _, _, rfl, rfl, r, _, _, _, rfl, rfl, upd_same, (by rw [List.length_set]; exact j2), rfl, ?_⟩
  have E1 : EntAt H7 m1 (exL e1 e2) := ⟨a, s7 _ _ (s6 _ _ M5), s7 _ _ (s6 _ _ (s5 _ _ A4))⟩
  have E2 : EntAt H7 m2 (exR e1 e2) := ⟨b, s7 _ _ M6, s7 _ _ (s6 _ _ (s5 _ _ B4))⟩
  have uu : ∀ (o1 o2 : HO), upd (upd H7 r o1) r o2 = upd H7 r o2 := fun o1 o2 => by
    funext y
    by_cases e : y = r
    · subst e
      rw [upd_same, upd_same]
    · rw [upd_ne e, upd_ne e, upd_ne e]
  rw [uu]
  refine hN _ _ _ _ _ _ _ _ _ _ H7 s17 (by rw [upd_same]; rfl) (fin m1 m2 _ _ _ (E1.upd R7) (E2.upd R7) (fun p e h => (h.same s17).upd R7) upd_same)
end SR

set_option Elab.async false
set_option linter.all false
set_option maxRecDepth 100000
set_option maxHeartbeats 4000000
/-! K09D: the three holders' promise. -/
namespace SR
open PySem L2
inductive F2 {α β : Type} (R : α → β → Prop) : List α → List β → Prop where
  | nil : F2 R [] []
  | cons {x : α} {y : β} {xs : List α} {ys : List β} (h : R x y) (t : F2 R xs ys) : F2 R (x :: xs) (y :: ys)
/-- the list made so far -/
def Made (H : Hp) (D : Addr) (es : List Ent) : Prop := ∃ acc, H D = some (.lst acc) ∧ F2 (fun v e => ∃ p, v = V.ref p ∧ EntAt H p e) acc es
theorem forall2_len {α β : Type} {R : α → β → Prop} : ∀ {xs : List α} {ys : List β}, F2 R xs ys → xs.length = ys.length
  | _, _, .nil => rfl
  | _, _, .cons _ t => by rw [List.length_cons, List.length_cons, forall2_len t]
theorem forall2_imp {α β : Type} {R S : α → β → Prop} (f : ∀ x y, R x y → S x y) : ∀ {xs : List α} {ys : List β}, F2 R xs ys → F2 S xs ys
  | _, _, .nil => .nil
  | _, _, .cons h t => .cons (f _ _ h) (forall2_imp f t)
theorem forall2_snoc {α β : Type} {R : α → β → Prop} {x : α} {y : β} (h : R x y) : ∀ {xs : List α} {ys : List β}, F2 R xs ys → F2 R (xs ++ [x]) (ys ++ [y])
  | _, _, .nil => .cons h .nil
  | _, _, .cons z t => .cons z (forall2_snoc h t)
theorem pure_turned {K : PySem.W.Frag} {C : Addr} (vs : List V) (H : Hp) (Q : VK) (E : XK) (h : spTurned K vs H Q E) : t_turned K C { nx := fun _ H' => Q .non H', rt := Q } (start ["some", "order", "line", "at", "one", "first", "gained", "two", "second", "taken", "new_one", "new_two", "up", "thing"] vs) H := by
  obtain ⟨a, o, x, y, z, c1, u1, c2, u2, c3, u3, ks, rfl, hA, hO, hks, hx, hy, hz, hok, kQ⟩ := h
  refine ⟨_, rfl, a, [.ref x, .ref y, .ref z], rfl, SqL.of hA, fun D hD => ?_⟩
  have st : ∀ H', Same H H' → Made H' D [⟨c1, u1, 0, 0⟩, ⟨c2, u2, 1, 0⟩, ⟨c3, u3, 2, 0⟩] →
      tSeq (tFor (iList K (tVar 1)) (gName 3) (t_tbody K C)) (tRet (tVar 2)) { nx := fun _ H' => Q .non H', rt := Q } [some (.ref a), some (.ref o), some (.ref D), none, none, none, none, none, none, none, none, none, none, none] H' := by
    rintro H' s ⟨acc, hacc, hall⟩
    have hl : LineAt H' D (⟨c1, u1, 0, 0⟩, ⟨c2, u2, 1, 0⟩, ⟨c3, u3, 2, 0⟩) := by
      cases hall with
      | cons h1 t => cases t with
        | cons h2 t => cases t with
          | cons h3 t =>
            cases t
            obtain ⟨p1, rfl, h1⟩ := h1
            obtain ⟨p2, rfl, h2⟩ := h2
            obtain ⟨p3, rfl, h3⟩ := h3
            exact ⟨p1, p2, p3, hacc, h1, h2, h3⟩
    refine ⟨_, rfl, o, rfl, ⟨_, SqL.of (s _ _ hO)⟩, ?_⟩
    refine for_list (K := K) (a := o) (xs := ks.map V.int) (fun i σ H1 => Same H H1 ∧ LineAt H1 D (turnsE (ks.take i) (⟨c1, u1, 0, 0⟩, ⟨c2, u2, 1, 0⟩, ⟨c3, u3, 2, 0⟩)) ∧ ∃ x3 x4 x5 x6 x7 x8 x9 x10 x11 x12 x13, σ = [some (.ref a), some (.ref o), some (.ref D), x3, x4, x5, x6, x7, x8, x9, x10, x11, x12, x13]) ⟨s, hl, _, _, _, _, _, _, _, _, _, _, _, rfl⟩ ?_ ?_ ?_
    · rintro i σ H1 hi ⟨s1, _⟩
      exact SqL.of (s1 _ _ hO)
    · rintro i v σ H1 hv ⟨s1, l1, x3, x4, x5, x6, x7, x8, x9, x10, x11, x12, x13, rfl⟩
      rw [List.getElem?_map] at hv
      obtain ⟨k, hk, rfl⟩ := Option.map_eq_some_iff.mp hv
      have tk : ks.take (i + 1) = ks.take i ++ [k] := by
        rw [List.take_succ, hk]
        rfl
      show t_tbody K C _ [some (.ref a), some (.ref o), some (.ref D), some (.int k), x4, x5, x6, x7, x8, x9, x10, x11, x12, x13] H1
      refine tbody_ok l1 (okL_turns _ hok) (hks k (List.mem_of_getElem? hk)) fun y4 y5 y6 y7 y8 y9 y10 y11 y12 H2 H3 s3 e2 l2 => ⟨?_, ?_, _, _, _, _, _, _, _, _, _, _, _, rfl⟩
      · rw [e2]
        exact same_upd (s1.trans s3) hD
      · rw [tk, turns_snoc]
        exact l2
    · rintro σ H1 ⟨s1, l1, x3, x4, x5, x6, x7, x8, x9, x10, x11, x12, x13, rfl⟩
      rw [List.length_map, List.take_length] at l1
      exact ⟨_, rfl, kQ D H1 hD s1 l1⟩
  refine lc_it (walk_enum (K := K) (a := a) (xs := [.ref x, .ref y, .ref z])) (fun i H1 => Same H H1 ∧ Made H1 D (([⟨c1, u1, 0, 0⟩, ⟨c2, u2, 1, 0⟩, ⟨c3, u3, 2, 0⟩] : List Ent).take i)) ⟨same_new hD, [], upd_same, .nil⟩ ?_ ?_ ?_
  · rintro i H1 hi ⟨s1, _⟩
    exact SqL.of (s1 _ _ hA)
  · rintro i v H1 H2 hi ⟨s1, acc, hacc, hall⟩ ⟨T, v1, v2, rfl, hT, rfl, e1, e2⟩
    have e1' := Option.some.inj e1
    subst e1'
    have sT := same_new (o := .tup [.int i, v2]) hT
    have T2 : upd H1 T (.tup [.int i, v2]) T = some (.tup [.int i, v2]) := upd_same
    generalize upd H1 T (.tup [.int i, v2]) = H2 at sT T2 ⊢
    refine ⟨T, _, rfl, SqT.of T2, rfl, _, _, rfl, _, _, rfl, rfl, rfl, ?_⟩
    refine ⟨_, rfl, _, rfl, sz (by show 3 ≤ 1000; decide), fun q hq => ?_⟩
    have sq := same_new (o := .tup [v2, .int i, .int 0]) hq
    have Q3 : upd H2 q (.tup [v2, .int i, .int 0]) q = some (.tup [v2, .int i, .int 0]) := upd_same
    generalize upd H2 q (.tup [v2, .int i, .int 0]) = H3 at sq Q3 ⊢
    have s3 := sT.trans sq
    have A3 := s3 _ _ hacc
    refine ⟨acc, A3, ?_, ?_⟩
    · have := forall2_len hall
      rw [List.length_take] at this
      have this : acc.length = min i 3 := this
      exact Nat.lt_of_le_of_lt (by omega : acc.length ≤ 3) (by decide)
    · refine ⟨same_upd (s1.trans s3) hD, _, upd_same, ?_⟩
      have grow : ∀ e : Ent, EntAt H3 q e → F2 (fun v e => ∃ p, v = V.ref p ∧ EntAt (upd H3 D (.lst (acc ++ [.ref q]))) p e) (acc ++ [.ref q]) ((([⟨c1, u1, 0, 0⟩, ⟨c2, u2, 1, 0⟩, ⟨c3, u3, 2, 0⟩] : List Ent).take i) ++ [e]) := fun e he =>
        forall2_snoc ⟨q, rfl, he.upd A3⟩ (forall2_imp (fun _ _ ⟨p, h1, h2⟩ => ⟨p, h1, (h2.same s3).upd A3⟩) hall)
      have z3 : ∀ w c u, H w = some (.tup [.int c, .int u]) → H3 w = some (.tup [.int c, .int u]) := fun w c u hw => s3 _ _ (s1 _ _ hw)
      have : i = 0 ∨ i = 1 ∨ i = 2 := by
        have : i < 3 := hi
        omega
      rcases this with rfl | rfl | rfl
      · cases e2
        exact grow ⟨c1, u1, 0, 0⟩ ⟨x, Q3, z3 _ _ _ hx⟩
      · cases e2
        exact grow ⟨c2, u2, 1, 0⟩ ⟨y, Q3, z3 _ _ _ hy⟩
      · cases e2
        exact grow ⟨c3, u3, 2, 0⟩ ⟨z, Q3, z3 _ _ _ hz⟩
  · rintro H1 ⟨s1, m1⟩
    exact st H1 s1 m1
end SR

set_option Elab.async false
set_option linter.all false
set_option maxRecDepth 100000
set_option maxHeartbeats 4000000
/-! K09E: what is refused; a turn; the law of holders. -/
namespace SR
open PySem L2
/-- right, left in the parameters' order -/
def gkw_exchanged {α : Type} (_ zs : List α) : List α := match zs with
  | [a, b] => [b, a]
  | _ => []
theorem gkw_exchanged_rel {vs zs : List V} {us ws : List Value} (_ : Vals vs us) (r : Vals zs ws) : Vals (gkw_exchanged vs zs) (gkw_exchanged us ws) := by
  match zs, ws, r with
  | [], _, .nil => exact .nil
  | [_], _, .cons _ .nil => exact .nil
  | [_, _], _, .cons a (.cons b .nil) => exact .cons b (.cons a .nil)
  | _ :: _ :: _ :: _, _, .cons _ (.cons _ (.cons _ _)) => exact .nil
def spRefused (K : PySem.W.Frag) : Sp := fun vs H Q _ => ∃ v1 v2 o1 o2, vs = [v1, v2] ∧ Val2 K H v1 o1 ∧ Val2 K H v2 o2 ∧ (holdO o1 && holdO o2) = false ∧ Q (.bl true) H
def t_is_refused (K : PySem.W.Frag) (c_BadHolder : Addr) (c_ScoopError : Addr) : TS := tSeq (tAsg (tC .non) (gName 2))
  (tTryKeep K (.ref c_ScoopError) 3 2 (fun W => tDrop (tCallS (spExchanged K c_BadHolder) (WE W) (tCons (tVar 0) (tCons (tVar 1) (tNil)))))
  (tRet (tCB (rIsi K) (tCons (tVar 2) (tCons (tC (.ref c_BadHolder)) tNil))))
  (fun a cls d => tRet (tCB (rIsK K a cls d) (tCons (tVar 2) (tCons (tC (.ref c_BadHolder)) tNil)))) (fun _ _ _ _ => False))
def t_odd9 (K : PySem.W.Frag) : TS := (tSeq (tAsg (tLst (tCons (tC .non) (tCons (tC (.int 5)) (tCons (tTup (tNil)) (tCons (tTup (tCons (tC (.int 1)) (tNil))) (tCons (tTup (tCons (tC (.int 1)) (tCons (tC (.int 0)) (tCons (tC (.int 0)) (tNil))))) (tCons (tLst (tCons (tC (.int 1)) (tCons (tC (.int 0)) (tNil)))) (tCons (tTup (tCons (tC (.int 0)) (tCons (tC (.int 0)) (tNil)))) (tCons (tTup (tCons (tC (.int 100)) (tCons (tC (.int 1)) (tNil)))) (tCons (tTup (tCons (tC (.int 2)) (tCons (tC (.int 3)) (tNil)))) (tCons (tTup (tCons (tC (.int 2)) (tCons (tUn (rU fun i => .int (-i)) (tC (.int 1))) (tNil)))) (tCons (tTup (tCons (tC (.bl true)) (tCons (tC (.int 0)) (tNil)))) (tCons (tTup (tCons (tC (.int 2)) (tCons (tC (.bl true)) (tNil)))) (tCons (tTup (tCons (tC (.str "2")) (tCons (tC (.int 1)) (tNil)))) (tNil))))))))))))))) (gName 11))
  (tSeq (tAsg (tCall (spPick K) [] E0 (tCons (tVar 1) (tCons (tOp rCat (tVar 11) (tLst (tCons (tTup (tCons (tC (.int 2)) (tCons (tC .non) (tNil)))) (tCons (tDNewK) (tCons (tC (.str "ab")) (tCons (tTup (tCons (tOp qPow (tC (.int 10)) (tC (.int 30))) (tCons (tC (.int 1)) (tNil)))) (tCons (tTup (tCons (tTup (tCons (tC (.int 1)) (tCons (tC (.int 0)) (tNil)))) (tCons (tC (.int 0)) (tNil)))) (tNil)))))))) (tNil)))) (gName 12))
  (tIfS (tOr (tNot (tB (tCall (spRefused K) [] E0 (tCons (tVar 12) (tCons (tVar 4) (tNil)))))) (tOr (tNot (tB (tCall (spRefused K) [] E0 (tCons (tVar 3) (tCons (tVar 12) (tNil)))))) (tNot (tB (tCall (spRefused K) [] E0 (tCons (tVar 12) (tCons (tVar 12) (tNil))))))))
  (tRet (tC (.bl false)))
  (tNext))))
theorem pure_is_refused {K : PySem.W.Frag} {B S : Addr} (F : ErrF K B S) (hk : PySem.W.kitOne K (.ref B) (.ref B) = some true) (vs : List V) (H : Hp) (Q : VK) (E : XK) (h : spRefused K vs H Q E) :
    t_is_refused K B S { nx := fun _ H' => Q .non H', rt := Q } (start ["one", "two", "caught", "error"] vs) H := by
  obtain ⟨v1, v2, o1, o2, rfl, h1, h2, e, q⟩ := h
  refine ⟨_, rfl, _, rfl, v1, v2, o1, o2, rfl, h1, h2, fun _ => ⟨true, F.ex, fun _ x hx => ?_, fun z => nomatch z⟩, fun c u d x z1 z2 o => ?_⟩
  · exact ⟨_, rfl, B, _, _, true, rfl, rfl, F.ec, rfl, fun u hu => hu, hk, q⟩
  · subst z1 z2
    rw [holdO_ok ⟨o.1, o.2.1⟩, holdO_ok ⟨o.2.2.1, o.2.2.2⟩] at e
    cases e
/-- no holder -/
def Bad (K : PySem.W.Frag) (H : Hp) (v : V) : Prop := ∃ o, Val2 K H v o ∧ holdO o = false
def Bads (K : PySem.W.Frag) (H : Hp) (vs : List V) : Prop := ∀ v ∈ vs, Bad K H v
theorem Bads.same {K : PySem.W.Frag} {H H' : Hp} {vs : List V} (s : Same H H') (h : Bads K H vs) : Bads K H' vs := fun v m => let ⟨o, a, b⟩ := h v m; ⟨o, a.same s, b⟩
theorem Bads.cons {K : PySem.W.Frag} {H : Hp} {v : V} {vs : List V} (a : Bad K H v) (h : Bads K H vs) : Bads K H (v :: vs) := fun x m => by
  rcases List.mem_cons.mp m with rfl | m
  · exact a
  · exact h x m
theorem Bads.oth {K : PySem.W.Frag} {H : Hp} {v : V} {vs : List V} {t : String} (a : AnyT K H v t) (ht : (t == "tuple") = false) (h : Bads K H vs) : Bads K H (v :: vs) := h.cons ⟨none, .oth a ht, rfl⟩
def Anys (K : PySem.W.Frag) (H : Hp) (xs : List V) : Prop := ∀ x ∈ xs, ∃ t, AnyT K H x t
theorem anys_nil {K : PySem.W.Frag} {H : Hp} : Anys K H [] := fun _ m => nomatch m
theorem anys_cons {K : PySem.W.Frag} {H : Hp} {x : V} {xs : List V} {t : String} (a : AnyT K H x t) (h : Anys K H xs) : Anys K H (x :: xs) := fun y m => by
  rcases List.mem_cons.mp m with rfl | m
  · exact ⟨_, a⟩
  · exact h y m
/-- what holds while odd values are made: the draws' state, what it kept, the odd values -/
structure Sk (K : PySem.W.Frag) (H0 : Hp) (d g c : Addr) (b : Nat) (vs : List V) (H : Hp) : Prop where
  st : StB H d g c b
  kp : Same H0 H
  bd : Bads K (hid d g H) vs
theorem hid_same_new {d g p : Addr} {H : Hp} {o : HO} (h : H p = none) : Same (hid d g H) (hid d g (upd H p o)) := Kp.hid (Kp.new h)
theorem Sk.new {K : PySem.W.Frag} {H0 H : Hp} {d g c p : Addr} {b : Nat} {vs : List V} {o : HO} (k : Sk K H0 d g c b vs H) (h : H p = none) : Sk K H0 d g c b vs (upd H p o) := ⟨k.st.new h, k.kp.trans (same_new h), k.bd.same (hid_same_new h)⟩
theorem Sk.tup {K : PySem.W.Frag} {H0 H : Hp} {d g c p : Addr} {b : Nat} {vs xs : List V} (k : Sk K H0 d g c b vs H) (h : H p = none) (hx : Anys K (hid d g H) xs) (hf : holdO (some xs) = false) : Sk K H0 d g c b (.ref p :: vs) (upd H p (.tup xs)) := by
  obtain ⟨p1, p2, _⟩ := k.st.off h
  exact ⟨k.st.new h, k.kp.trans (same_new h), (k.bd.same (hid_same_new h)).cons ⟨some xs, .tup (SqT.of (hid_new p1 p2)) fun x m => let ⟨t, z⟩ := hx x m; ⟨t, z.same (hid_same_new h)⟩, hf⟩⟩
theorem Sk.lst {K : PySem.W.Frag} {H0 H : Hp} {d g c p : Addr} {b : Nat} {vs xs : List V} (k : Sk K H0 d g c b vs H) (h : H p = none) : Sk K H0 d g c b (.ref p :: vs) (upd H p (.lst xs)) := by
  obtain ⟨p1, p2, _⟩ := k.st.off h
  exact ⟨k.st.new h, k.kp.trans (same_new h), (k.bd.same (hid_same_new h)).oth (.lst (SqL.of (hid_new p1 p2))) rfl⟩
theorem Sk.dct {K : PySem.W.Frag} {H0 H : Hp} {d g c p : Addr} {b : Nat} {vs : List V} (k : Sk K H0 d g c b vs H) (h : H p = none) : Sk K H0 d g c b (.ref p :: vs) (upd H p (.dK [])) := by
  obtain ⟨p1, p2, _⟩ := k.st.off h
  exact ⟨k.st.new h, k.kp.trans (same_new h), (k.bd.same (hid_same_new h)).oth (.dct (.inl (hid_new p1 p2))) rfl⟩
theorem Sk.oth {K : PySem.W.Frag} {H0 H : Hp} {d g c : Addr} {b : Nat} {v : V} {vs : List V} {t : String} (k : Sk K H0 d g c b vs H) (a : AnyT K (hid d g H) v t) (ht : (t == "tuple") = false) : Sk K H0 d g c b (v :: vs) H := ⟨k.st, k.kp, k.bd.oth a ht⟩
theorem odd9_ok {K : PySem.W.Frag} {H : Hp} {d g c p1 p2 : Addr} {b : Nat} {m1 n1 m2 n2 : Int} {w0 w2 w5 w6 w7 w8 w9 w10 w11 w12 : Option V} {N N2 N3 : L2.St → Hp → Prop} {R : VK} (S : StB H d g c (b + 1))
    (P1 : H p1 = some (.tup [.int m1, .int n1])) (P2 : H p2 = some (.tup [.int m2, .int n2])) (d1 : p1 ≠ d) (g1 : p1 ≠ g) (d2 : p2 ≠ d) (g2 : p2 ≠ g)
    (hN : ∀ x11 x12 H', StB H' d g c b → N [w0, some (.ref d), w2, some (.ref p1), some (.ref p2), w5, w6, w7, w8, w9, w10, x11, x12] H') :
    t_odd9 K { nx := N, rt := R, bk := N2, ct := N3 } [w0, some (.ref d), w2, some (.ref p1), some (.ref p2), w5, w6, w7, w8, w9, w10, w11, w12] H := by
  have k0 : Sk K H d g c (b + 1) [] H := ⟨S, fun _ _ z => z, fun _ m => nomatch m⟩
  have k0 := k0.oth .non rfl
  have k0 := k0.oth (.int 5) rfl
  refine ⟨sz (by show 0 ≤ 1000; decide), fun t1 ht1 => ?_⟩
  have k1 := k0.tup ht1 (xs := []) anys_nil rfl
  generalize upd H t1 (.tup []) = H1 at k1 ⊢
  refine ⟨sz (by show 1 ≤ 1000; decide), fun t2 ht2 => ?_⟩
  have k2 := k1.tup ht2 (xs := [.int 1]) (anys_cons (.int _) anys_nil) rfl
  generalize upd H1 t2 (.tup [.int 1]) = H2 at k2 ⊢
  refine ⟨sz (by show 3 ≤ 1000; decide), fun t3 ht3 => ?_⟩
  have k3 := k2.tup ht3 (xs := [.int 1, .int 0, .int 0]) (anys_cons (.int _) (anys_cons (.int _) (anys_cons (.int _) anys_nil))) rfl
  generalize upd H2 t3 (.tup [.int 1, .int 0, .int 0]) = H3 at k3 ⊢
  refine ⟨sz (by show 2 ≤ 1000; decide), fun t4 ht4 => ?_⟩
  have k4 := k3.lst ht4 (xs := [.int 1, .int 0])
  generalize upd H3 t4 (.lst [.int 1, .int 0]) = H4 at k4 ⊢
  refine ⟨sz (by show 2 ≤ 1000; decide), fun t5 ht5 => ?_⟩
  have k5 := k4.tup ht5 (xs := [.int 0, .int 0]) (anys_cons (.int _) (anys_cons (.int _) anys_nil)) rfl
  generalize upd H4 t5 (.tup [.int 0, .int 0]) = H5 at k5 ⊢
  refine ⟨sz (by show 2 ≤ 1000; decide), fun t6 ht6 => ?_⟩
  have k6 := k5.tup ht6 (xs := [.int 100, .int 1]) (anys_cons (.int _) (anys_cons (.int _) anys_nil)) rfl
  generalize upd H5 t6 (.tup [.int 100, .int 1]) = H6 at k6 ⊢
  refine ⟨sz (by show 2 ≤ 1000; decide), fun t7 ht7 => ?_⟩
  have k7 := k6.tup ht7 (xs := [.int 2, .int 3]) (anys_cons (.int _) (anys_cons (.int _) anys_nil)) rfl
  generalize upd H6 t7 (.tup [.int 2, .int 3]) = H7 at k7 ⊢
  refine ⟨1, rfl, sz (by show 2 ≤ 1000; decide), fun t8 ht8 => ?_⟩
  have k8 := k7.tup ht8 (xs := [.int 2, .int (-1)]) (anys_cons (.int _) (anys_cons (.int _) anys_nil)) rfl
  generalize upd H7 t8 (.tup [.int 2, .int (-1)]) = H8 at k8 ⊢
  refine ⟨sz (by show 2 ≤ 1000; decide), fun t9 ht9 => ?_⟩
  have k9 := k8.tup ht9 (xs := [.bl true, .int 0]) (anys_cons (.bl _) (anys_cons (.int _) anys_nil)) rfl
  generalize upd H8 t9 (.tup [.bl true, .int 0]) = H9 at k9 ⊢
  refine ⟨sz (by show 2 ≤ 1000; decide), fun t10 ht10 => ?_⟩
  have k10 := k9.tup ht10 (xs := [.int 2, .bl true]) (anys_cons (.int _) (anys_cons (.bl _) anys_nil)) rfl
  generalize upd H9 t10 (.tup [.int 2, .bl true]) = H10 at k10 ⊢
  refine ⟨sz (by show 2 ≤ 1000; decide), fun t11 ht11 => ?_⟩
  have k11 := k10.tup ht11 (xs := [.str "2", .int 1]) (anys_cons (.str _) (anys_cons (.int _) anys_nil)) rfl
  generalize upd H10 t11 (.tup [.str "2", .int 1]) = H11 at k11 ⊢
  refine ⟨sz (by show 13 ≤ 1000; decide), fun l1 hl1 => ?_⟩
  have k12 := k11.new hl1 (o := .lst [.non, .int 5, .ref t1, .ref t2, .ref t3, .ref t4, .ref t5, .ref t6, .ref t7, .ref t8, .ref t9, .ref t10, .ref t11])
  have L12 : upd H11 l1 (.lst [.non, .int 5, .ref t1, .ref t2, .ref t3, .ref t4, .ref t5, .ref t6, .ref t7, .ref t8, .ref t9, .ref t10, .ref t11]) l1 = some (.lst [.non, .int 5, .ref t1, .ref t2, .ref t3, .ref t4, .ref t5, .ref t6, .ref t7, .ref t8, .ref t9, .ref t10, .ref t11]) := upd_same
  generalize upd H11 l1 (.lst [.non, .int 5, .ref t1, .ref t2, .ref t3, .ref t4, .ref t5, .ref t6, .ref t7, .ref t8, .ref t9, .ref t10, .ref t11]) = H12 at k12 L12 ⊢
  -- bad = ..
  refine ⟨_, rfl, _, rfl, sz (by show 2 ≤ 1000; decide), fun t13 ht13 => ?_⟩
  have k13 := k12.tup ht13 (xs := [.int 2, .non]) (anys_cons (.int _) (anys_cons .non anys_nil)) rfl
  have L13 := same_new (o := .tup [.int 2, .non]) ht13 _ _ L12
  generalize upd H12 t13 (.tup [.int 2, .non]) = H13 at k13 L13 ⊢
  intro t14 ht14
  have k14 := (k13.dct ht14).oth (.str "ab") rfl
  have L14 := same_new (o := .dK []) ht14 _ _ L13
  generalize upd H13 t14 (.dK []) = H14 at k14 L14 ⊢
  refine ⟨10, 30, rfl, rfl, ⟨by decide, by decide, by decide⟩, sz (by show 2 ≤ 1000; decide), fun t15 ht15 => ?_⟩
  have k15 := k14.tup ht15 (xs := [.int (10 ^ (30 : Int).toNat), .int 1]) (anys_cons (.int _) (anys_cons (.int _) anys_nil)) (by decide +kernel)
  have L15 := same_new (o := .tup [.int (10 ^ (30 : Int).toNat), .int 1]) ht15 _ _ L14
  generalize upd H14 t15 (.tup [.int (10 ^ (30 : Int).toNat), .int 1]) = H15 at k15 L15 ⊢
  refine ⟨sz (by show 2 ≤ 1000; decide), fun t16 ht16 => ?_⟩
  obtain ⟨o16, o16', _⟩ := k15.st.off ht16
  have k16 := k15.new ht16 (o := .tup [.int 1, .int 0])
  have L16 := same_new (o := .tup [.int 1, .int 0]) ht16 _ _ L15
  have T16 : hid d g (upd H15 t16 (.tup [.int 1, .int 0])) t16 = some (.tup [.int 1, .int 0]) := hid_new o16 o16'
  generalize upd H15 t16 (.tup [.int 1, .int 0]) = H16 at k16 L16 T16 ⊢
  refine ⟨sz (by show 2 ≤ 1000; decide), fun t17 ht17 => ?_⟩
  have k17 := k16.tup ht17 (xs := [.ref t16, .int 0]) (anys_cons (.tup (SqT.of T16)) (anys_cons (.int _) anys_nil)) rfl
  have L17 := same_new (o := .tup [.ref t16, .int 0]) ht17 _ _ L16
  generalize upd H16 t17 (.tup [.ref t16, .int 0]) = H17 at k17 L17 ⊢
  refine ⟨sz (by show 5 ≤ 1000; decide), fun l2 hl2 => ?_⟩
  have k18 := k17.new hl2 (o := .lst [.ref t13, .ref t14, .str "ab", .ref t15, .ref t17])
  have L18 := same_new (o := .lst [.ref t13, .ref t14, .str "ab", .ref t15, .ref t17]) hl2 _ _ L17
  have M18 : upd H17 l2 (.lst [.ref t13, .ref t14, .str "ab", .ref t15, .ref t17]) l2 = some (.lst [.ref t13, .ref t14, .str "ab", .ref t15, .ref t17]) := upd_same
  generalize upd H17 l2 (.lst [.ref t13, .ref t14, .str "ab", .ref t15, .ref t17]) = H18 at k18 L18 M18 ⊢
  refine ⟨l1, l2, _, _, rfl, rfl, L18, M18, sz (by show 18 ≤ 1000; decide), fun l3 hl3 => ?_⟩
  obtain ⟨o3, o3', _⟩ := k18.st.off hl3
  have k19 := k18.new hl3 (o := .lst ([.non, .int 5, .ref t1, .ref t2, .ref t3, .ref t4, .ref t5, .ref t6, .ref t7, .ref t8, .ref t9, .ref t10, .ref t11] ++ [.ref t13, .ref t14, .str "ab", .ref t15, .ref t17]))
  refine ⟨d, g, c, b, l3, _, rfl, k19.st, SqL.of upd_same, o3, o3', by show 0 < 18; decide, by show 18 < 1000; decide, fun v H20 hv S20 q20 => ?_⟩
  have hb := k19.bd.same q20.hid
  have s20 := q20
  have P1' := q20 _ _ d1 g1 (k19.kp _ _ P1)
  have P2' := q20 _ _ d2 g2 (k19.kp _ _ P2)
  obtain ⟨o, hv1, hv2⟩ : Bad K H20 v := by
    obtain ⟨o, h1, h2⟩ := hb v (by
      simp only [List.mem_append, List.mem_cons, List.not_mem_nil, or_false] at hv ⊢
      rcases hv with (h | h | h | h | h | h | h | h | h | h | h | h | h) | h | h | h | h | h <;> simp only [h, true_or, or_true])
    exact ⟨o, h1.same hid_same, h2⟩
  clear hv hb
  have z1 : (holdO (some [V.int m1, .int n1]) && holdO o) = false := by rw [hv2, Bool.and_false]
  have z2 : (holdO o && holdO (some [V.int m2, .int n2])) = false := by rw [hv2]; rfl
  have z3 : (holdO o && holdO o) = false := by rw [hv2]; rfl
  refine ⟨_, rfl, _, rfl, _, _, _, _, rfl, hv1, val2_pr P2', z2, _, rfl, iteF ?_⟩
  refine ⟨_, rfl, _, rfl, _, _, _, _, rfl, val2_pr P1', hv1, z1, _, rfl, iteF ?_⟩
  refine ⟨_, rfl, _, rfl, _, _, _, _, rfl, hv1, hv1, z3, _, rfl, iteF ?_⟩
  exact hN _ _ _ S20
end SR

set_option Elab.async false
set_option linter.all false
set_option maxRecDepth 100000
set_option maxHeartbeats 4000000
/-! K09F: a turn; the law of holders. -/
namespace SR
open PySem L2
def t_turn9 (K : PySem.W.Frag) (c_BadHolder : Addr) : TS := (tSeq (tPar3 3 4 5 (tCons (tCall spLHolder [] E0 (tCons (tVar 1) (tNil))) (tCons (tCall spLHolder [] E0 (tCons (tVar 1) (tNil))) (tCons (tCall spLHolder [] E0 (tCons (tVar 1) (tNil))) (tNil)))))
  (tSeq (tAsg (tCall (spLPair K) [] E0 (tCons (tVar 3) (tCons (tVar 4) (tNil)))) (gTup K 3 (gCons (gName 6) (gCons (gName 7) (gCons (gName 8) (gNil))))))
  (tSeq (tAsg (tTup (tCons (tVar 6) (tCons (tVar 7) (tNil)))) (gName 9))
  (tSeq (tIfS (tOr (tTest (tOp rNe (tCB (rRepr K) (tCons (tCall (spExchanged K c_BadHolder) [] E0 (tCons (tVar 3) (tCons (tVar 4) (tNil)))) (tNil))) (tCB (rRepr K) (tCons (tVar 9) (tNil))))) (tTest (tOp (rNeD K) (tKw 2 (spExchanged K c_BadHolder) gkw_exchanged (fun _ => E0) tNil (tCons (tVar 4) (tCons (tVar 3) (tNil)))) (tVar 9))))
  (tRet (tC (.bl false)))
  (tNext))
  (tSeq (tIfS (tTest (tOp (rNeD K) (tCall (spExchanged K c_BadHolder) [] E0 (tCons (tVar 6) (tCons (tVar 7) (tNil)))) (tTup (tCons (tVar 3) (tCons (tVar 4) (tNil))))))
  (tRet (tC (.bl false)))
  (tNext))
  (tSeq (tAsg (tCall (spTurned K) [] E0 (tCons (tLst (tCons (tVar 3) (tCons (tVar 4) (tCons (tVar 5) (tNil))))) (tCons (tLst (tCons (tC (.int 0)) (tCons (tC (.int 1)) (tCons (tC (.int 0)) (tNil))))) (tNil)))) (gName 10))
  (tSeq (tIfS (tOr (tTest (tOp qIsN (tVar 10) (tC .non))) (tTest (tOp (rNeD K) (tVar 10) (tCall (spTurned K) [] E0 (tCons (tLst (tCons (tVar 3) (tCons (tVar 4) (tCons (tVar 5) (tNil))))) (tCons (tLst (tCons (tC (.int 1)) (tCons (tC (.int 0)) (tCons (tC (.int 1)) (tNil))))) (tNil)))))))
  (tRet (tC (.bl false)))
  (tNext))
  (t_odd9 K))))))))
theorem prs_show {c u d x : Int} (h1 : c.natAbs < 2 ^ 1900) (h2 : u.natAbs < 2 ^ 1900) (h3 : d.natAbs < 2 ^ 1900) (h4 : x.natAbs < 2 ^ 1900) : (prs c u d x).showable = true := by
  show (PyData.showable (pr2 c u) && (PyData.showable (pr2 d x) && true)) = true
  rw [pr2_show h1 h2, pr2_show h3 h4] <;> rfl
def entD (e : Ent) : PyData := .tuple [pr2 e.c e.u, .int e.i, .int e.n]
def lineD (l : Ent × Ent × Ent) : PyData := .list [entD l.1, entD l.2.1, entD l.2.2]
theorem dp_ent {K : PySem.W.Frag} {H : Hp} {p : Addr} {e : Ent} (h : EntAt H p e) : Dp K H (.ref p) (entD e) := by
  obtain ⟨a, h1, h2⟩ := h
  exact .tup (SqT.of h1) (.cons (dp_pr2 h2) (.cons (.int _) (.cons (.int _) .nil)))
theorem dp_line {K : PySem.W.Frag} {H : Hp} {r : Addr} {l : Ent × Ent × Ent} (h : LineAt H r l) : Dp K H (.ref r) (lineD l) := by
  obtain ⟨p1, p2, p3, h0, h1, h2, h3⟩ := h
  exact .lst (SqL.of h0) (.cons (dp_ent h1) (.cons (dp_ent h2) (.cons (dp_ent h3) .nil)))
theorem line_shaped (l : Ent × Ent × Ent) : SeqAt.shaped (lineD l) = true := shaped_list (by rfl) (by simp [entD, pr2, PyData.depth, PyData.depthAll])
theorem turn9_ok {K : PySem.W.Frag} {C : Addr} {H : Hp} {d g c : Addr} {b : Nat} {w0 w2 w3 w4 w5 w6 w7 w8 w9 w10 w11 w12 : Option V} {N N2 N3 : L2.St → Hp → Prop} {R : VK} (S : StB H d g c (b + 13))
    (hN : ∀ x3 x4 x5 x6 x7 x8 x9 x10 x11 x12 H', StB H' d g c b → N [w0, some (.ref d), w2, x3, x4, x5, x6, x7, x8, x9, x10, x11, x12] H') :
    t_turn9 K C { nx := N, rt := R, bk := N2, ct := N3 } [w0, some (.ref d), w2, w3, w4, w5, w6, w7, w8, w9, w10, w11, w12] H := by
  -- three holders
  refine ⟨_, rfl, d, g, c, b + 9, rfl, S, fun p1 m1 n1 H1 m1a m1b n1a n1b d1 g1 P1 S1 q1 => ?_⟩
  refine ⟨_, rfl, d, g, c, b + 5, rfl, S1, fun p2 m2 n2 H2 m2a m2b n2a n2b d2 g2 P2 S2 q2 => ?_⟩
  refine ⟨_, rfl, d, g, c, b + 1, rfl, S2, fun p3 m3 n3 H3 m3a m3b n3a n3b d3 g3 P3 S3 q3 => ⟨_, _, _, rfl, ?_⟩⟩
  replace P1 := q3 _ _ d1 g1 (q2 _ _ d1 g1 P1)
  replace P2 := q3 _ _ d2 g2 P2
  clear q1 q2 q3 S S1 S2
  have ok : okN m1 n1 m2 n2 := ⟨⟨m1a, m1b⟩, ⟨n1a, n1b⟩, ⟨m2a, m2b⟩, ⟨n2a, n2b⟩⟩
  have okl : okL (⟨m1, n1, 0, 0⟩, ⟨m2, n2, 1, 0⟩, ⟨m3, n3, 2, 0⟩) := ⟨⟨⟨m1a, m1b⟩, n1a, n1b⟩, ⟨⟨m2a, m2b⟩, n2a, n2b⟩, ⟨⟨m3a, m3b⟩, n3a, n3b⟩⟩
  obtain ⟨b1, b2, b3, b4⟩ := back_ok ok
  have hv1 : holdO (some [V.int m1, .int n1]) = true := holdO_ok ⟨⟨m1a, m1b⟩, n1a, n1b⟩
  have hv2 : holdO (some [V.int m2, .int n2]) = true := holdO_ok ⟨⟨m2a, m2b⟩, n2a, n2b⟩
  have no : (holdO (some [V.int m1, .int n1]) && holdO (some [V.int m2, .int n2])) = true := by rw [hv1, hv2]; rfl
  -- new_one, new_two, up = _law_pair(one, two)
  refine ⟨_, rfl, _, rfl, p1, p2, m1, n1, m2, n2, rfl, SqT.of P1, SqT.of P2, fun t u v H4 _ _ _ s4 U4 V4 T4 => ?_⟩
  refine ⟨t, _, rfl, SqT.of T4, rfl, _, _, rfl, _, _, rfl, _, _, rfl, rfl, ?_⟩
  replace P1 := s4 _ _ P1
  replace P2 := s4 _ _ P2
  replace P3 := s4 _ _ P3
  have S4 := StB.same s4 S3
  clear S3
  -- due = (new_one, new_two)
  refine ⟨_, rfl, _, rfl, sz (by show 2 ≤ 1000; decide), fun e he => ?_⟩
  have s5 := same_new (o := .tup [.ref u, .ref v]) he
  have D5 : upd H4 e (.tup [.ref u, .ref v]) e = some (.tup [.ref u, .ref v]) := upd_same
  generalize upd H4 e (.tup [.ref u, .ref v]) = H5 at s5 D5 ⊢
  replace P1 := s5 _ _ P1
  replace P2 := s5 _ _ P2
  replace P3 := s5 _ _ P3
  replace U4 := s5 _ _ U4
  replace V4 := s5 _ _ V4
  have S5 := StB.same s5 S4
  clear S4
  have big : (2 : Nat) ^ 10 ≤ 2 ^ 1900 := Nat.pow_le_pow_right (by decide) (by decide)
  have hsh : (prs m2 (stC m1 n1 m2 n2) m1 (stL m1 n1 m2 n2)).showable = true := prs_show (by omega) (by have := b4.2.1; have := b4.1; omega) (by omega) (by have := b4.2.2.2; have := b4.2.2.1; omega)
  have hdep : (prs m2 (stC m1 n1 m2 n2) m1 (stL m1 n1 m2 n2)).depth ≤ 60 := by simp [prs, pr2, PyData.depth, PyData.depthAll]
  have hc : cost (prs m2 (stC m1 n1 m2 n2) m1 (stL m1 n1 m2 n2)) ≤ 1000000 := by simp [prs, pr2, cost, costAll]
  -- repr(exchanged(one, two)) != repr(due)
  refine ⟨_, rfl, _, rfl, _, _, _, _, rfl, val2_pr P1, val2_pr P2, fun z => (by rw [no] at z; cases z), ?_⟩
  rintro c' u' d' x' z1 z2 _ t6 a6 b6 H6 _ _ _ s6 A6 B6 T6
  cases z1
  cases z2
  have dA := dp_prs (K := K) A6 B6 T6
  have dB := dp_prs (K := K) (s6 _ _ U4) (s6 _ _ V4) (s6 _ _ D5)
  refine ⟨_, _, rfl, dA, hsh, hdep, repr_fit hsh dA hc, _, rfl, _, _, rfl, dB, hsh, hdep, repr_fit hsh dB hc, rfl, _, rfl, iteNS rfl ?_⟩
  -- exchanged(right=two, left=one) != due
  replace P1 := s6 _ _ P1
  replace P2 := s6 _ _ P2
  replace P3 := s6 _ _ P3
  replace U4 := s6 _ _ U4
  replace V4 := s6 _ _ V4
  replace D5 := s6 _ _ D5
  have S6 := StB.same s6 S5
  clear dA dB S5 A6 B6 T6
  refine ⟨_, rfl, _, rfl, rfl, _, _, _, _, rfl, val2_pr P1, val2_pr P2, fun z => (by rw [no] at z; cases z), ?_⟩
  rintro c' u' d' x' z1 z2 _ t7 a7 b7 H7 _ _ _ s7 A7 B7 T7
  cases z1
  cases z2
  refine ⟨_, rfl, _, _, dp_prs A7 B7 T7, dp_prs (s7 _ _ U4) (s7 _ _ V4) (s7 _ _ D5), prs_shaped _ _ _ _, prs_shaped _ _ _ _, _, rfl, iteNE (prs_shaped _ _ _ _) ?_⟩
  replace P1 := s7 _ _ P1
  replace P2 := s7 _ _ P2
  replace P3 := s7 _ _ P3
  replace U4 := s7 _ _ U4
  replace V4 := s7 _ _ V4
  have S7 := StB.same s7 S6
  clear S6 A7 B7 T7
  -- exchanged(new_one, new_two) != (one, two)
  have no2 : (holdO (some [V.int m2, .int (stC m1 n1 m2 n2)]) && holdO (some [V.int m1, .int (stL m1 n1 m2 n2)])) = true := by
    rw [holdO_ok ⟨b4.1, b4.2.1⟩, holdO_ok ⟨b4.2.2.1, b4.2.2.2⟩]
    rfl
  refine ⟨_, rfl, _, rfl, _, _, _, _, rfl, val2_pr U4, val2_pr V4, fun z => (by rw [no2] at z; cases z), ?_⟩
  rintro c' u' d' x' z1 z2 _ t8 a8 b8 H8 _ _ _ s8 A8 B8 T8
  cases z1
  cases z2
  rw [b1] at A8
  rw [b2] at B8
  replace P1 := s8 _ _ P1
  replace P2 := s8 _ _ P2
  replace P3 := s8 _ _ P3
  have S8 := StB.same s8 S7
  clear S7 U4 V4 D5
  refine ⟨_, rfl, _, rfl, sz (by show 2 ≤ 1000; decide), fun t9 ht9 => ?_⟩
  have s9 := same_new (o := .tup [.ref p1, .ref p2]) ht9
  have T9 : upd H8 t9 (.tup [.ref p1, .ref p2]) t9 = some (.tup [.ref p1, .ref p2]) := upd_same
  generalize upd H8 t9 (.tup [.ref p1, .ref p2]) = H9 at s9 T9 ⊢
  replace P1 := s9 _ _ P1
  replace P2 := s9 _ _ P2
  replace P3 := s9 _ _ P3
  have S9 := StB.same s9 S8
  clear S8
  refine ⟨_, _, dp_prs (s9 _ _ A8) (s9 _ _ B8) (s9 _ _ T8), dp_prs P1 P2 T9, prs_shaped _ _ _ _, prs_shaped _ _ _ _, _, rfl, iteNE (prs_shaped _ _ _ _) ?_⟩
  clear A8 B8 T8 T9
  -- found = _law_turned(..)
  refine ⟨_, rfl, _, rfl, _, rfl, sz (by show 3 ≤ 1000; decide), fun la hla => ?_⟩
  have s10 := same_new (o := .lst [.ref p1, .ref p2, .ref p3]) hla
  have L10 : upd H9 la (.lst [.ref p1, .ref p2, .ref p3]) la = some (.lst [.ref p1, .ref p2, .ref p3]) := upd_same
  generalize upd H9 la (.lst [.ref p1, .ref p2, .ref p3]) = H10 at s10 L10 ⊢
  refine ⟨sz (by show 3 ≤ 1000; decide), fun lo hlo => ?_⟩
  have s11 := same_new (o := .lst [.int 0, .int 1, .int 0]) hlo
  have O11 : upd H10 lo (.lst [.int 0, .int 1, .int 0]) lo = some (.lst [.int 0, .int 1, .int 0]) := upd_same
  generalize upd H10 lo (.lst [.int 0, .int 1, .int 0]) = H11 at s11 O11 ⊢
  replace P1 := s11 _ _ (s10 _ _ P1)
  replace P2 := s11 _ _ (s10 _ _ P2)
  replace P3 := s11 _ _ (s10 _ _ P3)
  have S11 := StB.same s11 (StB.same s10 S9)
  clear S9
  refine ⟨la, lo, p1, p2, p3, m1, n1, m2, n2, m3, n3, [0, 1, 0], rfl, s11 _ _ L10, O11, (by decide), P1, P2, P3, okl, fun r H12 hr s12 L12 => ?_⟩
  replace P1 := s12 _ _ P1
  replace P2 := s12 _ _ P2
  replace P3 := s12 _ _ P3
  have S12 := StB.same s12 S11
  clear S11 L10 O11
  -- found is None or found != _law_turned(..)
  refine ⟨_, rfl, rfl, _, rfl, iteF ?_⟩
  refine ⟨_, rfl, _, rfl, _, rfl, _, rfl, sz (by show 3 ≤ 1000; decide), fun la' hla => ?_⟩
  have s13 := same_new (o := .lst [.ref p1, .ref p2, .ref p3]) hla
  have L13 : upd H12 la' (.lst [.ref p1, .ref p2, .ref p3]) la' = some (.lst [.ref p1, .ref p2, .ref p3]) := upd_same
  generalize upd H12 la' (.lst [.ref p1, .ref p2, .ref p3]) = H13 at s13 L13 ⊢
  refine ⟨sz (by show 3 ≤ 1000; decide), fun lo' hlo => ?_⟩
  have s14 := same_new (o := .lst [.int 1, .int 0, .int 1]) hlo
  have O14 : upd H13 lo' (.lst [.int 1, .int 0, .int 1]) lo' = some (.lst [.int 1, .int 0, .int 1]) := upd_same
  generalize upd H13 lo' (.lst [.int 1, .int 0, .int 1]) = H14 at s14 O14 ⊢
  replace P1 := s14 _ _ (s13 _ _ P1)
  replace P2 := s14 _ _ (s13 _ _ P2)
  replace P3 := s14 _ _ (s13 _ _ P3)
  have S14 := StB.same s14 (StB.same s13 S12)
  have R14 := (L12.same s13).same s14
  clear S12 L12
  refine ⟨la', lo', p1, p2, p3, m1, n1, m2, n2, m3, n3, [1, 0, 1], rfl, s14 _ _ L13, O14, (by decide), P1, P2, P3, okl, fun r' H15 hr' s15 L15 => ?_⟩
  have S15 := StB.same s15 S14
  have R15 := R14.same s15
  have sm : turnsE [1, 0, 1] (⟨m1, n1, 0, 0⟩, ⟨m2, n2, 1, 0⟩, ⟨m3, n3, 2, 0⟩) = turnsE [0, 1, 0] (⟨m1, n1, 0, 0⟩, ⟨m2, n2, 1, 0⟩, ⟨m3, n3, 2, 0⟩) := (turned_same _ _ _ okl.1 okl.2.1 okl.2.2 rfl rfl rfl).symm
  rw [sm] at L15
  generalize turnsE [0, 1, 0] (⟨m1, n1, 0, 0⟩, ⟨m2, n2, 1, 0⟩, ⟨m3, n3, 2, 0⟩) = ll at R15 L15
  refine ⟨_, _, dp_line R15, dp_line L15, line_shaped _, line_shaped _, _, rfl, iteNE (line_shaped _) ?_⟩
  -- the odd ones
  show t_odd9 K _ [w0, some (.ref d), w2, some (.ref p1), some (.ref p2), some (.ref p3), some (.ref u), some (.ref v), _, some (.ref e), some (.ref r), w11, w12] H15
  exact odd9_ok S15 (s15 _ _ P1) (s15 _ _ P2) d1 g1 d2 g2 fun _ _ H' S' => hN _ _ _ _ _ _ _ _ _ _ H' S'
def t_law09 (K : PySem.W.Frag) (c_BadHolder : Addr) : TS := tSeq (tAsg (tCall (spBegun K) [] E0 (tCons (tVar 0) (tNil))) (gName 1))
  (tSeq (tFor (iRng1 (tCons (tOp qAdd (tC (.int 10)) (tCB qMin2 (tCons (tCB (qLen K) (tCons (tVar 0) (tNil))) (tCons (tC (.int 30)) (tNil))))) (tNil))) (gName 2)
  (t_turn9 K c_BadHolder))
  (tRet (tC (.bl true))))
theorem pure_law09 {K : PySem.W.Frag} {C : Addr} (vs : List V) (H : Hp) (Q : VK) (E : XK) (h : spLaw K vs H Q E) : t_law09 K C { nx := fun _ H' => Q .non H', rt := Q } (start ["script", "state", "turn", "one", "two", "three", "new_one", "new_two", "up", "due", "found", "odd", "bad"] vs) H := by
  obtain ⟨a, ns, rfl, hL, hlen, k⟩ := h
  refine ⟨_, rfl, a, ns, rfl, hL, hlen, fun d g c H1 S1 e1 _ _ _ => ?_⟩
  have hL1 : SqL K H1 a (ns.map V.int) := Same.seq e1 hL
  refine ⟨_, rfl, a, _, rfl, .inl hL1, _, _, rfl, _, _, rfl, rfl, _, rfl, ?_, ?_, ?_⟩
  · show -(2 ^ 62) ≤ 10 + (if (30 : Int) < ((ns.map V.int).length : Int) then 30 else ((ns.map V.int).length : Int))
    split <;> omega
  · show 10 + (if (30 : Int) < ((ns.map V.int).length : Int) then 30 else ((ns.map V.int).length : Int)) < 2 ^ 62
    rw [List.length_map]
    split <;> omega
  have hn : (10 + (if (30 : Int) < ((ns.map V.int).length : Int) then 30 else ((ns.map V.int).length : Int))).toNat ≤ 60 := by
    split <;> omega
  generalize (10 + (if (30 : Int) < ((ns.map V.int).length : Int) then 30 else ((ns.map V.int).length : Int))).toNat = n at hn
  refine for_range (lo := 0) (n := n) (fun i σ H2 => StB H2 d g c (2000 - 13 * i) ∧ ∃ x2 x3 x4 x5 x6 x7 x8 x9 x10 x11 x12, σ = [some (.ref a), some (.ref d), x2, x3, x4, x5, x6, x7, x8, x9, x10, x11, x12]) ⟨S1.mono (by decide), _, _, _, _, _, _, _, _, _, _, _, rfl⟩ ?_ ?_
  · rintro i σ H2 hi ⟨S2, x2, x3, x4, x5, x6, x7, x8, x9, x10, x11, x12, rfl⟩
    have e : 2000 - 13 * i = (2000 - 13 * (i + 1)) + 13 := by omega
    rw [e] at S2
    show t_turn9 K C _ [some (.ref a), some (.ref d), some (.int (0 + i)), x3, x4, x5, x6, x7, x8, x9, x10, x11, x12] H2
    exact turn9_ok S2 fun y3 y4 y5 y6 y7 y8 y9 y10 y11 y12 H' S' => ⟨S', _, _, _, _, _, _, _, _, _, _, _, rfl⟩
  · rintro σ H2 _
    exact k H2
end SR

set_option Elab.async false
set_option linter.all false
set_option maxRecDepth 100000
set_option maxHeartbeats 4000000
/-! K09G -/
namespace SR
open PySem L2
/-- by keywords alone; their number apart -/
theorem pe_kK1 {X : Cx} {CX : CXT} {j k n : Nat} {x : Str} {ps ks : List Str} {sp : Sp} {gV : List V → List V → List V} {kws : List Keyword} {tk : TA} {p pos : Pos} {E : L2.St → XK} (c : KnK X.prog X.w X.K X.mg X.base CX k x ps sp 0 ks gV) (hr : Room j X.A) (hk : k ≤ j) (hg : Gl X x) (hx : ∀ σ, PassesAt CX X σ (E σ)) (hkw : PK X kws tk)
    (hn : ks.length = n := by rfl) (hall : (backToKw pos (keywordEach kws X.env)).all (·.1.isSome) = true := by rfl) (hks : (backToKw pos (keywordEach kws X.env)).filterMap (·.1) = ks := by rfl) (hdb : (x == ("__debug__" : Str)) = false := by decide)
    (hpl : ((backTo pos (starEach [] X.env)).any (·.1) || (backToKw pos (keywordEach kws X.env)).any (·.1.isNone)) = false := by rfl) :
    PE X (.Call (.Name x p) [] kws pos) (tKw n sp gV E tNil tk) := by
  subst hn
  exact pe_kK0 c hr hk hg hx hkw hall hks hdb hpl
end SR

set_option Elab.async false
set_option linter.all false
set_option maxRecDepth 100000
set_option maxHeartbeats 8000000
namespace SR
open PySem PySem.Spec PyProof.Rows L2
def topS (i : Nat) : Stmt := PySem.Challenge.pw_scooprow_k09_holders_exchanged.main.body.getD i (.Pass ⟨0, 0, 0, 0⟩)
abbrev s_is_integer : Stmt := topS 5
abbrev s_is_between : Stmt := topS 6
abbrev s_is_pair : Stmt := topS 7
abbrev s_is_capacity : Stmt := topS 10
abbrev s_handled : Stmt := topS 11
abbrev s_passed : Stmt := topS 12
abbrev s_is_holder : Stmt := topS 14
abbrev s_exchanged : Stmt := topS 15
abbrev s_begun : Stmt := topS 17
abbrev s_mixed : Stmt := topS 18
abbrev s_take : Stmt := topS 19
abbrev s_pick : Stmt := topS 20
abbrev s_lpassed : Stmt := topS 21
abbrev s_holder : Stmt := topS 22
abbrev s_pair : Stmt := topS 23
abbrev s_turned : Stmt := topS 24
abbrev s_is_refused : Stmt := topS 25
abbrev s_law : Stmt := topS 26
theorem sc_is_integer : FnScope ["value"] ["value"] (defScope s_is_integer) := ⟨rfl, rfl, rfl, by decide +kernel, rfl, by decide +kernel, by decide +kernel⟩
theorem sc_is_between : FnScope ["value", "low", "high"] ["value", "low", "high"] (defScope s_is_between) := ⟨rfl, rfl, rfl, by decide +kernel, rfl, by decide +kernel, by decide +kernel⟩
theorem sc_is_pair : FnScope ["value"] ["value"] (defScope s_is_pair) := ⟨rfl, rfl, rfl, by decide +kernel, rfl, by decide +kernel, by decide +kernel⟩
theorem sc_is_capacity : FnScope ["value"] ["value"] (defScope s_is_capacity) := ⟨rfl, rfl, rfl, by decide +kernel, rfl, by decide +kernel, by decide +kernel⟩
theorem sc_handled : FnScope ["capacity", "load", "box_capacity", "count"] ["capacity", "load", "box_capacity", "count"] (defScope s_handled) := ⟨rfl, rfl, rfl, by decide +kernel, rfl, by decide +kernel, by decide +kernel⟩
theorem sc_passed : FnScope ["capacity", "load", "box_capacity", "count", "up", "down"] ["capacity", "load", "box_capacity", "count"] (defScope s_passed) := ⟨rfl, rfl, rfl, by decide +kernel, rfl, by decide +kernel, by decide +kernel⟩
theorem sc_is_holder : FnScope ["value"] ["value"] (defScope s_is_holder) := ⟨rfl, rfl, rfl, by decide +kernel, rfl, by decide +kernel, by decide +kernel⟩
theorem sc_exchanged : FnScope ["left", "right", "count", "load"] ["left", "right"] (defScope s_exchanged) := ⟨rfl, rfl, rfl, by decide +kernel, rfl, by decide +kernel, by decide +kernel⟩
theorem sc_begun : FnScope ["script", "wide", "cell"] ["script"] (defScope s_begun) := ⟨rfl, rfl, rfl, by decide +kernel, rfl, by decide +kernel, by decide +kernel⟩
theorem sc_mixed : FnScope ["state", "turn", "found", "prime", "blend", "cell"] ["state"] (defScope s_mixed) := ⟨rfl, rfl, rfl, by decide +kernel, rfl, by decide +kernel, by decide +kernel⟩
theorem sc_take : FnScope ["state", "size", "found"] ["state", "size"] (defScope s_take) := ⟨rfl, rfl, rfl, by decide +kernel, rfl, by decide +kernel, by decide +kernel⟩
theorem sc_pick : FnScope ["state", "some"] ["state", "some"] (defScope s_pick) := ⟨rfl, rfl, rfl, by decide +kernel, rfl, by decide +kernel, by decide +kernel⟩
theorem sc_lpassed : FnScope ["most", "burden", "size", "amount", "up", "down"] ["most", "burden", "size", "amount"] (defScope s_lpassed) := ⟨rfl, rfl, rfl, by decide +kernel, rfl, by decide +kernel, by decide +kernel⟩
theorem sc_holder : FnScope ["state", "most"] ["state"] (defScope s_holder) := ⟨rfl, rfl, rfl, by decide +kernel, rfl, by decide +kernel, by decide +kernel⟩
theorem sc_pair : FnScope ["one", "two", "amount", "burden"] ["one", "two"] (defScope s_pair) := ⟨rfl, rfl, rfl, by decide +kernel, rfl, by decide +kernel, by decide +kernel⟩
theorem sc_turned : FnScope ["some", "order", "line", "at", "one", "first", "gained", "two", "second", "taken", "new_one", "new_two", "up", "thing"] ["some", "order"] (defScope s_turned) := ⟨rfl, rfl, rfl, by decide +kernel, rfl, by decide +kernel, by decide +kernel⟩
theorem sc_is_refused : FnScope ["one", "two", "caught", "error"] ["one", "two"] (defScope s_is_refused) := ⟨rfl, rfl, rfl, by decide +kernel, rfl, by decide +kernel, by decide +kernel⟩
theorem sc_law : FnScope ["script", "state", "turn", "one", "two", "three", "new_one", "new_two", "up", "due", "found", "odd", "bad"] ["script"] (defScope s_law) := ⟨rfl, rfl, rfl, by decide +kernel, rfl, by decide +kernel, by decide +kernel⟩
structure Tx (K : PySem.W.Frag) (mg : Str → Option Value) (c_BadHolder : Addr) (c_BadNumber : Addr) (c_ScoopError : Addr) : Prop where
  n_int : mg "int" = none
  n_list : mg "list" = none
  n_min : mg "min" = none
  n_len : mg "len" = none
  n_isinstance : mg "isinstance" = none
  n_bool : mg "bool" = none
  n_tuple : mg "tuple" = none
  n_str : mg "str" = none
  n_range : mg "range" = none
  n_repr : mg "repr" = none
  n_enumerate : mg "enumerate" = none
  c_GREATEST_CAPACITY : ∃ u, mg "GREATEST_CAPACITY" = some u ∧ RelV (.int 99) u
  g_BadHolder : mg "BadHolder" = some (.ref c_BadHolder)
  g_BadNumber : mg "BadNumber" = some (.ref c_BadNumber)
  g_ScoopError : mg "ScoopError" = some (.ref c_ScoopError)
  x_BadHolder : PySem.W.excIn K c_BadHolder He.veBase "ValueError.__new__" = true
  k_BadHolder : PySem.W.keepIn K (.ref c_BadHolder) = true
  s_BadHolder : PySem.W.subIn K (.ref c_BadHolder) (.type "BaseException") = some true
  t_BadHolder : PySem.W.typeIn K (.ref c_BadHolder) = some (.type "type")
  x_BadNumber : PySem.W.excIn K c_BadNumber He.veBase "ValueError.__new__" = true
  k_BadNumber : PySem.W.keepIn K (.ref c_BadNumber) = true
  s_BadNumber : PySem.W.subIn K (.ref c_BadNumber) (.type "BaseException") = some true
  t_BadNumber : PySem.W.typeIn K (.ref c_BadNumber) = some (.type "type")
section
variable {P : Program} {w : World} {K : PySem.W.Frag} {mg : Str → Option Value} {base : Heap} {c_BadHolder : Addr} {c_BadNumber : Addr} {c_ScoopError : Addr}
theorem fn_is_integer (T : Tx K mg c_BadHolder c_BadNumber c_ScoopError) {f : Addr} {fd : FuncData} (F : FunD K "is_integer" "is_integer" (defArgs s_is_integer) (defBody s_is_integer) (defScope s_is_integer) [] [] f fd) :
    FnOk P w K mg base CX0 1 f fd ["value"] (spIsInt K) := by
  have D : ∀ (cdv : Value) (A : Around) (outer : List Env) (s : Shared) (H : Hp) (vs : List V) (Q : VK) (E : XK), Room 0 (A.deeper (envOfC "is_integer" (defScope s_is_integer) s.heap.objs.size f cdv)) → (spIsInt K) vs H Q E →
      ∃ t, PSs (cxOf CX0 P w K mg base ["value"] "is_integer" (defScope s_is_integer) f cdv A outer s H E) (defBody s_is_integer) t ∧ t { nx := fun _ H' => Q .non H', rt := Q } (start ["value"] vs) H := by
    intro cdv A outer s H vs Q E hr h
    refine ⟨t_is_integer K, PSs.nox ?_, pure_is_integer vs H Q E h⟩
    exact pss_one (ps_ret (pe_and (pe_callB call_isi (by rfl) T.n_isinstance PyProof.Rows.boot_isinstance (pa_cons (pv 0) (pa_cons (pe_bltn (v := .ty "int") (by rfl) T.n_int (by decide +kernel) rfl) pa_nil))) (pe_one (pe_not (pe_callB call_isi (by rfl) T.n_isinstance PyProof.Rows.boot_isinstance (pa_cons (pv 0) (pa_cons (pe_bltn (v := .ty "bool") (by rfl) T.n_bool (by decide +kernel) rfl) pa_nil)))))))
  exact F.ok sc_is_integer (fun vs H Q E h => by
    obtain ⟨_, _, rfl, _⟩ := h
    rfl) D
theorem fn_is_between (T : Tx K mg c_BadHolder c_BadNumber c_ScoopError) (C_is_integer : Kn P w K mg base CX0 1 "is_integer" ["value"] (spIsInt K)) {f : Addr} {fd : FuncData} (F : FunD K "is_between" "is_between" (defArgs s_is_between) (defBody s_is_between) (defScope s_is_between) [] [] f fd) :
    FnOk P w K mg base CX0 2 f fd ["value", "low", "high"] (spBetween K) := by
  have D : ∀ (cdv : Value) (A : Around) (outer : List Env) (s : Shared) (H : Hp) (vs : List V) (Q : VK) (E : XK), Room 1 (A.deeper (envOfC "is_between" (defScope s_is_between) s.heap.objs.size f cdv)) → (spBetween K) vs H Q E →
      ∃ t, PSs (cxOf CX0 P w K mg base ["value", "low", "high"] "is_between" (defScope s_is_between) f cdv A outer s H E) (defBody s_is_between) t ∧ t { nx := fun _ H' => Q .non H', rt := Q } (start ["value", "low", "high"] vs) H := by
    intro cdv A outer s H vs Q E hr h
    refine ⟨t_is_between K, PSs.nox ?_, pure_is_between vs H Q E h⟩
    exact pss_one (ps_ret (pe_and (pe_k C_is_integer hr (by decide) rfl pass0 (pa_cons (pv 0) (pa_nil))) (pe_one (pe_chain op_le op_le (pv 1) (pv 0) (pv 2)))))
  exact F.ok sc_is_between (fun vs H Q E h => by
    obtain ⟨_, _, _, _, rfl, _⟩ := h
    rfl) D
theorem fn_is_pair (T : Tx K mg c_BadHolder c_BadNumber c_ScoopError) (C_is_integer : Kn P w K mg base CX0 1 "is_integer" ["value"] (spIsInt K)) {f : Addr} {fd : FuncData} (F : FunD K "is_pair" "is_pair" (defArgs s_is_pair) (defBody s_is_pair) (defScope s_is_pair) [] [] f fd) :
    FnOk P w K mg base CX0 2 f fd ["value"] (spIsPair K) := by
  have D : ∀ (cdv : Value) (A : Around) (outer : List Env) (s : Shared) (H : Hp) (vs : List V) (Q : VK) (E : XK), Room 1 (A.deeper (envOfC "is_pair" (defScope s_is_pair) s.heap.objs.size f cdv)) → (spIsPair K) vs H Q E →
      ∃ t, PSs (cxOf CX0 P w K mg base ["value"] "is_pair" (defScope s_is_pair) f cdv A outer s H E) (defBody s_is_pair) t ∧ t { nx := fun _ H' => Q .non H', rt := Q } (start ["value"] vs) H := by
    intro cdv A outer s H vs Q E hr h
    refine ⟨t_is_pair K, PSs.nox ?_, pure_is_pair vs H Q E h⟩
    exact pss_cons (ps_if (PW.pt (pw_or (pt_not (pt_val (pe_callB call_isi (by rfl) T.n_isinstance PyProof.Rows.boot_isinstance (pa_cons (pv 0) (pa_cons (pe_bltn (v := .ty "tuple") (by rfl) T.n_tuple (by decide +kernel) rfl) pa_nil))))) (pw_or1 (pt_cmpR op_ne (pe_callB call_len_seq (by rfl) T.n_len PySem.boot_len (pa_cons (pv 0) (pa_nil))) (pe_int) (nomark _)))))
      (pss_one (ps_ret (pe_bl)))
      (pss_nil))
      (pss_one (ps_ret (pe_and (pe_k C_is_integer hr (by decide) rfl pass0 (pa_cons (pe_ix ix_tup (pv 0) (pe_int) (fun _ _ => rfl)) (pa_nil))) (pe_one (pe_k C_is_integer hr (by decide) rfl pass0 (pa_cons (pe_ix ix_tup (pv 0) (pe_int) (fun _ _ => rfl)) (pa_nil)))))))
  exact F.ok sc_is_pair (fun vs H Q E h => by
    obtain ⟨_, _, rfl, _⟩ := h
    rfl) D
theorem fn_is_capacity (T : Tx K mg c_BadHolder c_BadNumber c_ScoopError) (C_is_between : Kn P w K mg base CX0 2 "is_between" ["value", "low", "high"] (spBetween K)) {f : Addr} {fd : FuncData} (F : FunD K "is_capacity" "is_capacity" (defArgs s_is_capacity) (defBody s_is_capacity) (defScope s_is_capacity) [] [] f fd) :
    FnOk P w K mg base CX0 3 f fd ["value"] (spCapacity K) := by
  have D : ∀ (cdv : Value) (A : Around) (outer : List Env) (s : Shared) (H : Hp) (vs : List V) (Q : VK) (E : XK), Room 2 (A.deeper (envOfC "is_capacity" (defScope s_is_capacity) s.heap.objs.size f cdv)) → (spCapacity K) vs H Q E →
      ∃ t, PSs (cxOf CX0 P w K mg base ["value"] "is_capacity" (defScope s_is_capacity) f cdv A outer s H E) (defBody s_is_capacity) t ∧ t { nx := fun _ H' => Q .non H', rt := Q } (start ["value"] vs) H := by
    intro cdv A outer s H vs Q E hr h
    refine ⟨t_is_capacity K, PSs.nox ?_, pure_is_capacity vs H Q E h⟩
    exact pss_one (ps_ret (pe_k C_is_between hr (by decide) rfl pass0 (pa_cons (pv 0) (pa_cons (pe_int) (pa_cons (pe_gl (by rfl) T.c_GREATEST_CAPACITY) (pa_nil))))))
  exact F.ok sc_is_capacity (fun vs H Q E h => by
    obtain ⟨_, _, rfl, _⟩ := h
    rfl) D
theorem fn_handled (T : Tx K mg c_BadHolder c_BadNumber c_ScoopError) {f : Addr} {fd : FuncData} (F : FunD K "handled" "handled" (defArgs s_handled) (defBody s_handled) (defScope s_handled) [] [] f fd) :
    FnOk P w K mg base CX0 1 f fd ["capacity", "load", "box_capacity", "count"] spHandled := by
  have D : ∀ (cdv : Value) (A : Around) (outer : List Env) (s : Shared) (H : Hp) (vs : List V) (Q : VK) (E : XK), Room 0 (A.deeper (envOfC "handled" (defScope s_handled) s.heap.objs.size f cdv)) → spHandled vs H Q E →
      ∃ t, PSs (cxOf CX0 P w K mg base ["capacity", "load", "box_capacity", "count"] "handled" (defScope s_handled) f cdv A outer s H E) (defBody s_handled) t ∧ t { nx := fun _ H' => Q .non H', rt := Q } (start ["capacity", "load", "box_capacity", "count"] vs) H := by
    intro cdv A outer s H vs Q E hr h
    refine ⟨t_handled, PSs.nox ?_, pure_handled vs H Q E h⟩
    exact pss_one (ps_ret (pe_tup (pa_cons (pe_callB (call_min2 rfl) (by rfl) T.n_min (by decide +kernel) (pa_cons (pe_op op_sub (pv 0) (pv 1)) (pa_cons (pv 3) (pa_nil)))) (pa_cons (pe_callB (call_min2 rfl) (by rfl) T.n_min (by decide +kernel) (pa_cons (pv 1) (pa_cons (pe_op op_sub (pv 2) (pv 3)) (pa_nil)))) (pa_nil)))))
  exact F.ok sc_handled (fun vs H Q E h => by
    obtain ⟨_, _, _, _, rfl, _⟩ := h
    rfl) D
theorem fn_passed (T : Tx K mg c_BadHolder c_BadNumber c_ScoopError) (C_is_capacity : Kn P w K mg base CX0 3 "is_capacity" ["value"] (spCapacity K)) (C_is_between : Kn P w K mg base CX0 2 "is_between" ["value", "low", "high"] (spBetween K)) (C_handled : Kn P w K mg base CX0 1 "handled" ["capacity", "load", "box_capacity", "count"] spHandled) {f : Addr} {fd : FuncData} (F : FunD K "passed" "passed" (defArgs s_passed) (defBody s_passed) (defScope s_passed) [] [] f fd) :
    FnOk P w K mg base (L2.CX P w) 4 f fd ["capacity", "load", "box_capacity", "count"] (spPassed K c_BadNumber) := by
  have D : ∀ (cdv : Value) (A : Around) (outer : List Env) (s : Shared) (H : Hp) (vs : List V) (Q : VK) (E : XK), Room 3 (A.deeper (envOfC "passed" (defScope s_passed) s.heap.objs.size f cdv)) → (spPassed K c_BadNumber) vs H Q E →
      ∃ t, PSs (cxOf (L2.CX P w) P w K mg base ["capacity", "load", "box_capacity", "count", "up", "down"] "passed" (defScope s_passed) f cdv A outer s H E) (defBody s_passed) t ∧ t { nx := fun _ H' => Q .non H', rt := Q } (start ["capacity", "load", "box_capacity", "count", "up", "down"] vs) H := by
    intro cdv A outer s H vs Q E hr h
    refine ⟨t_passed K c_BadNumber E, ?_, pure_passed vs H Q E h⟩
    exact pss_cons (ps_if (PW.pt (pw_or (pt_not (pt_val (pe_k C_is_capacity hr (by decide) rfl pass0 (pa_cons (pv 0) (pa_nil))))) (pw_or1 (pt_not (pt_val (pe_k C_is_between hr (by decide) rfl pass0 (pa_cons (pv 1) (pa_cons (pe_int) (pa_cons (pv 0) (pa_nil))))))))))
      (pss_one (ps_raise rfl (takes_of rfl rfl rfl rfl) (pmk_own PySem.F.excBase_ValueError T.x_BadNumber T.g_BadNumber T.k_BadNumber (raises_own T.s_BadNumber T.t_BadNumber) (by exact rfl))))
      (pss_nil))
      (pss_cons (ps_if (PW.pt (pw_or (pt_not (pt_val (pe_k C_is_capacity hr (by decide) rfl pass0 (pa_cons (pv 2) (pa_nil))))) (pw_or1 (pt_not (pt_val (pe_k C_is_between hr (by decide) rfl pass0 (pa_cons (pv 3) (pa_cons (pe_int) (pa_cons (pv 2) (pa_nil))))))))))
      (pss_one (ps_raise rfl (takes_of rfl rfl rfl rfl) (pmk_own PySem.F.excBase_ValueError T.x_BadNumber T.g_BadNumber T.k_BadNumber (raises_own T.s_BadNumber T.t_BadNumber) (by exact rfl))))
      (pss_nil))
      (pss_cons (ps_asg (pe_k C_handled hr (by decide) rfl pass0 (pa_cons (pv 0) (pa_cons (pv 1) (pa_cons (pv 2) (pa_cons (pv 3) (pa_nil)))))) (pg_tup rfl (pgs_cons (pg_name (i := 4) sc_passed.nd rfl (Or.inl rfl)) (pgs_cons (pg_name (i := 5) sc_passed.nd rfl (Or.inl rfl)) (pgs_nil)))))
      (pss_one (ps_ret (pe_tup (pa_cons (pe_op op_add (pe_op op_sub (pv 3) (pv 4)) (pv 5)) (pa_cons (pe_op op_sub (pe_op op_add (pv 1) (pv 4)) (pv 5)) (pa_nil))))))))
  exact F.ok sc_passed (fun vs H Q E h => by
    obtain ⟨_, _, _, _, _, _, _, _, rfl, _⟩ := h
    rfl) D
theorem fn_is_holder (T : Tx K mg c_BadHolder c_BadNumber c_ScoopError) (C_is_pair : Kn P w K mg base CX0 2 "is_pair" ["value"] (spIsPair K)) (C_is_capacity : Kn P w K mg base CX0 3 "is_capacity" ["value"] (spCapacity K)) (C_is_between : Kn P w K mg base CX0 2 "is_between" ["value", "low", "high"] (spBetween K)) {f : Addr} {fd : FuncData} (F : FunD K "_is_holder" "_is_holder" (defArgs s_is_holder) (defBody s_is_holder) (defScope s_is_holder) [] [] f fd) :
    FnOk P w K mg base CX0 4 f fd ["value"] (spIsHolder K) := by
  have D : ∀ (cdv : Value) (A : Around) (outer : List Env) (s : Shared) (H : Hp) (vs : List V) (Q : VK) (E : XK), Room 3 (A.deeper (envOfC "_is_holder" (defScope s_is_holder) s.heap.objs.size f cdv)) → (spIsHolder K) vs H Q E →
      ∃ t, PSs (cxOf CX0 P w K mg base ["value"] "_is_holder" (defScope s_is_holder) f cdv A outer s H E) (defBody s_is_holder) t ∧ t { nx := fun _ H' => Q .non H', rt := Q } (start ["value"] vs) H := by
    intro cdv A outer s H vs Q E hr h
    refine ⟨t_is_holder K, PSs.nox ?_, pure_is_holder vs H Q E h⟩
    exact pss_one (ps_ret (pe_and (pe_k C_is_pair hr (by decide) rfl pass0 (pa_cons (pv 0) (pa_nil))) (pe_and (pe_k C_is_capacity hr (by decide) rfl pass0 (pa_cons (pe_ix ix_tup (pv 0) (pe_int) (fun _ _ => rfl)) (pa_nil))) (pe_one (pe_k C_is_between hr (by decide) rfl pass0 (pa_cons (pe_ix ix_tup (pv 0) (pe_int) (fun _ _ => rfl)) (pa_cons (pe_int) (pa_cons (pe_ix ix_tup (pv 0) (pe_int) (fun _ _ => rfl)) (pa_nil)))))))))
  exact F.ok sc_is_holder (fun vs H Q E h => by
    obtain ⟨_, _, rfl, _⟩ := h
    rfl) D
theorem fn_exchanged (T : Tx K mg c_BadHolder c_BadNumber c_ScoopError) (C_is_holder : Kn P w K mg base CX0 4 "_is_holder" ["value"] (spIsHolder K)) (C_passed : Kn P w K mg base (L2.CX P w) 4 "passed" ["capacity", "load", "box_capacity", "count"] (spPassed K c_BadNumber)) {f : Addr} {fd : FuncData} (F : FunD K "exchanged" "exchanged" (defArgs s_exchanged) (defBody s_exchanged) (defScope s_exchanged) [] [] f fd) :
    FnOk P w K mg base (L2.CX P w) 5 f fd ["left", "right"] (spExchanged K c_BadHolder) := by
  have D : ∀ (cdv : Value) (A : Around) (outer : List Env) (s : Shared) (H : Hp) (vs : List V) (Q : VK) (E : XK), Room 4 (A.deeper (envOfC "exchanged" (defScope s_exchanged) s.heap.objs.size f cdv)) → (spExchanged K c_BadHolder) vs H Q E →
      ∃ t, PSs (cxOf (L2.CX P w) P w K mg base ["left", "right", "count", "load"] "exchanged" (defScope s_exchanged) f cdv A outer s H E) (defBody s_exchanged) t ∧ t { nx := fun _ H' => Q .non H', rt := Q } (start ["left", "right", "count", "load"] vs) H := by
    intro cdv A outer s H vs Q E hr h
    refine ⟨t_exchanged K c_BadHolder c_BadNumber E, ?_, pure_exchanged vs H Q E h⟩
    exact pss_cons (ps_if (PW.pt (pw_or (pt_not (pt_val (pe_k C_is_holder hr (by decide) rfl pass0 (pa_cons (pv 0) (pa_nil))))) (pw_or1 (pt_not (pt_val (pe_k C_is_holder hr (by decide) rfl pass0 (pa_cons (pv 1) (pa_nil))))))))
      (pss_one (ps_raise rfl (takes_of rfl rfl rfl rfl) (pmk_own PySem.F.excBase_ValueError T.x_BadHolder T.g_BadHolder T.k_BadHolder (raises_own T.s_BadHolder T.t_BadHolder) (by exact rfl))))
      (pss_nil))
      (pss_cons (ps_asg (pe_k C_passed hr (by decide) rfl passL (pa_cons (pe_ix ix_tup (pv 0) (pe_int) (fun _ _ => rfl)) (pa_cons (pe_ix ix_tup (pv 0) (pe_int) (fun _ _ => rfl)) (pa_cons (pe_ix ix_tup (pv 1) (pe_int) (fun _ _ => rfl)) (pa_cons (pe_ix ix_tup (pv 1) (pe_int) (fun _ _ => rfl)) (pa_nil)))))) (pg_tup rfl (pgs_cons (pg_name (i := 2) sc_exchanged.nd rfl (Or.inl rfl)) (pgs_cons (pg_name (i := 3) sc_exchanged.nd rfl (Or.inl rfl)) (pgs_nil)))))
      (pss_one (ps_ret (pe_tup (pa_cons (pe_tup (pa_cons (pe_ix ix_tup (pv 1) (pe_int) (fun _ _ => rfl)) (pa_cons (pv 2) (pa_nil)))) (pa_cons (pe_tup (pa_cons (pe_ix ix_tup (pv 0) (pe_int) (fun _ _ => rfl)) (pa_cons (pv 3) (pa_nil)))) (pa_nil)))))))
  exact F.ok sc_exchanged (fun vs H Q E h => by
    obtain ⟨_, _, _, _, rfl, _⟩ := h
    rfl) D
theorem fn_begun (T : Tx K mg c_BadHolder c_BadNumber c_ScoopError) {f : Addr} {fd : FuncData} (F : FunD K "_law_begun" "_law_begun" (defArgs s_begun) (defBody s_begun) (defScope s_begun) [] [] f fd) :
    FnOk P w K mg base CX0 1 f fd ["script"] (spBegun K) := by
  have D : ∀ (cdv : Value) (A : Around) (outer : List Env) (s : Shared) (H : Hp) (vs : List V) (Q : VK) (E : XK), Room 0 (A.deeper (envOfC "_law_begun" (defScope s_begun) s.heap.objs.size f cdv)) → (spBegun K) vs H Q E →
      ∃ t, PSs (cxOf CX0 P w K mg base ["script", "wide", "cell"] "_law_begun" (defScope s_begun) f cdv A outer s H E) (defBody s_begun) t ∧ t { nx := fun _ H' => Q .non H', rt := Q } (start ["script", "wide", "cell"] vs) H := by
    intro cdv A outer s H vs Q E hr h
    refine ⟨t_begun K, PSs.nox ?_, pure_begun vs H Q E h⟩
    exact pss_cons (ps_setLc (i := 1) (own := [("cell", 2)]) (g := gName 2) (tt := tTest (tOp qGe (tVar 2) (tOp qPow (tC (.int 10)) (tC (.int 18))))) rfl sc_begun.nd rfl rfl (sw_true rfl rfl rfl (by decide +kernel)) (pi_list (pv 0)) (blkOk_by (own := [("cell", 2)]) (N := ["script", "wide", "cell"]) (sc := defScope s_begun) (by decide +kernel)) (fun _ _ _ _ _ => pg_name (i := 2) sc_begun.nd rfl (Or.inl rfl)) (fun _ _ _ _ _ => pts_one (pt_cmpR op_ge (pv 2) (pe_op op_pow (pe_int) (pe_int)) (nomark _))) (fun _ _ _ _ _ => pe_op op_sub (pv 2) (pe_op op_pow (pe_int) (pe_int))))
      (pss_one (ps_ret (pe_disp (pps_cons (pe_str) (pv 1) (pps_cons (pe_str) (pe_callTy call_list_of (by rfl) T.n_list (by decide +kernel) (pa_cons (pv 0) (pa_nil))) (pps_cons (pe_str) (pe_int) (pps_cons (pe_str) (pe_int) (pps_nil))))) (by rfl) (by rfl) (fun z => by cases z) (by decide))))
  exact F.ok sc_begun (fun vs H Q E h => by
    obtain ⟨_, _, rfl, _⟩ := h
    rfl) D
theorem fn_mixed (T : Tx K mg c_BadHolder c_BadNumber c_ScoopError) {f : Addr} {fd : FuncData} (F : FunD K "_law_mixed" "_law_mixed" (defArgs s_mixed) (defBody s_mixed) (defScope s_mixed) [] [] f fd) :
    FnOk P w K mg base CX0 1 f fd ["state"] spMixed := by
  have D : ∀ (cdv : Value) (A : Around) (outer : List Env) (s : Shared) (H : Hp) (vs : List V) (Q : VK) (E : XK), Room 0 (A.deeper (envOfC "_law_mixed" (defScope s_mixed) s.heap.objs.size f cdv)) → spMixed vs H Q E →
      ∃ t, PSs (cxOf CX0 P w K mg base ["state", "turn", "found", "prime", "blend", "cell"] "_law_mixed" (defScope s_mixed) f cdv A outer s H E) (defBody s_mixed) t ∧ t { nx := fun _ H' => Q .non H', rt := Q } (start ["state", "turn", "found", "prime", "blend", "cell"] vs) H := by
    intro cdv A outer s H vs Q E hr h
    refine ⟨t_mixed K, PSs.nox ?_, pure_mixed vs H Q E h⟩
    exact pss_cons (ps_set (i := 1) sc_mixed.nd rfl (Or.inl rfl) (pe_op op_add (pe_dget (hu_of hr) (pv 0) (pe_str) (fun _ _ => rfl)) (pe_int)))
      (pss_cons (ps_dput (hu_of hr) (pv 0) (pe_str) (pv 1) rfl)
      (pss_cons (ps_set (i := 2) sc_mixed.nd rfl (Or.inl rfl) (pe_int))
      (pss_cons (ps_for PassesOwn.never rfl (pi_list (pe_lst (pa_cons (pe_int) (pa_cons (pe_int) (pa_cons (pe_int) (pa_cons (pe_int) (pa_cons (pe_int) (pa_cons (pe_int) (pa_nil))))))))) (pg_name (i := 3) sc_mixed.nd rfl (Or.inl rfl))
      (pss_cons (ps_set (i := 4) sc_mixed.nd rfl (Or.inl rfl) (pe_op op_add (pe_op op_mul (pe_int) (pv 1)) (pe_op op_fdivN (pv 3) (pe_int))))
      (pss_cons (ps_for PassesOwn.never rfl (pi_list (pe_dget (hu_of hr) (pv 0) (pe_str) (fun _ _ => rfl))) (pg_name (i := 5) sc_mixed.nd rfl (Or.inl rfl))
      (pss_one (ps_set (i := 4) sc_mixed.nd rfl (Or.inl rfl) (pe_op op_modN (pe_callTy call_int1 (by rfl) T.n_int (by decide +kernel) (pa_cons (pe_op op_add (pe_op op_mul (pv 4) (pe_int)) (pv 5)) (pa_nil))) (pv 3)))))
      (pss_one (ps_set (i := 2) sc_mixed.nd rfl (Or.inl rfl) (pe_op op_add (pe_op op_mul (pv 2) (pe_int)) (pe_op op_modN (pe_callTy call_int1 (by rfl) T.n_int (by decide +kernel) (pa_cons (pe_op op_pow (pv 4) (pe_int)) (pa_nil))) (pv 3))))))))
      (pss_one (ps_ret (pv 2))))))
  exact F.ok sc_mixed (fun vs H Q E h => by
    obtain ⟨_, _, _, _, rfl, _⟩ := h
    rfl) D
theorem fn_take (T : Tx K mg c_BadHolder c_BadNumber c_ScoopError) (C_mixed : Kn P w K mg base CX0 1 "_law_mixed" ["state"] spMixed) {f : Addr} {fd : FuncData} (F : FunD K "_law_take" "_law_take" (defArgs s_take) (defBody s_take) (defScope s_take) [] [] f fd) :
    FnOk P w K mg base CX0 2 f fd ["state", "size"] spTake := by
  have D : ∀ (cdv : Value) (A : Around) (outer : List Env) (s : Shared) (H : Hp) (vs : List V) (Q : VK) (E : XK), Room 1 (A.deeper (envOfC "_law_take" (defScope s_take) s.heap.objs.size f cdv)) → spTake vs H Q E →
      ∃ t, PSs (cxOf CX0 P w K mg base ["state", "size", "found"] "_law_take" (defScope s_take) f cdv A outer s H E) (defBody s_take) t ∧ t { nx := fun _ H' => Q .non H', rt := Q } (start ["state", "size", "found"] vs) H := by
    intro cdv A outer s H vs Q E hr h
    refine ⟨t_take K, PSs.nox ?_, pure_take vs H Q E h⟩
    exact pss_cons (ps_if (PW.pt (pw_and (pt_cmpR op_eq (pe_dget (hu_of hr) (pv 0) (pe_str) (fun _ _ => rfl)) (pe_int) (nomark _)) (pw_and1 (pt_cmpR (op_neD hr.units) (pe_dget (hu_of hr) (pv 0) (pe_str) (fun _ _ => rfl)) (pe_lst (pa_nil)) (nomark _)))))
      (pss_one (ps_dput (hu_of hr) (pv 0) (pe_str) (pe_bm PySem.F.plainAttrs_list PySem.F.slot_list_pop PySem.F.type_list_pop mt_popAt (pe_dget (hu_of hr) (pv 0) (pe_str) (fun _ _ => rfl)) (pa_cons (pe_int) (pa_nil))) rfl))
      (pss_one (ps_if (pt_cmpR op_eq (pe_dget (hu_of hr) (pv 0) (pe_str) (fun _ _ => rfl)) (pe_int) (nomark _))
      (pss_one (ps_dput (hu_of hr) (pv 0) (pe_str) (pe_k C_mixed hr (by decide) rfl pass0 (pa_cons (pv 0) (pa_nil))) rfl))
      (pss_nil))))
      (pss_cons (ps_set (i := 2) sc_take.nd rfl (Or.inl rfl) (pe_op op_modN (pe_callTy call_int1 (by rfl) T.n_int (by decide +kernel) (pa_cons (pe_dget (hu_of hr) (pv 0) (pe_str) (fun _ _ => rfl)) (pa_nil))) (pv 1)))
      (pss_cons (ps_dput (hu_of hr) (pv 0) (pe_str) (pe_op op_fdivN (pe_dget (hu_of hr) (pv 0) (pe_str) (fun _ _ => rfl)) (pv 1)) rfl)
      (pss_one (ps_ret (pv 2)))))
  exact F.ok sc_take (fun vs H Q E h => by
    obtain ⟨_, _, _, _, _, rfl, _⟩ := h
    rfl) D
theorem fn_pick (T : Tx K mg c_BadHolder c_BadNumber c_ScoopError) (C_take : Kn P w K mg base CX0 2 "_law_take" ["state", "size"] spTake) {f : Addr} {fd : FuncData} (F : FunD K "_law_pick" "_law_pick" (defArgs s_pick) (defBody s_pick) (defScope s_pick) [] [] f fd) :
    FnOk P w K mg base CX0 3 f fd ["state", "some"] (spPick K) := by
  have D : ∀ (cdv : Value) (A : Around) (outer : List Env) (s : Shared) (H : Hp) (vs : List V) (Q : VK) (E : XK), Room 2 (A.deeper (envOfC "_law_pick" (defScope s_pick) s.heap.objs.size f cdv)) → (spPick K) vs H Q E →
      ∃ t, PSs (cxOf CX0 P w K mg base ["state", "some"] "_law_pick" (defScope s_pick) f cdv A outer s H E) (defBody s_pick) t ∧ t { nx := fun _ H' => Q .non H', rt := Q } (start ["state", "some"] vs) H := by
    intro cdv A outer s H vs Q E hr h
    refine ⟨t_pick K, PSs.nox ?_, pure_pick vs H Q E h⟩
    exact pss_one (ps_ret (pe_ix ix_list (pv 1) (pe_k C_take hr (by decide) rfl pass0 (pa_cons (pv 0) (pa_cons (pe_callB call_len_seq (by rfl) T.n_len PySem.boot_len (pa_cons (pv 1) (pa_nil))) (pa_nil)))) (fun _ _ => rfl)))
  exact F.ok sc_pick (fun vs H Q E h => by
    obtain ⟨_, _, _, _, _, _, rfl, _⟩ := h
    rfl) D
theorem fn_lpassed (T : Tx K mg c_BadHolder c_BadNumber c_ScoopError) {f : Addr} {fd : FuncData} (F : FunD K "_law_passed" "_law_passed" (defArgs s_lpassed) (defBody s_lpassed) (defScope s_lpassed) [] [] f fd) :
    FnOk P w K mg base CX0 1 f fd ["most", "burden", "size", "amount"] spLPassed := by
  have D : ∀ (cdv : Value) (A : Around) (outer : List Env) (s : Shared) (H : Hp) (vs : List V) (Q : VK) (E : XK), Room 0 (A.deeper (envOfC "_law_passed" (defScope s_lpassed) s.heap.objs.size f cdv)) → spLPassed vs H Q E →
      ∃ t, PSs (cxOf CX0 P w K mg base ["most", "burden", "size", "amount", "up", "down"] "_law_passed" (defScope s_lpassed) f cdv A outer s H E) (defBody s_lpassed) t ∧ t { nx := fun _ H' => Q .non H', rt := Q } (start ["most", "burden", "size", "amount", "up", "down"] vs) H := by
    intro cdv A outer s H vs Q E hr h
    refine ⟨t_lpassed, PSs.nox ?_, pure_lpassed vs H Q E h⟩
    exact pss_cons (ps_par (by rfl) sc_lpassed.nd rfl rfl (by decide) rfl rfl (pa_cons (pe_callB (call_min2 rfl) (by rfl) T.n_min (by decide +kernel) (pa_cons (pe_op op_sub (pv 0) (pv 1)) (pa_cons (pv 3) (pa_nil)))) (pa_cons (pe_callB (call_min2 rfl) (by rfl) T.n_min (by decide +kernel) (pa_cons (pv 1) (pa_cons (pe_op op_sub (pv 2) (pv 3)) (pa_nil)))) (pa_nil))) (by rfl))
      (pss_one (ps_ret (pe_tup (pa_cons (pe_op op_add (pe_op op_sub (pv 3) (pv 4)) (pv 5)) (pa_cons (pe_op op_sub (pe_op op_add (pv 1) (pv 4)) (pv 5)) (pa_nil))))))
  exact F.ok sc_lpassed (fun vs H Q E h => by
    obtain ⟨_, _, _, _, rfl, _⟩ := h
    rfl) D
theorem fn_holder (T : Tx K mg c_BadHolder c_BadNumber c_ScoopError) (C_pick : Kn P w K mg base CX0 3 "_law_pick" ["state", "some"] (spPick K)) (C_take : Kn P w K mg base CX0 2 "_law_take" ["state", "size"] spTake) {f : Addr} {fd : FuncData} (F : FunD K "_law_holder" "_law_holder" (defArgs s_holder) (defBody s_holder) (defScope s_holder) [] [] f fd) :
    FnOk P w K mg base CX0 4 f fd ["state"] spLHolder := by
  have D : ∀ (cdv : Value) (A : Around) (outer : List Env) (s : Shared) (H : Hp) (vs : List V) (Q : VK) (E : XK), Room 3 (A.deeper (envOfC "_law_holder" (defScope s_holder) s.heap.objs.size f cdv)) → spLHolder vs H Q E →
      ∃ t, PSs (cxOf CX0 P w K mg base ["state", "most"] "_law_holder" (defScope s_holder) f cdv A outer s H E) (defBody s_holder) t ∧ t { nx := fun _ H' => Q .non H', rt := Q } (start ["state", "most"] vs) H := by
    intro cdv A outer s H vs Q E hr h
    refine ⟨t_holder K, PSs.nox ?_, pure_holder vs H Q E h⟩
    exact pss_cons (ps_set (i := 1) sc_holder.nd rfl (Or.inl rfl) (pe_k C_pick hr (by decide) rfl pass0 (pa_cons (pv 0) (pa_cons (pe_lst (pa_cons (pe_int) (pa_cons (pe_int) (pa_cons (pe_int) (pa_cons (pe_int) (pa_cons (pe_int) (pa_cons (pe_int) (pa_cons (pe_op op_add (pe_int) (pe_k C_take hr (by decide) rfl pass0 (pa_cons (pv 0) (pa_cons (pe_int) (pa_nil))))) (pa_nil))))))))) (pa_nil)))))
      (pss_one (ps_ret (pe_tup (pa_cons (pv 1) (pa_cons (pe_k C_pick hr (by decide) rfl pass0 (pa_cons (pv 0) (pa_cons (pe_lst (pa_cons (pe_int) (pa_cons (pv 1) (pa_cons (pe_k C_take hr (by decide) rfl pass0 (pa_cons (pv 0) (pa_cons (pe_op op_add (pv 1) (pe_int)) (pa_nil)))) (pa_nil))))) (pa_nil)))) (pa_nil))))))
  exact F.ok sc_holder (fun vs H Q E h => by
    obtain ⟨_, _, _, _, rfl, _⟩ := h
    rfl) D
theorem fn_pair (T : Tx K mg c_BadHolder c_BadNumber c_ScoopError) (C_lpassed : Kn P w K mg base CX0 1 "_law_passed" ["most", "burden", "size", "amount"] spLPassed) {f : Addr} {fd : FuncData} (F : FunD K "_law_pair" "_law_pair" (defArgs s_pair) (defBody s_pair) (defScope s_pair) [] [] f fd) :
    FnOk P w K mg base CX0 2 f fd ["one", "two"] (spLPair K) := by
  have D : ∀ (cdv : Value) (A : Around) (outer : List Env) (s : Shared) (H : Hp) (vs : List V) (Q : VK) (E : XK), Room 1 (A.deeper (envOfC "_law_pair" (defScope s_pair) s.heap.objs.size f cdv)) → (spLPair K) vs H Q E →
      ∃ t, PSs (cxOf CX0 P w K mg base ["one", "two", "amount", "burden"] "_law_pair" (defScope s_pair) f cdv A outer s H E) (defBody s_pair) t ∧ t { nx := fun _ H' => Q .non H', rt := Q } (start ["one", "two", "amount", "burden"] vs) H := by
    intro cdv A outer s H vs Q E hr h
    refine ⟨t_pair K, PSs.nox ?_, pure_pair vs H Q E h⟩
    exact pss_cons (ps_asg (pe_k C_lpassed hr (by decide) rfl pass0 (pa_cons (pe_ix ix_tup (pv 0) (pe_int) (fun _ _ => rfl)) (pa_cons (pe_ix ix_tup (pv 0) (pe_int) (fun _ _ => rfl)) (pa_cons (pe_ix ix_tup (pv 1) (pe_int) (fun _ _ => rfl)) (pa_cons (pe_ix ix_tup (pv 1) (pe_int) (fun _ _ => rfl)) (pa_nil)))))) (pg_tup rfl (pgs_cons (pg_name (i := 2) sc_pair.nd rfl (Or.inl rfl)) (pgs_cons (pg_name (i := 3) sc_pair.nd rfl (Or.inl rfl)) (pgs_nil)))))
      (pss_one (ps_ret (pe_tup (pa_cons (pe_tup (pa_cons (pe_ix ix_tup (pv 1) (pe_int) (fun _ _ => rfl)) (pa_cons (pv 2) (pa_nil)))) (pa_cons (pe_tup (pa_cons (pe_ix ix_tup (pv 0) (pe_int) (fun _ _ => rfl)) (pa_cons (pv 3) (pa_nil)))) (pa_cons (pe_callB (call_min2 rfl) (by rfl) T.n_min (by decide +kernel) (pa_cons (pe_op op_sub (pe_ix ix_tup (pv 0) (pe_int) (fun _ _ => rfl)) (pe_ix ix_tup (pv 0) (pe_int) (fun _ _ => rfl))) (pa_cons (pe_ix ix_tup (pv 1) (pe_int) (fun _ _ => rfl)) (pa_nil)))) (pa_nil)))))))
  exact F.ok sc_pair (fun vs H Q E h => by
    obtain ⟨_, _, _, _, _, _, rfl, _⟩ := h
    rfl) D
theorem fn_turned (T : Tx K mg c_BadHolder c_BadNumber c_ScoopError) (C_pair : Kn P w K mg base CX0 2 "_law_pair" ["one", "two"] (spLPair K)) (C_exchanged : Kn P w K mg base (L2.CX P w) 5 "exchanged" ["left", "right"] (spExchanged K c_BadHolder)) {f : Addr} {fd : FuncData} (F : FunD K "_law_turned" "_law_turned" (defArgs s_turned) (defBody s_turned) (defScope s_turned) [] [] f fd) :
    FnOk P w K mg base CX0 6 f fd ["some", "order"] (spTurned K) := by
  have D : ∀ (cdv : Value) (A : Around) (outer : List Env) (s : Shared) (H : Hp) (vs : List V) (Q : VK) (E : XK), Room 5 (A.deeper (envOfC "_law_turned" (defScope s_turned) s.heap.objs.size f cdv)) → (spTurned K) vs H Q E →
      ∃ t, PSs (cxOf CX0 P w K mg base ["some", "order", "line", "at", "one", "first", "gained", "two", "second", "taken", "new_one", "new_two", "up", "thing"] "_law_turned" (defScope s_turned) f cdv A outer s H E) (defBody s_turned) t ∧ t { nx := fun _ H' => Q .non H', rt := Q } (start ["some", "order", "line", "at", "one", "first", "gained", "two", "second", "taken", "new_one", "new_two", "up", "thing"] vs) H := by
    intro cdv A outer s H vs Q E hr h
    refine ⟨t_turned K c_BadHolder, PSs.nox ?_, pure_turned vs H Q E h⟩
    exact pss_cons (ps_setLc (i := 2) (own := [("at", 3), ("thing", 13)]) (g := gTup K 2 (gCons (gName 3) (gCons (gName 13) (gNil)))) (tt := tYes) rfl sc_turned.nd rfl rfl (sw_true rfl rfl rfl (by decide +kernel)) (pi_enum (by rfl) T.n_enumerate (pa_cons (pv 0) pa_nil)) (blkOk_by (own := [("at", 3), ("thing", 13)]) (N := ["some", "order", "line", "at", "one", "first", "gained", "two", "second", "taken", "new_one", "new_two", "up", "thing"]) (sc := defScope s_turned) (by decide +kernel)) (fun _ _ _ _ _ => pg_tup rfl (pgs_cons (pg_name (i := 3) sc_turned.nd rfl (Or.inl rfl)) (pgs_cons (pg_name (i := 13) sc_turned.nd rfl (Or.inl rfl)) (pgs_nil)))) (fun _ _ _ _ _ => pts_nil) (fun _ _ _ _ _ => pe_tup (pa_cons (pv 13) (pa_cons (pv 3) (pa_cons (pe_int) (pa_nil))))))
      (pss_cons (ps_for PassesOwn.never rfl (pi_list (pv 1)) (pg_name (i := 3) sc_turned.nd rfl (Or.inl rfl))
      (pss_cons (ps_asg (pe_tup (pa_cons (pe_ix ix_list (pv 2) (pv 3) (fun _ _ => rfl)) (pa_cons (pe_ix ix_list (pv 2) (pe_op op_add (pv 3) (pe_int)) (fun _ _ => rfl)) (pa_nil)))) (pg_tup rfl (pgs_cons (pg_tup rfl (pgs_cons (pg_name (i := 4) sc_turned.nd rfl (Or.inl rfl)) (pgs_cons (pg_name (i := 5) sc_turned.nd rfl (Or.inl rfl)) (pgs_cons (pg_name (i := 6) sc_turned.nd rfl (Or.inl rfl)) (pgs_nil))))) (pgs_cons (pg_tup rfl (pgs_cons (pg_name (i := 7) sc_turned.nd rfl (Or.inl rfl)) (pgs_cons (pg_name (i := 8) sc_turned.nd rfl (Or.inl rfl)) (pgs_cons (pg_name (i := 9) sc_turned.nd rfl (Or.inl rfl)) (pgs_nil))))) (pgs_nil)))))
      (pss_cons (ps_asg (pe_k C_pair hr (by decide) rfl pass0 (pa_cons (pv 4) (pa_cons (pv 7) (pa_nil)))) (pg_tup rfl (pgs_cons (pg_name (i := 10) sc_turned.nd rfl (Or.inl rfl)) (pgs_cons (pg_name (i := 11) sc_turned.nd rfl (Or.inl rfl)) (pgs_cons (pg_name (i := 12) sc_turned.nd rfl (Or.inl rfl)) (pgs_nil))))))
      (pss_cons (ps_if (pt_cmpR (op_neD hr.units) (pe_k C_exchanged hr (by decide) rfl passL (pa_cons (pv 4) (pa_cons (pv 7) (pa_nil)))) (pe_tup (pa_cons (pv 10) (pa_cons (pv 11) (pa_nil)))) (nomark _))
      (pss_one (ps_ret (pe_non)))
      (pss_nil))
      (pss_one (ps_asg (pe_tup (pa_cons (pe_tup (pa_cons (pv 10) (pa_cons (pv 8) (pa_cons (pe_op op_add (pv 9) (pv 12)) (pa_nil))))) (pa_cons (pe_tup (pa_cons (pv 11) (pa_cons (pv 5) (pa_cons (pe_op op_sub (pv 6) (pv 12)) (pa_nil))))) (pa_nil)))) (pg_tup rfl (pgs_cons (pg_sub (pv 2) (pv 3) set_list) (pgs_cons (pg_sub (pv 2) (pe_op op_add (pv 3) (pe_int)) set_list) (pgs_nil))))))))))
      (pss_one (ps_ret (pv 2))))
  exact F.ok sc_turned (fun vs H Q E h => by
    obtain ⟨_, _, _, _, _, _, _, _, _, _, _, _, rfl, _⟩ := h
    rfl) D
theorem fn_is_refused (T : Tx K mg c_BadHolder c_BadNumber c_ScoopError) (C_exchanged : Kn P w K mg base (L2.CX P w) 5 "exchanged" ["left", "right"] (spExchanged K c_BadHolder)) (eF : ErrF K c_BadHolder c_ScoopError) (hK : PySem.W.kitOne K (.ref c_BadHolder) (.ref c_BadHolder) = some true) {f : Addr} {fd : FuncData} (F : FunD K "_law_is_refused" "_law_is_refused" (defArgs s_is_refused) (defBody s_is_refused) (defScope s_is_refused) [] [] f fd) :
    FnOk P w K mg base CX0 6 f fd ["one", "two"] (spRefused K) := by
  have D : ∀ (cdv : Value) (A : Around) (outer : List Env) (s : Shared) (H : Hp) (vs : List V) (Q : VK) (E : XK), Room 5 (A.deeper (envOfC "_law_is_refused" (defScope s_is_refused) s.heap.objs.size f cdv)) → (spRefused K) vs H Q E →
      ∃ t, PSs (cxOf CX0 P w K mg base ["one", "two", "caught", "error"] "_law_is_refused" (defScope s_is_refused) f cdv A outer s H E) (defBody s_is_refused) t ∧ t { nx := fun _ H' => Q .non H', rt := Q } (start ["one", "two", "caught", "error"] vs) H := by
    intro cdv A outer s H vs Q E hr h
    refine ⟨t_is_refused K c_BadHolder c_ScoopError, PSs.nox ?_, pure_is_refused eF hK vs H Q E h⟩
    exact pss_cons (ps_set (i := 2) sc_is_refused.nd rfl (Or.inl rfl) (pe_non))
      (pss_keep (i := 3) (j := 2) (fun W => tDrop (tCallS (spExchanged K c_BadHolder) (WE W) (tCons (tVar 0) (tCons (tVar 1) (tNil))))) (tRet (tCB (rIsi K) (tCons (tVar 2) (tCons (tC (.ref c_BadHolder)) tNil)))) (fun a cls d => tRet (tCB (rIsK K a cls d) (tCons (tVar 2) (tCons (tC (.ref c_BadHolder)) tNil)))) rfl rfl sc_is_refused.nd rfl rfl rfl rfl ⟨rfl, by decide, .inl T.g_ScoopError⟩
      (fun W pn xe tk _ => pss_one (ps_expr (pe_kS C_exchanged hr (by decide) (by exact rfl) (fun σ => passAt tk σ) (pa_cons (pv 0) (pa_cons (pv 1) (pa_nil))))))
      (pss_one (ps_ret (pe_callB call_isi (by rfl) T.n_isinstance PyProof.Rows.boot_isinstance (pa_cons (pv 2) (pa_cons (pe_gl (by rfl) ⟨_, T.g_BadHolder, rfl⟩) pa_nil)))))
      (fun a oe cls d pn hz hf => pss_one (ps_ret (pe_callB (call_isK hz hf) (by rfl) T.n_isinstance PyProof.Rows.boot_isinstance (pa_cons (pv 2) (pa_cons (pe_gl (by rfl) ⟨_, T.g_BadHolder, rfl⟩) pa_nil))))))
  exact F.ok sc_is_refused (fun vs H Q E h => by
    obtain ⟨_, _, _, _, rfl, _⟩ := h
    rfl) D
theorem fn_law (T : Tx K mg c_BadHolder c_BadNumber c_ScoopError) (C_begun : Kn P w K mg base CX0 1 "_law_begun" ["script"] (spBegun K)) (C_pick : Kn P w K mg base CX0 3 "_law_pick" ["state", "some"] (spPick K)) (C_holder : Kn P w K mg base CX0 4 "_law_holder" ["state"] spLHolder) (C_pair : Kn P w K mg base CX0 2 "_law_pair" ["one", "two"] (spLPair K)) (C_exchanged : Kn P w K mg base (L2.CX P w) 5 "exchanged" ["left", "right"] (spExchanged K c_BadHolder)) (C_turned : Kn P w K mg base CX0 6 "_law_turned" ["some", "order"] (spTurned K)) (C_is_refused : Kn P w K mg base CX0 6 "_law_is_refused" ["one", "two"] (spRefused K)) (C_exchanged_kw : KnK P w K mg base (L2.CX P w) 5 "exchanged" ["left", "right"] (spExchanged K c_BadHolder) 0 ["right", "left"] (fun vs zs => gkw_exchanged vs zs)) {f : Addr} {fd : FuncData} (F : FunD K "law" "law" (defArgs s_law) (defBody s_law) (defScope s_law) [] [] f fd) :
    FnG P w K mg base CX0 7 f fd ["script"] (spLaw K) := by
  have D : ∀ (cdv : Value) (A : Around) (outer : List Env) (s : Shared) (H : Hp) (vs : List V) (Q : VK) (E : XK), Gs A → Room 6 (A.deeper (envOfC "law" (defScope s_law) s.heap.objs.size f cdv)) → (spLaw K) vs H Q E →
      ∃ t, PSs (cxOf CX0 P w K mg base ["script", "state", "turn", "one", "two", "three", "new_one", "new_two", "up", "due", "found", "odd", "bad"] "law" (defScope s_law) f cdv A outer s H E) (defBody s_law) t ∧ t { nx := fun _ H' => Q .non H', rt := Q } (start ["script", "state", "turn", "one", "two", "three", "new_one", "new_two", "up", "due", "found", "odd", "bad"] vs) H := by
    intro cdv A outer s H vs Q E hgs hr h
    refine ⟨t_law09 K c_BadHolder, PSs.nox ?_, pure_law09 vs H Q E h⟩
    exact pss_cons (ps_set (i := 1) sc_law.nd rfl (Or.inl rfl) (pe_k C_begun hr (by decide) rfl pass0 (pa_cons (pv 0) (pa_nil))))
      (pss_cons (ps_for PassesOwn.never rfl (pi_range1 rfl T.n_range (pa_cons (pe_op op_add (pe_int) (pe_callB (call_min2 rfl) (by rfl) T.n_min (by decide +kernel) (pa_cons (pe_callB call_len_seq (by rfl) T.n_len PySem.boot_len (pa_cons (pv 0) (pa_nil))) (pa_cons (pe_int) (pa_nil))))) (pa_nil))) (pg_name (i := 2) sc_law.nd rfl (Or.inl rfl))
      (pss_cons (ps_par3 (by rfl) sc_law.nd rfl rfl rfl (by decide) (by decide) (by decide) rfl rfl rfl (pa_cons (pe_k C_holder hr (by decide) rfl pass0 (pa_cons (pv 1) (pa_nil))) (pa_cons (pe_k C_holder hr (by decide) rfl pass0 (pa_cons (pv 1) (pa_nil))) (pa_cons (pe_k C_holder hr (by decide) rfl pass0 (pa_cons (pv 1) (pa_nil))) (pa_nil)))) (by rfl))
      (pss_cons (ps_asg (pe_k C_pair hr (by decide) rfl pass0 (pa_cons (pv 3) (pa_cons (pv 4) (pa_nil)))) (pg_tup rfl (pgs_cons (pg_name (i := 6) sc_law.nd rfl (Or.inl rfl)) (pgs_cons (pg_name (i := 7) sc_law.nd rfl (Or.inl rfl)) (pgs_cons (pg_name (i := 8) sc_law.nd rfl (Or.inl rfl)) (pgs_nil))))))
      (pss_cons (ps_set (i := 9) sc_law.nd rfl (Or.inl rfl) (pe_tup (pa_cons (pv 6) (pa_cons (pv 7) (pa_nil)))))
      (pss_cons (ps_if (PW.pt (pw_or (pt_cmpR op_ne (pe_callB (call_reprD hgs hr.units) (by rfl) T.n_repr (by decide +kernel) (pa_cons (pe_k C_exchanged hr (by decide) rfl passL (pa_cons (pv 3) (pa_cons (pv 4) (pa_nil)))) (pa_nil))) (pe_callB (call_reprD hgs hr.units) (by rfl) T.n_repr (by decide +kernel) (pa_cons (pv 9) (pa_nil))) (nomark _)) (pw_or1 (pt_cmpR (op_neD hr.units) (pe_kK1 C_exchanged_kw hr (by decide) (by exact rfl) (fun σ pins H s e s2 => passL pins σ H s e s2) (pk_cons (pv 4) (pk_cons (pv 3) (pk_nil)))) (pv 9) (nomark _)))))
      (pss_one (ps_ret (pe_bl)))
      (pss_nil))
      (pss_cons (ps_if (pt_cmpR (op_neD hr.units) (pe_k C_exchanged hr (by decide) rfl passL (pa_cons (pv 6) (pa_cons (pv 7) (pa_nil)))) (pe_tup (pa_cons (pv 3) (pa_cons (pv 4) (pa_nil)))) (nomark _))
      (pss_one (ps_ret (pe_bl)))
      (pss_nil))
      (pss_cons (ps_set (i := 10) sc_law.nd rfl (Or.inl rfl) (pe_k C_turned hr (by decide) rfl pass0 (pa_cons (pe_lst (pa_cons (pv 3) (pa_cons (pv 4) (pa_cons (pv 5) (pa_nil))))) (pa_cons (pe_lst (pa_cons (pe_int) (pa_cons (pe_int) (pa_cons (pe_int) (pa_nil))))) (pa_nil)))))
      (pss_cons (ps_if (PW.pt (pw_or (pt_cmpR op_isN (pv 10) (pe_non) (nomark _)) (pw_or1 (pt_cmpR (op_neD hr.units) (pv 10) (pe_k C_turned hr (by decide) rfl pass0 (pa_cons (pe_lst (pa_cons (pv 3) (pa_cons (pv 4) (pa_cons (pv 5) (pa_nil))))) (pa_cons (pe_lst (pa_cons (pe_int) (pa_cons (pe_int) (pa_cons (pe_int) (pa_nil))))) (pa_nil)))) (nomark _)))))
      (pss_one (ps_ret (pe_bl)))
      (pss_nil))
      (pss_cons (ps_set (i := 11) sc_law.nd rfl (Or.inl rfl) (pe_lst (pa_cons (pe_non) (pa_cons (pe_int) (pa_cons (pe_tup (pa_nil)) (pa_cons (pe_tup (pa_cons (pe_int) (pa_nil))) (pa_cons (pe_tup (pa_cons (pe_int) (pa_cons (pe_int) (pa_cons (pe_int) (pa_nil))))) (pa_cons (pe_lst (pa_cons (pe_int) (pa_cons (pe_int) (pa_nil)))) (pa_cons (pe_tup (pa_cons (pe_int) (pa_cons (pe_int) (pa_nil)))) (pa_cons (pe_tup (pa_cons (pe_int) (pa_cons (pe_int) (pa_nil)))) (pa_cons (pe_tup (pa_cons (pe_int) (pa_cons (pe_int) (pa_nil)))) (pa_cons (pe_tup (pa_cons (pe_int) (pa_cons (pe_un un_neg (pe_int)) (pa_nil)))) (pa_cons (pe_tup (pa_cons (pe_bl) (pa_cons (pe_int) (pa_nil)))) (pa_cons (pe_tup (pa_cons (pe_int) (pa_cons (pe_bl) (pa_nil)))) (pa_cons (pe_tup (pa_cons (pe_str) (pa_cons (pe_int) (pa_nil)))) (pa_nil))))))))))))))))
      (pss_cons (ps_set (i := 12) sc_law.nd rfl (Or.inl rfl) (pe_k C_pick hr (by decide) rfl pass0 (pa_cons (pv 1) (pa_cons (pe_op op_cat (pv 11) (pe_lst (pa_cons (pe_tup (pa_cons (pe_int) (pa_cons (pe_non) (pa_nil)))) (pa_cons (pe_dnewK) (pa_cons (pe_str) (pa_cons (pe_tup (pa_cons (pe_op op_pow (pe_int) (pe_int)) (pa_cons (pe_int) (pa_nil)))) (pa_cons (pe_tup (pa_cons (pe_tup (pa_cons (pe_int) (pa_cons (pe_int) (pa_nil)))) (pa_cons (pe_int) (pa_nil)))) (pa_nil)))))))) (pa_nil)))))
      (pss_one (ps_if (PW.pt (pw_or (pt_not (pt_val (pe_k C_is_refused hr (by decide) rfl pass0 (pa_cons (pv 12) (pa_cons (pv 4) (pa_nil)))))) (pw_or (pt_not (pt_val (pe_k C_is_refused hr (by decide) rfl pass0 (pa_cons (pv 3) (pa_cons (pv 12) (pa_nil)))))) (pw_or1 (pt_not (pt_val (pe_k C_is_refused hr (by decide) rfl pass0 (pa_cons (pv 12) (pa_cons (pv 12) (pa_nil))))))))))
      (pss_one (ps_ret (pe_bl)))
      (pss_nil)))))))))))))
      (pss_one (ps_ret (pe_bl))))
  exact okG F sc_law (fun vs H Q E h => by
    obtain ⟨_, _, rfl, _⟩ := h
    rfl) D
end
def d_is_integer : He.DefD := ⟨("is_integer", none), "is_integer", "is_integer", defArgs s_is_integer, defBody s_is_integer, defScope s_is_integer, [], []⟩
def d_is_between : He.DefD := ⟨("is_between", none), "is_between", "is_between", defArgs s_is_between, defBody s_is_between, defScope s_is_between, [], []⟩
def d_is_pair : He.DefD := ⟨("is_pair", none), "is_pair", "is_pair", defArgs s_is_pair, defBody s_is_pair, defScope s_is_pair, [], []⟩
def d_is_capacity : He.DefD := ⟨("is_capacity", none), "is_capacity", "is_capacity", defArgs s_is_capacity, defBody s_is_capacity, defScope s_is_capacity, [], []⟩
def d_handled : He.DefD := ⟨("handled", none), "handled", "handled", defArgs s_handled, defBody s_handled, defScope s_handled, [], []⟩
def d_passed : He.DefD := ⟨("passed", none), "passed", "passed", defArgs s_passed, defBody s_passed, defScope s_passed, [], []⟩
def d_is_holder : He.DefD := ⟨("_is_holder", none), "_is_holder", "_is_holder", defArgs s_is_holder, defBody s_is_holder, defScope s_is_holder, [], []⟩
def d_exchanged : He.DefD := ⟨("exchanged", none), "exchanged", "exchanged", defArgs s_exchanged, defBody s_exchanged, defScope s_exchanged, [], []⟩
def d_begun : He.DefD := ⟨("_law_begun", none), "_law_begun", "_law_begun", defArgs s_begun, defBody s_begun, defScope s_begun, [], []⟩
def d_mixed : He.DefD := ⟨("_law_mixed", none), "_law_mixed", "_law_mixed", defArgs s_mixed, defBody s_mixed, defScope s_mixed, [], []⟩
def d_take : He.DefD := ⟨("_law_take", none), "_law_take", "_law_take", defArgs s_take, defBody s_take, defScope s_take, [], []⟩
def d_pick : He.DefD := ⟨("_law_pick", none), "_law_pick", "_law_pick", defArgs s_pick, defBody s_pick, defScope s_pick, [], []⟩
def d_lpassed : He.DefD := ⟨("_law_passed", none), "_law_passed", "_law_passed", defArgs s_lpassed, defBody s_lpassed, defScope s_lpassed, [], []⟩
def d_holder : He.DefD := ⟨("_law_holder", none), "_law_holder", "_law_holder", defArgs s_holder, defBody s_holder, defScope s_holder, [], []⟩
def d_pair : He.DefD := ⟨("_law_pair", none), "_law_pair", "_law_pair", defArgs s_pair, defBody s_pair, defScope s_pair, [], []⟩
def d_turned : He.DefD := ⟨("_law_turned", none), "_law_turned", "_law_turned", defArgs s_turned, defBody s_turned, defScope s_turned, [], []⟩
def d_is_refused : He.DefD := ⟨("_law_is_refused", none), "_law_is_refused", "_law_is_refused", defArgs s_is_refused, defBody s_is_refused, defScope s_is_refused, [], []⟩
def d_law : He.DefD := ⟨("law", none), "law", "law", defArgs s_law, defBody s_law, defScope s_law, [], []⟩
def fns : List He.DefD := [d_is_integer, d_is_between, d_is_pair, d_is_capacity, d_handled, d_passed, d_is_holder, d_exchanged, d_begun, d_mixed, d_take, d_pick, d_lpassed, d_holder, d_pair, d_turned, d_is_refused, d_law]
def fas : List He.Fa := [.glo "is_integer", .glo "is_between", .glo "is_pair", .glo "is_capacity", .glo "handled", .glo "passed", .glo "_is_holder", .glo "exchanged", .glo "_law_begun", .glo "_law_mixed", .glo "_law_take", .glo "_law_pick", .glo "_law_passed", .glo "_law_holder", .glo "_law_pair", .glo "_law_turned", .glo "_law_is_refused", .glo "law", .glo "BadHolder", .glo "BadNumber", .glo "ScoopError", .free "int", .free "list", .free "min", .free "len", .free "isinstance", .free "bool", .free "tuple", .free "str", .free "range", .free "repr", .free "enumerate", .int "GREATEST_CAPACITY" 99, .exc "BadHolder", .exc "BadNumber"]
def more (K : PySem.W.Frag) : Bool := (errB K (He.ga K "BadHolder") (He.ga K "ScoopError")) && (kitIs K (.ref (He.ga K "BadHolder")) (.ref (He.ga K "BadHolder")) true)
abbrev Rw : PySem.W.OpenRow := PySem.W.OpenLaw.row PySem.Challenge.rw_scooprow_k09_holders_exchanged
abbrev hk : PySem.W.Hook := He.hookX 6 fas fns [] [] more
def ob (s : PySem.W.SharedT) : He.AlX := He.obsX 6 fas fns [] [] more (HandSHeadRun.getT s)
theorem ob_eq (s : PySem.W.SharedT) : ob s = hk.obs s.abs := He.obsX_eq (HandSHeadRun.getT_eq s)
def others : List Str := ["ScoopError", "BadNumber", "BadHolder", "is_integer", "is_between", "is_pair", "GREATEST_CAPACITY", "is_capacity", "handled", "passed", "_is_holder", "exchanged", "_law_begun", "_law_mixed", "_law_take", "_law_pick", "_law_passed", "_law_holder", "_law_pair", "_law_turned", "_law_is_refused"]
theorem run (w : World) : HandSHeadRun.RunEq Rw (PySem.W.view Rw.prog [26]) hk ob 4000 others w := by
  intro os
  kernel_rfl
theorem facts {P : Program} {w : World} {K : PySem.W.Frag} {h : Heap} {mg : Str → Option Value} {f : Addr} (X : K.In h) (G : h.Ns mainGlobals mg) (hfa : mg ("law" : Str) = some (.ref f)) (c : He.SaysX fas fns [] [] more w h K) :
    ∃ fd : FuncData, (∀ (s : Shared) (v : Value), BindsTo s fd ⟨[v], []⟩ [("script", v)]) ∧ ∀ base : Heap, K.In base → base.Ns mainGlobals mg → FnG P w K mg base CX0 7 f fd ["script"] (spLaw K) := by
  have c1 := c.t.d
  have cm := c.more
  unfold more at cm
  simp only [Bool.and_eq_true] at cm
  obtain ⟨m_eF, m_hK⟩ := cm
  have eF := errB_ok m_eF
  have hK := kitIs_ok m_hK
  obtain ⟨x_BadHolder, k_BadHolder, s_BadHolder, t_BadHolder⟩ := He.exc_ok (c1.fact 33 (f := .exc "BadHolder") rfl)
  obtain ⟨x_BadNumber, k_BadNumber, s_BadNumber, t_BadNumber⟩ := He.exc_ok (c1.fact 34 (f := .exc "BadNumber") rfl)
  have T : Tx K mg (He.ga K "BadHolder") (He.ga K "BadNumber") (He.ga K "ScoopError") := ⟨He.free_ok X G (c1.fact 21 (f := .free "int") rfl),
    He.free_ok X G (c1.fact 22 (f := .free "list") rfl),
    He.free_ok X G (c1.fact 23 (f := .free "min") rfl),
    He.free_ok X G (c1.fact 24 (f := .free "len") rfl),
    He.free_ok X G (c1.fact 25 (f := .free "isinstance") rfl),
    He.free_ok X G (c1.fact 26 (f := .free "bool") rfl),
    He.free_ok X G (c1.fact 27 (f := .free "tuple") rfl),
    He.free_ok X G (c1.fact 28 (f := .free "str") rfl),
    He.free_ok X G (c1.fact 29 (f := .free "range") rfl),
    He.free_ok X G (c1.fact 30 (f := .free "repr") rfl),
    He.free_ok X G (c1.fact 31 (f := .free "enumerate") rfl),
    (let ⟨t, e⟩ := He.int_ok X G (c1.fact 32 (f := .int "GREATEST_CAPACITY" 99) rfl); ⟨_, e, ⟨t, rfl⟩⟩),
    He.glo_ok X G (c1.fact 18 (f := .glo "BadHolder") rfl),
    He.glo_ok X G (c1.fact 19 (f := .glo "BadNumber") rfl),
    He.glo_ok X G (c1.fact 20 (f := .glo "ScoopError") rfl),
    x_BadHolder,
    k_BadHolder,
    s_BadHolder,
    t_BadHolder,
    x_BadNumber,
    k_BadNumber,
    s_BadNumber,
    t_BadNumber⟩
  obtain ⟨fd_is_integer, F_is_integer⟩ := c1.def_ 0 (d := d_is_integer) rfl
  obtain ⟨fd_is_between, F_is_between⟩ := c1.def_ 1 (d := d_is_between) rfl
  obtain ⟨fd_is_pair, F_is_pair⟩ := c1.def_ 2 (d := d_is_pair) rfl
  obtain ⟨fd_is_capacity, F_is_capacity⟩ := c1.def_ 3 (d := d_is_capacity) rfl
  obtain ⟨fd_handled, F_handled⟩ := c1.def_ 4 (d := d_handled) rfl
  obtain ⟨fd_passed, F_passed⟩ := c1.def_ 5 (d := d_passed) rfl
  obtain ⟨fd_is_holder, F_is_holder⟩ := c1.def_ 6 (d := d_is_holder) rfl
  obtain ⟨fd_exchanged, F_exchanged⟩ := c1.def_ 7 (d := d_exchanged) rfl
  obtain ⟨fd_begun, F_begun⟩ := c1.def_ 8 (d := d_begun) rfl
  obtain ⟨fd_mixed, F_mixed⟩ := c1.def_ 9 (d := d_mixed) rfl
  obtain ⟨fd_take, F_take⟩ := c1.def_ 10 (d := d_take) rfl
  obtain ⟨fd_pick, F_pick⟩ := c1.def_ 11 (d := d_pick) rfl
  obtain ⟨fd_lpassed, F_lpassed⟩ := c1.def_ 12 (d := d_lpassed) rfl
  obtain ⟨fd_holder, F_holder⟩ := c1.def_ 13 (d := d_holder) rfl
  obtain ⟨fd_pair, F_pair⟩ := c1.def_ 14 (d := d_pair) rfl
  obtain ⟨fd_turned, F_turned⟩ := c1.def_ 15 (d := d_turned) rfl
  obtain ⟨fd_is_refused, F_is_refused⟩ := c1.def_ 16 (d := d_is_refused) rfl
  obtain ⟨fd_law, F_law⟩ := c1.def_ 17 (d := d_law) rfl
  have e := hfa.symm.trans (He.glo_ok X G (c1.fact 17 (f := .glo "law") rfl))
  cases e
  have b := FunD.bindsA (ps := ["script"]) F_law fun _ _ _ _ _ _ us hl => match us, hl with | [_], _ => rfl
  refine ⟨fd_law, fun s v => b s [v] rfl, fun base _ _ => ?_⟩
  have G_is_integer := fn_is_integer (P := P) (w := w) (base := base) T F_is_integer
  have C_is_integer : Kn P w K mg base CX0 1 "is_integer" ["value"] _ := ⟨_, _, G_is_integer, (He.glo_ok X G (c1.fact 0 (f := .glo "is_integer") rfl)), F_is_integer.kp, F_is_integer.bindsN fun _ _ _ _ _ _ us hl => match us, hl with | [_], _ => rfl⟩
  have G_is_between := fn_is_between (P := P) (w := w) (base := base) T C_is_integer F_is_between
  have C_is_between : Kn P w K mg base CX0 2 "is_between" ["value", "low", "high"] _ := ⟨_, _, G_is_between, (He.glo_ok X G (c1.fact 1 (f := .glo "is_between") rfl)), F_is_between.kp, F_is_between.bindsN fun _ _ _ _ _ _ us hl => match us, hl with | [_, _, _], _ => rfl⟩
  have G_is_pair := fn_is_pair (P := P) (w := w) (base := base) T C_is_integer F_is_pair
  have C_is_pair : Kn P w K mg base CX0 2 "is_pair" ["value"] _ := ⟨_, _, G_is_pair, (He.glo_ok X G (c1.fact 2 (f := .glo "is_pair") rfl)), F_is_pair.kp, F_is_pair.bindsN fun _ _ _ _ _ _ us hl => match us, hl with | [_], _ => rfl⟩
  have G_is_capacity := fn_is_capacity (P := P) (w := w) (base := base) T C_is_between F_is_capacity
  have C_is_capacity : Kn P w K mg base CX0 3 "is_capacity" ["value"] _ := ⟨_, _, G_is_capacity, (He.glo_ok X G (c1.fact 3 (f := .glo "is_capacity") rfl)), F_is_capacity.kp, F_is_capacity.bindsN fun _ _ _ _ _ _ us hl => match us, hl with | [_], _ => rfl⟩
  have G_handled := fn_handled (P := P) (w := w) (base := base) T F_handled
  have C_handled : Kn P w K mg base CX0 1 "handled" ["capacity", "load", "box_capacity", "count"] _ := ⟨_, _, G_handled, (He.glo_ok X G (c1.fact 4 (f := .glo "handled") rfl)), F_handled.kp, F_handled.bindsN fun _ _ _ _ _ _ us hl => match us, hl with | [_, _, _, _], _ => rfl⟩
  have G_passed := fn_passed (P := P) (w := w) (base := base) T C_is_capacity C_is_between C_handled F_passed
  have C_passed : Kn P w K mg base (L2.CX P w) 4 "passed" ["capacity", "load", "box_capacity", "count"] _ := ⟨_, _, G_passed, (He.glo_ok X G (c1.fact 5 (f := .glo "passed") rfl)), F_passed.kp, F_passed.bindsN fun _ _ _ _ _ _ us hl => match us, hl with | [_, _, _, _], _ => rfl⟩
  have G_is_holder := fn_is_holder (P := P) (w := w) (base := base) T C_is_pair C_is_capacity C_is_between F_is_holder
  have C_is_holder : Kn P w K mg base CX0 4 "_is_holder" ["value"] _ := ⟨_, _, G_is_holder, (He.glo_ok X G (c1.fact 6 (f := .glo "_is_holder") rfl)), F_is_holder.kp, F_is_holder.bindsN fun _ _ _ _ _ _ us hl => match us, hl with | [_], _ => rfl⟩
  have G_exchanged := fn_exchanged (P := P) (w := w) (base := base) T C_is_holder C_passed F_exchanged
  have C_exchanged : Kn P w K mg base (L2.CX P w) 5 "exchanged" ["left", "right"] _ := ⟨_, _, G_exchanged, (He.glo_ok X G (c1.fact 7 (f := .glo "exchanged") rfl)), F_exchanged.kp, F_exchanged.bindsN fun _ _ _ _ _ _ us hl => match us, hl with | [_, _], _ => rfl⟩
  have C_exchanged_kw : KnK P w K mg base (L2.CX P w) 5 "exchanged" ["left", "right"] _ 0 ["right", "left"] (fun vs zs => gkw_exchanged vs zs) :=
    ⟨_, _, _, G_exchanged, (He.glo_ok X G (c1.fact 7 (f := .glo "exchanged") rfl)), F_exchanged.kp, kb_of F_exchanged 0 ["right", "left"] (fun us ws => gkw_exchanged us ws) gkw_exchanged_rel (fun _ _ _ _ _ _ us ws h1 h2 => match us, ws, h1, h2 with | [], [_, _], _, _ => rfl)⟩
  have G_begun := fn_begun (P := P) (w := w) (base := base) T F_begun
  have C_begun : Kn P w K mg base CX0 1 "_law_begun" ["script"] _ := ⟨_, _, G_begun, (He.glo_ok X G (c1.fact 8 (f := .glo "_law_begun") rfl)), F_begun.kp, F_begun.bindsN fun _ _ _ _ _ _ us hl => match us, hl with | [_], _ => rfl⟩
  have G_mixed := fn_mixed (P := P) (w := w) (base := base) T F_mixed
  have C_mixed : Kn P w K mg base CX0 1 "_law_mixed" ["state"] _ := ⟨_, _, G_mixed, (He.glo_ok X G (c1.fact 9 (f := .glo "_law_mixed") rfl)), F_mixed.kp, F_mixed.bindsN fun _ _ _ _ _ _ us hl => match us, hl with | [_], _ => rfl⟩
  have G_take := fn_take (P := P) (w := w) (base := base) T C_mixed F_take
  have C_take : Kn P w K mg base CX0 2 "_law_take" ["state", "size"] _ := ⟨_, _, G_take, (He.glo_ok X G (c1.fact 10 (f := .glo "_law_take") rfl)), F_take.kp, F_take.bindsN fun _ _ _ _ _ _ us hl => match us, hl with | [_, _], _ => rfl⟩
  have G_pick := fn_pick (P := P) (w := w) (base := base) T C_take F_pick
  have C_pick : Kn P w K mg base CX0 3 "_law_pick" ["state", "some"] _ := ⟨_, _, G_pick, (He.glo_ok X G (c1.fact 11 (f := .glo "_law_pick") rfl)), F_pick.kp, F_pick.bindsN fun _ _ _ _ _ _ us hl => match us, hl with | [_, _], _ => rfl⟩
  have G_lpassed := fn_lpassed (P := P) (w := w) (base := base) T F_lpassed
  have C_lpassed : Kn P w K mg base CX0 1 "_law_passed" ["most", "burden", "size", "amount"] _ := ⟨_, _, G_lpassed, (He.glo_ok X G (c1.fact 12 (f := .glo "_law_passed") rfl)), F_lpassed.kp, F_lpassed.bindsN fun _ _ _ _ _ _ us hl => match us, hl with | [_, _, _, _], _ => rfl⟩
  have G_holder := fn_holder (P := P) (w := w) (base := base) T C_pick C_take F_holder
  have C_holder : Kn P w K mg base CX0 4 "_law_holder" ["state"] _ := ⟨_, _, G_holder, (He.glo_ok X G (c1.fact 13 (f := .glo "_law_holder") rfl)), F_holder.kp, F_holder.bindsN fun _ _ _ _ _ _ us hl => match us, hl with | [_], _ => rfl⟩
  have G_pair := fn_pair (P := P) (w := w) (base := base) T C_lpassed F_pair
  have C_pair : Kn P w K mg base CX0 2 "_law_pair" ["one", "two"] _ := ⟨_, _, G_pair, (He.glo_ok X G (c1.fact 14 (f := .glo "_law_pair") rfl)), F_pair.kp, F_pair.bindsN fun _ _ _ _ _ _ us hl => match us, hl with | [_, _], _ => rfl⟩
  have G_turned := fn_turned (P := P) (w := w) (base := base) T C_pair C_exchanged F_turned
  have C_turned : Kn P w K mg base CX0 6 "_law_turned" ["some", "order"] _ := ⟨_, _, G_turned, (He.glo_ok X G (c1.fact 15 (f := .glo "_law_turned") rfl)), F_turned.kp, F_turned.bindsN fun _ _ _ _ _ _ us hl => match us, hl with | [_, _], _ => rfl⟩
  have G_is_refused := fn_is_refused (P := P) (w := w) (base := base) T C_exchanged eF hK F_is_refused
  have C_is_refused : Kn P w K mg base CX0 6 "_law_is_refused" ["one", "two"] _ := ⟨_, _, G_is_refused, (He.glo_ok X G (c1.fact 16 (f := .glo "_law_is_refused") rfl)), F_is_refused.kp, F_is_refused.bindsN fun _ _ _ _ _ _ us hl => match us, hl with | [_, _], _ => rfl⟩
  exact fn_law (P := P) (w := w) (base := base) T C_begun C_pick C_holder C_pair C_exchanged C_turned C_is_refused C_exchanged_kw F_law
end SR
open PySem PySem.W PySem.Calls PyProof.Rows
set_option maxRecDepth 100000 in
set_option maxHeartbeats 0 in
theorem PySem.Challenge.cw_scooprow_k09_holders_exchanged_holds : PySem.Challenge.rw_scooprow_k09_holders_exchanged.Holds := by
  w_on; o_law
  refine HandSHeadRun.head_any (r := OpenLaw.row PySem.Challenge.rw_scooprow_k09_holders_exchanged) (q := view (OpenLaw.row PySem.Challenge.rw_scooprow_k09_holders_exchanged).prog [26]) (H := SR.hk) (ob := SR.ob) (M := 4000) (loose := SR.others) (d := HandSHeadRun.topDef (OpenLaw.row PySem.Challenge.rw_scooprow_k09_holders_exchanged).prog 26) (kwd := []) SR.ob_eq
    (by kernel_rfl) (fun s => by kernel_rfl) SR.run (by kernel_rfl) (by kernel_rfl) (by kernel_rfl) (by rfl) (by first | assumption | decide +kernel) (by decide +kernel) ⟨rfl, rfl, rfl, rfl, rfl, by decide +kernel⟩ ?hw ?hc
  case hw => w_witness2
  case hc =>
    refine SR.walk_ofG (l := PySem.Challenge.rw_scooprow_k09_holders_exchanged) (n := 63) (k := 7) (x := "script") (CX := L2.CX0) rfl (by decide) (by kernel_rfl) ⟨rfl, by decide, by decide⟩ ?F (fun _ _ _ _ z => z)
    intro w mg fa h Y G hmg0
    obtain ⟨K, KX, c⟩ := Y
    have hmg : mg ("law" : PySem.Str) = some (.ref fa) := by
      have e : (HandSHeadRun.topDef (OpenLaw.row PySem.Challenge.rw_scooprow_k09_holders_exchanged).prog 26).name = ("law" : PySem.Str) := by kernel_rfl
      rw [← e]
      exact hmg0
    obtain ⟨fd, hb, hF⟩ := SR.facts (P := (PySem.Challenge.rw_scooprow_k09_holders_exchanged).prog) (w := w) KX G hmg c
    exact ⟨K, fd, (SR.spLaw K), KX, hb, fun H a ns hl _ hS => ⟨a, ns, rfl, hS, hl, fun _ => rfl⟩, hF⟩
