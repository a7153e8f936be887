import PyProof.Rows.All
import Wide.All
import OpenK.AllK
import Wide.FinOn
import HandS.ForMost
import HandS.Base
import HandS.Call
import HandS.List
import HandS.Comp
import HandS.Ends
import HandS.Dict
import HandS.Iter
import HandS.Text
import HandS.Words
import HandS.WordsList
import HandS.WordsDict
import HandS.ForExc
import HandS.Defaults
import HandS.HeadEnd
import HandS.IsInst
import HandS.ExcIs
import PyProof.ReprRoads
import PyProof.CallFns
import HandS.ExcField
import HandS.CallSlots
import HandS.Codes
import HandS.HeadHook2
import HandS.HeadHook4
import HandS.Head0
import HandS.Head1
import HandS.Head2
import HandS.SetBool
import HandS.Strs
import HandS.Sort
import HandS.SortRule
import HandS.Conv
import HandS.Zip
import HandS.Walk
import KE.KDictPairs
import HandS.Style
import HandS.Small
import HandS.More
import HandS.ListItems
import HandS.Property
import HandS.OwnEq
import PyProof.InstNe
import PyProof.NeKinds
import HandS.SortInts
import HandS.Flow
import HandS.Exc
import HandS.ExcInit
import KE.KSuper
import KE.KExcSuper
import HandS.ExcValue
import HandS.DictComp
import PySem.Challenge.RW_scooprow_k13_cuts
set_option Elab.async false
set_option linter.all false
set_option maxRecDepth 100000
set_option maxHeartbeats 4000000
/-! SRA: operators by short names; the state of the draws; what a draw leaves. -/
namespace SR
open PySem L2
abbrev qAdd : R2 := rI0 fun i j => .int (i + j)
abbrev qSub : R2 := rI0 fun i j => .int (i - j)
abbrev qMul : R2 := rI CMul fun i j => .int (i * j)
abbrev qFd : R2 := rI CDivN fun i j => .int (i.fdiv j)
abbrev qMod : R2 := rI (fun _ j => j ≠ 0) fun i j => .int (i.fmod j)
abbrev qPow : R2 := rI CPow fun i j => .int (i ^ j.toNat)
abbrev qLt : R2 := rI0 fun i j => .bl (decide (i < j))
abbrev qLe : R2 := rI0 fun i j => .bl (decide (i ≤ j))
abbrev qGt : R2 := rI0 fun i j => .bl (decide (j < i))
abbrev qGe : R2 := rI0 fun i j => .bl (decide (j ≤ i))
abbrev qInt1 : List V → Hp → VK → Prop := fun xs H Q => (∃ i, xs = [.int i] ∧ Q (.int i) H) ∨ ∃ k, xs = [.bl k] ∧ Q (.int (if k then 1 else 0)) H
abbrev qListOf (K : PySem.W.Frag) : List V → Hp → VK → Prop := fun xs H Q => ∃ p ys, xs = [.ref p] ∧ (SqL K H p ys ∨ SqT K H p ys) ∧ ∀ l, H l = none → Q (.ref l) (upd H l (.lst ys))
abbrev qLen (K : PySem.W.Frag) : List V → Hp → VK → Prop := fun xs H Q => ∃ p ys, xs = [.ref p] ∧ (SqL K H p ys ∨ SqT K H p ys) ∧ Q (.int ys.length) H
abbrev qMin2 : List V → Hp → VK → Prop := fun xs H Q => ∃ i j, xs = [.int i, .int j] ∧ Q (.int (if j < i then j else i)) H
abbrev qMax2 : List V → Hp → VK → Prop := fun xs H Q => ∃ i j, xs = [.int i, .int j] ∧ Q (.int (if j > i then j else i)) H

/-! ### the state of all draws: its dict at d, the list of great cells at g, that of all cells at c; b: how often it may still be mixed -/
def stK (g c : Addr) (r t : Int) : List (Key × V) := [(.inr "great", .ref g), (.inr "cells", .ref c), (.inr "rest", .int r), (.inr "turn", .int t)]
def St0 (H : Hp) (d g c : Addr) (b : Nat) (r t : Int) (gs cs : List Int) : Prop :=
  H d = some (.dK (stK g c r t)) ∧ H g = some (.lst (gs.map V.int)) ∧ H c = some (.lst (cs.map V.int)) ∧ g ≠ c ∧ 0 ≤ t ∧ t + b ≤ 2 ^ 40
def StB (H : Hp) (d g c : Addr) (b : Nat) : Prop := ∃ r t gs cs, St0 H d g c b r t gs cs
/-- all but the state's dict and its great cells stay -/
def Kp (d g : Addr) (H H' : Hp) : Prop := ∀ a o, a ≠ d → a ≠ g → H a = some o → H' a = some o
theorem Kp.refl {d g : Addr} (H : Hp) : Kp d g H H := fun _ _ _ _ h => h
theorem Kp.trans {d g : Addr} {H H1 H2 : Hp} (x : Kp d g H H1) (y : Kp d g H1 H2) : Kp d g H H2 := fun a o h1 h2 h => y a o h1 h2 (x a o h1 h2 h)
theorem Kp.new {d g : Addr} {H : Hp} {p : Addr} {o : HO} (h : H p = none) : Kp d g H (upd H p o) := fun a u _ _ e => by
  rw [upd_ne (ne_of_none e h)]
  exact e
theorem StB.mono {H : Hp} {d g c : Addr} {b b' : Nat} (h : StB H d g c b) (e : b' ≤ b) : StB H d g c b' := by
  obtain ⟨r, t, gs, cs, h1, h2, h3, h4, h5, h6⟩ := h
  exact ⟨r, t, gs, cs, h1, h2, h3, h4, h5, by omega⟩
theorem St0.dg {H : Hp} {d g c : Addr} {b : Nat} {r t : Int} {gs cs : List Int} (h : St0 H d g c b r t gs cs) : d ≠ g := ne_of h.1 h.2.1 (by intro z; cases z)
theorem St0.dc {H : Hp} {d g c : Addr} {b : Nat} {r t : Int} {gs cs : List Int} (h : St0 H d g c b r t gs cs) : d ≠ c := ne_of h.1 h.2.2.1 (by intro z; cases z)
/-- a new object leaves the state -/
theorem StB.new {H : Hp} {d g c : Addr} {b : Nat} (h : StB H d g c b) {p : Addr} {o : HO} (hp : H p = none) : StB (upd H p o) d g c b := by
  obtain ⟨r, t, gs, cs, h1, h2, h3, h4, h5⟩ := h
  exact ⟨r, t, gs, cs, by rw [upd_ne (ne_of_none h1 hp)]; exact h1, by rw [upd_ne (ne_of_none h2 hp)]; exact h2, by rw [upd_ne (ne_of_none h3 hp)]; exact h3, h4, h5⟩
/-- an object that is none of the state's is changed -/
theorem StB.upd {H : Hp} {d g c : Addr} {b : Nat} (h : StB H d g c b) {p : Addr} {o : HO} (h1 : p ≠ d) (h2 : p ≠ g) (h3 : p ≠ c) : StB (upd H p o) d g c b := by
  obtain ⟨r, t, gs, cs, e1, e2, e3, e4⟩ := h
  exact ⟨r, t, gs, cs, by rw [upd_ne h1.symm]; exact e1, by rw [upd_ne h2.symm]; exact e2, by rw [upd_ne h3.symm]; exact e3, e4⟩

/-! ### promises of the draws -/
def spMixed : Sp := fun vs H Q _ => ∃ (d g c : Addr) (b : Nat), vs = [.ref d] ∧ ∃ r t gs cs, St0 H d g c (b + 1) r t gs cs ∧
  ∀ (i : Int) H', St0 H' d g c b r (t + 1) gs cs → Kp d g H H' → Q (.int i) H'
def spTake : Sp := fun vs H Q _ => ∃ (d g c : Addr) (b : Nat) (n : Int), vs = [.ref d, .int n] ∧ StB H d g c (b + 1) ∧ 0 < n ∧ n < 2 ^ 29 ∧
  ∀ (i : Int) H', 0 ≤ i → i < n → StB H' d g c b → Kp d g H H' → Q (.int i) H'
def spPick (K : PySem.W.Frag) : Sp := fun vs H Q _ => ∃ (d g c : Addr) (b : Nat) (a : Addr) (xs : List V), vs = [.ref d, .ref a] ∧ StB H d g c (b + 1) ∧ SqL K H a xs ∧ a ≠ d ∧ a ≠ g ∧ 0 < xs.length ∧ xs.length < 1000 ∧
  ∀ v H', v ∈ xs → StB H' d g c b → Kp d g H H' → Q v H'
def spBegun (K : PySem.W.Frag) : Sp := fun vs H Q _ => ∃ (a : Addr) (ns : List Int), vs = [.ref a] ∧ SqL K H a (ns.map V.int) ∧ ns.length ≤ 63 ∧
  ∀ d g c H', StB H' d g c (2 ^ 39) → (∀ x o, H x = some o → H' x = some o) → H d = none → H g = none → H c = none → Q (.ref d) H'

theorem kstr {x y : Str} (h : x ≠ y) : ¬ (Sum.inr x : Key) = Sum.inr y := fun e => h (Sum.inr.inj e)
end SR

set_option Elab.async false
set_option linter.all false
set_option maxRecDepth 100000
set_option maxHeartbeats 4000000
namespace SR
open PySem L2
section
variable {H : Hp} {d g c : Addr} {r t : Int} {K : PySem.W.Frag}
theorem get_great (h : H d = some (.dK (stK g c r t))) : DGet H d (.str "great") (some (.ref g)) := .inl ⟨_, .inr "great", .inl h, rfl, by rw [stK, valV_pos rfl]⟩
theorem get_cells (h : H d = some (.dK (stK g c r t))) : DGet H d (.str "cells") (some (.ref c)) := .inl ⟨_, .inr "cells", .inl h, rfl, by rw [stK, valV_neg (kstr (by decide +kernel)), valV_pos rfl]⟩
theorem get_rest (h : H d = some (.dK (stK g c r t))) : DGet H d (.str "rest") (some (.int r)) := .inl ⟨_, .inr "rest", .inl h, rfl, by rw [stK, valV_neg (kstr (by decide +kernel)), valV_neg (kstr (by decide +kernel)), valV_pos rfl]⟩
theorem get_turn (h : H d = some (.dK (stK g c r t))) : DGet H d (.str "turn") (some (.int t)) := .inl ⟨_, .inr "turn", .inl h, rfl, by rw [stK, valV_neg (kstr (by decide +kernel)), valV_neg (kstr (by decide +kernel)), valV_neg (kstr (by decide +kernel)), valV_pos rfl]⟩
theorem putK_rest (y : Int) : putK (stK g c r t) (.inr "rest") (.int y) = stK g c y t := by
  have n1 : ¬ ("great" : Str) = "rest" := by decide +kernel
  have n2 : ¬ ("cells" : Str) = "rest" := by decide +kernel
  have n3 : ¬ ("turn" : Str) = "rest" := by decide +kernel
  simp [putK, stK, n1, n2, n3]
theorem putK_turn (y : Int) : putK (stK g c r t) (.inr "turn") (.int y) = stK g c r y := by
  have n1 : ¬ ("great" : Str) = "turn" := by decide +kernel
  have n2 : ¬ ("cells" : Str) = "turn" := by decide +kernel
  have n3 : ¬ ("rest" : Str) = "turn" := by decide +kernel
  simp [putK, stK, n1, n2, n3]
theorem put_rest (y : Int) (h : H d = some (.dK (stK g c r t))) : DPut H d (.str "rest") (.int y) (upd H d (.dK (stK g c y t))) :=
  .inl ⟨_, .inr "rest", h, rfl, small1000 (by show 4 ≤ 1000; decide), by rw [putK_rest]⟩
theorem put_turn (y : Int) (h : H d = some (.dK (stK g c r t))) : DPut H d (.str "turn") (.int y) (upd H d (.dK (stK g c r y))) :=
  .inl ⟨_, .inr "turn", h, rfl, small1000 (by show 4 ≤ 1000; decide), by rw [putK_turn]⟩
/-- the state with another rest, another turn -/
theorem St0.rest {b : Nat} {gs cs : List Int} (h : St0 H d g c b r t gs cs) (y : Int) : St0 (upd H d (.dK (stK g c y t))) d g c b y t gs cs :=
  ⟨upd_same, by rw [upd_ne h.dg.symm]; exact h.2.1, by rw [upd_ne h.dc.symm]; exact h.2.2.1, h.2.2.2⟩
theorem St0.turn {b : Nat} {gs cs : List Int} (h : St0 H d g c (b + 1) r t gs cs) : St0 (upd H d (.dK (stK g c r (t + 1)))) d g c b r (t + 1) gs cs :=
  ⟨upd_same, by rw [upd_ne h.dg.symm]; exact h.2.1, by rw [upd_ne h.dc.symm]; exact h.2.2.1, h.2.2.2.1, by have := h.2.2.2.2; omega, by have := h.2.2.2.2; omega⟩
theorem St0.pop {b : Nat} {x : Int} {gs cs : List Int} (h : St0 H d g c b r t (x :: gs) cs) : St0 (upd H g (.lst (gs.map V.int))) d g c b r t gs cs :=
  ⟨by rw [upd_ne h.dg]; exact h.1, upd_same, by rw [upd_ne h.2.2.2.1.symm]; exact h.2.2.1, h.2.2.2⟩
theorem St0.new {b : Nat} {gs cs : List Int} (h : St0 H d g c b r t gs cs) {p : Addr} {o : HO} (hp : H p = none) : St0 (upd H p o) d g c b r t gs cs :=
  ⟨by rw [upd_ne (ne_of_none h.1 hp)]; exact h.1, by rw [upd_ne (ne_of_none h.2.1 hp)]; exact h.2.1, by rw [upd_ne (ne_of_none h.2.2.1 hp)]; exact h.2.2.1, h.2.2.2⟩
theorem Kp.own {o : HO} : Kp d g H (upd H d o) := fun a u h1 _ e => by rw [upd_ne h1]; exact e
theorem Kp.ownG {o : HO} : Kp d g H (upd H g o) := fun a u _ h2 e => by rw [upd_ne h2]; exact e
end
def primes : List Int := [2147483629, 2147483587, 2147483579, 2147483563, 2147483549, 2147483543]
theorem primes_mem {i : Nat} {x : V} (h : (primes.map V.int)[i]? = some x) : ∃ p : Int, x = .int p ∧ 2147483543 ≤ p ∧ p ≤ 2147483629 := by
  have hx := List.mem_of_getElem? h
  obtain ⟨p, hp, rfl⟩ := List.mem_map.mp hx
  refine ⟨p, rfl, ?_⟩
  simp [primes] at hp
  omega
theorem ints_at {ns : List Int} {i : Nat} {x : V} (h : (ns.map V.int)[i]? = some x) : ∃ z, ns[i]? = some z ∧ x = .int z := by
  rw [List.getElem?_map] at h
  cases e : ns[i]? with
  | none => rw [e] at h; cases h
  | some z => rw [e] at h; exact ⟨z, rfl, (Option.some.inj h).symm⟩
def t_mixed (K : PySem.W.Frag) : TS := tSeq (tAsg (tOp qAdd (tDGet (tVar 0) (tC (.str "turn"))) (tC (.int 1))) (gName 1))
  (tSeq (sDPut (tVar 0) (tC (.str "turn")) (tVar 1))
  (tSeq (tAsg (tC (.int 0)) (gName 2))
  (tSeq (tFor (iList K (tLst (tCons (tC (.int 2147483629)) (tCons (tC (.int 2147483587)) (tCons (tC (.int 2147483579)) (tCons (tC (.int 2147483563)) (tCons (tC (.int 2147483549)) (tCons (tC (.int 2147483543)) (tNil))))))))) (gName 3)
  (tSeq (tAsg (tOp qAdd (tOp qMul (tC (.int 130363)) (tVar 1)) (tOp qFd (tVar 3) (tC (.int 13)))) (gName 4))
  (tSeq (tFor (iList K (tDGet (tVar 0) (tC (.str "cells")))) (gName 5)
  (tAsg (tOp qMod (tCB qInt1 (tCons (tOp qAdd (tOp qMul (tVar 4) (tC (.int 48271))) (tVar 5)) (tNil))) (tVar 3)) (gName 4)))
  (tAsg (tOp qAdd (tOp qMul (tVar 2) (tC (.int 2147483647))) (tOp qMod (tCB qInt1 (tCons (tOp qPow (tVar 4) (tC (.int 5))) (tNil))) (tVar 3))) (gName 2)))))
  (tRet (tVar 2)))))
theorem pure_mixed {K : PySem.W.Frag} (vs : List V) (H : Hp) (Q : VK) (E : XK) (h : spMixed vs H Q E) : t_mixed K { nx := fun _ H' => Q .non H', rt := Q } (start ["state", "turn", "found", "prime", "blend", "cell"] vs) H := by
  obtain ⟨d, g, c, b, rfl, r, t, gs, cs, S, k⟩ := h
  -- turn = state["turn"] + 1
  refine ⟨_, rfl, d, _, rfl, get_turn S.1, _, _, rfl, rfl, ?_⟩
  -- state["turn"] = turn
  refine ⟨_, rfl, _, rfl, d, _, rfl, put_turn (t + 1) S.1, ?_⟩
  have S1 := S.turn
  have kp1 : Kp d g H (upd H d (.dK (stK g c r (t + 1)))) := Kp.own
  generalize upd H d (.dK (stK g c r (t + 1))) = H1 at S1 kp1 ⊢
  -- found = 0; for prime in [..]
  refine ⟨by show 6 ≤ sizeLine; exact Nat.le_of_lt (small1000 (by decide)), fun l hl => ⟨l, rfl, ⟨_, SqL.of upd_same⟩, ?_⟩⟩
  have S2 := S1.new (o := .lst (primes.map V.int)) hl
  have kp2 : Kp d g H (upd H1 l (.lst (primes.map V.int))) := kp1.trans (Kp.new hl)
  have hL : upd H1 l (.lst (primes.map V.int)) l = some (.lst (primes.map V.int)) := upd_same
  have ht := S2.2.2.2.2
  refine for_list (K := K) (a := l) (xs := primes.map V.int) (fun i σ H2 => H2 = upd H1 l (.lst (primes.map V.int)) ∧ ∃ (f : Int) (v3 v4 v5 : Option V), σ = [some (.ref d), some (.int (t + 1)), some (.int f), v3, v4, v5])
    ⟨rfl, 0, none, none, none, rfl⟩ (fun i σ H2 _ e => e.1 ▸ SqL.of hL) ?_ ?_
  · rintro i x σ H2 hi ⟨rfl, f, v3, v4, v5, rfl⟩
    obtain ⟨p, rfl, hp1, hp2⟩ := primes_mem hi
    generalize upd H1 l (.lst (primes.map V.int)) = H3 at S2 kp2 hL
    -- blend = 130363 * turn + prime // 13
    refine ⟨_, rfl, 130363, t + 1, rfl, rfl, .inl ⟨by decide, by decide⟩, _, rfl, _, _, rfl, rfl, ⟨by decide, by decide⟩, _, _, rfl, rfl, ?_⟩
    -- for cell in state["cells"]
    refine ⟨_, rfl, d, _, rfl, get_cells S2.1, c, rfl, ⟨_, SqL.of S2.2.2.1⟩, ?_⟩
    refine for_list (K := K) (a := c) (xs := cs.map V.int) (fun j σ H4 => H4 = H3 ∧ ∃ (bl : Int) (w5 : Option V), σ = [some (.ref d), some (.int (t + 1)), some (.int f), some (.int p), some (.int bl), w5] ∧ bl.natAbs < 2 ^ 64)
      ⟨rfl, _, v5, rfl, ?_⟩ (fun j σ H4 _ e => e.1 ▸ SqL.of S2.2.2.1) ?_ ?_
    · have : p.fdiv 13 = p / 13 := Int.fdiv_eq_ediv_of_nonneg _ (by decide)
      rw [this]; omega
    · rintro j x σ H4 hj ⟨rfl, bl, w5, rfl, hb⟩
      obtain ⟨z, _, rfl⟩ := ints_at hj
      refine ⟨_, rfl, bl, 48271, rfl, rfl, .inr ⟨by decide, by decide⟩, _, rfl, _, _, rfl, rfl, .inl ⟨_, rfl, _, rfl, _, p, rfl, rfl, by omega, ?_⟩⟩
      refine ⟨rfl, _, _, rfl, ?_⟩
      have h0 : 0 ≤ (bl * 48271 + z).fmod p := Int.fmod_nonneg_of_pos _ (by omega)
      have h1 : (bl * 48271 + z).fmod p < p := Int.fmod_lt_of_pos _ (by omega)
      omega
    · rintro σ H4 ⟨rfl, bl, w5, rfl, hb⟩
      -- found = found * 2147483647 + int(blend ** 5) % prime
      refine ⟨_, rfl, f, 2147483647, rfl, rfl, .inr ⟨by decide, by decide⟩, _, rfl, bl, 5, rfl, rfl, ⟨by decide, by decide, hb⟩, .inl ⟨_, rfl, _, rfl, _, p, rfl, rfl, by omega, _, _, rfl, rfl, ?_⟩⟩
      exact ⟨rfl, _, _, _, _, rfl⟩
  · rintro σ H2 ⟨rfl, f, v3, v4, v5, rfl⟩
    exact ⟨_, rfl, k f _ S2 kp2⟩
end SR

set_option Elab.async false
set_option linter.all false
set_option maxRecDepth 100000
set_option maxHeartbeats 4000000
namespace SR
open PySem L2
/-! ### data -/
theorem SqL.same {K : PySem.W.Frag} {H H' : Hp} {a : Addr} {xs : List V} (e : Same H H') (h : SqL K H a xs) : SqL K H' a xs := Same.seq e h
theorem SqT.same {K : PySem.W.Frag} {H H' : Hp} {a : Addr} {xs : List V} (e : Same H H') (h : SqT K H a xs) : SqT K H' a xs := by
  rcases h with (h | ⟨o, h⟩) | h
  · exact .inl (.inl (e _ _ h))
  · exact .inl (.inr ⟨o, e _ _ h⟩)
  · exact .inr h
mutual
theorem Dp.same {K : PySem.W.Frag} {H H' : Hp} (e : Same H H') : ∀ (d : PyData) (v : V), Dp K H v d → Dp K H' v d
  | .none, _, h => by cases h; exact .non
  | .bool _, _, h => by cases h; exact .bl _
  | .int _, _, h => by cases h; exact .int _
  | .str _, _, h => by cases h; exact .str _
  | .list ds, _, h => by
    cases h with
    | lst h1 h2 => exact .lst (SqL.same e h1) (DpAll.same e ds _ h2)
  | .tuple ds, _, h => by
    cases h with
    | tup h1 h2 => exact .tup (SqT.same e h1) (DpAll.same e ds _ h2)
  | .dict _, _, h => nomatch h
theorem DpAll.same {K : PySem.W.Frag} {H H' : Hp} (e : Same H H') : ∀ (ds : List PyData) (vs : List V), DpAll K H vs ds → DpAll K H' vs ds
  | [], _, h => by cases h; exact .nil
  | d :: ds, _, h => by
    cases h with
    | cons h1 h2 => exact .cons (Dp.same e d _ h1) (DpAll.same e ds _ h2)
end
theorem dp_ints {K : PySem.W.Frag} {H : Hp} : ∀ ns : List Int, DpAll K H (ns.map V.int) (ns.map PyData.int)
  | [] => .nil
  | n :: ns => .cons (.int n) (dp_ints ns)
theorem lay_ints : ∀ ns : List Int, PyData.canLayAll0 (ns.map PyData.int) = true
  | [] => rfl
  | n :: ns => by
    show (PyData.canLay0 (PyData.int n) && PyData.canLayAll0 (ns.map PyData.int)) = true
    rw [lay_ints ns] <;> rfl
theorem depth_ints : ∀ ns : List Int, PyData.depthAll (ns.map PyData.int) = 0
  | [] => rfl
  | n :: ns => by
    show max (PyData.depth (PyData.int n)) (PyData.depthAll (ns.map PyData.int)) = 0
    rw [depth_ints ns]
    simp [PyData.depth]
theorem shaped_list {ds : List PyData} (h : PyData.canLayAll0 ds = true) (h2 : PyData.depthAll ds ≤ 60) : SeqAt.shaped (.list ds) = true := by
  have e1 : PyData.canLay0 (.list ds) = true := h
  have e2 : PyData.depth (.list ds) ≤ 64 := by simp only [PyData.depth]; omega
  unfold SeqAt.shaped
  rw [e1, decide_eq_true e2] <;> rfl
theorem shaped_tup {ds : List PyData} (h : PyData.canLayAll0 ds = true) (h2 : PyData.depthAll ds ≤ 60) : SeqAt.shaped (.tuple ds) = true := by
  have e1 : PyData.canLay0 (.tuple ds) = true := h
  have e2 : PyData.depth (.tuple ds) ≤ 64 := by simp only [PyData.depth]; omega
  unfold SeqAt.shaped
  rw [e1, decide_eq_true e2] <;> rfl
theorem shaped_ints (ns : List Int) : SeqAt.shaped (.list (ns.map PyData.int)) = true := shaped_list (lay_ints ns) (by rw [depth_ints]; decide)
/-! ### the heap without the state -/
def hid (d g : Addr) (H : Hp) : Hp := fun a => if a = d ∨ a = g then none else H a
theorem hid_some {d g : Addr} {H : Hp} {a : Addr} {o : HO} (h : hid d g H a = some o) : H a = some o ∧ a ≠ d ∧ a ≠ g := by
  unfold hid at h
  by_cases e : a = d ∨ a = g
  · rw [if_pos e] at h; cases h
  · rw [if_neg e] at h
    exact ⟨h, fun z => e (.inl z), fun z => e (.inr z)⟩
theorem hid_of {d g : Addr} {H : Hp} {a : Addr} {o : HO} (h : H a = some o) (h1 : a ≠ d) (h2 : a ≠ g) : hid d g H a = some o := by
  unfold hid
  rw [if_neg (fun e => e.elim h1 h2)]
  exact h
theorem hid_same {d g : Addr} {H : Hp} : Same (hid d g H) H := fun _ _ h => (hid_some h).1
theorem Kp.hid {d g : Addr} {H H' : Hp} (k : Kp d g H H') : Same (hid d g H) (hid d g H') := fun a o h => by
  obtain ⟨h0, h1, h2⟩ := hid_some h
  exact hid_of (k a o h1 h2 h0) h1 h2
theorem Kp.of_same {d g : Addr} {H H' : Hp} (k : Same H H') : Kp d g H H' := fun a o _ _ h => k a o h
/-! ### take -/
def t_take (K : PySem.W.Frag) : TS := tSeq (tIfS (tAnd (tTest (tOp rEq (tDGet (tVar 0) (tC (.str "rest"))) (tC (.int 0)))) (tTest (tOp (rNeD K) (tDGet (tVar 0) (tC (.str "great"))) (tLst (tNil)))))
  (sDPut (tVar 0) (tC (.str "rest")) (tBM K "list" rPopAt (tDGet (tVar 0) (tC (.str "great"))) (tCons (tC (.int 0)) (tNil))))
  (tIfS (tTest (tOp rEq (tDGet (tVar 0) (tC (.str "rest"))) (tC (.int 0))))
  (sDPut (tVar 0) (tC (.str "rest")) (tCall spMixed [] E0 (tCons (tVar 0) (tNil))))
  (tNext)))
  (tSeq (tAsg (tOp qMod (tCB qInt1 (tCons (tDGet (tVar 0) (tC (.str "rest"))) (tNil))) (tVar 1)) (gName 2))
  (tSeq (sDPut (tVar 0) (tC (.str "rest")) (tOp qFd (tDGet (tVar 0) (tC (.str "rest"))) (tVar 1)))
  (tRet (tVar 2))))
theorem pure_take {K : PySem.W.Frag} (vs : List V) (H : Hp) (Q : VK) (E : XK) (h : spTake vs H Q E) : t_take K { nx := fun _ H' => Q .non H', rt := Q } (start ["state", "size", "found"] vs) H := by
  obtain ⟨d, g, c, b, n, rfl, ⟨r, t, gs, cs, S⟩, hn0, hn1, k⟩ := h
  -- behind the if
  have fin : ∀ (H1 : Hp) (r1 t1 : Int) (gs1 : List Int), St0 H1 d g c b r1 t1 gs1 cs → Kp d g H H1 →
      (tSeq (tAsg (tOp qMod (tCB qInt1 (tCons (tDGet (tVar 0) (tC (.str "rest"))) (tNil))) (tVar 1)) (gName 2))
        (tSeq (sDPut (tVar 0) (tC (.str "rest")) (tOp qFd (tDGet (tVar 0) (tC (.str "rest"))) (tVar 1))) (tRet (tVar 2)))) { nx := fun _ H' => Q .non H', rt := Q } [some (.ref d), some (.int n), none] H1 := by
    intro H1 r1 t1 gs1 S1 kp
    refine ⟨_, rfl, d, _, rfl, get_rest S1.1, .inl ⟨_, rfl, _, rfl, r1, n, rfl, rfl, by omega, ?_⟩⟩
    refine ⟨_, rfl, d, _, rfl, get_rest S1.1, _, rfl, r1, n, rfl, rfl, ⟨by omega, by omega⟩, _, rfl, d, _, rfl, put_rest _ S1.1, _, rfl, ?_⟩
    exact k _ _ (Int.fmod_nonneg_of_pos _ hn0) (Int.fmod_lt_of_pos _ hn0) ⟨_, _, _, _, S1.rest _⟩ (kp.trans Kp.own)
  have S' : St0 H d g c b r t gs cs := ⟨S.1, S.2.1, S.2.2.1, S.2.2.2.1, S.2.2.2.2.1, by have := S.2.2.2.2.2; omega⟩
  refine ⟨_, rfl, d, _, rfl, get_rest S.1, rfl, _, rfl, ?_⟩
  by_cases e : r = 0
  · subst e
    rw [decide_eq_true (rfl : V.int 0 = V.int 0)]
    refine iteT ⟨_, rfl, d, _, rfl, get_great S.1, by show 0 ≤ sizeLine; exact Nat.zero_le _, fun p hp => ⟨.list (gs.map PyData.int), .list [], ?_, ?_, shaped_ints gs, shaped_ints [], _, rfl, ?_⟩⟩
    · exact .lst (SqL.of (by rw [upd_ne (ne_of_none S.2.1 hp)]; exact S.2.1)) (dp_ints gs)
    · exact .lst (SqL.of upd_same) .nil
    have S2 := S'.new (o := .lst []) hp
    have S2b := S.new (o := .lst []) hp
    have kp2 : Kp d g H (upd H p (.lst [])) := Kp.new hp
    cases gs with
    | nil =>
      -- great is empty: the state is mixed
      rw [show (!PyData.eqv (.list (([] : List Int).map PyData.int)) (.list [])) = false from rfl]
      refine iteF ⟨_, rfl, d, _, rfl, get_rest S2.1, rfl, _, rfl, ?_⟩
      rw [decide_eq_true (rfl : V.int 0 = V.int 0)]
      refine iteT ⟨_, rfl, d, g, c, b, rfl, _, _, _, _, S2b, fun i H3 S3 kp3 => ⟨_, rfl, d, _, rfl, put_rest i S3.1, ?_⟩⟩
      exact fin _ _ _ _ (S3.rest i) ((kp2.trans kp3).trans Kp.own)
    | cons x gs =>
      rw [show (!PyData.eqv (.list ((x :: gs).map PyData.int)) (.list [])) = true from rfl]
      refine iteT ⟨_, rfl, d, _, rfl, get_great S2.1, .inl ⟨rfl, _, .inl (.inl S2.2.1)⟩, g, _, 0, 0, .int x, rfl, rfl, S2.2.1, by decide, by decide, ?_, rfl, ?_⟩
      · simp [seqIndex?]
      have S3 := S2.pop
      refine ⟨_, rfl, d, _, rfl, put_rest x S3.1, ?_⟩
      exact fin _ _ _ _ (S3.rest x) ((kp2.trans Kp.ownG).trans Kp.own)
  · have e1 : ¬ V.int r = V.int 0 := fun z => e (by injection z)
    rw [decide_eq_false e1]
    refine iteF ⟨_, rfl, d, _, rfl, get_rest S.1, rfl, _, rfl, ?_⟩
    rw [decide_eq_false e1]
    exact iteF (fin _ _ _ _ S' (Kp.refl H))
/-! ### pick -/
def t_pick (K : PySem.W.Frag) : TS := tRet (tOp (rIxL K) (tVar 1) (tCall spTake [] E0 (tCons (tVar 0) (tCons (tCB (qLen K) (tCons (tVar 1) (tNil))) (tNil)))))
theorem SqL.kp {K : PySem.W.Frag} {d g a : Addr} {H H' : Hp} {xs : List V} (k : Kp d g H H') (h : SqL K H a xs) (h1 : a ≠ d) (h2 : a ≠ g) : SqL K H' a xs := by
  rcases h with (h | ⟨o, h⟩) | h
  · exact .inl (.inl (k _ _ h1 h2 h))
  · exact .inl (.inr ⟨o, k _ _ h1 h2 h⟩)
  · exact .inr h
theorem pure_pick {K : PySem.W.Frag} (vs : List V) (H : Hp) (Q : VK) (E : XK) (h : spPick K vs H Q E) : t_pick K { nx := fun _ H' => Q .non H', rt := Q } (start ["state", "some"] vs) H := by
  obtain ⟨d, g, c, b, a, xs, rfl, S, hL, h1, h2, h3, h4, k⟩ := h
  refine ⟨_, rfl, _, rfl, _, rfl, _, xs, rfl, .inl hL, d, g, c, b, xs.length, rfl, S, by omega, by omega, fun i H1 hi0 hi1 S1 kp => ?_⟩
  obtain ⟨j, rfl⟩ : ∃ j : Nat, i = (j : Int) := ⟨i.toNat, by omega⟩
  have hj : j < xs.length := by omega
  exact ⟨a, xs, j, xs[j], rfl, rfl, SqL.kp kp hL h1 h2, atI_nat (List.getElem?_eq_getElem hj), k _ _ (List.getElem_mem hj) S1 kp⟩
/-! ### begun -/
def t_begun (K : PySem.W.Frag) : TS := tSeq (tAsg (tLc (iList K (tVar 0)) (gName 2) (tTest (tOp qGe (tVar 2) (tOp qPow (tC (.int 10)) (tC (.int 18))))) (tOp qSub (tVar 2) (tOp qPow (tC (.int 10)) (tC (.int 18)))) [2]) (gName 1))
  (tRet (tDisp ((tC (.str "great"), tVar 1) :: (tC (.str "cells"), tCB (qListOf K) (tCons (tVar 0) (tNil))) :: (tC (.str "rest"), tC (.int 0)) :: (tC (.str "turn"), tC (.int 0)) :: [])))
theorem merge_st {g c : Addr} : mergeK [] [((.inr "great" : Key), V.ref g), (.inr "cells", .ref c), (.inr "rest", .int 0), (.inr "turn", .int 0)] = stK g c 0 0 := by
  have n1 : ¬ ("great" : Str) = "cells" := by decide +kernel
  have n2 : ¬ ("great" : Str) = "rest" := by decide +kernel
  have n3 : ¬ ("cells" : Str) = "rest" := by decide +kernel
  have n4 : ¬ ("great" : Str) = "turn" := by decide +kernel
  have n5 : ¬ ("cells" : Str) = "turn" := by decide +kernel
  have n6 : ¬ ("rest" : Str) = "turn" := by decide +kernel
  simp [mergeK, putK, stK, n1, n2, n3, n4, n5, n6]
theorem pure_begun {K : PySem.W.Frag} (vs : List V) (H : Hp) (Q : VK) (E : XK) (h : spBegun K vs H Q E) : t_begun K { nx := fun _ H' => Q .non H', rt := Q } (start ["script", "wide", "cell"] vs) H := by
  obtain ⟨a, ns, rfl, hL, hlen, k⟩ := h
  refine ⟨_, rfl, a, rfl, ⟨_, hL⟩, fun D hD => lc_list (K := K) (a := a) (xs := ns.map V.int) (fun i H2 => ∃ zs : List Int, H2 D = some (.lst (zs.map V.int)) ∧ zs.length ≤ i ∧ Same H H2)
    ⟨[], upd_same, Nat.le_refl _, fun b o e => by rw [upd_ne (ne_of_none e hD)]; exact e⟩ (fun i H2 _ ⟨_, _, _, s⟩ => Same.seq s hL) ?_ ?_⟩
  · rintro i x H2 hi ⟨zs, h1, h2, s⟩
    have hil := (List.getElem?_eq_some_iff.mp hi).1
    rw [List.length_map] at hil
    obtain ⟨z, _, rfl⟩ := ints_at hi
    refine ⟨rfl, _, rfl, 10, 18, rfl, rfl, ⟨by decide, by decide, by decide⟩, z, _, rfl, rfl, _, rfl, ?_⟩
    refine ite2 (fun _ => ?_) (fun _ => ⟨zs, h1, by omega, s⟩)
    refine ⟨_, rfl, 10, 18, rfl, rfl, ⟨by decide, by decide, by decide⟩, z, _, rfl, rfl, _, h1, small1000 (by rw [List.length_map]; omega), ?_⟩
    refine ⟨zs ++ [z - 10 ^ (18 : Int).toNat], by rw [upd_same, List.map_append]; rfl, by rw [List.length_append, List.length_singleton]; omega, fun b o e => ?_⟩
    rw [upd_ne (ne_of_none e hD)]
    exact s b o e
  · rintro H2 ⟨zs, h1, h2, s⟩
    -- return {..}
    refine fun p hp => ?_
    have npD : p ≠ D := fun e => by rw [e] at hp; rw [h1] at hp; cases hp
    refine ⟨_, rfl, _, rfl, a, _, rfl, .inl (Same.seq (fun b o e => by rw [upd_ne (ne_of_none e hp)]; exact e) (Same.seq s hL)), fun l hl => ?_⟩
    have nlp : p ≠ l := fun e => by rw [← e, upd_same] at hl; cases hl
    have hl2 : H2 l = none := by rw [upd_ne nlp.symm] at hl; exact hl
    have nlD : D ≠ l := ne_of_none h1 hl2
    refine ⟨by rw [upd_ne nlp, upd_same], [((.inr "great" : Key), V.ref D), (.inr "cells", .ref l), (.inr "rest", .int 0), (.inr "turn", .int 0)], rfl, by show 4 ≤ 15; decide, ?_⟩
    rw [merge_st]
    refine k p D l _ ⟨0, 0, zs, ns, upd_same, ?_, ?_, nlD, by decide, by decide⟩ (fun x o e => ?_) ?_ hD ?_
    · rw [upd_ne npD.symm, upd_ne nlD, upd_ne npD.symm]; exact h1
    · rw [upd_ne nlp.symm, upd_same]
    · have e2 := s x o e
      rw [upd_ne (ne_of_none e2 hp), upd_ne (ne_of_none e2 hl2), upd_ne (ne_of_none e2 hp)]
      exact e2
    · exact Same.free s hp
    · exact Same.free s hl2
end SR

set_option Elab.async false
set_option linter.all false
set_option maxRecDepth 100000
set_option maxHeartbeats 4000000
/-! SRR: rules of my own over the hand layer. -/
namespace SR
open PySem PySem.Spec PyProof.Rows L2
/-! ### defs that are called where no container is being written out (repr) -/
abbrev Gs (A : Around) : Prop := A.guards = some []
theorem Gs.deep {A : Around} (h : Gs A) (env : Env) : Gs (A.deeper env) := h
/-- as FnOk, but promised only under Gs -/
structure FnG (P : Program) (w : World) (K : PySem.W.Frag) (mg : Str → Option Value) (base : Heap) (CX : CXT) (k : Nat) (f : Addr) (fd : FuncData) (ps : List Str) (sp : Sp) : Prop where
  size : ∀ vs H Q E, sp vs H Q E → vs.length = ps.length
  goes : ∀ (A : Around) (out : List Env) (s : Shared) (H : Hp) (gv : Args) (us : List Value) (vs : List V) (Q : VK) (E : XK), Gs A → Room k A → Env0 P w K mg base A out s H → BindsTo s fd gv (ps.zip us) → Vals vs us → sp vs H Q E →
    codeAny (model P w) A (.call (.ref f) gv) (CR CX out P w H s Q E) s
section
variable {X : Cx} {CX : CXT} {k : Nat} {f : Addr} {fd : FuncData} {ps : List Str} {sp : Sp} {dvs : List V} {ds : List Value} {E : XK} {x : Str} {p pos : Pos} {e : Expr} {es : List Expr} {t : TA}
theorem FnG.at (F : FnG X.prog X.w X.K X.mg X.base CX k f fd ps sp) (hgs : Gs X.A) {pins : List (Addr × Obj)} {σ : L2.St} {H : Hp} {s : Shared} {Q : VK} {us : List Value} {vs : List V} (hr : Room k X.A) (hb : Binds X.K fd ps ds) (hd : Vals dvs ds) (hx : Passes CX X E)
    (I : Inv X pins σ H s) (r : Vals vs us) (h : sp (vs ++ dvs) H Q E) : wpAny (model X.prog X.w) X.A (call (.ref f) us) (EP X pins σ Q) X.xe s := by
  have both : Vals (vs ++ dvs) (us ++ ds) := r.append hd
  have lens : (us ++ ds).length = ps.length := both.length.symm.trans (F.size _ _ _ _ h)
  refine wpAny_call (codeAny_mono (F.goes _ _ s H _ _ _ Q E hgs hr I.env0 (hb s us I.kIn lens) both h) fun out s2 hq => ?_)
  match out, hq with
  | .error e, hq => exact hx _ _ _ _ e s2 I hq
  | .ok (.ret u), hq => exact I.after hq
theorem pe_callG1 (F : FnG X.prog X.w X.K X.mg X.base CX k f fd ps sp) (hgs : Gs X.A) (hr : Room k X.A) (hg : Gl X x) (hm : X.mg x = some (.ref f)) (hk : PySem.W.keepIn X.K (.ref f) = true) (hb : Binds X.K fd ps ds) (hd : Vals dvs ds) (hx : Passes CX X E)
    (ha : PA X (e :: es) t) (hdb : (x == ("__debug__" : Str)) = false := by decide) (he : starEach (e :: es) X.env = (false, eval e X.env) :: starEach es X.env := by rfl) (hpl : (backTo pos (starEach es X.env)).any (·.1) = false := by rfl) :
    PE X (.Call (.Name x p) (e :: es) [] pos) (tCall sp dvs E t) := ⟨fun pins s σ H Q I h =>
  wpAny_Call_Name_kw (ld_glob I hg hm (PySem.W.callWith_K (h₀ := X.base) I.ok.mod.kin hk (thn (ha.run pos pins s σ H _ I h) fun _ _ ⟨_, _, I1, r, q⟩ => ⟨I1.kIn, F.at hgs hr hb hd hx I1 r q⟩) he hpl) hdb)⟩
end
section
variable {P : Program} {w : World} {K : PySem.W.Frag} {mg : Str → Option Value} {base : Heap} {x qual : Str} {params : Arguments} {body : List Stmt} {scope : Scope} {dvs : List V} {kws : List (Str × V)} {f : Addr} {fd : FuncData}
/-- a def's body under Gs: by FnOk of the very def, whose context is given -/
theorem okG {CX : CXT} {N ps : List Str} {k : Nat} {sp : Sp} (F : FunD K x qual params body scope dvs kws f fd) (S : FnScope N ps scope) (len : ∀ vs H Q E, sp vs H Q E → vs.length = ps.length)
    (hbody : ∀ (cdv : Value) (A : Around) (outer : List Env) (s : Shared) (H : Hp) (vs : List V) (Q : VK) (E : XK), Gs A → Room k (A.deeper (envOfC qual scope s.heap.objs.size f cdv)) → sp vs H Q E →
      ∃ t, PSs (cxOf CX P w K mg base N qual scope f cdv A outer s H E) body t ∧ t { nx := fun _ H' => Q .non H', rt := Q } (start N vs) H) : FnG P w K mg base CX (k + 1) f fd ps sp := by
  refine ⟨len, fun A out s H gv us vs Q E hgs hr e0 hb hv hs => ?_⟩
  obtain ⟨oc, od, dV, kV, doc, pm, an, cdv, ct, osl, rfl, lk, hcd, _, _⟩ := F.ex
  have hl := len _ _ _ _ hs
  have old : ∀ b o, base.get? b = some o → s.heap.get? b = some o := fun b o z => (e0.bs b o z).1
  have KX : K.In s.heap := e0.mod.kin.keeps old
  refine codeAny_call_function hr.depth (KX _ _ lk) rfl S.co S.gen rfl (PySem.W.codeRec_of KX hcd) (hb _ _ _ _ ?_)
  have params_known : ∀ y ∈ ps.zip us, scope.names.lookup y.1 = some .local ∨ (scope.names.lookup y.1 = some .cell ∧ ((cellsFrom (s.heap.objs.size + 1) scope.names []).lookup y.1).isSome = true) := by
    rintro ⟨n, v⟩ hy
    exact (S.par n (List.of_mem_zip hy).1).imp id fun q => ⟨q, PySem.W.cellsFrom_some _ _ _ (.inl q)⟩
  refine wpAny_newFunctionEnv_cells S.kind params_known fun env he s1 z => ?_
  subst he
  refine ⟨(e0.mod.nolimit.keeps old).keeps z.toInCall.keep, codeAny_func ?_⟩
  obtain ⟨t, ht, hq⟩ := hbody cdv A out s H vs Q E hgs (hr.deeper _) hs
  refine wpAny_mono (ht.run [] s1 (start N vs) H _ (inv_start S hr.hd e0 hl hv z) hq) (fun fl s' hf => ?_) fun _ _ hf => hf
  match fl, hf with
  | .ret u, ⟨v, _, H', J, rv, q⟩ => exact ⟨v, H', J.os, J.bare, J.base, J.hok, rv, q⟩
  | .next, ⟨_, H', J, q⟩ => exact ⟨.non, H', J.os, J.bare, J.base, J.hok, rfl, q⟩
  | .brk, ⟨_, _, _, q⟩ => exact q.elim
  | .cont, ⟨_, _, _, q⟩ => exact q.elim
end
/-! ### repr of data -/
def dRepr : PyData → Str
  | .none => "None"
  | .bool b => if b then "True" else "False"
  | .int i => toString i
  | .str x => reprText x
  | d => d.shown
section
variable {X : Cx}
/-- repr(x), x data that can be shown -/
def rRepr (K : PySem.W.Frag) : List V → Hp → VK → Prop := fun xs H Q => ∃ x d, xs = [x] ∧ Dp K H x d ∧ d.showable = true ∧ d.depth ≤ 60 ∧ (dRepr d).length ≤ sizeLine ∧ Q (.str (dRepr d)) H
mutual
theorem dp_nodict {K : PySem.W.Frag} {H : Hp} : ∀ (d : PyData) (v : V), Dp K H v d → d.hasDict = false
  | .none, _, _ => rfl
  | .bool _, _, _ => rfl
  | .int _, _, _ => rfl
  | .str _, _, _ => rfl
  | .list ds, _, h => by
    cases h with
    | lst _ h2 => exact dp_nodicts ds _ h2
  | .tuple ds, _, h => by
    cases h with
    | tup _ h2 => exact dp_nodicts ds _ h2
  | .dict _, _, h => nomatch h
theorem dp_nodicts {K : PySem.W.Frag} {H : Hp} : ∀ (ds : List PyData) (vs : List V), DpAll K H vs ds → PyData.hasDictAll ds = false
  | [], _, _ => rfl
  | d :: ds, _, h => by
    cases h with
    | cons h1 h2 =>
      show (PyData.hasDict d || PyData.hasDictAll ds) = false
      rw [dp_nodict d _ h1, dp_nodicts ds _ h2] <;> rfl
end
theorem call_reprD (hgs : Gs X.A) (hu : X.A.units + 64 < cLine) : CallR X (.builtin "repr") (rRepr X.K) := by
  intro pins s σ H xs us Q I r h
  obtain ⟨x, d, rfl, hd, hsh, hdep, hz, q⟩ := h
  obtain ⟨u, rfl, ru⟩ := vals1 r
  cases hd with
  | non => cases (show u = Value.none from ru); exact PySem.P.repr_of_none ⟨.str _, H, I.tok _, ⟨_, rfl⟩, q⟩
  | bl b => cases (show u = Value.bool b from ru); exact PySem.P.repr_of_bool ⟨.str _, H, I.tok _, ⟨_, rfl⟩, q⟩
  | int i =>
    obtain ⟨t, rfl⟩ := (show ∃ t, u = Value.int i t from ru)
    exact PySem.P.repr_of_int (of_decide_eq_true hsh) ⟨.str _, H, I.tok _, ⟨_, rfl⟩, q⟩
  | str y =>
    obtain ⟨t, rfl⟩ := (show ∃ t, u = Value.str y t from ru)
    exact PySem.P.repr_of_str ⟨.str _, H, I.tok _, ⟨_, rfl⟩, q⟩ hz
  | @lst a xs ds h1 h2 =>
    have hd : Dp X.K H (.ref a) (.list ds) := .lst h1 h2
    obtain ⟨as, rd⟩ := Dp.reads I _ _ _ hd ru
    cases (show u = Value.ref a from ru)
    exact repr_of_reads' rd hsh (fun z => by rw [dp_nodict _ _ hd] at z; cases z) hgs (by omega) (fun _ _ z => z) (fun h' u' tk hk => ⟨.str _, H, I.kept hk, ⟨_, rfl⟩, q⟩) hz
  | @tup a xs ds h1 h2 =>
    have hd : Dp X.K H (.ref a) (.tuple ds) := .tup h1 h2
    obtain ⟨as, rd⟩ := Dp.reads I _ _ _ hd ru
    cases (show u = Value.ref a from ru)
    exact repr_of_reads' rd hsh (fun z => by rw [dp_nodict _ _ hd] at z; cases z) hgs (by omega) (fun _ _ z => z) (fun h' u' tk hk => ⟨.str _, H, I.kept hk, ⟨_, rfl⟩, q⟩) hz
end
/-! ### a law's end over FnG -/
theorem law_callG {P : Program} {w : World} {K : PySem.W.Frag} {mg mb : Str → Option Value} {CX : CXT} {k : Nat} {fa a : Addr} {fd : FuncData} {x : Str} {sp : Sp} {s : Shared} {vs : List Value} {ns : List Int}
    (KX : K.In s.heap) (hns : s.heap.Ns mainGlobals mg) (hb : s.heap.Ns builtinsNs mb) (hbb : ∀ x : Str, x ≠ "__name__" → mb x = bootBuiltins x) (hlim : s.heap.NoLimit) (hg : s.gens = #[])
    (ha : s.heap.get? a = some { cls := .type "list", data := .seq vs.toArray }) (hi : IntsAre vs ns) (hl : ns.length ≤ sizeLine) (hr : Room k callerA)
    (F : ∀ base : Heap, K.In base → base.Ns mainGlobals mg → FnG P w K mg base CX k fa fd [x] sp) (hbind : ∀ (s : Shared) (u : Value), BindsTo s fd ⟨[u], []⟩ [(x, u)])
    (hsp : ∀ H : Hp, Only H → SqL K H a (ns.map V.int) → sp [.ref a] H (fun v _ => v = .bl true) fun _ _ _ => False)
    (hCX : ∀ H e s', CX [] H s (fun _ _ _ => False) e s' → False) :
    codeAny (model P w) callerA (.call (.ref fa) ⟨[.ref a], []⟩) (fun r s' => r = .ok (.ret (.bool true)) ∧ OldK s.heap s'.heap ∧ s'.os = s.os ∧ AllBare s'.gens) s := by
  have rv := vals_ints hi
  -- H tracks the script at most; what it does not track is the base
  have run_at : ∀ H : Hp, Only H → SqL K H a (ns.map V.int) → HOk P w H s.heap → (∀ b, H b ≠ none → b = a ∧ K.lookup a = none) →
      codeAny (model P w) callerA (.call (.ref fa) ⟨[.ref a], []⟩) (fun r s' => r = .ok (.ret (.bool true)) ∧ OldK s.heap s'.heap ∧ s'.os = s.os ∧ AllBare s'.gens) s := by
    intro H hO hS hok hA
    have untr : ∀ {b : Addr} {o : Obj}, s.heap.get? b = some o → (b = a → False) → (hidT s.heap H).get? b = some o := fun {b o} z n => hidT_get z (by
      by_cases q : H b = none
      · exact q
      · exact (n (hA b q).1).elim)
    have ns_ : ∀ {b : Addr} {m : Str → Option Value}, s.heap.Ns b m → (hidT s.heap H).Ns b m := by
      rintro b m ⟨o, es, ep, z, dz, rest⟩
      refine ⟨o, es, ep, untr z (fun q => ?_), dz, rest⟩
      rw [q, ha] at z
      cases z
      cases dz
    have KB : K.In (hidT s.heap H) := fun b o z => by
      by_cases q : H b = none
      · exact hidT_get (KX b o z) q
      · obtain ⟨q1, q2⟩ := hA b q
        rw [q1, q2] at z
        cases z
    obtain ⟨mc, l1, l2⟩ := hlim
    have e0 : Env0 P w K mg (hidT s.heap H) callerA [] s H :=
      ⟨rfl, ⟨KB, ns_ hns, ⟨mb, ns_ hb, hbb⟩, ⟨mc, ns_ l1, l2⟩⟩, fun b o z => of_hidT z, Nat.le_of_eq (hidT_size _ _), trivial, fun b z => (List.not_mem_nil z).elim, hok, .of_eq hg⟩
    refine codeAny_mono ((F _ KB (ns_ hns)).goes callerA [] s H ⟨[.ref a], []⟩ [.ref a] [.ref a] _ _ rfl hr e0 (hbind s (.ref a)) (.cons rfl .nil) (hsp H hO hS)) fun r s' h => ?_
    match r, h with
    | .error e, h => exact (hCX H e s' h).elim
    | .ok (.ret u), ⟨v, H', os, bare, un, hok', rel, isT⟩ =>
      cases (show v = V.bl true from isT)
      cases (show u = Value.bool true from rel)
      refine ⟨rfl, OldK.of_keep fun b o z => ?_, os, bare⟩
      rcases hO b with q | ⟨ob, xs, q⟩
      · exact un.keep b o z q (List.not_mem_nil) (List.not_mem_nil)
      · have z1 := (hok b _ q).1
        have z2 := (hok' b _ (un.frzs b ob _ q)).1
        exact z2.trans (z1.symm.trans z)
  have lenV := hi.length
  by_cases hk : K.lookup a = none
  · refine run_at (fun b => if b = a then some (.frz { cls := .type "list", data := .seq vs.toArray } (.lst (ns.map V.int))) else none) (fun b => ?_) (.inl (.inr ⟨_, if_pos rfl⟩)) (fun b u z => ?_) (fun b z => ?_)
    · by_cases q : b = a
      · exact .inr ⟨_, _, if_pos q⟩
      · exact .inl (if_neg q)
    · by_cases q : b = a
      · subst q
        cases (if_pos rfl).symm.trans z
        exact ⟨ha, by rw [List.length_map]; exact hl, vs, _, rv, ha⟩
      · cases (if_neg q).symm.trans z
    · by_cases q : b = a
      · exact ⟨q, hk⟩
      · exact (z (if_neg q)).elim
  · obtain ⟨o, ho⟩ := Option.ne_none_iff_exists'.mp hk
    cases ha.symm.trans (KX a o ho)
    exact run_at (fun _ => none) (fun _ => .inl rfl) (.inr ⟨_, vs.toArray, _, ho, rfl, rfl, rfl, by rw [List.size_toArray, lenV]; exact hl, by simpa using rv⟩) (fun b u z => nomatch (show (none : Option HO) = some u from z)) fun b z => absurd rfl z
theorem walk_ofG {l : PySem.W.OpenLaw} {n k : Nat} {q : Program} {loose : List Str} {XP : (Str → Option Value) → Heap → Prop} {YP : World → Heap → Prop} {d : DefRec} {CX : CXT} {x : Str}
    (hn : l.most = some n) (hn2 : n ≤ sizeLine) (hdf : d.params.defaults = []) (hr : Room k callerA)
    (F : ∀ (w : World) (mg : Str → Option Value) (fa : Addr) (h : Heap), YP w h → h.Ns mainGlobals mg → mg d.name = some (.ref fa) →
      ∃ (K : PySem.W.Frag) (fd : FuncData) (sp : Sp), K.In h ∧ (∀ (s : Shared) (u : Value), BindsTo s fd ⟨[u], []⟩ [(x, u)]) ∧
        (∀ (H : Hp) (a : Addr) (ns : List Int), ns.length ≤ n → Only H → SqL K H a (ns.map V.int) → sp [.ref a] H (fun v _ => v = .bl true) fun _ _ _ => False) ∧
        ∀ base : Heap, K.In base → base.Ns mainGlobals mg → FnG l.prog w K mg base CX k fa fd [x] sp)
    (hCX : ∀ (H : Hp) (s : Shared) (e : Value) (s' : Shared), CX [] H s (fun _ _ _ => False) e s' → False) :
    PySem.W.WalkO q loose XP YP l.row.toRowW d [] (fun f vs => PySem.call f vs) :=
  Att.attach_call hn hdf fun w s₀ s₁ mg mb fa o pm cd doc a vs ns G Y ho hd hcd hmg hobj hints hlen hg => by
    obtain ⟨K, fd, sp, KX, hb, hsp, hF⟩ := F w mg fa _ Y G.T.g hmg
    exact law_callG KX G.T.g G.T.b G.T.builtins G.T.nolimit hg hobj hints (Nat.le_trans hlen hn2) hr hF hb (fun H hO hS => hsp H a ns hlen hO hS) fun H e s' => hCX H s₁ e s'
end SR

set_option Elab.async false
set_option linter.all false
set_option maxRecDepth 100000
set_option maxHeartbeats 4000000
/-! SRT: an error that is caught, kept under a name, and looked at behind the try. -/
namespace SR
open PySem PySem.Spec PyProof.Rows L2
/-- X, with one more object known -/
abbrev keepX (X : Cx) (pn : List (Addr × Obj)) : Cx := { X with pn := pn }
section
variable {X : Cx} {pins : List (Addr × Obj)} {σ : L2.St} {H : Hp} {s : Shared}
theorem ok_keep {X : Cx} (ok : X.Ok) (pn : List (Addr × Obj)) : (keepX X pn).Ok :=
  ⟨ok.mod, ok.kind, ok.glob, ok.blt, ok.above, ok.inj, ok.has, ok.cab, ok.hd, ok.frames, ok.stk, ok.exf, ok.bs, ok.bsz, ok.noex, ok.exfs, ok.funs, ok.frf⟩
theorem inv_keep {a : Addr} {q : List (Addr × Obj)} (I : Inv (X.suite a q) [] σ H s) (ok : X.Ok) : Inv (keepX X q) [] σ H s :=
  ⟨ok_keep ok _, I.os, I.bare, I.base, I.loc, I.cell, I.free, I.freeC, I.pin, I.hok, I.len⟩
theorem inv_drop {q : Addr × Obj} {p2 : List (Addr × Obj)} (I : Inv (keepX X (q :: (X.pn ++ pins))) p2 σ H s) (ok : X.Ok) : Inv X pins σ H s :=
  ⟨ok, I.os, I.bare, I.base, I.loc, I.cell, I.free, I.freeC, fun p hp => I.pin p (List.mem_append_left _ (List.mem_cons_of_mem _ hp)), I.hok, I.len⟩
end
/-- what is wished of an error of the body: i the clause's own name, j the name that keeps it; v: what follows then -/
def wKeep (K : PySem.W.Frag) (c : Value) (i j : Nat) (v : Addr → Value → Option Addr → TS) (Wout : WX) (D : Ends) : WX := fun cls d σ H =>
  ∃ b, PySem.W.exmOne K cls c = some b ∧ (b = true → ∀ a, H a = none → v a cls d D (((σ.set i (some (.ref a))).set j (some (.ref a))).set i none) H) ∧ (b = false → Wout cls d σ H)
section
variable {X : Cx} {x n y : Str} {c : Value} {i j : Nat} {body rest : List Stmt} {np n2 yp ap pos pos' : Pos} {tb : WX → TS} {u : TS} {v : Addr → Value → Option Addr → TS} {Wout : WX}
theorem pss_try_keep (hs : X.stack = X.env :: X.outer) (hf : X.env.frame = some X.env.locals) (hN : X.N.Nodup) (hi : X.N[i]? = some n) (hln : X.env.kindOf n = some .local) (hj : X.N[j]? = some y) (hly : X.env.scope.names.lookup y = some .local)
    (hc : Names X x c) (tk : Takes X Wout)
    (hb : ∀ (W : WX) (pn : List (Addr × Obj)) (xe : Value → Shared → Prop), Takes (X.tr pn xe) W → PassesOwn (model X.prog X.w) X.A X.env xe → PSs (X.tr pn xe) body (tb W))
    (hu : PSs X rest u) (hv : ∀ (a : Addr) (oe : Obj) (cls : Value) (d : Option Addr) (pn : List (Addr × Obj)), Zc cls d oe → (∃ vs, oe.data = .fields vs) → PSs (keepX X ((a, oe) :: pn)) rest (v a cls d))
    (hsw : ∀ (a : Addr) (pn : List (Addr × Obj)), swapsWith (.Name n n2) (some (.Name y yp)) ap.line (X.suite a pn).env = pure false)
    (hd1 : (n == ("__debug__" : Str)) = false := by decide) (hd2 : (n == ("__classdict__" : Str)) = false := by decide) :
    PSs X (.Try body [.ExceptHandler (some (.Name x np)) (some n) [.Assign [.Name y yp] (.Name n n2) ap] pos'] [] [] pos :: rest) (fun D σ H => tb (wKeep X.K c i j v Wout D) { D with nx := u D } σ H) := by
  refine ⟨fun pins s σ H D I h => ?_⟩
  have ok := I.ok
  have hfr : X.A.frames = some (X.env :: X.outer) := ok.frames.trans (by rw [hs])
  have hloc : Loc X.env.scope n := .inl hln
  -- what the try leaves: as X knows it, or with the error known
  let G : Flow → Shared → Prop := fun f s1 => SP X pins { D with nx := u D } f s1 ∨ (f = .next ∧ ∃ a oe cls d σ' H', Zc cls d oe ∧ (∃ vs, oe.data = .fields vs) ∧ Inv (keepX X ((a, oe) :: (X.pn ++ pins))) [] σ' H' s1 ∧ v a cls d D σ' H')
  have tail : ∀ f s1, G f s1 → (match f with | .next => wpAny (model X.prog X.w) X.A (execs rest X.env) (SP X pins D) X.xe s1 | f => SP X pins D f s1) := by
    intro f s1 g
    rcases g with g | ⟨rfl, a, oe, cls, d, σ', H', hz, hdd, J, q⟩
    · cases f with
      | next => obtain ⟨σ', H', J, q⟩ := g; exact hu.run pins s1 σ' H' D J q
      | brk => exact g
      | cont => exact g
      | ret w => exact g
    · refine wpAny_mono ((hv a oe cls d _ hz hdd).run [] s1 σ' H' D J q) (fun f s2 g2 => ?_) fun _ _ z => z
      cases f with
      | next => obtain ⟨σ2, H2, J2, q2⟩ := g2; exact ⟨σ2, H2, inv_drop J2 ok, q2⟩
      | brk => obtain ⟨σ2, H2, J2, q2⟩ := g2; exact ⟨σ2, H2, inv_drop J2 ok, q2⟩
      | cont => obtain ⟨σ2, H2, J2, q2⟩ := g2; exact ⟨σ2, H2, inv_drop J2 ok, q2⟩
      | ret w => obtain ⟨w2, σ2, H2, J2, r2, q2⟩ := g2; exact ⟨w2, σ2, H2, inv_drop J2 ok, r2, q2⟩
  refine wpAny_execs_cons (thn (Q := G) ?_ fun f s1 g => by
    have z := tail f s1 g
    cases f with
    | next => exact z
    | ret w => exact z
    | brk => exact z
    | cont => exact z)
  refine wpAny_Try_except ?_
  refine wpAny_mono ((hb (wKeep X.K c i j v Wout D) (X.pn ++ pins) (fun e s₁ => wpAny (model X.prog X.w) X.A (noteFrame e X.env) (fun _ s₂ => wpAny (model X.prog X.w) X.A (setFlight e none) (fun _ s₃ =>
    wpAny (model X.prog X.w) X.A (handleBy e X.env [.ExceptHandler (some (.Name x np)) (some n) [.Assign [.Name y yp] (.Name n n2) ap] pos']) G X.xe s₃) X.xe s₂) X.xe s₁) (fun w0 s' xx => ?_) PassesOwn.looking).run [] s σ H { D with nx := u D } (I.toTry _) h) (fun f s1 hsp => ?_) (fun _ _ he => he)
  · obtain ⟨a, B, sI, pins', σ', H', cls, d, rfl, J', nb, up, sky, na, os, ag, b, hb1, hyes, hno⟩ := xx
    have J : Inv X pins σ' H' sI := J'.ofTry ok
    have sky' : Sky B (X.env :: X.outer) a (Zc cls d) X.env.locals s'.heap := by rw [← hs]; exact sky
    show wpAny (model X.prog X.w) X.A (noteFrame (.ref a) X.env) _ _ _
    refine Sky.land Zc.steady hfr hf sky' fun h3 fl3 up3 => ?_
    have J3 : Inv X pins σ' H' { s' with heap := h3 } := J.landed nb fl3.1 (up.trans up3) os ag
    obtain ⟨oe3, vs3, he3, hz3, hd3⟩ := fl3.there
    have nfr : a ∉ frs (X.env :: X.outer) := fun hm => by
      obtain ⟨_, o', e', hnf⟩ := fl3.2.2.1.mem hm
      cases he3.symm.trans e'
      exact hnf _ hd3
    have nL : a ≠ X.env.locals := fun z => nfr (List.mem_filterMap.mpr ⟨X.env, List.mem_cons_self, hf.trans (by rw [z])⟩)
    have nF : a ∉ X.fs := fun hm => by
      obtain ⟨e, he, q⟩ := List.mem_filterMap.mp hm
      exact nfr (List.mem_filterMap.mpr ⟨e, List.mem_cons_of_mem _ he, q⟩)
    have S3 := J3.suite he3 hd3 na nL nF
    refine wpAny_handleBy_cons (codeAny_handlers_test ?_) (by intro q; cases q)
    have LT : PySem.W.Looks (model X.prog X.w) h3 (typeOf (.ref a)) cls := fun A Q E s k q => wpAny_typeOf_ref (k _ _ he3) (by rw [hz3.1]; exact q)
    have LM := PySem.W.exm_one (M := model X.prog X.w) (J3.kIn) LT hb1
    have test : ∀ {Q : Value → Shared → Prop} {E : Value → Shared → Prop}, Q c { s' with heap := h3 } → wpAny (model X.prog X.w) (X.A.mark (some (.ref a))) (eval (.Name x np) X.env) Q E { s' with heap := h3 } := fun {Q E} q => by
      obtain ⟨hg, hdbg, hm | ⟨hm, hvv, hnn⟩⟩ := hc
      · exact ld_glob (X := X.suite a ((a, oe3) :: (X.pn ++ pins))) S3 hg hm q hdbg
      · exact ld_blt (X := X.suite a ((a, oe3) :: (X.pn ++ pins))) S3 hg hm hvv q hnn hdbg
    refine test (LM.here ?_)
    cases b with
    | true =>
      refine codeAny_handlers_suite_as ?_
      refine HandSPX.lands_againZ fl3 fun h4 fl4 up4 => ?_
      have J4 : Inv X pins σ' H' { s' with heap := h4 } := J.landed nb fl4.1 ((up.trans up3).trans up4) os ag
      obtain ⟨oe4, vs4, he4, hz4, hd4⟩ := fl4.there
      have S4 := J4.suite he4 hd4 na nL nF
      refine store_ok (X := X.suite a ((a, oe4) :: (X.pn ++ pins))) (v := .ref a) S4 hN hi hloc rfl (fun s5 S5 => ?_) (.inr hln)
      -- the suite: y = n
      have hil : i < (σ'.set i (some (V.ref a))).length := by
        rw [S5.len]
        exact (List.getElem?_eq_some_iff.mp hi).1
      have D0 : PSs (X.suite a ((a, oe4) :: (X.pn ++ pins))) [.Assign [.Name y yp] (.Name n n2) ap] (tAsg (tVar i) (gName j)) :=
        pss_one (ps_set (i := j) hN hj (.inl hly) (pe_var hi (.inl hln) hd1 hd2) (hsw _ _) (.inr hly))
      refine wpAny_mono (D0.run [] s5 _ H' { nx := fun σ6 H6 => v a cls d D (σ6.set i none) H6, rt := fun _ _ => False, bk := fun _ _ => False, ct := fun _ _ => False } S5 ?_) (fun f s6 hsp => ?_) (fun _ _ z => False.elim z)
      · refine ⟨.ref a, ?_, hyes rfl a na⟩
        rw [List.getElem?_set_self (by simpa using hil)]
      cases f with
      | next =>
        obtain ⟨σ6, H6, S6, q6⟩ := hsp
        exact gone_ok (X := keepX X ((a, oe4) :: (X.pn ++ pins))) (inv_keep S6 ok) hN hi hln fun s7 J7 => .inr ⟨rfl, a, oe4, cls, d, _, _, hz4, ⟨_, hd4⟩, J7, q6⟩
      | brk => exact hsp.elim fun _ z => z.elim fun _ z => z.2.elim
      | cont => exact hsp.elim fun _ z => z.elim fun _ z => z.2.elim
      | ret w => exact hsp.elim fun _ z => z.elim fun _ z => z.elim fun _ z => z.2.2.elim
    | false =>
      show wpAny _ X.A (handleBy (.ref a) X.env []) _ _ _
      refine wpAny_handleBy_nil ?_
      obtain ⟨k1, k2, k3, oe, vs, T, oT, ts', he, hz, hd, h1, hr⟩ := id fl3
      unfold PySem.passOn
      refine wpAny_bind (wpAny_field he hd h1 ?_)
      rw [if_neg (show ¬ ((Value.ref T == Value.none) = true) from by simp)]
      have fin : wpAny (model X.prog X.w) X.A (setFlight (.ref a) X.env.frame) (fun _ s4 => wpAny (model X.prog X.w) X.A (throw (.ref a) : Sem Flow) G X.xe s4) X.xe { s' with heap := h3 } := by
        rw [hf]
        refine HandSPX.setFlight_upZ fl3 fun h4 hh4 up4 => wpAny_throw (tk _ _ ?_)
        exact ⟨a, B, sI, pins, σ', H', cls, d, rfl, J, nb, (up.trans up3).trans up4, .inr (.inr (by rw [hs]; exact hh4)), na, os, ag, hno rfl⟩
      first
        | exact wpAny_bind (wpAny_pure (wpAny_bind fin))
        | exact wpAny_bind fin
  · cases f with
    | next =>
      obtain ⟨σ', H', J', q⟩ := hsp
      exact wpAny_execs_nil (.inl ⟨σ', H', J'.ofTry ok, q⟩)
    | brk =>
      obtain ⟨σ', H', J', q⟩ := hsp
      exact .inl ⟨σ', H', J'.ofTry ok, q⟩
    | cont =>
      obtain ⟨σ', H', J', q⟩ := hsp
      exact .inl ⟨σ', H', J'.ofTry ok, q⟩
    | ret u =>
      obtain ⟨v, σ', H', J', r, q⟩ := hsp
      exact .inl ⟨v, σ', H', J'.ofTry ok, r, q⟩
/-- isinstance(caught, C), where the error is known by its class and dict -/
def rIsK (K : PySem.W.Frag) (a : Addr) (cls : Value) (d : Option Addr) : List V → Hp → VK → Prop := fun xs H Q => ∃ (D : Addr) (c : V) (cv : Value) (b : Bool), cls = .ref D ∧ d = none ∧ ExcC K D ∧ xs = [.ref a, c] ∧ (∀ u, RelV c u → u = cv) ∧ PySem.W.kitOne K (.ref D) cv = some b ∧ Q (.bl b) H
theorem call_isK {a : Addr} {cls : Value} {d : Option Addr} {oe : Obj} {pn : List (Addr × Obj)} (hz : Zc cls d oe) (hf : ∃ vs, oe.data = .fields vs) : CallR (keepX X ((a, oe) :: pn)) (.builtin "isinstance") (rIsK X.K a cls d) := by
  intro pins s σ H xs us Q I r h
  obtain ⟨D, c, cv, b, rfl, rfl, C, rfl, hcv, e, q⟩ := h
  obtain ⟨u1, u2, rfl, r1, r2⟩ := vals2 r
  cases (show u1 = Value.ref a from r1)
  cases hcv _ r2
  obtain ⟨vs, hv⟩ := hf
  have here := (I.pin (a, oe) (List.mem_append.mpr (.inl List.mem_cons_self))).1
  have J : PySem.W.InstAt s.heap a oe D none := by
    obtain ⟨h1, h2⟩ := hz
    obtain ⟨oc, od, oda, osl⟩ := oe
    cases h1; cases h2; cases hv
    exact ⟨here, rfl, rfl, trivial⟩
  exact PySem.W.kia_one (PySem.W.handS_kitx_exc C.hg C.hk C.hs C.hd C.ha C.hn C.ht C.hm) I.kIn J e (fun z => nomatch z) fun tk => ⟨.bl b, H, I.tok tk, rfl, q⟩
end
/-! ### calls by keywords -/
section
variable {X : Cx} {CX : CXT} {k m : Nat} {f : Addr} {fd : FuncData} {ps ks : List Str} {sp : Sp} {E : L2.St → XK} {x : Str} {p pos : Pos} {e : Expr} {es : List Expr} {kws : List Keyword} {t tk : TA} {g : List Value → List Value → List Value} {gV : List V → List V → List V}
theorem run_kw (F : FnOk X.prog X.w X.K X.mg X.base CX k f fd ps sp) (hr : Room k X.A) (hb : KBn X.K fd ps m ks g gV) {pins : List (Addr × Obj)} {σ : L2.St} {H : Hp} {s : Shared} {Q : VK} {us ws : List Value} {vs zs : List V} (hx : PassesAt CX X σ (E σ))
    (I : Inv X pins σ H s) (r : Vals vs us) (rz : Vals zs ws) (l1 : vs.length = m) (l2 : zs.length = ks.length) (h : sp (gV vs zs) H Q (E σ)) : wpAny (model X.prog X.w) X.A (call (.ref f) us (ks.zip ws)) (EP X pins σ Q) X.xe s := by
  refine wpAny_call (codeAny_mono (F.run _ _ s H _ _ _ Q _ hr I.env0 (hb.to s us ws I.kIn (r.length.symm.trans l1) (rz.length.symm.trans l2)) (hb.rel r rz) h) fun out s2 hq => ?_)
  match out, hq with
  | .error e, hq => exact hx _ _ _ e s2 I hq
  | .ok (.ret u), hq => exact I.after hq
/-- f(k = v, ..) | f(e, .., k = v, ..); n: how many keywords -/
def tKw (n : Nat) (sp : Sp) (gV : List V → List V → List V) (E : L2.St → XK) (t tk : TA) : TE := fun σ H Q => t σ H fun vs H1 => tk σ H1 fun zs H2 => zs.length = n ∧ sp (gV vs zs) H2 Q (E σ)
theorem pe_kw0 (F : FnOk X.prog X.w X.K X.mg X.base CX k f fd ps sp) (hr : Room k X.A) (hg : Gl X x) (hm : X.mg x = some (.ref f)) (hk : PySem.W.keepIn X.K (.ref f) = true) (hb : KBn X.K fd ps 0 ks g gV) (hx : ∀ σ, PassesAt CX X σ (E σ)) (hkw : PK X kws tk)
    (hall : (backToKw pos (keywordEach kws X.env)).all (·.1.isSome) = true := by rfl) (hks : (backToKw pos (keywordEach kws X.env)).filterMap (·.1) = ks := by rfl) (hdb : (x == ("__debug__" : Str)) = false := by decide)
    (hpl : ((backTo pos (starEach [] X.env)).any (·.1) || (backToKw pos (keywordEach kws X.env)).any (·.1.isNone)) = false := by rfl) :
    PE X (.Call (.Name x p) [] kws pos) (tKw ks.length sp gV E tNil tk) := by
  refine ⟨fun pins s σ H Q I h => wpAny_Call_Name_kw (ld_glob I hg hm (PySem.W.callWith_KW0 (h₀ := X.base) I.ok.mod.kin hk hall ?_ hpl) hdb)⟩
  refine thn (hkw.run pos pins s σ H _ I h) fun ws s2 ⟨zs, H2, I2, rz, l2, q2⟩ => ⟨I2.kIn, ?_⟩
  rw [hks]
  exact run_kw (us := []) (vs := []) F hr hb (hx σ) I2 .nil rz rfl l2 q2
/-- how keywords bind, where a def has no defaults -/
theorem kb_of {K : PySem.W.Frag} {qual : Str} {params : Arguments} {body : List Stmt} {scope : Scope} {kws : List (Str × V)} {f : Addr} {fd : FuncData} {ps : List Str} (F : FunD K x qual params body scope [] kws f fd) (n : Nat) (ks : List Str) (g : {α : Type} → List α → List α → List α)
    (hrel : ∀ {vs zs : List V} {us ws : List Value}, Vals vs us → Vals zs ws → Vals (g vs zs) (g us ws))
    (h : ∀ (kV doc pm : Value) (an : Option Addr) (cdv ct : Value) (us ws : List Value), us.length = n → ws.length = ks.length → bindArgs (PySem.W.fnOf x qual params body scope .none kV doc pm an cdv ct) ⟨us, ks.zip ws⟩ = pure (ps.zip (g us ws))) :
    KBn K fd ps n ks (fun us ws => g us ws) (fun vs zs => g vs zs) := by
  obtain ⟨oc, od, dV, kV, doc, pm, an, cdv, ct, osl, rfl, lk, hcd, hD, hK⟩ := F.ex
  rcases hD with ⟨_, rfl⟩ | ⟨e, _⟩
  · exact ⟨fun s us ws X l1 l2 => .of_eq (h kV doc pm an cdv ct us ws l1 l2), hrel⟩
  · exact absurd rfl e
end
/-! ### sum of a tuple of ints -/
section
variable {X : Cx}
def rSumT (K : PySem.W.Frag) : List V → Hp → VK → Prop := fun vs H Q => ∃ (a : Addr) (ns : List Int), vs = [V.ref a] ∧ SqT K H a (ns.map V.int) ∧ Q (.int ns.sum) H
theorem cr_sumT (hc : X.calm = true) : CallR X (.builtin "sum") (rSumT X.K) := by
  intro pins s σ H vs us Q I r h
  obtain ⟨a, ns, rfl, hs, q⟩ := h
  obtain ⟨its, rv, ht, _⟩ := I.tuple hs
  rw [Vals.ref1 r]
  have hi := rv.ints
  obtain ⟨xs, e⟩ := hi.allInts.items
  have hn : numsOf (intItems xs).toList = ns := by rw [← e]; exact hi.numsOf
  rw [nums_intItems] at hn
  rw [e] at ht
  have ht' : s.heap.IsTuple a (intItems xs) := ht
  have hlt : a < s.heap.objs.size := by obtain ⟨_, z, _⟩ := ht; exact Heap.lt_size z
  refine PySem.call_sum_walkG (wpAny_pyIter_tuple ht' ?_)
  refine ⟨_, _, _, _, _, _, numAt xs, rfl, Walks.tuple (A := X.A.in1) (I.ok.hd hc) _ a (Nat.ne_of_lt hlt) (intItems xs), ⟨⟨_, Heap.get?_push_size _ rfl, rfl, rfl⟩, ht'.push _⟩, fun b hb => ?_, fun _ _ => intItems_at, fun h' tk t' hk => ?_⟩
  · show b < (s.heap.push _).objs.size
    rw [Heap.size_push]
    rcases List.mem_cons.mp hb with rfl | hb
    · exact Nat.lt_succ_self _
    · cases List.mem_singleton.mp hb
      exact Nat.lt_succ_of_lt hlt
  · refine ⟨.int ns.sum, H, I.kept fun b o z => ?_, ⟨t', ?_⟩, q⟩
    · exact hk b o (fun hm => absurd (Heap.lt_size z) ((List.mem_singleton.mp hm) ▸ Nat.lt_irrefl _)) (Heap.get?_push_of_some _ z)
    · have e2 : (intItems xs).size = xs.size := by simp [intItems]
      rw [e2, preSum_eq, List.take_of_length_le (by simp), hn]
end
end SR

set_option Elab.async false
set_option linter.all false
set_option maxRecDepth 100000
set_option maxHeartbeats 4000000
/-! SRP: values of any kind; whole numbers and numbers between bounds. -/
namespace SR
open PySem L2
/-- a value of any kind, with its class -/
inductive AnyT (K : PySem.W.Frag) (H : Hp) : V → String → Prop where
  | non : AnyT K H .non "NoneType"
  | bl (b : Bool) : AnyT K H (.bl b) "bool"
  | int (i : Int) : AnyT K H (.int i) "int"
  | str (x : Str) : AnyT K H (.str x) "str"
  | lst {a : Addr} {xs : List V} (h : SqL K H a xs) : AnyT K H (.ref a) "list"
  | tup {a : Addr} {xs : List V} (h : SqT K H a xs) : AnyT K H (.ref a) "tuple"
  | dct {a : Addr} {kvs : List (Key × V)} (h : Rd H a (.dK kvs)) : AnyT K H (.ref a) "dict"
theorem AnyT.ty {K : PySem.W.Frag} {H : Hp} {v : V} {t : String} (h : AnyT K H v t) : TyX K H v (.type t) := by
  cases h with
  | non => exact .base .non
  | bl b => exact .base (.bl b)
  | int i => exact .base (.int i)
  | str x => exact .base (.str x)
  | lst h =>
    rcases h with (h | ⟨o, h⟩) | ⟨o, its, n, hk, hc, _⟩
    · exact .base (.lst h)
    · exact .base (.frz h)
    · exact .kList hk hc
  | tup h =>
    rcases h with (h | ⟨o, h⟩) | ⟨o, its, n, hk, hc, _⟩
    · exact .base (.tup h)
    · exact .fTuple h
    · exact .kTuple hk hc
  | dct h =>
    rcases h with h | ⟨o, h⟩
    · exact .base (.dK h)
    · exact .fDict h
theorem AnyT.same {K : PySem.W.Frag} {H H' : Hp} {v : V} {t : String} (e : Same H H') (h : AnyT K H v t) : AnyT K H' v t := by
  cases h with
  | non => exact .non
  | bl b => exact .bl b
  | int i => exact .int i
  | str x => exact .str x
  | lst h => exact .lst (SqL.same e h)
  | tup h => exact .tup (SqT.same e h)
  | dct h =>
    rcases h with h | ⟨o, h⟩
    · exact .dct (.inl (e _ _ h))
    · exact .dct (.inr ⟨o, e _ _ h⟩)
def isI : V → Bool
  | .int _ => true
  | _ => false
/-- which class a value's class is, asked of a built-in one -/
theorem AnyT.kit {K : PySem.W.Frag} {H : Hp} {v : V} {t : String} (h : AnyT K H v t) :
    PySem.W.kitOne K (.type t) (.type "int") = some (isI v || t == "bool") ∧ PySem.W.kitOne K (.type t) (.type "bool") = some (t == "bool") ∧
    PySem.W.kitOne K (.type t) (.type "tuple") = some (t == "tuple") ∧ PySem.W.kitOne K (.type t) (.type "list") = some (t == "list") ∧ PySem.W.kitOne K (.type t) (.type "str") = some (t == "str") ∧ PySem.W.kitOne K (.type t) (.type "dict") = some (t == "dict") := by
  cases h with
  | non => exact ⟨kit_ty (show kitB "NoneType" "int" = some false by decide +kernel), kit_ty (by decide +kernel), kit_ty (by decide +kernel), kit_ty (by decide +kernel), kit_ty (by decide +kernel), kit_ty (by decide +kernel)⟩
  | bl b => exact ⟨kit_ty (show kitB "bool" "int" = some true by decide +kernel), kit_ty (by decide +kernel), kit_ty (by decide +kernel), kit_ty (by decide +kernel), kit_ty (by decide +kernel), kit_ty (by decide +kernel)⟩
  | int i => exact ⟨kit_ty (show kitB "int" "int" = some true by decide +kernel), kit_ty (by decide +kernel), kit_ty (by decide +kernel), kit_ty (by decide +kernel), kit_ty (by decide +kernel), kit_ty (by decide +kernel)⟩
  | str x => exact ⟨kit_ty (show kitB "str" "int" = some false by decide +kernel), kit_ty (by decide +kernel), kit_ty (by decide +kernel), kit_ty (by decide +kernel), kit_ty (by decide +kernel), kit_ty (by decide +kernel)⟩
  | lst h => exact ⟨kit_ty (show kitB "list" "int" = some false by decide +kernel), kit_ty (by decide +kernel), kit_ty (by decide +kernel), kit_ty (by decide +kernel), kit_ty (by decide +kernel), kit_ty (by decide +kernel)⟩
  | tup h => exact ⟨kit_ty (show kitB "tuple" "int" = some false by decide +kernel), kit_ty (by decide +kernel), kit_ty (by decide +kernel), kit_ty (by decide +kernel), kit_ty (by decide +kernel), kit_ty (by decide +kernel)⟩
  | dct h => exact ⟨kit_ty (show kitB "dict" "int" = some false by decide +kernel), kit_ty (by decide +kernel), kit_ty (by decide +kernel), kit_ty (by decide +kernel), kit_ty (by decide +kernel), kit_ty (by decide +kernel)⟩
theorem AnyT.notB {K : PySem.W.Frag} {H : Hp} {v : V} {t : String} (h : AnyT K H v t) (hi : isI v = true) : (t == "bool") = false := by
  cases h <;> first | rfl | (cases hi)
def spIsInt (K : PySem.W.Frag) : Sp := fun vs H Q _ => ∃ v t, vs = [v] ∧ AnyT K H v t ∧ Q (.bl (isI v)) H
def t_is_integer (K : PySem.W.Frag) : TS := tRet (tAndV (tCB (rIsi K) (tCons (tVar 0) (tCons (tC (.ty "int")) tNil))) (tNotV (tCB (rIsi K) (tCons (tVar 0) (tCons (tC (.ty "bool")) tNil)))))
theorem pure_is_integer {K : PySem.W.Frag} (vs : List V) (H : Hp) (Q : VK) (E : XK) (h : spIsInt K vs H Q E) : t_is_integer K { nx := fun _ H' => Q .non H', rt := Q } (start ["value"] vs) H := by
  obtain ⟨v, t, rfl, hv, q⟩ := h
  obtain ⟨k1, k2, _⟩ := hv.kit
  refine ⟨_, rfl, _, _, _, _, _, rfl, .ty _, hv.ty, k1, _, rfl, ?_⟩
  cases hi : isI v with
  | true =>
    refine iteT ⟨_, rfl, _, _, _, _, _, rfl, .ty _, hv.ty, k2, _, rfl, ?_⟩
    rw [hv.notB hi]
    rw [hi] at q
    exact q
  | false =>
    rw [hi] at q
    cases hb : t == "bool" with
    | true =>
      refine iteT ⟨_, rfl, _, _, _, _, _, rfl, .ty _, hv.ty, k2, _, rfl, ?_⟩
      rw [hb]
      exact q
    | false => exact iteF q
/-- an integer from lo to hi -/
def btw (lo hi : Int) : V → Bool
  | .int i => decide (lo ≤ i) && decide (i ≤ hi)
  | _ => false
def spBetween (K : PySem.W.Frag) : Sp := fun vs H Q _ => ∃ v t lo hi, vs = [v, lo, hi] ∧ AnyT K H v t ∧ (isI v = true → ∃ i j, lo = .int i ∧ hi = .int j ∧ Q (.bl (btw i j v)) H) ∧ (isI v = false → Q (.bl false) H)
def t_is_between (K : PySem.W.Frag) : TS := tRet (tAndV (tCall (spIsInt K) [] E0 (tCons (tVar 0) (tNil))) (tChain qLe qLe (tVar 1) (tVar 0) (tVar 2)))
theorem pure_is_between {K : PySem.W.Frag} (vs : List V) (H : Hp) (Q : VK) (E : XK) (h : spBetween K vs H Q E) : t_is_between K { nx := fun _ H' => Q .non H', rt := Q } (start ["value", "low", "high"] vs) H := by
  obtain ⟨v, t, lo, hi, rfl, hv, q, q'⟩ := h
  refine ⟨_, rfl, v, t, rfl, hv, _, rfl, ?_⟩
  cases e : isI v with
  | false => exact iteF (q' e)
  | true =>
    obtain ⟨i, j, rfl, rfl, q2⟩ := q e
    cases v with
    | int z =>
      refine iteT ⟨_, rfl, _, rfl, i, z, rfl, rfl, _, rfl, ?_⟩
      have q2 : Q (.bl (decide (i ≤ z) && decide (z ≤ j))) H := q2
      by_cases h1 : i ≤ z
      · rw [decide_eq_true h1] at q2 ⊢
        exact iteT ⟨_, rfl, z, j, rfl, rfl, q2⟩
      · rw [decide_eq_false h1] at q2 ⊢
        exact iteF q2
    | _ => cases e
def spCapacity (K : PySem.W.Frag) : Sp := fun vs H Q _ => ∃ v t, vs = [v] ∧ AnyT K H v t ∧ Q (.bl (btw 1 99 v)) H
def t_is_capacity (K : PySem.W.Frag) : TS := tRet (tCall (spBetween K) [] E0 (tCons (tVar 0) (tCons (tC (.int 1)) (tCons (tC (.int 99)) (tNil)))))
theorem btw_not {v : V} (h : isI v = false) (i j : Int) : btw i j v = false := by
  cases v <;> first | rfl | (cases h)
theorem pure_is_capacity {K : PySem.W.Frag} (vs : List V) (H : Hp) (Q : VK) (E : XK) (h : spCapacity K vs H Q E) : t_is_capacity K { nx := fun _ H' => Q .non H', rt := Q } (start ["value"] vs) H := by
  obtain ⟨v, t, rfl, hv, q⟩ := h
  exact ⟨_, rfl, v, t, _, _, rfl, hv, fun _ => ⟨1, 99, rfl, rfl, q⟩, fun e => by rw [btw_not e] at q; exact q⟩
end SR

set_option Elab.async false
set_option linter.all false
set_option maxRecDepth 100000
set_option maxHeartbeats 4000000
/-! SRQ: a carrier passes a box. -/
namespace SR
open PySem L2
/-- the way out of a def that raises: an error of the class, without a dict of its own -/
def tOut (C : Value) (E : XK) : TS := fun _ _ H => E C none H
/-- what a carrier of capacity c with load u leaves of a box of capacity d with x items: the count, the load -/
def stC (c u d x : Int) : Int := x - min (c - u) x + min u (d - x)
def stL (c u d x : Int) : Int := u + min (c - u) x - min u (d - x)
def okN (c u d x : Int) : Prop := (1 ≤ c ∧ c ≤ 99) ∧ (0 ≤ u ∧ u ≤ c) ∧ (1 ≤ d ∧ d ≤ 99) ∧ (0 ≤ x ∧ x ≤ d)
instance (c u d x : Int) : Decidable (okN c u d x) := by unfold okN; exact inferInstance
/-- an integer from 0 to what w is -/
def upto (w v : V) : Bool := match w with
  | .int c => btw 0 c v
  | _ => false
def okV (v1 v2 v3 v4 : V) : Bool := (btw 1 99 v1 && upto v1 v2) && (btw 1 99 v3 && upto v3 v4)
theorem min_if (i j : Int) : (if j < i then j else i) = min i j := by
  rw [Int.min_def]
  by_cases h : j < i
  · rw [if_pos h, if_neg (by omega)]
  · rw [if_neg h, if_pos (by omega)]
theorem btw_iff {lo hi : Int} {v : V} : btw lo hi v = true ↔ ∃ i, v = .int i ∧ lo ≤ i ∧ i ≤ hi := by
  cases v with
  | int i =>
    show (decide (lo ≤ i) && decide (i ≤ hi)) = true ↔ _
    rw [Bool.and_eq_true, decide_eq_true_iff, decide_eq_true_iff]
    exact ⟨fun h => ⟨i, rfl, h⟩, fun ⟨j, e, h⟩ => by cases e; exact h⟩
  | _ => exact Iff.intro (fun h => nomatch h) (fun ⟨j, e, _⟩ => nomatch e)
def spPassed (K : PySem.W.Frag) (C : Addr) : Sp := fun vs H Q E => ∃ v1 v2 v3 v4 t1 t2 t3 t4, vs = [v1, v2, v3, v4] ∧ AnyT K H v1 t1 ∧ AnyT K H v2 t2 ∧ AnyT K H v3 t3 ∧ AnyT K H v4 t4 ∧
  (okV v1 v2 v3 v4 = false → E (.ref C) none H) ∧
  ∀ c u d x, v1 = .int c → v2 = .int u → v3 = .int d → v4 = .int x → okN c u d x → ∀ p H', H p = none → Same H H' → H' p = some (.tup [.int (stC c u d x), .int (stL c u d x)]) → Q (.ref p) H'
/-- what a carrier takes and gives -/
def spHandled : Sp := fun vs H Q _ => ∃ c u d x, vs = [.int c, .int u, .int d, .int x] ∧ ∀ p, H p = none → Q (.ref p) (upd H p (.tup [.int (min (c - u) x), .int (min u (d - x))]))
def t_handled : TS := tRet (tTup (tCons (tCB qMin2 (tCons (tOp qSub (tVar 0) (tVar 1)) (tCons (tVar 3) (tNil)))) (tCons (tCB qMin2 (tCons (tVar 1) (tCons (tOp qSub (tVar 2) (tVar 3)) (tNil)))) (tNil))))
theorem pure_handled (vs : List V) (H : Hp) (Q : VK) (E : XK) (h : spHandled vs H Q E) : t_handled { nx := fun _ H' => Q .non H', rt := Q } (start ["capacity", "load", "box_capacity", "count"] vs) H := by
  obtain ⟨c, u, d, x, rfl, kQ⟩ := h
  refine ⟨_, rfl, _, rfl, c, u, rfl, rfl, _, rfl, _, _, rfl, _, rfl, _, rfl, _, rfl, d, x, rfl, rfl, _, _, rfl, (by show 2 ≤ sizeLine; exact Nat.le_of_lt (small1000 (by decide))), fun p hp => ?_⟩
  have q := kQ p hp
  rw [min_if, min_if]
  exact q
def t_passed (K : PySem.W.Frag) (c_BadNumber : Addr) (E : XK) : TS := tSeq (tIfS (tOr (tNot (tB (tCall (spCapacity K) [] E0 (tCons (tVar 0) (tNil))))) (tNot (tB (tCall (spBetween K) [] E0 (tCons (tVar 1) (tCons (tC (.int 0)) (tCons (tVar 0) (tNil))))))))
  (tOut (.ref c_BadNumber) E)
  (tNext))
  (tSeq (tIfS (tOr (tNot (tB (tCall (spCapacity K) [] E0 (tCons (tVar 2) (tNil))))) (tNot (tB (tCall (spBetween K) [] E0 (tCons (tVar 3) (tCons (tC (.int 0)) (tCons (tVar 2) (tNil))))))))
  (tOut (.ref c_BadNumber) E)
  (tNext))
  (tSeq (tAsg (tCall spHandled [] E0 (tCons (tVar 0) (tCons (tVar 1) (tCons (tVar 2) (tCons (tVar 3) (tNil)))))) (gTup K 2 (gCons (gName 4) (gCons (gName 5) (gNil)))))
  (tRet (tTup (tCons (tOp qAdd (tOp qSub (tVar 3) (tVar 4)) (tVar 5)) (tCons (tOp qSub (tOp qAdd (tVar 1) (tVar 4)) (tVar 5)) (tNil)))))))
theorem okV_no1 {v1 v2 v3 v4 : V} (h : btw 1 99 v1 = false) : okV v1 v2 v3 v4 = false := by
  unfold okV
  rw [h] <;> rfl
theorem okV_no2 {c : Int} {v2 v3 v4 : V} (h : btw 0 c v2 = false) : okV (.int c) v2 v3 v4 = false := by
  show ((btw 1 99 (.int c) && btw 0 c v2) && _) = false
  rw [h, Bool.and_false, Bool.false_and]
theorem okV_no3 {v1 v2 v3 v4 : V} (h : btw 1 99 v3 = false) : okV v1 v2 v3 v4 = false := by
  unfold okV
  rw [h, Bool.false_and, Bool.and_false]
theorem okV_no4 {d : Int} {v1 v2 v4 : V} (h : btw 0 d v4 = false) : okV v1 v2 (.int d) v4 = false := by
  show (_ && (btw 1 99 (.int d) && btw 0 d v4)) = false
  rw [h, Bool.and_false, Bool.and_false]
theorem okV_yes {v1 v2 v3 v4 : V} : okV v1 v2 v3 v4 = true ↔ ∃ c u d x, v1 = .int c ∧ v2 = .int u ∧ v3 = .int d ∧ v4 = .int x ∧ okN c u d x := by
  constructor
  · intro h
    unfold okV at h
    rw [Bool.and_eq_true, Bool.and_eq_true, Bool.and_eq_true] at h
    obtain ⟨⟨h1, h2⟩, h3, h4⟩ := h
    obtain ⟨c, rfl, c1⟩ := btw_iff.mp h1
    obtain ⟨d, rfl, d1⟩ := btw_iff.mp h3
    obtain ⟨u, rfl, u1⟩ := btw_iff.mp (show btw 0 c v2 = true from h2)
    obtain ⟨x, rfl, x1⟩ := btw_iff.mp (show btw 0 d v4 = true from h4)
    exact ⟨c, u, d, x, rfl, rfl, rfl, rfl, c1, u1, d1, x1⟩
  · rintro ⟨c, u, d, x, rfl, rfl, rfl, rfl, c1, u1, d1, x1⟩
    show ((btw 1 99 (.int c) && btw 0 c (.int u)) && (btw 1 99 (.int d) && btw 0 d (.int x))) = true
    rw [btw_iff.mpr ⟨c, rfl, c1⟩, btw_iff.mpr ⟨u, rfl, u1⟩, btw_iff.mpr ⟨d, rfl, d1⟩, btw_iff.mpr ⟨x, rfl, x1⟩] <;> rfl
theorem pure_passed {K : PySem.W.Frag} {C : Addr} (vs : List V) (H : Hp) (Q : VK) (E : XK) (h : spPassed K C vs H Q E) : t_passed K C E { nx := fun _ H' => Q .non H', rt := Q } (start ["capacity", "load", "box_capacity", "count", "up", "down"] vs) H := by
  obtain ⟨v1, v2, v3, v4, t1, t2, t3, t4, rfl, h1, h2, h3, h4, kE, kQ⟩ := h
  refine ⟨_, rfl, v1, t1, rfl, h1, _, rfl, ?_⟩
  cases b1 : btw 1 99 v1 with
  | false => exact iteT (iteT (kE (okV_no1 b1)))
  | true =>
  obtain ⟨c, rfl, c1, c2⟩ := btw_iff.mp b1
  have k2 : ∀ (b : Bool), btw 0 c v2 = b → _ := fun b e => e
  refine iteF ⟨_, rfl, _, rfl, v2, t2, _, _, rfl, h2, fun _ => ⟨0, c, rfl, rfl, _, rfl, ?_⟩, fun e => ⟨_, rfl, iteT (kE (okV_no2 (btw_not e 0 c)))⟩⟩
  cases b2 : btw 0 c v2 with
  | false => exact iteT (kE (okV_no2 b2))
  | true =>
  obtain ⟨u, rfl, u1, u2⟩ := btw_iff.mp b2
  refine iteF ⟨_, rfl, v3, t3, rfl, h3, _, rfl, ?_⟩
  cases b3 : btw 1 99 v3 with
  | false => exact iteT (iteT (kE (okV_no3 b3)))
  | true =>
  obtain ⟨d, rfl, d1, d2⟩ := btw_iff.mp b3
  refine iteF ⟨_, rfl, _, rfl, v4, t4, _, _, rfl, h4, fun _ => ⟨0, d, rfl, rfl, _, rfl, ?_⟩, fun e => ⟨_, rfl, iteT (kE (okV_no4 (btw_not e 0 d)))⟩⟩
  cases b4 : btw 0 d v4 with
  | false => exact iteT (kE (okV_no4 b4))
  | true =>
  obtain ⟨x, rfl, x1, x2⟩ := btw_iff.mp b4
  refine iteF ⟨_, rfl, _, rfl, _, rfl, _, rfl, c, u, d, x, rfl, fun p0 hp0 => ?_⟩
  have s0 := (fun b o z => (upd_ne (ne_of_none z hp0)).trans z : Same H (upd H p0 (.tup [.int (min (c - u) x), .int (min u (d - x))])))
  have T0 : upd H p0 (.tup [.int (min (c - u) x), .int (min u (d - x))]) p0 = some (.tup [.int (min (c - u) x), .int (min u (d - x))]) := upd_same
  generalize upd H p0 (.tup [.int (min (c - u) x), .int (min u (d - x))]) = H0 at s0 T0 ⊢
  refine ⟨p0, _, rfl, SqT.of T0, rfl, _, _, rfl, _, _, rfl, rfl, ?_⟩
  refine ⟨_, rfl, _, rfl, _, _, rfl, rfl, _, rfl, _, _, rfl, rfl, _, rfl, _, rfl, _, _, rfl, rfl, _, rfl, _, _, rfl, rfl, (by show 2 ≤ sizeLine; exact Nat.le_of_lt (small1000 (by decide))), fun p hp => ?_⟩
  exact kQ c u d x rfl rfl rfl rfl ⟨⟨c1, c2⟩, ⟨u1, u2⟩, ⟨d1, d2⟩, ⟨x1, x2⟩⟩ p _ (Same.free s0 hp) (fun b o z => (upd_ne (ne_of_none (s0 b o z) hp)).trans (s0 b o z)) upd_same
end SR

set_option Elab.async false
set_option linter.all false
set_option maxRecDepth 100000
set_option maxHeartbeats 4000000
/-! K04A: the defs of the law of passed boxes. -/
namespace SR
open PySem L2
theorem take_ok {H : Hp} {d g c : Addr} {b : Nat} {n : Int} {Q : VK} {E : XK} (S : StB H d g c (b + 1)) (h0 : 0 < n) (h1 : n < 2 ^ 29)
    (q : ∀ (i : Int) H', 0 ≤ i → i < n → StB H' d g c b → Kp d g H H' → Q (.int i) H') : spTake [.ref d, .int n] H Q E := ⟨d, g, c, b, n, rfl, S, h0, h1, q⟩
theorem pick_ok {K : PySem.W.Frag} {H : Hp} {d g c a : Addr} {b : Nat} {xs : List V} {Q : VK} {E : XK} (S : StB H d g c (b + 1)) (hL : SqL K (hid d g H) a xs) (ha : a ≠ d) (hb : a ≠ g) (h0 : 0 < xs.length) (h1 : xs.length < 1000)
    (q : ∀ v H', v ∈ xs → StB H' d g c b → Kp d g H H' → Q v H') : spPick K [.ref d, .ref a] H Q E := ⟨d, g, c, b, a, xs, rfl, S, Same.seq hid_same hL, ha, hb, h0, h1, q⟩
theorem StB.d {H : Hp} {d g c : Addr} {b : Nat} (S : StB H d g c b) : ∃ o, H d = some o := let ⟨_, _, _, _, h, _⟩ := S; ⟨_, h⟩
theorem StB.g {H : Hp} {d g c : Addr} {b : Nat} (S : StB H d g c b) : ∃ o, H g = some o := let ⟨_, _, _, _, _, h, _⟩ := S; ⟨_, h⟩
theorem StB.c {H : Hp} {d g c : Addr} {b : Nat} (S : StB H d g c b) : ∃ o, H c = some o := let ⟨_, _, _, _, _, _, h, _⟩ := S; ⟨_, h⟩
/-- a new address is none of the state's -/
theorem StB.off {H : Hp} {d g c p : Addr} {b : Nat} (S : StB H d g c b) (h : H p = none) : p ≠ d ∧ p ≠ g ∧ p ≠ c := by
  obtain ⟨_, h1⟩ := S.d
  obtain ⟨_, h2⟩ := S.g
  obtain ⟨_, h3⟩ := S.c
  exact ⟨(ne_of_none h1 h).symm, (ne_of_none h2 h).symm, (ne_of_none h3 h).symm⟩
theorem hid_new {d g p : Addr} {H : Hp} {o : HO} (h1 : p ≠ d) (h2 : p ≠ g) : hid d g (upd H p o) p = some o := hid_of upd_same h1 h2
theorem hid_none {d g p : Addr} {H : Hp} (h : H p = none) : hid d g H p = none := by
  unfold hid
  by_cases e : p = d ∨ p = g
  · rw [if_pos e]
  · rw [if_neg e]; exact h
theorem sz {n : Nat} (h : n ≤ 1000) : n ≤ sizeLine := Nat.le_of_lt (small1000 h)
abbrev qIsN : R2 := fun x y H Q => y = .non ∧ Q (.bl (decide (x = .non))) H
abbrev qNotN : R2 := fun x y H Q => y = .non ∧ Q (.bl (!decide (x = .non))) H
theorem tret {te : TE} {D : Ends} {σ : L2.St} {H : Hp} (h : te σ H D.rt) : tRet te D σ H := h
/-! ### _law_passed -/
def spLPassed : Sp := fun vs H Q _ => ∃ c u d x, vs = [.int c, .int u, .int d, .int x] ∧ ∀ p, H p = none → Q (.ref p) (upd H p (.tup [.int (stC c u d x), .int (stL c u d x)]))
def t_lpassed : TS := tSeq (tPar 4 5 (tCons (tCB qMin2 (tCons (tOp qSub (tVar 0) (tVar 1)) (tCons (tVar 3) (tNil)))) (tCons (tCB qMin2 (tCons (tVar 1) (tCons (tOp qSub (tVar 2) (tVar 3)) (tNil)))) (tNil))))
  (tRet (tTup (tCons (tOp qAdd (tOp qSub (tVar 3) (tVar 4)) (tVar 5)) (tCons (tOp qSub (tOp qAdd (tVar 1) (tVar 4)) (tVar 5)) (tNil)))))
theorem pure_lpassed (vs : List V) (H : Hp) (Q : VK) (E : XK) (h : spLPassed vs H Q E) : t_lpassed { nx := fun _ H' => Q .non H', rt := Q } (start ["most", "burden", "size", "amount", "up", "down"] vs) H := by
  obtain ⟨c, u, d, x, rfl, kQ⟩ := h
  refine ⟨_, rfl, _, rfl, c, u, rfl, rfl, _, rfl, _, _, rfl, _, rfl, _, rfl, _, rfl, d, x, rfl, rfl, _, _, rfl, _, _, rfl, ?_⟩
  refine ⟨_, rfl, _, rfl, _, _, rfl, rfl, _, rfl, _, _, rfl, rfl, _, rfl, _, rfl, _, _, rfl, rfl, _, rfl, _, _, rfl, rfl, (by show 2 ≤ sizeLine; exact sz (by decide)), fun p hp => ?_⟩
  have q := kQ p hp
  rw [min_if, min_if]
  exact q
/-! ### _law_is_valid -/
def spIsValid (K : PySem.W.Frag) : Sp := fun vs H Q _ => ∃ a v1 v2 v3 v4 t1 t2 t3 t4, vs = [.ref a] ∧ SqL K H a [v1, v2, v3, v4] ∧ AnyT K H v1 t1 ∧ AnyT K H v2 t2 ∧ AnyT K H v3 t3 ∧ AnyT K H v4 t4 ∧
  ∀ H', Same H H' → Q (.bl (okV v1 v2 v3 v4)) H'
def t_is_valid (K : PySem.W.Frag) : TS := tSeq (tIfS (tTest (tOp (rNeD K) (tLc (iList K (tVar 0)) (gName 5) (tOr (tNot (tB (tCB (rIsi K) (tCons (tVar 5) (tCons (tC (.ty "int")) tNil))))) (tB (tCB (rIsi K) (tCons (tVar 5) (tCons (tC (.ty "bool")) tNil))))) (tC (.int 1)) [5]) (tLst (tNil))))
  (tRet (tC (.bl false)))
  (tNext))
  (tSeq (tAsg (tVar 0) (gLst K 4 (gCons (gName 1) (gCons (gName 2) (gCons (gName 3) (gCons (gName 4) (gNil)))))))
  (tRet (tAndV (tChain qLe qLe (tC (.int 1)) (tVar 1) (tC (.int 99))) (tAndV (tChain qLe qLe (tC (.int 1)) (tVar 3) (tC (.int 99))) (tAndV (tChain qLe qLe (tC (.int 0)) (tVar 2) (tVar 1)) (tChain qLe qLe (tC (.int 0)) (tVar 4) (tVar 3)))))))
/-- a <= b <= c as a value -/
theorem chain_le {σ : L2.St} {H : Hp} {Q : VK} {ta tb tc : TE} {i j k : Int} (ha : ∀ Q' : VK, Q' (.int i) H → ta σ H Q') (hb : ∀ Q' : VK, Q' (.int j) H → tb σ H Q') (hc : ∀ Q' : VK, Q' (.int k) H → tc σ H Q') (q : Q (.bl (decide (i ≤ j) && decide (j ≤ k))) H) : tChain qLe qLe ta tb tc σ H Q := by
  refine ha _ (hb _ ⟨i, j, rfl, rfl, _, rfl, ?_⟩)
  by_cases h : i ≤ j
  · rw [decide_eq_true h] at q ⊢
    exact iteT (hc _ ⟨j, k, rfl, rfl, q⟩)
  · rw [decide_eq_false h] at q ⊢
    exact iteF q
theorem and_val {σ : L2.St} {H : Hp} {Q : VK} {ta tb : TE} {x y : Bool} (ha : ∀ Q' : VK, Q' (.bl x) H → ta σ H Q') (hb : ∀ Q' : VK, Q' (.bl y) H → tb σ H Q') (q : Q (.bl (x && y)) H) : tAndV ta tb σ H Q := by
  refine ha _ ⟨_, rfl, ?_⟩
  cases x with
  | true => exact iteT (hb _ q)
  | false => exact iteF q
theorem pure_is_valid {K : PySem.W.Frag} (vs : List V) (H : Hp) (Q : VK) (E : XK) (h : spIsValid K vs H Q E) : t_is_valid K { nx := fun _ H' => Q .non H', rt := Q } (start ["some", "most", "burden", "size", "amount", "thing"] vs) H := by
  obtain ⟨a, v1, v2, v3, v4, t1, t2, t3, t4, rfl, hL, h1, h2, h3, h4, q⟩ := h
  have at_ : ∀ (i : Nat) (v : V), [v1, v2, v3, v4][i]? = some v → ∃ t, AnyT K H v t := by
    intro i v e
    match i, e with
    | 0, e => cases e; exact ⟨_, h1⟩
    | 1, e => cases e; exact ⟨_, h2⟩
    | 2, e => cases e; exact ⟨_, h3⟩
    | 3, e => cases e; exact ⟨_, h4⟩
  refine ⟨_, rfl, a, rfl, ⟨_, hL⟩, fun D hD => lc_list (K := K) (a := a) (xs := [v1, v2, v3, v4]) (fun i H2 => ∃ ns : List Int, H2 D = some (.lst (ns.map V.int)) ∧ ns.length ≤ i ∧ Same H H2 ∧ (ns = [] ↔ ([v1, v2, v3, v4].take i).all isI = true))
    ⟨[], upd_same, Nat.le_refl _, fun b o e => by rw [upd_ne (ne_of_none e hD)]; exact e, by simp⟩ (fun i H2 _ ⟨_, _, _, s, _⟩ => Same.seq s hL) ?_ ?_⟩
  · rintro i x H2 hi ⟨ns, n1, n2, s, n3⟩
    obtain ⟨t, hx⟩ := at_ i x hi
    have hx2 : AnyT K H2 x t := hx.same s
    obtain ⟨k1, k2, _⟩ := hx2.kit
    have i4 : i < 4 := (List.getElem?_eq_some_iff.mp hi).1
    have tk : ([v1, v2, v3, v4].take (i + 1)).all isI = (([v1, v2, v3, v4].take i).all isI && isI x) := by
      rw [List.take_succ, hi, List.all_append]
      simp
    refine ⟨rfl, _, rfl, _, _, _, _, _, rfl, .ty _, hx2.ty, k1, _, rfl, ?_⟩
    have no : isI x = false → ∃ acc, H2 D = some (.lst acc) ∧ acc.length < sizeLine ∧ ∃ ns : List Int, upd H2 D (.lst (acc ++ [.int 1])) D = some (.lst (ns.map V.int)) ∧ ns.length ≤ i + 1 ∧ Same H (upd H2 D (.lst (acc ++ [.int 1]))) ∧ (ns = [] ↔ ([v1, v2, v3, v4].take (i + 1)).all isI = true) := by
      intro e
      refine ⟨_, n1, small1000 (by rw [List.length_map]; omega), ns ++ [1], by rw [upd_same, List.map_append]; rfl, by rw [List.length_append, List.length_singleton]; omega, fun b o z => by rw [upd_ne (ne_of_none z hD)]; exact s b o z, ?_⟩
      rw [tk, e, Bool.and_false]
      simp
    cases hi2 : isI x with
    | true =>
      refine iteF ⟨_, rfl, _, _, _, _, _, rfl, .ty _, hx2.ty, k2, _, rfl, ?_⟩
      rw [hx2.notB hi2]
      exact iteF ⟨ns, n1, by omega, s, by rw [tk, hi2, Bool.and_true]; exact n3⟩
    | false =>
      cases hb : t == "bool" with
      | true =>
        refine iteF ⟨_, rfl, _, _, _, _, _, rfl, .ty _, hx2.ty, k2, _, rfl, ?_⟩
        rw [hb]
        exact iteT (no hi2)
      | false => exact iteT (iteT (no hi2))
  · rintro H2 ⟨ns, n1, n2, s, n3⟩
    have n3' : ns = [] ↔ ((isI v1 = true ∧ isI v2 = true) ∧ isI v3 = true ∧ isI v4 = true) := by
      rw [n3]
      simp [and_assoc]
    refine ⟨sz (by decide), fun p hp => ⟨.list (ns.map PyData.int), .list [], ?_, ?_, shaped_ints ns, shaped_ints [], _, rfl, ?_⟩⟩
    · exact .lst (SqL.of (by rw [upd_ne (ne_of_none n1 hp)]; exact n1)) (dp_ints ns)
    · exact .lst (SqL.of upd_same) .nil
    have sm : Same H (upd H2 p (.lst [])) := fun b o z => by rw [upd_ne (ne_of_none (s b o z) hp)]; exact s b o z
    cases ns with
    | cons z zs =>
      refine iteT ?_
      have e : okV v1 v2 v3 v4 = false := by
        cases e : okV v1 v2 v3 v4 with
        | false => rfl
        | true =>
          obtain ⟨c, u, d, x, rfl, rfl, rfl, rfl, _⟩ := okV_yes.mp e
          exact nomatch n3'.mpr ⟨⟨rfl, rfl⟩, rfl, rfl⟩
      have := q _ sm
      rw [e] at this
      exact this
    | nil =>
      obtain ⟨⟨e1, e2⟩, e3, e4⟩ := n3'.mp rfl
      cases v1 with
      | int c =>
        cases v2 with
        | int u =>
          cases v3 with
          | int d =>
            cases v4 with
            | int x =>
              refine iteF ⟨_, rfl, a, _, rfl, Same.seq sm hL, rfl, _, _, rfl, _, _, rfl, _, _, rfl, _, _, rfl, rfl, ?_⟩
              have := q _ sm
              have e : okV (.int c) (.int u) (.int d) (.int x) = ((decide (1 ≤ c) && decide (c ≤ 99)) && ((decide (1 ≤ d) && decide (d ≤ 99)) && ((decide (0 ≤ u) && decide (u ≤ c)) && (decide (0 ≤ x) && decide (x ≤ d))))) := by
                show (((decide (1 ≤ c) && decide (c ≤ 99)) && (decide (0 ≤ u) && decide (u ≤ c))) && ((decide (1 ≤ d) && decide (d ≤ 99)) && (decide (0 ≤ x) && decide (x ≤ d)))) = _
                generalize (decide (1 ≤ c) && decide (c ≤ 99)) = p1
                generalize (decide (0 ≤ u) && decide (u ≤ c)) = p2
                generalize (decide (1 ≤ d) && decide (d ≤ 99)) = p3
                generalize (decide (0 ≤ x) && decide (x ≤ d)) = p4
                cases p1 <;> cases p2 <;> cases p3 <;> cases p4 <;> rfl
              rw [e] at this
              dsimp only
              refine tret ?_
              show tAndV _ _ _ _ Q
              refine and_val (fun Q' q' => ?_) (fun Q' q' => and_val (fun Q' q' => ?_) (fun Q' q' => and_val (fun Q' q' => ?_) (fun Q' q' => ?_) q') q') this
              · exact chain_le (i := 1) (j := c) (k := 99) (fun _ z => z) (fun _ z => ⟨_, rfl, z⟩) (fun _ z => z) q'
              · exact chain_le (i := 1) (j := d) (k := 99) (fun _ z => z) (fun _ z => ⟨_, rfl, z⟩) (fun _ z => z) q'
              · exact chain_le (i := 0) (j := u) (k := c) (fun _ z => z) (fun _ z => ⟨_, rfl, z⟩) (fun _ z => ⟨_, rfl, z⟩) q'
              · exact chain_le (i := 0) (j := x) (k := d) (fun _ z => z) (fun _ z => ⟨_, rfl, z⟩) (fun _ z => ⟨_, rfl, z⟩) q'
            | _ => cases e4
          | _ => cases e3
        | _ => cases e2
      | _ => cases e1
end SR

set_option Elab.async false
set_option linter.all false
set_option maxRecDepth 100000
set_option maxHeartbeats 4000000
/-! K04B: the law of passed boxes: told, law. -/
namespace SR
open PySem L2
/-- try: body / except as n: y = n, with what follows: u, or v where an error was kept -/
def tTryKeep (K : PySem.W.Frag) (c : Value) (i j : Nat) (tb : WX → TS) (u : TS) (v : Addr → Value → Option Addr → TS) (Wout : WX) : TS := fun D σ H => tb (wKeep K c i j v Wout D) { D with nx := u D } σ H
/-- count, box_capacity, load, capacity in the parameters' order -/
def gkw_passed {α : Type} (_ zs : List α) : List α := match zs with
  | [a, b, c, d] => [d, c, b, a]
  | _ => []
theorem gkw_passed_rel {vs zs : List V} {us ws : List Value} (_ : Vals vs us) (r : Vals zs ws) : Vals (gkw_passed vs zs) (gkw_passed us ws) := by
  match zs, ws, r with
  | [], _, .nil => exact .nil
  | [_], _, .cons _ .nil => exact .nil
  | [_, _], _, .cons _ (.cons _ .nil) => exact .nil
  | [_, _, _], _, .cons _ (.cons _ (.cons _ .nil)) => exact .nil
  | [_, _, _, _], _, .cons a (.cons b (.cons c (.cons d .nil))) => exact .cons d (.cons c (.cons b (.cons a .nil)))
  | _ :: _ :: _ :: _ :: _ :: _, _, .cons _ (.cons _ (.cons _ (.cons _ (.cons _ _)))) => exact .nil
def spTold (K : PySem.W.Frag) : Sp := fun vs H Q _ => ∃ a b v1 v2 v3 v4 t1 t2 t3 t4, vs = [.ref a, .bl b] ∧ SqL K H a [v1, v2, v3, v4] ∧ AnyT K H v1 t1 ∧ AnyT K H v2 t2 ∧ AnyT K H v3 t3 ∧ AnyT K H v4 t4 ∧
  (okV v1 v2 v3 v4 = false → ∀ H', Same H H' → Q (.str "number") H') ∧
  ∀ c u d x, v1 = .int c → v2 = .int u → v3 = .int d → v4 = .int x → okN c u d x → ∀ p H', H p = none → Same H H' → H' p = some (.tup [.int (stC c u d x), .int (stL c u d x)]) → Q (.ref p) H'
def t_told (K : PySem.W.Frag) (c_BadNumber c_ScoopError : Addr) : TS := tSeq (tAsg (tTup (tCons (tC .non) (tCons (tC .non) (tNil)))) (gTup K 2 (gCons (gName 2) (gCons (gName 3) (gNil)))))
  (tSeq (tAsg (tVar 0) (gLst K 4 (gCons (gName 4) (gCons (gName 5) (gCons (gName 6) (gCons (gName 7) (gNil)))))))
  (tTryKeep K (.ref c_ScoopError) 8 2 (fun W => tIfS (tB (tVar 1))
  (tAsg (tKw 4 (spPassed K c_BadNumber) gkw_passed (WE W) tNil (tCons (tVar 7) (tCons (tVar 6) (tCons (tVar 5) (tCons (tVar 4) (tNil)))))) (gName 3))
  (tAsg (tCallS (spPassed K c_BadNumber) (WE W) (tCons (tVar 4) (tCons (tVar 5) (tCons (tVar 6) (tCons (tVar 7) (tNil)))))) (gName 3)))
  (tSeq (tIfS (tTest (tOp qIsN (tVar 2) (tC .non)))
  (tRet (tVar 3))
  (tNext))
  (tRet (tIf (tB (tCB (rIsi K) (tCons (tVar 2) (tCons (tC (.ref c_BadNumber)) tNil)))) (tC (.str "number")) (tC (.str "other")))))
  (fun a cls d => tSeq (tIfS (tTest (tOp qIsN (tVar 2) (tC .non)))
  (tRet (tVar 3))
  (tNext))
  (tRet (tIf (tB (tCB (rIsK K a cls d) (tCons (tVar 2) (tCons (tC (.ref c_BadNumber)) tNil)))) (tC (.str "number")) (tC (.str "other"))))) (fun _ _ _ _ => False)))
/-- what the text's classes say: an error of class B is one of class S, and isinstance tells it -/
structure ErrF (K : PySem.W.Frag) (B S : Addr) : Prop where
  ex : PySem.W.exmOne K (.ref B) (.ref S) = some true
  ec : ExcC K B
theorem pure_told {K : PySem.W.Frag} {B S : Addr} (F : ErrF K B S) (hk : PySem.W.kitOne K (.ref B) (.ref B) = some true) (vs : List V) (H : Hp) (Q : VK) (E : XK) (h : spTold K vs H Q E) :
    t_told K B S { nx := fun _ H' => Q .non H', rt := Q } (start ["some", "is_named", "caught", "found", "most", "burden", "size", "amount", "error"] vs) H := by
  obtain ⟨a, b, v1, v2, v3, v4, t1, t2, t3, t4, rfl, hL, h1, h2, h3, h4, kE, kQ⟩ := h
  refine ⟨sz (by show 2 ≤ 1000; decide), fun p0 hp0 => ⟨p0, _, rfl, SqT.of upd_same, rfl, _, _, rfl, _, _, rfl, rfl, ?_⟩⟩
  have e0 : Same H (upd H p0 (.tup [.non, .non])) := fun b o z => (upd_ne (ne_of_none z hp0)).trans z
  generalize upd H p0 (.tup [.non, .non]) = H0 at e0 ⊢
  refine ⟨_, rfl, a, _, rfl, Same.seq e0 hL, rfl, _, _, rfl, _, _, rfl, _, _, rfl, _, _, rfl, rfl, _, rfl, b, rfl, ?_⟩
  -- what the call leaves, named or not
  have err : okV v1 v2 v3 v4 = false → wKeep K (.ref S) 8 2 (fun a cls d => tSeq (tIfS (tTest (tOp qIsN (tVar 2) (tC .non))) (tRet (tVar 3)) (tNext))
      (tRet (tIf (tB (tCB (rIsK K a cls d) (tCons (tVar 2) (tCons (tC (.ref B)) tNil)))) (tC (.str "number")) (tC (.str "other"))))) (fun _ _ _ _ => False) { nx := fun _ H' => Q .non H', rt := Q } (.ref B) none
      [some (.ref a), some (.bl b), some .non, some .non, some v1, some v2, some v3, some v4, none] H0 := by
    intro e
    refine ⟨true, F.ex, fun _ x hx => ?_, fun z => nomatch z⟩
    refine ⟨_, rfl, rfl, _, rfl, ?_⟩
    exact iteF ⟨_, rfl, B, _, _, true, rfl, rfl, F.ec, rfl, fun u hu => hu, hk, _, rfl, iteT (kE e H0 e0)⟩
  have good : ∀ c u d x, v1 = .int c → v2 = .int u → v3 = .int d → v4 = .int x → okN c u d x → ∀ p H9, H0 p = none → Same H0 H9 → H9 p = some (.tup [.int (stC c u d x), .int (stL c u d x)]) →
      (tSeq (tIfS (tTest (tOp qIsN (tVar 2) (tC .non))) (tRet (tVar 3)) (tNext))
        (tRet (tIf (tB (tCB (rIsi K) (tCons (tVar 2) (tCons (tC (.ref B)) tNil)))) (tC (.str "number")) (tC (.str "other"))))) { nx := fun _ H' => Q .non H', rt := Q }
        [some (.ref a), some (.bl b), some .non, some (.ref p), some v1, some v2, some v3, some v4, none] H9 := by
    intro c u d x e1 e2 e3 e4 o p H9 hp s9 a9
    exact ⟨_, rfl, rfl, _, rfl, iteT ⟨_, rfl, kQ c u d x e1 e2 e3 e4 o p _ (Same.free e0 hp) (fun b o z => s9 _ _ (e0 b o z)) a9⟩⟩
  cases b with
  | true => exact iteT ⟨_, rfl, _, rfl, _, rfl, _, rfl, rfl, v1, v2, v3, v4, t1, t2, t3, t4, rfl, h1.same e0, h2.same e0, h3.same e0, h4.same e0, err, good⟩
  | false => exact iteF ⟨_, rfl, _, rfl, _, rfl, _, rfl, v1, v2, v3, v4, t1, t2, t3, t4, rfl, h1.same e0, h2.same e0, h3.same e0, h4.same e0, err, good⟩
end SR

set_option Elab.async false
set_option linter.all false
set_option maxRecDepth 100000
set_option maxHeartbeats 4000000
/-! SRD: data written out: its length. -/
namespace SR
open PySem L2
mutual
def cost : PyData → Nat
  | .none => 4
  | .bool _ => 5
  | .int _ => 1921
  | .str x => (reprText x).length
  | .list xs => costAll xs + 4
  | .tuple xs => costAll xs + 4
  | .dict _ => 0
def costAll : List PyData → Nat
  | [] => 0
  | x :: xs => cost x + 2 + costAll xs
end
theorem listText_len (ts : List Str) : (listText ts).length ≤ piled ts + 2 := by
  cases ts with
  | nil => decide
  | cons t r =>
    have h := textFrom_length_pos r 1 (("[" : Str) ++ (if (0 : Nat) > 0 then ", " else "" : String) ++ t) (Nat.succ_pos 0)
    have e : ((("[" : Str) ++ (if (0 : Nat) > 0 then ", " else "" : String) ++ t)).length = 1 + t.length := by
      simp only [strLen_append] <;> rfl
    have e2 : (listText (t :: r)).length = (textFrom 1 (("[" : Str) ++ (if (0 : Nat) > 0 then ", " else "" : String) ++ t) r).length + 1 := by
      show (textFrom 1 (("[" : Str) ++ (if (0 : Nat) > 0 then ", " else "" : String) ++ t) r ++ "]").length = _
      simp only [strLen_append] <;> rfl
    rw [e2, h, e, piled_cons]
    omega
theorem tupleText_len (ts : List Str) : (tupleText ts).length ≤ piled ts + 4 := by
  unfold tupleText
  rw [strLen_append, strLen_append]
  have e1 : ((("(" : String) : Str)).length = 1 := rfl
  have e3 : (((if ts.length == 1 then ",)" else ")" : String) : Str)).length ≤ 2 := by split <;> decide
  by_cases h : ts = []
  · subst h
    have e4 : (Str.join ", " []).length = 0 := rfl
    omega
  · have := join_length_add ts h
    omega
mutual
theorem shown_cost : ∀ d : PyData, d.showable = true → d.hasDict = false → d.shown.length ≤ cost d
  | .none, _, _ => by show (("None" : String) : Str).length ≤ 4; decide
  | .bool b, _, _ => by cases b <;> (simp only [PyData.shown, cost]; decide)
  | .int i, h, _ => by
    have e := int_text_length_le (k := 1920) (by decide) (of_decide_eq_true h)
    show (Str.ofString (toString i)).length ≤ 1921
    rw [ofString_length]
    exact e
  | .str x, _, _ => Nat.le_refl _
  | .list xs, h, hd => by
    have q := shownAll_cost xs h hd
    have := listText_len (PyData.shownAll xs)
    show (listText (PyData.shownAll xs)).length ≤ costAll xs + 4
    omega
  | .tuple xs, h, hd => by
    have q := shownAll_cost xs h hd
    have := tupleText_len (PyData.shownAll xs)
    show (tupleText (PyData.shownAll xs)).length ≤ costAll xs + 4
    omega
  | .dict _, _, hd => nomatch hd
theorem shownAll_cost : ∀ ds : List PyData, PyData.showableAll ds = true → PyData.hasDictAll ds = false → piled (PyData.shownAll ds) ≤ costAll ds
  | [], _, _ => Nat.le_refl _
  | d :: ds, h, hd => by
    have h' : (PyData.showable d && PyData.showableAll ds) = true := h
    have hd' : (PyData.hasDict d || PyData.hasDictAll ds) = false := hd
    rw [Bool.and_eq_true] at h'
    rw [Bool.or_eq_false_iff] at hd'
    have q1 := shown_cost d h'.1 hd'.1
    have q2 := shownAll_cost ds h'.2 hd'.2
    show piled (PyData.shown d :: PyData.shownAll ds) ≤ cost d + 2 + costAll ds
    rw [piled_cons]
    omega
end
theorem dRepr_cost {d : PyData} (h : d.showable = true) (hd : d.hasDict = false) : (dRepr d).length ≤ cost d := by
  cases d with
  | dict _ => cases hd
  | _ => exact shown_cost _ h hd
theorem show_int {i : Int} (h : i.natAbs < 2 ^ 1900) : (PyData.int i).showable = true := by
  show decide (i.natAbs.log2 < 1920) = true
  refine decide_eq_true ?_
  by_cases e : i.natAbs = 0
  · rw [e]; decide
  · exact Nat.lt_of_lt_of_le ((Nat.log2_lt e).mpr h) (by decide)
theorem repr_fit {K : PySem.W.Frag} {H : Hp} {x : V} {d : PyData} (hs : d.showable = true) (hx : Dp K H x d) (hc : cost d ≤ 1000000) : (dRepr d).length ≤ sizeLine :=
  Nat.le_trans (dRepr_cost hs (dp_nodict _ _ hx)) (Nat.le_trans hc (by decide))
theorem eqv_same {d : PyData} (hs : SeqAt.shaped d = true) : PyData.eqv d d = true := SeqAt.eqv_refl d (by
  unfold SeqAt.shaped at hs
  rw [Bool.and_eq_true] at hs
  exact hs.1)
theorem iteNE {d : PyData} {A B : Prop} (hs : SeqAt.shaped d = true) (q : B) : if (!PyData.eqv d d) = true then A else B := by
  rw [eqv_same hs]
  exact q
/-- repr(x) != repr(y) of the same data is False -/
theorem repr_same {K : PySem.W.Frag} {σ : L2.St} {H : Hp} {ta tb : TE} {x y : V} {d : PyData} {Q : Bool → Hp → Prop} (ha : ∀ Q' : VK, Q' x H → ta σ H Q') (hb : ∀ Q' : VK, Q' y H → tb σ H Q')
    (hx : Dp K H x d) (hy : Dp K H y d) (hs : d.showable = true) (hdep : d.depth ≤ 60) (hc : cost d ≤ 1000000) (q : Q false H) : tTest (tOp rNe (tCB (rRepr K) (tCons ta tNil)) (tCB (rRepr K) (tCons tb tNil))) σ H Q := by
  have hz : (dRepr d).length ≤ sizeLine := Nat.le_trans (dRepr_cost hs (dp_nodict _ _ hx)) (Nat.le_trans hc (by decide))
  refine ha _ ⟨x, d, rfl, hx, hs, hdep, hz, hb _ ⟨y, d, rfl, hy, hs, hdep, hz, rfl, _, rfl, ?_⟩⟩
  rw [decide_eq_true (rfl : V.str (dRepr d) = V.str (dRepr d))]
  exact q
/-- x != y of the same data is False -/
theorem ne_same {K : PySem.W.Frag} {σ : L2.St} {H : Hp} {x y : V} {d : PyData} {Q : VK} (hx : Dp K H x d) (hy : Dp K H y d) (hs : SeqAt.shaped d = true) (q : Q (.bl false) H) : rNeD K x y H Q := by
  refine ⟨d, d, hx, hy, hs, hs, ?_⟩
  have e : PyData.eqv d d = true := SeqAt.eqv_refl d (by
    unfold SeqAt.shaped at hs
    rw [Bool.and_eq_true] at hs
    exact hs.1)
  rw [e]
  exact q
theorem eq_same {K : PySem.W.Frag} {H : Hp} {x y : V} {d : PyData} {Q : VK} (hx : Dp K H x d) (hy : Dp K H y d) (hs : SeqAt.shaped d = true) (q : Q (.bl true) H) : rEqD K x y H Q := by
  refine ⟨d, d, hx, hy, hs, hs, ?_⟩
  have e : PyData.eqv d d = true := SeqAt.eqv_refl d (by
    unfold SeqAt.shaped at hs
    rw [Bool.and_eq_true] at hs
    exact hs.1)
  rw [e]
  exact q
end SR

set_option Elab.async false
set_option linter.all false
set_option maxRecDepth 100000
set_option maxHeartbeats 4000000
/-! K04C: the law of passed boxes: a turn, the law. -/
namespace SR
open PySem L2
def t_rest (K : PySem.W.Frag) (c_BadNumber : Addr) : TS := tSeq (tAsg (tC (.str "number")) (gName 7))
  (tSeq (tIfS (tB (tCall (spIsValid K) [] E0 (tCons (tVar 5) (tNil))))
  (tAsg (tCall spLPassed [] E0 (tCons (tOp (rIxL K) (tVar 5) (tC (.int 0))) (tCons (tOp (rIxL K) (tVar 5) (tC (.int 1))) (tCons (tOp (rIxL K) (tVar 5) (tC (.int 2))) (tCons (tOp (rIxL K) (tVar 5) (tC (.int 3))) (tNil)))))) (gName 7))
  (tNext))
  (tSeq (tAsg (tCall (spTold K) [] E0 (tCons (tVar 5) (tCons (tOp rEq (tCall spTake [] E0 (tCons (tVar 1) (tCons (tC (.int 2)) (tNil)))) (tC (.int 0))) (tNil)))) (gName 8))
  (tSeq (tIfS (tTest (tOp rNe (tCB (rRepr K) (tCons (tVar 8) (tNil))) (tCB (rRepr K) (tCons (tVar 7) (tNil)))))
  (tRet (tC (.bl false)))
  (tNext))
  (tIfS (tB (tCB (rIsi K) (tCons (tVar 7) (tCons (tC (.ty "tuple")) tNil))))
  (tSeq (tAsg (tTup (tCons (tOp (rIxL K) (tVar 5) (tC (.int 1))) (tCons (tOp (rIxL K) (tVar 5) (tC (.int 3))) (tNil)))) (gName 9))
  (tSeq (tIfS (tOr (tTest (tOp rNe (tOp qAdd (tOp (rIxT K) (tVar 7) (tC (.int 0))) (tOp (rIxT K) (tVar 7) (tC (.int 1)))) (tCB (rSumT K) (tCons (tVar 9) (tNil))))) (tTest (tOp (rNeD K) (tCall spLPassed [] E0 (tCons (tOp (rIxL K) (tVar 5) (tC (.int 2))) (tCons (tOp (rIxT K) (tVar 7) (tC (.int 0))) (tCons (tOp (rIxL K) (tVar 5) (tC (.int 0))) (tCons (tOp (rIxT K) (tVar 7) (tC (.int 1))) (tNil)))))) (tVar 9))))
  (tRet (tC (.bl false)))
  (tNext))
  (tIfS (tTest (tOp (rNeD K) (tCall (spPassed K c_BadNumber) [] E0 (tCons (tOp (rIxL K) (tVar 5) (tC (.int 2))) (tCons (tOp (rIxT K) (tVar 7) (tC (.int 0))) (tCons (tOp (rIxL K) (tVar 5) (tC (.int 0))) (tCons (tOp (rIxT K) (tVar 7) (tC (.int 1))) (tNil)))))) (tVar 9)))
  (tRet (tC (.bl false)))
  (tNext))))
  (tNext)))))
def t_turn (K : PySem.W.Frag) (c_BadNumber : Addr) : TS := tSeq (tPar 3 4 (tCons (tCall (spPick K) [] E0 (tCons (tVar 1) (tCons (tLst (tCons (tC (.int 1)) (tCons (tC (.int 1)) (tCons (tC (.int 2)) (tCons (tC (.int 9)) (tCons (tC (.int 99)) (tCons (tOp qAdd (tC (.int 1)) (tCall spTake [] E0 (tCons (tVar 1) (tCons (tC (.int 99)) (tNil))))) (tNil)))))))) (tNil)))) (tCons (tOp qAdd (tC (.int 1)) (tCall spTake [] E0 (tCons (tVar 1) (tCons (tC (.int 99)) (tNil))))) (tNil))))
  (tSeq (tAsg (tLst (tCons (tVar 3) (tCons (tCall spTake [] E0 (tCons (tVar 1) (tCons (tOp qAdd (tVar 3) (tC (.int 1))) (tNil)))) (tCons (tCall (spPick K) [] E0 (tCons (tVar 1) (tCons (tLst (tCons (tC (.int 1)) (tCons (tVar 4) (tNil)))) (tNil)))) (tCons (tC (.int 0)) (tNil)))))) (gName 5))
  (tSeq (tAsg (tCall spTake [] E0 (tCons (tVar 1) (tCons (tOp qAdd (tOp (rIxL K) (tVar 5) (tC (.int 2))) (tC (.int 1))) (tNil)))) (gSub (tVar 5) (tC (.int 3)) rSetL))
  (tSeq (tIfS (tTest (tOp rEq (tCall spTake [] E0 (tCons (tVar 1) (tCons (tC (.int 4)) (tNil)))) (tC (.int 0))))
  (tSeq (tAsg (tLst (tCons (tC .non) (tCons (tC (.bl true)) (tCons (tC (.bl false)) (tCons (tUn (rU fun i => .int (-i)) (tC (.int 1))) (tCons (tC (.int 0)) (tCons (tC (.int 100)) (tCons (tOp qPow (tC (.int 10)) (tC (.int 30))) (tCons (tC (.str "1")) (tCons (tTup (tCons (tC (.int 1)) (tNil))) (tCons (tLst (tNil)) (tCons (tOp qAdd (tVar 3) (tC (.int 1))) (tCons (tOp qAdd (tOp (rIxL K) (tVar 5) (tC (.int 2))) (tC (.int 1))) (tNil)))))))))))))) (gName 6))
  (tAsg (tCall (spPick K) [] E0 (tCons (tVar 1) (tCons (tVar 6) (tNil)))) (gSub (tVar 5) (tCall spTake [] E0 (tCons (tVar 1) (tCons (tC (.int 4)) (tNil)))) rSetL)))
  (tNext))
  (t_rest K c_BadNumber))))
def t_law (K : PySem.W.Frag) (c_BadNumber : Addr) : TS := tSeq (tAsg (tCall (spBegun K) [] E0 (tCons (tVar 0) (tNil))) (gName 1))
  (tSeq (tFor (iRng1 (tCons (tOp qAdd (tC (.int 20)) (tCB qMin2 (tCons (tCB (qLen K) (tCons (tVar 0) (tNil))) (tCons (tC (.int 40)) (tNil))))) (tNil))) (gName 2)
  (t_turn K c_BadNumber))
  (tRet (tC (.bl true))))
section
variable {K : PySem.W.Frag} {B : Addr}
/-- passing back gives the numbers before -/
theorem back_ok {c u d x : Int} (o : okN c u d x) : stC d (stC c u d x) c (stL c u d x) = u ∧ stL d (stC c u d x) c (stL c u d x) = x ∧ stC c u d x + stL c u d x = u + x ∧ okN d (stC c u d x) c (stL c u d x) := by
  obtain ⟨h1, h2, h3, h4⟩ := o
  unfold okN stC stL
  omega
theorem StB.same {H H' : Hp} {d g c : Addr} {b : Nat} (e : Same H H') (S : StB H d g c b) : StB H' d g c b := by
  obtain ⟨r, t, gs, cs, h1, h2, h3, h4⟩ := S
  exact ⟨r, t, gs, cs, e _ _ h1, e _ _ h2, e _ _ h3, h4⟩
/-- the list of four, as the rest of a turn finds it -/
structure Four (K : PySem.W.Frag) (H : Hp) (d g c s : Addr) (v1 v2 v3 v4 : V) : Prop where
  at_ : H s = some (.lst [v1, v2, v3, v4])
  nd : s ≠ d
  ng : s ≠ g
  nc : s ≠ c
  k1 : ∃ t, AnyT K (hid d g H) v1 t
  k2 : ∃ t, AnyT K (hid d g H) v2 t
  k3 : ∃ t, AnyT K (hid d g H) v3 t
  k4 : ∃ t, AnyT K (hid d g H) v4 t
theorem Four.kp {H H' : Hp} {d g c s : Addr} {v1 v2 v3 v4 : V} (F : Four K H d g c s v1 v2 v3 v4) (k : Kp d g H H') : Four K H' d g c s v1 v2 v3 v4 :=
  ⟨k _ _ F.nd F.ng F.at_, F.nd, F.ng, F.nc, let ⟨t, h⟩ := F.k1; ⟨t, h.same k.hid⟩, let ⟨t, h⟩ := F.k2; ⟨t, h.same k.hid⟩, let ⟨t, h⟩ := F.k3; ⟨t, h.same k.hid⟩, let ⟨t, h⟩ := F.k4; ⟨t, h.same k.hid⟩⟩
def pr2 (i j : Int) : PyData := .tuple [.int i, .int j]
theorem dp_pr2 {H : Hp} {p : Addr} {i j : Int} (h : H p = some (.tup [.int i, .int j])) : Dp K H (.ref p) (pr2 i j) := .tup (SqT.of h) (.cons (.int i) (.cons (.int j) .nil))
theorem pr2_shaped (i j : Int) : SeqAt.shaped (pr2 i j) = true := shaped_tup (ds := [.int i, .int j]) rfl (by simp [PyData.depthAll, PyData.depth])
theorem pr2_show {i j : Int} (h1 : i.natAbs < 2 ^ 1900) (h2 : j.natAbs < 2 ^ 1900) : (pr2 i j).showable = true := by
  show (PyData.showable (.int i) && (PyData.showable (.int j) && true)) = true
  rw [show_int h1, show_int h2] <;> rfl
theorem rest_ok {H : Hp} {d g c s : Addr} {b : Nat} {v1 v2 v3 v4 z : V} {w2 w3 w4 w6 w7 w8 w9 : Option V} {N N2 N3 : L2.St → Hp → Prop} {R : VK} (S : StB H d g c (b + 1)) (F : Four K H d g c s v1 v2 v3 v4)
    (hN : ∀ x2 x3 x4 x5 x6 x7 x8 x9 H', StB H' d g c b → N [some z, some (.ref d), x2, x3, x4, x5, x6, x7, x8, x9] H') :
    t_rest K B { nx := N, rt := R, bk := N2, ct := N3 } [some z, some (.ref d), w2, w3, w4, some (.ref s), w6, w7, w8, w9] H := by
  obtain ⟨⟨t1, k1⟩, ⟨t2, k2⟩, ⟨t3, k3⟩, ⟨t4, k4⟩⟩ := And.intro F.k1 (And.intro F.k2 (And.intro F.k3 F.k4))
  -- due = "number"; if _law_is_valid(some)
  refine ⟨_, rfl, s, v1, v2, v3, v4, t1, t2, t3, t4, rfl, SqL.of F.at_, k1.same hid_same, k2.same hid_same, k3.same hid_same, k4.same hid_same, fun H1 e1 => ⟨_, rfl, ?_⟩⟩
  have S1 := StB.same e1 S
  have F1 := F.kp (Kp.of_same e1)
  cases ok : okV v1 v2 v3 v4 with
  | false =>
    refine iteF ⟨_, rfl, _, rfl, d, g, c, b, 2, rfl, S1, by decide, by decide, fun i H2 _ _ S2 q2 => ⟨rfl, ?_⟩⟩
    have F2 := F1.kp q2
    obtain ⟨⟨u1, l1⟩, ⟨u2, l2⟩, ⟨u3, l3⟩, ⟨u4, l4⟩⟩ := And.intro F2.k1 (And.intro F2.k2 (And.intro F2.k3 F2.k4))
    refine ⟨s, _, v1, v2, v3, v4, u1, u2, u3, u4, rfl, SqL.of F2.at_, l1.same hid_same, l2.same hid_same, l3.same hid_same, l4.same hid_same, fun _ H9 e9 => ?_, fun c u d x e1 e2 e3 e4 o => ?_⟩
    · have hz : (dRepr (.str "number")).length ≤ sizeLine := repr_fit (K := K) (H := H9) rfl (.str _) (by decide +kernel)
      refine ⟨_, rfl, _, .str "number", rfl, .str _, rfl, by decide, hz, _, rfl, _, .str "number", rfl, .str _, rfl, by decide, hz, rfl, _, rfl, iteNS rfl ?_⟩
      refine ⟨_, rfl, _, _, _, _, _, rfl, .ty _, (AnyT.str (K := K) (H := H9) "number").ty, (AnyT.str (K := K) (H := H9) "number").kit.2.2.1, _, rfl, iteF ?_⟩
      exact hN _ _ _ _ _ _ _ _ _ (StB.same e9 S2)
    · rw [okV_yes.mpr ⟨c, u, d, x, e1, e2, e3, e4, o⟩] at ok
      cases ok
  | true =>
    obtain ⟨ca, u, da, x, rfl, rfl, rfl, rfl, o⟩ := okV_yes.mp ok
    -- due = _law_passed(..)
    refine iteT ⟨_, rfl, s, _, 0, _, rfl, rfl, SqL.of F1.at_, rfl, _, rfl, s, _, 1, _, rfl, rfl, SqL.of F1.at_, rfl, _, rfl, s, _, 2, _, rfl, rfl, SqL.of F1.at_, rfl, _, rfl, s, _, 3, _, rfl, rfl, SqL.of F1.at_, rfl,
      ca, u, da, x, rfl, fun p hp => ?_⟩
    obtain ⟨p1, p2, p3⟩ := S1.off hp
    have S2 := S1.new (o := .tup [.int (stC ca u da x), .int (stL ca u da x)]) hp
    have F2 := F1.kp (Kp.new (o := .tup [.int (stC ca u da x), .int (stL ca u da x)]) hp)
    have A2 : upd H1 p (.tup [.int (stC ca u da x), .int (stL ca u da x)]) p = some (.tup [.int (stC ca u da x), .int (stL ca u da x)]) := upd_same
    generalize upd H1 p (.tup [.int (stC ca u da x), .int (stL ca u da x)]) = H2 at S2 F2 A2 ⊢
    -- told = _law_told(..)
    refine ⟨_, rfl, _, rfl, d, g, c, b, 2, rfl, S2, by decide, by decide, fun i H3 _ _ S3 q3 => ⟨rfl, ?_⟩⟩
    have F3 := F2.kp q3
    have A3 := q3 _ _ p1 p2 A2
    refine ⟨s, _, .int ca, .int u, .int da, .int x, _, _, _, _, rfl, SqL.of F3.at_, .int _, .int _, .int _, .int _, fun z => (by rw [ok] at z; cases z), fun c' u' d' x' e1 e2 e3 e4 _ r H4 hr eq4 B4 => ?_⟩
    cases e1; cases e2; cases e3; cases e4
    have S4 := StB.same eq4 S3
    have F4 := F3.kp (Kp.of_same eq4)
    have A4 := eq4 _ _ A3
    obtain ⟨b1, b2, b3, b4⟩ := back_ok o
    -- if repr(told) != repr(due)
    have big : (2 : Nat) ^ 10 ≤ 2 ^ 1900 := Nat.pow_le_pow_right (by decide) (by decide)
    have hsh : (pr2 (stC ca u da x) (stL ca u da x)).showable = true := pr2_show (by have := b4.2.1; have := b4.1; omega) (by have := b4.2.2.2; have := b4.2.2.1; omega)
    have hz : (dRepr (pr2 (stC ca u da x) (stL ca u da x))).length ≤ sizeLine := repr_fit hsh (dp_pr2 (K := K) A4) (by simp [pr2, cost, costAll])
    have hdep : (pr2 (stC ca u da x) (stL ca u da x)).depth ≤ 60 := by simp [pr2, PyData.depth, PyData.depthAll]
    refine ⟨_, rfl, _, _, rfl, dp_pr2 B4, hsh, hdep, hz, _, rfl, _, _, rfl, dp_pr2 A4, hsh, hdep, hz, rfl, _, rfl, iteNS rfl ?_⟩
    have ty := AnyT.tup (K := K) (SqT.of A4)
    refine ⟨_, rfl, _, _, _, _, _, rfl, .ty _, ty.ty, ty.kit.2.2.1, _, rfl, iteT ?_⟩
    -- back = (some[1], some[3])
    refine ⟨_, rfl, s, _, 1, _, rfl, rfl, SqL.of F4.at_, rfl, _, rfl, s, _, 3, _, rfl, rfl, SqL.of F4.at_, rfl, sz (by show 2 ≤ 1000; decide), fun t ht => ?_⟩
    have S5 := S4.new (o := .tup [.int u, .int x]) ht
    have F5 := F4.kp (Kp.new (o := .tup [.int u, .int x]) ht)
    have A5 : upd H4 t (.tup [.int u, .int x]) p = _ := (upd_ne (ne_of_none A4 ht)).trans A4
    have T5 : upd H4 t (.tup [.int u, .int x]) t = some (.tup [.int u, .int x]) := upd_same
    generalize upd H4 t (.tup [.int u, .int x]) = H5 at S5 F5 A5 T5 ⊢
    -- if due[0] + due[1] != sum(back) or _law_passed(..) != back
    refine ⟨_, rfl, p, _, 0, _, rfl, rfl, SqT.of A5, rfl, _, rfl, p, _, 1, _, rfl, rfl, SqT.of A5, rfl, _, _, rfl, rfl, _, rfl, t, [u, x], rfl, SqT.of T5, rfl, _, rfl, ?_⟩
    have e1 : V.int (stC ca u da x + stL ca u da x) = V.int ([u, x].sum) := by rw [b3]; simp
    rw [decide_eq_true e1]
    refine iteF ⟨_, rfl, s, _, 2, _, rfl, rfl, SqL.of F5.at_, rfl, _, rfl, p, _, 0, _, rfl, rfl, SqT.of A5, rfl, _, rfl, s, _, 0, _, rfl, rfl, SqL.of F5.at_, rfl, _, rfl, p, _, 1, _, rfl, rfl, SqT.of A5, rfl,
      da, stC ca u da x, ca, stL ca u da x, rfl, fun p' hp' => ⟨_, rfl, ?_⟩⟩
    rw [b1, b2]
    refine ⟨pr2 u x, pr2 u x, dp_pr2 upd_same, dp_pr2 ((upd_ne (ne_of_none T5 hp')).trans T5), pr2_shaped _ _, pr2_shaped _ _, _, rfl, iteNE (pr2_shaped _ _) ?_⟩
    have S6 := S5.new (o := .tup [.int u, .int x]) hp'
    have F6 := F5.kp (Kp.new (o := .tup [.int u, .int x]) hp')
    have A6 : upd H5 p' (.tup [.int u, .int x]) p = _ := (upd_ne (ne_of_none A5 hp')).trans A5
    have T6 : upd H5 p' (.tup [.int u, .int x]) t = _ := (upd_ne (ne_of_none T5 hp')).trans T5
    generalize upd H5 p' (.tup [.int u, .int x]) = H6 at S6 F6 A6 T6 ⊢
    -- if passed(..) != back
    refine ⟨_, rfl, s, _, 2, _, rfl, rfl, SqL.of F6.at_, rfl, _, rfl, p, _, 0, _, rfl, rfl, SqT.of A6, rfl, _, rfl, s, _, 0, _, rfl, rfl, SqL.of F6.at_, rfl, _, rfl, p, _, 1, _, rfl, rfl, SqT.of A6, rfl,
      _, _, _, _, _, _, _, _, rfl, .int _, .int _, .int _, .int _, fun z => (by rw [okV_yes.mpr ⟨_, _, _, _, rfl, rfl, rfl, rfl, b4⟩] at z; cases z), fun c' u' d' x' e1 e2 e3 e4 _ r' H7 hr' s7 a7 => ⟨_, rfl, ?_⟩⟩
    cases e1; cases e2; cases e3; cases e4
    rw [b1, b2] at a7
    refine ⟨pr2 u x, pr2 u x, dp_pr2 a7, dp_pr2 (s7 _ _ T6), pr2_shaped _ _, pr2_shaped _ _, _, rfl, iteNE (pr2_shaped _ _) ?_⟩
    exact hN _ _ _ _ _ _ _ _ _ (StB.same s7 S6)
theorem hid_upd {H : Hp} {d g s p : Addr} {o u : HO} (np : p ≠ s) (h : hid d g H p = some u) : hid d g (upd H s o) p = some u := by
  obtain ⟨h0, h1, h2⟩ := hid_some h
  exact hid_of ((upd_ne np).trans h0) h1 h2
theorem anyT_upd {H : Hp} {d g s : Addr} {o : HO} {y : V} {ty : String} (h : AnyT K (hid d g H) y ty) (hne : y ≠ .ref s) : AnyT K (hid d g (upd H s o)) y ty := by
  cases h with
  | non => exact .non
  | bl b => exact .bl b
  | int i => exact .int i
  | str x => exact .str x
  | @lst p xs h =>
    have np : p ≠ s := fun q => hne (by rw [q])
    refine .lst (xs := xs) ?_
    rcases h with (h | ⟨ob, h⟩) | h
    · exact .inl (.inl (hid_upd np h))
    · exact .inl (.inr ⟨ob, hid_upd np h⟩)
    · exact .inr h
  | @tup p xs h =>
    have np : p ≠ s := fun q => hne (by rw [q])
    refine .tup (xs := xs) ?_
    rcases h with (h | ⟨ob, h⟩) | h
    · exact .inl (.inl (hid_upd np h))
    · exact .inl (.inr ⟨ob, hid_upd np h⟩)
    · exact .inr h
  | @dct p kvs h =>
    have np : p ≠ s := fun q => hne (by rw [q])
    refine .dct (kvs := kvs) ?_
    rcases h with h | ⟨ob, h⟩
    · exact .inl (hid_upd np h)
    · exact .inr ⟨ob, hid_upd np h⟩
theorem ix4 {a b c e : V} {n : Nat} (h : n < 4) : ixN [a, b, c, e].length (n : Int) = some n := by
  have : n = 0 ∨ n = 1 ∨ n = 2 ∨ n = 3 := by omega
  rcases this with rfl | rfl | rfl | rfl <;> rfl
theorem turn_ok {H : Hp} {d g c : Addr} {b : Nat} {z : V} {w2 w3 w4 w5 w6 w7 w8 w9 : Option V} {N N2 N3 : L2.St → Hp → Prop} {R : VK} (S : StB H d g c (b + 20))
    (hN : ∀ x2 x3 x4 x5 x6 x7 x8 x9 H', StB H' d g c b → N [some z, some (.ref d), x2, x3, x4, x5, x6, x7, x8, x9] H') :
    t_turn K B { nx := N, rt := R, bk := N2, ct := N3 } [some z, some (.ref d), w2, w3, w4, w5, w6, w7, w8, w9] H := by
  -- most, size = ..
  refine ⟨_, rfl, _, rfl, d, g, c, b + 19, 99, rfl, S, by decide, by decide, fun i1 H1 i10 i11 S1 q1 => ⟨_, _, rfl, rfl, sz (by show 6 ≤ 1000; decide), fun l hl => ?_⟩⟩
  obtain ⟨l1, l2, _⟩ := S1.off hl
  refine ⟨d, g, c, b + 18, l, _, rfl, S1.new hl, SqL.of upd_same, l1, l2, by show 0 < 6; decide, by show 6 < 1000; decide, fun v H2 hv S2 q2 => ?_⟩
  obtain ⟨m, rfl, m1, m2⟩ : ∃ m : Int, v = .int m ∧ 1 ≤ m ∧ m ≤ 99 := by
    simp only [List.mem_cons, List.not_mem_nil, or_false] at hv
    rcases hv with rfl | rfl | rfl | rfl | rfl | rfl
    · exact ⟨1, rfl, by decide, by decide⟩
    · exact ⟨1, rfl, by decide, by decide⟩
    · exact ⟨2, rfl, by decide, by decide⟩
    · exact ⟨9, rfl, by decide, by decide⟩
    · exact ⟨99, rfl, by decide, by decide⟩
    · exact ⟨_, rfl, by omega, by omega⟩
  clear hv
  refine ⟨_, rfl, d, g, c, b + 17, 99, rfl, S2, by decide, by decide, fun i2 H3 i20 i21 S3 q3 => ⟨_, _, rfl, rfl, _, _, rfl, ?_⟩⟩
  -- some = [most, ..]
  refine ⟨_, rfl, _, rfl, _, rfl, _, _, rfl, rfl, d, g, c, b + 16, m + 1, rfl, S3, by omega, by omega, fun u H4 u0 u1 S4 q4 => ⟨_, rfl, _, rfl, sz (by show 2 ≤ 1000; decide), fun k hk => ?_⟩⟩
  obtain ⟨k1, k2, _⟩ := S4.off hk
  refine ⟨d, g, c, b + 15, k, _, rfl, S4.new hk, SqL.of upd_same, k1, k2, by show 0 < 2; decide, by show 2 < 1000; decide, fun v H5 hv S5 q5 => ?_⟩
  obtain ⟨e, rfl, e1, e2⟩ : ∃ m : Int, v = .int m ∧ 1 ≤ m ∧ m ≤ 99 := by
    simp only [List.mem_cons, List.not_mem_nil, or_false] at hv
    rcases hv with rfl | rfl
    · exact ⟨1, rfl, by decide, by decide⟩
    · exact ⟨_, rfl, by omega, by omega⟩
  clear hv
  refine ⟨sz (by show 4 ≤ 1000; decide), fun s hs => ?_⟩
  obtain ⟨s1, s2, s3⟩ := S5.off hs
  have S6 := S5.new (o := .lst [.int m, .int u, .int e, .int 0]) hs
  have A6 : upd H5 s (.lst [.int m, .int u, .int e, .int 0]) s = some (.lst [.int m, .int u, .int e, .int 0]) := upd_same
  generalize upd H5 s (.lst [.int m, .int u, .int e, .int 0]) = H6 at S6 A6 ⊢
  -- some[3] = ..
  refine ⟨_, rfl, _, rfl, s, _, 2, _, rfl, rfl, SqL.of A6, rfl, _, _, rfl, rfl, d, g, c, b + 14, e + 1, rfl, S6, by omega, by omega, fun x H7 x0 x1 S7 q7 => ?_⟩
  have A7 := q7 _ _ s1 s2 A6
  refine ⟨_, rfl, s, _, 3, 3, rfl, rfl, A7, rfl, ?_⟩
  have S8 := S7.upd (o := .lst ([V.int m, .int u, .int e, .int 0].set 3 (.int x))) s1 s2 s3
  have A8 : upd H7 s (.lst ([V.int m, .int u, .int e, .int 0].set 3 (.int x))) s = some (.lst [.int m, .int u, .int e, .int x]) := upd_same
  generalize upd H7 s (.lst ([V.int m, .int u, .int e, .int 0].set 3 (.int x))) = H8 at S8 A8 ⊢
  -- if _law_take(state, 4) == 0
  refine ⟨_, rfl, d, g, c, b + 13, 4, rfl, S8, by decide, by decide, fun y H9 _ _ S9 q9 => ⟨rfl, _, rfl, ?_⟩⟩
  have A9 := q9 _ _ s1 s2 A8
  refine ite2 (fun _ => ?_) (fun _ => ?_)
  · -- odd = [..]
    refine ⟨1, rfl, 10, 30, rfl, rfl, ⟨by decide, by decide, by decide⟩, sz (by show 1 ≤ 1000; decide), fun t ht => ⟨sz (Nat.zero_le _), fun r hr => ?_⟩⟩
    obtain ⟨t1, t2, _⟩ := S9.off ht
    have S10 := S9.new (o := .tup [.int 1]) ht
    have A10 : upd H9 t (.tup [.int 1]) s = _ := (upd_ne (ne_of_none A9 ht)).trans A9
    have T10 : upd H9 t (.tup [.int 1]) t = some (.tup [.int 1]) := upd_same
    generalize upd H9 t (.tup [.int 1]) = H10 at S10 A10 T10 hr ⊢
    obtain ⟨r1, r2, _⟩ := S10.off hr
    have S11 := S10.new (o := .lst []) hr
    have A11 : upd H10 r (.lst []) s = _ := (upd_ne (ne_of_none A10 hr)).trans A10
    have T11 : upd H10 r (.lst []) t = _ := (upd_ne (ne_of_none T10 hr)).trans T10
    have R11 : upd H10 r (.lst []) r = some (.lst []) := upd_same
    generalize upd H10 r (.lst []) = H11 at S11 A11 T11 R11 ⊢
    refine ⟨_, rfl, _, _, rfl, rfl, _, rfl, s, _, 2, _, rfl, rfl, SqL.of A11, rfl, _, _, rfl, rfl, sz (by show 12 ≤ 1000; decide), fun o ho => ?_⟩
    obtain ⟨o1, o2, _⟩ := S11.off ho
    have S12 := S11.new (o := .lst [.non, .bl true, .bl false, .int (-1), .int 0, .int 100, .int (10 ^ (30 : Int).toNat), .str "1", .ref t, .ref r, .int (m + 1), .int (e + 1)]) ho
    -- some[..] = _law_pick(state, odd)
    refine ⟨_, rfl, _, rfl, d, g, c, b + 12, o, _, rfl, S12, SqL.of upd_same, o1, o2, by show 0 < 12; decide, by show 12 < 1000; decide, fun v H13 hv S13 q13 => ?_⟩
    have A13 := q13 _ _ s1 s2 ((upd_ne (ne_of_none A11 ho)).trans A11)
    have T13 := q13 _ _ t1 t2 ((upd_ne (ne_of_none T11 ho)).trans T11)
    have R13 := q13 _ _ r1 r2 ((upd_ne (ne_of_none R11 ho)).trans R11)
    refine ⟨_, rfl, _, rfl, d, g, c, b + 11, 4, rfl, S13, by decide, by decide, fun n H14 n0 n1 S14 q14 => ?_⟩
    have A14 := q14 _ _ s1 s2 A13
    have nt : V.ref t ≠ .ref s := fun q => ne_of_none A9 ht (V.ref.inj q).symm
    have nr : V.ref r ≠ .ref s := fun q => ne_of_none A10 hr (V.ref.inj q).symm
    have hk : (∃ ty, AnyT K (hid d g H14) v ty) ∧ v ≠ .ref s := by
      simp only [List.mem_cons, List.not_mem_nil, or_false] at hv
      rcases hv with rfl | rfl | rfl | rfl | rfl | rfl | rfl | rfl | rfl | rfl | rfl | rfl
      · exact ⟨⟨_, .non⟩, fun q => nomatch q⟩
      · exact ⟨⟨_, .bl _⟩, fun q => nomatch q⟩
      · exact ⟨⟨_, .bl _⟩, fun q => nomatch q⟩
      · exact ⟨⟨_, .int _⟩, fun q => nomatch q⟩
      · exact ⟨⟨_, .int _⟩, fun q => nomatch q⟩
      · exact ⟨⟨_, .int _⟩, fun q => nomatch q⟩
      · exact ⟨⟨_, .int _⟩, fun q => nomatch q⟩
      · exact ⟨⟨_, .str _⟩, fun q => nomatch q⟩
      · exact ⟨⟨_, .tup (SqT.of (hid_of (q14 _ _ t1 t2 T13) t1 t2))⟩, nt⟩
      · exact ⟨⟨_, .lst (SqL.of (hid_of (q14 _ _ r1 r2 R13) r1 r2))⟩, nr⟩
      · exact ⟨⟨_, .int _⟩, fun q => nomatch q⟩
      · exact ⟨⟨_, .int _⟩, fun q => nomatch q⟩
    clear hv
    obtain ⟨j, rfl⟩ : ∃ j : Nat, n = (j : Int) := ⟨n.toNat, by omega⟩
    have hj : j < 4 := by omega
    refine ⟨s, _, (j : Int), j, rfl, rfl, A14, ix4 hj, ?_⟩
    have iz : ∀ i : Int, (∃ t, AnyT K (hid d g H14) (.int i) t) ∧ V.int i ≠ .ref s := fun i => ⟨⟨_, .int i⟩, fun q => nomatch q⟩
    have fin : ∀ v1 v2 v3 v4 : V, [V.int m, .int u, .int e, .int x].set j v = [v1, v2, v3, v4] → ((∃ t, AnyT K (hid d g H14) v1 t) ∧ v1 ≠ .ref s) → ((∃ t, AnyT K (hid d g H14) v2 t) ∧ v2 ≠ .ref s) → ((∃ t, AnyT K (hid d g H14) v3 t) ∧ v3 ≠ .ref s) → ((∃ t, AnyT K (hid d g H14) v4 t) ∧ v4 ≠ .ref s) →
        t_rest K B { nx := N, rt := R, bk := N2, ct := N3 } [some z, some (.ref d), w2, some (.int m), some (.int (1 + i2)), some (.ref s), some (.ref o), w7, w8, w9] (upd H14 s (.lst ([V.int m, .int u, .int e, .int x].set j v))) := by
      intro v1 v2 v3 v4 ev h1 h2 h3 h4
      rw [ev]
      have keep : ∀ {y : V}, (∃ t, AnyT K (hid d g H14) y t) → y ≠ .ref s → ∃ t, AnyT K (hid d g (upd H14 s (.lst [v1, v2, v3, v4]))) y t := fun ⟨ty, h⟩ hne => ⟨ty, anyT_upd h hne⟩
      exact rest_ok (b := b + 10) (S14.upd s1 s2 s3) ⟨upd_same, s1, s2, s3, keep h1.1 h1.2, keep h2.1 h2.2, keep h3.1 h3.2, keep h4.1 h4.2⟩ fun _ _ _ _ _ _ _ _ H' S' => hN _ _ _ _ _ _ _ _ H' (S'.mono (by omega))
    have : j = 0 ∨ j = 1 ∨ j = 2 ∨ j = 3 := by omega
    rcases this with rfl | rfl | rfl | rfl
    · exact fin v _ _ _ rfl hk (iz u) (iz e) (iz x)
    · exact fin _ v _ _ rfl (iz m) hk (iz e) (iz x)
    · exact fin _ _ v _ rfl (iz m) (iz u) hk (iz x)
    · exact fin _ _ _ v rfl (iz m) (iz u) (iz e) hk
  · exact rest_ok (b := b + 12) S9 ⟨A9, s1, s2, s3, ⟨_, .int _⟩, ⟨_, .int _⟩, ⟨_, .int _⟩, ⟨_, .int _⟩⟩ fun _ _ _ _ _ _ _ _ H' S' => hN _ _ _ _ _ _ _ _ H' (S'.mono (by omega))
def spLaw (K : PySem.W.Frag) : Sp := fun vs H Q _ => ∃ (a : Addr) (ns : List Int), vs = [.ref a] ∧ SqL K H a (ns.map V.int) ∧ ns.length ≤ 63 ∧ ∀ H', Q (.bl true) H'
theorem pure_law (vs : List V) (H : Hp) (Q : VK) (E : XK) (h : spLaw K vs H Q E) : t_law K B { nx := fun _ H' => Q .non H', rt := Q } (start ["script", "state", "turn", "most", "size", "some", "odd", "due", "told", "back"] vs) H := by
  obtain ⟨a, ns, rfl, hL, hlen, k⟩ := h
  refine ⟨_, rfl, a, ns, rfl, hL, hlen, fun d g c H1 S1 e1 _ _ _ => ?_⟩
  have hL1 : SqL K H1 a (ns.map V.int) := Same.seq e1 hL
  refine ⟨_, rfl, a, _, rfl, .inl hL1, _, _, rfl, _, _, rfl, rfl, _, rfl, ?_, ?_, ?_⟩
  · show -(2 ^ 62) ≤ 20 + (if (40 : Int) < ((ns.map V.int).length : Int) then 40 else ((ns.map V.int).length : Int))
    split <;> omega
  · show 20 + (if (40 : Int) < ((ns.map V.int).length : Int) then 40 else ((ns.map V.int).length : Int)) < 2 ^ 62
    rw [List.length_map]
    split <;> omega
  have hn : (20 + (if (40 : Int) < ((ns.map V.int).length : Int) then 40 else ((ns.map V.int).length : Int))).toNat ≤ 60 := by
    split <;> omega
  generalize (20 + (if (40 : Int) < ((ns.map V.int).length : Int) then 40 else ((ns.map V.int).length : Int))).toNat = n at hn
  refine for_range (lo := 0) (n := n) (fun i σ H2 => StB H2 d g c (2000 - 20 * i) ∧ ∃ x2 x3 x4 x5 x6 x7 x8 x9, σ = [some (.ref a), some (.ref d), x2, x3, x4, x5, x6, x7, x8, x9]) ⟨S1.mono (by decide), _, _, _, _, _, _, _, _, rfl⟩ ?_ ?_
  · rintro i σ H2 hi ⟨S2, x2, x3, x4, x5, x6, x7, x8, x9, rfl⟩
    have e : 2000 - 20 * i = (2000 - 20 * (i + 1)) + 20 := by omega
    rw [e] at S2
    show t_turn K B _ [some (.ref a), some (.ref d), some (.int (0 + i)), x3, x4, x5, x6, x7, x8, x9] H2
    exact turn_ok S2 fun y2 y3 y4 y5 y6 y7 y8 y9 H' S' => ⟨S', _, _, _, _, _, _, _, _, rfl⟩
  · rintro σ H2 _
    exact k H2
end
end SR

set_option Elab.async false
set_option linter.all false
set_option maxRecDepth 100000
set_option maxHeartbeats 4000000
/-! SRK: a def of the text that is known by its name. -/
namespace SR
open PySem PySem.Spec PyProof.Rows L2
structure Kn (P : Program) (w : World) (K : PySem.W.Frag) (mg : Str → Option Value) (base : Heap) (CX : CXT) (k : Nat) (x : Str) (ps : List Str) (sp : Sp) : Prop where
  ex : ∃ f fd, FnOk P w K mg base CX k f fd ps sp ∧ mg x = some (.ref f) ∧ PySem.W.keepIn K (.ref f) = true ∧ L2.Binds K fd ps []
structure KnG (P : Program) (w : World) (K : PySem.W.Frag) (mg : Str → Option Value) (base : Heap) (CX : CXT) (k : Nat) (x : Str) (ps : List Str) (sp : Sp) : Prop where
  ex : ∃ f fd, FnG P w K mg base CX k f fd ps sp ∧ mg x = some (.ref f) ∧ PySem.W.keepIn K (.ref f) = true ∧ L2.Binds K fd ps []
/-- with keywords: m positional values, then those named ks -/
structure KnK (P : Program) (w : World) (K : PySem.W.Frag) (mg : Str → Option Value) (base : Heap) (CX : CXT) (k : Nat) (x : Str) (ps : List Str) (sp : Sp) (m : Nat) (ks : List Str) (gV : List V → List V → List V) : Prop where
  ex : ∃ f fd g, FnOk P w K mg base CX k f fd ps sp ∧ mg x = some (.ref f) ∧ PySem.W.keepIn K (.ref f) = true ∧ KBn K fd ps m ks g gV
section
variable {X : Cx} {CX : CXT} {k j : Nat} {ps ks : List Str} {sp : Sp} {E : XK} {x : Str} {p pos : Pos} {e : Expr} {es : List Expr} {t tk : TA} {kws : List Keyword} {gV : List V → List V → List V}
theorem pe_k (c : Kn X.prog X.w X.K X.mg X.base CX k x ps sp) (hr : Room j X.A) (hk : k ≤ j) (hg : Gl X x) (hx : Passes CX X E) (ha : PA X (e :: es) t) (hdb : (x == ("__debug__" : Str)) = false := by decide)
    (he : starEach (e :: es) X.env = (false, eval e X.env) :: starEach es X.env := by rfl) (hpl : (backTo pos (starEach es X.env)).any (·.1) = false := by rfl) : PE X (.Call (.Name x p) (e :: es) [] pos) (tCall sp [] E t) := by
  obtain ⟨f, fd, F, hm, kp, b⟩ := c.ex
  exact pe_call F (hr.mono hk) hg hm kp b .nil hx ha hdb he hpl
theorem pe_kG (c : KnG X.prog X.w X.K X.mg X.base CX k x ps sp) (hgs : Gs X.A) (hr : Room j X.A) (hk : k ≤ j) (hg : Gl X x) (hx : Passes CX X E) (ha : PA X (e :: es) t) (hdb : (x == ("__debug__" : Str)) = false := by decide)
    (he : starEach (e :: es) X.env = (false, eval e X.env) :: starEach es X.env := by rfl) (hpl : (backTo pos (starEach es X.env)).any (·.1) = false := by rfl) : PE X (.Call (.Name x p) (e :: es) [] pos) (tCall sp [] E t) := by
  obtain ⟨f, fd, F, hm, kp, b⟩ := c.ex
  exact pe_callG1 F hgs (hr.mono hk) hg hm kp b .nil hx ha hdb he hpl
/-- in a try's body -/
theorem pe_kS {E : L2.St → XK} (c : Kn X.prog X.w X.K X.mg X.base CX k x ps sp) (hr : Room j X.A) (hk : k ≤ j) (hg : Gl X x) (hx : ∀ σ, PassesAt CX X σ (E σ)) (ha : PA X (e :: es) t) (hdb : (x == ("__debug__" : Str)) = false := by decide)
    (he : starEach (e :: es) X.env = (false, eval e X.env) :: starEach es X.env := by rfl) (hpl : (backTo pos (starEach es X.env)).any (·.1) = false := by rfl) : PE X (.Call (.Name x p) (e :: es) [] pos) (tCallS sp E t) := by
  obtain ⟨f, fd, F, hm, kp, b⟩ := c.ex
  exact pe_callS F (hr.mono hk) hg hm kp b hx ha hdb he hpl
theorem pe_kK0 {E : L2.St → XK} (c : KnK X.prog X.w X.K X.mg X.base CX k x ps sp 0 ks gV) (hr : Room j X.A) (hk : k ≤ j) (hg : Gl X x) (hx : ∀ σ, PassesAt CX X σ (E σ)) (hkw : PK X kws tk)
    (hall : (backToKw pos (keywordEach kws X.env)).all (·.1.isSome) = true := by rfl) (hks : (backToKw pos (keywordEach kws X.env)).filterMap (·.1) = ks := by rfl) (hdb : (x == ("__debug__" : Str)) = false := by decide)
    (hpl : ((backTo pos (starEach [] X.env)).any (·.1) || (backToKw pos (keywordEach kws X.env)).any (·.1.isNone)) = false := by rfl) :
    PE X (.Call (.Name x p) [] kws pos) (tKw ks.length sp gV E tNil tk) := by
  obtain ⟨f, fd, g, F, hm, kp, b⟩ := c.ex
  exact pe_kw0 F (hr.mono hk) hg hm kp b hx hkw hall hks hdb hpl
end
/-- a module's name by its value -/
theorem pe_gl {X : Cx} {x : Str} {pos : Pos} {v : V} (hg : Gl X x) (h : ∃ u, X.mg x = some u ∧ RelV v u) (hdb : (x == ("__debug__" : Str)) = false := by decide) : PE X (.Name x pos) (tC v) := by
  obtain ⟨u, h1, h2⟩ := h
  exact pe_glob hg h1 h2 hdb
/-- pss_try_keep by the name of what it leaves -/
theorem pss_keep {X : Cx} {x n y : Str} {c : Value} {i j : Nat} {body rest : List Stmt} {np n2 yp ap pos pos' : Pos} (tb : WX → TS) (u : TS) (v : Addr → Value → Option Addr → TS) (hs : X.stack = X.env :: X.outer) (hf : X.env.frame = some X.env.locals) (hN : X.N.Nodup)
    (hi : X.N[i]? = some n) (hln : X.env.kindOf n = some .local) (hj : X.N[j]? = some y) (hly : X.env.scope.names.lookup y = some .local) (hc : Names X x c)
    (hb : ∀ (W : WX) (pn : List (Addr × Obj)) (xe : Value → Shared → Prop), Takes (X.tr pn xe) W → PassesOwn (model X.prog X.w) X.A X.env xe → PSs (X.tr pn xe) body (tb W))
    (hu : PSs X rest u) (hv : ∀ (a : Addr) (oe : Obj) (cls : Value) (d : Option Addr) (pn : List (Addr × Obj)), Zc cls d oe → (∃ vs, oe.data = .fields vs) → PSs (keepX X ((a, oe) :: pn)) rest (v a cls d))
    (hsw : ∀ (a : Addr) (pn : List (Addr × Obj)), swapsWith (.Name n n2) (some (.Name y yp)) ap.line (X.suite a pn).env = pure false := by intro _ _; rfl)
    (hd1 : (n == ("__debug__" : Str)) = false := by decide) (hd2 : (n == ("__classdict__" : Str)) = false := by decide) :
    PSs X (.Try body [.ExceptHandler (some (.Name x np)) (some n) [.Assign [.Name y yp] (.Name n n2) ap] pos'] [] [] pos :: rest) (tTryKeep X.K c i j tb u v (fun _ _ _ _ => False)) :=
  pss_try_keep hs hf hN hi hln hj hly hc takes0 hb hu hv hsw hd1 hd2
/-! ### facts that the head tells -/
def excB (K : PySem.W.Frag) (D : Addr) : Bool :=
  decide (PySem.W.findIn K (.ref D) "__getattribute__" = some (some (.builtin "BaseException.__getattribute__"))) && (decide (PySem.W.findIn K (.ref D) "__getattr__" = some none) && (decide (PySem.W.subIn K (.ref D) (.type "BaseException") = some true) && (PySem.W.hasDictIn K D &&
  (decide (PySem.W.findIn K (.ref D) "__class__" = some (some (.builtin "object.__class__"))) && (decide (PySem.W.specialIn K (.builtin "object.__class__") "__get__" = some (some (.builtin "getset_descriptor.__get__"))) && (decide (PySem.W.takesIn K (.builtin "object.__class__") = some true) && decide (PySem.W.mroIn K D (.type "object") = some true)))))))
theorem excB_ok {K : PySem.W.Frag} {D : Addr} (h : excB K D = true) : ExcC K D := by
  unfold excB at h
  simp only [Bool.and_eq_true, decide_eq_true_eq] at h
  obtain ⟨h1, h2, h3, h4, h5, h6, h7, h8⟩ := h
  exact ⟨h1, h2, h3, h4, h5, h6, h7, h8⟩
def errB (K : PySem.W.Frag) (B S : Addr) : Bool := decide (PySem.W.exmOne K (.ref B) (.ref S) = some true) && excB K B
theorem errB_ok {K : PySem.W.Frag} {B S : Addr} (h : errB K B S = true) : ErrF K B S := by
  unfold errB at h
  rw [Bool.and_eq_true, decide_eq_true_eq] at h
  exact ⟨h.1, excB_ok h.2⟩
def kitIs (K : PySem.W.Frag) (t c : Value) (b : Bool) : Bool := decide (PySem.W.kitOne K t c = some b)
theorem kitIs_ok {K : PySem.W.Frag} {t c : Value} {b : Bool} (h : kitIs K t c b = true) : PySem.W.kitOne K t c = some b := of_decide_eq_true h
end SR

set_option Elab.async false
set_option linter.all false
set_option maxRecDepth 100000
set_option maxHeartbeats 4000000
/-! SRS: a set display of whole numbers with one for. -/
namespace SR
open PySem PySem.Spec L2
/-- {elt for tg in iter if ..}, each item a whole number -/
def tScN (w : World) (wi : TI) (g : TG) (tt : TT) (te : TE) (vs : List Nat) : TE := fun σ H Q => wi σ H fun J H1 => ∀ D, H1 D = none →
  ∃ W : Nat → Nat → Hp → Prop, (∃ m, W 0 m (upd H1 D (SetO w D (fun _ => false) 0))) ∧ ∀ i m H2, W i m H2 →
    (J.stop i H2 ∧ Q (.ref D) H2) ∨ (J.go i H2 ∧ ∃ Nx : Hp → Prop, (∀ H', Nx H' → ∃ m', m' < m ∧ W (i + 1) m' H') ∧ ∀ x H', J.yld i H2 x H' → g x (wipe σ vs) H' fun σ2 H3 => wipe σ2 vs = wipe σ vs ∧ tt σ2 H3 fun b H4 =>
      if b = true then te σ2 H4 fun y H5 => rSAdd w (.ref D) [y] H5 fun _ H6 => Nx H6 else Nx H4)
section
variable {X : Cx}
/-- the places that a block's walk keeps to itself -/
def Apart (X : Cx) (fp : List Addr) (H : Hp) : Prop := ∀ b ∈ fp, H b = none
theorem apart_ok {s : Shared} {H3 : Hp} {scope : Scope} {ce : Env} {fp : List Addr} {σ : L2.St} {H : Hp} {s' : Shared} (I : L2.Inv (X.blk s H3 scope ce fp) [] σ H s') (h : Apart X fp H) : ∀ b ∈ fp, FpOk (X.blk s H3 scope ce fp) [] H b := by
  intro b hb
  have a := I.ok.exf b hb
  exact ⟨h b hb, a.1, I.ok.exfs b hb, Or.inl hb, fun x c e => a.2 x c e, fun p hp => nomatch hp⟩
theorem pe_scN {elt tg iter : Expr} {ifs : List Expr} {scope : Scope} {own : List (PySem.Str × Nat)} {pos : Pos} {wi : TI} {g : TG} {tt : TT} {te : TE} (hc : X.calm = true) (hN : X.N.Nodup) (hi : PI X tg iter wi) (ok : BlkOk X.N X.env.scope scope own)
    (hg : ∀ s H C cl fp, PG (X.blk s H scope (compEnvC scope cl C X.env) fp) tg g) (ht : ∀ s H C cl fp, PTs (X.blk s H scope (compEnvC scope cl C X.env) fp) ifs tt)
    (he : ∀ s H C cl fp, PE (X.blk s H scope (compEnvC scope cl C X.env) fp) elt te) (hs : ∀ x, foldedSetIterable iter X.env x = pure x := by intro _; rfl) :
    PE X (.SetComp elt [⟨tg, iter, ifs, 0⟩] scope pos) (tScN X.w wi g tt te (own.map (·.2))) := by
  constructor
  intro pins s σ H Q I h
  rw [PpSet.eval_SetComp]
  have cells : ∀ y ∈ scope.names, y.2 = .free → ∃ c, X.env.cells.lookup y.1 = some c := by
    intro y hy e
    cases ok.free y hy e with
    | inl k => exact I.ok.has _ (Or.inl k)
    | inr k => exact I.ok.has _ (Or.inr k)
  apply wpAny_comprehension_free rfl hs (closure_ok cells) ok.kind (fun y hy e => by rw [ok.uniq y hy, e])
  refine thn (hi.run pins s σ H _ I h) fun xv s1 hx => thn hx fun itv s2 h2 => ?_
  obtain ⟨it, fp, tn, J, H2, rfl, I2, T, run2, f2, q⟩ := h2
  have hfr := I2.hok.fresh (Nat.le_refl s2.heap.objs.size)
  obtain ⟨W, ⟨m0, w0⟩, turn⟩ := q _ hfr
  apply PpSet.newSet_ok
  -- the heap with the empty set
  have new := setO_new (P := X.prog) (H := upd H2 s2.heap.objs.size (SetO X.w s2.heap.objs.size (fun _ => false) 0)) (setR_fresh (h := s2.heap) X.w)
  have I3 : L2.Inv X pins σ (upd H2 s2.heap.objs.size (SetO X.w s2.heap.objs.size (fun _ => false) 0)) { s2 with heap := s2.heap.push ⟨.type "set", none, .set #[] 0 (.fresh 0 0 (!X.w.params.followText "set-order")), #[]⟩ } :=
    I2.laid (t' := s2.toks) (fun b o e => Heap.get?_push_of_some _ e) (Nat.le_refl _) new
  have run3 : tn 0 (s2.heap.push ⟨.type "set", none, .set #[] 0 (.fresh 0 0 (!X.w.params.followText "set-order")), #[]⟩) := T.keep _ _ _ run2 fun b _ o e => Heap.get?_push_of_some _ e
  have low : ∀ b ∈ fp, b < s2.heap.objs.size := fun b hb => let ⟨o, e, _⟩ := T.obj _ _ run2 b hb; Heap.lt_size e
  have f3 : ∀ b ∈ fp, FpOk X pins (upd H2 s2.heap.objs.size (SetO X.w s2.heap.objs.size (fun _ => false) 0)) b ∧ b < (s2.heap.push ⟨.type "set", none, .set #[] 0 (.fresh 0 0 (!X.w.params.followText "set-order")), #[]⟩).objs.size := by
    intro b hb
    have l := low b hb
    refine ⟨⟨(upd_ne (Nat.ne_of_lt l)).trans (f2 b hb).1, (f2 b hb).2⟩, ?_⟩
    rw [Heap.size_push]
    exact Nat.lt_succ_of_lt l
  clear new low f2 run2 hx h I2 I hi hfr q
  generalize upd H2 s2.heap.objs.size (SetO X.w s2.heap.objs.size (fun _ => false) 0) = H3 at I3 w0 f3
  generalize s2.heap.objs.size = D at turn
  generalize hs3 : ({ s2 with heap := s2.heap.push ⟨.type "set", none, .set #[] 0 (.fresh 0 0 (!X.w.params.followText "set-order")), #[]⟩ } : Shared) = s3 at I3 ⊢
  have e3 : s2.heap.push ⟨.type "set", none, .set #[] 0 (.fresh 0 0 (!X.w.params.followText "set-order")), #[]⟩ = s3.heap := by rw [← hs3]
  rw [e3] at run3 f3
  clear hs3 e3
  apply newEnv_comp
  have I4 := block_start I3 ok hN f3
  have run4 : tn 0 (pushCells (s3.heap.push { cls := .type "dict", data := .dict #[] }) scope.names) := T.keep _ _ _ run3 fun b _ o e => pushCells_keeps _ _ _ _ (Heap.get?_push_of_some _ e)
  have pg := hg s3 H3 s3.heap.objs.size (cellsFrom (s3.heap.objs.size + 1) scope.names (cloFrom X.env.cells scope.names [])) fp
  have pt := ht s3 H3 s3.heap.objs.size (cellsFrom (s3.heap.objs.size + 1) scope.names (cloFrom X.env.cells scope.names [])) fp
  have pe := he s3 H3 s3.heap.objs.size (cellsFrom (s3.heap.objs.size + 1) scope.names (cloFrom X.env.cells scope.names [])) fp
  show codeAny _ _ (.compStart _ 0 (.ref it) (.ref D) (compEnvC scope (cellsFrom (s3.heap.objs.size + 1) scope.names (cloFrom X.env.cells scope.names [])) s3.heap.objs.size X.env)) (compPost _ _ _ none _ (.ref D) s3.heap.objs.size) _
  have here : (compEnvC scope (cellsFrom (s3.heap.objs.size + 1) scope.names (cloFrom X.env.cells scope.names [])) s3.heap.objs.size X.env).locals = s3.heap.objs.size := rfl
  generalize compEnvC scope (cellsFrom (s3.heap.objs.size + 1) scope.names (cloFrom X.env.cells scope.names [])) s3.heap.objs.size X.env = ce at I4 pg pt pe here ⊢
  refine (fun loop => PpSet.codeAny_compStart_set loop (T.self X.A 0 _ _ _ run4 loop)) ?_
  replace run4 : tn 0 ({ s3 with heap := pushCells (s3.heap.push { cls := .type "dict", data := .dict #[] }) scope.names } : Shared).heap := run4
  generalize ({ s3 with heap := pushCells (s3.heap.push { cls := .type "dict", data := .dict #[] }) scope.names } : Shared) = s4 at I4 run4 ⊢
  refine PpSet.compLoopS_any (fun n s' => ∃ i H', L2.Inv (X.blk s3 H3 scope ce fp) [] (wipe σ (own.map (·.2))) H' s' ∧ tn i s'.heap ∧ Apart X fp H' ∧ W i n H') ?_ m0 ⟨0, H3, I4, run4, fun b hb => (f3 b hb).1.1, w0⟩
  rintro n s5 ⟨i, H5, I5, t5, a5, w5⟩
  cases turn i n H5 w5 with
  | inl over =>
    refine thnF (T.done (X.blk s3 H3 scope ce fp) rfl rfl rfl hc i [] s5 _ H5 (fun _ _ => False) I5 (apart_ok I5 a5) t5 over.1) ?_
    rintro r s6 ⟨rfl, I6⟩
    have I7 : L2.Inv X pins σ H5 s6 := I3.call' (ch := fp) I6.os I6.base I6.hok I6.bare fun b hb => let z := (f3 b hb).1.2; ⟨z.2.2.1, z.1, z.2.2.2.1, z.2.2.2.2⟩
    obtain ⟨m, ns, _⟩ := I6.loc
    have fr := I6.free
    change H5 ce.locals = none at fr
    change s6.heap.Ns ce.locals m at ns
    rw [here] at fr ns
    obtain ⟨c0, c1, c2, c3, c4, c5⟩ := I3.fpOk (Nat.le_refl _) fr
    exact ⟨m, ns, fun h2 sb => ⟨.ref D, H5, I7.turned (t' := s6.toks) (fun b o hb e => (sb.2 b hb).trans e) c0 c1 c3 c4 c5, rfl, over.2⟩⟩
  | inr more =>
    obtain ⟨go, Nx, hNx, step⟩ := more
    refine thnF (T.item (X.blk s3 H3 scope ce fp) rfl rfl rfl hc i [] s5 _ H5 (fun _ _ => False) I5 (apart_ok I5 a5) t5 go) ?_
    rintro r s6 ⟨u, rfl, h6⟩
    refine thnF h6 ?_
    rintro _ s7 ⟨x, H7, I7, r7, y7, t7, a7⟩
    refine thnF (pg.run _ s7 _ H7 x u _ (I7.pinned (apart_ok I7 a7) (T.obj _ _ t7)) r7 (step x H7 y7)) ?_
    rintro _ s8 ⟨σ8, H8, I8, hw, q8⟩
    refine thnF (pt.run _ s8 σ8 H8 _ I8 q8) ?_
    rintro b s9 ⟨H9, I9, q9⟩
    -- a turn's end
    have done : ∀ (s' : Shared) (H' : Hp), L2.Inv (X.blk s3 H3 scope ce fp) ([] ++ pinsAt fp s7.heap) σ8 H' s' → Nx H' →
        ∃ m, m < n ∧ ∃ i H', L2.Inv (X.blk s3 H3 scope ce fp) [] (wipe σ (own.map (·.2))) H' s' ∧ tn i s'.heap ∧ Apart X fp H' ∧ W i m H' := by
      intro s' H' I' nx
      obtain ⟨m', less, w'⟩ := hNx H' nx
      have kept : ∀ b ∈ fp, ∀ o, s7.heap.get? b = some o → s'.heap.get? b = some o ∧ H' b = none := by
        intro b hb o e
        have z := I'.pin (b, o) (List.mem_append_right _ (List.mem_append_right _ (mem_pinsAt hb e)))
        exact ⟨z.1, z.2.1⟩
      have ln : (wipe σ (own.map (·.2))).length = σ8.length := by rw [← hw, wipe_length]
      have low : L2.Inv (X.blk s3 H3 scope ce fp) [] (wipe σ (own.map (·.2))) H' s' := (I'.unpinned (pins := [])).weak ln fun j v e => by
        rw [← hw] at e
        exact (wipe_some e).1
      have ap : Apart X fp H' := fun b hb => let ⟨o, e, _⟩ := T.obj _ _ t7 b hb; (kept b hb o e).2
      exact ⟨m', less, i + 1, H', low, T.keep _ _ _ t7 (fun b hb o e => (kept b hb o e).1), ap, w'⟩
    cases b with
    | false =>
      rw [if_neg Bool.false_ne_true] at q9 ⊢
      exact done _ _ I9 q9
    | true =>
      rw [if_pos rfl] at q9 ⊢
      refine thnF (pe.run _ s9 σ8 H9 _ I9 q9) ?_
      rintro z s10 ⟨y, H10, I10, ry, q10⟩
      refine thnF (mt_sadd (X := X.blk s3 H3 scope ce fp) _ s10 σ8 H10 (.ref D) [y] (.ref D) [z] _ I10 rfl (.cons ry .nil) q10) ?_
      rintro _ s11 ⟨_, H11, I11, _, q11⟩
      exact done _ _ I11 q11
end
end SR

set_option Elab.async false
set_option linter.all false
set_option maxRecDepth 100000
set_option maxHeartbeats 4000000
/-! SRU: rules for lists and tuples alike. -/
namespace SR
open PySem PySem.Spec PyProof.Rows L2
/-- a walk for a set display -/
theorem scN_it {J : It} {n : Nat} {G : Hp → Prop} {Y : Nat → Hp → V → Hp → Prop} (wk : Walk J n G Y) {w : World} {g : TG} {tt : TT} {te : TE} {vs : List Nat} {σ : L2.St} {H1 : Hp} {D : Addr} {Qd : Hp → Prop} (Pv : Nat → Hp → Prop)
    (h0 : Pv 0 (upd H1 D (SetO w D (fun _ => false) 0))) (hG : ∀ i H, i ≤ n → Pv i H → G H)
    (hs : ∀ i x H H', i < n → Pv i H → Y i H x H' → g x (wipe σ vs) H' fun σ2 H3 => wipe σ2 vs = wipe σ vs ∧ tt σ2 H3 fun b H4 => if b = true then te σ2 H4 fun y H5 => rSAdd w (.ref D) [y] H5 fun _ H6 => Pv (i + 1) H6 else Pv (i + 1) H4)
    (hd : ∀ H, Pv n H → Qd H) : ∃ W : Nat → Nat → Hp → Prop, (∃ m, W 0 m (upd H1 D (SetO w D (fun _ => false) 0))) ∧ ∀ i m H2, W i m H2 →
      (J.stop i H2 ∧ Qd H2) ∨ (J.go i H2 ∧ ∃ Nx : Hp → Prop, (∀ H', Nx H' → ∃ m', m' < m ∧ W (i + 1) m' H') ∧ ∀ x H', J.yld i H2 x H' → g x (wipe σ vs) H' fun σ2 H3 => wipe σ2 vs = wipe σ vs ∧ tt σ2 H3 fun b H4 =>
        if b = true then te σ2 H4 fun y H5 => rSAdd w (.ref D) [y] H5 fun _ H6 => Nx H6 else Nx H4) := by
  refine ⟨fun i m H => i + m = n ∧ Pv i H, ⟨n, Nat.zero_add n, h0⟩, ?_⟩
  rintro i m H ⟨rfl, p⟩
  have gh := hG i H (Nat.le_add_right i m) p
  cases m with
  | zero => exact .inl ⟨wk.stops H gh, hd H p⟩
  | succ m =>
    have lt : i < i + (m + 1) := by omega
    exact .inr ⟨wk.goes i H lt gh, Pv (i + 1), fun H' p' => ⟨m, Nat.lt_succ_self m, by omega, p'⟩, fun x H' y => hs i x H H' lt p (wk.yields i H x H' lt gh y)⟩
section
variable {X : Cx}
theorem pi_or {tg l : Expr} {a b : TI} (ha : PI X tg l a) (hb : PI X tg l b) : PI X tg l (fun σ H R => a σ H R ∨ b σ H R) :=
  ⟨fun pins s σ H R I h => h.elim (ha.run pins s σ H R I) (hb.run pins s σ H R I)⟩
theorem cr_or {f : Value} {a b : List V → Hp → VK → Prop} (ha : CallR X f a) (hb : CallR X f b) : CallR X f (fun xs H Q => a xs H Q ∨ b xs H Q) :=
  fun pins s σ H xs us Q I r h => h.elim (ha pins s σ H xs us Q I r) (hb pins s σ H xs us Q I r)
/-- what is never come to -/
theorem ps_no {st : Stmt} : PS X st (fun _ _ _ => False) := ⟨fun _ _ _ _ _ _ h => h.elim⟩
theorem pe_no {e : Expr} : PE X e (fun _ _ _ => False) := ⟨fun _ _ _ _ _ _ h => h.elim⟩
/-- len of a set of whole numbers -/
theorem cr_lenSet : CallR X (.builtin "len") (fun xs H Q => ∃ a S n, xs = [V.ref a] ∧ H a = some (SetO X.w a S n) ∧ Q (.int n) H) := by
  intro pins s σ H xs us Q I r h
  obtain ⟨a, S, n, rfl, ha, q⟩ := h
  obtain ⟨u, rfl, ru⟩ := vals1 r
  cases ru
  obtain ⟨o, es, ep, t, ho, ex, hd, _, _, _, hb, hf, hn, _, _⟩ := setO_get I ha
  have fit : (scanBound : Int) < 2 ^ 63 := by unfold scanBound; decide
  refine call_len_set ho ex hd hf (by omega) ⟨.int n, H, I.tok _, ⟨_, by rw [hn]⟩, q⟩
/-- a tuple whose object has no dict of its own -/
def Bare (H : Hp) (a : Addr) (xs : List V) : Prop := ∃ o, H a = some (.frz o (.tup xs)) ∧ o.cls = .type "tuple" ∧ o.dict = none
theorem Bare.sq {K : PySem.W.Frag} {H : Hp} {a : Addr} {xs : List V} (h : Bare H a xs) : SqT K H a xs := let ⟨o, e, _⟩ := h; .inl (.inr ⟨o, e⟩)
/-- such a tuple of the written part -/
def BareK (K : PySem.W.Frag) (a : Addr) (xs : List V) : Prop := ∃ (o : Obj) (its : List Value) (n : Nat), K.lookup a = some o ∧ o.cls = .type "tuple" ∧ o.dict = none ∧ o.data = .seq its.toArray n ∧ xs.length ≤ sizeLine ∧ Vals xs its
theorem BareK.sq {K : PySem.W.Frag} {H : Hp} {a : Addr} {xs : List V} (h : BareK K a xs) : SqT K H a xs := by
  obtain ⟨o, its, n, h1, h2, _, h4, h5, h6⟩ := h
  refine .inr ⟨o, its.toArray, n, h1, h2, h4, ?_, h6⟩
  rw [List.size_toArray, ← h6.length]
  exact h5
def BareW (K : PySem.W.Frag) (H : Hp) (a : Addr) (xs : List V) : Prop := Bare H a xs ∨ BareK K a xs
theorem BareW.sq {K : PySem.W.Frag} {H : Hp} {a : Addr} {xs : List V} (h : BareW K H a xs) : SqT K H a xs := h.elim Bare.sq BareK.sq
/-- tuple(xs) of a list, the object known -/
theorem cr_tupB : CallR X (.type "tuple") (fun xs H Q => ∃ p ys, xs = [.ref p] ∧ SqL X.K H p ys ∧ ∀ l o, H l = none → o.cls = .type "tuple" → o.dict = none → Q (.ref l) (upd H l (.frz o (.tup ys)))) := by
  intro pins s σ H xs us Q I r h
  obtain ⟨p, ys, rfl, hq, q⟩ := h
  obtain ⟨u, rfl, rx⟩ := vals1 r
  cases rx
  obtain ⟨its, r2, pl, hz⟩ := I.list hq
  have hlen := r2.length
  refine call_tuple_list pl.isList (fun h' kp => ?_) (by simp only [List.size_toArray] <;> omega)
  have I1 : L2.Inv X pins σ H { s with heap := h' } := I.kept (t' := s.toks) kp
  have at_ : (h'.push { cls := .type "tuple", data := .seq its.toArray }).get? h'.objs.size = some { cls := .type "tuple", data := .seq its.toArray } := Heap.get?_push_size _ rfl
  have I2 : L2.Inv X pins σ (upd H h'.objs.size (.frz { cls := .type "tuple", data := .seq its.toArray } (.tup ys))) { s with heap := h'.push { cls := .type "tuple", data := .seq its.toArray } } :=
    I1.laid (t' := s.toks) (fun b o e => Heap.get?_push_of_some _ e) (Nat.le_refl _) ⟨at_, hz, its, r2, IsTup.new _ _⟩
  exact ⟨.ref h'.objs.size, _, I2, rfl, q _ _ (I1.hok.fresh (Nat.le_refl _)) rfl rfl⟩
/-- sorted of a tuple -/
theorem sorted_seq {prog : Program} {w : World} {A : Around} {E : Value → Shared → Prop} {s : Shared} {l : Addr} {vs : List Value} {ltv : Value → Value → Bool} {Q : Value → Shared → Prop} (O : SrtO.Swo ltv) (hl : IsTup s.heap l vs.toArray) (hz : vs.length ≤ sizeLine)
    (hS : 2 ≤ vs.length → ∀ (h1 : Heap) (a : Addr), h1.get? a = some (seqObj "list" vs.toArray 0) → (∀ b o, s.heap.get? b = some o → b ≠ a ∧ h1.get? b = some o) → SrtO.SortableO prog w A.in1.in1 { s with heap := h1 } a vs ltv)
    (h : ∀ (out : List Value) (h1 h' : Heap) (d : Addr), SrtO.Srtd ltv out → SrtO.Stb ltv out vs → (∀ b o, s.heap.get? b = some o → h1.get? b = some o) → (∀ b o, h1.get? b = some o → h'.get? b = some o) → h1.objs.size ≤ d → (∃ n, h'.get? d = some (seqObj "list" out.toArray n)) → Q (.ref d) { s with heap := h' }) :
    wpAny (model prog w) A (call (.builtin "sorted") [.ref l]) Q E s := by
  obtain ⟨o, ho, hcl, n, hd⟩ := hl
  apply Calls.call_function_entry kind_sorted plain_sorted entry_sorted (args_sorted1 _)
  unfold Builtin.«sorted»
  apply wpAny_bind (m := checkCount "sorted" 1 1 _)
  apply wpAny_pure
  apply wpAny_bind
  refine wpAny_collect_seq l (.inr rfl) ho hcl hd (fun h1 k1 => ?_) (by rw [List.size_toArray]; exact hz)
  rw [List.toList_toArray]
  apply wpAny_bind
  refine wpAny_newList ?_ hz
  have new : (h1.push (seqObj "list" vs.toArray 0)).get? h1.objs.size = some (seqObj "list" vs.toArray 0) := Heap.get?_push_size _ rfl
  have old : ∀ b o, s.heap.get? b = some o → b ≠ h1.objs.size ∧ (h1.push (seqObj "list" vs.toArray 0)).get? b = some o := fun b o e => ⟨Nat.ne_of_lt (Heap.lt_size (k1 b o e)), Heap.get?_push_of_some _ (k1 b o e)⟩
  show wpAny _ _ _ _ _ { s with heap := h1.push (seqObj "list" vs.toArray 0) }
  apply wpAny_bind
  refine wpAny_holding (wpAny_call_entry slot_list_sort ⟨_, new, rfl⟩ entry_list_sort (SrtO.list_sort_ord O new hz (fun h2 => hS h2 _ _ new old) fun out hs hb => ⟨_, rfl, ?_⟩) (args_list_sort _))
  refine wpAny_pure ⟨_, rfl, h out h1 _ _ hs hb k1 (fun b o e => ?_) (Nat.le_refl _) (sortedHeap_at new)⟩
  have lt := Heap.lt_size e
  rw [sortedHeap_old (Nat.ne_of_lt lt) (by rw [size_push']; exact Nat.lt_succ_of_lt lt)]
  exact Heap.get?_push_of_some _ e
/-- sorted of a tuple of pairs of whole numbers -/
theorem cr_sortedPT : CallR X (.builtin "sorted") (fun vs H Q => ∃ (a : Addr) (xs : List V) (k : V → Int × Int), vs = [V.ref a] ∧ SqT X.K H a xs ∧ (∀ x ∈ xs, ∃ t, x = V.ref t ∧ H t = some (.tup [.int (k x).1, .int (k x).2])) ∧
    ∀ ys p, SrtO.Srtd (ltP k) ys → SrtO.Stb (ltP k) ys xs → H p = none → Q (.ref p) (upd H p (.lst ys))) := by
  intro pins s σ H vs us Q I r h
  obtain ⟨a, xs, k, rfl, hs, hx, q⟩ := h
  obtain ⟨its, rv, hl, hz⟩ := I.tuple hs
  obtain ⟨u, rfl, ru⟩ := vals1 r
  cases ru
  obtain ⟨e1, e2⟩ := refs_back rv fun x m => let ⟨t, e, _⟩ := hx x m; ⟨t, e⟩
  have prs : ∀ v ∈ its, Srt.IsPair s.heap v (k (backV v)).1 (k (backV v)).2 := by
    intro v hv
    obtain ⟨t, rfl⟩ := e2 v hv
    have hm : V.ref t ∈ xs := by rw [e1]; exact List.mem_map.mpr ⟨_, hv, rfl⟩
    obtain ⟨t', e, ht⟩ := hx _ hm
    cases e
    obtain ⟨_, its2, r2, o, ho, hc, n, hd⟩ := I.hok _ _ ht
    obtain ⟨u1, u2, rfl, ⟨t1, rfl⟩, t2, rfl⟩ := vals2 r2
    exact ⟨t, o, t1, t2, n, rfl, ho, hc, hd⟩
  refine sorted_seq (SrtO.swo_lex fun u => k (backV u)) hl (by rw [← rv.length]; exact hz) (fun h2 h1 b hb kk => ?_) fun out h1 h' d o1 o2 k1 k2 far nw => ?_
  · refine SrtO.pairs_sortableO (s := { s with heap := h1 }) (by omega) (fun v hm => (prs v hm).keeps fun c o e _ => (kk c o e).2) fun o e => ?_
    cases Option.some.inj (e.symm.trans hb)
    intro c
    exact absurd (Value.type.inj c) (by decide)
  · have I1 : L2.Inv X pins σ H { s with heap := h1 } := I.kept (t' := s.toks) k1
    obtain ⟨n, hn⟩ := nw
    have rf : ∀ u ∈ out, ∃ a, u = Value.ref a := fun u hu => e2 u (o2.perm.mem_iff.mp hu)
    have st : SrtO.Stb (ltP k) (out.map backV) xs := by rw [e1]; exact SrtO.Stb.map (ltP_swo k) backV o2
    refine ⟨.ref d, upd H d (.lst (out.map backV)), I1.laid (t' := s.toks) k2 far ⟨?_, out, n, vals_back rf, hn⟩, rfl, q _ d (SrtO.srtd_map o1) st (I1.hok.fresh far)⟩
    rw [st.len]
    exact hz
theorem pairs2 {pins : List (Addr × Obj)} {σ : L2.St} {H : Hp} {s : Shared} (I : L2.Inv X pins σ H s) : ∀ {ps : List Addr} {kvs : List (Key × V)}, Paired (fun p kv => SqT X.K H p [kV kv.1, kv.2]) ps kvs →
    ∃ (prs : List (Key × Value)) (us : List (Value × Value)), KV kvs prs ∧ prs.length = ps.length ∧ us.length = ps.length ∧
      ∀ (j : Nat) (k v : Value), us[j]? = some (k, v) → ∃ b q, ps[j]? = some b ∧ IsTup s.heap b #[k, v] ∧ prs[j]? = some (q, v) ∧ (mixKind X.prog X.w).is q k = true := by
  intro ps
  induction ps with
  | nil =>
    intro kvs h
    cases h
    exact ⟨[], [], .nil, rfl, rfl, fun j k v e => nomatch e⟩
  | cons p ps ih =>
    intro kvs h
    cases h with
    | cons h t =>
      obtain ⟨prs, us, r, l1, l2, f⟩ := ih t
      obtain ⟨its, rv, ht, _⟩ := I.tuple h
      obtain ⟨u, y, rfl, ru, ry⟩ := vals2 rv
      refine ⟨(_, y) :: prs, (u, y) :: us, .cons ⟨rfl, ry⟩ r, congrArg (· + 1) l1, congrArg (· + 1) l2, fun j k v e => ?_⟩
      cases j with
      | zero =>
        cases (show (u, y) = (k, v) from Option.some.inj e)
        exact ⟨p, _, rfl, ht, rfl, kV_is ru⟩
      | succ j => exact f j k v e
/-- dict of a tuple of pairs -/
theorem cr_dictPT (hcalm : X.calm = true) : CallR X (.type "dict") (fun xs H Q => ∃ (a : Addr) (ps : List Addr) (kvs : List (Key × V)), xs = [V.ref a] ∧ BareW X.K H a (ps.map V.ref) ∧ Paired (fun p kv => SqT X.K H p [kV kv.1, kv.2]) ps kvs ∧
    ∀ p, H p = none → Q (.ref p) (upd H p (.dK (mergeK [] kvs)))) := by
  intro pins s σ H xs us Q I r h
  obtain ⟨a, ps, kvs, rfl, hbw, hp, q⟩ := h
  obtain ⟨u, rfl, ru⟩ := vals1 r
  cases ru
  have hbx : ∃ (o : Obj) (its : List Value) (n : Nat), s.heap.get? a = some o ∧ (ps.map V.ref).length ≤ sizeLine ∧ Vals (ps.map V.ref) its ∧ o.data = .seq its.toArray n ∧ o.cls = .type "tuple" ∧ o.dict = none := by
    rcases hbw with ⟨o, hb, hcl, hdn⟩ | ⟨o, its, n, h1, h2, h3, h4, h5, h6⟩
    · obtain ⟨ho, hz, its, rv, o2, ho2, _, n, hdat⟩ := I.hok _ _ hb
      cases Option.some.inj (ho.symm.trans ho2)
      exact ⟨o, its, n, ho, hz, rv, hdat, hcl, hdn⟩
    · exact ⟨o, its, n, I.kIn _ _ h1, h5, h6, h4, h2, h3⟩
  obtain ⟨o, its, n, ho, hz, rv, hdat, hcl, hdn⟩ := hbx
  have ei := refs_at rv
  subst ei
  rw [List.length_map] at hz
  obtain ⟨prs, us, rel, l1, l2, f⟩ := pairs2 I hp
  have hm : (s.heap.objs.size == sysModules) = false := beq_eq_false_iff_ne.mpr (Nat.ne_of_gt I.big)
  have hlen : (mergeK [] kvs).length ≤ sizeLine := by
    refine Nat.le_trans (length_mergeK kvs []) ?_
    rw [List.length_nil, Nat.zero_add, rel.length, l1]
    exact hz
  refine PySem.call_dict_pairs (knd := mixKind X.prog X.w) (kvs := prs) (PairArg.tuple a (ps.map Value.ref).toArray (fun j => (ps[j]?).getD 0) us) (I.ok.hd hcalm) ⟨⟨o, n, ho, hcl, hdn, hdat⟩, ?_, fun j k v e => ?_⟩ ⟨l1.trans l2.symm, fun j k v e => ?_⟩ (by rw [l2]; exact hz) fun h' tk hd k => ?_
  · rw [List.size_toArray, List.length_map, l2]
  · obtain ⟨b, q', e1, e2, _⟩ := f j k v e
    have at_ : (fun j => (ps[j]?).getD 0) j = b := by
      show (ps[j]?).getD 0 = b
      rw [e1]
      rfl
    rw [at_]
    refine ⟨?_, .inl e2⟩
    rw [List.getElem?_toArray, List.getElem?_map, e1]
    rfl
  · obtain ⟨b, q', _, _, e3, e4⟩ := f j k v e
    exact ⟨q', e3, e4⟩
  · exact ⟨.ref s.heap.objs.size, upd H s.heap.objs.size (.dK (mergeK [] kvs)), I.laid (t' := tk) (fun b o e => k b o (fun z => nomatch z) e) (Nat.le_refl _) (show ObjOk X.prog X.w _ _ _ (.dK (mergeK [] kvs)) from ⟨hlen, hm, merged [] prs, KV.merge rel .nil, hd⟩), rfl, q _ (I.hok.fresh (Nat.le_refl _))⟩
end
end SR

set_option Elab.async false
set_option linter.all false
set_option maxRecDepth 100000
set_option maxHeartbeats 4000000
/-! K09A: pairs and holders of the program, and the law's own. -/
namespace SR
open PySem L2
theorem same_new {H : Hp} {p : Addr} {o : HO} (h : H p = none) : Same H (upd H p o) := fun b u z => (upd_ne (ne_of_none z h)).trans z
/-- a value of any kind; where it is a tuple, what it holds -/
inductive Val2 (K : PySem.W.Frag) (H : Hp) : V → Option (List V) → Prop where
  | tup {a : Addr} {xs : List V} (h : SqT K H a xs) (hx : ∀ x ∈ xs, ∃ t, AnyT K H x t) : Val2 K H (.ref a) (some xs)
  | oth {v : V} {t : String} (h : AnyT K H v t) (ht : (t == "tuple") = false) : Val2 K H v none
theorem Val2.same {K : PySem.W.Frag} {H H' : Hp} {v : V} {o : Option (List V)} (e : Same H H') (h : Val2 K H v o) : Val2 K H' v o := by
  cases h with
  | tup h hx => exact .tup (SqT.same e h) fun x m => let ⟨t, z⟩ := hx x m; ⟨t, z.same e⟩
  | oth h ht => exact .oth (h.same e) ht
def pairO : Option (List V) → Bool
  | some [x, y] => isI x && isI y
  | _ => false
def holdO : Option (List V) → Bool
  | some [x, y] => btw 1 99 x && upto x y
  | _ => false
def spIsPair (K : PySem.W.Frag) : Sp := fun vs H Q _ => ∃ v o, vs = [v] ∧ Val2 K H v o ∧ Q (.bl (pairO o)) H
def t_is_pair (K : PySem.W.Frag) : TS := tSeq (tIfS (tOr (tNot (tB (tCB (rIsi K) (tCons (tVar 0) (tCons (tC (.ty "tuple")) tNil))))) (tTest (tOp rNe (tCB (qLen K) (tCons (tVar 0) (tNil))) (tC (.int 2)))))
  (tRet (tC (.bl false)))
  (tNext))
  (tRet (tAndV (tCall (spIsInt K) [] E0 (tCons (tOp (rIxT K) (tVar 0) (tC (.int 0))) (tNil))) (tCall (spIsInt K) [] E0 (tCons (tOp (rIxT K) (tVar 0) (tC (.int 1))) (tNil)))))
theorem pure_is_pair {K : PySem.W.Frag} (vs : List V) (H : Hp) (Q : VK) (E : XK) (h : spIsPair K vs H Q E) : t_is_pair K { nx := fun _ H' => Q .non H', rt := Q } (start ["value"] vs) H := by
  obtain ⟨v, o, rfl, hv, q⟩ := h
  cases hv with
  | oth h ht =>
    refine ⟨_, rfl, _, _, _, _, _, rfl, .ty _, h.ty, h.kit.2.2.1, _, rfl, ?_⟩
    rw [ht]
    exact iteT (iteT q)
  | @tup a xs h hx =>
    have hy : AnyT K H (.ref a) "tuple" := .tup h
    refine ⟨_, rfl, _, _, _, _, _, rfl, .ty _, hy.ty, hy.kit.2.2.1, _, rfl, iteF ⟨_, rfl, a, xs, rfl, .inr h, rfl, _, rfl, ?_⟩⟩
    by_cases hl : xs.length = 2
    · match xs, hl with
      | [x, y], _ =>
        refine iteNS rfl ?_
        obtain ⟨t1, k1⟩ := hx x (by simp)
        obtain ⟨t2, k2⟩ := hx y (by simp)
        refine ⟨_, rfl, a, _, 0, _, rfl, rfl, h, rfl, x, t1, rfl, k1, _, rfl, ?_⟩
        have q : Q (.bl (isI x && isI y)) H := q
        cases e : isI x with
        | true =>
          rw [e] at q
          exact iteT ⟨_, rfl, a, _, 1, _, rfl, rfl, h, rfl, y, t2, rfl, k2, q⟩
        | false =>
          rw [e] at q
          exact iteF q
    · have e : ¬ V.int (xs.length : Int) = V.int 2 := fun z => hl (by have := V.int.inj z; omega)
      have e2 : pairO (some xs) = false := by
        match xs, hl with
        | [], _ => rfl
        | [_], _ => rfl
        | [_, _], hl => exact absurd rfl hl
        | _ :: _ :: _ :: _, _ => rfl
      rw [decide_eq_false e]
      rw [e2] at q
      exact iteT q
def spIsHolder (K : PySem.W.Frag) : Sp := fun vs H Q _ => ∃ v o, vs = [v] ∧ Val2 K H v o ∧ Q (.bl (holdO o)) H
def t_is_holder (K : PySem.W.Frag) : TS := tRet (tAndV (tCall (spIsPair K) [] E0 (tCons (tVar 0) (tNil))) (tAndV (tCall (spCapacity K) [] E0 (tCons (tOp (rIxT K) (tVar 0) (tC (.int 0))) (tNil))) (tCall (spBetween K) [] E0 (tCons (tOp (rIxT K) (tVar 0) (tC (.int 1))) (tCons (tC (.int 0)) (tCons (tOp (rIxT K) (tVar 0) (tC (.int 0))) (tNil)))))))
theorem holdO_iff {o : Option (List V)} : holdO o = true ↔ ∃ c u, o = some [.int c, .int u] ∧ (1 ≤ c ∧ c ≤ 99) ∧ 0 ≤ u ∧ u ≤ c := by
  constructor
  · intro h
    match o, h with
    | some [x, y], h =>
      have h : (btw 1 99 x && upto x y) = true := h
      rw [Bool.and_eq_true] at h
      obtain ⟨c, rfl, c1⟩ := btw_iff.mp h.1
      obtain ⟨u, rfl, u1⟩ := btw_iff.mp (show btw 0 c y = true from h.2)
      exact ⟨c, u, rfl, c1, u1⟩
  · rintro ⟨c, u, rfl, c1, u1⟩
    show (btw 1 99 (.int c) && btw 0 c (.int u)) = true
    rw [btw_iff.mpr ⟨c, rfl, c1⟩, btw_iff.mpr ⟨u, rfl, u1⟩] <;> rfl
theorem pairO_iff {o : Option (List V)} : pairO o = true ↔ ∃ c u, o = some [.int c, .int u] := by
  constructor
  · intro h
    match o, h with
    | some [x, y], h =>
      have h : (isI x && isI y) = true := h
      rw [Bool.and_eq_true] at h
      match x, y, h with
      | .int c, .int u, _ => exact ⟨c, u, rfl⟩
  · rintro ⟨c, u, rfl⟩
    rfl
theorem pure_is_holder {K : PySem.W.Frag} (vs : List V) (H : Hp) (Q : VK) (E : XK) (h : spIsHolder K vs H Q E) : t_is_holder K { nx := fun _ H' => Q .non H', rt := Q } (start ["value"] vs) H := by
  obtain ⟨v, o, rfl, hv, q⟩ := h
  refine ⟨_, rfl, v, o, rfl, hv, _, rfl, ?_⟩
  cases e : pairO o with
  | false =>
    have e2 : holdO o = false := by
      cases z : holdO o with
      | false => rfl
      | true =>
        obtain ⟨c, u, rfl, _⟩ := holdO_iff.mp z
        cases e
    rw [e2] at q
    exact iteF q
  | true =>
    obtain ⟨c, u, rfl⟩ := pairO_iff.mp e
    cases hv with
    | @tup a xs hT hx =>
      have q : Q (.bl (btw 1 99 (.int c) && btw 0 c (.int u))) H := q
      refine iteT ⟨_, rfl, a, _, 0, _, rfl, rfl, hT, rfl, _, _, rfl, .int c, _, rfl, ?_⟩
      cases b : btw 1 99 (.int c) with
      | false =>
        rw [b] at q
        exact iteF q
      | true =>
        rw [b] at q
        exact iteT ⟨_, rfl, a, _, 1, _, rfl, rfl, hT, rfl, _, rfl, a, _, 0, _, rfl, rfl, hT, rfl, _, _, _, _, rfl, .int u, fun _ => ⟨0, c, rfl, rfl, q⟩, fun z => nomatch z⟩
def spExchanged (K : PySem.W.Frag) (C : Addr) : Sp := fun vs H Q E => ∃ l r ol or_, vs = [l, r] ∧ Val2 K H l ol ∧ Val2 K H r or_ ∧ ((holdO ol && holdO or_) = false → E (.ref C) none H) ∧
  ∀ c u d x, ol = some [.int c, .int u] → or_ = some [.int d, .int x] → okN c u d x → ∀ p a b H', H p = none → H a = none → H b = none → Same H H' → H' a = some (.tup [.int d, .int (stC c u d x)]) → H' b = some (.tup [.int c, .int (stL c u d x)]) → H' p = some (.tup [.ref a, .ref b]) → Q (.ref p) H'
def t_exchanged (K : PySem.W.Frag) (c_BadHolder : Addr) (c_BadNumber : Addr) (E : XK) : TS := tSeq (tIfS (tOr (tNot (tB (tCall (spIsHolder K) [] E0 (tCons (tVar 0) (tNil))))) (tNot (tB (tCall (spIsHolder K) [] E0 (tCons (tVar 1) (tNil))))))
  (tOut (.ref c_BadHolder) E)
  (tNext))
  (tSeq (tAsg (tCall (spPassed K c_BadNumber) [] E0 (tCons (tOp (rIxT K) (tVar 0) (tC (.int 0))) (tCons (tOp (rIxT K) (tVar 0) (tC (.int 1))) (tCons (tOp (rIxT K) (tVar 1) (tC (.int 0))) (tCons (tOp (rIxT K) (tVar 1) (tC (.int 1))) (tNil)))))) (gTup K 2 (gCons (gName 2) (gCons (gName 3) (gNil)))))
  (tRet (tTup (tCons (tTup (tCons (tOp (rIxT K) (tVar 1) (tC (.int 0))) (tCons (tVar 2) (tNil)))) (tCons (tTup (tCons (tOp (rIxT K) (tVar 0) (tC (.int 0))) (tCons (tVar 3) (tNil)))) (tNil))))))
theorem pure_exchanged {K : PySem.W.Frag} {C B : Addr} (vs : List V) (H : Hp) (Q : VK) (E : XK) (h : spExchanged K C vs H Q E) : t_exchanged K C B E { nx := fun _ H' => Q .non H', rt := Q } (start ["left", "right", "count", "load"] vs) H := by
  obtain ⟨l, r, ol, or_, rfl, hl, hr, kE, kQ⟩ := h
  refine ⟨_, rfl, l, ol, rfl, hl, _, rfl, ?_⟩
  cases e1 : holdO ol with
  | false =>
    rw [e1] at kE
    exact iteT (iteT (kE rfl))
  | true =>
  refine iteF ⟨_, rfl, r, or_, rfl, hr, _, rfl, ?_⟩
  cases e2 : holdO or_ with
  | false =>
    rw [e1, e2] at kE
    exact iteT (kE rfl)
  | true =>
  obtain ⟨c, u, rfl, c1, u1⟩ := holdO_iff.mp e1
  obtain ⟨d, x, rfl, d1, x1⟩ := holdO_iff.mp e2
  cases hl with
  | @tup l _ hL _ =>
  cases hr with
  | @tup r _ hR _ =>
  have o : okN c u d x := ⟨c1, u1, d1, x1⟩
  refine iteF ⟨_, rfl, l, _, 0, _, rfl, rfl, hL, rfl, _, rfl, l, _, 1, _, rfl, rfl, hL, rfl, _, rfl, r, _, 0, _, rfl, rfl, hR, rfl, _, rfl, r, _, 1, _, rfl, rfl, hR, rfl,
    _, _, _, _, _, _, _, _, rfl, .int _, .int _, .int _, .int _, fun z => (by rw [okV_yes.mpr ⟨_, _, _, _, rfl, rfl, rfl, rfl, o⟩] at z; cases z), fun c' u' d' x' q1 q2 q3 q4 _ p0 H1 hp0 s1 P1 => ?_⟩
  cases q1; cases q2; cases q3; cases q4
  refine ⟨p0, _, rfl, SqT.of P1, rfl, _, _, rfl, _, _, rfl, rfl, ?_⟩
  refine ⟨_, rfl, r, _, 0, _, rfl, rfl, SqT.same s1 hR, rfl, _, rfl, sz (by show 2 ≤ 1000; decide), fun a ha => ?_⟩
  have s2 := same_new (o := .tup [.int d, .int (stC c u d x)]) ha
  have A2 : upd H1 a (.tup [.int d, .int (stC c u d x)]) a = some (.tup [.int d, .int (stC c u d x)]) := upd_same
  have ha0 := Same.free s1 ha
  generalize upd H1 a (.tup [.int d, .int (stC c u d x)]) = H2 at s2 A2 ⊢
  refine ⟨_, rfl, l, _, 0, _, rfl, rfl, SqT.same s2 (SqT.same s1 hL), rfl, _, rfl, sz (by show 2 ≤ 1000; decide), fun b hb => ?_⟩
  have s3 := same_new (o := .tup [.int c, .int (stL c u d x)]) hb
  have B3 : upd H2 b (.tup [.int c, .int (stL c u d x)]) b = some (.tup [.int c, .int (stL c u d x)]) := upd_same
  have A3 := s3 _ _ A2
  have hb0 := Same.free s1 (Same.free s2 hb)
  generalize upd H2 b (.tup [.int c, .int (stL c u d x)]) = H3 at s3 A3 B3 ⊢
  refine ⟨sz (by show 2 ≤ 1000; decide), fun p hp => ?_⟩
  have s4 := same_new (o := .tup [.ref a, .ref b]) hp
  have hp' := Same.free s1 (Same.free s2 (Same.free s3 hp))
  exact kQ c u d x rfl rfl o p a b _ hp' ha0 hb0 (s1.trans (s2.trans (s3.trans s4))) (s4 _ _ A3) (s4 _ _ B3) upd_same
/-! ### the law's own exchange -/
def spLPair (K : PySem.W.Frag) : Sp := fun vs H Q _ => ∃ l r c u d x, vs = [.ref l, .ref r] ∧ SqT K H l [.int c, .int u] ∧ SqT K H r [.int d, .int x] ∧
  ∀ p a b H', H p = none → H a = none → H b = none → Same H H' → H' a = some (.tup [.int d, .int (stC c u d x)]) → H' b = some (.tup [.int c, .int (stL c u d x)]) → H' p = some (.tup [.ref a, .ref b, .int (min (c - u) x)]) → Q (.ref p) H'
def t_pair (K : PySem.W.Frag) : TS := tSeq (tAsg (tCall spLPassed [] E0 (tCons (tOp (rIxT K) (tVar 0) (tC (.int 0))) (tCons (tOp (rIxT K) (tVar 0) (tC (.int 1))) (tCons (tOp (rIxT K) (tVar 1) (tC (.int 0))) (tCons (tOp (rIxT K) (tVar 1) (tC (.int 1))) (tNil)))))) (gTup K 2 (gCons (gName 2) (gCons (gName 3) (gNil)))))
  (tRet (tTup (tCons (tTup (tCons (tOp (rIxT K) (tVar 1) (tC (.int 0))) (tCons (tVar 2) (tNil)))) (tCons (tTup (tCons (tOp (rIxT K) (tVar 0) (tC (.int 0))) (tCons (tVar 3) (tNil)))) (tCons (tCB qMin2 (tCons (tOp qSub (tOp (rIxT K) (tVar 0) (tC (.int 0))) (tOp (rIxT K) (tVar 0) (tC (.int 1)))) (tCons (tOp (rIxT K) (tVar 1) (tC (.int 1))) (tNil)))) (tNil))))))
theorem pure_pair {K : PySem.W.Frag} (vs : List V) (H : Hp) (Q : VK) (E : XK) (h : spLPair K vs H Q E) : t_pair K { nx := fun _ H' => Q .non H', rt := Q } (start ["one", "two", "amount", "burden"] vs) H := by
  obtain ⟨l, r, c, u, d, x, rfl, hL, hR, kQ⟩ := h
  refine ⟨_, rfl, l, _, 0, _, rfl, rfl, hL, rfl, _, rfl, l, _, 1, _, rfl, rfl, hL, rfl, _, rfl, r, _, 0, _, rfl, rfl, hR, rfl, _, rfl, r, _, 1, _, rfl, rfl, hR, rfl, c, u, d, x, rfl, fun p0 hp0 => ?_⟩
  have s1 := same_new (o := .tup [.int (stC c u d x), .int (stL c u d x)]) hp0
  have P1 : upd H p0 (.tup [.int (stC c u d x), .int (stL c u d x)]) p0 = some (.tup [.int (stC c u d x), .int (stL c u d x)]) := upd_same
  refine ⟨p0, _, rfl, SqT.of P1, rfl, _, _, rfl, _, _, rfl, rfl, ?_⟩
  generalize upd H p0 (.tup [.int (stC c u d x), .int (stL c u d x)]) = H1 at s1 P1 ⊢
  refine ⟨_, rfl, r, _, 0, _, rfl, rfl, SqT.same s1 hR, rfl, _, rfl, sz (by show 2 ≤ 1000; decide), fun a ha => ?_⟩
  have s2 := same_new (o := .tup [.int d, .int (stC c u d x)]) ha
  have A2 : upd H1 a (.tup [.int d, .int (stC c u d x)]) a = some (.tup [.int d, .int (stC c u d x)]) := upd_same
  have ha0 := Same.free s1 ha
  generalize upd H1 a (.tup [.int d, .int (stC c u d x)]) = H2 at s2 A2 ⊢
  have L2 := SqT.same s2 (SqT.same s1 hL)
  refine ⟨_, rfl, l, _, 0, _, rfl, rfl, L2, rfl, _, rfl, sz (by show 2 ≤ 1000; decide), fun b hb => ?_⟩
  have s3 := same_new (o := .tup [.int c, .int (stL c u d x)]) hb
  have B3 : upd H2 b (.tup [.int c, .int (stL c u d x)]) b = some (.tup [.int c, .int (stL c u d x)]) := upd_same
  have A3 := s3 _ _ A2
  have hb0 := Same.free s1 (Same.free s2 hb)
  generalize upd H2 b (.tup [.int c, .int (stL c u d x)]) = H3 at s3 A3 B3 ⊢
  have L3 := SqT.same s3 L2
  have R3 := SqT.same s3 (SqT.same s2 (SqT.same s1 hR))
  refine ⟨_, rfl, l, _, 0, _, rfl, rfl, L3, rfl, _, rfl, l, _, 1, _, rfl, rfl, L3, rfl, c, u, rfl, rfl, _, rfl, r, _, 1, _, rfl, rfl, R3, rfl, _, _, rfl, sz (by show 3 ≤ 1000; decide), fun p hp => ?_⟩
  have s4 := same_new (o := .tup [.ref a, .ref b, .int (min (c - u) x)]) hp
  have hp' := Same.free s1 (Same.free s2 (Same.free s3 hp))
  rw [min_if]
  exact kQ p a b _ hp' ha0 hb0 (s1.trans (s2.trans (s3.trans s4))) (s4 _ _ A3) (s4 _ _ B3) upd_same
end SR

/-! three holders turned round in two ways -/
namespace SR
theorem exch_cases {c u d x p q : Int} (hp : p = min (c - u) x) (hq : q = min u (d - x)) :
    (u + x ≤ c ∧ u + x ≤ d ∧ p = x ∧ q = u) ∨ (u + x ≤ c ∧ d < u + x ∧ p = x ∧ q = d - x) ∨ (c < u + x ∧ u + x ≤ d ∧ p = c - u ∧ q = u) ∨ (c < u + x ∧ d < u + x ∧ p = c - u ∧ q = d - x) := by
  omega
set_option maxHeartbeats 0 in
theorem yb (c1 c2 c3 u1 u2 u3 : Int) (h1 : 0 ≤ u1) (h2 : 0 ≤ u2) (h3 : 0 ≤ u3) (k1 : u1 ≤ c1) (k2 : u2 ≤ c2) (k3 : u3 ≤ c3)
  (p1 q1 p2 q2 p3 q3 a1 b1 a2 b2 a3 b3 : Int)
  (e1 : p1 = min (c1 - u1) u2) (f1 : q1 = min u1 (c2 - u2)) (ea1 : a1 = u2 - p1 + q1) (eb1 : b1 = u1 + p1 - q1)
  (e2 : p2 = min (c1 - b1) u3) (f2 : q2 = min b1 (c3 - u3)) (ea2 : a2 = u3 - p2 + q2) (eb2 : b2 = b1 + p2 - q2)
  (e3 : p3 = min (c2 - a1) a2) (f3 : q3 = min a1 (c3 - a2)) (ea3 : a3 = a2 - p3 + q3) (eb3 : b3 = a1 + p3 - q3)
  (r1 s1 r2 s2 r3 s3 g1 w1 g2 w2 g3 w3 : Int)
  (x1 : r1 = min (c2 - u2) u3) (y1 : s1 = min u2 (c3 - u3)) (eg1 : g1 = u3 - r1 + s1) (ew1 : w1 = u2 + r1 - s1)
  (x2 : r2 = min (c1 - u1) g1) (y2 : s2 = min u1 (c3 - g1)) (eg2 : g2 = g1 - r2 + s2) (ew2 : w2 = u1 + r2 - s2)
  (x3 : r3 = min (c1 - w2) w1) (y3 : s3 = min w2 (c2 - w1)) (eg3 : g3 = w1 - r3 + s3) (ew3 : w3 = w2 + r3 - s3) :
  a3 = g2 ∧ b3 = g3 ∧ b2 = w3 ∧ p1 + p2 = r2 + r3 ∧ p3 - p1 = r1 - r3 := by
  have E1 := exch_cases e1 f1
  have E2 := exch_cases e2 f2
  have E3 := exch_cases e3 f3
  have X1 := exch_cases x1 y1
  have X2 := exch_cases x2 y2
  have X3 := exch_cases x3 y3
  clear e1 f1 e2 f2 e3 f3 x1 y1 x2 y2 x3 y3
  rcases E1 with ⟨t1, t2, rfl, rfl⟩ | ⟨t1, t2, rfl, rfl⟩ | ⟨t1, t2, rfl, rfl⟩ | ⟨t1, t2, rfl, rfl⟩ <;> subst ea1 eb1 <;>
  rcases X1 with ⟨t3, t4, rfl, rfl⟩ | ⟨t3, t4, rfl, rfl⟩ | ⟨t3, t4, rfl, rfl⟩ | ⟨t3, t4, rfl, rfl⟩ <;> subst eg1 ew1 <;> (try (exfalso; omega)) <;>
  rcases E2 with ⟨t5, t6, rfl, rfl⟩ | ⟨t5, t6, rfl, rfl⟩ | ⟨t5, t6, rfl, rfl⟩ | ⟨t5, t6, rfl, rfl⟩ <;> subst ea2 eb2 <;> (try (exfalso; omega)) <;>
  rcases X2 with ⟨t7, t8, rfl, rfl⟩ | ⟨t7, t8, rfl, rfl⟩ | ⟨t7, t8, rfl, rfl⟩ | ⟨t7, t8, rfl, rfl⟩ <;> subst eg2 ew2 <;> (try (exfalso; omega)) <;>
  rcases E3 with ⟨t9, t10, rfl, rfl⟩ | ⟨t9, t10, rfl, rfl⟩ | ⟨t9, t10, rfl, rfl⟩ | ⟨t9, t10, rfl, rfl⟩ <;> subst ea3 eb3 <;> (try (exfalso; omega)) <;>
  rcases X3 with ⟨t11, t12, rfl, rfl⟩ | ⟨t11, t12, rfl, rfl⟩ | ⟨t11, t12, rfl, rfl⟩ | ⟨t11, t12, rfl, rfl⟩ <;> subst eg3 ew3 <;> omega
end SR

set_option Elab.async false
set_option linter.all false
set_option maxRecDepth 100000
set_option maxHeartbeats 4000000
/-! K09B: a drawn holder, three holders turned round, what is refused. -/
namespace SR
open PySem L2
def spLHolder : Sp := fun vs H Q _ => ∃ d g c b, vs = [.ref d] ∧ StB H d g c (b + 4) ∧
  ∀ p m n H', 1 ≤ m → m ≤ 99 → 0 ≤ n → n ≤ m → p ≠ d → p ≠ g → H' p = some (.tup [.int m, .int n]) → StB H' d g c b → Kp d g H H' → Q (.ref p) H'
def t_holder (K : PySem.W.Frag) : TS := tSeq (tAsg (tCall (spPick K) [] E0 (tCons (tVar 0) (tCons (tLst (tCons (tC (.int 1)) (tCons (tC (.int 1)) (tCons (tC (.int 2)) (tCons (tC (.int 3)) (tCons (tC (.int 9)) (tCons (tC (.int 99)) (tCons (tOp qAdd (tC (.int 1)) (tCall spTake [] E0 (tCons (tVar 0) (tCons (tC (.int 99)) (tNil))))) (tNil))))))))) (tNil)))) (gName 1))
  (tRet (tTup (tCons (tVar 1) (tCons (tCall (spPick K) [] E0 (tCons (tVar 0) (tCons (tLst (tCons (tC (.int 0)) (tCons (tVar 1) (tCons (tCall spTake [] E0 (tCons (tVar 0) (tCons (tOp qAdd (tVar 1) (tC (.int 1))) (tNil)))) (tNil))))) (tNil)))) (tNil)))))
theorem pure_holder {K : PySem.W.Frag} (vs : List V) (H : Hp) (Q : VK) (E : XK) (h : spLHolder vs H Q E) : t_holder K { nx := fun _ H' => Q .non H', rt := Q } (start ["state", "most"] vs) H := by
  obtain ⟨d, g, c, b, rfl, S, k⟩ := h
  refine ⟨_, rfl, _, rfl, d, g, c, b + 3, 99, rfl, S, by decide, by decide, fun i1 H1 i10 i11 S1 q1 => ⟨_, _, rfl, rfl, sz (by show 7 ≤ 1000; decide), fun l hl => ?_⟩⟩
  obtain ⟨l1, l2, _⟩ := S1.off hl
  refine ⟨d, g, c, b + 2, l, _, rfl, S1.new hl, SqL.of upd_same, l1, l2, by show 0 < 7; decide, by show 7 < 1000; decide, fun v H2 hv S2 q2 => ?_⟩
  have k2 : Kp d g H H2 := q1.trans ((Kp.new hl).trans q2)
  obtain ⟨m, rfl, m1, m2⟩ : ∃ m : Int, v = .int m ∧ 1 ≤ m ∧ m ≤ 99 := by
    simp only [List.mem_cons, List.not_mem_nil, or_false] at hv
    rcases hv with rfl | rfl | rfl | rfl | rfl | rfl | rfl
    · exact ⟨1, rfl, by decide, by decide⟩
    · exact ⟨1, rfl, by decide, by decide⟩
    · exact ⟨2, rfl, by decide, by decide⟩
    · exact ⟨3, rfl, by decide, by decide⟩
    · exact ⟨9, rfl, by decide, by decide⟩
    · exact ⟨99, rfl, by decide, by decide⟩
    · exact ⟨_, rfl, by omega, by omega⟩
  clear hv
  refine ⟨_, rfl, _, rfl, _, rfl, _, rfl, _, rfl, _, _, rfl, rfl, d, g, c, b + 1, m + 1, rfl, S2, by omega, by omega, fun u H3 u0 u1 S3 q3 => ⟨sz (by show 3 ≤ 1000; decide), fun r hr => ?_⟩⟩
  obtain ⟨r1, r2, _⟩ := S3.off hr
  refine ⟨d, g, c, b, r, _, rfl, S3.new hr, SqL.of upd_same, r1, r2, by show 0 < 3; decide, by show 3 < 1000; decide, fun v H4 hv S4 q4 => ?_⟩
  have k4 : Kp d g H H4 := k2.trans (q3.trans ((Kp.new hr).trans q4))
  obtain ⟨n, rfl, n1, n2⟩ : ∃ n : Int, v = .int n ∧ 0 ≤ n ∧ n ≤ m := by
    simp only [List.mem_cons, List.not_mem_nil, or_false] at hv
    rcases hv with rfl | rfl | rfl
    · exact ⟨0, rfl, by decide, by omega⟩
    · exact ⟨m, rfl, by omega, by omega⟩
    · exact ⟨u, rfl, by omega, by omega⟩
  clear hv
  refine ⟨sz (by show 2 ≤ 1000; decide), fun p hp => ?_⟩
  obtain ⟨p1, p2, _⟩ := S4.off hp
  exact k p m n _ m1 m2 n1 n2 p1 p2 upd_same (S4.new hp) (k4.trans (Kp.new hp))
/-! ### three holders in a line -/
structure Ent where
  c : Int
  u : Int
  i : Int
  n : Int
def Ent.ok (e : Ent) : Prop := (1 ≤ e.c ∧ e.c ≤ 99) ∧ 0 ≤ e.u ∧ e.u ≤ e.c
/-- two neighbours exchanged, with their counters -/
def exL (x y : Ent) : Ent := ⟨y.c, stC x.c x.u y.c y.u, y.i, y.n + min (x.c - x.u) y.u⟩
def exR (x y : Ent) : Ent := ⟨x.c, stL x.c x.u y.c y.u, x.i, x.n - min (x.c - x.u) y.u⟩
def turnE (k : Int) (l : Ent × Ent × Ent) : Ent × Ent × Ent := if k = 0 then (exL l.1 l.2.1, exR l.1 l.2.1, l.2.2) else (l.1, exL l.2.1 l.2.2, exR l.2.1 l.2.2)
theorem ok_ex {x y : Ent} (hx : x.ok) (hy : y.ok) : (exL x y).ok ∧ (exR x y).ok := by
  unfold Ent.ok exL exR stC stL at *
  simp only
  omega
theorem Ent.okN {x y : Ent} (hx : x.ok) (hy : y.ok) : okN x.c x.u y.c y.u := ⟨hx.1, hx.2, hy.1, hy.2⟩
theorem turn0 (l : Ent × Ent × Ent) : turnE 0 l = (exL l.1 l.2.1, exR l.1 l.2.1, l.2.2) := if_pos rfl
theorem turn1 (l : Ent × Ent × Ent) : turnE 1 l = (l.1, exL l.2.1 l.2.2, exR l.2.1 l.2.2) := if_neg (by decide)
theorem turned_same (x y z : Ent) (hx : x.ok) (hy : y.ok) (hz : z.ok) (h0 : x.n = 0) (h1 : y.n = 0) (h2 : z.n = 0) : turnE 0 (turnE 1 (turnE 0 (x, y, z))) = turnE 1 (turnE 0 (turnE 1 (x, y, z))) := by
  obtain ⟨c1, u1, i1, n1⟩ := x
  obtain ⟨c2, u2, i2, n2⟩ := y
  obtain ⟨c3, u3, i3, n3⟩ := z
  replace h0 : n1 = 0 := h0
  replace h1 : n2 = 0 := h1
  replace h2 : n3 = 0 := h2
  subst h0 h1 h2
  rw [turn0, turn1, turn0, turn1, turn0, turn1]
  simp only [exL, exR, stC, stL, Prod.mk.injEq, Ent.mk.injEq, true_and, and_true]
  generalize hp1 : min (c1 - u1) u2 = p1
  generalize hq1 : min u1 (c2 - u2) = q1
  generalize hr1 : min (c2 - u2) u3 = r1
  generalize hs1 : min u2 (c3 - u3) = s1
  generalize hp2 : min (c1 - (u1 + p1 - q1)) u3 = p2
  generalize hq2 : min (u1 + p1 - q1) (c3 - u3) = q2
  generalize hr2 : min (c1 - u1) (u3 - r1 + s1) = r2
  generalize hs2 : min u1 (c3 - (u3 - r1 + s1)) = s2
  generalize hp3 : min (c2 - (u2 - p1 + q1)) (u3 - p2 + q2) = p3
  generalize hq3 : min (u2 - p1 + q1) (c3 - (u3 - p2 + q2)) = q3
  generalize hr3 : min (c1 - (u1 + r2 - s2)) (u2 + r1 - s1) = r3
  generalize hs3 : min (u1 + r2 - s2) (c2 - (u2 + r1 - s1)) = s3
  have := yb c1 c2 c3 u1 u2 u3 hx.2.1 hy.2.1 hz.2.1 hx.2.2 hy.2.2 hz.2.2 p1 q1 p2 q2 p3 q3 _ _ _ _ _ _ hp1.symm hq1.symm rfl rfl hp2.symm hq2.symm rfl rfl hp3.symm hq3.symm rfl rfl
    r1 s1 r2 s2 r3 s3 _ _ _ _ _ _ hr1.symm hs1.symm rfl rfl hr2.symm hs2.symm rfl rfl hr3.symm hs3.symm rfl rfl
  clear hp1 hq1 hr1 hs1 hp2 hq2 hr2 hs2 hp3 hq3 hr3 hs3 hx hy hz
  omega
end SR

set_option Elab.async false
set_option linter.all false
set_option maxRecDepth 100000
set_option maxHeartbeats 4000000
/-! K09C: three holders turned round by pairs. -/
namespace SR
open PySem L2
def EntAt (H : Hp) (p : Addr) (e : Ent) : Prop := ∃ h, H p = some (.tup [.ref h, .int e.i, .int e.n]) ∧ H h = some (.tup [.int e.c, .int e.u])
def LineAt (H : Hp) (r : Addr) (l : Ent × Ent × Ent) : Prop := ∃ p1 p2 p3, H r = some (.lst [.ref p1, .ref p2, .ref p3]) ∧ EntAt H p1 l.1 ∧ EntAt H p2 l.2.1 ∧ EntAt H p3 l.2.2
theorem EntAt.same {H H' : Hp} {p : Addr} {e : Ent} (s : Same H H') (h : EntAt H p e) : EntAt H' p e := let ⟨a, h1, h2⟩ := h; ⟨a, s _ _ h1, s _ _ h2⟩
theorem LineAt.same {H H' : Hp} {p : Addr} {e : Ent × Ent × Ent} (s : Same H H') (h : LineAt H p e) : LineAt H' p e := let ⟨a, b, c, h1, h2, h3, h4⟩ := h; ⟨a, b, c, s _ _ h1, h2.same s, h3.same s, h4.same s⟩
theorem EntAt.upd {H : Hp} {p r : Addr} {e : Ent} {xs ys : List V} (hr : H r = some (.lst xs)) (h : EntAt H p e) : EntAt (upd H r (.lst ys)) p e := by
  obtain ⟨a, h1, h2⟩ := h
  refine ⟨a, (upd_ne ?_).trans h1, (upd_ne ?_).trans h2⟩
  · exact ne_of h1 hr (by intro z; cases z)
  · exact ne_of h2 hr (by intro z; cases z)
theorem same_upd {H H' : Hp} {r : Addr} {o : HO} (s : Same H H') (h : H r = none) : Same H (upd H' r o) := fun b u z => (upd_ne (ne_of_none z h)).trans (s b u z)
def okL (l : Ent × Ent × Ent) : Prop := l.1.ok ∧ l.2.1.ok ∧ l.2.2.ok
theorem okL_turn {l : Ent × Ent × Ent} {k : Int} (h : okL l) : okL (turnE k l) := by
  unfold turnE
  split
  · exact ⟨(ok_ex h.1 h.2.1).1, (ok_ex h.1 h.2.1).2, h.2.2⟩
  · exact ⟨h.1, (ok_ex h.2.1 h.2.2).1, (ok_ex h.2.1 h.2.2).2⟩
def turnsE (ks : List Int) (l : Ent × Ent × Ent) : Ent × Ent × Ent := ks.foldl (fun l k => turnE k l) l
theorem okL_turns : ∀ (ks : List Int) {l : Ent × Ent × Ent}, okL l → okL (turnsE ks l)
  | [], _, h => h
  | _ :: ks, _, h => okL_turns ks (okL_turn h)
theorem turns_snoc (ks : List Int) (k : Int) (l : Ent × Ent × Ent) : turnsE (ks ++ [k]) l = turnE k (turnsE ks l) := by
  unfold turnsE
  rw [List.foldl_append]
  rfl
/-- the two entries at the places k and k + 1 -/
def at1 (k : Int) (l : Ent × Ent × Ent) : Ent := if k = 0 then l.1 else l.2.1
def at2 (k : Int) (l : Ent × Ent × Ent) : Ent := if k = 0 then l.2.1 else l.2.2
theorem line_get {H : Hp} {r : Addr} {l : Ent × Ent × Ent} {k : Int} (hk : k = 0 ∨ k = 1) (h : LineAt H r l) : ∃ xs p q, H r = some (.lst xs) ∧ xs.length = 3 ∧ atI xs k = some (.ref p) ∧ atI xs (k + 1) = some (.ref q) ∧ EntAt H p (at1 k l) ∧ EntAt H q (at2 k l) ∧
    (∃ j, ixN xs.length k = some j ∧ ixN xs.length (k + 1) = some (j + 1) ∧
      ∀ p' q' e f H', EntAt H' p' e → EntAt H' q' f → (∀ p e, EntAt H p e → EntAt H' p e) → H' r = some (.lst ((xs.set j (.ref p')).set (j + 1) (.ref q'))) → LineAt H' r (if k = 0 then (e, f, l.2.2) else (l.1, e, f))) := by
  obtain ⟨p1, p2, p3, h1, h2, h3, h4⟩ := h
  rcases hk with rfl | rfl
  · exact ⟨_, p1, p2, h1, rfl, rfl, rfl, h2, h3, 0, rfl, rfl, fun p' q' e f H' he hf hs hr => ⟨p', q', p3, hr, he, hf, hs _ _ h4⟩⟩
  · exact ⟨_, p2, p3, h1, rfl, rfl, rfl, h3, h4, 1, rfl, rfl, fun p' q' e f H' he hf hs hr => ⟨p1, p', q', hr, hs _ _ h2, he, hf⟩⟩
def spTurned (K : PySem.W.Frag) : Sp := fun vs H Q _ => ∃ a o x y z c1 u1 c2 u2 c3 u3 ks, vs = [.ref a, .ref o] ∧ H a = some (.lst [.ref x, .ref y, .ref z]) ∧ H o = some (.lst (ks.map V.int)) ∧ (∀ k ∈ ks, k = 0 ∨ k = 1) ∧
  H x = some (.tup [.int c1, .int u1]) ∧ H y = some (.tup [.int c2, .int u2]) ∧ H z = some (.tup [.int c3, .int u3]) ∧ okL (⟨c1, u1, 0, 0⟩, ⟨c2, u2, 1, 0⟩, ⟨c3, u3, 2, 0⟩) ∧
  ∀ r H', H r = none → Same H H' → LineAt H' r (turnsE ks (⟨c1, u1, 0, 0⟩, ⟨c2, u2, 1, 0⟩, ⟨c3, u3, 2, 0⟩)) → Q (.ref r) H'
def t_tbody (K : PySem.W.Frag) (c_BadHolder : Addr) : TS :=   (tSeq (tAsg (tTup (tCons (tOp (rIxL K) (tVar 2) (tVar 3)) (tCons (tOp (rIxL K) (tVar 2) (tOp qAdd (tVar 3) (tC (.int 1)))) (tNil)))) (gTup K 2 (gCons (gTup K 3 (gCons (gName 4) (gCons (gName 5) (gCons (gName 6) (gNil))))) (gCons (gTup K 3 (gCons (gName 7) (gCons (gName 8) (gCons (gName 9) (gNil))))) (gNil)))))
  (tSeq (tAsg (tCall (spLPair K) [] E0 (tCons (tVar 4) (tCons (tVar 7) (tNil)))) (gTup K 3 (gCons (gName 10) (gCons (gName 11) (gCons (gName 12) (gNil))))))
  (tSeq (tIfS (tTest (tOp (rNeD K) (tCall (spExchanged K c_BadHolder) [] E0 (tCons (tVar 4) (tCons (tVar 7) (tNil)))) (tTup (tCons (tVar 10) (tCons (tVar 11) (tNil))))))
  (tRet (tC .non))
  (tNext))
  (tAsg (tTup (tCons (tTup (tCons (tVar 10) (tCons (tVar 8) (tCons (tOp qAdd (tVar 9) (tVar 12)) (tNil))))) (tCons (tTup (tCons (tVar 11) (tCons (tVar 5) (tCons (tOp qSub (tVar 6) (tVar 12)) (tNil))))) (tNil)))) (gTup K 2 (gCons (gSub (tVar 2) (tVar 3) rSetL) (gCons (gSub (tVar 2) (tOp qAdd (tVar 3) (tC (.int 1))) rSetL) (gNil))))))))
def t_turned (K : PySem.W.Frag) (c_BadHolder : Addr) : TS := tSeq (tAsg (tLc (iEnum K (tCons (tVar 0) tNil)) (gTup K 2 (gCons (gName 3) (gCons (gName 13) (gNil)))) (tYes) (tTup (tCons (tVar 13) (tCons (tVar 3) (tCons (tC (.int 0)) (tNil))))) [3, 13]) (gName 2))
  (tSeq (tFor (iList K (tVar 1)) (gName 3) (t_tbody K c_BadHolder))
  (tRet (tVar 2)))
/-- the two tuples of pairs -/
def prs (c u d x : Int) : PyData := .tuple [pr2 c u, pr2 d x]
theorem dp_prs {K : PySem.W.Frag} {H : Hp} {p a b : Addr} {c u d x : Int} (ha : H a = some (.tup [.int c, .int u])) (hb : H b = some (.tup [.int d, .int x])) (hp : H p = some (.tup [.ref a, .ref b])) : Dp K H (.ref p) (prs c u d x) := by
  exact .tup (SqT.of hp) (.cons (dp_pr2 ha) (.cons (dp_pr2 hb) .nil))
theorem prs_shaped (c u d x : Int) : SeqAt.shaped (prs c u d x) = true := shaped_tup (by rfl) (by simp [prs, pr2, PyData.depth, PyData.depthAll])
theorem val2_pr {K : PySem.W.Frag} {H : Hp} {p : Addr} {c u : Int} (h : H p = some (.tup [.int c, .int u])) : Val2 K H (.ref p) (some [.int c, .int u]) := .tup (SqT.of h) fun x hx => by
  simp only [List.mem_cons, List.not_mem_nil, or_false] at hx
  rcases hx with rfl | rfl
  · exact ⟨_, .int _⟩
  · exact ⟨_, .int _⟩
theorem holdO_ok {c u : Int} (h : (1 ≤ c ∧ c ≤ 99) ∧ 0 ≤ u ∧ u ≤ c) : holdO (some [.int c, .int u]) = true := holdO_iff.mpr ⟨c, u, rfl, h.1, h.2⟩
theorem tbody_ok {K : PySem.W.Frag} {C : Addr} {H : Hp} {r : Addr} {l : Ent × Ent × Ent} {k : Int} {w0 w1 : Option V} {w4 w5 w6 w7 w8 w9 w10 w11 w12 w13 : Option V} {N N2 N3 : L2.St → Hp → Prop} {R : VK}
    (hl : LineAt H r l) (hok : okL l) (hk : k = 0 ∨ k = 1)
    (hN : ∀ x4 x5 x6 x7 x8 x9 x10 x11 x12 H' H1, Same H H1 → H' = upd H1 r (H' r |>.getD (.lst [])) → LineAt H' r (turnE k l) → N [w0, w1, some (.ref r), some (.int k), x4, x5, x6, x7, x8, x9, x10, x11, x12, w13] H') :
    t_tbody K C { nx := N, rt := R, bk := N2, ct := N3 } [w0, w1, some (.ref r), some (.int k), w4, w5, w6, w7, w8, w9, w10, w11, w12, w13] H := by
  obtain ⟨xs, p, q, hr, hlen, g1, g2, ⟨hp, p1, p2⟩, ⟨hq, q1, q2⟩, j, j1, j2, fin⟩ := line_get hk hl
  have o1 : (at1 k l).ok := by
    unfold at1
    split
    · exact hok.1
    · exact hok.2.1
  have o2 : (at2 k l).ok := by
    unfold at2
    split
    · exact hok.2.1
    · exact hok.2.2
  have tn : turnE k l = if k = 0 then (exL (at1 k l) (at2 k l), exR (at1 k l) (at2 k l), l.2.2) else (l.1, exL (at1 k l) (at2 k l), exR (at1 k l) (at2 k l)) := by
    rcases hk with rfl | rfl <;> rfl
  rw [tn] at hN
  generalize at1 k l = e1 at *
  generalize at2 k l = e2 at *
  have ok12 := Ent.okN o1 o2
  -- (one, ..), (two, ..) = line[at], line[at + 1]
  refine ⟨_, rfl, _, rfl, r, xs, k, _, rfl, rfl, SqL.of hr, g1, _, rfl, _, rfl, _, _, rfl, rfl, r, xs, _, _, rfl, rfl, SqL.of hr, g2, sz (by show 2 ≤ 1000; decide), fun t ht => ?_⟩
  have s1 := same_new (o := .tup [.ref p, .ref q]) ht
  have T1 : upd H t (.tup [.ref p, .ref q]) t = some (.tup [.ref p, .ref q]) := upd_same
  generalize upd H t (.tup [.ref p, .ref q]) = H1 at s1 T1 ⊢
  refine ⟨t, _, rfl, SqT.of T1, rfl, _, _, rfl, ⟨p, _, rfl, SqT.of (s1 _ _ p1), rfl, _, _, rfl, _, _, rfl, _, _, rfl, rfl, _, _, rfl, ⟨q, _, rfl, SqT.of (s1 _ _ q1), rfl, _, _, rfl, _, _, rfl, _, _, rfl, rfl, rfl, ?_⟩⟩⟩
  -- the law's pair
  refine ⟨_, rfl, _, rfl, hp, hq, _, _, _, _, rfl, SqT.of (s1 _ _ p2), SqT.of (s1 _ _ q2), fun t2 a b H2 _ _ _ s2 A2 B2 T2 => ?_⟩
  refine ⟨t2, _, rfl, SqT.of T2, rfl, _, _, rfl, _, _, rfl, _, _, rfl, rfl, ?_⟩
  have s12 := s1.trans s2
  -- the program's
  refine ⟨_, rfl, _, rfl, _, _, _, _, rfl, val2_pr (s12 _ _ p2), val2_pr (s12 _ _ q2), fun z => ?_, ?_⟩
  · rw [holdO_ok o1, holdO_ok o2] at z
    cases z
  rintro c u d x z1 z2 _ t3 a' b' H3 _ _ _ s3 A3 B3 T3
  cases z1
  cases z2
  have s13 := s12.trans s3
  refine ⟨_, rfl, _, rfl, sz (by show 2 ≤ 1000; decide), fun t4 ht4 => ?_⟩
  have s4 := same_new (o := .tup [.ref a, .ref b]) ht4
  have T4 : upd H3 t4 (.tup [.ref a, .ref b]) t4 = some (.tup [.ref a, .ref b]) := upd_same
  generalize upd H3 t4 (.tup [.ref a, .ref b]) = H4 at s4 T4 ⊢
  have s14 := s13.trans s4
  have A4 := s4 _ _ (s3 _ _ A2)
  have B4 := s4 _ _ (s3 _ _ B2)
  refine ⟨_, _, dp_prs (s4 _ _ A3) (s4 _ _ B3) (s4 _ _ T3), dp_prs A4 B4 T4, prs_shaped _ _ _ _, prs_shaped _ _ _ _, _, rfl, iteNE (prs_shaped _ _ _ _) ?_⟩
  -- line[at], line[at + 1] = ..
  refine ⟨_, rfl, _, rfl, _, rfl, _, rfl, _, _, rfl, rfl, sz (by show 3 ≤ 1000; decide), fun m1 hm1 => ?_⟩
  have s5 := same_new (o := .tup [.ref a, .int e2.i, .int (e2.n + min (e1.c - e1.u) e2.u)]) hm1
  have M5 : upd H4 m1 (.tup [.ref a, .int e2.i, .int (e2.n + min (e1.c - e1.u) e2.u)]) m1 = some (.tup [.ref a, .int e2.i, .int (e2.n + min (e1.c - e1.u) e2.u)]) := upd_same
  generalize upd H4 m1 (.tup [.ref a, .int e2.i, .int (e2.n + min (e1.c - e1.u) e2.u)]) = H5 at s5 M5 ⊢
  refine ⟨_, rfl, _, rfl, _, rfl, _, rfl, _, _, rfl, rfl, sz (by show 3 ≤ 1000; decide), fun m2 hm2 => ?_⟩
  have s6 := same_new (o := .tup [.ref b, .int e1.i, .int (e1.n - min (e1.c - e1.u) e2.u)]) hm2
  have M6 : upd H5 m2 (.tup [.ref b, .int e1.i, .int (e1.n - min (e1.c - e1.u) e2.u)]) m2 = some (.tup [.ref b, .int e1.i, .int (e1.n - min (e1.c - e1.u) e2.u)]) := upd_same
  generalize upd H5 m2 (.tup [.ref b, .int e1.i, .int (e1.n - min (e1.c - e1.u) e2.u)]) = H6 at s6 M6 ⊢
  refine ⟨sz (by show 2 ≤ 1000; decide), fun t7 ht7 => ?_⟩
  have s7 := same_new (o := .tup [.ref m1, .ref m2]) ht7
  have T7 : upd H6 t7 (.tup [.ref m1, .ref m2]) t7 = some (.tup [.ref m1, .ref m2]) := upd_same
  generalize upd H6 t7 (.tup [.ref m1, .ref m2]) = H7 at s7 T7 ⊢
  have s17 := s14.trans (s5.trans (s6.trans s7))
  have R7 := s17 _ _ hr
  refine ⟨t7, _, rfl, SqT.of T7, rfl, _, _, rfl, ⟨_, rfl, _, rfl, r, xs, k, j, rfl, rfl, R7, j1, _, _, rfl, ?_⟩⟩
  refine ⟨_, rfl, _, rfl, _, _, rfl, rfl, r, _, _, _, rfl, rfl, upd_same, (by rw [List.length_set]; exact j2), rfl, ?_⟩
  have E1 : EntAt H7 m1 (exL e1 e2) := ⟨a, s7 _ _ (s6 _ _ M5), s7 _ _ (s6 _ _ (s5 _ _ A4))⟩
  have E2 : EntAt H7 m2 (exR e1 e2) := ⟨b, s7 _ _ M6, s7 _ _ (s6 _ _ (s5 _ _ B4))⟩
  have uu : ∀ (o1 o2 : HO), upd (upd H7 r o1) r o2 = upd H7 r o2 := fun o1 o2 => by
    funext y
    by_cases e : y = r
    · subst e
      rw [upd_same, upd_same]
    · rw [upd_ne e, upd_ne e, upd_ne e]
  rw [uu]
  refine hN _ _ _ _ _ _ _ _ _ _ H7 s17 (by rw [upd_same]; rfl) (fin m1 m2 _ _ _ (E1.upd R7) (E2.upd R7) (fun p e h => (h.same s17).upd R7) upd_same)
end SR

set_option Elab.async false
set_option linter.all false
set_option maxRecDepth 100000
set_option maxHeartbeats 4000000
/-! K09D: the three holders' promise. -/
namespace SR
open PySem L2
inductive F2 {α β : Type} (R : α → β → Prop) : List α → List β → Prop where
  | nil : F2 R [] []
  | cons {x : α} {y : β} {xs : List α} {ys : List β} (h : R x y) (t : F2 R xs ys) : F2 R (x :: xs) (y :: ys)
/-- the list made so far -/
def Made (H : Hp) (D : Addr) (es : List Ent) : Prop := ∃ acc, H D = some (.lst acc) ∧ F2 (fun v e => ∃ p, v = V.ref p ∧ EntAt H p e) acc es
theorem forall2_len {α β : Type} {R : α → β → Prop} : ∀ {xs : List α} {ys : List β}, F2 R xs ys → xs.length = ys.length
  | _, _, .nil => rfl
  | _, _, .cons _ t => by rw [List.length_cons, List.length_cons, forall2_len t]
theorem forall2_imp {α β : Type} {R S : α → β → Prop} (f : ∀ x y, R x y → S x y) : ∀ {xs : List α} {ys : List β}, F2 R xs ys → F2 S xs ys
  | _, _, .nil => .nil
  | _, _, .cons h t => .cons (f _ _ h) (forall2_imp f t)
theorem forall2_snoc {α β : Type} {R : α → β → Prop} {x : α} {y : β} (h : R x y) : ∀ {xs : List α} {ys : List β}, F2 R xs ys → F2 R (xs ++ [x]) (ys ++ [y])
  | _, _, .nil => .cons h .nil
  | _, _, .cons z t => .cons z (forall2_snoc h t)
theorem pure_turned {K : PySem.W.Frag} {C : Addr} (vs : List V) (H : Hp) (Q : VK) (E : XK) (h : spTurned K vs H Q E) : t_turned K C { nx := fun _ H' => Q .non H', rt := Q } (start ["some", "order", "line", "at", "one", "first", "gained", "two", "second", "taken", "new_one", "new_two", "up", "thing"] vs) H := by
  obtain ⟨a, o, x, y, z, c1, u1, c2, u2, c3, u3, ks, rfl, hA, hO, hks, hx, hy, hz, hok, kQ⟩ := h
  refine ⟨_, rfl, a, [.ref x, .ref y, .ref z], rfl, SqL.of hA, fun D hD => ?_⟩
  have st : ∀ H', Same H H' → Made H' D [⟨c1, u1, 0, 0⟩, ⟨c2, u2, 1, 0⟩, ⟨c3, u3, 2, 0⟩] →
      tSeq (tFor (iList K (tVar 1)) (gName 3) (t_tbody K C)) (tRet (tVar 2)) { nx := fun _ H' => Q .non H', rt := Q } [some (.ref a), some (.ref o), some (.ref D), none, none, none, none, none, none, none, none, none, none, none] H' := by
    rintro H' s ⟨acc, hacc, hall⟩
    have hl : LineAt H' D (⟨c1, u1, 0, 0⟩, ⟨c2, u2, 1, 0⟩, ⟨c3, u3, 2, 0⟩) := by
      cases hall with
      | cons h1 t => cases t with
        | cons h2 t => cases t with
          | cons h3 t =>
            cases t
            obtain ⟨p1, rfl, h1⟩ := h1
            obtain ⟨p2, rfl, h2⟩ := h2
            obtain ⟨p3, rfl, h3⟩ := h3
            exact ⟨p1, p2, p3, hacc, h1, h2, h3⟩
    refine ⟨_, rfl, o, rfl, ⟨_, SqL.of (s _ _ hO)⟩, ?_⟩
    refine for_list (K := K) (a := o) (xs := ks.map V.int) (fun i σ H1 => Same H H1 ∧ LineAt H1 D (turnsE (ks.take i) (⟨c1, u1, 0, 0⟩, ⟨c2, u2, 1, 0⟩, ⟨c3, u3, 2, 0⟩)) ∧ ∃ x3 x4 x5 x6 x7 x8 x9 x10 x11 x12 x13, σ = [some (.ref a), some (.ref o), some (.ref D), x3, x4, x5, x6, x7, x8, x9, x10, x11, x12, x13]) ⟨s, hl, _, _, _, _, _, _, _, _, _, _, _, rfl⟩ ?_ ?_ ?_
    · rintro i σ H1 hi ⟨s1, _⟩
      exact SqL.of (s1 _ _ hO)
    · rintro i v σ H1 hv ⟨s1, l1, x3, x4, x5, x6, x7, x8, x9, x10, x11, x12, x13, rfl⟩
      rw [List.getElem?_map] at hv
      obtain ⟨k, hk, rfl⟩ := Option.map_eq_some_iff.mp hv
      have tk : ks.take (i + 1) = ks.take i ++ [k] := by
        rw [List.take_succ, hk]
        rfl
      show t_tbody K C _ [some (.ref a), some (.ref o), some (.ref D), some (.int k), x4, x5, x6, x7, x8, x9, x10, x11, x12, x13] H1
      refine tbody_ok l1 (okL_turns _ hok) (hks k (List.mem_of_getElem? hk)) fun y4 y5 y6 y7 y8 y9 y10 y11 y12 H2 H3 s3 e2 l2 => ⟨?_, ?_, _, _, _, _, _, _, _, _, _, _, _, rfl⟩
      · rw [e2]
        exact same_upd (s1.trans s3) hD
      · rw [tk, turns_snoc]
        exact l2
    · rintro σ H1 ⟨s1, l1, x3, x4, x5, x6, x7, x8, x9, x10, x11, x12, x13, rfl⟩
      rw [List.length_map, List.take_length] at l1
      exact ⟨_, rfl, kQ D H1 hD s1 l1⟩
  refine lc_it (walk_enum (K := K) (a := a) (xs := [.ref x, .ref y, .ref z])) (fun i H1 => Same H H1 ∧ Made H1 D (([⟨c1, u1, 0, 0⟩, ⟨c2, u2, 1, 0⟩, ⟨c3, u3, 2, 0⟩] : List Ent).take i)) ⟨same_new hD, [], upd_same, .nil⟩ ?_ ?_ ?_
  · rintro i H1 hi ⟨s1, _⟩
    exact SqL.of (s1 _ _ hA)
  · rintro i v H1 H2 hi ⟨s1, acc, hacc, hall⟩ ⟨T, v1, v2, rfl, hT, rfl, e1, e2⟩
    have e1' := Option.some.inj e1
    subst e1'
    have sT := same_new (o := .tup [.int i, v2]) hT
    have T2 : upd H1 T (.tup [.int i, v2]) T = some (.tup [.int i, v2]) := upd_same
    generalize upd H1 T (.tup [.int i, v2]) = H2 at sT T2 ⊢
    refine ⟨T, _, rfl, SqT.of T2, rfl, _, _, rfl, _, _, rfl, rfl, rfl, ?_⟩
    refine ⟨_, rfl, _, rfl, sz (by show 3 ≤ 1000; decide), fun q hq => ?_⟩
    have sq := same_new (o := .tup [v2, .int i, .int 0]) hq
    have Q3 : upd H2 q (.tup [v2, .int i, .int 0]) q = some (.tup [v2, .int i, .int 0]) := upd_same
    generalize upd H2 q (.tup [v2, .int i, .int 0]) = H3 at sq Q3 ⊢
    have s3 := sT.trans sq
    have A3 := s3 _ _ hacc
    refine ⟨acc, A3, ?_, ?_⟩
    · have := forall2_len hall
      rw [List.length_take] at this
      have this : acc.length = min i 3 := this
      exact Nat.lt_of_le_of_lt (by omega : acc.length ≤ 3) (by decide)
    · refine ⟨same_upd (s1.trans s3) hD, _, upd_same, ?_⟩
      have grow : ∀ e : Ent, EntAt H3 q e → F2 (fun v e => ∃ p, v = V.ref p ∧ EntAt (upd H3 D (.lst (acc ++ [.ref q]))) p e) (acc ++ [.ref q]) ((([⟨c1, u1, 0, 0⟩, ⟨c2, u2, 1, 0⟩, ⟨c3, u3, 2, 0⟩] : List Ent).take i) ++ [e]) := fun e he =>
        forall2_snoc ⟨q, rfl, he.upd A3⟩ (forall2_imp (fun _ _ ⟨p, h1, h2⟩ => ⟨p, h1, (h2.same s3).upd A3⟩) hall)
      have z3 : ∀ w c u, H w = some (.tup [.int c, .int u]) → H3 w = some (.tup [.int c, .int u]) := fun w c u hw => s3 _ _ (s1 _ _ hw)
      have : i = 0 ∨ i = 1 ∨ i = 2 := by
        have : i < 3 := hi
        omega
      rcases this with rfl | rfl | rfl
      · cases e2
        exact grow ⟨c1, u1, 0, 0⟩ ⟨x, Q3, z3 _ _ _ hx⟩
      · cases e2
        exact grow ⟨c2, u2, 1, 0⟩ ⟨y, Q3, z3 _ _ _ hy⟩
      · cases e2
        exact grow ⟨c3, u3, 2, 0⟩ ⟨z, Q3, z3 _ _ _ hz⟩
  · rintro H1 ⟨s1, m1⟩
    exact st H1 s1 m1
end SR

set_option Elab.async false
set_option linter.all false
set_option maxRecDepth 100000
set_option maxHeartbeats 4000000
/-! K09E: what is refused; a turn; the law of holders. -/
namespace SR
open PySem L2
/-- right, left in the parameters' order -/
def gkw_exchanged {α : Type} (_ zs : List α) : List α := match zs with
  | [a, b] => [b, a]
  | _ => []
theorem gkw_exchanged_rel {vs zs : List V} {us ws : List Value} (_ : Vals vs us) (r : Vals zs ws) : Vals (gkw_exchanged vs zs) (gkw_exchanged us ws) := by
  match zs, ws, r with
  | [], _, .nil => exact .nil
  | [_], _, .cons _ .nil => exact .nil
  | [_, _], _, .cons a (.cons b .nil) => exact .cons b (.cons a .nil)
  | _ :: _ :: _ :: _, _, .cons _ (.cons _ (.cons _ _)) => exact .nil
def spRefused (K : PySem.W.Frag) : Sp := fun vs H Q _ => ∃ v1 v2 o1 o2, vs = [v1, v2] ∧ Val2 K H v1 o1 ∧ Val2 K H v2 o2 ∧ (holdO o1 && holdO o2) = false ∧ Q (.bl true) H
def t_is_refused (K : PySem.W.Frag) (c_BadHolder : Addr) (c_ScoopError : Addr) : TS := tSeq (tAsg (tC .non) (gName 2))
  (tTryKeep K (.ref c_ScoopError) 3 2 (fun W => tDrop (tCallS (spExchanged K c_BadHolder) (WE W) (tCons (tVar 0) (tCons (tVar 1) (tNil)))))
  (tRet (tCB (rIsi K) (tCons (tVar 2) (tCons (tC (.ref c_BadHolder)) tNil))))
  (fun a cls d => tRet (tCB (rIsK K a cls d) (tCons (tVar 2) (tCons (tC (.ref c_BadHolder)) tNil)))) (fun _ _ _ _ => False))
def t_odd9 (K : PySem.W.Frag) : TS := (tSeq (tAsg (tLst (tCons (tC .non) (tCons (tC (.int 5)) (tCons (tTup (tNil)) (tCons (tTup (tCons (tC (.int 1)) (tNil))) (tCons (tTup (tCons (tC (.int 1)) (tCons (tC (.int 0)) (tCons (tC (.int 0)) (tNil))))) (tCons (tLst (tCons (tC (.int 1)) (tCons (tC (.int 0)) (tNil)))) (tCons (tTup (tCons (tC (.int 0)) (tCons (tC (.int 0)) (tNil)))) (tCons (tTup (tCons (tC (.int 100)) (tCons (tC (.int 1)) (tNil)))) (tCons (tTup (tCons (tC (.int 2)) (tCons (tC (.int 3)) (tNil)))) (tCons (tTup (tCons (tC (.int 2)) (tCons (tUn (rU fun i => .int (-i)) (tC (.int 1))) (tNil)))) (tCons (tTup (tCons (tC (.bl true)) (tCons (tC (.int 0)) (tNil)))) (tCons (tTup (tCons (tC (.int 2)) (tCons (tC (.bl true)) (tNil)))) (tCons (tTup (tCons (tC (.str "2")) (tCons (tC (.int 1)) (tNil)))) (tNil))))))))))))))) (gName 11))
  (tSeq (tAsg (tCall (spPick K) [] E0 (tCons (tVar 1) (tCons (tOp rCat (tVar 11) (tLst (tCons (tTup (tCons (tC (.int 2)) (tCons (tC .non) (tNil)))) (tCons (tDNewK) (tCons (tC (.str "ab")) (tCons (tTup (tCons (tOp qPow (tC (.int 10)) (tC (.int 30))) (tCons (tC (.int 1)) (tNil)))) (tCons (tTup (tCons (tTup (tCons (tC (.int 1)) (tCons (tC (.int 0)) (tNil)))) (tCons (tC (.int 0)) (tNil)))) (tNil)))))))) (tNil)))) (gName 12))
  (tIfS (tOr (tNot (tB (tCall (spRefused K) [] E0 (tCons (tVar 12) (tCons (tVar 4) (tNil)))))) (tOr (tNot (tB (tCall (spRefused K) [] E0 (tCons (tVar 3) (tCons (tVar 12) (tNil)))))) (tNot (tB (tCall (spRefused K) [] E0 (tCons (tVar 12) (tCons (tVar 12) (tNil))))))))
  (tRet (tC (.bl false)))
  (tNext))))
theorem pure_is_refused {K : PySem.W.Frag} {B S : Addr} (F : ErrF K B S) (hk : PySem.W.kitOne K (.ref B) (.ref B) = some true) (vs : List V) (H : Hp) (Q : VK) (E : XK) (h : spRefused K vs H Q E) :
    t_is_refused K B S { nx := fun _ H' => Q .non H', rt := Q } (start ["one", "two", "caught", "error"] vs) H := by
  obtain ⟨v1, v2, o1, o2, rfl, h1, h2, e, q⟩ := h
  refine ⟨_, rfl, _, rfl, v1, v2, o1, o2, rfl, h1, h2, fun _ => ⟨true, F.ex, fun _ x hx => ?_, fun z => nomatch z⟩, fun c u d x z1 z2 o => ?_⟩
  · exact ⟨_, rfl, B, _, _, true, rfl, rfl, F.ec, rfl, fun u hu => hu, hk, q⟩
  · subst z1 z2
    rw [holdO_ok ⟨o.1, o.2.1⟩, holdO_ok ⟨o.2.2.1, o.2.2.2⟩] at e
    cases e
/-- no holder -/
def Bad (K : PySem.W.Frag) (H : Hp) (v : V) : Prop := ∃ o, Val2 K H v o ∧ holdO o = false
def Bads (K : PySem.W.Frag) (H : Hp) (vs : List V) : Prop := ∀ v ∈ vs, Bad K H v
theorem Bads.same {K : PySem.W.Frag} {H H' : Hp} {vs : List V} (s : Same H H') (h : Bads K H vs) : Bads K H' vs := fun v m => let ⟨o, a, b⟩ := h v m; ⟨o, a.same s, b⟩
theorem Bads.cons {K : PySem.W.Frag} {H : Hp} {v : V} {vs : List V} (a : Bad K H v) (h : Bads K H vs) : Bads K H (v :: vs) := fun x m => by
  rcases List.mem_cons.mp m with rfl | m
  · exact a
  · exact h x m
theorem Bads.oth {K : PySem.W.Frag} {H : Hp} {v : V} {vs : List V} {t : String} (a : AnyT K H v t) (ht : (t == "tuple") = false) (h : Bads K H vs) : Bads K H (v :: vs) := h.cons ⟨none, .oth a ht, rfl⟩
def Anys (K : PySem.W.Frag) (H : Hp) (xs : List V) : Prop := ∀ x ∈ xs, ∃ t, AnyT K H x t
theorem anys_nil {K : PySem.W.Frag} {H : Hp} : Anys K H [] := fun _ m => nomatch m
theorem anys_cons {K : PySem.W.Frag} {H : Hp} {x : V} {xs : List V} {t : String} (a : AnyT K H x t) (h : Anys K H xs) : Anys K H (x :: xs) := fun y m => by
  rcases List.mem_cons.mp m with rfl | m
  · exact ⟨_, a⟩
  · exact h y m
/-- what holds while odd values are made: the draws' state, what it kept, the odd values -/
structure Sk (K : PySem.W.Frag) (H0 : Hp) (d g c : Addr) (b : Nat) (vs : List V) (H : Hp) : Prop where
  st : StB H d g c b
  kp : Same H0 H
  bd : Bads K (hid d g H) vs
theorem hid_same_new {d g p : Addr} {H : Hp} {o : HO} (h : H p = none) : Same (hid d g H) (hid d g (upd H p o)) := Kp.hid (Kp.new h)
theorem Sk.new {K : PySem.W.Frag} {H0 H : Hp} {d g c p : Addr} {b : Nat} {vs : List V} {o : HO} (k : Sk K H0 d g c b vs H) (h : H p = none) : Sk K H0 d g c b vs (upd H p o) := ⟨k.st.new h, k.kp.trans (same_new h), k.bd.same (hid_same_new h)⟩
theorem Sk.tup {K : PySem.W.Frag} {H0 H : Hp} {d g c p : Addr} {b : Nat} {vs xs : List V} (k : Sk K H0 d g c b vs H) (h : H p = none) (hx : Anys K (hid d g H) xs) (hf : holdO (some xs) = false) : Sk K H0 d g c b (.ref p :: vs) (upd H p (.tup xs)) := by
  obtain ⟨p1, p2, _⟩ := k.st.off h
  exact ⟨k.st.new h, k.kp.trans (same_new h), (k.bd.same (hid_same_new h)).cons ⟨some xs, .tup (SqT.of (hid_new p1 p2)) fun x m => let ⟨t, z⟩ := hx x m; ⟨t, z.same (hid_same_new h)⟩, hf⟩⟩
theorem Sk.lst {K : PySem.W.Frag} {H0 H : Hp} {d g c p : Addr} {b : Nat} {vs xs : List V} (k : Sk K H0 d g c b vs H) (h : H p = none) : Sk K H0 d g c b (.ref p :: vs) (upd H p (.lst xs)) := by
  obtain ⟨p1, p2, _⟩ := k.st.off h
  exact ⟨k.st.new h, k.kp.trans (same_new h), (k.bd.same (hid_same_new h)).oth (.lst (SqL.of (hid_new p1 p2))) rfl⟩
theorem Sk.dct {K : PySem.W.Frag} {H0 H : Hp} {d g c p : Addr} {b : Nat} {vs : List V} (k : Sk K H0 d g c b vs H) (h : H p = none) : Sk K H0 d g c b (.ref p :: vs) (upd H p (.dK [])) := by
  obtain ⟨p1, p2, _⟩ := k.st.off h
  exact ⟨k.st.new h, k.kp.trans (same_new h), (k.bd.same (hid_same_new h)).oth (.dct (.inl (hid_new p1 p2))) rfl⟩
theorem Sk.oth {K : PySem.W.Frag} {H0 H : Hp} {d g c : Addr} {b : Nat} {v : V} {vs : List V} {t : String} (k : Sk K H0 d g c b vs H) (a : AnyT K (hid d g H) v t) (ht : (t == "tuple") = false) : Sk K H0 d g c b (v :: vs) H := ⟨k.st, k.kp, k.bd.oth a ht⟩
theorem odd9_ok {K : PySem.W.Frag} {H : Hp} {d g c p1 p2 : Addr} {b : Nat} {m1 n1 m2 n2 : Int} {w0 w2 w5 w6 w7 w8 w9 w10 w11 w12 : Option V} {N N2 N3 : L2.St → Hp → Prop} {R : VK} (S : StB H d g c (b + 1))
    (P1 : H p1 = some (.tup [.int m1, .int n1])) (P2 : H p2 = some (.tup [.int m2, .int n2])) (d1 : p1 ≠ d) (g1 : p1 ≠ g) (d2 : p2 ≠ d) (g2 : p2 ≠ g)
    (hN : ∀ x11 x12 H', StB H' d g c b → N [w0, some (.ref d), w2, some (.ref p1), some (.ref p2), w5, w6, w7, w8, w9, w10, x11, x12] H') :
    t_odd9 K { nx := N, rt := R, bk := N2, ct := N3 } [w0, some (.ref d), w2, some (.ref p1), some (.ref p2), w5, w6, w7, w8, w9, w10, w11, w12] H := by
  have k0 : Sk K H d g c (b + 1) [] H := ⟨S, fun _ _ z => z, fun _ m => nomatch m⟩
  have k0 := k0.oth .non rfl
  have k0 := k0.oth (.int 5) rfl
  refine ⟨sz (by show 0 ≤ 1000; decide), fun t1 ht1 => ?_⟩
  have k1 := k0.tup ht1 (xs := []) anys_nil rfl
  generalize upd H t1 (.tup []) = H1 at k1 ⊢
  refine ⟨sz (by show 1 ≤ 1000; decide), fun t2 ht2 => ?_⟩
  have k2 := k1.tup ht2 (xs := [.int 1]) (anys_cons (.int _) anys_nil) rfl
  generalize upd H1 t2 (.tup [.int 1]) = H2 at k2 ⊢
  refine ⟨sz (by show 3 ≤ 1000; decide), fun t3 ht3 => ?_⟩
  have k3 := k2.tup ht3 (xs := [.int 1, .int 0, .int 0]) (anys_cons (.int _) (anys_cons (.int _) (anys_cons (.int _) anys_nil))) rfl
  generalize upd H2 t3 (.tup [.int 1, .int 0, .int 0]) = H3 at k3 ⊢
  refine ⟨sz (by show 2 ≤ 1000; decide), fun t4 ht4 => ?_⟩
  have k4 := k3.lst ht4 (xs := [.int 1, .int 0])
  generalize upd H3 t4 (.lst [.int 1, .int 0]) = H4 at k4 ⊢
  refine ⟨sz (by show 2 ≤ 1000; decide), fun t5 ht5 => ?_⟩
  have k5 := k4.tup ht5 (xs := [.int 0, .int 0]) (anys_cons (.int _) (anys_cons (.int _) anys_nil)) rfl
  generalize upd H4 t5 (.tup [.int 0, .int 0]) = H5 at k5 ⊢
  refine ⟨sz (by show 2 ≤ 1000; decide), fun t6 ht6 => ?_⟩
  have k6 := k5.tup ht6 (xs := [.int 100, .int 1]) (anys_cons (.int _) (anys_cons (.int _) anys_nil)) rfl
  generalize upd H5 t6 (.tup [.int 100, .int 1]) = H6 at k6 ⊢
  refine ⟨sz (by show 2 ≤ 1000; decide), fun t7 ht7 => ?_⟩
  have k7 := k6.tup ht7 (xs := [.int 2, .int 3]) (anys_cons (.int _) (anys_cons (.int _) anys_nil)) rfl
  generalize upd H6 t7 (.tup [.int 2, .int 3]) = H7 at k7 ⊢
  refine ⟨1, rfl, sz (by show 2 ≤ 1000; decide), fun t8 ht8 => ?_⟩
  have k8 := k7.tup ht8 (xs := [.int 2, .int (-1)]) (anys_cons (.int _) (anys_cons (.int _) anys_nil)) rfl
  generalize upd H7 t8 (.tup [.int 2, .int (-1)]) = H8 at k8 ⊢
  refine ⟨sz (by show 2 ≤ 1000; decide), fun t9 ht9 => ?_⟩
  have k9 := k8.tup ht9 (xs := [.bl true, .int 0]) (anys_cons (.bl _) (anys_cons (.int _) anys_nil)) rfl
  generalize upd H8 t9 (.tup [.bl true, .int 0]) = H9 at k9 ⊢
  refine ⟨sz (by show 2 ≤ 1000; decide), fun t10 ht10 => ?_⟩
  have k10 := k9.tup ht10 (xs := [.int 2, .bl true]) (anys_cons (.int _) (anys_cons (.bl _) anys_nil)) rfl
  generalize upd H9 t10 (.tup [.int 2, .bl true]) = H10 at k10 ⊢
  refine ⟨sz (by show 2 ≤ 1000; decide), fun t11 ht11 => ?_⟩
  have k11 := k10.tup ht11 (xs := [.str "2", .int 1]) (anys_cons (.str _) (anys_cons (.int _) anys_nil)) rfl
  generalize upd H10 t11 (.tup [.str "2", .int 1]) = H11 at k11 ⊢
  refine ⟨sz (by show 13 ≤ 1000; decide), fun l1 hl1 => ?_⟩
  have k12 := k11.new hl1 (o := .lst [.non, .int 5, .ref t1, .ref t2, .ref t3, .ref t4, .ref t5, .ref t6, .ref t7, .ref t8, .ref t9, .ref t10, .ref t11])
  have L12 : upd H11 l1 (.lst [.non, .int 5, .ref t1, .ref t2, .ref t3, .ref t4, .ref t5, .ref t6, .ref t7, .ref t8, .ref t9, .ref t10, .ref t11]) l1 = some (.lst [.non, .int 5, .ref t1, .ref t2, .ref t3, .ref t4, .ref t5, .ref t6, .ref t7, .ref t8, .ref t9, .ref t10, .ref t11]) := upd_same
  generalize upd H11 l1 (.lst [.non, .int 5, .ref t1, .ref t2, .ref t3, .ref t4, .ref t5, .ref t6, .ref t7, .ref t8, .ref t9, .ref t10, .ref t11]) = H12 at k12 L12 ⊢
  -- bad = ..
  refine ⟨_, rfl, _, rfl, sz (by show 2 ≤ 1000; decide), fun t13 ht13 => ?_⟩
  have k13 := k12.tup ht13 (xs := [.int 2, .non]) (anys_cons (.int _) (anys_cons .non anys_nil)) rfl
  have L13 := same_new (o := .tup [.int 2, .non]) ht13 _ _ L12
  generalize upd H12 t13 (.tup [.int 2, .non]) = H13 at k13 L13 ⊢
  intro t14 ht14
  have k14 := (k13.dct ht14).oth (.str "ab") rfl
  have L14 := same_new (o := .dK []) ht14 _ _ L13
  generalize upd H13 t14 (.dK []) = H14 at k14 L14 ⊢
  refine ⟨10, 30, rfl, rfl, ⟨by decide, by decide, by decide⟩, sz (by show 2 ≤ 1000; decide), fun t15 ht15 => ?_⟩
  have k15 := k14.tup ht15 (xs := [.int (10 ^ (30 : Int).toNat), .int 1]) (anys_cons (.int _) (anys_cons (.int _) anys_nil)) (by decide +kernel)
  have L15 := same_new (o := .tup [.int (10 ^ (30 : Int).toNat), .int 1]) ht15 _ _ L14
  generalize upd H14 t15 (.tup [.int (10 ^ (30 : Int).toNat), .int 1]) = H15 at k15 L15 ⊢
  refine ⟨sz (by show 2 ≤ 1000; decide), fun t16 ht16 => ?_⟩
  obtain ⟨o16, o16', _⟩ := k15.st.off ht16
  have k16 := k15.new ht16 (o := .tup [.int 1, .int 0])
  have L16 := same_new (o := .tup [.int 1, .int 0]) ht16 _ _ L15
  have T16 : hid d g (upd H15 t16 (.tup [.int 1, .int 0])) t16 = some (.tup [.int 1, .int 0]) := hid_new o16 o16'
  generalize upd H15 t16 (.tup [.int 1, .int 0]) = H16 at k16 L16 T16 ⊢
  refine ⟨sz (by show 2 ≤ 1000; decide), fun t17 ht17 => ?_⟩
  have k17 := k16.tup ht17 (xs := [.ref t16, .int 0]) (anys_cons (.tup (SqT.of T16)) (anys_cons (.int _) anys_nil)) rfl
  have L17 := same_new (o := .tup [.ref t16, .int 0]) ht17 _ _ L16
  generalize upd H16 t17 (.tup [.ref t16, .int 0]) = H17 at k17 L17 ⊢
  refine ⟨sz (by show 5 ≤ 1000; decide), fun l2 hl2 => ?_⟩
  have k18 := k17.new hl2 (o := .lst [.ref t13, .ref t14, .str "ab", .ref t15, .ref t17])
  have L18 := same_new (o := .lst [.ref t13, .ref t14, .str "ab", .ref t15, .ref t17]) hl2 _ _ L17
  have M18 : upd H17 l2 (.lst [.ref t13, .ref t14, .str "ab", .ref t15, .ref t17]) l2 = some (.lst [.ref t13, .ref t14, .str "ab", .ref t15, .ref t17]) := upd_same
  generalize upd H17 l2 (.lst [.ref t13, .ref t14, .str "ab", .ref t15, .ref t17]) = H18 at k18 L18 M18 ⊢
  refine ⟨l1, l2, _, _, rfl, rfl, L18, M18, sz (by show 18 ≤ 1000; decide), fun l3 hl3 => ?_⟩
  obtain ⟨o3, o3', _⟩ := k18.st.off hl3
  have k19 := k18.new hl3 (o := .lst ([.non, .int 5, .ref t1, .ref t2, .ref t3, .ref t4, .ref t5, .ref t6, .ref t7, .ref t8, .ref t9, .ref t10, .ref t11] ++ [.ref t13, .ref t14, .str "ab", .ref t15, .ref t17]))
  refine ⟨d, g, c, b, l3, _, rfl, k19.st, SqL.of upd_same, o3, o3', by show 0 < 18; decide, by show 18 < 1000; decide, fun v H20 hv S20 q20 => ?_⟩
  have hb := k19.bd.same q20.hid
  have s20 := q20
  have P1' := q20 _ _ d1 g1 (k19.kp _ _ P1)
  have P2' := q20 _ _ d2 g2 (k19.kp _ _ P2)
  obtain ⟨o, hv1, hv2⟩ : Bad K H20 v := by
    obtain ⟨o, h1, h2⟩ := hb v (by
      simp only [List.mem_append, List.mem_cons, List.not_mem_nil, or_false] at hv ⊢
      rcases hv with (h | h | h | h | h | h | h | h | h | h | h | h | h) | h | h | h | h | h <;> simp only [h, true_or, or_true])
    exact ⟨o, h1.same hid_same, h2⟩
  clear hv hb
  have z1 : (holdO (some [V.int m1, .int n1]) && holdO o) = false := by rw [hv2, Bool.and_false]
  have z2 : (holdO o && holdO (some [V.int m2, .int n2])) = false := by rw [hv2]; rfl
  have z3 : (holdO o && holdO o) = false := by rw [hv2]; rfl
  refine ⟨_, rfl, _, rfl, _, _, _, _, rfl, hv1, val2_pr P2', z2, _, rfl, iteF ?_⟩
  refine ⟨_, rfl, _, rfl, _, _, _, _, rfl, val2_pr P1', hv1, z1, _, rfl, iteF ?_⟩
  refine ⟨_, rfl, _, rfl, _, _, _, _, rfl, hv1, hv1, z3, _, rfl, iteF ?_⟩
  exact hN _ _ _ S20
end SR

set_option Elab.async false
set_option linter.all false
set_option maxRecDepth 100000
set_option maxHeartbeats 4000000
/-! K09F: a turn; the law of holders. -/
namespace SR
open PySem L2
def t_turn9 (K : PySem.W.Frag) (c_BadHolder : Addr) : TS := (tSeq (tPar3 3 4 5 (tCons (tCall spLHolder [] E0 (tCons (tVar 1) (tNil))) (tCons (tCall spLHolder [] E0 (tCons (tVar 1) (tNil))) (tCons (tCall spLHolder [] E0 (tCons (tVar 1) (tNil))) (tNil)))))
  (tSeq (tAsg (tCall (spLPair K) [] E0 (tCons (tVar 3) (tCons (tVar 4) (tNil)))) (gTup K 3 (gCons (gName 6) (gCons (gName 7) (gCons (gName 8) (gNil))))))
  (tSeq (tAsg (tTup (tCons (tVar 6) (tCons (tVar 7) (tNil)))) (gName 9))
  (tSeq (tIfS (tOr (tTest (tOp rNe (tCB (rRepr K) (tCons (tCall (spExchanged K c_BadHolder) [] E0 (tCons (tVar 3) (tCons (tVar 4) (tNil)))) (tNil))) (tCB (rRepr K) (tCons (tVar 9) (tNil))))) (tTest (tOp (rNeD K) (tKw 2 (spExchanged K c_BadHolder) gkw_exchanged (fun _ => E0) tNil (tCons (tVar 4) (tCons (tVar 3) (tNil)))) (tVar 9))))
  (tRet (tC (.bl false)))
  (tNext))
  (tSeq (tIfS (tTest (tOp (rNeD K) (tCall (spExchanged K c_BadHolder) [] E0 (tCons (tVar 6) (tCons (tVar 7) (tNil)))) (tTup (tCons (tVar 3) (tCons (tVar 4) (tNil))))))
  (tRet (tC (.bl false)))
  (tNext))
  (tSeq (tAsg (tCall (spTurned K) [] E0 (tCons (tLst (tCons (tVar 3) (tCons (tVar 4) (tCons (tVar 5) (tNil))))) (tCons (tLst (tCons (tC (.int 0)) (tCons (tC (.int 1)) (tCons (tC (.int 0)) (tNil))))) (tNil)))) (gName 10))
  (tSeq (tIfS (tOr (tTest (tOp qIsN (tVar 10) (tC .non))) (tTest (tOp (rNeD K) (tVar 10) (tCall (spTurned K) [] E0 (tCons (tLst (tCons (tVar 3) (tCons (tVar 4) (tCons (tVar 5) (tNil))))) (tCons (tLst (tCons (tC (.int 1)) (tCons (tC (.int 0)) (tCons (tC (.int 1)) (tNil))))) (tNil)))))))
  (tRet (tC (.bl false)))
  (tNext))
  (t_odd9 K))))))))
theorem prs_show {c u d x : Int} (h1 : c.natAbs < 2 ^ 1900) (h2 : u.natAbs < 2 ^ 1900) (h3 : d.natAbs < 2 ^ 1900) (h4 : x.natAbs < 2 ^ 1900) : (prs c u d x).showable = true := by
  show (PyData.showable (pr2 c u) && (PyData.showable (pr2 d x) && true)) = true
  rw [pr2_show h1 h2, pr2_show h3 h4] <;> rfl
def entD (e : Ent) : PyData := .tuple [pr2 e.c e.u, .int e.i, .int e.n]
def lineD (l : Ent × Ent × Ent) : PyData := .list [entD l.1, entD l.2.1, entD l.2.2]
theorem dp_ent {K : PySem.W.Frag} {H : Hp} {p : Addr} {e : Ent} (h : EntAt H p e) : Dp K H (.ref p) (entD e) := by
  obtain ⟨a, h1, h2⟩ := h
  exact .tup (SqT.of h1) (.cons (dp_pr2 h2) (.cons (.int _) (.cons (.int _) .nil)))
theorem dp_line {K : PySem.W.Frag} {H : Hp} {r : Addr} {l : Ent × Ent × Ent} (h : LineAt H r l) : Dp K H (.ref r) (lineD l) := by
  obtain ⟨p1, p2, p3, h0, h1, h2, h3⟩ := h
  exact .lst (SqL.of h0) (.cons (dp_ent h1) (.cons (dp_ent h2) (.cons (dp_ent h3) .nil)))
theorem line_shaped (l : Ent × Ent × Ent) : SeqAt.shaped (lineD l) = true := shaped_list (by rfl) (by simp [entD, pr2, PyData.depth, PyData.depthAll])
theorem turn9_ok {K : PySem.W.Frag} {C : Addr} {H : Hp} {d g c : Addr} {b : Nat} {w0 w2 w3 w4 w5 w6 w7 w8 w9 w10 w11 w12 : Option V} {N N2 N3 : L2.St → Hp → Prop} {R : VK} (S : StB H d g c (b + 13))
    (hN : ∀ x3 x4 x5 x6 x7 x8 x9 x10 x11 x12 H', StB H' d g c b → N [w0, some (.ref d), w2, x3, x4, x5, x6, x7, x8, x9, x10, x11, x12] H') :
    t_turn9 K C { nx := N, rt := R, bk := N2, ct := N3 } [w0, some (.ref d), w2, w3, w4, w5, w6, w7, w8, w9, w10, w11, w12] H := by
  -- three holders
  refine ⟨_, rfl, d, g, c, b + 9, rfl, S, fun p1 m1 n1 H1 m1a m1b n1a n1b d1 g1 P1 S1 q1 => ?_⟩
  refine ⟨_, rfl, d, g, c, b + 5, rfl, S1, fun p2 m2 n2 H2 m2a m2b n2a n2b d2 g2 P2 S2 q2 => ?_⟩
  refine ⟨_, rfl, d, g, c, b + 1, rfl, S2, fun p3 m3 n3 H3 m3a m3b n3a n3b d3 g3 P3 S3 q3 => ⟨_, _, _, rfl, ?_⟩⟩
  replace P1 := q3 _ _ d1 g1 (q2 _ _ d1 g1 P1)
  replace P2 := q3 _ _ d2 g2 P2
  clear q1 q2 q3 S S1 S2
  have ok : okN m1 n1 m2 n2 := ⟨⟨m1a, m1b⟩, ⟨n1a, n1b⟩, ⟨m2a, m2b⟩, ⟨n2a, n2b⟩⟩
  have okl : okL (⟨m1, n1, 0, 0⟩, ⟨m2, n2, 1, 0⟩, ⟨m3, n3, 2, 0⟩) := ⟨⟨⟨m1a, m1b⟩, n1a, n1b⟩, ⟨⟨m2a, m2b⟩, n2a, n2b⟩, ⟨⟨m3a, m3b⟩, n3a, n3b⟩⟩
  obtain ⟨b1, b2, b3, b4⟩ := back_ok ok
  have hv1 : holdO (some [V.int m1, .int n1]) = true := holdO_ok ⟨⟨m1a, m1b⟩, n1a, n1b⟩
  have hv2 : holdO (some [V.int m2, .int n2]) = true := holdO_ok ⟨⟨m2a, m2b⟩, n2a, n2b⟩
  have no : (holdO (some [V.int m1, .int n1]) && holdO (some [V.int m2, .int n2])) = true := by rw [hv1, hv2]; rfl
  -- new_one, new_two, up = _law_pair(one, two)
  refine ⟨_, rfl, _, rfl, p1, p2, m1, n1, m2, n2, rfl, SqT.of P1, SqT.of P2, fun t u v H4 _ _ _ s4 U4 V4 T4 => ?_⟩
  refine ⟨t, _, rfl, SqT.of T4, rfl, _, _, rfl, _, _, rfl, _, _, rfl, rfl, ?_⟩
  replace P1 := s4 _ _ P1
  replace P2 := s4 _ _ P2
  replace P3 := s4 _ _ P3
  have S4 := StB.same s4 S3
  clear S3
  -- due = (new_one, new_two)
  refine ⟨_, rfl, _, rfl, sz (by show 2 ≤ 1000; decide), fun e he => ?_⟩
  have s5 := same_new (o := .tup [.ref u, .ref v]) he
  have D5 : upd H4 e (.tup [.ref u, .ref v]) e = some (.tup [.ref u, .ref v]) := upd_same
  generalize upd H4 e (.tup [.ref u, .ref v]) = H5 at s5 D5 ⊢
  replace P1 := s5 _ _ P1
  replace P2 := s5 _ _ P2
  replace P3 := s5 _ _ P3
  replace U4 := s5 _ _ U4
  replace V4 := s5 _ _ V4
  have S5 := StB.same s5 S4
  clear S4
  have big : (2 : Nat) ^ 10 ≤ 2 ^ 1900 := Nat.pow_le_pow_right (by decide) (by decide)
  have hsh : (prs m2 (stC m1 n1 m2 n2) m1 (stL m1 n1 m2 n2)).showable = true := prs_show (by omega) (by have := b4.2.1; have := b4.1; omega) (by omega) (by have := b4.2.2.2; have := b4.2.2.1; omega)
  have hdep : (prs m2 (stC m1 n1 m2 n2) m1 (stL m1 n1 m2 n2)).depth ≤ 60 := by simp [prs, pr2, PyData.depth, PyData.depthAll]
  have hc : cost (prs m2 (stC m1 n1 m2 n2) m1 (stL m1 n1 m2 n2)) ≤ 1000000 := by simp [prs, pr2, cost, costAll]
  -- repr(exchanged(one, two)) != repr(due)
  refine ⟨_, rfl, _, rfl, _, _, _, _, rfl, val2_pr P1, val2_pr P2, fun z => (by rw [no] at z; cases z), ?_⟩
  rintro c' u' d' x' z1 z2 _ t6 a6 b6 H6 _ _ _ s6 A6 B6 T6
  cases z1
  cases z2
  have dA := dp_prs (K := K) A6 B6 T6
  have dB := dp_prs (K := K) (s6 _ _ U4) (s6 _ _ V4) (s6 _ _ D5)
  refine ⟨_, _, rfl, dA, hsh, hdep, repr_fit hsh dA hc, _, rfl, _, _, rfl, dB, hsh, hdep, repr_fit hsh dB hc, rfl, _, rfl, iteNS rfl ?_⟩
  -- exchanged(right=two, left=one) != due
  replace P1 := s6 _ _ P1
  replace P2 := s6 _ _ P2
  replace P3 := s6 _ _ P3
  replace U4 := s6 _ _ U4
  replace V4 := s6 _ _ V4
  replace D5 := s6 _ _ D5
  have S6 := StB.same s6 S5
  clear dA dB S5 A6 B6 T6
  refine ⟨_, rfl, _, rfl, rfl, _, _, _, _, rfl, val2_pr P1, val2_pr P2, fun z => (by rw [no] at z; cases z), ?_⟩
  rintro c' u' d' x' z1 z2 _ t7 a7 b7 H7 _ _ _ s7 A7 B7 T7
  cases z1
  cases z2
  refine ⟨_, rfl, _, _, dp_prs A7 B7 T7, dp_prs (s7 _ _ U4) (s7 _ _ V4) (s7 _ _ D5), prs_shaped _ _ _ _, prs_shaped _ _ _ _, _, rfl, iteNE (prs_shaped _ _ _ _) ?_⟩
  replace P1 := s7 _ _ P1
  replace P2 := s7 _ _ P2
  replace P3 := s7 _ _ P3
  replace U4 := s7 _ _ U4
  replace V4 := s7 _ _ V4
  have S7 := StB.same s7 S6
  clear S6 A7 B7 T7
  -- exchanged(new_one, new_two) != (one, two)
  have no2 : (holdO (some [V.int m2, .int (stC m1 n1 m2 n2)]) && holdO (some [V.int m1, .int (stL m1 n1 m2 n2)])) = true := by
    rw [holdO_ok ⟨b4.1, b4.2.1⟩, holdO_ok ⟨b4.2.2.1, b4.2.2.2⟩]
    rfl
  refine ⟨_, rfl, _, rfl, _, _, _, _, rfl, val2_pr U4, val2_pr V4, fun z => (by rw [no2] at z; cases z), ?_⟩
  rintro c' u' d' x' z1 z2 _ t8 a8 b8 H8 _ _ _ s8 A8 B8 T8
  cases z1
  cases z2
  rw [b1] at A8
  rw [b2] at B8
  replace P1 := s8 _ _ P1
  replace P2 := s8 _ _ P2
  replace P3 := s8 _ _ P3
  have S8 := StB.same s8 S7
  clear S7 U4 V4 D5
  refine ⟨_, rfl, _, rfl, sz (by show 2 ≤ 1000; decide), fun t9 ht9 => ?_⟩
  have s9 := same_new (o := .tup [.ref p1, .ref p2]) ht9
  have T9 : upd H8 t9 (.tup [.ref p1, .ref p2]) t9 = some (.tup [.ref p1, .ref p2]) := upd_same
  generalize upd H8 t9 (.tup [.ref p1, .ref p2]) = H9 at s9 T9 ⊢
  replace P1 := s9 _ _ P1
  replace P2 := s9 _ _ P2
  replace P3 := s9 _ _ P3
  have S9 := StB.same s9 S8
  clear S8
  refine ⟨_, _, dp_prs (s9 _ _ A8) (s9 _ _ B8) (s9 _ _ T8), dp_prs P1 P2 T9, prs_shaped _ _ _ _, prs_shaped _ _ _ _, _, rfl, iteNE (prs_shaped _ _ _ _) ?_⟩
  clear A8 B8 T8 T9
  -- found = _law_turned(..)
  refine ⟨_, rfl, _, rfl, _, rfl, sz (by show 3 ≤ 1000; decide), fun la hla => ?_⟩
  have s10 := same_new (o := .lst [.ref p1, .ref p2, .ref p3]) hla
  have L10 : upd H9 la (.lst [.ref p1, .ref p2, .ref p3]) la = some (.lst [.ref p1, .ref p2, .ref p3]) := upd_same
  generalize upd H9 la (.lst [.ref p1, .ref p2, .ref p3]) = H10 at s10 L10 ⊢
  refine ⟨sz (by show 3 ≤ 1000; decide), fun lo hlo => ?_⟩
  have s11 := same_new (o := .lst [.int 0, .int 1, .int 0]) hlo
  have O11 : upd H10 lo (.lst [.int 0, .int 1, .int 0]) lo = some (.lst [.int 0, .int 1, .int 0]) := upd_same
  generalize upd H10 lo (.lst [.int 0, .int 1, .int 0]) = H11 at s11 O11 ⊢
  replace P1 := s11 _ _ (s10 _ _ P1)
  replace P2 := s11 _ _ (s10 _ _ P2)
  replace P3 := s11 _ _ (s10 _ _ P3)
  have S11 := StB.same s11 (StB.same s10 S9)
  clear S9
  refine ⟨la, lo, p1, p2, p3, m1, n1, m2, n2, m3, n3, [0, 1, 0], rfl, s11 _ _ L10, O11, (by decide), P1, P2, P3, okl, fun r H12 hr s12 L12 => ?_⟩
  replace P1 := s12 _ _ P1
  replace P2 := s12 _ _ P2
  replace P3 := s12 _ _ P3
  have S12 := StB.same s12 S11
  clear S11 L10 O11
  -- found is None or found != _law_turned(..)
  refine ⟨_, rfl, rfl, _, rfl, iteF ?_⟩
  refine ⟨_, rfl, _, rfl, _, rfl, _, rfl, sz (by show 3 ≤ 1000; decide), fun la' hla => ?_⟩
  have s13 := same_new (o := .lst [.ref p1, .ref p2, .ref p3]) hla
  have L13 : upd H12 la' (.lst [.ref p1, .ref p2, .ref p3]) la' = some (.lst [.ref p1, .ref p2, .ref p3]) := upd_same
  generalize upd H12 la' (.lst [.ref p1, .ref p2, .ref p3]) = H13 at s13 L13 ⊢
  refine ⟨sz (by show 3 ≤ 1000; decide), fun lo' hlo => ?_⟩
  have s14 := same_new (o := .lst [.int 1, .int 0, .int 1]) hlo
  have O14 : upd H13 lo' (.lst [.int 1, .int 0, .int 1]) lo' = some (.lst [.int 1, .int 0, .int 1]) := upd_same
  generalize upd H13 lo' (.lst [.int 1, .int 0, .int 1]) = H14 at s14 O14 ⊢
  replace P1 := s14 _ _ (s13 _ _ P1)
  replace P2 := s14 _ _ (s13 _ _ P2)
  replace P3 := s14 _ _ (s13 _ _ P3)
  have S14 := StB.same s14 (StB.same s13 S12)
  have R14 := (L12.same s13).same s14
  clear S12 L12
  refine ⟨la', lo', p1, p2, p3, m1, n1, m2, n2, m3, n3, [1, 0, 1], rfl, s14 _ _ L13, O14, (by decide), P1, P2, P3, okl, fun r' H15 hr' s15 L15 => ?_⟩
  have S15 := StB.same s15 S14
  have R15 := R14.same s15
  have sm : turnsE [1, 0, 1] (⟨m1, n1, 0, 0⟩, ⟨m2, n2, 1, 0⟩, ⟨m3, n3, 2, 0⟩) = turnsE [0, 1, 0] (⟨m1, n1, 0, 0⟩, ⟨m2, n2, 1, 0⟩, ⟨m3, n3, 2, 0⟩) := (turned_same _ _ _ okl.1 okl.2.1 okl.2.2 rfl rfl rfl).symm
  rw [sm] at L15
  generalize turnsE [0, 1, 0] (⟨m1, n1, 0, 0⟩, ⟨m2, n2, 1, 0⟩, ⟨m3, n3, 2, 0⟩) = ll at R15 L15
  refine ⟨_, _, dp_line R15, dp_line L15, line_shaped _, line_shaped _, _, rfl, iteNE (line_shaped _) ?_⟩
  -- the odd ones
  show t_odd9 K _ [w0, some (.ref d), w2, some (.ref p1), some (.ref p2), some (.ref p3), some (.ref u), some (.ref v), _, some (.ref e), some (.ref r), w11, w12] H15
  exact odd9_ok S15 (s15 _ _ P1) (s15 _ _ P2) d1 g1 d2 g2 fun _ _ H' S' => hN _ _ _ _ _ _ _ _ _ _ H' S'
def t_law09 (K : PySem.W.Frag) (c_BadHolder : Addr) : TS := tSeq (tAsg (tCall (spBegun K) [] E0 (tCons (tVar 0) (tNil))) (gName 1))
  (tSeq (tFor (iRng1 (tCons (tOp qAdd (tC (.int 10)) (tCB qMin2 (tCons (tCB (qLen K) (tCons (tVar 0) (tNil))) (tCons (tC (.int 30)) (tNil))))) (tNil))) (gName 2)
  (t_turn9 K c_BadHolder))
  (tRet (tC (.bl true))))
theorem pure_law09 {K : PySem.W.Frag} {C : Addr} (vs : List V) (H : Hp) (Q : VK) (E : XK) (h : spLaw K vs H Q E) : t_law09 K C { nx := fun _ H' => Q .non H', rt := Q } (start ["script", "state", "turn", "one", "two", "three", "new_one", "new_two", "up", "due", "found", "odd", "bad"] vs) H := by
  obtain ⟨a, ns, rfl, hL, hlen, k⟩ := h
  refine ⟨_, rfl, a, ns, rfl, hL, hlen, fun d g c H1 S1 e1 _ _ _ => ?_⟩
  have hL1 : SqL K H1 a (ns.map V.int) := Same.seq e1 hL
  refine ⟨_, rfl, a, _, rfl, .inl hL1, _, _, rfl, _, _, rfl, rfl, _, rfl, ?_, ?_, ?_⟩
  · show -(2 ^ 62) ≤ 10 + (if (30 : Int) < ((ns.map V.int).length : Int) then 30 else ((ns.map V.int).length : Int))
    split <;> omega
  · show 10 + (if (30 : Int) < ((ns.map V.int).length : Int) then 30 else ((ns.map V.int).length : Int)) < 2 ^ 62
    rw [List.length_map]
    split <;> omega
  have hn : (10 + (if (30 : Int) < ((ns.map V.int).length : Int) then 30 else ((ns.map V.int).length : Int))).toNat ≤ 60 := by
    split <;> omega
  generalize (10 + (if (30 : Int) < ((ns.map V.int).length : Int) then 30 else ((ns.map V.int).length : Int))).toNat = n at hn
  refine for_range (lo := 0) (n := n) (fun i σ H2 => StB H2 d g c (2000 - 13 * i) ∧ ∃ x2 x3 x4 x5 x6 x7 x8 x9 x10 x11 x12, σ = [some (.ref a), some (.ref d), x2, x3, x4, x5, x6, x7, x8, x9, x10, x11, x12]) ⟨S1.mono (by decide), _, _, _, _, _, _, _, _, _, _, _, rfl⟩ ?_ ?_
  · rintro i σ H2 hi ⟨S2, x2, x3, x4, x5, x6, x7, x8, x9, x10, x11, x12, rfl⟩
    have e : 2000 - 13 * i = (2000 - 13 * (i + 1)) + 13 := by omega
    rw [e] at S2
    show t_turn9 K C _ [some (.ref a), some (.ref d), some (.int (0 + i)), x3, x4, x5, x6, x7, x8, x9, x10, x11, x12] H2
    exact turn9_ok S2 fun y3 y4 y5 y6 y7 y8 y9 y10 y11 y12 H' S' => ⟨S', _, _, _, _, _, _, _, _, _, _, _, rfl⟩
  · rintro σ H2 _
    exact k H2
end SR

set_option Elab.async false
set_option linter.all false
set_option maxRecDepth 100000
set_option maxHeartbeats 4000000
/-! K09G -/
namespace SR
open PySem L2
/-- by keywords alone; their number apart -/
theorem pe_kK1 {X : Cx} {CX : CXT} {j k n : Nat} {x : Str} {ps ks : List Str} {sp : Sp} {gV : List V → List V → List V} {kws : List Keyword} {tk : TA} {p pos : Pos} {E : L2.St → XK} (c : KnK X.prog X.w X.K X.mg X.base CX k x ps sp 0 ks gV) (hr : Room j X.A) (hk : k ≤ j) (hg : Gl X x) (hx : ∀ σ, PassesAt CX X σ (E σ)) (hkw : PK X kws tk)
    (hn : ks.length = n := by rfl) (hall : (backToKw pos (keywordEach kws X.env)).all (·.1.isSome) = true := by rfl) (hks : (backToKw pos (keywordEach kws X.env)).filterMap (·.1) = ks := by rfl) (hdb : (x == ("__debug__" : Str)) = false := by decide)
    (hpl : ((backTo pos (starEach [] X.env)).any (·.1) || (backToKw pos (keywordEach kws X.env)).any (·.1.isNone)) = false := by rfl) :
    PE X (.Call (.Name x p) [] kws pos) (tKw n sp gV E tNil tk) := by
  subst hn
  exact pe_kK0 c hr hk hg hx hkw hall hks hdb hpl
end SR

set_option Elab.async false
set_option linter.all false
set_option maxRecDepth 100000
set_option maxHeartbeats 4000000
/-! SRW: sequences of pairs; the module rows, where a row is valid. -/
namespace SR
open PySem PySem.Spec PyProof.Rows L2
def qDictOf (K : PySem.W.Frag) : List V → Hp → VK → Prop := fun xs H Q => (∃ (a : Addr) (ps : List Addr) (kvs : List (Key × V)), xs = [.ref a] ∧ SqL K H a (ps.map V.ref) ∧ Paired (fun p kv => SqT K H p [kV kv.1, kv.2]) ps kvs ∧ ∀ p, H p = none → Q (.ref p) (upd H p (.dK (mergeK [] kvs)))) ∨
  ∃ (a : Addr) (ps : List Addr) (kvs : List (Key × V)), xs = [V.ref a] ∧ BareW K H a (ps.map V.ref) ∧ Paired (fun p kv => SqT K H p [kV kv.1, kv.2]) ps kvs ∧ ∀ p, H p = none → Q (.ref p) (upd H p (.dK (mergeK [] kvs)))
def qSorted (K : PySem.W.Frag) : List V → Hp → VK → Prop := fun vs H Q => rSortedPO K vs H Q ∨ ∃ (a : Addr) (xs : List V) (k : V → Int × Int), vs = [V.ref a] ∧ SqT K H a xs ∧ (∀ x ∈ xs, ∃ t, x = V.ref t ∧ H t = some (.tup [.int (k x).1, .int (k x).2])) ∧
    ∀ ys p, SrtO.Srtd (ltP k) ys → SrtO.Stb (ltP k) ys xs → H p = none → Q (.ref p) (upd H p (.lst ys))
def qTupOf (K : PySem.W.Frag) : List V → Hp → VK → Prop := fun xs H Q => ∃ p ys, xs = [.ref p] ∧ SqL K H p ys ∧ ∀ l o, H l = none → o.cls = .type "tuple" → o.dict = none → Q (.ref l) (upd H l (.frz o (.tup ys)))
def qLenSet (w : World) : List V → Hp → VK → Prop := fun xs H Q => ∃ a S n, xs = [V.ref a] ∧ H a = some (SetO w a S n) ∧ Q (.int n) H
/-! ### pairs -/
def TupAt (H : Hp) (t : Addr) (p : Int × Int) : Prop := H t = some (.tup [.int p.1, .int p.2])
/-- a list, or a tuple whose object is known, of pairs of whole numbers -/
def PairsAt (K : PySem.W.Frag) (H : Hp) (a : Addr) (ps : List (Int × Int)) : Prop := ∃ ts : List Addr, (SqL K H a (ts.map V.ref) ∨ BareW K H a (ts.map V.ref)) ∧ Paired (TupAt H) ts ps
theorem Bare.same {H H' : Hp} {a : Addr} {xs : List V} (e : Same H H') (h : Bare H a xs) : Bare H' a xs := let ⟨o, h1, h2⟩ := h; ⟨o, e _ _ h1, h2⟩
theorem BareW.same {K : PySem.W.Frag} {H H' : Hp} {a : Addr} {xs : List V} (e : Same H H') (h : BareW K H a xs) : BareW K H' a xs := h.imp (Bare.same e) id
theorem paired_imp {α β : Type} {F G : α → β → Prop} (f : ∀ x y, F x y → G x y) {xs : List α} {ys : List β} (h : Paired F xs ys) : Paired G xs ys := L2.Paired.mapP h f
theorem PairsAt.same {K : PySem.W.Frag} {H H' : Hp} {a : Addr} {ps : List (Int × Int)} (e : Same H H') (h : PairsAt K H a ps) : PairsAt K H' a ps := by
  obtain ⟨ts, h1, h2⟩ := h
  exact ⟨ts, h1.imp (SqL.same e) (BareW.same e), paired_imp (fun _ _ z => e _ _ z) h2⟩
theorem paired_len {α β : Type} {F : α → β → Prop} {xs : List α} {ys : List β} (h : Paired F xs ys) : xs.length = ys.length := h.length
theorem paired_at {α β : Type} {F : α → β → Prop} : ∀ {xs : List α} {ys : List β}, Paired F xs ys → ∀ {i : Nat} {x : α}, xs[i]? = some x → ∃ y, ys[i]? = some y ∧ F x y
  | _, _, .nil, _, _, e => nomatch e
  | _, _, .cons h t, 0, _, e => ⟨_, rfl, Option.some.inj e ▸ h⟩
  | _, _, .cons h t, i + 1, _, e => paired_at t e
/-- [elt for .. in a], a pair after the other; the items change nothing -/
theorem lc_pairs {K : PySem.W.Frag} {te : TE} {g : TG} {telt : TE} {vs : List Nat} {σ : L2.St} {H : Hp} {a : Addr} {ps : List (Int × Int)} {Q : VK} (f : Int × Int → V) (hte : ∀ R : VK, R (.ref a) H → te σ H R) (hp : PairsAt K H a ps) (hl : ps.length ≤ 1000)
    (hs : ∀ t p H' (R : VK), Same H H' → p ∈ ps → TupAt H' t p → R (f p) H' → g (.ref t) (wipe σ vs) H' fun σ2 H2 => wipe σ2 vs = wipe σ vs ∧ telt σ2 H2 R)
    (hQ : ∀ D H', H D = none → Same H H' → H' D = some (.lst (ps.map f)) → Q (.ref D) H') :
    tLc (fun σ H R => iList K te σ H R ∨ iTup K te σ H R) g tYes telt vs σ H Q := by
  obtain ⟨ts, hsq, hts⟩ := hp
  have hlen : (ts.map V.ref).length = ps.length := by rw [List.length_map, paired_len hts]
  have step : ∀ (D : Addr), H D = none → ∀ i x H1 H2, i < (ts.map V.ref).length → (Same H H1 ∧ H1 D = some (.lst ((ps.take i).map f))) → YAt (ts.map V.ref) i H1 x H2 → g x (wipe σ vs) H2 fun σ2 H3 => wipe σ2 vs = wipe σ vs ∧ tYes σ2 H3 fun b H4 =>
      if b = true then telt σ2 H4 fun y H5 => ∃ acc, H5 D = some (.lst acc) ∧ acc.length < sizeLine ∧ (Same H (upd H5 D (.lst (acc ++ [y]))) ∧ upd H5 D (.lst (acc ++ [y])) D = some (.lst ((ps.take (i + 1)).map f))) else Same H H4 ∧ H4 D = some (.lst ((ps.take (i + 1)).map f)) := by
    rintro D hD i x H1 H2 hi ⟨s1, d1⟩ ⟨rfl, hx⟩
    rw [List.getElem?_map] at hx
    obtain ⟨t, ht, rfl⟩ := Option.map_eq_some_iff.mp hx
    obtain ⟨p, hpi, hat⟩ := paired_at hts ht
    refine hs t p H2 _ s1 (List.mem_of_getElem? hpi) (s1 _ _ hat) ⟨_, d1, ?_, same_upd s1 hD, ?_⟩
    · rw [List.length_map, List.length_take]
      exact Nat.lt_of_le_of_lt (Nat.le_trans (Nat.min_le_right _ _) hl) (by decide)
    · rw [upd_same, List.take_succ, hpi, List.map_append]
      rfl
  have fin : ∀ D, H D = none → ∀ H1, (Same H H1 ∧ H1 D = some (.lst ((ps.take (ts.map V.ref).length).map f))) → Q (.ref D) H1 := by
    rintro D hD H1 ⟨s1, d1⟩
    rw [hlen, List.take_length] at d1
    exact hQ D H1 hD s1 d1
  rcases hsq with hsq | hsq
  · refine .inl (hte _ ⟨a, rfl, ⟨_, hsq⟩, fun D hD => ?_⟩)
    exact lc_it (walk_list (K := K) (a := a) (xs := ts.map V.ref)) (fun i H1 => Same H H1 ∧ H1 D = some (.lst ((ps.take i).map f))) ⟨same_new hD, upd_same⟩ (fun i H1 _ h => SqL.same h.1 hsq) (step D hD) (fin D hD)
  · refine .inr (hte _ ⟨a, rfl, ⟨_, hsq.sq⟩, fun D hD => ?_⟩)
    exact lc_it (walk_tup (K := K) (a := a) (xs := ts.map V.ref)) (fun i H1 => Same H H1 ∧ H1 D = some (.lst ((ps.take i).map f))) ⟨same_new hD, upd_same⟩ (fun i H1 _ h => SqT.same h.1 hsq.sq) (step D hD) (fin D hD)
/-- {elt for .. in a}, whole numbers that differ -/
theorem sc_pairs {w : World} {K : PySem.W.Frag} {te : TE} {g : TG} {telt : TE} {vs : List Nat} {σ : L2.St} {H : Hp} {a : Addr} {ps : List (Int × Int)} {Q : VK} (f : Int × Int → Int) (hte : ∀ R : VK, R (.ref a) H → te σ H R) (hp : PairsAt K H a ps) (hl : ps.length ≤ 1000) (hd : (ps.map f).Nodup)
    (hs : ∀ t p H' (R : VK), Same H H' → p ∈ ps → TupAt H' t p → R (.int (f p)) H' → g (.ref t) (wipe σ vs) H' fun σ2 H2 => wipe σ2 vs = wipe σ vs ∧ telt σ2 H2 R)
    (hQ : ∀ D H' S, H D = none → Same H H' → H' D = some (SetO w D S ps.length) → Q (.ref D) H') :
    tScN w (fun σ H R => iList K te σ H R ∨ iTup K te σ H R) g tYes telt vs σ H Q := by
  obtain ⟨ts, hsq, hts⟩ := hp
  have hlen : (ts.map V.ref).length = ps.length := by rw [List.length_map, paired_len hts]
  have step : ∀ (D : Addr), H D = none → ∀ i x H1 H2, i < (ts.map V.ref).length → (Same H H1 ∧ ∃ S, H1 D = some (SetO w D S i) ∧ ∀ k, S k = true ↔ k ∈ (ps.take i).map f) → YAt (ts.map V.ref) i H1 x H2 → g x (wipe σ vs) H2 fun σ2 H3 => wipe σ2 vs = wipe σ vs ∧ tYes σ2 H3 fun b H4 =>
      if b = true then telt σ2 H4 fun y H5 => rSAdd w (.ref D) [y] H5 fun _ H6 => (Same H H6 ∧ ∃ S, H6 D = some (SetO w D S (i + 1)) ∧ ∀ k, S k = true ↔ k ∈ (ps.take (i + 1)).map f) else (Same H H4 ∧ ∃ S, H4 D = some (SetO w D S (i + 1)) ∧ ∀ k, S k = true ↔ k ∈ (ps.take (i + 1)).map f) := by
    rintro D hD i x H1 H2 hi ⟨s1, S, d1, m1⟩ ⟨rfl, hx⟩
    rw [List.getElem?_map] at hx
    obtain ⟨t, ht, rfl⟩ := Option.map_eq_some_iff.mp hx
    obtain ⟨p, hpi, hat⟩ := paired_at hts ht
    have tk : ps.take (i + 1) = ps.take i ++ [p] := by
      rw [List.take_succ, hpi]
      rfl
    have new : ¬ S (f p) = true := by
      intro z
      have hm := (m1 _).mp z
      have nd : ((ps.take (i + 1)).map f).Nodup := (List.Sublist.map f (List.take_sublist _ _)).nodup hd
      rw [tk, List.map_append, List.map_singleton] at nd
      exact (List.nodup_append.mp nd).2.2 _ hm _ (List.mem_singleton.mpr rfl) rfl
    refine hs t p H2 _ s1 (List.mem_of_getElem? hpi) (s1 _ _ hat) ⟨D, f p, S, i, rfl, rfl, d1, ?_, same_upd s1 hD, (fun j => S j || decide (j = f p)), ?_, fun k => ?_⟩
    · have : i < 1000 := by omega
      exact Nat.lt_of_lt_of_le (Nat.succ_lt_succ this) (by decide)
    · rw [upd_same, if_neg new]
    · rw [Bool.or_eq_true, m1 k, decide_eq_true_eq, tk, List.map_append, List.mem_append]
      exact or_congr Iff.rfl (by rw [List.map_singleton, List.mem_singleton])
  have fin : ∀ D, H D = none → ∀ H1, (Same H H1 ∧ ∃ S, H1 D = some (SetO w D S (ts.map V.ref).length) ∧ ∀ k, S k = true ↔ k ∈ (ps.take (ts.map V.ref).length).map f) → Q (.ref D) H1 := by
    rintro D hD H1 ⟨s1, S, d1, _⟩
    rw [hlen] at d1
    exact hQ D H1 S hD s1 d1
  have zero : ∀ k : Int, (false = true) ↔ k ∈ (ps.take 0).map f := fun k => ⟨(fun z => nomatch z), (fun z => nomatch z)⟩
  rcases hsq with hsq | hsq
  · refine .inl (hte _ ⟨a, rfl, ⟨_, hsq⟩, fun D hD => ?_⟩)
    exact scN_it (walk_list (K := K) (a := a) (xs := ts.map V.ref)) (fun i H1 => Same H H1 ∧ ∃ S, H1 D = some (SetO w D S i) ∧ ∀ k, S k = true ↔ k ∈ (ps.take i).map f) ⟨same_new hD, _, upd_same, zero⟩ (fun i H1 _ h => SqL.same h.1 hsq) (step D hD) (fin D hD)
  · refine .inr (hte _ ⟨a, rfl, ⟨_, hsq.sq⟩, fun D hD => ?_⟩)
    exact scN_it (walk_tup (K := K) (a := a) (xs := ts.map V.ref)) (fun i H1 => Same H H1 ∧ ∃ S, H1 D = some (SetO w D S i) ∧ ∀ k, S k = true ↔ k ∈ (ps.take i).map f) ⟨same_new hD, _, upd_same, zero⟩ (fun i H1 _ h => SqT.same h.1 hsq.sq) (step D hD) (fin D hD)
end SR

set_option Elab.async false
set_option linter.all false
set_option maxRecDepth 100000
set_option maxHeartbeats 4000000
/-! SRX: the tests of a row's arguments, where they are right. -/
namespace SR
open PySem PySem.Spec PyProof.Rows L2
@[irreducible] def xLc := @L2.tLc
theorem xLc_eq : @xLc = @L2.tLc := by
  unfold xLc
  rfl
@[irreducible] def xScN := @tScN
theorem xScN_eq : @xScN = @tScN := by
  unfold xScN
  rfl
theorem kit_seq {K : PySem.W.Frag} {H : Hp} {v : V} {t : String} (h : AnyT K H v t) (ht : t = "list" ∨ t = "tuple") : PySem.W.kitAny K (.type t) [.type "list", .type "tuple"] = some true := by
  obtain ⟨_, _, k1, k2, _⟩ := h.kit
  rcases ht with rfl | rfl
  · unfold PySem.W.kitAny
    rw [k2]
    rfl
  · unfold PySem.W.kitAny
    rw [k2]
    show PySem.W.kitAny K (.type "tuple") [.type "tuple"] = some true
    unfold PySem.W.kitAny
    rw [k1]
    rfl
theorem PairsAt.ty {K : PySem.W.Frag} {H : Hp} {a : Addr} {ps : List (Int × Int)} (h : PairsAt K H a ps) : ∃ t, AnyT K H (.ref a) t ∧ (t = "list" ∨ t = "tuple") := by
  obtain ⟨ts, h1 | h1, _⟩ := h
  · exact ⟨_, .lst h1, .inl rfl⟩
  · exact ⟨_, .tup h1.sq, .inr rfl⟩
theorem PairsAt.len {K : PySem.W.Frag} {H : Hp} {a : Addr} {ps : List (Int × Int)} (h : PairsAt K H a ps) : ∃ ys, (SqL K H a ys ∨ SqT K H a ys) ∧ ys.length = ps.length := by
  obtain ⟨ts, h1, h2⟩ := h
  exact ⟨_, h1.imp id BareW.sq, by rw [List.length_map, paired_len h2]⟩
theorem val2_tup {K : PySem.W.Frag} {H : Hp} {t : Addr} {p : Int × Int} (h : TupAt H t p) : Val2 K H (.ref t) (some [.int p.1, .int p.2]) := val2_pr h
def spArePairs (K : PySem.W.Frag) : Sp := fun vs H Q _ => ∃ a ps, vs = [.ref a] ∧ PairsAt K H a ps ∧ (ps.map Prod.fst).Nodup ∧ ps.length ≤ 1000 ∧ ∀ H', Same H H' → Q (.bl true) H'
def t_are_pairs (w : World) (K : PySem.W.Frag) : TS := tSeq (tIfS (tNot (tB (tCB (rIsiT K) (tCons (tVar 0) (tCons (tTup (tCons (tC (.ty "list")) (tCons (tC (.ty "tuple")) (tNil)))) tNil)))))
  (tRet (tC (.bl false)))
  (tNext))
  (tSeq (tIfS (tNot (tB (tCB (rAll K) (tCons (tLc ((fun σ H R => iList K (tVar 0) σ H R ∨ iTup K (tVar 0) σ H R)) (gName 1) (tYes) (tCall (spIsPair K) [] E0 (tCons (tVar 1) (tNil))) [1]) (tNil)))))
  (tRet (tC (.bl false)))
  (tNext))
  (tRet (tOp rEq (tCB (qLenSet w) (tCons (tScN w ((fun σ H R => iList K (tVar 0) σ H R ∨ iTup K (tVar 0) σ H R)) (gTup K 2 (gCons (gName 2) (gCons (gName 3) (gNil)))) (tYes) (tVar 2) [2, 3]) (tNil))) (tCB (qLen K) (tCons (tVar 0) (tNil))))))
theorem pure_are_pairs {w : World} {K : PySem.W.Frag} (vs : List V) (H : Hp) (Q : VK) (E : XK) (h : spArePairs K vs H Q E) : t_are_pairs w K { nx := fun _ H' => Q .non H', rt := Q } (start ["value", "part", "first", "_"] vs) H := by
  obtain ⟨a, ps, rfl, hp, hd, hl, q⟩ := h
  refine ⟨_, rfl, sz (by show 2 ≤ 1000; decide), fun T hT => ?_⟩
  have s1 := same_new (o := .tup [.ty "list", .ty "tuple"]) hT
  have p1 := hp.same s1
  obtain ⟨ty, any, hty⟩ := p1.ty
  refine ⟨_, T, _, _, [.type "list", .type "tuple"], true, rfl, upd_same, .cons (.ty _) (.cons (.ty _) .nil), any.ty, kit_seq any hty, _, rfl, iteF ?_⟩
  generalize upd H T (.tup [.ty "list", .ty "tuple"]) = H1 at s1 p1 ⊢
  try rw [← xLc_eq]
  try rw [← xScN_eq]
  show xLc (fun σ H R => iList K (tVar 0) σ H R ∨ iTup K (tVar 0) σ H R) (gName 1) tYes (tCall (spIsPair K) [] E0 (tCons (tVar 1) tNil)) [1] [some (.ref a), none, none, none] H1 _
  try rw [xLc_eq]
  try rw [xScN_eq]
  refine lc_pairs (K := K) (a := a) (ps := ps) (fun _ => .bl true) (fun R r => ⟨_, rfl, r⟩) p1 hl (fun t p H2 R s2 m2 at2 r => ?_) (fun D H2 hD s2 d2 => ?_)
  · exact ⟨rfl, _, rfl, _, _, rfl, val2_tup at2, r⟩
  have all : (ps.map fun _ => V.bl true) = (ps.map fun _ => true).map V.bl := by rw [List.map_map] <;> rfl
  rw [all] at d2
  have tr : (ps.map fun _ => true).all id = true := by
    rw [List.all_map]
    exact List.all_eq_true.mpr fun _ _ => rfl
  refine ⟨D, _, rfl, SqL.of d2, _, rfl, ?_⟩
  rw [tr]
  refine iteF ?_
  have p2 := p1.same s2
  try rw [← xLc_eq]
  try rw [← xScN_eq]
  show xScN w (fun σ H R => iList K (tVar 0) σ H R ∨ iTup K (tVar 0) σ H R) (gTup K 2 (gCons (gName 2) (gCons (gName 3) gNil))) tYes (tVar 2) [2, 3] [some (.ref a), none, none, none] H2 _
  try rw [xLc_eq]
  try rw [xScN_eq]
  refine sc_pairs (K := K) (a := a) (ps := ps) Prod.fst (fun R r => ⟨_, rfl, r⟩) p2 hl hd (fun t p H3 R s3 m3 at3 r => ?_) (fun D3 H3 S hD3 s3 d3 => ?_)
  · exact ⟨t, _, rfl, SqT.of at3, rfl, _, _, rfl, _, _, rfl, rfl, rfl, _, rfl, r⟩
  obtain ⟨ys, hys, ylen⟩ := (p2.same s3).len
  refine ⟨D3, S, _, rfl, d3, _, rfl, a, ys, rfl, hys, rfl, ?_⟩
  show Q (.bl (decide (V.int (ps.length : Int) = V.int (ys.length : Int)))) H3
  rw [ylen, decide_eq_true rfl]
  exact q H3 (s1.trans (s2.trans s3))
def spWideBox (K : PySem.W.Frag) : Sp := fun vs H Q _ => ∃ i c : Int, vs = [.int i, .int c] ∧ (-60 ≤ i ∧ i ≤ 60) ∧ (2 ≤ c ∧ c ≤ 9) ∧ Q (.bl true) H
def t_is_wide_box (K : PySem.W.Frag) : TS := tSeq (tIfS (tNot (tB (tCall (spBetween K) [] E0 (tCons (tVar 0) (tCons (tC (.int (-60))) (tCons (tC (.int 60)) (tNil)))))))
  (tRet (tC (.bl false)))
  (tNext))
  (tRet (tCall (spBetween K) [] E0 (tCons (tVar 1) (tCons (tC (.int 2)) (tCons (tC (.int 9)) (tNil))))))
theorem pure_wide_box {K : PySem.W.Frag} (vs : List V) (H : Hp) (Q : VK) (E : XK) (h : spWideBox K vs H Q E) : t_is_wide_box K { nx := fun _ H' => Q .non H', rt := Q } (start ["index", "capacity"] vs) H := by
  obtain ⟨i, c, rfl, hi, hc, q⟩ := h
  have b1 : btw (-60) 60 (.int i) = true := btw_iff.mpr ⟨i, rfl, hi⟩
  have b2 : btw 2 9 (.int c) = true := btw_iff.mpr ⟨c, rfl, hc⟩
  have q1 : isI (V.int i) = true := rfl
  refine ⟨_, rfl, .int i, _, _, _, rfl, .int i, fun _ => ⟨_, _, rfl, rfl, _, rfl, ?_⟩, fun z => nomatch z⟩
  rw [b1]
  refine iteF ⟨_, rfl, .int c, _, _, _, rfl, .int c, fun _ => ⟨_, _, rfl, rfl, ?_⟩, fun z => nomatch z⟩
  rw [b2]
  exact q
def cap (ks : List (Int × Int)) (i : Int) : Int := (ks.lookup i).getD 1
def sizeOk (p : Int × Int) : Prop := (-60 ≤ p.1 ∧ p.1 ≤ 60) ∧ 2 ≤ p.2 ∧ p.2 ≤ 9
def spAreCapacities (K : PySem.W.Frag) : Sp := fun vs H Q _ => ∃ a ps, vs = [.ref a] ∧ PairsAt K H a ps ∧ (ps.map Prod.fst).Nodup ∧ ps.length ≤ 6 ∧ (∀ p ∈ ps, sizeOk p) ∧ ∀ H', Same H H' → Q (.bl true) H'
def t_are_capacities (K : PySem.W.Frag) : TS := tSeq (tIfS (tOr (tNot (tB (tCall (spArePairs K) [] E0 (tCons (tVar 0) (tNil))))) (tTest (tOp qGt (tCB (qLen K) (tCons (tVar 0) (tNil))) (tC (.int 6)))))
  (tRet (tC (.bl false)))
  (tNext))
  (tRet (tCB (rAll K) (tCons (tLc ((fun σ H R => iList K (tVar 0) σ H R ∨ iTup K (tVar 0) σ H R)) (gTup K 2 (gCons (gName 1) (gCons (gName 2) (gNil)))) (tYes) (tCall (spWideBox K) [] E0 (tCons (tVar 1) (tCons (tVar 2) (tNil)))) [1, 2]) (tNil))))
theorem pure_are_capacities {K : PySem.W.Frag} (vs : List V) (H : Hp) (Q : VK) (E : XK) (h : spAreCapacities K vs H Q E) : t_are_capacities K { nx := fun _ H' => Q .non H', rt := Q } (start ["value", "index", "capacity"] vs) H := by
  obtain ⟨a, ps, rfl, hp, hd, hl, hs, q⟩ := h
  refine ⟨_, rfl, a, ps, rfl, hp, hd, by omega, fun H1 s1 => ⟨_, rfl, iteF ?_⟩⟩
  obtain ⟨ys, hys, ylen⟩ := (hp.same s1).len
  refine ⟨_, rfl, a, ys, rfl, hys, _, _, rfl, rfl, _, rfl, ?_⟩
  have no : ¬ (6 : Int) < (ys.length : Int) := by omega
  rw [decide_eq_false no]
  refine iteF ?_
  try rw [← xLc_eq]
  try rw [← xScN_eq]
  show xLc (fun σ H R => iList K (tVar 0) σ H R ∨ iTup K (tVar 0) σ H R) (gTup K 2 (gCons (gName 1) (gCons (gName 2) gNil))) tYes (tCall (spWideBox K) [] E0 (tCons (tVar 1) (tCons (tVar 2) tNil))) [1, 2] [some (.ref a), none, none] H1 _
  try rw [xLc_eq]
  try rw [xScN_eq]
  refine lc_pairs (K := K) (a := a) (ps := ps) (fun _ => .bl true) (fun R r => ⟨_, rfl, r⟩) (hp.same s1) (by omega) (fun t p H2 R s2 m2 at2 r => ?_) (fun D H2 hD s2 d2 => ?_)
  · exact ⟨t, _, rfl, SqT.of at2, rfl, _, _, rfl, _, _, rfl, rfl, rfl, _, rfl, _, rfl, p.1, p.2, rfl, (hs p m2).1, (hs p m2).2, r⟩
  have all : (ps.map fun _ => V.bl true) = (ps.map fun _ => true).map V.bl := by rw [List.map_map] <;> rfl
  rw [all] at d2
  have tr : (ps.map fun _ => true).all id = true := by
    rw [List.all_map]
    exact List.all_eq_true.mpr fun _ _ => rfl
  refine ⟨D, _, rfl, SqL.of d2, ?_⟩
  rw [tr]
  exact q H2 (s1.trans s2)
/-! ### a dict of pairs -/
def kvsOf (ps : List (Int × Int)) : List (Key × V) := ps.map fun p => (.inl p.1, .int p.2)
theorem merge_new : ∀ (ps : List (Int × Int)) (acc : List (Key × V)), (ps.map Prod.fst).Nodup → (∀ p ∈ ps, (acc.any fun kv => decide (kv.1 = .inl p.1)) = false) → mergeK acc (kvsOf ps) = acc ++ kvsOf ps
  | [], acc, _, _ => (List.append_nil acc).symm
  | p :: ps, acc, nd, h => by
    have nd' := List.nodup_cons.mp nd
    show mergeK (putK acc (.inl p.1) (.int p.2)) (kvsOf ps) = _
    have e : putK acc (.inl p.1) (.int p.2) = acc ++ [(.inl p.1, .int p.2)] := by
      unfold putK
      rw [h p List.mem_cons_self]
      rfl
    rw [e, merge_new ps _ nd'.2 fun q hq => ?_, List.append_assoc]
    · rfl
    · rw [List.any_append, h q (List.mem_cons_of_mem _ hq)]
      show (decide ((Sum.inl p.1 : Key) = .inl q.1) || false) = false
      rw [Bool.or_false]
      refine decide_eq_false fun z => nd'.1 ?_
      rw [Sum.inl.inj z]
      exact List.mem_map_of_mem hq
theorem merge_pairs {ps : List (Int × Int)} (nd : (ps.map Prod.fst).Nodup) : mergeK [] (kvsOf ps) = kvsOf ps := merge_new ps [] nd fun _ _ => rfl
theorem val_pairs (i : Int) : ∀ ps : List (Int × Int), valV (kvsOf ps) (.inl i) = (ps.lookup i).map V.int
  | [] => rfl
  | p :: ps => by
    obtain ⟨j, n⟩ := p
    show valV ((.inl j, .int n) :: kvsOf ps) (.inl i) = _
    rw [List.lookup_cons]
    by_cases e : i = j
    · subst e
      rw [valV_pos rfl, beq_self_eq_true]
      rfl
    · rw [valV_neg (fun z => e (Sum.inl.inj z).symm), val_pairs i ps, beq_eq_false_iff_ne.mpr e]
theorem paired_kvs {K : PySem.W.Frag} {H : Hp} : ∀ {ts : List Addr} {ps : List (Int × Int)}, Paired (TupAt H) ts ps → Paired (fun p (kv : Key × V) => SqT K H p [kV kv.1, kv.2]) ts (kvsOf ps)
  | _, _, .nil => .nil
  | _, _, .cons h t => .cons (SqT.of h) (paired_kvs t)
theorem PairsAt.dict {K : PySem.W.Frag} {H : Hp} {a : Addr} {ps : List (Int × Int)} {Q : VK} (h : PairsAt K H a ps) (nd : (ps.map Prod.fst).Nodup) (q : ∀ p, H p = none → Q (.ref p) (upd H p (.dK (kvsOf ps)))) : qDictOf K [.ref a] H Q := by
  obtain ⟨ts, h1, h2⟩ := h
  have z : ∀ p, H p = none → Q (.ref p) (upd H p (.dK (mergeK [] (kvsOf ps)))) := by
    rw [merge_pairs nd]
    exact q
  cases h1 with
  | inl h1 => exact .inl ⟨a, ts, _, rfl, h1, paired_kvs h2, z⟩
  | inr h1 => exact .inr ⟨a, ts, _, rfl, h1, paired_kvs h2, z⟩
@[irreducible] def xDictOf := @qDictOf
theorem xDictOf_eq : @xDictOf = @qDictOf := by
  unfold xDictOf
  rfl
def spAreContents (K : PySem.W.Frag) : Sp := fun vs H Q _ => ∃ a b ps ks, vs = [.ref a, .ref b] ∧ PairsAt K H a ps ∧ PairsAt K H b ks ∧ (ps.map Prod.fst).Nodup ∧ (ks.map Prod.fst).Nodup ∧ ps.length ≤ 1000 ∧ (∀ p ∈ ps, 1 ≤ p.2 ∧ p.2 ≤ cap ks p.1) ∧ (ps.map Prod.snd).sum ≤ 40 ∧ ∀ H', Same H H' → Q (.bl true) H'
def t_are_contents (K : PySem.W.Frag) : TS := tSeq (tIfS (tNot (tB (tCall (spArePairs K) [] E0 (tCons (tVar 0) (tNil)))))
  (tRet (tC (.bl false)))
  (tNext))
  (tSeq (tAsg (tCB (qDictOf K) (tCons (tVar 1) (tNil))) (gName 2))
  (tSeq (tIfS (tNot (tB (tCB (rAll K) (tCons (tLc ((fun σ H R => iList K (tVar 0) σ H R ∨ iTup K (tVar 0) σ H R)) (gTup K 2 (gCons (gName 3) (gCons (gName 4) (gNil)))) (tYes) (tChain qLe qLe (tC (.int 1)) (tVar 4) (tDGet2 (tVar 2) (tVar 3) (tC (.int 1)))) [3, 4]) (tNil)))))
  (tRet (tC (.bl false)))
  (tNext))
  (tRet (tOp qLe (tCB (rSum K) (tCons (tLc ((fun σ H R => iList K (tVar 0) σ H R ∨ iTup K (tVar 0) σ H R)) (gTup K 2 (gCons (gName 5) (gCons (gName 4) (gNil)))) (tYes) (tVar 4) [4, 5]) (tNil))) (tC (.int 40))))))
theorem pure_are_contents {K : PySem.W.Frag} (vs : List V) (H : Hp) (Q : VK) (E : XK) (h : spAreContents K vs H Q E) : t_are_contents K { nx := fun _ H' => Q .non H', rt := Q } (start ["value", "capacities", "wide", "index", "count", "_"] vs) H := by
  obtain ⟨a, b, ps, ks, rfl, hp, hk, hd, hdk, hl, hc, hsum, q⟩ := h
  refine ⟨_, rfl, a, ps, rfl, hp, hd, hl, fun H1 s1 => ⟨_, rfl, iteF ⟨_, rfl, ?_⟩⟩⟩
  try rw [← xLc_eq]
  try rw [← xScN_eq]
  try rw [← xDictOf_eq]
  show xDictOf K [.ref b] H1 _
  try rw [xLc_eq]
  try rw [xScN_eq]
  try rw [xDictOf_eq]
  refine (hk.same s1).dict hdk fun W hW => ?_
  have s2 := same_new (o := .dK (kvsOf ks)) hW
  have dW : upd H1 W (.dK (kvsOf ks)) W = some (.dK (kvsOf ks)) := upd_same
  generalize upd H1 W (.dK (kvsOf ks)) = H2 at s2 dW ⊢
  have p2 := (hp.same s1).same s2
  try rw [← xLc_eq]
  try rw [← xScN_eq]
  try rw [← xDictOf_eq]
  show xLc (fun σ H R => iList K (tVar 0) σ H R ∨ iTup K (tVar 0) σ H R) (gTup K 2 (gCons (gName 3) (gCons (gName 4) gNil))) tYes (tChain qLe qLe (tC (.int 1)) (tVar 4) (tDGet2 (tVar 2) (tVar 3) (tC (.int 1)))) [3, 4] [some (.ref a), some (.ref b), some (.ref W), none, none, none] H2 _
  try rw [xLc_eq]
  try rw [xScN_eq]
  try rw [xDictOf_eq]
  refine lc_pairs (K := K) (a := a) (ps := ps) (fun _ => .bl true) (fun R r => ⟨_, rfl, r⟩) p2 hl (fun t p H3 R s3 m3 at3 r => ?_) (fun D H3 hD s3 d3 => ?_)
  · refine ⟨t, _, rfl, SqT.of at3, rfl, _, _, rfl, _, _, rfl, rfl, rfl, ?_⟩
    obtain ⟨h1, h2⟩ := hc p m3
    have dW3 := s3 _ _ dW
    have gv : (valV (kvsOf ks) (.inl p.1)).getD (.int 1) = .int (cap ks p.1) := by
      rw [val_pairs]
      unfold cap
      cases ks.lookup p.1 <;> rfl
    refine chain_le (i := 1) (j := p.2) (k := cap ks p.1) (fun R r => r) (fun R r => ⟨_, rfl, r⟩) (fun R r => ⟨_, rfl, W, rfl, .inl ⟨_, .inl dW3⟩, _, rfl, _, DGet.k (k := .inl p.1) dW3, (by rw [gv]; exact r)⟩) ?_
    rw [decide_eq_true h1, decide_eq_true h2]
    exact r
  have all : (ps.map fun _ => V.bl true) = (ps.map fun _ => true).map V.bl := by rw [List.map_map] <;> rfl
  rw [all] at d3
  have tr : (ps.map fun _ => true).all id = true := by
    rw [List.all_map]
    exact List.all_eq_true.mpr fun _ _ => rfl
  refine ⟨D, _, rfl, SqL.of d3, _, rfl, ?_⟩
  rw [tr]
  refine iteF ?_
  have p3 := p2.same s3
  try rw [← xLc_eq]
  try rw [← xScN_eq]
  try rw [← xDictOf_eq]
  show xLc (fun σ H R => iList K (tVar 0) σ H R ∨ iTup K (tVar 0) σ H R) (gTup K 2 (gCons (gName 5) (gCons (gName 4) gNil))) tYes (tVar 4) [4, 5] [some (.ref a), some (.ref b), some (.ref W), none, none, none] H3 _
  try rw [xLc_eq]
  try rw [xScN_eq]
  try rw [xDictOf_eq]
  refine lc_pairs (K := K) (a := a) (ps := ps) (fun p => .int p.2) (fun R r => ⟨_, rfl, r⟩) p3 hl (fun t p H4 R s4 m4 at4 r => ?_) (fun D4 H4 hD4 s4 d4 => ?_)
  · exact ⟨t, _, rfl, SqT.of at4, rfl, _, _, rfl, _, _, rfl, rfl, rfl, _, rfl, r⟩
  have e4 : (ps.map fun p => V.int p.2) = (ps.map Prod.snd).map V.int := by rw [List.map_map] <;> rfl
  rw [e4] at d4
  refine ⟨D4, _, rfl, SqL.of d4, _, _, rfl, rfl, ?_⟩
  show Q (.bl (decide ((ps.map Prod.snd).sum ≤ 40))) H4
  rw [decide_eq_true hsum]
  exact q H4 (s1.trans (s2.trans (s3.trans s4)))
end SR

set_option Elab.async false
set_option linter.all false
set_option maxRecDepth 100000
set_option maxHeartbeats 4000000
/-! SRY: a row is made of what is valid, and read. -/
namespace SR
open PySem PySem.Spec PyProof.Rows L2
/-- the pair that stands at a reference -/
def pk (H : Hp) : V → Int × Int
  | .ref t => (match H t with
    | some (.tup [.int i, .int j]) => (i, j)
    | _ => (0, 0))
  | _ => (0, 0)
theorem pk_at {H : Hp} {t : Addr} {p : Int × Int} (h : TupAt H t p) : pk H (.ref t) = p := by
  unfold TupAt at h
  show (match H t with
    | some (.tup [.int i, .int j]) => (i, j)
    | _ => (0, 0)) = p
  rw [h]
theorem paired_mem {α β : Type} {F : α → β → Prop} : ∀ {xs : List α} {ys : List β}, Paired F xs ys → ∀ x ∈ xs, ∃ y ∈ ys, F x y
  | _, _, .nil, _, m => nomatch m
  | _, _, .cons h t, x, m => by
    rcases List.mem_cons.mp m with rfl | m
    · exact ⟨_, List.mem_cons_self, h⟩
    · obtain ⟨y, hy, f⟩ := paired_mem t x m
      exact ⟨y, List.mem_cons_of_mem _ hy, f⟩
theorem paired_map {H : Hp} : ∀ {ts : List Addr}, (∀ t ∈ ts, TupAt H t (pk H (.ref t))) → Paired (TupAt H) ts (ts.map fun t => pk H (.ref t))
  | [], _ => .nil
  | t :: ts, h => .cons (h t List.mem_cons_self) (paired_map fun u m => h u (List.mem_cons_of_mem _ m))
theorem paired_eq {H : Hp} : ∀ {ts : List Addr} {ps : List (Int × Int)}, Paired (TupAt H) ts ps → ps = ts.map fun t => pk H (.ref t)
  | _, _, .nil => rfl
  | _, _, .cons h t => by rw [List.map_cons, pk_at h, ← paired_eq t]
theorem all_refs : ∀ {ys : List V}, (∀ y ∈ ys, ∃ t, y = V.ref t) → ∃ ts : List Addr, ys = ts.map V.ref
  | [], _ => ⟨[], rfl⟩
  | y :: ys, h => by
    obtain ⟨t, rfl⟩ := h y List.mem_cons_self
    obtain ⟨ts, rfl⟩ := all_refs fun z m => h z (List.mem_cons_of_mem _ m)
    exact ⟨t :: ts, rfl⟩
/-- in the order of the first numbers -/
def Asc (ps : List (Int × Int)) : Prop := ps.Pairwise fun p q => p.1 < q.1
theorem asc_of {k : V → Int × Int} {ys : List V} (h : SrtO.Srtd (ltP k) ys) (nd : (ys.map fun y => (k y).1).Nodup) : Asc (ys.map k) := by
  unfold Asc
  rw [List.pairwise_map]
  have nd' : ys.Pairwise fun x y => (k x).1 ≠ (k y).1 := List.pairwise_map.mp nd
  refine (List.Pairwise.and h nd').imp fun {x y} z => ?_
  obtain ⟨z1, z2⟩ := z
  have := SrtO.lexB_no.mp z1
  omega
theorem sorted_out {H : Hp} {ts : List Addr} {ps : List (Int × Int)} (hp : Paired (TupAt H) ts ps) (nd : (ps.map Prod.fst).Nodup) {ys : List V} (h1 : SrtO.Srtd (ltP (pk H)) ys) (h2 : SrtO.Stb (ltP (pk H)) ys (ts.map V.ref)) :
    ∃ us qs, ys = us.map V.ref ∧ Paired (TupAt H) us qs ∧ qs.Perm ps ∧ Asc qs := by
  have rf : ∀ y ∈ ys, ∃ t ∈ ts, y = V.ref t := fun y m => by
    obtain ⟨t, ht, e⟩ := List.mem_map.mp (h2.perm.mem_iff.mp m)
    exact ⟨t, ht, e.symm⟩
  obtain ⟨us, rfl⟩ := all_refs fun y m => let ⟨t, _, e⟩ := rf y m; ⟨t, e⟩
  have ups : us.Perm ts := by
    have z := h2.perm.map (fun v => match v with | V.ref t => t | _ => 0)
    rw [List.map_map, List.map_map] at z
    exact (List.map_id us).symm ▸ (List.map_id ts) ▸ z
  have at_ : ∀ t ∈ us, TupAt H t (pk H (.ref t)) := fun t m => by
    obtain ⟨p, _, hat⟩ := paired_mem hp t (ups.mem_iff.mp m)
    rw [pk_at hat]
    exact hat
  have e := paired_eq hp
  have perm : (us.map fun t => pk H (.ref t)).Perm ps := by
    rw [e]
    exact ups.map _
  refine ⟨us, us.map fun t => pk H (.ref t), rfl, paired_map at_, perm, ?_⟩
  have nd2 : ((us.map V.ref).map fun y => (pk H y).1).Nodup := by
    have z := (perm.map Prod.fst).nodup_iff.mpr nd
    rw [List.map_map] at z ⊢
    exact z
  have z := asc_of h1 nd2
  rw [List.map_map] at z
  exact z
theorem PairsAt.sorted {K : PySem.W.Frag} {H : Hp} {a : Addr} {ps : List (Int × Int)} {Q : VK} (h : PairsAt K H a ps) (nd : (ps.map Prod.fst).Nodup)
    (q : ∀ l us qs, H l = none → Paired (TupAt H) us qs → qs.Perm ps → Asc qs → Q (.ref l) (upd H l (.lst (us.map V.ref)))) : qSorted K [.ref a] H Q := by
  obtain ⟨ts, h1, h2⟩ := h
  have it : ∀ x ∈ ts.map V.ref, ∃ t, x = V.ref t ∧ H t = some (.tup [.int (pk H x).1, .int (pk H x).2]) := fun x m => by
    obtain ⟨t, ht, rfl⟩ := List.mem_map.mp m
    obtain ⟨p, _, hat⟩ := paired_mem h2 t ht
    refine ⟨t, rfl, ?_⟩
    rw [pk_at hat]
    exact hat
  have out : ∀ ys p, SrtO.Srtd (ltP (pk H)) ys → SrtO.Stb (ltP (pk H)) ys (ts.map V.ref) → H p = none → Q (.ref p) (upd H p (.lst ys)) := fun ys p a1 a2 a3 => by
    obtain ⟨us, qs, rfl, b1, b2, b3⟩ := sorted_out h2 nd a1 a2
    exact q p us qs a3 b1 b2 b3
  cases h1 with
  | inl h1 => exact .inl ⟨a, _, pk H, rfl, h1, it, out⟩
  | inr h1 => exact .inr ⟨a, _, pk H, rfl, h1.sq, it, out⟩
/-! ### a row -/
def fCo : Str := "_contents"
/-- the fields of a row -/
def rowFs (c k d e : Addr) : List (Str × V) := [("_contents", .ref c), ("_capacities", .ref k), ("_count_at", .ref d), ("_capacity_at", .ref e)]
/-- at x there stands a row, of the items ps and the wide boxes ks, both ascending -/
def RowAt (K : PySem.W.Frag) (C : Addr) (H : Hp) (x : Addr) (ps ks : List (Int × Int)) : Prop := ∃ dx c k d e ps0 ks0, H x = some (.ins C dx (rowFs c k d e)) ∧ (∃ ts, Bare H c (ts.map V.ref) ∧ Paired (TupAt H) ts ps) ∧ (∃ ts, Bare H k (ts.map V.ref) ∧ Paired (TupAt H) ts ks) ∧
  H d = some (.dK (kvsOf ps0)) ∧ H e = some (.dK (kvsOf ks0)) ∧ ps.Perm ps0 ∧ ks.Perm ks0
/-- what a row may hold -/
structure RowOk (ps ks : List (Int × Int)) : Prop where
  nd : (ps.map Prod.fst).Nodup
  kd : (ks.map Prod.fst).Nodup
  kl : ks.length ≤ 6
  ko : ∀ p ∈ ks, sizeOk p
  po : ∀ p ∈ ps, 1 ≤ p.2 ∧ p.2 ≤ cap ks p.1
  sm : (ps.map Prod.snd).sum ≤ 40
theorem len_sum : ∀ {ps : List (Int × Int)}, (∀ p ∈ ps, 1 ≤ p.2) → (ps.length : Int) ≤ (ps.map Prod.snd).sum
  | [], _ => Int.le_refl _
  | p :: ps, h => by
    have h1 := h p List.mem_cons_self
    have h2 := len_sum fun q m => h q (List.mem_cons_of_mem _ m)
    rw [List.map_cons, List.sum_cons, List.length_cons]
    omega
theorem RowOk.len {ps ks : List (Int × Int)} (h : RowOk ps ks) : ps.length ≤ 40 := by
  have h1 := len_sum fun p m => (h.po p m).1
  have h2 := h.sm
  omega
/-- all but x and its dict stay -/
def SameBut (x : Addr) (H H' : Hp) : Prop := ∀ b o, b ≠ x → H b = some o → H' b = some o
structure RowC (K : PySem.W.Frag) (C : Addr) : Prop where
  cls : Cls K C
  n1 : NoAttr K C "_contents"
  n2 : NoAttr K C "_capacities"
  n3 : NoAttr K C "_count_at"
  n4 : NoAttr K C "_capacity_at"
def spRowInit (K : PySem.W.Frag) (C : Addr) : Sp := fun vs H Q _ => ∃ x a b dx ps ks, vs = [.ref x, .ref a, .ref b] ∧ H x = some (.ins C dx []) ∧ PairsAt K H a ps ∧ PairsAt K H b ks ∧ RowOk ps ks ∧
  ∀ H' qs ls, SameBut x H H' → RowAt K C H' x qs ls → qs.Perm ps → ls.Perm ks → Asc qs → Asc ls → Q .non H'
def t_Row_init (K : PySem.W.Frag) : TS := tSeq (tIfS (tNot (tB (tCall (spAreCapacities K) [] E0 (tCons (tVar 2) (tNil)))))
  ((fun _ _ _ => False))
  (tNext))
  (tSeq (tIfS (tNot (tB (tCall (spAreContents K) [] E0 (tCons (tVar 1) (tCons (tVar 2) (tNil))))))
  ((fun _ _ _ => False))
  (tNext))
  (tSeq (sFld K (tVar 0) (tCB (qTupOf K) (tCons (tCB (qSorted K) (tCons (tVar 1) (tNil))) (tNil))) "_contents")
  (tSeq (sFld K (tVar 0) (tCB (qTupOf K) (tCons (tCB (qSorted K) (tCons (tVar 2) (tNil))) (tNil))) "_capacities")
  (tSeq (sFld K (tVar 0) (tCB (qDictOf K) (tCons (tVar 1) (tNil))) "_count_at")
  (sFld K (tVar 0) (tCB (qDictOf K) (tCons (tVar 2) (tNil))) "_capacity_at")))))
def fs1 (c : Addr) : List (Str × V) := [("_contents", .ref c)]
def fs2 (c e : Addr) : List (Str × V) := [("_contents", .ref c), ("_capacities", .ref e)]
def fs3 (c e d : Addr) : List (Str × V) := [("_contents", .ref c), ("_capacities", .ref e), ("_count_at", .ref d)]
theorem put1 (c : Addr) : putF "_contents" (.ref c) [] = fs1 c := rfl
theorem putNe {f g : Str} {v x : V} {r : List (Str × V)} (h : ¬ g = f) : putF f v ((g, x) :: r) = (g, x) :: putF f v r := by
  rw [putF, if_neg h]
theorem put2 (c e : Addr) : putF "_capacities" (.ref e) (fs1 c) = fs2 c e := by
  unfold fs1 fs2
  rw [putNe (by decide)]
  rfl
theorem put3 (c e d : Addr) : putF "_count_at" (.ref d) (fs2 c e) = fs3 c e d := by
  unfold fs2 fs3
  rw [putNe (by decide), putNe (by decide)]
  rfl
theorem put4 (c e d g : Addr) : putF "_capacity_at" (.ref g) (fs3 c e d) = rowFs c e d g := by
  unfold fs3 rowFs
  rw [putNe (by decide), putNe (by decide), putNe (by decide)]
  rfl
@[irreducible] def xSorted := @qSorted
theorem xSorted_eq : @xSorted = @qSorted := by
  unfold xSorted
  rfl
def NoIns (o : HO) : Prop := ∀ C dx fs, o ≠ .ins C dx fs
theorem SameBut.keep {x : Addr} {H H' : Hp} (s : SameBut x H H') {C dx : Addr} {fs : List (Str × V)} (hx : H x = some (.ins C dx fs)) {b : Addr} {o : HO} (h : H b = some o) (ho : NoIns o) : H' b = some o := s b o (fun e => by
  rw [e, hx] at h
  exact ho _ _ _ (Option.some.inj h).symm) h
theorem Same.but {x : Addr} {H H' : Hp} (s : Same H H') : SameBut x H H' := fun b o _ h => s b o h
theorem SameBut.trans {x : Addr} {H H1 H2 : Hp} (s : SameBut x H H1) (t : SameBut x H1 H2) : SameBut x H H2 := fun b o e h => t b o e (s b o e h)
theorem but_upd {x : Addr} {H : Hp} {o : HO} : SameBut x H (upd H x o) := fun b u e h => (upd_ne e).trans h
theorem SameBut.tups {x : Addr} {H H' : Hp} (s : SameBut x H H') {C dx : Addr} {fs : List (Str × V)} (hx : H x = some (.ins C dx fs)) {ts : List Addr} {ps : List (Int × Int)} (h : Paired (TupAt H) ts ps) : Paired (TupAt H') ts ps :=
  paired_imp (fun t p z => s.keep (o := .tup [.int p.1, .int p.2]) hx z (fun _ _ _ e => nomatch e)) h
theorem SameBut.bare {x : Addr} {H H' : Hp} (s : SameBut x H H') {C dx : Addr} {fs : List (Str × V)} (hx : H x = some (.ins C dx fs)) {a : Addr} {xs : List V} (h : Bare H a xs) : Bare H' a xs :=
  let ⟨o, h1, h2⟩ := h; ⟨o, s.keep hx h1 (fun _ _ _ e => nomatch e), h2⟩
theorem SameBut.pairs {K : PySem.W.Frag} {x : Addr} {H H' : Hp} (s : SameBut x H H') {C dx : Addr} {fs : List (Str × V)} (hx : H x = some (.ins C dx fs)) {a : Addr} {ps : List (Int × Int)} (h : PairsAt K H a ps) : PairsAt K H' a ps := by
  obtain ⟨ts, h1, h2⟩ := h
  refine ⟨ts, ?_, s.tups hx h2⟩
  rcases h1 with ((h1 | ⟨ob, h1⟩) | h1) | h1
  · exact .inl (.inl (.inl (s.keep hx h1 fun _ _ _ e => nomatch e)))
  · exact .inl (.inl (.inr ⟨ob, s.keep hx h1 fun _ _ _ e => nomatch e⟩))
  · exact .inl (.inr h1)
  · exact .inr (h1.imp (s.bare hx) id)
theorem pure_row_init {K : PySem.W.Frag} {C : Addr} (R : RowC K C) (vs : List V) (H : Hp) (Q : VK) (E : XK) (h : spRowInit K C vs H Q E) : t_Row_init K { nx := fun _ H' => Q .non H', rt := Q } (start ["self", "contents", "capacities"] vs) H := by
  obtain ⟨x, a, b, dx, ps, ks, rfl, hx, hp, hk, ok, q⟩ := h
  refine ⟨_, rfl, b, ks, rfl, hk, ok.kd, ok.kl, ok.ko, fun H1 s1 => ⟨_, rfl, iteF ?_⟩⟩
  refine ⟨_, rfl, _, rfl, a, b, ps, ks, rfl, hp.same s1, hk.same s1, ok.nd, ok.kd, (by have := ok.len; omega), ok.po, ok.sm, fun H2 s2 => ⟨_, rfl, iteF ⟨_, rfl, ?_⟩⟩⟩
  replace hp := (hp.same s1).same s2
  replace hk := (hk.same s1).same s2
  replace hx := s2 _ _ (s1 _ _ hx)
  have t2 := s1.trans s2
  clear s1 s2
  try rw [← xDictOf_eq]
  try rw [← xSorted_eq]
  show xSorted K [.ref a] H2 _
  try rw [xDictOf_eq]
  try rw [xSorted_eq]
  refine hp.sorted ok.nd fun l1 us qs hl1 hus pm1 as1 => ?_
  refine ⟨l1, _, rfl, SqL.of upd_same, fun c o hc o1 o2 => ?_⟩
  have s3 := same_new (o := .lst (us.map V.ref)) hl1
  generalize upd H2 l1 (.lst (us.map V.ref)) = H3 at s3 hc ⊢
  have s4 := same_new (o := .frz o (.tup (us.map V.ref))) hc
  have bc : Bare (upd H3 c (.frz o (.tup (us.map V.ref)))) c (us.map V.ref) := ⟨o, upd_same, o1, o2⟩
  generalize upd H3 c (.frz o (.tup (us.map V.ref))) = H4 at s4 bc ⊢
  have s34 := s3.trans s4
  refine ⟨_, rfl, x, C, dx, _, rfl, s34 _ _ hx, R.cls, R.n1, (by show 0 < 1000; decide), ?_⟩
  have hx4 := s34 _ _ hx
  rw [put1]
  have u5 := but_upd (x := x) (H := H4) (o := .ins C dx (fs1 c))
  have hx5 : upd H4 x (.ins C dx (fs1 c)) x = some (.ins C dx (fs1 c)) := upd_same
  have k5 := u5.pairs hx4 (hk.same s34)
  have p5 := u5.pairs hx4 (hp.same s34)
  have bc5 := u5.bare hx4 bc
  have us5 := u5.tups hx4 (paired_imp (fun _ _ z => s34 _ _ z) hus)
  have t5 : SameBut x H (upd H4 x (.ins C dx (fs1 c))) := (Same.but (t2.trans s34)).trans u5
  clear u5 hp hk hx hx4 s34 s3 s4 t2 bc hus hc hl1
  try rw [← xDictOf_eq]
  try rw [← xSorted_eq]
  show tSeq _ _ _ _ (upd H4 x (.ins C dx (fs1 c)))
  try rw [xDictOf_eq]
  try rw [xSorted_eq]
  generalize upd H4 x (.ins C dx (fs1 c)) = H5 at hx5 k5 p5 bc5 us5 t5 ⊢
  -- the wide boxes
  refine ⟨_, rfl, ?_⟩
  try rw [← xDictOf_eq]
  try rw [← xSorted_eq]
  show xSorted K [.ref b] H5 _
  try rw [xDictOf_eq]
  try rw [xSorted_eq]
  refine k5.sorted ok.kd fun l2 ws rs hl2 hws pm2 as2 => ?_
  refine ⟨l2, _, rfl, SqL.of upd_same, fun e o' he o3 o4 => ?_⟩
  have s6 := same_new (o := .lst (ws.map V.ref)) hl2
  generalize upd H5 l2 (.lst (ws.map V.ref)) = H6 at s6 he ⊢
  have s7 := same_new (o := .frz o' (.tup (ws.map V.ref))) he
  have be : Bare (upd H6 e (.frz o' (.tup (ws.map V.ref)))) e (ws.map V.ref) := ⟨o', upd_same, o3, o4⟩
  generalize upd H6 e (.frz o' (.tup (ws.map V.ref))) = H7 at s7 be ⊢
  have s57 := s6.trans s7
  have hx7 := s57 _ _ hx5
  refine ⟨_, rfl, x, C, dx, _, rfl, hx7, R.cls, R.n2, (by show 1 < 1000; decide), ?_⟩
  rw [put2]
  have u8 := but_upd (x := x) (H := H7) (o := .ins C dx (fs2 c e))
  have hx8 : upd H7 x (.ins C dx (fs2 c e)) x = some (.ins C dx (fs2 c e)) := upd_same
  have k8 := u8.pairs hx7 (k5.same s57)
  have p8 := u8.pairs hx7 (p5.same s57)
  have bc8 := u8.bare hx7 (bc5.same s57)
  have be8 := u8.bare hx7 be
  have us8 := u8.tups hx7 (paired_imp (fun _ _ z => s57 _ _ z) us5)
  have ws8 := u8.tups hx7 (paired_imp (fun _ _ z => s57 _ _ z) hws)
  have t8 := (t5.trans (Same.but s57)).trans u8
  clear u8 k5 p5 hx5 hx7 s57 s6 s7 t5 bc5 us5 be hws he hl2
  try rw [← xDictOf_eq]
  try rw [← xSorted_eq]
  show tSeq _ _ _ _ (upd H7 x (.ins C dx (fs2 c e)))
  try rw [xDictOf_eq]
  try rw [xSorted_eq]
  generalize upd H7 x (.ins C dx (fs2 c e)) = H8 at hx8 k8 p8 bc8 be8 us8 ws8 t8 ⊢
  -- the dicts
  refine ⟨_, rfl, ?_⟩
  try rw [← xDictOf_eq]
  try rw [← xSorted_eq]
  show xDictOf K [.ref a] H8 _
  try rw [xDictOf_eq]
  try rw [xSorted_eq]
  refine p8.dict ok.nd fun d hd => ?_
  have s9 := same_new (o := .dK (kvsOf ps)) hd
  have d9 : upd H8 d (.dK (kvsOf ps)) d = some (.dK (kvsOf ps)) := upd_same
  generalize upd H8 d (.dK (kvsOf ps)) = H9 at s9 d9 ⊢
  have hx9 := s9 _ _ hx8
  refine ⟨_, rfl, x, C, dx, _, rfl, hx9, R.cls, R.n3, (by show 2 < 1000; decide), ?_⟩
  rw [put3]
  have u10 := but_upd (x := x) (H := H9) (o := .ins C dx (fs3 c e d))
  have hx10 : upd H9 x (.ins C dx (fs3 c e d)) x = some (.ins C dx (fs3 c e d)) := upd_same
  have k10 := u10.pairs hx9 (k8.same s9)
  have bc10 := u10.bare hx9 (bc8.same s9)
  have be10 := u10.bare hx9 (be8.same s9)
  have us10 := u10.tups hx9 (paired_imp (fun _ _ z => s9 _ _ z) us8)
  have ws10 := u10.tups hx9 (paired_imp (fun _ _ z => s9 _ _ z) ws8)
  have d10 := u10.keep hx9 d9 fun _ _ _ e => nomatch e
  have t10 := (t8.trans (Same.but s9)).trans u10
  clear u10 k8 p8 hx8 hx9 s9 t8 bc8 us8 be8 ws8 d9 hd
  try rw [← xDictOf_eq]
  try rw [← xSorted_eq]
  show sFld K (tVar 0) (tCB (xDictOf K) (tCons (tVar 2) tNil)) "_capacity_at" { nx := fun _ H' => Q .non H', rt := Q } [some (.ref x), some (.ref a), some (.ref b)] (upd H9 x (.ins C dx (fs3 c e d)))
  try rw [xDictOf_eq]
  try rw [xSorted_eq]
  generalize upd H9 x (.ins C dx (fs3 c e d)) = H10 at hx10 k10 bc10 be10 us10 ws10 t10 d10 ⊢
  refine ⟨_, rfl, ?_⟩
  try rw [← xDictOf_eq]
  try rw [← xSorted_eq]
  show xDictOf K [.ref b] H10 _
  try rw [xDictOf_eq]
  try rw [xSorted_eq]
  refine k10.dict ok.kd fun g hg => ?_
  have s11 := same_new (o := .dK (kvsOf ks)) hg
  have g11 : upd H10 g (.dK (kvsOf ks)) g = some (.dK (kvsOf ks)) := upd_same
  generalize upd H10 g (.dK (kvsOf ks)) = H11 at s11 g11 ⊢
  have hx11 := s11 _ _ hx10
  refine ⟨_, rfl, x, C, dx, _, rfl, hx11, R.cls, R.n4, (by show 3 < 1000; decide), ?_⟩
  rw [put4]
  have u12 := but_upd (x := x) (H := H11) (o := .ins C dx (rowFs c e d g))
  refine q _ qs rs ((t10.trans (Same.but s11)).trans u12) ⟨dx, c, e, d, g, ps, ks, upd_same, ⟨us, u12.bare hx11 (bc10.same s11), u12.tups hx11 (paired_imp (fun _ _ z => s11 _ _ z) us10)⟩, ⟨ws, u12.bare hx11 (be10.same s11), u12.tups hx11 (paired_imp (fun _ _ z => s11 _ _ z) ws10)⟩,
    u12.keep hx11 (s11 _ _ d10) (fun _ _ _ e => nomatch e), u12.keep hx11 g11 (fun _ _ _ e => nomatch e), pm1, pm2⟩ pm1 pm2 as1 as2
end SR

set_option Elab.async false
set_option linter.all false
set_option maxRecDepth 100000
set_option maxHeartbeats 4000000
/-! SRZ: a row read. -/
namespace SR
open PySem PySem.Spec PyProof.Rows L2
theorem lookup_none {i : Int} : ∀ {ps : List (Int × Int)}, ps.lookup i = none ↔ i ∉ ps.map Prod.fst
  | [] => ⟨fun _ => List.not_mem_nil, fun _ => rfl⟩
  | (j, n) :: ps => by
    rw [List.lookup_cons, List.map_cons, List.mem_cons]
    by_cases e : i = j
    · subst e
      rw [beq_self_eq_true]
      exact ⟨(fun z => nomatch z), fun z => absurd (Or.inl rfl) z⟩
    · rw [beq_eq_false_iff_ne.mpr e]
      show ps.lookup i = none ↔ _
      rw [lookup_none]
      exact ⟨fun z => fun w => w.elim e z, fun z => fun w => z (.inr w)⟩
theorem lookup_some {i n : Int} : ∀ {ps : List (Int × Int)}, (ps.map Prod.fst).Nodup → (ps.lookup i = some n ↔ (i, n) ∈ ps)
  | [], _ => ⟨(fun z => nomatch z), (fun z => nomatch z)⟩
  | (j, m) :: ps, nd => by
    have nd' := List.nodup_cons.mp nd
    rw [List.lookup_cons, List.mem_cons]
    by_cases e : i = j
    · subst e
      rw [beq_self_eq_true]
      refine ⟨fun z => .inl (by cases z; rfl), fun z => ?_⟩
      rcases z with z | z
      · cases z
        rfl
      · exact absurd (List.mem_map_of_mem (f := Prod.fst) z) nd'.1
    · rw [beq_eq_false_iff_ne.mpr e]
      show ps.lookup i = some n ↔ _
      rw [lookup_some nd'.2]
      exact ⟨.inr, fun z => z.elim (fun w => absurd (congrArg Prod.fst w) e) id⟩
theorem lookup_perm {ps qs : List (Int × Int)} (h : ps.Perm qs) (nd : (ps.map Prod.fst).Nodup) (i : Int) : ps.lookup i = qs.lookup i := by
  have nq : (qs.map Prod.fst).Nodup := (h.map Prod.fst).nodup_iff.mp nd
  cases e : qs.lookup i with
  | none => exact lookup_none.mpr fun m => lookup_none.mp e ((h.map Prod.fst).mem_iff.mp m)
  | some n => exact (lookup_some nd).mpr (h.mem_iff.mpr ((lookup_some nq).mp e))
def cnt (ps : List (Int × Int)) (i : Int) : Int := (ps.lookup i).getD 0
theorem RowAt.same {K : PySem.W.Frag} {C : Addr} {H H' : Hp} {x : Addr} {ps ks : List (Int × Int)} (s : Same H H') (h : RowAt K C H x ps ks) : RowAt K C H' x ps ks := by
  obtain ⟨dx, c, k, d, e, ps0, ks0, h1, ⟨t1, h2, h3⟩, ⟨t2, h4, h5⟩, h6, h7, h8⟩ := h
  exact ⟨dx, c, k, d, e, ps0, ks0, s _ _ h1, ⟨t1, h2.same s, paired_imp (fun _ _ z => s _ _ z) h3⟩, ⟨t2, h4.same s, paired_imp (fun _ _ z => s _ _ z) h5⟩, s _ _ h6, s _ _ h7, h8⟩
/-- what a row gives: its items, its wide boxes -/
def PairsT (H : Hp) (c : Addr) (ps : List (Int × Int)) : Prop := ∃ ts, Bare H c (ts.map V.ref) ∧ Paired (TupAt H) ts ps
theorem PairsT.at {K : PySem.W.Frag} {H : Hp} {c : Addr} {ps : List (Int × Int)} (h : PairsT H c ps) : PairsAt K H c ps := let ⟨ts, h1, h2⟩ := h; ⟨ts, .inr (.inl h1), h2⟩
theorem PairsT.same {H H' : Hp} {c : Addr} {ps : List (Int × Int)} (s : Same H H') (h : PairsT H c ps) : PairsT H' c ps := let ⟨ts, h1, h2⟩ := h; ⟨ts, h1.same s, paired_imp (fun _ _ z => s _ _ z) h2⟩
def spContents (K : PySem.W.Frag) (C : Addr) : Sp := fun vs H Q _ => ∃ x ps ks, vs = [.ref x] ∧ RowAt K C H x ps ks ∧ ∀ c, PairsT H c ps → Q (.ref c) H
def spCapacities (K : PySem.W.Frag) (C : Addr) : Sp := fun vs H Q _ => ∃ x ps ks, vs = [.ref x] ∧ RowAt K C H x ps ks ∧ ∀ c, PairsT H c ks → Q (.ref c) H
def spHeld (K : PySem.W.Frag) (C : Addr) : Sp := fun vs H Q _ => ∃ x i ps ks, vs = [.ref x, .int i] ∧ RowAt K C H x ps ks ∧ (ps.map Prod.fst).Nodup ∧ Q (.int (cnt ps i)) H
def spCapacityOf (K : PySem.W.Frag) (C : Addr) : Sp := fun vs H Q _ => ∃ x i ps ks, vs = [.ref x, .int i] ∧ RowAt K C H x ps ks ∧ (ks.map Prod.fst).Nodup ∧ Q (.int (cap ks i)) H
def t_Row_contents (K : PySem.W.Frag) : TS := tRet (tFld K (tVar 0) "_contents")
def t_Row_capacities (K : PySem.W.Frag) : TS := tRet (tFld K (tVar 0) "_capacities")
def t_Row_held (K : PySem.W.Frag) : TS := tSeq (tIfS (tNot (tB (tCall (spIsInt K) [] E0 (tCons (tVar 1) (tNil)))))
  ((fun _ _ _ => False))
  (tNext))
  (tRet (tDGet2 (tFld K (tVar 0) "_count_at") (tVar 1) (tC (.int 0))))
def t_Row_capacity (K : PySem.W.Frag) : TS := tSeq (tIfS (tNot (tB (tCall (spIsInt K) [] E0 (tCons (tVar 1) (tNil)))))
  ((fun _ _ _ => False))
  (tNext))
  (tRet (tDGet2 (tFld K (tVar 0) "_capacity_at") (tVar 1) (tC (.int 1))))
theorem fl1 (c k d e : Addr) : List.lookup ("_contents" : Str) (rowFs c k d e) = some (V.ref c) := rfl
theorem lkNe {f g : Str} {x : V} {r : List (Str × V)} (h : ¬ f = g) : List.lookup f ((g, x) :: r) = List.lookup f r := by
  rw [List.lookup_cons, beq_eq_false_iff_ne.mpr h]
theorem lkEq {f : Str} {x : V} {r : List (Str × V)} : List.lookup f ((f, x) :: r) = some x := by
  rw [List.lookup_cons, beq_self_eq_true]
theorem fl2 (c k d e : Addr) : List.lookup ("_capacities" : Str) (rowFs c k d e) = some (V.ref k) := by
  unfold rowFs
  rw [lkNe (by decide), lkEq]
theorem fl3 (c k d e : Addr) : List.lookup ("_count_at" : Str) (rowFs c k d e) = some (V.ref d) := by
  unfold rowFs
  rw [lkNe (by decide), lkNe (by decide), lkEq]
theorem fl4 (c k d e : Addr) : List.lookup ("_capacity_at" : Str) (rowFs c k d e) = some (V.ref e) := by
  unfold rowFs
  rw [lkNe (by decide), lkNe (by decide), lkNe (by decide), lkEq]
theorem pure_contents {K : PySem.W.Frag} {C : Addr} (R : RowC K C) (vs : List V) (H : Hp) (Q : VK) (E : XK) (h : spContents K C vs H Q E) : t_Row_contents K { nx := fun _ H' => Q .non H', rt := Q } (start ["self"] vs) H := by
  obtain ⟨x, ps, ks, rfl, ⟨dx, c, k, d, e, ps0, ks0, h1, h2, h3, h4⟩, q⟩ := h
  exact ⟨_, rfl, x, C, dx, _, _, rfl, h1, R.cls, R.n1, fl1 c k d e, q c h2⟩
theorem pure_capacities {K : PySem.W.Frag} {C : Addr} (R : RowC K C) (vs : List V) (H : Hp) (Q : VK) (E : XK) (h : spCapacities K C vs H Q E) : t_Row_capacities K { nx := fun _ H' => Q .non H', rt := Q } (start ["self"] vs) H := by
  obtain ⟨x, ps, ks, rfl, ⟨dx, c, k, d, e, ps0, ks0, h1, h2, h3, h4⟩, q⟩ := h
  exact ⟨_, rfl, x, C, dx, _, _, rfl, h1, R.cls, R.n2, fl2 c k d e, q k h3⟩
theorem pure_held {K : PySem.W.Frag} {C : Addr} (R : RowC K C) (vs : List V) (H : Hp) (Q : VK) (E : XK) (h : spHeld K C vs H Q E) : t_Row_held K { nx := fun _ H' => Q .non H', rt := Q } (start ["self", "index"] vs) H := by
  obtain ⟨x, i, ps, ks, rfl, ⟨dx, c, k, d, e, ps0, ks0, h1, h2, h3, h4, h5, h6, h7⟩, nd, q⟩ := h
  have gv : (valV (kvsOf ps0) (.inl i)).getD (.int 0) = .int (cnt ps i) := by
    rw [val_pairs, ← lookup_perm h6 nd]
    unfold cnt
    cases ps.lookup i <;> rfl
  refine ⟨_, rfl, .int i, _, rfl, .int i, _, rfl, iteF ?_⟩
  exact ⟨_, rfl, x, C, dx, _, _, rfl, h1, R.cls, R.n3, fl3 c k d e, d, rfl, .inl ⟨_, .inl h4⟩, _, rfl, _, DGet.k (k := .inl i) h4, (by rw [gv]; exact q)⟩
theorem pure_capacity_of {K : PySem.W.Frag} {C : Addr} (R : RowC K C) (vs : List V) (H : Hp) (Q : VK) (E : XK) (h : spCapacityOf K C vs H Q E) : t_Row_capacity K { nx := fun _ H' => Q .non H', rt := Q } (start ["self", "index"] vs) H := by
  obtain ⟨x, i, ps, ks, rfl, ⟨dx, c, k, d, e, ps0, ks0, h1, h2, h3, h4, h5, h6, h7⟩, nd, q⟩ := h
  have gv : (valV (kvsOf ks0) (.inl i)).getD (.int 1) = .int (cap ks i) := by
    rw [val_pairs, ← lookup_perm h7 nd]
    unfold cap
    cases ks.lookup i <;> rfl
  refine ⟨_, rfl, .int i, _, rfl, .int i, _, rfl, iteF ?_⟩
  exact ⟨_, rfl, x, C, dx, _, _, rfl, h1, R.cls, R.n4, fl4 c k d e, e, rfl, .inl ⟨_, .inl h5⟩, _, rfl, _, DGet.k (k := .inl i) h5, (by rw [gv]; exact q)⟩
end SR

set_option Elab.async false
set_option linter.all false
set_option maxRecDepth 100000
set_option maxHeartbeats 4000000
/-! SRL: a dict sorted; sizes and boxes of the laws. -/
namespace SR
open PySem PySem.Spec PyProof.Rows L2
def qSortedD : List V → Hp → VK → Prop := fun xs H Q => ∃ (a : Addr) (kvs : List (Key × V)) (ks : List Int), xs = [.ref a] ∧ Rd H a (.dK kvs) ∧ kvs.map (·.1) = ks.map Sum.inl ∧ ks.length < 64 ∧ ∀ (ys : List Int) (p : Addr), ys.Perm ks → ys.Pairwise (· ≤ ·) → H p = none → Q (.ref p) (upd H p (.lst (ys.map V.int)))
def qDictL (K : PySem.W.Frag) : List V → Hp → VK → Prop := fun xs H Q => ∃ (a : Addr) (ps : List Addr) (kvs : List (Key × V)), xs = [.ref a] ∧ SqL K H a (ps.map V.ref) ∧ Paired (fun p kv => SqT K H p [kV kv.1, kv.2]) ps kvs ∧ ∀ p, H p = none → Q (.ref p) (upd H p (.dK (mergeK [] kvs)))
theorem paired_snoc {α β : Type} {F : α → β → Prop} {x : α} {y : β} (h : F x y) : ∀ {xs : List α} {ys : List β}, Paired F xs ys → Paired F (xs ++ [x]) (ys ++ [y])
  | _, _, .nil => .cons h .nil
  | _, _, .cons z t => .cons z (paired_snoc h t)
theorem with_lookup {fs : List (Int × Int)} (nd : (fs.map Prod.fst).Nodup) : (fs.map Prod.fst).map (fun y => (y, (fs.lookup y).getD 0)) = fs := by
  rw [List.map_map]
  have : ∀ p ∈ fs, ((fun y => (y, (fs.lookup y).getD 0)) ∘ Prod.fst) p = p := fun p m => by
    show (p.1, (fs.lookup p.1).getD 0) = p
    rw [(lookup_some (n := p.2) nd).mpr m]
    rfl
  rw [List.map_congr_left this, List.map_id']
def t_sorted (K : PySem.W.Frag) (f p : Nat) : TE := tCB (qDictL K) (tCons (tLc (iList K (tCB qSortedD (tCons (tVar f) (tNil)))) (gName p) (tYes) (tTup (tCons (tVar p) (tCons (tDGet (tVar f) (tVar p)) (tNil)))) [p]) (tNil))
theorem sorted_dict {K : PySem.W.Frag} {f p : Nat} {F : Addr} {fs : List (Int × Int)} {σ : L2.St} {H : Hp} {Q : VK} (hF : H F = some (.dK (kvsOf fs))) (nd : (fs.map Prod.fst).Nodup) (hl : fs.length < 64)
    (h1 : σ[f]? = some (some (.ref F))) (h2 : ∀ y, ((wipe σ [p]).set p (some y))[f]? = some (some (.ref F))) (h3 : ∀ y, ((wipe σ [p]).set p (some y))[p]? = some (some y)) (h4 : ∀ y, wipe ((wipe σ [p]).set p (some y)) [p] = wipe σ [p])
    (q : ∀ r H' ps, H r = none → Same H H' → H' r = some (.dK (kvsOf ps)) → ps.Perm fs → Asc ps → Q (.ref r) H') : t_sorted K f p σ H Q := by
  have keys : (kvsOf fs).map (·.1) = (fs.map Prod.fst).map Sum.inl := by
    unfold kvsOf
    rw [List.map_map, List.map_map]
    rfl
  refine ⟨_, h1, F, _, _, rfl, .inl hF, keys, (by rw [List.length_map]; exact hl), fun ys l perm pw hlf => ?_⟩
  have s1 := same_new (o := .lst (ys.map V.int)) hlf
  have L1 : upd H l (.lst (ys.map V.int)) l = some (.lst (ys.map V.int)) := upd_same
  generalize upd H l (.lst (ys.map V.int)) = H1 at s1 L1 ⊢
  refine ⟨l, rfl, ⟨_, SqL.of L1⟩, fun D hD => ?_⟩
  have yl : ys.length = fs.length := by rw [perm.length_eq, List.length_map]
  have val : ∀ y ∈ ys, fs.lookup y = some ((fs.lookup y).getD 0) := fun y m => by
    have hm := perm.mem_iff.mp m
    cases e : fs.lookup y with
    | none => exact absurd hm (lookup_none.mp e)
    | some n => rfl
  have ndy : ys.Nodup := perm.nodup_iff.mpr nd
  have pps : (ys.map fun y => (y, (fs.lookup y).getD 0)).Perm fs := by
    have z := perm.map (fun y => (y, (fs.lookup y).getD 0))
    rw [with_lookup nd] at z
    exact z
  have asc : Asc (ys.map fun y => (y, (fs.lookup y).getD 0)) := by
    unfold Asc
    rw [List.pairwise_map]
    refine (List.Pairwise.and pw ndy).imp fun {x y} z => ?_
    have := z.1
    have := z.2
    omega
  refine lc_it (walk_list (K := K) (a := l) (xs := ys.map V.int)) (fun i H2 => Same H1 H2 ∧ ∃ ts, H2 D = some (.lst (ts.map V.ref)) ∧ ts.length = i ∧ Paired (TupAt H2) ts ((ys.map fun y => (y, (fs.lookup y).getD 0)).take i)) ⟨same_new hD, [], upd_same, rfl, .nil⟩ ?_ ?_ ?_
  · rintro i H2 _ ⟨s2, _⟩
    exact SqL.of (s2 _ _ L1)
  · rintro i x H2 H3 hi ⟨s2, ts, d2, tl, pr⟩ ⟨rfl, hx⟩
    rw [List.getElem?_map] at hx
    obtain ⟨y, hy, rfl⟩ := Option.map_eq_some_iff.mp hx
    have hv := val y (List.mem_of_getElem? hy)
    have hF3 := s2 _ _ (s1 _ _ hF)
    have gv : valV (kvsOf fs) (.inl y) = some (.int ((fs.lookup y).getD 0)) := by
      rw [val_pairs, hv]
      rfl
    refine ⟨h4 _, _, h3 _, _, h2 _, _, h3 _, F, _, rfl, (by rw [← gv]; exact DGet.k (k := .inl y) hF3), sz (by show 2 ≤ 1000; decide), fun t ht => ?_⟩
    have s3 := same_new (o := .tup [.int y, .int ((fs.lookup y).getD 0)]) ht
    have T3 : TupAt (upd H3 t (.tup [.int y, .int ((fs.lookup y).getD 0)])) t (y, (fs.lookup y).getD 0) := upd_same
    generalize upd H3 t (.tup [.int y, .int ((fs.lookup y).getD 0)]) = H4 at s3 T3 ⊢
    have d3 := s3 _ _ d2
    have li : i < ys.length := by
      rw [List.length_map] at hi
      exact hi
    have pr3 : Paired (TupAt (upd H4 D (.lst (ts.map V.ref ++ [.ref t])))) (ts ++ [t]) ((ys.map fun y => (y, (fs.lookup y).getD 0)).take (i + 1)) := by
      have tk : (ys.map fun y => (y, (fs.lookup y).getD 0)).take (i + 1) = (ys.map fun y => (y, (fs.lookup y).getD 0)).take i ++ [(y, (fs.lookup y).getD 0)] := by
        rw [List.take_succ, List.getElem?_map, hy]
        rfl
      rw [tk]
      have keep : ∀ {b : Addr} {p : Int × Int}, TupAt H4 b p → TupAt (upd H4 D (.lst (ts.map V.ref ++ [.ref t]))) b p := fun {b p} z => (upd_ne (ne_of z d3 (by intro e; cases e))).trans z
      exact paired_snoc (keep T3) (paired_imp (fun _ _ z => keep (s3 _ _ z)) pr)
    refine ⟨_, d3, ?_, same_upd (s2.trans s3) hD, ts ++ [t], ?_, ?_, pr3⟩
    · rw [List.length_map, tl]
      exact Nat.lt_of_lt_of_le (Nat.lt_of_lt_of_le li (by omega : ys.length ≤ 64)) (by decide)
    · rw [upd_same, List.map_append]
      rfl
    · rw [List.length_append, tl]
      rfl
  · rintro H2 ⟨s2, ts, d2, tl, pr⟩
    have all : (ys.map fun y => (y, (fs.lookup y).getD 0)).take (ys.map V.int).length = ys.map fun y => (y, (fs.lookup y).getD 0) := by
      rw [List.length_map]
      exact List.take_of_length_le (by rw [List.length_map]; exact Nat.le_refl _)
    rw [all] at pr
    refine ⟨D, ts, _, rfl, SqL.of d2, paired_kvs pr, fun r hr => ?_⟩
    have ndp : ((ys.map fun y => (y, (fs.lookup y).getD 0)).map Prod.fst).Nodup := (pps.map Prod.fst).nodup_iff.mpr nd
    rw [merge_pairs ndp]
    have s12 := s1.trans s2
    exact q r _ _ (Same.free s12 hr) (s12.trans (same_new hr)) upd_same pps asc
end SR

set_option Elab.async false
set_option linter.all false
set_option maxRecDepth 100000
set_option maxHeartbeats 4000000
/-! SRM: drawn sizes. -/
namespace SR
open PySem PySem.Spec PyProof.Rows L2
def putI (fs : List (Int × Int)) (i n : Int) : List (Int × Int) := if i ∈ fs.map Prod.fst then fs.map (fun p => if p.1 = i then (p.1, n) else p) else fs ++ [(i, n)]
theorem any_pairs {i : Int} : ∀ fs : List (Int × Int), ((kvsOf fs).any fun kv => decide (kv.1 = (.inl i : Key))) = decide (i ∈ fs.map Prod.fst)
  | [] => rfl
  | (j, m) :: fs => by
    show (decide ((.inl j : Key) = .inl i) || (kvsOf fs).any _) = _
    rw [any_pairs fs, List.map_cons]
    by_cases e : j = i
    · subst e
      rw [decide_eq_true rfl, Bool.true_or, decide_eq_true List.mem_cons_self]
    · rw [decide_eq_false (fun z => e (Sum.inl.inj z)), Bool.false_or]
      refine decide_eq_decide.mpr ⟨fun z => List.mem_cons_of_mem _ z, fun z => ?_⟩
      rcases List.mem_cons.mp z with z | z
      · exact absurd z.symm e
      · exact z
theorem putK_pairs (fs : List (Int × Int)) (i n : Int) : putK (kvsOf fs) (.inl i) (.int n) = kvsOf (putI fs i n) := by
  unfold putK putI
  rw [any_pairs]
  by_cases h : i ∈ fs.map Prod.fst
  · rw [if_pos (decide_eq_true h), if_pos h]
    unfold kvsOf
    rw [List.map_map, List.map_map]
    refine List.map_congr_left fun p _ => ?_
    show (if (.inl p.1 : Key) = .inl i then _ else _) = _
    by_cases e : p.1 = i
    · rw [if_pos (congrArg Sum.inl e)]
      show _ = (Sum.inl (if p.1 = i then (p.1, n) else p).1, V.int (if p.1 = i then (p.1, n) else p).2)
      rw [if_pos e]
    · rw [if_neg (fun z => e (Sum.inl.inj z))]
      show _ = (Sum.inl (if p.1 = i then (p.1, n) else p).1, V.int (if p.1 = i then (p.1, n) else p).2)
      rw [if_neg e]
  · rw [if_neg (fun z => h (of_decide_eq_true z)), if_neg h]
    unfold kvsOf
    rw [List.map_append]
    rfl
theorem putI_all {P : Int × Int → Prop} {fs : List (Int × Int)} {i n : Int} (h : ∀ p ∈ fs, P p) (hn : P (i, n)) : ∀ p ∈ putI fs i n, P p := by
  unfold putI
  intro p m
  split at m
  · obtain ⟨q, hq, rfl⟩ := List.mem_map.mp m
    split
    · rename_i e
      rw [e]
      exact hn
    · exact h q hq
  · rcases List.mem_append.mp m with m | m
    · exact h p m
    · rw [List.mem_singleton.mp m]
      exact hn
theorem putI_fst {fs : List (Int × Int)} {i n : Int} : (putI fs i n).map Prod.fst = if i ∈ fs.map Prod.fst then fs.map Prod.fst else fs.map Prod.fst ++ [i] := by
  unfold putI
  split
  · rw [List.map_map]
    refine List.map_congr_left fun p _ => ?_
    show (if p.1 = i then (p.1, n) else p).1 = p.1
    split <;> rfl
  · rw [List.map_append]
    rfl
theorem putI_nd {fs : List (Int × Int)} {i n : Int} (h : (fs.map Prod.fst).Nodup) : ((putI fs i n).map Prod.fst).Nodup := by
  rw [putI_fst]
  split
  · exact h
  · rename_i z
    refine List.nodup_append.mpr ⟨h, List.pairwise_singleton _ _, fun a ha b hb e => ?_⟩
    rw [List.mem_singleton.mp hb] at e
    exact z (e ▸ ha)
theorem putI_len {fs : List (Int × Int)} {i n : Int} : (putI fs i n).length ≤ fs.length + 1 := by
  unfold putI
  split
  · rw [List.length_map]
    exact Nat.le_succ _
  · rw [List.length_append]
    exact Nat.le_refl _
theorem dput_pairs {H : Hp} {F : Addr} {fs : List (Int × Int)} {i n : Int} (h : H F = some (.dK (kvsOf fs))) (hl : fs.length < 1000) : DPut H F (.int i) (.int n) (upd H F (.dK (kvsOf (putI fs i n)))) := by
  refine .inl ⟨kvsOf fs, .inl i, h, rfl, ?_, by rw [putK_pairs]⟩
  unfold kvsOf
  rw [List.length_map]
  exact Nat.lt_trans hl (by decide)
/-- drawn sizes -/
def spSizes (K : PySem.W.Frag) : Sp := fun vs H Q _ => ∃ (d g c : Addr) (b : Nat) (n : Int), vs = [.ref d, .int n] ∧ StB H d g c (b + 25) ∧ 0 ≤ n ∧ n ≤ 6 ∧
  ∀ r H' ks, StB H' d g c b → Kp d g H H' → r ≠ d → r ≠ g → r ≠ c → H r = none → H' r = some (.dK (kvsOf ks)) → Asc ks → (∀ p ∈ ks, sizeOk p) → ks.length ≤ 6 → Q (.ref r) H'
def t_szTurn (K : PySem.W.Frag) : TS := sDPut (tVar 2) (tCall (spPick K) [] E0 (tCons (tVar 0) (tCons (tLst (tCons (tOp qSub (tCall spTake [] E0 (tCons (tVar 0) (tCons (tC (.int 12)) (tNil)))) (tC (.int 3))) (tCons (tOp qSub (tCall spTake [] E0 (tCons (tVar 0) (tCons (tC (.int 12)) (tNil)))) (tC (.int 3))) (tCons (tC (.int 60)) (tCons (tUn (rU fun i => .int (-i)) (tC (.int 60))) (tNil)))))) (tNil)))) (tOp qAdd (tC (.int 2)) (tCall spTake [] E0 (tCons (tVar 0) (tCons (tC (.int 8)) (tNil)))))
def t_sizes (K : PySem.W.Frag) : TS := tSeq (tAsg (tDNewK) (gName 2))
  (tSeq (tFor (iRng1 (tCons (tCall spTake [] E0 (tCons (tVar 0) (tCons (tOp qAdd (tVar 1) (tC (.int 1))) (tNil)))) (tNil))) (gName 3)
  (t_szTurn K))
  (tRet (t_sorted K 2 4)))
theorem sz_turn {K : PySem.W.Frag} {H : Hp} {d g c F : Addr} {b : Nat} {fs : List (Int × Int)} {w1 w3 w4 : Option V} {N N2 N3 : L2.St → Hp → Prop} {R : VK} (S : StB H d g c (b + 4)) (hF : H F = some (.dK (kvsOf fs))) (f1 : F ≠ d) (f2 : F ≠ g) (f3 : F ≠ c) (hl : fs.length < 100)
    (hN : ∀ H' i n, StB H' d g c b → (∀ x o, x ≠ F → x ≠ d → x ≠ g → H x = some o → H' x = some o) → H' F = some (.dK (kvsOf (putI fs i n))) → sizeOk (i, n) → N [some (.ref d), w1, some (.ref F), w3, w4] H') :
    t_szTurn K { nx := N, rt := R, bk := N2, ct := N3 } [some (.ref d), w1, some (.ref F), w3, w4] H := by
  refine ⟨_, rfl, d, g, c, b + 3, 8, rfl, S, by decide, by decide, fun n H1 n0 n1 S1 q1 => ⟨_, _, rfl, rfl, ?_⟩⟩
  refine ⟨_, rfl, _, rfl, _, rfl, d, g, c, b + 2, 12, rfl, S1, by decide, by decide, fun i H2 i0 i1 S2 q2 => ⟨_, _, rfl, rfl, ?_⟩⟩
  refine ⟨_, rfl, d, g, c, b + 1, 12, rfl, S2, by decide, by decide, fun j H3 j0 j1 S3 q3 => ⟨_, _, rfl, rfl, 60, rfl, sz (by show 4 ≤ 1000; decide), fun l hl => ?_⟩⟩
  obtain ⟨l1, l2, l3⟩ := S3.off hl
  refine ⟨d, g, c, b, l, _, rfl, S3.new hl, SqL.of upd_same, l1, l2, by show 0 < 4; decide, by show 4 < 1000; decide, fun v H4 hv S4 q4 => ?_⟩
  obtain ⟨k, rfl, k1, k2⟩ : ∃ k : Int, v = .int k ∧ -60 ≤ k ∧ k ≤ 60 := by
    simp only [List.mem_cons, List.not_mem_nil, or_false] at hv
    rcases hv with rfl | rfl | rfl | rfl
    · exact ⟨_, rfl, by omega, by omega⟩
    · exact ⟨_, rfl, by omega, by omega⟩
    · exact ⟨_, rfl, by decide, by decide⟩
    · exact ⟨_, rfl, by decide, by decide⟩
  clear hv
  have k4 : Kp d g H H4 := q1.trans (q2.trans (q3.trans ((Kp.new hl).trans q4)))
  have F4 := k4 _ _ f1 f2 hF
  refine ⟨F, _, rfl, dput_pairs F4 (by omega), ?_⟩
  refine hN _ k (2 + n) (S4.upd f1 f2 f3) (fun x o e0 e1 e2 hx => (upd_ne e0).trans (k4 _ _ e1 e2 hx)) upd_same ⟨⟨k1, k2⟩, by show 2 ≤ 2 + n; omega, by show 2 + n ≤ 9; omega⟩
theorem pure_sizes {K : PySem.W.Frag} (vs : List V) (H : Hp) (Q : VK) (E : XK) (h : spSizes K vs H Q E) : t_sizes K { nx := fun _ H' => Q .non H', rt := Q } (start ["state", "most", "found", "turn", "place"] vs) H := by
  obtain ⟨d, g, c, b, n, rfl, S, n0, n1, q⟩ := h
  intro F hF
  obtain ⟨f1, f2, f3⟩ := S.off hF
  have S1 := S.new (o := .dK []) hF
  have D1 : upd H F (.dK []) F = some (.dK (kvsOf [])) := upd_same
  have K1 : ∀ x o, x ≠ F → x ≠ d → x ≠ g → H x = some o → upd H F (.dK []) x = some o := fun x o e _ _ hx => (upd_ne e).trans hx
  generalize upd H F (.dK []) = H1 at S1 D1 K1 ⊢
  refine ⟨_, rfl, _, rfl, _, _, rfl, rfl, d, g, c, b + 24, n + 1, rfl, S1, by omega, by omega, fun t H2 t0 t1 S2 q2 => ⟨t, rfl, by omega, by omega, ?_⟩⟩
  refine for_range (lo := 0) (n := t.toNat) (fun i σ H3 => StB H3 d g c (b + 24 - 4 * i) ∧ (∃ fs, H3 F = some (.dK (kvsOf fs)) ∧ (fs.map Prod.fst).Nodup ∧ (∀ p ∈ fs, sizeOk p) ∧ fs.length ≤ i) ∧ (∀ x o, x ≠ F → x ≠ d → x ≠ g → H x = some o → H3 x = some o) ∧ ∃ w3 w4, σ = [some (.ref d), some (.int n), some (.ref F), w3, w4])
    ⟨S2, ⟨[], q2 _ _ f1 f2 D1, List.nodup_nil, (fun p m => nomatch m), Nat.le_refl _⟩, fun x o e0 e1 e2 hx => q2 _ _ e1 e2 (K1 x o e0 e1 e2 hx), _, _, rfl⟩ ?_ ?_
  · rintro i σ H3 hi ⟨S3, ⟨fs, D3, nd, ok, len⟩, K3, w3, w4, rfl⟩
    have hb : b + 24 - 4 * i = (b + 24 - 4 * (i + 1)) + 4 := by omega
    rw [hb] at S3
    show t_szTurn K _ [some (.ref d), some (.int n), some (.ref F), some (.int (0 + i)), w4] H3
    refine sz_turn S3 D3 f1 f2 f3 (by omega) fun H4 k m S4 K4 D4 ok4 => ⟨S4, ⟨_, D4, putI_nd nd, putI_all ok ok4, ?_⟩, fun x o e0 e1 e2 hx => K4 x o e0 e1 e2 (K3 x o e0 e1 e2 hx), _, _, rfl⟩
    have := putI_len (fs := fs) (i := k) (n := m)
    omega
  · rintro σ H3 ⟨S3, ⟨fs, D3, nd, ok, len⟩, K3, w3, w4, rfl⟩
    have lt : fs.length ≤ 6 := by omega
    refine sorted_dict D3 nd (by omega) rfl (fun y => rfl) (fun y => rfl) (fun y => rfl) fun r H4 ks hr s4 d4 pm asc => ?_
    have S4 := (StB.same s4 S3).mono (b' := b) (by omega)
    obtain ⟨r1, r2, r3⟩ := S3.off hr
    have hk : ∀ x o, x ≠ d → x ≠ g → H x = some o → H4 x = some o := fun x o e1 e2 hx => s4 _ _ (K3 x o (fun e => by rw [e, hF] at hx; cases hx) e1 e2 hx)
    have hr0 : H r = none := by
      cases e : H r with
      | none => rfl
      | some o =>
        have := K3 r o (fun z => by rw [z, hF] at e; cases e) r1 r2 e
        rw [hr] at this
        cases this
    exact q r H4 ks S4 hk r1 r2 r3 hr0 d4 asc (fun p m => ok p (pm.mem_iff.mp m)) (by rw [pm.length_eq]; exact lt)
end SR

set_option Elab.async false
set_option linter.all false
set_option maxRecDepth 100000
set_option maxHeartbeats 4000000
/-! SRN: drawn boxes. -/
namespace SR
open PySem PySem.Spec PyProof.Rows L2
theorem cap_ok {ks : List (Int × Int)} (h : ∀ p ∈ ks, sizeOk p) (i : Int) : 1 ≤ cap ks i ∧ cap ks i ≤ 9 := by
  unfold cap
  cases e : ks.lookup i with
  | none => exact ⟨Int.le_refl _, by decide⟩
  | some n =>
    have m : ∃ p ∈ ks, p.2 = n := by
      clear h
      induction ks with
      | nil => cases e
      | cons p ks ih =>
        rw [List.lookup_cons] at e
        split at e
        · exact ⟨p, List.mem_cons_self, Option.some.inj e⟩
        · obtain ⟨q, hq, z⟩ := ih e
          exact ⟨q, List.mem_cons_of_mem _ hq, z⟩
    obtain ⟨p, hp, rfl⟩ := m
    have := h p hp
    exact ⟨Int.le_trans (by decide) this.2.1, this.2.2⟩
/-- what has been put into boxes: fs of n items, spare left -/
structure Bx (n : Int) (ks fs : List (Int × Int)) (spare : Int) : Prop where
  nd : (fs.map Prod.fst).Nodup
  po : ∀ p ∈ fs, 1 ≤ p.2 ∧ p.2 ≤ cap ks p.1
  sm : (fs.map Prod.snd).sum + spare = n
  sp : 0 ≤ spare
  bd : ∀ p ∈ fs, -(10 ^ 30) ≤ p.1 ∧ p.1 ≤ 10 ^ 30
theorem Bx.len {n spare : Int} {ks fs : List (Int × Int)} (h : Bx n ks fs spare) : (fs.length : Int) ≤ n - spare := by
  have h1 := len_sum fun p m => (h.po p m).1
  have h2 := h.sm
  omega
theorem putI_new {fs : List (Int × Int)} {i m : Int} (h : i ∉ fs.map Prod.fst) : putI fs i m = fs ++ [(i, m)] := if_neg h
theorem Bx.put {n spare i m : Int} {ks fs : List (Int × Int)} (h : Bx n ks fs spare) (new : i ∉ fs.map Prod.fst) (m1 : 1 ≤ m) (m2 : m ≤ spare) (m3 : m ≤ cap ks i) (bd : -(10 ^ 30) ≤ i ∧ i ≤ 10 ^ 30) : Bx n ks (putI fs i m) (spare - m) := by
  refine ⟨putI_nd h.nd, putI_all h.po ⟨m1, m3⟩, ?_, by omega, putI_all h.bd bd⟩
  have := h.sm
  rw [putI_new new, List.map_append, List.sum_append]
  show (fs.map Prod.snd).sum + (m + 0) + (spare - m) = n
  omega
def t_bxIn (K : PySem.W.Frag) : TS := (tSeq (tAsg (tCB qMin2 (tCons (tVar 5) (tCons (tOp qAdd (tC (.int 1)) (tCall spTake [] E0 (tCons (tVar 0) (tCons (tDGet2 (tVar 1) (tVar 3) (tC (.int 1))) (tNil))))) (tNil)))) (gName 8))
  (tSeq (tIfS (tTest (tOp qGt (tVar 8) (tC (.int 0))))
  (sDPut (tVar 4) (tVar 3) (tVar 8))
  (tNext))
  (tPar 5 3 (tCons (tOp qSub (tVar 5) (tVar 8)) (tCons (tOp qAdd (tVar 3) (tC (.int 1))) (tNil))))))
/-- what stays beside the boxes' dict F and the dict a -/
def KF (F a d g : Addr) (H H' : Hp) : Prop := ∀ x o, x ≠ F → x ≠ a → x ≠ d → x ≠ g → H x = some o → H' x = some o
theorem KF.trans {F a d g : Addr} {H H1 H2 : Hp} (x : KF F a d g H H1) (y : KF F a d g H1 H2) : KF F a d g H H2 := fun z o h1 h2 h3 h4 h => y z o h1 h2 h3 h4 (x z o h1 h2 h3 h4 h)
theorem Kp.kf {F a d g : Addr} {H H' : Hp} (k : Kp d g H H') : KF F a d g H H' := fun x o _ _ h1 h2 h => k x o h1 h2 h
theorem kf_upd {F a d g : Addr} {H : Hp} {o : HO} : KF F a d g H (upd H F o) := fun x _ h1 _ _ _ h => (upd_ne h1).trans h
theorem kf_updA {F a d g : Addr} {H : Hp} {o : HO} : KF F a d g H (upd H a o) := fun x _ _ h2 _ _ h => (upd_ne h2).trans h
theorem bx_in {K : PySem.W.Frag} {H : Hp} {d g c F a : Addr} {b : Nat} {n place spare : Int} {fs ks : List (Int × Int)} {w6 w7 w8 : Option V} {N N2 N3 : L2.St → Hp → Prop} {R : VK} (S : StB H d g c (b + 1)) (hF : H F = some (.dK (kvsOf fs))) (hA : H a = some (.dK (kvsOf ks)))
    (f1 : F ≠ d) (f2 : F ≠ g) (f3 : F ≠ c) (fa : F ≠ a) (a1 : a ≠ d) (a2 : a ≠ g) (hk : ∀ p ∈ ks, sizeOk p) (B : Bx n ks fs spare) (n40 : n ≤ 40) (lt : ∀ p ∈ fs, p.1 < place) (bd : -(10 ^ 30) ≤ place ∧ place ≤ 10 ^ 30)
    (hN : ∀ H' gs sp w, StB H' d g c b → KF F a d g H H' → H' F = some (.dK (kvsOf gs)) → H' a = some (.dK (kvsOf ks)) → Bx n ks gs sp → (∀ p ∈ gs, p.1 < place + 1) → N [some (.ref d), some (.ref a), some (.int n), some (.int (place + 1)), some (.ref F), some (.int sp), w6, w7, w] H') :
    t_bxIn K { nx := N, rt := R, bk := N2, ct := N3 } [some (.ref d), some (.ref a), some (.int n), some (.int place), some (.ref F), some (.int spare), w6, w7, w8] H := by
  obtain ⟨c1, c2⟩ := cap_ok hk place
  have gv : (valV (kvsOf ks) (.inl place)).getD (.int 1) = .int (cap ks place) := by
    rw [val_pairs]
    unfold cap
    cases ks.lookup place <;> rfl
  refine ⟨_, rfl, _, rfl, _, rfl, a, rfl, .inl ⟨_, .inl hA⟩, _, rfl, _, DGet.k (k := .inl place) hA, d, g, c, b, cap ks place, ?_, S, by omega, by omega, fun t H1 t0 t1 S1 q1 => ⟨_, _, rfl, rfl, _, _, rfl, ?_⟩⟩
  · rw [gv]
    rfl
  generalize hm : (if 1 + t < spare then 1 + t else spare) = m
  have m1 : m ≤ spare := by split at hm <;> omega
  have m2 : m ≤ cap ks place := by split at hm <;> omega
  have m0 : 0 ≤ m := by have := B.sp; split at hm <;> omega
  clear hm
  have F1 := q1 _ _ f1 f2 hF
  have A1 := q1 _ _ a1 a2 hA
  have new : place ∉ fs.map Prod.fst := fun z => by
    obtain ⟨p, hp, e⟩ := List.mem_map.mp z
    have := lt p hp
    omega
  refine ⟨_, rfl, _, _, rfl, rfl, _, rfl, ?_⟩
  by_cases pos : 0 < m
  · rw [decide_eq_true pos]
    have len := B.len
    have sp0 := B.sp
    refine iteT ⟨_, rfl, _, rfl, _, rfl, F, _, rfl, dput_pairs F1 (by omega), ?_⟩
    refine ⟨_, rfl, _, rfl, _, _, rfl, rfl, _, rfl, _, _, rfl, rfl, _, _, rfl, ?_⟩
    refine hN _ (putI fs place m) (spare - m) _ (S1.upd f1 f2 f3) (q1.kf.trans kf_upd) upd_same ((upd_ne (fun e => fa e.symm)).trans A1) (B.put new pos m1 m2 bd) (putI_all (fun p hp => ?_) ?_)
    · have := lt p hp
      omega
    · show place < place + 1
      omega
  · rw [decide_eq_false pos]
    have e0 : m = 0 := by omega
    subst e0
    refine iteF ⟨_, rfl, _, rfl, _, _, rfl, rfl, _, rfl, _, _, rfl, rfl, _, _, rfl, ?_⟩
    refine hN _ fs (spare - 0) _ S1 q1.kf F1 A1 (by rw [Int.sub_zero]; exact B) fun p hp => ?_
    have := lt p hp
    omega
end SR

set_option Elab.async false
set_option linter.all false
set_option maxRecDepth 100000
set_option maxHeartbeats 4000000
/-! SRO: drawn boxes, the loops. -/
namespace SR
open PySem PySem.Spec PyProof.Rows L2
theorem e30 : (10 : Int) ^ 30 = 1000000000000000000000000000000 := by decide
theorem e29 : (10 : Int) ^ 29 = 100000000000000000000000000000 := by decide
theorem e28 : (10 : Int) ^ 28 = 10000000000000000000000000000 := by decide
def t_bxOut (K : PySem.W.Frag) : TS := (tSeq (tFor (iRng1 (tCons (tOp qAdd (tC (.int 1)) (tCall spTake [] E0 (tCons (tVar 0) (tCons (tC (.int 4)) (tNil))))) (tNil))) (gName 7) (t_bxIn K))
  (tAsg (tOp qAdd (tVar 3) (tCall (spPick K) [] E0 (tCons (tVar 0) (tCons (tLst (tCons (tC (.int 1)) (tCons (tC (.int 1)) (tCons (tC (.int 1)) (tCons (tC (.int 2)) (tCons (tC (.int 3)) (tCons (tC (.int 8)) (tCons (tOp qPow (tC (.int 10)) (tC (.int 28))) (tNil))))))))) (tNil))))) (gName 3)))
theorem bx_out {K : PySem.W.Frag} {H : Hp} {d g c F a : Addr} {b : Nat} {n place spare i : Int} {fs ks : List (Int × Int)} {w6 w7 w8 : Option V} {N N2 N3 : L2.St → Hp → Prop} {R : VK} (S : StB H d g c (b + 6)) (hF : H F = some (.dK (kvsOf fs))) (hA : H a = some (.dK (kvsOf ks)))
    (f1 : F ≠ d) (f2 : F ≠ g) (f3 : F ≠ c) (fa : F ≠ a) (a1 : a ≠ d) (a2 : a ≠ g) (hk : ∀ p ∈ ks, sizeOk p) (B : Bx n ks fs spare) (n40 : n ≤ 40) (lt : ∀ p ∈ fs, p.1 < place) (i0 : 0 ≤ i) (i5 : i ≤ 5) (bd : -(10 ^ 29) ≤ place ∧ place ≤ 10 ^ 29 + i * 20000000000000000000000000000)
    (hN : ∀ H' gs sp pl u7 u8, StB H' d g c b → KF F a d g H H' → H' F = some (.dK (kvsOf gs)) → H' a = some (.dK (kvsOf ks)) → Bx n ks gs sp → (∀ p ∈ gs, p.1 < pl) → (-(10 ^ 29) ≤ pl ∧ pl ≤ 10 ^ 29 + (i + 1) * 20000000000000000000000000000) → N [some (.ref d), some (.ref a), some (.int n), some (.int pl), some (.ref F), some (.int sp), w6, u7, u8] H') :
    t_bxOut K { nx := N, rt := R, bk := N2, ct := N3 } [some (.ref d), some (.ref a), some (.int n), some (.int place), some (.ref F), some (.int spare), w6, w7, w8] H := by
  refine ⟨_, rfl, d, g, c, b + 5, 4, rfl, S, by decide, by decide, fun t H1 t0 t1 S1 q1 => ⟨_, _, rfl, rfl, _, rfl, by omega, by omega, ?_⟩⟩
  have F1 := q1 _ _ f1 f2 hF
  have A1 := q1 _ _ a1 a2 hA
  have hj : (1 + t).toNat ≤ 4 := by omega
  generalize (1 + t).toNat = k at hj
  refine for_range (lo := 0) (n := k) (fun j σ H3 => StB H3 d g c (b + 5 - j) ∧ KF F a d g H H3 ∧ ∃ gs sp u7 u8, H3 F = some (.dK (kvsOf gs)) ∧ H3 a = some (.dK (kvsOf ks)) ∧ Bx n ks gs sp ∧ (∀ p ∈ gs, p.1 < place + (j : Int)) ∧ σ = [some (.ref d), some (.ref a), some (.int n), some (.int (place + (j : Int))), some (.ref F), some (.int sp), w6, u7, u8])
    ⟨S1, q1.kf, fs, spare, w7, w8, F1, A1, B, ?_, ?_⟩ ?_ ?_
  · intro p m
    have := lt p m
    omega
  · show _ = [some (V.ref d), some (V.ref a), some (V.int n), some (V.int (place + ((0 : Nat) : Int))), some (V.ref F), some (V.int spare), w6, w7, w8]
    rw [show place + ((0 : Nat) : Int) = place by omega]
  · rintro j σ H3 hj3 ⟨S3, K3, gs, sp, u7, u8, F3, A3, B3, lt3, rfl⟩
    have hb : b + 5 - j = (b + 5 - (j + 1)) + 1 := by omega
    rw [hb] at S3
    show t_bxIn K _ [some (.ref d), some (.ref a), some (.int n), some (.int (place + (j : Int))), some (.ref F), some (.int sp), w6, some (.int (0 + j)), u8] H3
    refine bx_in S3 F3 A3 f1 f2 f3 fa a1 a2 hk B3 n40 lt3 ?_ fun H4 hs sp4 w4 S4 K4 F4 A4 B4 lt4 => ⟨S4, K3.trans K4, hs, sp4, some (.int (0 + j)), w4, F4, A4, B4, ?_, ?_⟩
    · have := e29
      have := e30
      constructor <;> omega
    · intro p m
      have := lt4 p m
      omega
    · rw [show place + (j : Int) + 1 = place + ((j + 1 : Nat) : Int) by omega]
  · rintro σ H3 ⟨S3, K3, gs, sp, u7, u8, F3, A3, B3, lt3, rfl⟩
    refine ⟨_, rfl, _, rfl, 10, 28, rfl, rfl, ⟨by decide, by decide, by decide⟩, sz (by show 7 ≤ 1000; decide), fun l hl => ?_⟩
    obtain ⟨l1, l2, l3⟩ := S3.off hl
    have hb : StB H3 d g c (b + 1) := S3.mono (by omega)
    refine ⟨d, g, c, b, l, _, rfl, hb.new hl, SqL.of upd_same, l1, l2, by show 0 < 7; decide, by show 7 < 1000; decide, fun v H4 hv S4 q4 => ?_⟩
    have E28 : (10 : Int) ^ (28 : Int).toNat = 10000000000000000000000000000 := e28
    obtain ⟨m, rfl, m1, m2⟩ : ∃ m : Int, v = .int m ∧ 1 ≤ m ∧ m ≤ 10000000000000000000000000000 := by
      simp only [List.mem_cons, List.not_mem_nil, or_false] at hv
      rcases hv with rfl | rfl | rfl | rfl | rfl | rfl | rfl
      · exact ⟨1, rfl, by decide, by decide⟩
      · exact ⟨1, rfl, by decide, by decide⟩
      · exact ⟨1, rfl, by decide, by decide⟩
      · exact ⟨2, rfl, by decide, by decide⟩
      · exact ⟨3, rfl, by decide, by decide⟩
      · exact ⟨8, rfl, by decide, by decide⟩
      · exact ⟨_, rfl, by rw [E28]; decide, by rw [E28]; decide⟩
    clear hv
    have q34 : Kp d g H3 H4 := (Kp.new hl).trans q4
    refine ⟨_, _, rfl, rfl, hN H4 gs sp _ _ _ S4 (K3.trans q34.kf) (q34 _ _ f1 f2 F3) (q34 _ _ a1 a2 A3) B3 (fun p hp => ?_) ?_⟩
    · have := lt3 p hp
      omega
    · have := e29
      constructor <;> omega
def t_bxKey (K : PySem.W.Frag) : TS := (tSeq (tAsg (tCB qMin2 (tCons (tVar 5) (tCons (tCall spTake [] E0 (tCons (tVar 0) (tCons (tOp qAdd (tDGet (tVar 1) (tVar 3)) (tC (.int 1))) (tNil)))) (tNil)))) (gName 8))
  (tIfS (tAnd (tB (tDNotIn (tVar 3) (tVar 4))) (tTest (tOp qGt (tVar 8) (tC (.int 0)))))
  (tAsg (tTup (tCons (tVar 8) (tCons (tOp qSub (tVar 5) (tVar 8)) (tNil)))) (gTup K 2 (gCons (gSub (tVar 4) (tVar 3) rSetD) (gCons (gName 5) (gNil)))))
  (tNext)))
theorem bx_key {K : PySem.W.Frag} {H : Hp} {d g c F a : Addr} {b : Nat} {n place spare cp : Int} {od : Obj} {fs ks : List (Int × Int)} {w6 w7 w8 : Option V} {N N2 N3 : L2.St → Hp → Prop} {R : VK} (S : StB H d g c (b + 1)) (hF : H F = some (.dK (kvsOf fs))) (hA : H a = some (.frz od (.dK (kvsOf ks))))
    (f1 : F ≠ d) (f2 : F ≠ g) (f3 : F ≠ c) (fa : F ≠ a) (a1 : a ≠ d) (a2 : a ≠ g) (hk : ∀ p ∈ ks, sizeOk p) (hkd : (ks.map Prod.fst).Nodup) (hp : (place, cp) ∈ ks) (B : Bx n ks fs spare) (n40 : n ≤ 40)
    (hN : ∀ H' gs sp w, StB H' d g c b → KF F a d g H H' → H' F = some (.dK (kvsOf gs)) → H' a = some (.frz od (.dK (kvsOf ks))) → Bx n ks gs sp → N [some (.ref d), some (.ref a), some (.int n), some (.int place), some (.ref F), some (.int sp), w6, w7, w] H') :
    t_bxKey K { nx := N, rt := R, bk := N2, ct := N3 } [some (.ref d), some (.ref a), some (.int n), some (.int place), some (.ref F), some (.int spare), w6, w7, w8] H := by
  have ok := hk _ hp
  have lk := (lookup_some hkd).mpr hp
  have cpe : cap ks place = cp := by
    unfold cap
    rw [lk]
    rfl
  have gv : valV (kvsOf ks) (.inl place) = some (.int cp) := by
    rw [val_pairs, lk]
    rfl
  have o1 : 2 ≤ cp := ok.2.1
  have o2 : cp ≤ 9 := ok.2.2
  have o3 : -60 ≤ place := ok.1.1
  have o4 : place ≤ 60 := ok.1.2
  refine ⟨_, rfl, _, rfl, _, rfl, _, rfl, a, _, rfl, .inl ⟨_, .inl place, .inr ⟨od, hA⟩, rfl, gv.symm⟩, _, _, rfl, rfl, d, g, c, b, cp + 1, rfl, S, by omega, by omega, fun t H1 t0 t1 S1 q1 => ⟨_, _, rfl, ?_⟩⟩
  generalize hm : (if t < spare then t else spare) = m
  have m1 : m ≤ spare := by split at hm <;> omega
  have m2 : m ≤ cap ks place := by rw [cpe]; split at hm <;> omega
  have m0 : 0 ≤ m := by have := B.sp; split at hm <;> omega
  clear hm
  have F1 := q1 _ _ f1 f2 hF
  have A1 := q1 _ _ a1 a2 hA
  refine ⟨_, rfl, _, rfl, F, _, rfl, DGet.k (k := .inl place) F1, _, rfl, ?_⟩
  rw [val_pairs]
  cases e : fs.lookup place with
  | some z => exact iteF (iteF (hN _ fs spare _ S1 q1.kf F1 A1 B))
  | none =>
    have new := lookup_none.mp e
    refine iteT ⟨_, rfl, _, _, rfl, rfl, _, rfl, ?_⟩
    by_cases pos : 0 < m
    · rw [decide_eq_true pos]
      have len := B.len
      have sp0 := B.sp
      refine iteT ⟨_, rfl, _, rfl, _, rfl, _, _, rfl, rfl, sz (by show 2 ≤ 1000; decide), fun t2 ht2 => ?_⟩
      have s2 := same_new (o := .tup [.int m, .int (spare - m)]) ht2
      have S2 := S1.new (o := .tup [.int m, .int (spare - m)]) ht2
      have T2 : upd H1 t2 (.tup [.int m, .int (spare - m)]) t2 = some (.tup [.int m, .int (spare - m)]) := upd_same
      have K2 : KF F a d g H1 (upd H1 t2 (.tup [.int m, .int (spare - m)])) := fun x o _ _ _ _ h => s2 x o h
      generalize upd H1 t2 (.tup [.int m, .int (spare - m)]) = H2 at s2 S2 T2 K2 ⊢
      refine ⟨t2, _, rfl, SqT.of T2, rfl, _, _, rfl, ⟨_, rfl, _, rfl, F, _, rfl, dput_pairs (s2 _ _ F1) (by omega), _, _, rfl, rfl, ?_⟩⟩
      have bd : -(10 ^ 30) ≤ place ∧ place ≤ 10 ^ 30 := by
        have := e30
        constructor <;> omega
      exact hN _ (putI fs place m) (spare - m) _ (S2.upd f1 f2 f3) ((q1.kf.trans K2).trans kf_upd) upd_same ((upd_ne (fun e => fa e.symm)).trans (s2 _ _ A1)) (B.put new pos m1 m2 bd)
    · rw [decide_eq_false pos]
      exact iteF (hN _ fs spare _ S1 q1.kf F1 A1 B)
end SR

set_option Elab.async false
set_option linter.all false
set_option maxRecDepth 100000
set_option maxHeartbeats 4000000
/-! SRQ2: drawn boxes. -/
namespace SR
open PySem PySem.Spec PyProof.Rows L2
theorem perm_sum {l m : List Int} (h : l.Perm m) : l.sum = m.sum := by
  induction h with
  | nil => rfl
  | cons x _ ih => rw [List.sum_cons, List.sum_cons, ih]
  | swap x y l =>
    rw [List.sum_cons, List.sum_cons, List.sum_cons, List.sum_cons]
    omega
  | trans _ _ h1 h2 => exact h1.trans h2
def spBoxes (K : PySem.W.Frag) : Sp := fun vs H Q _ => ∃ (d g c : Addr) (b : Nat) (a : Addr) (n : Int) (ks : List (Int × Int)), vs = [.ref d, .ref a, .int n] ∧ StB H d g c (b + 40) ∧ a ≠ d ∧ a ≠ g ∧ a ≠ c ∧ H a = some (.dK (kvsOf ks)) ∧ (ks.map Prod.fst).Nodup ∧ (∀ p ∈ ks, sizeOk p) ∧ ks.length ≤ 6 ∧ 0 ≤ n ∧ n ≤ 40 ∧
  ∀ r H' ps, StB H' d g c b → Kp d g H H' → r ≠ d → r ≠ g → r ≠ c → H r = none → H' r = some (.dK (kvsOf ps)) → Asc ps → (∀ p ∈ ps, 1 ≤ p.2 ∧ p.2 ≤ cap ks p.1) → (∀ p ∈ ps, -(10 ^ 30) ≤ p.1 ∧ p.1 ≤ 10 ^ 30) → (ps.map Prod.snd).sum ≤ n → Q (.ref r) H'
def t_boxes (K : PySem.W.Frag) : TS := tSeq (tAsg (tTup (tCons (tCall (spPick K) [] E0 (tCons (tVar 0) (tCons (tLst (tCons (tC (.int 0)) (tCons (tC (.int 0)) (tCons (tUn (rU fun i => .int (-i)) (tC (.int 2))) (tCons (tUn (rU fun i => .int (-i)) (tC (.int 9))) (tCons (tC (.int 30)) (tCons (tOp qPow (tC (.int 10)) (tC (.int 29))) (tCons (tUn (rU fun i => .int (-i)) (tOp qPow (tC (.int 10)) (tC (.int 29)))) (tNil))))))))) (tNil)))) (tCons (tDNewK) (tCons (tVar 2) (tNil))))) (gTup K 3 (gCons (gName 3) (gCons (gName 4) (gCons (gName 5) (gNil))))))
  (tSeq (tFor (iRng1 (tCons (tCall spTake [] E0 (tCons (tVar 0) (tCons (tC (.int 6)) (tNil)))) (tNil))) (gName 6) (t_bxOut K))
  (tSeq (tLock (tFor (iKeys (tVar 1)) (gName 3) (t_bxKey K)))
  (tRet (t_sorted K 4 3))))
theorem pure_boxes {K : PySem.W.Frag} (vs : List V) (H : Hp) (Q : VK) (E : XK) (h : spBoxes K vs H Q E) : t_boxes K { nx := fun _ H' => Q .non H', rt := Q } (start ["state", "sizes", "most", "place", "found", "spare", "turn", "step", "amount"] vs) H := by
  obtain ⟨d, g, c, b, a, n, ks, rfl, S, a1, a2, a3, hA, hkd, hk, hkl, n0, n40, q⟩ := h
  have E29 : (10 : Int) ^ (29 : Int).toNat = 100000000000000000000000000000 := e29
  refine ⟨_, rfl, 2, rfl, 9, rfl, 10, 29, rfl, rfl, ⟨by decide, by decide, by decide⟩, 10, 29, rfl, rfl, ⟨by decide, by decide, by decide⟩, _, rfl, sz (by show 7 ≤ 1000; decide), fun l hl => ?_⟩
  obtain ⟨l1, l2, l3⟩ := S.off hl
  refine ⟨d, g, c, b + 39, l, _, rfl, S.new hl, SqL.of upd_same, l1, l2, by show 0 < 7; decide, by show 7 < 1000; decide, fun v H1 hv S1 q1 => ?_⟩
  obtain ⟨pl, rfl, pl1, pl2⟩ : ∃ m : Int, v = .int m ∧ -100000000000000000000000000000 ≤ m ∧ m ≤ 100000000000000000000000000000 := by
    simp only [List.mem_cons, List.not_mem_nil, or_false] at hv
    rcases hv with rfl | rfl | rfl | rfl | rfl | rfl | rfl
    · exact ⟨0, rfl, by decide, by decide⟩
    · exact ⟨0, rfl, by decide, by decide⟩
    · exact ⟨_, rfl, by decide, by decide⟩
    · exact ⟨_, rfl, by decide, by decide⟩
    · exact ⟨30, rfl, by decide, by decide⟩
    · exact ⟨_, rfl, by rw [E29]; decide, by rw [E29]; decide⟩
    · exact ⟨_, rfl, by rw [E29]; decide, by rw [E29]; decide⟩
  clear hv
  have k1 : Kp d g H H1 := (Kp.new hl).trans q1
  intro F hF
  obtain ⟨f1, f2, f3⟩ := S1.off hF
  have A1 := k1 _ _ a1 a2 hA
  have fa : F ≠ a := fun e => by
    rw [e, A1] at hF
    cases hF
  have hF0 : H F = none := by
    cases e : H F with
    | none => rfl
    | some o =>
      have := k1 F o f1 f2 e
      rw [hF] at this
      cases this
  have S2 := S1.new (o := .dK []) hF
  have D2 : upd H1 F (.dK []) F = some (.dK (kvsOf [])) := upd_same
  have A2 : upd H1 F (.dK []) a = some (.dK (kvsOf ks)) := (upd_ne fa.symm).trans A1
  have K2 : KF F a d g H (upd H1 F (.dK [])) := k1.kf.trans kf_upd
  generalize upd H1 F (.dK []) = H2 at S2 D2 A2 K2 ⊢
  refine ⟨_, rfl, sz (by show 3 ≤ 1000; decide), fun t ht => ?_⟩
  have s3 := same_new (o := .tup [.int pl, .ref F, .int n]) ht
  have T3 : upd H2 t (.tup [.int pl, .ref F, .int n]) t = some (.tup [.int pl, .ref F, .int n]) := upd_same
  have S3 := S2.new (o := .tup [.int pl, .ref F, .int n]) ht
  generalize upd H2 t (.tup [.int pl, .ref F, .int n]) = H3 at s3 T3 S3 ⊢
  have K3 : KF F a d g H H3 := K2.trans fun x o _ _ _ _ h => s3 x o h
  refine ⟨t, _, rfl, SqT.of T3, rfl, _, _, rfl, _, _, rfl, _, _, rfl, rfl, ?_⟩
  refine ⟨_, rfl, d, g, c, b + 38, 6, rfl, S3, by decide, by decide, fun u H4 u0 u1 S4 q4 => ⟨u, rfl, by omega, by omega, ?_⟩⟩
  have B0 : Bx n ks [] n := ⟨List.nodup_nil, (fun p m => nomatch m), by show 0 + n = n; omega, n0, (fun p m => nomatch m)⟩
  have bd0 : -(10 ^ 29) ≤ pl ∧ pl ≤ 10 ^ 29 + (((0 : Nat) : Int)) * 20000000000000000000000000000 := by
    have := e29
    constructor <;> omega
  refine for_range (lo := 0) (n := u.toNat) (fun i σ H5 => StB H5 d g c (b + 38 - 6 * i) ∧ KF F a d g H H5 ∧ ∃ gs sp pl u6 u7 u8, H5 F = some (.dK (kvsOf gs)) ∧ H5 a = some (.dK (kvsOf ks)) ∧ Bx n ks gs sp ∧ (∀ p ∈ gs, p.1 < pl) ∧ (-(10 ^ 29) ≤ pl ∧ pl ≤ 10 ^ 29 + (i : Int) * 20000000000000000000000000000) ∧ σ = [some (.ref d), some (.ref a), some (.int n), some (.int pl), some (.ref F), some (.int sp), u6, u7, u8])
    ⟨S4, K3.trans q4.kf, [], n, pl, none, none, none, q4 _ _ f1 f2 (s3 _ _ D2), q4 _ _ a1 a2 (s3 _ _ A2), B0, (fun p m => nomatch m), bd0, rfl⟩ ?_ ?_
  · rintro i σ H5 hi ⟨S5, K5, gs, sp, pl5, u6, u7, u8, F5, A5, B5, lt5, bd5, rfl⟩
    have hb : b + 38 - 6 * i = (b + 38 - 6 * (i + 1)) + 6 := by omega
    rw [hb] at S5
    show t_bxOut K _ [some (.ref d), some (.ref a), some (.int n), some (.int pl5), some (.ref F), some (.int sp), some (.int (0 + i)), u7, u8] H5
    refine bx_out (i := (i : Int)) S5 F5 A5 f1 f2 f3 fa a1 a2 hk B5 n40 lt5 (by omega) (by omega) bd5 fun H6 hs sp6 pl6 v7 v8 S6 K6 F6 A6 B6 lt6 bd6 => ⟨S6, K5.trans K6, hs, sp6, pl6, some (.int (0 + i)), v7, v8, F6, A6, B6, lt6, ?_, rfl⟩
    rw [show ((i + 1 : Nat) : Int) = (i : Int) + 1 by omega]
    exact bd6
  · rintro σ H5 ⟨S5, K5, gs, sp, pl5, u6, u7, u8, F5, A5, B5, lt5, bd5, rfl⟩
    have S5' : StB H5 d g c (b + 6) := S5.mono (by omega)
    clear S5
    refine ⟨a, _, A5, trivial, fun od => ?_⟩
    have S6 := S5'.upd (o := .frz od (.dK (kvsOf ks))) a1 a2 a3
    have A6 : upd H5 a (.frz od (.dK (kvsOf ks))) a = some (.frz od (.dK (kvsOf ks))) := upd_same
    have F6 : upd H5 a (.frz od (.dK (kvsOf ks))) F = some (.dK (kvsOf gs)) := (upd_ne fa).trans F5
    have K6 : KF F a d g H (upd H5 a (.frz od (.dK (kvsOf ks)))) := K5.trans kf_updA
    generalize upd H5 a (.frz od (.dK (kvsOf ks))) = H6 at S6 A6 F6 K6 ⊢
    have kl : (kvsOf ks).length = ks.length := by unfold kvsOf; rw [List.length_map]
    refine ⟨_, rfl, a, od, rfl, .inl ⟨_, A6, ?_⟩⟩
    refine for_it (walk_keys (d := a) (o := od) (kvs := kvsOf ks)) (fun i σ H7 => StB H7 d g c (b + 6 - i) ∧ KF F a d g H H7 ∧ ∃ gs sp u3 u6 u7 u8, H7 F = some (.dK (kvsOf gs)) ∧ H7 a = some (.frz od (.dK (kvsOf ks))) ∧ Bx n ks gs sp ∧ σ = [some (.ref d), some (.ref a), some (.int n), u3, some (.ref F), some (.int sp), u6, u7, u8])
      ⟨S6, K6, gs, sp, some (.int pl5), u6, u7, u8, F6, A6, B5, rfl⟩ ?_ ?_ ?_
    · rintro i σ H7 _ ⟨_, _, gs7, sp7, u3, v6, v7, v8, F7, A7, _⟩
      exact A7
    · rintro i x σ H7 H8 hi ⟨S7, K7, gs7, sp7, u3, v6, v7, v8, F7, A7, B7, rfl⟩ ⟨rfl, k, v, hkv, rfl⟩
      obtain ⟨p, hp, e⟩ : ∃ p, ks[i]? = some p ∧ ((.inl p.1, .int p.2) : Key × V) = (k, v) := by
        unfold kvsOf at hkv
        rw [List.getElem?_map] at hkv
        obtain ⟨p, h1, h2⟩ := Option.map_eq_some_iff.mp hkv
        exact ⟨p, h1, h2⟩
      cases e
      have hb : b + 6 - i = (b + 6 - (i + 1)) + 1 := by omega
      rw [hb] at S7
      show t_bxKey K _ [some (.ref d), some (.ref a), some (.int n), some (.int p.1), some (.ref F), some (.int sp7), v6, v7, v8] H8
      refine bx_key (cp := p.2) S7 F7 A7 f1 f2 f3 fa a1 a2 hk hkd (List.mem_of_getElem? hp) B7 n40 fun H9 hs sp9 w9 S9 K9 F9 A9 B9 => ⟨S9, K7.trans K9, hs, sp9, some (.int p.1), v6, v7, w9, F9, A9, B9, rfl⟩
    · rintro σ H7 ⟨S7, K7, gs7, sp7, u3, v6, v7, v8, F7, A7, B7, rfl⟩
      refine ⟨A7, ?_⟩
      have S8 := S7.upd (o := .dK (kvsOf ks)) a1 a2 a3
      have A8 : upd H7 a (.dK (kvsOf ks)) a = some (.dK (kvsOf ks)) := upd_same
      have F8 : upd H7 a (.dK (kvsOf ks)) F = some (.dK (kvsOf gs7)) := (upd_ne fa).trans F7
      have K8 : KF F a d g H (upd H7 a (.dK (kvsOf ks))) := K7.trans kf_updA
      generalize upd H7 a (.dK (kvsOf ks)) = H8 at S8 A8 F8 K8 ⊢
      have len := B7.len
      have sp0 := B7.sp
      refine sorted_dict F8 B7.nd (by omega) rfl (fun y => rfl) (fun y => rfl) (fun y => rfl) fun r H9 ps hr s9 d9 pm asc => ?_
      obtain ⟨r1, r2, r3⟩ := S8.off hr
      have kp : Kp d g H H9 := fun x o e1 e2 hx => by
        refine s9 _ _ ?_
        by_cases ea : x = a
        · subst ea
          rw [hA] at hx
          cases hx
          exact A8
        · exact K8 x o (fun e => by rw [e, hF0] at hx; cases hx) ea e1 e2 hx
      have hr0 : H r = none := by
        cases e : H r with
        | none => rfl
        | some o =>
          have z : H8 r = some o := by
            by_cases ea : r = a
            · subst ea
              rw [A8] at hr
              cases hr
            · exact K8 r o (fun w => by rw [w, hF0] at e; cases e) ea r1 r2 e
          rw [hr] at z
          cases z
      refine q r H9 ps ((StB.same s9 S8).mono (by omega)) kp r1 r2 r3 hr0 d9 asc (fun p m => B7.po p (pm.mem_iff.mp m)) (fun p m => B7.bd p (pm.mem_iff.mp m)) ?_
      have sm := B7.sm
      have : (ps.map Prod.snd).sum = (gs7.map Prod.snd).sum := perm_sum (pm.map Prod.snd)
      omega
end SR

set_option Elab.async false
set_option linter.all false
set_option maxRecDepth 100000
set_option maxHeartbeats 4000000
/-! SRS2: a row of a dict of items and one of sizes. -/
namespace SR
open PySem PySem.Spec PyProof.Rows L2
theorem asc_eq : ∀ {ps qs : List (Int × Int)}, Asc ps → Asc qs → ps.Perm qs → ps = qs
  | [], qs, _, _, h => (List.nil_perm.mp h).symm
  | p :: ps, [], _, _, h => absurd (List.perm_nil.mp h) (by simp)
  | p :: ps, q :: qs, h1, h2, h => by
    have a := List.pairwise_cons.mp h1
    have b := List.pairwise_cons.mp h2
    have e : p = q := by
      rcases List.mem_cons.mp (h.mem_iff.mp List.mem_cons_self) with e | m
      · exact e
      · rcases List.mem_cons.mp (h.symm.mem_iff.mp (List.mem_cons_self (a := q) (l := qs))) with e | m2
        · exact e.symm
        · have := a.1 q m2
          have := b.1 p m
          omega
    subst e
    rw [asc_eq a.2 b.2 (List.perm_cons p |>.mp h)]
theorem RowOk.perm {ps ks qs ls : List (Int × Int)} (h : RowOk ps ks) (h1 : qs.Perm ps) (h2 : ls.Perm ks) : RowOk qs ls := by
  have ce : ∀ i, cap ls i = cap ks i := fun i => by
    unfold cap
    rw [lookup_perm h2.symm h.kd]
  exact ⟨(h1.map _).nodup_iff.mpr h.nd, (h2.map _).nodup_iff.mpr h.kd, by rw [h2.length_eq]; exact h.kl, fun p m => h.ko p (h2.mem_iff.mp m), fun p m => by rw [ce]; exact h.po p (h1.mem_iff.mp m), by rw [perm_sum (h1.map _)]; exact h.sm⟩
theorem asc_nd {ps : List (Int × Int)} (h : Asc ps) : (ps.map Prod.fst).Nodup := by
  unfold List.Nodup
  rw [List.pairwise_map]
  exact h.imp fun {a b} z e => by omega
/-- a new row -/
theorem make_row {K : PySem.W.Frag} {C : Addr} {H : Hp} {l1 l2 : Addr} {ps ks : List (Int × Int)} {Q : VK} {E : XK} (hp : PairsAt K H l1 ps) (hk : PairsAt K H l2 ks) (ok : RowOk ps ks)
    (q : ∀ x H' qs ls, H x = none → Same H H' → RowAt K C H' x qs ls → qs.Perm ps → ls.Perm ks → Asc qs → Asc ls → Q (.ref x) H') :
    ∀ x dx, H x = none → H dx = none → dx ≠ x → spRowInit K C [.ref x, .ref l1, .ref l2] (upd (upd H dx (.own x)) x (.ins C dx [])) (fun v H2 => v = .non ∧ Q (.ref x) H2) E := by
  intro x dx hx hd ne
  have hx2 : upd H dx (.own x) x = none := (upd_ne ne.symm).trans hx
  have s : Same H (upd (upd H dx (.own x)) x (.ins C dx [])) := (same_new hd).trans (same_new hx2)
  refine ⟨x, l1, l2, dx, ps, ks, rfl, upd_same, hp.same s, hk.same s, ok, fun H' qs ls sb row p1 p2 a1 a2 => ⟨rfl, q x H' qs ls hx (fun b o hb => ?_) row p1 p2 a1 a2⟩⟩
  exact sb b o (ne_of_none hb hx) (s b o hb)
def spMade (K : PySem.W.Frag) (C : Addr) : Sp := fun vs H Q _ => ∃ a b ps ks, vs = [.ref a, .ref b] ∧ H a = some (.dK (kvsOf ps)) ∧ H b = some (.dK (kvsOf ks)) ∧ RowOk ps ks ∧ Asc ps ∧ Asc ks ∧ ∀ x H', H x = none → Same H H' → RowAt K C H' x ps ks → Q (.ref x) H'
def t_made (K : PySem.W.Frag) (c_Row : Addr) : TS := tRet (tMake c_Row (spRowInit K c_Row) [] E0 (tCons (LiI.tListItems (tVar 0)) (tCons (LiI.tListItems (tVar 1)) (tNil))))
theorem items_pairs {K : PySem.W.Frag} {H : Hp} {p : Addr} {ts : List Addr} {ps : List (Int × Int)} (h1 : H p = some (.lst (ts.map V.ref))) (h2 : Paired (fun (t : Addr) (q : Key × V) => H t = some (.tup [kV q.1, q.2])) ts (kvsOf ps)) : PairsAt K H p ps := by
  refine ⟨ts, .inl (SqL.of h1), ?_⟩
  clear h1
  induction ps generalizing ts with
  | nil =>
    cases h2
    exact .nil
  | cons q ps ih =>
    cases h2 with
    | cons a b => exact .cons a (ih b)
theorem pure_made {K : PySem.W.Frag} {C : Addr} (vs : List V) (H : Hp) (Q : VK) (E : XK) (h : spMade K C vs H Q E) : t_made K C { nx := fun _ H' => Q .non H', rt := Q } (start ["boxes", "sizes"] vs) H := by
  obtain ⟨a, b, ps, ks, rfl, hA, hB, ok, ap, ak, q⟩ := h
  refine ⟨_, rfl, a, _, rfl, hA, fun H1 l1 t1 s1 n1 _ _ d1 p1 => ?_⟩
  refine ⟨_, rfl, b, _, rfl, s1 _ _ hB, fun H2 l2 t2 s2 n2 _ _ d2 p2 => ?_⟩
  have q1 : PairsAt K H2 l1 ps := (items_pairs d1 p1).same s2
  have q2 : PairsAt K H2 l2 ks := items_pairs d2 p2
  refine make_row q1 q2 ok fun x H' qs ls hx s row e1 e2 b1 b2 => ?_
  have z1 := asc_eq b1 ap e1
  have z2 := asc_eq b2 ak e2
  subst z1 z2
  exact q x H' (Same.free (Same.trans s1 s2) hx) (Same.trans s1 (Same.trans s2 s)) row
end SR

set_option Elab.async false
set_option linter.all false
set_option maxRecDepth 100000
set_option maxHeartbeats 4000000
/-! SRU2: properties by their promise. -/
namespace SR
open PySem PySem.Spec PyProof.Rows L2
/-- a property of the class, by its promise -/
structure Prp (P : Program) (w : World) (K : PySem.W.Frag) (mg : Str → Option Value) (base : Heap) (k : Nat) (C : Addr) (f : Str) (sp : Sp) : Prop where
  ex : ∃ (p g : Addr) (fd : FuncData) (ps : List Str), Cls K C ∧ PropOf K C f p g ∧ FnOk P w K mg base CX0 k g fd ps sp ∧ Binds K fd ps []
theorem pe_pr {X : Cx} {j k : Nat} {C : Addr} {f : Str} {sp : Sp} {e : Expr} {pos : Pos} {ta : TE} (c : Prp X.prog X.w X.K X.mg X.base k C f sp) (hr : Room j X.A) (hk : k + 1 ≤ j) (he : PE X e ta) (hab : attributeBase e f X.env (eval e X.env) = eval e X.env := by rfl) :
    PE X (.Attribute e f pos) (tProp C sp [] E0 ta) := by
  obtain ⟨p, g, fd, ps, c1, c2, F, b⟩ := c.ex
  exact pe_prop he c1 c2 F (hr.mono hk) b .nil pass0 hab
end SR

set_option Elab.async false
set_option linter.all false
set_option maxRecDepth 100000
set_option maxHeartbeats 4000000
/-! SRV2: the steps of a carrier from a box on. -/
namespace SR
open PySem PySem.Spec PyProof.Rows L2
abbrev Step := Int × Int × Int × Int × Int
def stepAt (cn cp : Int → Int) (most i l : Int) : Step := (i, l, cn i, stL most l (cp i) (cn i), stC most l (cp i) (cn i))
/-- from box i on, with the load l, until it is 0 -/
inductive Walks (cn cp : Int → Int) (most : Int) : Int → Int → List Step → Prop where
  | last {i l : Int} (h : stL most l (cp i) (cn i) = 0) : Walks cn cp most i l [stepAt cn cp most i l]
  | more {i l : Int} {r : List Step} (h : stL most l (cp i) (cn i) ≠ 0) (t : Walks cn cp most (i + 1) (stL most l (cp i) (cn i)) r) : Walks cn cp most i l (stepAt cn cp most i l :: r)
def sumFrom (i : Int) (ps : List (Int × Int)) : Int := (ps.map fun p => if i ≤ p.1 then p.2 else 0).sum
theorem sumFrom_cons (i : Int) (p : Int × Int) (ps : List (Int × Int)) : sumFrom i (p :: ps) = (if i ≤ p.1 then p.2 else 0) + sumFrom i ps := rfl
theorem cnt_cons (i : Int) (p : Int × Int) (ps : List (Int × Int)) : cnt (p :: ps) i = if i = p.1 then p.2 else cnt ps i := by
  unfold cnt
  obtain ⟨j, n⟩ := p
  rw [List.lookup_cons]
  by_cases e : i = j
  · subst e
    rw [beq_self_eq_true, if_pos rfl]
    rfl
  · rw [beq_eq_false_iff_ne.mpr e, if_neg e]
theorem sumFrom_next (i : Int) : ∀ {ps : List (Int × Int)}, (ps.map Prod.fst).Nodup → sumFrom i ps = cnt ps i + sumFrom (i + 1) ps
  | [], _ => rfl
  | p :: ps, nd => by
    have nd' := List.nodup_cons.mp nd
    have ih := sumFrom_next i nd'.2
    rw [sumFrom_cons, sumFrom_cons, cnt_cons, ih]
    by_cases e : i = p.1
    · have z : cnt ps i = 0 := by
        unfold cnt
        rw [lookup_none.mpr (by rw [e]; exact nd'.1)]
        rfl
      rw [if_pos e, if_pos (by omega), if_neg (by omega), z]
    · rw [if_neg e]
      by_cases f : i ≤ p.1
      · rw [if_pos f, if_pos (by omega)]
        omega
      · rw [if_neg f, if_neg (by omega)]
        omega
theorem sumFrom_bd (i : Int) : ∀ {ps : List (Int × Int)}, (∀ p ∈ ps, 1 ≤ p.2) → 0 ≤ sumFrom i ps ∧ sumFrom i ps ≤ (ps.map Prod.snd).sum
  | [], _ => ⟨Int.le_refl _, Int.le_refl _⟩
  | p :: ps, h => by
    have ih := sumFrom_bd i (ps := ps) fun q m => h q (List.mem_cons_of_mem _ m)
    have := h p List.mem_cons_self
    rw [sumFrom_cons, List.map_cons, List.sum_cons]
    split <;> omega
theorem cnt_bd {ps ks : List (Int × Int)} (ok : RowOk ps ks) (i : Int) : 0 ≤ cnt ps i ∧ cnt ps i ≤ cap ks i := by
  have c := cap_ok ok.ko i
  unfold cnt
  cases e : ps.lookup i with
  | none => exact ⟨Int.le_refl _, by show (0 : Int) ≤ _; omega⟩
  | some n =>
    have m := (lookup_some ok.nd).mp e
    have := ok.po _ m
    exact ⟨by show (0 : Int) ≤ n; omega, this.2⟩
def TupS (H : Hp) (t : Addr) (s : Step) : Prop := H t = some (.tup [.int s.1, .int s.2.1, .int s.2.2.1, .int s.2.2.2.1, .int s.2.2.2.2])
def StepsAt (H : Hp) (s : Addr) (st : List Step) : Prop := ∃ ts, H s = some (.lst (ts.map V.ref)) ∧ Paired (TupS H) ts st
def spStepsFrom (K : PySem.W.Frag) (C : Addr) : Sp := fun vs H Q _ => ∃ x most start ps ks, vs = [.ref x, .int most, .int start] ∧ RowAt K C H x ps ks ∧ RowOk ps ks ∧ 1 ≤ most ∧ most ≤ 99 ∧ 1 ≤ cnt ps start ∧
  ∀ s H' st, H s = none → Same H H' → StepsAt H' s st → Walks (cnt ps) (cap ks) most start 0 st → st.length ≤ 80 → Q (.ref s) H'
def t_stBody (K : PySem.W.Frag) (c_BadNumber : Addr) (c_Row : Addr) : TS := (tSeq (tAsg (tMeth c_Row "held" (spHeld K c_Row) [] E0 (tVar 0) (tCons (tVar 4) (tNil))) (gName 6))
  (tSeq (tAsg (tCall (spPassed K c_BadNumber) [] E0 (tCons (tVar 1) (tCons (tVar 5) (tCons (tMeth c_Row "capacity" (spCapacityOf K c_Row) [] E0 (tVar 0) (tCons (tVar 4) (tNil))) (tCons (tVar 6) (tNil)))))) (gTup K 2 (gCons (gName 7) (gCons (gName 8) (gNil)))))
  (tSeq (tDrop (tBM K "list" rAppend (tVar 3) (tCons (tTup (tCons (tVar 4) (tCons (tVar 5) (tCons (tVar 6) (tCons (tVar 8) (tCons (tVar 7) (tNil))))))) (tNil))))
  (tSeq (tAug 4 (tC (.int 1)) (ipI fun i j => i + j))
  (tAsg (tVar 8) (gName 5))))))
def t_steps_from (K : PySem.W.Frag) (c_BadNumber : Addr) (c_Row : Addr) : TS := tSeq (tAsg (tLst (tNil)) (gName 3))
  (tSeq (tAsg (tVar 2) (gName 4))
  (tSeq (tAsg (tC (.int 0)) (gName 5))
  (tSeq (tWhile (tOr (tTest (tOp qGt (tVar 5) (tC (.int 0)))) (tNot ((fun σ H Q => tVar 3 σ H fun x H1 => ∃ k, TruV K x H1 k ∧ Q k H1)))) (t_stBody K c_BadNumber c_Row))
  (tRet (tVar 3)))))
theorem held_none (c k d e : Addr) : List.lookup ("held" : Str) (rowFs c k d e) = none := by
  unfold rowFs
  rw [lkNe (by decide), lkNe (by decide), lkNe (by decide), lkNe (by decide)]
  rfl
theorem capacity_none (c k d e : Addr) : List.lookup ("capacity" : Str) (rowFs c k d e) = none := by
  unfold rowFs
  rw [lkNe (by decide), lkNe (by decide), lkNe (by decide), lkNe (by decide)]
  rfl
theorem RowAt.ins {K : PySem.W.Frag} {C : Addr} {H : Hp} {x : Addr} {ps ks : List (Int × Int)} (h : RowAt K C H x ps ks) : ∃ dx fs, H x = some (.ins C dx fs) ∧ List.lookup ("held" : Str) fs = none ∧ List.lookup ("capacity" : Str) fs = none := by
  obtain ⟨dx, c, k, d, e, _, _, h1, _⟩ := h
  exact ⟨dx, _, h1, held_none c k d e, capacity_none c k d e⟩
theorem st_body {K : PySem.W.Frag} {C B : Addr} {H : Hp} {x s : Addr} {most start i l : Int} {ps ks : List (Int × Int)} {ts : List Addr} {acc : List Step} {w6 w7 w8 : Option V} {N N2 N3 : L2.St → Hp → Prop} {R : VK} (row : RowAt K C H x ps ks) (ok : RowOk ps ks) (m1 : 1 ≤ most) (m2 : most ≤ 99)
    (l0 : 0 ≤ l) (l1 : l ≤ most) (hs : H s = some (.lst (ts.map V.ref))) (hts : Paired (TupS H) ts acc) (short : acc.length ≤ 100)
    (hN : ∀ H' us, SameBut s H H' → H' s = some (.lst (us.map V.ref)) → Paired (TupS H') us (acc ++ [stepAt (cnt ps) (cap ks) most i l]) → N [some (.ref x), some (.int most), some (.int start), some (.ref s), some (.int (i + 1)), some (.int (stL most l (cap ks i) (cnt ps i))), some (.int (cnt ps i)), some (.int (stC most l (cap ks i) (cnt ps i))), some (.int (stL most l (cap ks i) (cnt ps i)))] H') :
    t_stBody K B C { nx := N, rt := R, bk := N2, ct := N3 } [some (.ref x), some (.int most), some (.int start), some (.ref s), some (.int i), some (.int l), w6, w7, w8] H := by
  obtain ⟨dx, fs, hx, no1, no2⟩ := row.ins
  have c := cap_ok ok.ko i
  have n := cnt_bd ok i
  refine ⟨_, rfl, x, dx, fs, rfl, hx, no1, _, rfl, x, i, ps, ks, rfl, row, ok.nd, ?_⟩
  refine ⟨_, rfl, _, rfl, _, rfl, x, dx, fs, rfl, hx, no2, _, rfl, x, i, ps, ks, rfl, row, ok.kd, _, rfl, .int most, .int l, .int (cap ks i), .int (cnt ps i), _, _, _, _, rfl, .int _, .int _, .int _, .int _, fun z => ?_, fun c' u' d' x' e1 e2 e3 e4 _ p H1 hp s1 P1 => ?_⟩
  · rw [okV_yes.mpr ⟨_, _, _, _, rfl, rfl, rfl, rfl, ⟨m1, m2⟩, ⟨l0, l1⟩, ⟨c.1, by omega⟩, n⟩] at z
    cases z
  cases e1
  cases e2
  cases e3
  cases e4
  refine ⟨p, _, rfl, SqT.of P1, rfl, _, _, rfl, _, _, rfl, rfl, ?_⟩
  have L1 := s1 _ _ hs
  refine ⟨_, rfl, .inl ⟨rfl, _, SqL.of L1⟩, _, rfl, _, rfl, _, rfl, _, rfl, _, rfl, sz (by show 5 ≤ 1000; decide), fun t ht => ?_⟩
  have s2 := same_new (o := .tup [.int i, .int l, .int (cnt ps i), .int (stL most l (cap ks i) (cnt ps i)), .int (stC most l (cap ks i) (cnt ps i))]) ht
  have T2 : TupS (upd H1 t (.tup [.int i, .int l, .int (cnt ps i), .int (stL most l (cap ks i) (cnt ps i)), .int (stC most l (cap ks i) (cnt ps i))])) t (stepAt (cnt ps) (cap ks) most i l) := upd_same
  generalize upd H1 t (.tup [.int i, .int l, .int (cnt ps i), .int (stL most l (cap ks i) (cnt ps i)), .int (stC most l (cap ks i) (cnt ps i))]) = H2 at s2 T2 ⊢
  have L2' := s2 _ _ L1
  have tl : ts.length = acc.length := paired_len hts
  refine ⟨s, _, _, rfl, rfl, L2', ?_, ?_⟩
  · rw [List.length_map, tl]
    exact Nat.lt_of_le_of_lt short (by decide)
  refine ⟨_, rfl, _, _, rfl, rfl, _, rfl, ?_⟩
  have keep : ∀ {b : Addr} {st : Step}, TupS H2 b st → TupS (upd H2 s (.lst (ts.map V.ref ++ [.ref t]))) b st := fun {b st} z => (upd_ne (ne_of z L2' (by intro e; cases e))).trans z
  refine hN _ (ts ++ [t]) (fun b o ne h => (upd_ne ne).trans (s2 _ _ (s1 _ _ h))) ?_ (paired_snoc (keep T2) (paired_imp (fun _ _ z => keep (s2 _ _ (s1 _ _ z))) hts))
  rw [upd_same, List.map_append]
  rfl
theorem pure_steps_from {K : PySem.W.Frag} {C B : Addr} (vs : List V) (H : Hp) (Q : VK) (E : XK) (h : spStepsFrom K C vs H Q E) :
    t_steps_from K B C { nx := fun _ H' => Q .non H', rt := Q } (start ["row", "capacity", "start", "steps", "index", "load", "count", "new_count", "new_load"] vs) H := by
  obtain ⟨x, most, start0, ps, ks, rfl, row, ok, m1, m2, c1, q⟩ := h
  refine ⟨sz (Nat.zero_le _), fun s hs => ?_⟩
  have s1 := same_new (o := .lst []) hs
  have L1 : upd H s (.lst []) s = some (.lst []) := upd_same
  generalize upd H s (.lst []) = H1 at s1 L1 ⊢
  refine ⟨_, rfl, ?_⟩
  have total := sumFrom_bd start0 fun p m => (ok.po p m).1
  have top := ok.sm
  refine ⟨fun m σ H2 => ∃ i l acc ts w6 w7 w8, m = (2 * sumFrom i ps + l).toNat ∧ 0 ≤ l ∧ l ≤ most ∧ (acc = [] → i = start0 ∧ l = 0) ∧ ((acc = [] ∨ 0 < l) → ∀ r, Walks (cnt ps) (cap ks) most i l r → Walks (cnt ps) (cap ks) most start0 0 (acc ++ r)) ∧ (acc ≠ [] → l = 0 → Walks (cnt ps) (cap ks) most start0 0 acc) ∧
    SameBut s H1 H2 ∧ H2 s = some (.lst (ts.map V.ref)) ∧ Paired (TupS H2) ts acc ∧ acc.length + m ≤ 80 ∧ σ = [some (.ref x), some (.int most), some (.int start0), some (.ref s), some (.int i), some (.int l), w6, w7, w8],
    ⟨_, start0, 0, [], [], none, none, none, rfl, Int.le_refl _, by omega, fun _ => ⟨rfl, rfl⟩, fun _ r w => w, fun z => absurd rfl z, fun b o _ h => h, L1, .nil, by show 0 + _ ≤ 80; omega, rfl⟩, ?_⟩
  rintro m σ H2 ⟨i, l, acc, ts, w6, w7, w8, rfl, l0, l1, first, ext, fin, k2, L2', hts, len, rfl⟩
  have over : ∀ H3, H3 = H2 → acc ≠ [] → l = 0 → Q (.ref s) H3 := fun H3 e ne z => by
    subst e
    refine q s H3 acc hs (fun b o hb => k2 b o (ne_of_none hb hs) (s1 b o hb)) ⟨ts, L2', hts⟩ (fin ne z) (by omega)
  have row2 : RowAt K C H2 x ps ks := by
    have r1 := row.same s1
    obtain ⟨dx, c, k, d, e, ps0, ks0, h1, ⟨t1, h2, h3⟩, ⟨t2, h4, h5⟩, h6, h7, h8⟩ := r1
    have kp : ∀ {b : Addr} {o : HO}, H1 b = some o → (∀ xs, o ≠ .lst xs) → H2 b = some o := fun {b o} hb no => k2 b o (fun e => by rw [e, L1] at hb; exact no _ (Option.some.inj hb).symm) hb
    refine ⟨dx, c, k, d, e, ps0, ks0, kp h1 (fun _ e => nomatch e), ⟨t1, ?_, paired_imp (fun _ p z => kp (o := .tup [.int p.1, .int p.2]) z (fun _ e => nomatch e)) h3⟩, ⟨t2, ?_, paired_imp (fun _ p z => kp (o := .tup [.int p.1, .int p.2]) z (fun _ e => nomatch e)) h5⟩, kp h6 (fun _ e => nomatch e), kp h7 (fun _ e => nomatch e), h8⟩
    · obtain ⟨o, a1, a2⟩ := h2
      exact ⟨o, kp a1 (fun _ e => nomatch e), a2⟩
    · obtain ⟨o, a1, a2⟩ := h4
      exact ⟨o, kp a1 (fun _ e => nomatch e), a2⟩
  -- one more turn
  have go : (acc = [] ∨ 0 < l) → ∃ Nn : L2.St → Hp → Prop, (∀ σ' H', Nn σ' H' → ∃ m', m' < (2 * sumFrom i ps + l).toNat ∧ ∃ i l acc ts w6 w7 w8, m' = (2 * sumFrom i ps + l).toNat ∧ 0 ≤ l ∧ l ≤ most ∧ (acc = [] → i = start0 ∧ l = 0) ∧ ((acc = [] ∨ 0 < l) → ∀ r, Walks (cnt ps) (cap ks) most i l r → Walks (cnt ps) (cap ks) most start0 0 (acc ++ r)) ∧ (acc ≠ [] → l = 0 → Walks (cnt ps) (cap ks) most start0 0 acc) ∧
    SameBut s H1 H' ∧ H' s = some (.lst (ts.map V.ref)) ∧ Paired (TupS H') ts acc ∧ acc.length + m' ≤ 80 ∧ σ' = [some (.ref x), some (.int most), some (.int start0), some (.ref s), some (.int i), some (.int l), w6, w7, w8]) ∧
    t_stBody K B C { nx := Nn, rt := Q, bk := tRet (tVar 3) { nx := fun _ H' => Q .non H', rt := Q }, ct := Nn } [some (.ref x), some (.int most), some (.int start0), some (.ref s), some (.int i), some (.int l), w6, w7, w8] H2 := by
    intro pos
    have nx := sumFrom_next i ok.nd
    have b1 := sumFrom_bd (i + 1) fun p m => (ok.po p m).1
    have c := cap_ok ok.ko i
    have n := cnt_bd ok i
    have np : acc = [] → 1 ≤ cnt ps i := fun z => by rw [(first z).1]; exact c1
    have lz : acc = [] → l = 0 := fun z => (first z).2
    have l' : 0 ≤ stL most l (cap ks i) (cnt ps i) ∧ stL most l (cap ks i) (cnt ps i) ≤ most := by
      unfold stL
      omega
    have dec : (2 * sumFrom (i + 1) ps + stL most l (cap ks i) (cnt ps i)).toNat < (2 * sumFrom i ps + l).toNat := by
      have d1 : stL most l (cap ks i) (cnt ps i) ≤ l + cnt ps i := by
        unfold stL
        omega
      have d2 : cnt ps i = 0 → 0 < l → stL most l (cap ks i) (cnt ps i) < l := by
        intro z1 z2
        unfold stL
        rw [z1]
        omega
      rcases pos with e | e
      · have := np e
        have := lz e
        omega
      · by_cases z : cnt ps i = 0
        · have := d2 z e
          omega
        · omega
    refine ⟨fun σ' H' => ∃ us, SameBut s H2 H' ∧ H' s = some (.lst (us.map V.ref)) ∧ Paired (TupS H') us (acc ++ [stepAt (cnt ps) (cap ks) most i l]) ∧ ∃ w6 w7 w8, σ' = [some (.ref x), some (.int most), some (.int start0), some (.ref s), some (.int (i + 1)), some (.int (stL most l (cap ks i) (cnt ps i))), w6, w7, w8], ?_, ?_⟩
    · rintro σ' H' ⟨us, k3, L3, hus, v6, v7, v8, rfl⟩
      refine ⟨_, dec, i + 1, _, acc ++ [stepAt (cnt ps) (cap ks) most i l], us, v6, v7, v8, rfl, l'.1, l'.2, fun z => absurd z (by simp), fun more r w => ?_, fun _ z => ?_, k2.trans k3, L3, hus, ?_, rfl⟩
      · rw [List.append_assoc]
        show Walks _ _ _ _ _ (acc ++ (stepAt (cnt ps) (cap ks) most i l :: r))
        have on : stL most l (cap ks i) (cnt ps i) ≠ 0 := by
          rcases more with e | e
          · exact absurd e (by simp)
          · omega
        exact ext pos _ (.more on w)
      · exact ext pos _ (.last z)
      · rw [List.length_append]
        show acc.length + 1 + _ ≤ 80
        omega
    · exact st_body row2 ok m1 m2 l0 l1 L2' hts (by omega) fun H' us k3 L3 hus => ⟨us, k3, L3, hus, _, _, _, rfl⟩
  refine ⟨_, rfl, _, _, rfl, rfl, _, rfl, ?_⟩
  by_cases pos : 0 < l
  · rw [decide_eq_true pos]
    exact iteT (iteT (go (.inr pos)))
  · rw [decide_eq_false pos]
    refine iteF ⟨_, rfl, _, .inl ⟨_, SqL.of L2', rfl⟩, ?_⟩
    have tl := paired_len hts
    cases acc with
    | nil =>
      have e : ts = [] := List.length_eq_zero_iff.mp tl
      subst e
      exact iteT (go (.inl rfl))
    | cons a r =>
      cases ts with
      | nil => cases tl
      | cons b us => exact iteF ⟨_, rfl, over _ rfl (by simp) (by omega)⟩
end SR

set_option Elab.async false
set_option linter.all false
set_option maxRecDepth 100000
set_option maxHeartbeats 4000000
/-! SRW2: the trace of a carrier. -/
namespace SR
open PySem PySem.Spec PyProof.Rows L2
def lastIdx (acc : List Step) : Int := ((acc.getLast?).map Prod.fst).getD 0
/-- the steps over the items that are left -/
inductive Traces (cn cp : Int → Int) (most : Int) : List (Int × Int) → List Step → List Step → Prop where
  | nil {acc : List Step} : Traces cn cp most [] acc acc
  | skip {p : Int × Int} {ps : List (Int × Int)} {acc r : List Step} (h : acc ≠ []) (h2 : ¬ lastIdx acc < p.1) (t : Traces cn cp most ps acc r) : Traces cn cp most (p :: ps) acc r
  | walk {p : Int × Int} {ps : List (Int × Int)} {acc w r : List Step} (h : acc = [] ∨ lastIdx acc < p.1) (hw : Walks cn cp most p.1 0 w) (t : Traces cn cp most ps (acc ++ w) r) : Traces cn cp most (p :: ps) acc r
def spTrace (K : PySem.W.Frag) (C B : Addr) : Sp := fun vs H Q E => ∃ x v t ps ks, vs = [.ref x, v] ∧ AnyT K H v t ∧ RowAt K C H x ps ks ∧ RowOk ps ks ∧ (btw 1 99 v = false → E (.ref B) none H) ∧
  ∀ most, v = .int most → 1 ≤ most → most ≤ 99 → ∀ s H' st, H s = none → Same H H' → StepsAt H' s st → Traces (cnt ps) (cap ks) most ps [] st → st.length ≤ 3200 → Q (.ref s) H'
def t_trBody (K : PySem.W.Frag) (c_Row : Addr) : TS := (tIfS (tOr (tNot ((fun σ H Q => tVar 2 σ H fun x H1 => ∃ k, TruV K x H1 k ∧ Q k H1))) (tTest (tOp qLt (tOp (rIxT K) (tOp (rIxL K) (tVar 2) (tUn (rU fun i => .int (-i)) (tC (.int 1)))) (tC (.int 0))) (tVar 3))))
  (tDrop (tBM K "list" rExtend (tVar 2) (tCons (tCall (spStepsFrom K c_Row) [] E0 (tCons (tVar 0) (tCons (tVar 1) (tCons (tVar 3) (tNil))))) (tNil))))
  (tNext))
def t_trace (K : PySem.W.Frag) (c_BadCapacity : Addr) (c_Row : Addr) (E : XK) : TS := tSeq (tIfS (tNot (tB (tCall (spCapacity K) [] E0 (tCons (tVar 1) (tNil)))))
  (tOut (.ref c_BadCapacity) E)
  (tNext))
  (tSeq (tAsg (tLst (tNil)) (gName 2))
  (tSeq (tFor (iTup K (tProp c_Row (spContents K c_Row) [] E0 (tVar 0))) (gTup K 2 (gCons (gName 3) (gCons (gName 4) (gNil)))) (t_trBody K c_Row))
  (tRet (tVar 2))))
/-- what a list of the steps' own leaves of a row -/
theorem RowAt.but {K : PySem.W.Frag} {C : Addr} {H H' : Hp} {x s : Addr} {ps ks : List (Int × Int)} {xs : List V} (row : RowAt K C H x ps ks) (hs : H s = some (.lst xs)) (k : SameBut s H H') : RowAt K C H' x ps ks := by
  obtain ⟨dx, c, k0, d, e, ps0, ks0, h1, ⟨t1, h2, h3⟩, ⟨t2, h4, h5⟩, h6, h7, h8⟩ := row
  have kp : ∀ {b : Addr} {o : HO}, H b = some o → (∀ xs, o ≠ .lst xs) → H' b = some o := fun {b o} hb no => k b o (fun e => by rw [e, hs] at hb; exact no _ (Option.some.inj hb).symm) hb
  refine ⟨dx, c, k0, d, e, ps0, ks0, kp h1 (fun _ e => nomatch e), ⟨t1, ?_, paired_imp (fun _ p z => kp (o := .tup [.int p.1, .int p.2]) z (fun _ e => nomatch e)) h3⟩, ⟨t2, ?_, paired_imp (fun _ p z => kp (o := .tup [.int p.1, .int p.2]) z (fun _ e => nomatch e)) h5⟩, kp h6 (fun _ e => nomatch e), kp h7 (fun _ e => nomatch e), h8⟩
  · obtain ⟨o, a1, a2⟩ := h2
    exact ⟨o, kp a1 (fun _ e => nomatch e), a2⟩
  · obtain ⟨o, a1, a2⟩ := h4
    exact ⟨o, kp a1 (fun _ e => nomatch e), a2⟩
theorem at_last {xs : List V} {v : V} (h : xs.getLast? = some v) : atI xs (-1) = some v := by
  have ne : xs ≠ [] := fun z => by rw [z] at h; cases h
  have l1 : 0 < xs.length := List.length_pos_iff.mpr ne
  rw [List.getLast?_eq_getElem?] at h
  unfold atI ixN
  rw [if_neg (by decide), if_pos (by omega), show (-1 + (xs.length : Int)).toNat = xs.length - 1 by omega]
  exact h
theorem walks_ne {cn cp : Int → Int} {most i l : Int} {w : List Step} (h : Walks cn cp most i l w) : w ≠ [] := by
  cases h <;> simp
theorem paired_append {α β : Type} {F : α → β → Prop} : ∀ {xs xs' : List α} {ys ys' : List β}, Paired F xs ys → Paired F xs' ys' → Paired F (xs ++ xs') (ys ++ ys')
  | _, _, _, _, .nil, h => h
  | _, _, _, _, .cons a t, h => .cons a (paired_append t h)
theorem paired_last {α β : Type} {F : α → β → Prop} : ∀ {xs : List α} {ys : List β}, Paired F xs ys → ys ≠ [] → ∃ x y, xs.getLast? = some x ∧ ys.getLast? = some y ∧ F x y
  | _, _, .nil, h => absurd rfl h
  | [x], [y], .cons a .nil, _ => ⟨x, y, rfl, rfl, a⟩
  | x :: x2 :: xs, y :: y2 :: ys, .cons a (.cons b t), _ => by
    obtain ⟨u, v, h1, h2, h3⟩ := paired_last (.cons b t) (by simp)
    exact ⟨u, v, by rw [List.getLast?_cons_cons]; exact h1, by rw [List.getLast?_cons_cons]; exact h2, h3⟩
theorem tr_body {K : PySem.W.Frag} {C : Addr} {H : Hp} {x s : Addr} {most : Int} {p : Int × Int} {ps ks : List (Int × Int)} {ts : List Addr} {acc : List Step} {w4 : Option V} {N N2 N3 : L2.St → Hp → Prop} {R : VK} (row : RowAt K C H x ps ks) (ok : RowOk ps ks) (m1 : 1 ≤ most) (m2 : most ≤ 99) (hp : p ∈ ps)
    (hs : H s = some (.lst (ts.map V.ref))) (hts : Paired (TupS H) ts acc) (short : acc.length ≤ 3200)
    (hN : ∀ H' us acc', SameBut s H H' → H' s = some (.lst (us.map V.ref)) → Paired (TupS H') us acc' → acc'.length ≤ acc.length + 80 → (∀ qs r, Traces (cnt ps) (cap ks) most qs acc' r → Traces (cnt ps) (cap ks) most (p :: qs) acc r) → N [some (.ref x), some (.int most), some (.ref s), some (.int p.1), w4] H') :
    t_trBody K C { nx := N, rt := R, bk := N2, ct := N3 } [some (.ref x), some (.int most), some (.ref s), some (.int p.1), w4] H := by
  have c1 : 1 ≤ cnt ps p.1 := by
    unfold cnt
    rw [(lookup_some (n := p.2) ok.nd).mpr hp]
    exact (ok.po p hp).1
  have go : (acc = [] ∨ lastIdx acc < p.1) → tDrop (tBM K "list" rExtend (tVar 2) (tCons (tCall (spStepsFrom K C) [] E0 (tCons (tVar 0) (tCons (tVar 1) (tCons (tVar 3) (tNil))))) (tNil))) { nx := N, rt := R, bk := N2, ct := N3 } [some (.ref x), some (.int most), some (.ref s), some (.int p.1), w4] H := by
    intro on
    refine ⟨_, rfl, .inl ⟨rfl, _, SqL.of hs⟩, _, rfl, _, rfl, _, rfl, x, most, p.1, ps, ks, rfl, row, ok, m1, m2, c1, fun s2 H2 w hs2 k2 st2 wk len => ?_⟩
    obtain ⟨vs, L2', hvs⟩ := st2
    have L1 := k2 _ _ hs
    have tl := paired_len hts
    have vl := paired_len hvs
    refine ⟨s, s2, _, _, rfl, rfl, L1, L2', ?_, ?_⟩
    · rw [List.length_map, List.length_map, tl, vl]
      exact Nat.le_trans (by omega : acc.length + w.length ≤ 3280) (by decide)
    have keep : ∀ {b : Addr} {st : Step}, TupS H2 b st → TupS (upd H2 s (.lst (ts.map V.ref ++ vs.map V.ref))) b st := fun {b st} z => (upd_ne (ne_of z L1 (by intro e; cases e))).trans z
    refine hN _ (ts ++ vs) (acc ++ w) (fun b o ne h => (upd_ne ne).trans (k2 _ _ h)) ?_ (paired_append (paired_imp (fun _ _ z => keep (k2 _ _ z)) hts) (paired_imp (fun _ _ z => keep z) hvs)) ?_ fun qs r t => .walk on wk t
    · rw [upd_same, List.map_append]
    · rw [List.length_append]
      omega
  have tl := paired_len hts
  refine ⟨_, rfl, _, .inl ⟨_, SqL.of hs, rfl⟩, ?_⟩
  cases hacc : acc with
  | nil =>
    rw [hacc] at tl
    have e : ts = [] := List.length_eq_zero_iff.mp tl
    rw [e]
    exact iteT (iteT (go (.inl hacc)))
  | cons a r =>
    have ne : acc ≠ [] := by rw [hacc]; simp
    obtain ⟨t, st, g1, g2, g3⟩ := paired_last hts ne
    have tne : ts ≠ [] := fun z => by rw [z] at g1; cases g1
    have li : lastIdx acc = st.1 := by unfold lastIdx; rw [g2]; rfl
    have emp : (ts.map V.ref).isEmpty = false := by
      cases ts with
      | nil => exact absurd rfl tne
      | cons _ _ => rfl
    rw [emp]
    have at1 : atI (ts.map V.ref) (-1) = some (.ref t) := at_last (by rw [List.getLast?_map, g1]; rfl)
    refine iteF ⟨_, rfl, 1, rfl, s, _, -1, _, rfl, rfl, SqL.of hs, at1, t, _, 0, _, rfl, rfl, SqT.of g3, rfl, _, rfl, _, _, rfl, rfl, _, rfl, ?_⟩
    by_cases lt : lastIdx acc < p.1
    · rw [li] at lt
      rw [decide_eq_true lt]
      exact iteT (go (.inr (by rw [li]; exact lt)))
    · rw [li] at lt
      rw [decide_eq_false lt]
      refine iteF (hN H ts acc (fun _ _ _ h => h) hs hts (by omega) fun qs r2 tt => .skip ne (by rw [li]; exact lt) tt)
theorem pure_trace {K : PySem.W.Frag} {C B : Addr} (vs : List V) (H : Hp) (Q : VK) (E : XK) (h : spTrace K C B vs H Q E) :
    t_trace K B C E { nx := fun _ H' => Q .non H', rt := Q } (start ["row", "capacity", "steps", "start", "_"] vs) H := by
  obtain ⟨x, v, t, ps, ks, rfl, hv, row, ok, bad, q⟩ := h
  refine ⟨_, rfl, v, t, rfl, hv, _, rfl, ?_⟩
  cases e : btw 1 99 v with
  | false => exact iteT (bad e)
  | true =>
  obtain ⟨most, rfl, m1, m2⟩ := btw_iff.mp e
  refine iteF ⟨sz (Nat.zero_le _), fun s hs => ?_⟩
  have s1 := same_new (o := .lst []) hs
  have L1 : upd H s (.lst []) s = some (.lst []) := upd_same
  generalize upd H s (.lst []) = H1 at s1 L1 ⊢
  have row1 := row.same s1
  obtain ⟨dx, fs, hx, no1, no2⟩ := row1.ins
  refine ⟨_, rfl, x, dx, fs, rfl, hx, x, ps, ks, rfl, row1, fun c hc => ⟨c, rfl, ?_⟩⟩
  obtain ⟨ts0, bc, pc⟩ := hc
  refine ⟨⟨_, bc.sq⟩, ?_⟩
  refine for_it (walk_tup (K := K) (a := c) (xs := ts0.map V.ref)) (fun i σ H2 => SameBut s H1 H2 ∧ ∃ us acc w3 w4, H2 s = some (.lst (us.map V.ref)) ∧ Paired (TupS H2) us acc ∧ acc.length ≤ 80 * i ∧ (∀ r, Traces (cnt ps) (cap ks) most (ps.drop i) acc r → Traces (cnt ps) (cap ks) most ps [] r) ∧ σ = [some (.ref x), some (.int most), some (.ref s), w3, w4])
    ⟨fun b o _ h => h, [], [], none, none, L1, .nil, Nat.zero_le _, fun r z => z, rfl⟩ ?_ ?_ ?_
  · rintro i σ H2 _ ⟨k2, _⟩
    refine Bare.sq ?_
    obtain ⟨o, a1, a2⟩ := bc
    exact ⟨o, k2 _ _ (fun z => by rw [z, L1] at a1; cases a1) a1, a2⟩
  · rintro i v2 σ H2 H3 hi ⟨k2, us, acc, w3, w4, L2', hus, len, tr, rfl⟩ ⟨rfl, hv2⟩
    rw [List.getElem?_map] at hv2
    obtain ⟨u, hu, rfl⟩ := Option.map_eq_some_iff.mp hv2
    obtain ⟨p, hp, hat⟩ := paired_at pc hu
    have at2 : TupAt H3 u p := k2 _ _ (fun z => by
      unfold TupAt at hat
      rw [z, L1] at hat
      cases hat) hat
    have pl : ps.length ≤ 40 := ok.len
    have ip : i < ps.length := (List.getElem?_eq_some_iff.mp hp).1
    refine ⟨u, _, rfl, SqT.of at2, rfl, _, _, rfl, _, _, rfl, rfl, ?_⟩
    show t_trBody K C _ [some (.ref x), some (.int most), some (.ref s), some (.int p.1), some (.int p.2)] H3
    refine tr_body (row1.but L1 k2) ok m1 m2 (List.mem_of_getElem? hp) L2' hus (by omega) fun H4 us4 acc4 k4 L4 hus4 len4 tr4 => ⟨k2.trans k4, us4, acc4, _, _, L4, hus4, by omega, fun r z => tr r ?_, rfl⟩
    have dr : ps.drop i = p :: ps.drop (i + 1) := by
      rw [List.drop_eq_getElem_cons ip]
      congr 1
      exact (List.getElem?_eq_some_iff.mp hp).2
    rw [dr]
    exact tr4 _ r z
  · rintro σ H2 ⟨k2, us, acc, w3, w4, L2', hus, len, tr, rfl⟩
    have pl : ps.length ≤ 40 := ok.len
    have tl : (ts0.map V.ref).length = ps.length := by rw [List.length_map, paired_len pc]
    rw [tl] at len tr
    rw [List.drop_length] at tr
    exact ⟨_, rfl, q most rfl m1 m2 s H2 acc hs (fun b o hb => k2 b o (ne_of_none hb hs) (s1 b o hb)) ⟨us, L2', hus⟩ (tr _ .nil) (by omega)⟩
end SR

set_option Elab.async false
set_option linter.all false
set_option maxRecDepth 100000
set_option maxHeartbeats 4000000
/-! SRX2: what a trace leaves is a row. -/
namespace SR
open PySem PySem.Spec PyProof.Rows L2
/-- indexes ascend -/
def AscS (st : List Step) : Prop := st.Pairwise fun a b => a.1 < b.1
/-- what every step is -/
def StepOk (ps ks : List (Int × Int)) (s : Step) : Prop := s.2.2.1 = cnt ps s.1 ∧ 0 ≤ s.2.2.2.2 ∧ s.2.2.2.2 ≤ cap ks s.1
def sumIn (st : List Step) : Int := (st.map fun s => s.2.2.1).sum
def sumOut (st : List Step) : Int := (st.map fun s => s.2.2.2.2).sum
theorem step_ok {ps ks : List (Int × Int)} (ok : RowOk ps ks) {most i l : Int} (m1 : 1 ≤ most) (l0 : 0 ≤ l) (l1 : l ≤ most) :
    StepOk ps ks (stepAt (cnt ps) (cap ks) most i l) ∧ (0 ≤ stL most l (cap ks i) (cnt ps i) ∧ stL most l (cap ks i) (cnt ps i) ≤ most) ∧ stC most l (cap ks i) (cnt ps i) + stL most l (cap ks i) (cnt ps i) = cnt ps i + l := by
  have c := cap_ok ok.ko i
  have n := cnt_bd ok i
  refine ⟨⟨rfl, ?_, ?_⟩, ?_, ?_⟩
  · show 0 ≤ stC most l (cap ks i) (cnt ps i)
    unfold stC
    omega
  · show stC most l (cap ks i) (cnt ps i) ≤ cap ks i
    unfold stC
    omega
  · unfold stL
    omega
  · unfold stC stL
    omega
theorem walks_all {ps ks : List (Int × Int)} (ok : RowOk ps ks) {most : Int} (m1 : 1 ≤ most) {i l : Int} {w : List Step} (h : Walks (cnt ps) (cap ks) most i l w) : 0 ≤ l → l ≤ most → AscS w ∧ (∀ s ∈ w, i ≤ s.1 ∧ StepOk ps ks s) ∧ sumOut w = sumIn w + l := by
  induction h with
  | @last i l h =>
    intro l0 l1
    obtain ⟨a, b, c⟩ := step_ok (i := i) ok m1 l0 l1
    refine ⟨List.pairwise_singleton _ _, fun s m => ?_, ?_⟩
    · rw [List.mem_singleton.mp m]
      exact ⟨Int.le_refl _, a⟩
    · show stC most l (cap ks i) (cnt ps i) + 0 = cnt ps i + 0 + l
      omega
  | @more i l r h t ih =>
    intro l0 l1
    obtain ⟨a, b, c⟩ := step_ok (i := i) ok m1 l0 l1
    obtain ⟨d, e, f⟩ := ih b.1 b.2
    refine ⟨List.pairwise_cons.mpr ⟨fun s m => ?_, d⟩, fun s m => ?_, ?_⟩
    · have := (e s m).1
      show i < s.1
      omega
    · rcases List.mem_cons.mp m with rfl | m
      · exact ⟨Int.le_refl _, a⟩
      · have := e s m
        exact ⟨by omega, this.2⟩
    · show stC most l (cap ks i) (cnt ps i) + sumOut r = cnt ps i + sumIn r + l
      omega
theorem sum_app (a b : List Step) : sumIn (a ++ b) = sumIn a + sumIn b ∧ sumOut (a ++ b) = sumOut a + sumOut b := by
  unfold sumIn sumOut
  rw [List.map_append, List.map_append, List.sum_append, List.sum_append]
  exact ⟨rfl, rfl⟩
theorem last_most {acc : List Step} (h : AscS acc) : ∀ s ∈ acc, s.1 ≤ lastIdx acc := by
  intro s m
  unfold lastIdx
  cases e : acc.getLast? with
  | none =>
    rw [List.getLast?_eq_none_iff.mp e] at m
    cases m
  | some z =>
    show s.1 ≤ z.1
    obtain ⟨ys, rfl⟩ := List.getLast?_eq_some_iff.mp e
    rcases List.mem_append.mp m with m | m
    · have := (List.pairwise_append.mp h).2.2 s m z (List.mem_singleton.mpr rfl)
      omega
    · rw [List.mem_singleton.mp m]
      exact Int.le_refl _
theorem traces_all {ps ks : List (Int × Int)} (ok : RowOk ps ks) {most : Int} (m1 : 1 ≤ most) {qs : List (Int × Int)} {acc st : List Step} (h : Traces (cnt ps) (cap ks) most qs acc st) : AscS acc → (∀ s ∈ acc, StepOk ps ks s) → sumOut acc = sumIn acc → AscS st ∧ (∀ s ∈ st, StepOk ps ks s) ∧ sumOut st = sumIn st := by
  induction h with
  | nil => exact fun a b c => ⟨a, b, c⟩
  | skip _ _ _ ih => exact ih
  | @walk p qs acc w r on hw t ih =>
    intro a b c
    obtain ⟨d, e, f⟩ := walks_all ok m1 hw (Int.le_refl 0) (by omega)
    obtain ⟨s1, s2⟩ := sum_app acc w
    refine ih (List.pairwise_append.mpr ⟨a, d, fun x hx y hy => ?_⟩) (fun s m => ?_) (by omega)
    · rcases on with on | on
      · rw [on] at hx
        cases hx
      · have z1 := last_most a x hx
        have z2 := (e y hy).1
        omega
    · rcases List.mem_append.mp m with m | m
      · exact b s m
      · exact (e s m).2
theorem sumFrom_mono {ps : List (Int × Int)} (h : ∀ p ∈ ps, 1 ≤ p.2) {i j : Int} (ij : i ≤ j) : sumFrom j ps ≤ sumFrom i ps := by
  induction ps with
  | nil => exact Int.le_refl _
  | cons p ps ih =>
    have a := ih fun q m => h q (List.mem_cons_of_mem _ m)
    have b := h p List.mem_cons_self
    rw [sumFrom_cons, sumFrom_cons]
    split <;> split <;> omega
theorem sumIn_le {ps ks : List (Int × Int)} (ok : RowOk ps ks) : ∀ {st : List Step} (i : Int), AscS st → (∀ s ∈ st, i ≤ s.1 ∧ StepOk ps ks s) → sumIn st ≤ sumFrom i ps
  | [], i, _, _ => (sumFrom_bd i fun p m => (ok.po p m).1).1
  | s :: st, i, a, b => by
    have a' := List.pairwise_cons.mp a
    have hs := b s List.mem_cons_self
    have ih := sumIn_le ok (s.1 + 1) a'.2 fun t m => ⟨by have := a'.1 t m; omega, (b t (List.mem_cons_of_mem _ m)).2⟩
    have nx := sumFrom_next s.1 ok.nd
    have mo := sumFrom_mono (fun p m => (ok.po p m).1) hs.1
    have e := hs.2.1
    show s.2.2.1 + sumIn st ≤ _
    omega
/-- the items that steps leave -/
def left (st : List Step) : List (Int × Int) := (st.filter fun s => decide (0 < s.2.2.2.2)).map fun s => (s.1, s.2.2.2.2)
theorem left_sum : ∀ {st : List Step}, (∀ s ∈ st, 0 ≤ s.2.2.2.2) → ((left st).map Prod.snd).sum = sumOut st
  | [], _ => rfl
  | s :: st, h => by
    have ih := left_sum (st := st) fun t m => h t (List.mem_cons_of_mem _ m)
    have z := h s List.mem_cons_self
    show _ = s.2.2.2.2 + sumOut st
    unfold left at ih ⊢
    by_cases e : 0 < s.2.2.2.2
    · rw [List.filter_cons_of_pos (p := fun s : Step => decide (0 < s.2.2.2.2)) (decide_eq_true e), List.map_cons, List.map_cons, List.sum_cons, ih]
    · rw [List.filter_cons_of_neg (p := fun s : Step => decide (0 < s.2.2.2.2)) (by rw [decide_eq_false e]; exact Bool.false_ne_true), ih]
      omega
theorem left_ok {ps ks : List (Int × Int)} (ok : RowOk ps ks) {most : Int} (m1 : 1 ≤ most) {st : List Step} (h : Traces (cnt ps) (cap ks) most ps [] st) : RowOk (left st) ks ∧ Asc (left st) ∧ ((left st).map Prod.snd).sum = sumIn st := by
  obtain ⟨a, b, c⟩ := traces_all ok m1 h List.Pairwise.nil (fun s m => nomatch m) rfl
  have asc : Asc (left st) := by
    unfold Asc left
    rw [List.pairwise_map]
    exact List.Pairwise.filter _ a
  have sm := left_sum fun s m => (b s m).2.1
  have low : ∃ i : Int, ∀ s ∈ st, i ≤ s.1 := by
    cases st with
    | nil => exact ⟨0, fun s m => nomatch m⟩
    | cons s st =>
      refine ⟨s.1, fun t m => ?_⟩
      rcases List.mem_cons.mp m with rfl | m
      · exact Int.le_refl _
      · have := (List.pairwise_cons.mp a).1 t m
        omega
  obtain ⟨i, low⟩ := low
  have le := sumIn_le ok i a fun s m => ⟨low s m, b s m⟩
  have top := (sumFrom_bd i fun p m => (ok.po p m).1).2
  have s40 := ok.sm
  refine ⟨⟨asc_nd asc, ok.kd, ok.kl, ok.ko, fun p m => ?_, by omega⟩, asc, by omega⟩
  obtain ⟨s, hs, rfl⟩ := List.mem_map.mp m
  obtain ⟨hs1, hs2⟩ := List.mem_filter.mp hs
  have := of_decide_eq_true hs2
  exact ⟨by show 1 ≤ s.2.2.2.2; omega, (b s hs1).2.2⟩
end SR

set_option Elab.async false
set_option linter.all false
set_option maxRecDepth 100000
set_option maxHeartbeats 4000000
/-! SRY2: a sweep. -/
namespace SR
open PySem PySem.Spec PyProof.Rows L2
def spLeftBy (K : PySem.W.Frag) : Sp := fun vs H Q _ => ∃ a st, vs = [.ref a] ∧ StepsAt H a st ∧ st.length ≤ 3200 ∧ ∀ r H' us, H r = none → Same H H' → H' r = some (.lst (us.map V.ref)) → Paired (TupAt H') us (left st) → Q (.ref r) H'
def t_left_by (K : PySem.W.Frag) : TS := tRet (tLc (iList K (tVar 0)) (gTup K 5 (gCons (gName 1) (gCons (gName 2) (gCons (gName 2) (gCons (gName 2) (gCons (gName 3) (gNil))))))) (tTest (tOp qGt (tVar 3) (tC (.int 0)))) (tTup (tCons (tVar 1) (tCons (tVar 3) (tNil)))) [1, 2, 3])
theorem left_snoc (st : List Step) (s : Step) : left (st ++ [s]) = left st ++ (if 0 < s.2.2.2.2 then [(s.1, s.2.2.2.2)] else []) := by
  unfold left
  rw [List.filter_append, List.map_append]
  by_cases e : 0 < s.2.2.2.2
  · rw [if_pos e, List.filter_cons_of_pos (p := fun s : Step => decide (0 < s.2.2.2.2)) (decide_eq_true e)]
    rfl
  · rw [if_neg e, List.filter_cons_of_neg (p := fun s : Step => decide (0 < s.2.2.2.2)) (by rw [decide_eq_false e]; exact Bool.false_ne_true)]
    rfl
theorem left_len (st : List Step) : (left st).length ≤ st.length := by
  unfold left
  rw [List.length_map]
  exact List.length_filter_le _ _
theorem pure_left_by {K : PySem.W.Frag} (vs : List V) (H : Hp) (Q : VK) (E : XK) (h : spLeftBy K vs H Q E) : t_left_by K { nx := fun _ H' => Q .non H', rt := Q } (start ["steps", "index", "_", "new_count"] vs) H := by
  obtain ⟨a, st, rfl, ⟨ts, hA, hts⟩, len, q⟩ := h
  refine ⟨_, rfl, a, rfl, ⟨_, SqL.of hA⟩, fun D hD => ?_⟩
  refine lc_it (walk_list (K := K) (a := a) (xs := ts.map V.ref)) (fun i H1 => Same H H1 ∧ ∃ us, H1 D = some (.lst (us.map V.ref)) ∧ Paired (TupAt H1) us (left (st.take i))) ⟨same_new hD, [], upd_same, .nil⟩ ?_ ?_ ?_
  · rintro i H1 _ ⟨s1, _⟩
    exact SqL.of (s1 _ _ hA)
  · rintro i v H1 H2 hi ⟨s1, us, d1, hus⟩ ⟨rfl, hv⟩
    rw [List.getElem?_map] at hv
    obtain ⟨t, ht, rfl⟩ := Option.map_eq_some_iff.mp hv
    obtain ⟨s, hs, hat⟩ := paired_at hts ht
    have T1 : TupS H2 t s := s1 _ _ hat
    have tk : st.take (i + 1) = st.take i ++ [s] := by
      rw [List.take_succ, hs]
      rfl
    have ul : us.length ≤ 3200 := by
      have a1 := paired_len hus
      have a2 := left_len (st.take i)
      rw [List.length_take] at a2
      have a3 := Nat.min_le_right i st.length
      omega
    refine ⟨t, _, rfl, SqT.of T1, rfl, _, _, rfl, _, _, rfl, _, _, rfl, _, _, rfl, _, _, rfl, rfl, rfl, _, rfl, _, _, rfl, rfl, _, rfl, ?_⟩
    by_cases e : 0 < s.2.2.2.2
    · rw [decide_eq_true e]
      refine iteT ⟨_, rfl, _, rfl, sz (by show 2 ≤ 1000; decide), fun n hn => ?_⟩
      have s3 := same_new (o := .tup [.int s.1, .int s.2.2.2.2]) hn
      have T3 : TupAt (upd H2 n (.tup [.int s.1, .int s.2.2.2.2])) n (s.1, s.2.2.2.2) := upd_same
      generalize upd H2 n (.tup [.int s.1, .int s.2.2.2.2]) = H3 at s3 T3 ⊢
      have d3 := s3 _ _ d1
      have keep : ∀ {b : Addr} {p : Int × Int}, TupAt H3 b p → TupAt (upd H3 D (.lst (us.map V.ref ++ [.ref n]))) b p := fun {b p} z => (upd_ne (ne_of z d3 (by intro e; cases e))).trans z
      refine ⟨_, d3, ?_, same_upd (s1.trans s3) hD, us ++ [n], ?_, ?_⟩
      · rw [List.length_map]
        exact Nat.lt_of_le_of_lt ul (by decide)
      · rw [upd_same, List.map_append]
        rfl
      · rw [tk, left_snoc, if_pos e]
        exact paired_snoc (keep T3) (paired_imp (fun _ _ z => keep (s3 _ _ z)) hus)
    · rw [decide_eq_false e]
      refine iteF ⟨s1, us, d1, ?_⟩
      rw [tk, left_snoc, if_neg e, List.append_nil]
      exact hus
  · rintro H1 ⟨s1, us, d1, hus⟩
    have tl : (ts.map V.ref).length = st.length := by rw [List.length_map, paired_len hts]
    rw [tl, List.take_length] at hus
    exact q D H1 us hD s1 d1 hus
def spSweep (K : PySem.W.Frag) (C B : Addr) : Sp := fun vs H Q E => ∃ x v t ps ks, vs = [.ref x, v] ∧ AnyT K H v t ∧ RowAt K C H x ps ks ∧ RowOk ps ks ∧ Asc ks ∧ (btw 1 99 v = false → E (.ref B) none H) ∧
  ∀ most, v = .int most → 1 ≤ most → most ≤ 99 → ∀ y H' st, H y = none → Same H H' → Traces (cnt ps) (cap ks) most ps [] st → RowAt K C H' y (left st) ks → Q (.ref y) H'
def t_sweep (K : PySem.W.Frag) (c_BadCapacity c_Row : Addr) (E : XK) : TS := tRet (tMake c_Row (spRowInit K c_Row) [] E0 (tCons (tCall (spLeftBy K) [] E0 (tCons (tCall (spTrace K c_Row c_BadCapacity) [] E (tCons (tVar 0) (tCons (tVar 1) (tNil)))) (tNil))) (tCons (tProp c_Row (spCapacities K c_Row) [] E0 (tVar 0)) (tNil))))
theorem pure_sweep {K : PySem.W.Frag} {C B : Addr} (vs : List V) (H : Hp) (Q : VK) (E : XK) (h : spSweep K C B vs H Q E) : t_sweep K B C E { nx := fun _ H' => Q .non H', rt := Q } (start ["row", "capacity"] vs) H := by
  obtain ⟨x, v, t, ps, ks, rfl, hv, row, ok, ak, bad, q⟩ := h
  refine ⟨_, rfl, _, rfl, x, v, t, ps, ks, rfl, hv, row, ok, bad, fun most e m1 m2 s H1 st hs s1 hst tr len => ?_⟩
  subst e
  refine ⟨s, st, rfl, hst, len, fun r H2 us hr s2 rd rp => ?_⟩
  have pr : PairsAt K H2 r (left st) := ⟨us, .inl (SqL.of rd), rp⟩
  have row2 := (row.same s1).same s2
  obtain ⟨dx, fs, hx, _, _⟩ := row2.ins
  refine ⟨_, rfl, x, dx, fs, rfl, hx, x, ps, ks, rfl, row2, fun c hc => ?_⟩
  obtain ⟨lo, la, _⟩ := left_ok ok m1 tr
  refine make_row pr hc.at lo fun y H3 qs ls hy s3 ry p1 p2 a1 a2 => ?_
  have z1 := asc_eq a1 la p1
  have z2 := asc_eq a2 ak p2
  subst z1 z2
  exact q most rfl m1 m2 y H3 st (Same.free s1 (Same.free s2 hy)) (s1.trans (s2.trans s3)) tr ry
end SR

set_option Elab.async false
set_option linter.all false
set_option maxRecDepth 100000
set_option maxHeartbeats 4000000
/-! SRZ2: a row mirrored. -/
namespace SR
open PySem PySem.Spec PyProof.Rows L2
/-- a list of new pairs over a tuple of pairs -/
theorem lc_tups {K : PySem.W.Frag} {te : TE} {g : TG} {telt : TE} {vs : List Nat} {σ : L2.St} {H : Hp} {ps : List (Int × Int)} {Q : VK} (f : Int × Int → Int × Int) (hte : ∀ R : VK, (∀ c, PairsT H c ps → R (.ref c) H) → te σ H R) (hl : ps.length ≤ 1000)
    (hs : ∀ t p H' (R : VK), Same H H' → TupAt H' t p → (∀ n, H' n = none → R (.ref n) (upd H' n (.tup [.int (f p).1, .int (f p).2]))) → g (.ref t) (wipe σ vs) H' fun σ2 H2 => wipe σ2 vs = wipe σ vs ∧ telt σ2 H2 R)
    (hQ : ∀ D H', H D = none → Same H H' → PairsAt K H' D (ps.map f) → Q (.ref D) H') : tLc (iTup K te) g tYes telt vs σ H Q := by
  refine hte _ fun c hp => ?_
  obtain ⟨ts, bc, hts⟩ := hp
  have hlen : (ts.map V.ref).length = ps.length := by rw [List.length_map, paired_len hts]
  refine ⟨c, rfl, ⟨_, bc.sq⟩, fun D hD => ?_⟩
  refine lc_it (walk_tup (K := K) (a := c) (xs := ts.map V.ref)) (fun i H1 => Same H H1 ∧ ∃ us, H1 D = some (.lst (us.map V.ref)) ∧ Paired (TupAt H1) us ((ps.take i).map f)) ⟨same_new hD, [], upd_same, .nil⟩ (fun i H1 _ h => (bc.same h.1).sq) ?_ ?_
  · rintro i v H1 H2 hi ⟨s1, us, d1, hus⟩ ⟨rfl, hv⟩
    rw [List.getElem?_map] at hv
    obtain ⟨t, ht, rfl⟩ := Option.map_eq_some_iff.mp hv
    obtain ⟨p, hpi, hat⟩ := paired_at hts ht
    have ul : us.length ≤ 1000 := by
      rw [paired_len hus, List.length_map, List.length_take]
      exact Nat.le_trans (Nat.min_le_right _ _) hl
    refine hs t p H2 _ s1 (s1 _ _ hat) fun n hn => ?_
    have s3 := same_new (o := .tup [.int (f p).1, .int (f p).2]) hn
    have T3 : TupAt (upd H2 n (.tup [.int (f p).1, .int (f p).2])) n (f p) := upd_same
    generalize upd H2 n (.tup [.int (f p).1, .int (f p).2]) = H3 at s3 T3 ⊢
    have d3 := s3 _ _ d1
    have keep : ∀ {b : Addr} {p : Int × Int}, TupAt H3 b p → TupAt (upd H3 D (.lst (us.map V.ref ++ [.ref n]))) b p := fun {b p} z => (upd_ne (ne_of z d3 (by intro e; cases e))).trans z
    refine ⟨_, d3, ?_, same_upd (s1.trans s3) hD, us ++ [n], ?_, ?_⟩
    · rw [List.length_map]
      exact Nat.lt_of_le_of_lt ul (by decide)
    · rw [upd_same, List.map_append]
      rfl
    · rw [List.take_succ, hpi, List.map_append]
      exact paired_snoc (keep T3) (paired_imp (fun _ _ z => keep (s3 _ _ z)) hus)
  · rintro H1 ⟨s1, us, d1, hus⟩
    rw [hlen, List.take_length] at hus
    exact hQ D H1 hD s1 ⟨us, .inl (SqL.of d1), hus⟩
def neg1 (p : Int × Int) : Int × Int := (-p.1, p.2)
/-- the row seen from the other side -/
def mirror (ps : List (Int × Int)) : List (Int × Int) := (ps.map neg1).reverse
theorem mirror_perm (ps : List (Int × Int)) : (mirror ps).Perm (ps.map neg1) := List.reverse_perm _
theorem mirror_asc {ps : List (Int × Int)} (h : Asc ps) : Asc (mirror ps) := by
  unfold Asc mirror
  rw [List.pairwise_reverse, List.pairwise_map]
  refine h.imp fun {a b} z => ?_
  show -b.1 < -a.1
  omega
theorem lookup_neg (i : Int) : ∀ ps : List (Int × Int), (ps.map neg1).lookup (-i) = ps.lookup i
  | [] => rfl
  | p :: ps => by
    obtain ⟨j, n⟩ := p
    show List.lookup (-i) ((-j, n) :: ps.map neg1) = _
    rw [List.lookup_cons, List.lookup_cons, lookup_neg i ps]
    by_cases e : i = j
    · subst e
      rw [beq_self_eq_true, beq_self_eq_true]
    · rw [beq_eq_false_iff_ne.mpr e, beq_eq_false_iff_ne.mpr (fun z => e (by omega))]
theorem neg_nd {ps : List (Int × Int)} (h : (ps.map Prod.fst).Nodup) : ((ps.map neg1).map Prod.fst).Nodup := by
  unfold List.Nodup at *
  rw [List.pairwise_map, List.pairwise_map] at *
  refine h.imp fun {a b} z e => z ?_
  have : -a.1 = -b.1 := e
  omega
theorem neg_ok {ps ks : List (Int × Int)} (h : RowOk ps ks) : RowOk (ps.map neg1) (ks.map neg1) := by
  have ce : ∀ i, cap (ks.map neg1) (-i) = cap ks i := fun i => by
    unfold cap
    rw [lookup_neg]
  refine ⟨neg_nd h.nd, neg_nd h.kd, by rw [List.length_map]; exact h.kl, fun p m => ?_, fun p m => ?_, ?_⟩
  · obtain ⟨q, hq, rfl⟩ := List.mem_map.mp m
    have := h.ko q hq
    unfold sizeOk neg1 at *
    exact ⟨⟨by show -60 ≤ -q.1; omega, by show -q.1 ≤ 60; omega⟩, this.2⟩
  · obtain ⟨q, hq, rfl⟩ := List.mem_map.mp m
    have := h.po q hq
    show 1 ≤ q.2 ∧ q.2 ≤ cap (ks.map neg1) (-q.1)
    rw [ce]
    exact this
  · rw [List.map_map]
    exact h.sm
def spMirrored (K : PySem.W.Frag) (C : Addr) : Sp := fun vs H Q _ => ∃ x ps ks, vs = [.ref x] ∧ RowAt K C H x ps ks ∧ RowOk ps ks ∧ Asc ps ∧ Asc ks ∧ ∀ y H', H y = none → Same H H' → RowAt K C H' y (mirror ps) (mirror ks) → RowOk (mirror ps) (mirror ks) → Asc (mirror ps) → Asc (mirror ks) → Q (.ref y) H'
def t_mirrored (K : PySem.W.Frag) (c_Row : Addr) : TS := tSeq (tAsg (tLc (iTup K (tProp c_Row (spContents K c_Row) [] E0 (tVar 0))) (gTup K 2 (gCons (gName 2) (gCons (gName 3) (gNil)))) (tYes) (tTup (tCons (tUn (rU fun i => .int (-i)) (tVar 2)) (tCons (tVar 3) (tNil)))) [2, 3]) (gName 1))
  (tRet (tMake c_Row (spRowInit K c_Row) [] E0 (tCons (tVar 1) (tCons (tLc (iTup K (tProp c_Row (spCapacities K c_Row) [] E0 (tVar 0))) (gTup K 2 (gCons (gName 2) (gCons (gName 4) (gNil)))) (tYes) (tTup (tCons (tUn (rU fun i => .int (-i)) (tVar 2)) (tCons (tVar 4) (tNil)))) [2, 4]) (tNil)))))
theorem pure_mirrored {K : PySem.W.Frag} {C : Addr} (vs : List V) (H : Hp) (Q : VK) (E : XK) (h : spMirrored K C vs H Q E) : t_mirrored K C { nx := fun _ H' => Q .non H', rt := Q } (start ["row", "contents", "index", "count", "capacity"] vs) H := by
  obtain ⟨x, ps, ks, rfl, row, ok, ap, ak, q⟩ := h
  obtain ⟨dx, fs, hx, _, _⟩ := row.ins
  have pl := ok.len
  have kl := ok.kl
  unfold t_mirrored
  try rw [← xLc_eq]
  show xLc (iTup K (tProp C (spContents K C) [] E0 (tVar 0))) (gTup K 2 (gCons (gName 2) (gCons (gName 3) gNil))) tYes (tTup (tCons (tUn (rU fun i => .int (-i)) (tVar 2)) (tCons (tVar 3) tNil))) [2, 3] [some (.ref x), none, none, none, none] H _
  try rw [xLc_eq]
  refine lc_tups neg1 (fun R r => ⟨_, rfl, x, dx, fs, rfl, hx, x, ps, ks, rfl, row, r⟩) (by omega) (fun t p H1 R s1 at1 r => ?_) (fun l1 H1 hl1 s1 pr1 => ?_)
  · exact ⟨t, _, rfl, SqT.of at1, rfl, _, _, rfl, _, _, rfl, rfl, rfl, _, rfl, _, rfl, _, rfl, sz (by show 2 ≤ 1000; decide), r⟩
  have hx1 := s1 _ _ hx
  refine ⟨_, rfl, ?_⟩
  try rw [← xLc_eq]
  show xLc (iTup K (tProp C (spCapacities K C) [] E0 (tVar 0))) (gTup K 2 (gCons (gName 2) (gCons (gName 4) gNil))) tYes (tTup (tCons (tUn (rU fun i => .int (-i)) (tVar 2)) (tCons (tVar 4) tNil))) [2, 4] [some (.ref x), some (.ref l1), none, none, none] H1 _
  try rw [xLc_eq]
  refine lc_tups neg1 (fun R r => ⟨_, rfl, x, dx, fs, rfl, hx1, x, ps, ks, rfl, row.same s1, r⟩) (by omega) (fun t p H2 R s2 at2 r => ?_) (fun l2 H2 hl2 s2 pr2 => ?_)
  · exact ⟨t, _, rfl, SqT.of at2, rfl, _, _, rfl, _, _, rfl, rfl, rfl, _, rfl, _, rfl, _, rfl, sz (by show 2 ≤ 1000; decide), r⟩
  refine make_row (pr1.same s2) pr2 (neg_ok ok) fun y H3 qs ls hy s3 ry p1 p2 a1 a2 => ?_
  have mp := mirror_asc ap
  have mk := mirror_asc ak
  have z1 := asc_eq a1 mp (p1.trans (mirror_perm ps).symm)
  have z2 := asc_eq a2 mk (p2.trans (mirror_perm ks).symm)
  subst z1 z2
  exact q y H3 (Same.free s1 (Same.free s2 hy)) (s1.trans (s2.trans s3)) ry ((neg_ok ok).perm (mirror_perm ps) (mirror_perm ks)) mp mk
def spUnsweep (K : PySem.W.Frag) (C B : Addr) : Sp := fun vs H Q E => ∃ x v t ps ks, vs = [.ref x, v] ∧ AnyT K H v t ∧ RowAt K C H x ps ks ∧ RowOk ps ks ∧ Asc ps ∧ Asc ks ∧ (btw 1 99 v = false → ∀ H', Same H H' → E (.ref B) none H') ∧
  ∀ most, v = .int most → 1 ≤ most → most ≤ 99 → ∀ y H' st, H y = none → Same H H' → Traces (cnt (mirror ps)) (cap (mirror ks)) most (mirror ps) [] st → RowAt K C H' y (mirror (left st)) ks → RowOk (mirror (left st)) ks → Asc (mirror (left st)) → Q (.ref y) H'
theorem mirror_mirror (ps : List (Int × Int)) : mirror (mirror ps) = ps := by
  unfold mirror
  rw [List.map_reverse, List.reverse_reverse, List.map_map]
  have : ∀ p ∈ ps, (neg1 ∘ neg1) p = p := fun p _ => by
    show (- -p.1, p.2) = p
    rw [Int.neg_neg]
  rw [List.map_congr_left this, List.map_id']
def t_unsweep (K : PySem.W.Frag) (c_BadCapacity : Addr) (c_Row : Addr) (E : XK) : TS := tRet (tCall (spMirrored K c_Row) [] E0 (tCons (tCall (spSweep K c_Row c_BadCapacity) [] E (tCons (tCall (spMirrored K c_Row) [] E0 (tCons (tVar 0) (tNil))) (tCons (tVar 1) (tNil)))) (tNil)))
theorem pure_unsweep {K : PySem.W.Frag} {C B : Addr} (vs : List V) (H : Hp) (Q : VK) (E : XK) (h : spUnsweep K C B vs H Q E) : t_unsweep K B C E { nx := fun _ H' => Q .non H', rt := Q } (start ["row", "capacity"] vs) H := by
  obtain ⟨x, v, t, ps, ks, rfl, hv, row, ok, ap, ak, bad, q⟩ := h
  refine ⟨_, rfl, x, ps, ks, rfl, row, ok, ap, ak, fun y1 H1 hy1 s1 row1 ok1 ap1 ak1 => ?_⟩
  refine ⟨_, rfl, y1, v, t, mirror ps, mirror ks, rfl, hv.same s1, row1, ok1, ak1, fun z => bad z H1 s1, fun most e m1 m2 y2 H2 st hy2 s2 tr row2 => ?_⟩
  obtain ⟨lo, la, _⟩ := left_ok ok1 m1 tr
  refine ⟨y2, left st, mirror ks, rfl, row2, lo, la, ak1, fun y3 H3 hy3 s3 row3 ok3 ap3 _ => ?_⟩
  rw [mirror_mirror] at row3 ok3
  exact q most e m1 m2 y3 H3 st (Same.free s1 (Same.free s2 hy3)) (s1.trans (s2.trans s3)) tr row3 ok3 ap3
end SR

set_option Elab.async false
set_option linter.all false
set_option maxRecDepth 100000
set_option maxHeartbeats 4000000
/-! SRA3: what is picked up. -/
namespace SR
open PySem PySem.Spec PyProof.Rows L2
def upSum (most : Int) (st : List Step) : Int := (st.map fun s => min (most - s.2.1) s.2.2.1).sum
def spPicked (K : PySem.W.Frag) (C B : Addr) : Sp := fun vs H Q E => ∃ x v t ps ks, vs = [.ref x, v] ∧ AnyT K H v t ∧ RowAt K C H x ps ks ∧ RowOk ps ks ∧ (btw 1 99 v = false → E (.ref B) none H) ∧
  ∀ most, v = .int most → 1 ≤ most → most ≤ 99 → ∀ H' st, Same H H' → Traces (cnt ps) (cap ks) most ps [] st → Q (.int (upSum most st)) H'
def t_picked (K : PySem.W.Frag) (c_BadCapacity : Addr) (c_Row : Addr) (E : XK) : TS := tRet (tCB (rSum K) (tCons (tLc (iList K (tCall (spTrace K c_Row c_BadCapacity) [] E (tCons (tVar 0) (tCons (tVar 1) (tNil))))) (gTup K 5 (gCons (gName 2) (gCons (gName 3) (gCons (gName 4) (gCons (gName 2) (gCons (gName 2) (gNil))))))) (tYes) (tCB qMin2 (tCons (tOp qSub (tVar 1) (tVar 3)) (tCons (tVar 4) (tNil)))) [2, 3, 4]) (tNil)))
theorem pure_picked {K : PySem.W.Frag} {C B : Addr} (vs : List V) (H : Hp) (Q : VK) (E : XK) (h : spPicked K C B vs H Q E) : t_picked K B C E { nx := fun _ H' => Q .non H', rt := Q } (start ["row", "capacity", "_", "load", "count"] vs) H := by
  obtain ⟨x, v, t, ps, ks, rfl, hv, row, ok, bad, q⟩ := h
  refine ⟨_, rfl, _, rfl, x, v, t, ps, ks, rfl, hv, row, ok, bad, fun most e m1 m2 s H1 st hs s1 hst tr len => ?_⟩
  subst e
  obtain ⟨ts, hA, hts⟩ := hst
  refine ⟨s, rfl, ⟨_, SqL.of hA⟩, fun D hD => ?_⟩
  refine lc_it (walk_list (K := K) (a := s) (xs := ts.map V.ref)) (fun i H2 => Same H1 H2 ∧ H2 D = some (.lst (((st.take i).map fun s => min (most - s.2.1) s.2.2.1).map V.int))) ⟨same_new hD, upd_same⟩ ?_ ?_ ?_
  · rintro i H2 _ ⟨s2, _⟩
    exact SqL.of (s2 _ _ hA)
  · rintro i v H2 H3 hi ⟨s2, d2⟩ ⟨rfl, hv⟩
    rw [List.getElem?_map] at hv
    obtain ⟨t, ht, rfl⟩ := Option.map_eq_some_iff.mp hv
    obtain ⟨u, hu, hat⟩ := paired_at hts ht
    have T1 : TupS H3 t u := s2 _ _ hat
    refine ⟨t, _, rfl, SqT.of T1, rfl, _, _, rfl, _, _, rfl, _, _, rfl, _, _, rfl, _, _, rfl, rfl, rfl, _, rfl, _, rfl, _, _, rfl, rfl, _, rfl, _, _, rfl, ?_⟩
    rw [min_if]
    refine ⟨_, d2, ?_, same_upd s2 hD, ?_⟩
    · rw [List.length_map, List.length_map, List.length_take]
      exact Nat.lt_of_le_of_lt (Nat.le_trans (Nat.min_le_right _ _) len) (by decide)
    · rw [upd_same, List.take_succ, hu, List.map_append, List.map_append]
      rfl
  · rintro H2 ⟨s2, d2⟩
    have tl : (ts.map V.ref).length = st.length := by rw [List.length_map, paired_len hts]
    rw [tl, List.take_length] at d2
    exact ⟨D, _, rfl, SqL.of d2, q most rfl m1 m2 H2 st (s1.trans s2) tr⟩
end SR

set_option Elab.async false
set_option linter.all false
set_option maxRecDepth 100000
set_option maxHeartbeats 4000000
/-! SRB3: a row held against two dicts, by their texts. -/
namespace SR
open PySem PySem.Spec PyProof.Rows L2
def t_srtList (K : PySem.W.Frag) (f p : Nat) : TE := tLc (iList K (tCB qSortedD (tCons (tVar f) (tNil)))) (gName p) (tYes) (tTup (tCons (tVar p) (tCons (tDGet (tVar f) (tVar p)) (tNil)))) [p]
theorem sorted_list {K : PySem.W.Frag} {f p : Nat} {F : Addr} {fs : List (Int × Int)} {σ : L2.St} {H : Hp} {Q : VK} (hF : H F = some (.dK (kvsOf fs))) (nd : (fs.map Prod.fst).Nodup) (hl : fs.length < 64)
    (h1 : σ[f]? = some (some (.ref F))) (h2 : ∀ y, ((wipe σ [p]).set p (some y))[f]? = some (some (.ref F))) (h3 : ∀ y, ((wipe σ [p]).set p (some y))[p]? = some (some y)) (h4 : ∀ y, wipe ((wipe σ [p]).set p (some y)) [p] = wipe σ [p])
    (q : ∀ r H' ps ts, H r = none → Same H H' → H' r = some (.lst (ts.map V.ref)) → Paired (TupAt H') ts ps → ps.Perm fs → Asc ps → Q (.ref r) H') : t_srtList K f p σ H Q := by
  have keys : (kvsOf fs).map (·.1) = (fs.map Prod.fst).map Sum.inl := by
    unfold kvsOf
    rw [List.map_map, List.map_map]
    rfl
  refine ⟨_, h1, F, _, _, rfl, .inl hF, keys, (by rw [List.length_map]; exact hl), fun ys l perm pw hlf => ?_⟩
  have s1 := same_new (o := .lst (ys.map V.int)) hlf
  have L1 : upd H l (.lst (ys.map V.int)) l = some (.lst (ys.map V.int)) := upd_same
  generalize upd H l (.lst (ys.map V.int)) = H1 at s1 L1 ⊢
  refine ⟨l, rfl, ⟨_, SqL.of L1⟩, fun D hD => ?_⟩
  have yl : ys.length = fs.length := by rw [perm.length_eq, List.length_map]
  have val : ∀ y ∈ ys, fs.lookup y = some ((fs.lookup y).getD 0) := fun y m => by
    have hm := perm.mem_iff.mp m
    cases e : fs.lookup y with
    | none => exact absurd hm (lookup_none.mp e)
    | some n => rfl
  have ndy : ys.Nodup := perm.nodup_iff.mpr nd
  have pps : (ys.map fun y => (y, (fs.lookup y).getD 0)).Perm fs := by
    have z := perm.map (fun y => (y, (fs.lookup y).getD 0))
    rw [with_lookup nd] at z
    exact z
  have asc : Asc (ys.map fun y => (y, (fs.lookup y).getD 0)) := by
    unfold Asc
    rw [List.pairwise_map]
    refine (List.Pairwise.and pw ndy).imp fun {x y} z => ?_
    have := z.1
    have := z.2
    omega
  refine lc_it (walk_list (K := K) (a := l) (xs := ys.map V.int)) (fun i H2 => Same H1 H2 ∧ ∃ ts, H2 D = some (.lst (ts.map V.ref)) ∧ ts.length = i ∧ Paired (TupAt H2) ts ((ys.map fun y => (y, (fs.lookup y).getD 0)).take i)) ⟨same_new hD, [], upd_same, rfl, .nil⟩ ?_ ?_ ?_
  · rintro i H2 _ ⟨s2, _⟩
    exact SqL.of (s2 _ _ L1)
  · rintro i x H2 H3 hi ⟨s2, ts, d2, tl, pr⟩ ⟨rfl, hx⟩
    rw [List.getElem?_map] at hx
    obtain ⟨y, hy, rfl⟩ := Option.map_eq_some_iff.mp hx
    have hv := val y (List.mem_of_getElem? hy)
    have hF3 := s2 _ _ (s1 _ _ hF)
    have gv : valV (kvsOf fs) (.inl y) = some (.int ((fs.lookup y).getD 0)) := by
      rw [val_pairs, hv]
      rfl
    refine ⟨h4 _, _, h3 _, _, h2 _, _, h3 _, F, _, rfl, (by rw [← gv]; exact DGet.k (k := .inl y) hF3), sz (by show 2 ≤ 1000; decide), fun t ht => ?_⟩
    have s3 := same_new (o := .tup [.int y, .int ((fs.lookup y).getD 0)]) ht
    have T3 : TupAt (upd H3 t (.tup [.int y, .int ((fs.lookup y).getD 0)])) t (y, (fs.lookup y).getD 0) := upd_same
    generalize upd H3 t (.tup [.int y, .int ((fs.lookup y).getD 0)]) = H4 at s3 T3 ⊢
    have d3 := s3 _ _ d2
    have li : i < ys.length := by
      rw [List.length_map] at hi
      exact hi
    have pr3 : Paired (TupAt (upd H4 D (.lst (ts.map V.ref ++ [.ref t])))) (ts ++ [t]) ((ys.map fun y => (y, (fs.lookup y).getD 0)).take (i + 1)) := by
      have tk : (ys.map fun y => (y, (fs.lookup y).getD 0)).take (i + 1) = (ys.map fun y => (y, (fs.lookup y).getD 0)).take i ++ [(y, (fs.lookup y).getD 0)] := by
        rw [List.take_succ, List.getElem?_map, hy]
        rfl
      rw [tk]
      have keep : ∀ {b : Addr} {p : Int × Int}, TupAt H4 b p → TupAt (upd H4 D (.lst (ts.map V.ref ++ [.ref t]))) b p := fun {b p} z => (upd_ne (ne_of z d3 (by intro e; cases e))).trans z
      exact paired_snoc (keep T3) (paired_imp (fun _ _ z => keep (s3 _ _ z)) pr)
    refine ⟨_, d3, ?_, same_upd (s2.trans s3) hD, ts ++ [t], ?_, ?_, pr3⟩
    · rw [List.length_map, tl]
      exact Nat.lt_of_lt_of_le (Nat.lt_of_lt_of_le li (by omega : ys.length ≤ 64)) (by decide)
    · rw [upd_same, List.map_append]
      rfl
    · rw [List.length_append, tl]
      rfl
  · rintro H2 ⟨s2, ts, d2, tl, pr⟩
    have all : (ys.map fun y => (y, (fs.lookup y).getD 0)).take (ys.map V.int).length = ys.map fun y => (y, (fs.lookup y).getD 0) := by
      rw [List.length_map]
      exact List.take_of_length_le (by rw [List.length_map]; exact Nat.le_refl _)
    rw [all] at pr
    exact q D H2 _ ts (Same.free s1 hD) (s1.trans s2) d2 pr pps asc

def rowD (ps : List (Int × Int)) : PyData := .tuple (ps.map fun p => pr2 p.1 p.2)
theorem dp_row {K : PySem.W.Frag} {H : Hp} {c : Addr} {ts : List Addr} {ps : List (Int × Int)} (h1 : SqT K H c (ts.map V.ref)) (h2 : Paired (TupAt H) ts ps) : Dp K H (.ref c) (rowD ps) := by
  refine .tup h1 ?_
  clear h1
  induction ps generalizing ts with
  | nil =>
    cases h2
    exact .nil
  | cons p ps ih =>
    cases h2 with
    | cons a b => exact .cons (dp_pr2 a) (ih b)
/-- numbers that can be shown -/
def Small (ps : List (Int × Int)) : Prop := ∀ p ∈ ps, p.1.natAbs < 2 ^ 1900 ∧ p.2.natAbs < 2 ^ 1900
theorem row_show {ps : List (Int × Int)} (h : Small ps) : (rowD ps).showable = true := by
  show PyData.showableAll (ps.map fun p => pr2 p.1 p.2) = true
  induction ps with
  | nil => rfl
  | cons p ps ih =>
    show ((pr2 p.1 p.2).showable && PyData.showableAll (ps.map fun p => pr2 p.1 p.2)) = true
    have a := h p List.mem_cons_self
    rw [pr2_show a.1 a.2, ih fun q m => h q (List.mem_cons_of_mem _ m)]
    rfl
theorem row_depth (ps : List (Int × Int)) : (rowD ps).depth ≤ 60 := by
  have : PyData.depthAll (ps.map fun p => pr2 p.1 p.2) ≤ 1 := by
    induction ps with
    | nil => exact Nat.zero_le _
    | cons p ps ih =>
      show max (pr2 p.1 p.2).depth (PyData.depthAll (ps.map fun p => pr2 p.1 p.2)) ≤ 1
      have : (pr2 p.1 p.2).depth ≤ 1 := by simp [pr2, PyData.depth, PyData.depthAll]
      omega
  simp only [rowD, PyData.depth]
  omega
theorem row_cost (ps : List (Int × Int)) : cost (rowD ps) ≤ ps.length * 4000 + 4 := by
  have : costAll (ps.map fun p => pr2 p.1 p.2) ≤ ps.length * 4000 := by
    induction ps with
    | nil => exact Nat.le_refl _
    | cons p ps ih =>
      show cost (pr2 p.1 p.2) + 2 + costAll (ps.map fun p => pr2 p.1 p.2) ≤ _
      have : cost (pr2 p.1 p.2) = 3850 := by simp [pr2, cost, costAll]
      rw [List.length_cons]
      omega
  show costAll _ + 4 ≤ _
  omega
def spIs (K : PySem.W.Frag) (C : Addr) : Sp := fun vs H Q _ => ∃ x a b ps ks qs ls, vs = [.ref x, .ref a, .ref b] ∧ RowAt K C H x ps ks ∧ H a = some (.dK (kvsOf qs)) ∧ H b = some (.dK (kvsOf ls)) ∧ Asc ps ∧ Asc ks ∧ qs.Perm ps ∧ ls.Perm ks ∧ ps.length < 64 ∧ ks.length < 64 ∧ Small ps ∧ Small ks ∧ ∀ H', Same H H' → Q (.bl true) H'
def t_is (K : PySem.W.Frag) (c_Row : Addr) : TS := tSeq (tIfS (tTest (tOp rNe (tCB (rRepr K) (tCons (tProp c_Row (spContents K c_Row) [] E0 (tVar 0)) (tNil))) (tCB (rRepr K) (tCons (tCB (qTupOf K) (tCons (t_srtList K 1 3) (tNil))) (tNil)))))
  (tRet (tC (.bl false)))
  (tNext))
  (tRet (tOp rEq (tCB (rRepr K) (tCons (tProp c_Row (spCapacities K c_Row) [] E0 (tVar 0)) (tNil))) (tCB (rRepr K) (tCons (tCB (qTupOf K) (tCons (t_srtList K 2 3) (tNil))) (tNil)))))
@[irreducible] def xSrt := @t_srtList
theorem xSrt_eq : @xSrt = @t_srtList := by
  unfold xSrt
  rfl
theorem pure_is {K : PySem.W.Frag} {C : Addr} (vs : List V) (H : Hp) (Q : VK) (E : XK) (h : spIs K C vs H Q E) : t_is K C { nx := fun _ H' => Q .non H', rt := Q } (start ["made", "boxes", "sizes", "place"] vs) H := by
  obtain ⟨x, a, b, ps, ks, qs, ls, rfl, row, hA, hB, ap, ak, pq, pk, lp, lk, sp, sk, q⟩ := h
  obtain ⟨dx, fs, hx, _, _⟩ := row.ins
  have ndq : (qs.map Prod.fst).Nodup := (pq.map Prod.fst).nodup_iff.mpr (asc_nd ap)
  have ndl : (ls.map Prod.fst).Nodup := (pk.map Prod.fst).nodup_iff.mpr (asc_nd ak)
  refine ⟨_, rfl, x, dx, fs, rfl, hx, x, ps, ks, rfl, row, fun c hc => ?_⟩
  obtain ⟨tc, bc, pc⟩ := hc
  have d1 := dp_row (K := K) bc.sq pc
  have w1 := row_show sp
  have w2 := row_cost ps
  refine ⟨_, _, rfl, d1, w1, row_depth ps, repr_fit w1 d1 (by omega), ?_⟩
  try rw [← xSrt_eq]
  show xSrt K 1 3 [some (.ref x), some (.ref a), some (.ref b), none] H _
  try rw [xSrt_eq]
  refine sorted_list hA ndq (by rw [pq.length_eq]; exact lp) rfl (fun y => rfl) (fun y => rfl) (fun y => rfl) fun r H1 us ts hr s1 r1 pr pm as1 => ?_
  have e1 := asc_eq as1 ap (pm.trans pq)
  subst e1
  refine ⟨r, _, rfl, SqL.of r1, fun l o hl o1 o2 => ?_⟩
  have s2 := same_new (o := .frz o (.tup (ts.map V.ref))) hl
  have L2' : Bare (upd H1 l (.frz o (.tup (ts.map V.ref)))) l (ts.map V.ref) := ⟨o, upd_same, o1, o2⟩
  generalize upd H1 l (.frz o (.tup (ts.map V.ref))) = H2 at s2 L2' ⊢
  have d2 := dp_row (K := K) L2'.sq (paired_imp (fun _ _ z => s2 _ _ z) pr)
  refine ⟨_, _, rfl, d2, w1, row_depth _, repr_fit w1 d2 (by omega), rfl, _, rfl, iteNS rfl ?_⟩
  have s02 := s1.trans s2
  have row2 := row.same s02
  refine ⟨_, rfl, x, dx, fs, rfl, s02 _ _ hx, x, _, ks, rfl, row2, fun c2 hc2 => ?_⟩
  obtain ⟨tc2, bc2, pc2⟩ := hc2
  have d3 := dp_row (K := K) bc2.sq pc2
  have w3 := row_show sk
  have w4 := row_cost ks
  refine ⟨_, _, rfl, d3, w3, row_depth ks, repr_fit w3 d3 (by omega), ?_⟩
  try rw [← xSrt_eq]
  show xSrt K 2 3 [some (.ref x), some (.ref a), some (.ref b), none] H2 _
  try rw [xSrt_eq]
  refine sorted_list (s02 _ _ hB) ndl (by rw [pk.length_eq]; exact lk) rfl (fun y => rfl) (fun y => rfl) (fun y => rfl) fun r3 H3 us3 ts3 hr3 s3 r3' pr3 pm3 as3 => ?_
  have e3 := asc_eq as3 ak (pm3.trans pk)
  subst e3
  refine ⟨r3, _, rfl, SqL.of r3', fun l4 o4 hl4 o5 o6 => ?_⟩
  have s4 := same_new (o := .frz o4 (.tup (ts3.map V.ref))) hl4
  have L4 : Bare (upd H3 l4 (.frz o4 (.tup (ts3.map V.ref)))) l4 (ts3.map V.ref) := ⟨o4, upd_same, o5, o6⟩
  generalize upd H3 l4 (.frz o4 (.tup (ts3.map V.ref))) = H4 at s4 L4 ⊢
  have d4 := dp_row (K := K) L4.sq (paired_imp (fun _ _ z => s4 _ _ z) pr3)
  refine ⟨_, _, rfl, d4, w3, row_depth _, repr_fit w3 d4 (by omega), rfl, ?_⟩
  show Q (.bl (decide (_ = _))) H4
  rw [decide_eq_true rfl]
  exact q H4 (s02.trans (s3.trans s4))
end SR

set_option Elab.async false
set_option linter.all false
set_option maxRecDepth 100000
set_option maxHeartbeats 4000000
/-! SRF3: != of two objects with an own ==. -/
namespace SRNe
open PySem PySem.Spec PyProof.Rows
section
variable {M : Model} {prog : Program} {wd : World} {A : Around} {Er : Value → Shared → Prop} {s : Shared} {K : PySem.W.Frag} {a C f : Addr} {oa : Obj} {od : Option Obj}
/-- the class hands the question to the built-in != -/
theorem bound_ne {bs : List Value} {Q : Option Value → Shared → Prop} (X : K.In s.heap) (I : PySem.W.InstAt s.heap a oa C od) (hn : PySem.W.findIn K (.ref C) "__ne__" = some (some (.builtin "object.__ne__")))
    (k : wpAny M A (call (.builtin "object.__ne__") (.ref a :: bs)) (fun v => Q (some v)) Er s) : wpAny M A (callSpecialIfBound? (.ref a) "__ne__" bs) Q Er s := by
  simp only [bindSpecialIfBound?, callSpecialIfBound?]
  have last : wpAny M A (do let v ← call (.builtin "object.__ne__") ([.ref a] ++ bs); pure (some v)) Q Er s := wpAny_bind (wpAny_mono k (fun _ _ z => wpAny_pure z) fun _ _ z => z)
  refine wpAny_holding (wpAny_bind (wpAny_bind (wpAny_bind (I.type.here ((PySem.W.looks_findIn X hn).here (wpAny_bind (wpAny_askSetting (wpAny_ite ?_))))))))
  split
  · exact wpAny_bind (wpAny_of_eq (F.cmp_object.ne.bind _) (wpAny_pure last))
  · exact wpAny_tryCatch (wpAny_bind (wpAny_of_eq (F.cmp_object.ne.bind _) (wpAny_pure last)))
/-- the built-in != asks the own == -/
theorem entry_ne {b : Value} {Q : Fin → Shared → Prop} (X : K.In s.heap) (I : PySem.W.InstAt s.heap a oa C od) (he : PySem.W.findIn K (.ref C) "__eq__" = some (some (.ref f))) (hf : PySem.W.isFn K (.ref f) = true) (hu : A.units < cLine)
    (k : wpAny M A (call (.ref f) [.ref a, b]) (fun v s2 => ∃ r, v = .bool r ∧ Q (.done (.ret (.bool (!r)))) s2) Er s) : wpAny M A (Builtin.«object.__ne__» ⟨[.ref a, b], []⟩) Q Er s := by
  unfold Builtin.«object.__ne__»
  repeat (first
    | with_reducible refine wpAny_cRoomFor hu ?_
    | (refine wpAny_bind (m := callSpecialIfBound? (.ref a) (Str.ofString "__eq__") [b]) (PySem.W.ifBound_K X I he hf (wpAny_mono k (fun v s2 z => by
        obtain ⟨r, e, q⟩ := z
        subst e
        repeat (first | exact q | exact wpAny_pure q | exact wpAny_truthy_bool q | (refine wpAny_bind (m := truthy (.bool _)) (wpAny_truthy_bool ?_)) | wp_step)) fun _ _ z => z)))
    | wp_step)
theorem try_ne {b : Value} {Q : Option Value → Shared → Prop} (X : K.In s.heap) (I : PySem.W.InstAt s.heap a oa C od) (hn : PySem.W.findIn K (.ref C) "__ne__" = some (some (.builtin "object.__ne__"))) (hm : PySem.W.mroIn K C (.type "object") = some true)
    (he : PySem.W.findIn K (.ref C) "__eq__" = some (some (.ref f))) (hf : PySem.W.isFn K (.ref f) = true) (hu : A.units + 1 < cLine)
    (k : wpAny (model prog wd) A.in1 (call (.ref f) [.ref a, b]) (fun v s2 => ∃ r, v = .bool r ∧ Q (some (.bool (!r))) s2) Er s) : wpAny (model prog wd) A (tryCompare (.ref a) "__ne__" b) Q Er s := by
  unfold tryCompare
  refine wpAny_bind (bound_ne X I hn (wpAny_call (codeAny_call_builtin F.cmp_object.ne.plain F.cmpEntry_ne
    (PySem.W.check_slot F.cmpKind_ne F.cmpSplit_ne (I.type.andThen (PySem.W.looks_mroIn X hm)) (F.cmpArgs_ne _ _) (entry_ne X I he hf hu (wpAny_mono k (fun v s2 z => ?_) fun _ _ z => z))))))
  obtain ⟨r, e, q⟩ := z
  subst e
  first | exact ⟨r, rfl, wpAny_pure q⟩ | exact ⟨r, rfl, wpAny_pure (wpAny_pure q)⟩ | exact ⟨r, rfl, q⟩
theorem rich_ne {b : Addr} {ob : Obj} {od2 : Option Obj} {Q : Value → Shared → Prop} (X : K.In s.heap) (I : PySem.W.InstAt s.heap a oa C od) (J : PySem.W.InstAt s.heap b ob C od2) (hn : PySem.W.findIn K (.ref C) "__ne__" = some (some (.builtin "object.__ne__"))) (hm : PySem.W.mroIn K C (.type "object") = some true)
    (he : PySem.W.findIn K (.ref C) "__eq__" = some (some (.ref f))) (hf : PySem.W.isFn K (.ref f) = true) (hu : A.units + 1 < cLine)
    (k : wpAny (model prog wd) A.in1 (call (.ref f) [.ref a, .ref b]) (fun v s2 => ∃ r, v = .bool r ∧ Q (.bool (!r)) s2) Er s) : wpAny (model prog wd) A (richCompare .NotEq (.ref a) (.ref b)) Q Er s := by
  unfold richCompare
  simp only [oneThing_ref]
  refine wpAny_holding (wpAny_bind (wpAny_cRoomFor (Nat.lt_of_succ_lt hu) ?_))
  rw [cmpInfo_NotEq]
  dsimp only
  refine wpAny_bind (I.type.here (wpAny_bind (J.type.here ?_)))
  rw [show (Value.ref C != Value.ref C) = false by simp]
  simp only [if_false, Bool.false_eq_true]
  refine wpAny_bind (wpAny_pure ?_)
  simp only [if_false, Bool.false_eq_true]
  refine wpAny_bind (try_ne X I hn hm he hf hu (wpAny_mono k (fun v s2 z => ?_) fun _ _ z => z))
  obtain ⟨r, e, q⟩ := z
  first | exact ⟨r, e, wpAny_pure q⟩ | exact ⟨r, e, wpAny_pure (wpAny_pure q)⟩
end
end SRNe
namespace L2
open PySem PySem.Spec PyProof.Rows
/-- x != y of two that are equal by the own == -/
def rNeG (D : Eqv) : R2 := fun x y H Q => D x y H ∧ ∀ H', Ext H H' → Q (.bl false) H'
section
variable {X : Cx} {n : Nat}
theorem op_neG {CX : CXT} {C f : Addr} {fd : FuncData} {ps : List Str} {R : Addr → Addr → Hp → Prop} {E : XK} (F : FnOk X.prog X.w X.K X.mg X.base CX n f fd ps (spEq R))
    (he : PySem.W.findIn X.K (.ref C) "__eq__" = some (some (.ref f))) (hf : PySem.W.isFn X.K (.ref f) = true) (hn : PySem.W.findIn X.K (.ref C) "__ne__" = some (some (.builtin "object.__ne__"))) (hm : PySem.W.mroIn X.K C (.type "object") = some true)
    (hb : Binds X.K fd ps []) (hx : Passes CX X E) (hr : Room (n + 1) X.A) : OpR X (compareOp .NotEq) (rNeG (DIns C R)) := by
  intro pins s σ H x y v u Q I rx ry hq
  obtain ⟨⟨a, b, dx, dy, fs, gs, rfl, rfl, ha, hb', hr'⟩, q⟩ := hq
  cases rx
  cases ry
  obtain ⟨mA, J, _⟩ := ins_get I.hok ha
  obtain ⟨mB, J', _⟩ := ins_get I.hok hb'
  obtain ⟨oA, J, _⟩ := J.look
  obtain ⟨oB, J', _⟩ := J'.look
  show wpAny (model X.prog X.w) X.A (richCompare .NotEq (.ref a) (.ref b)) (EP X pins σ Q) X.xe s
  have room := hr.in1
  refine SRNe.rich_ne I.kIn J J' hn hm he hf room.units0 ?_
  have told : spEq R [.ref a, .ref b] H (fun v H' => v = .bl true ∧ Ext H H') E := ⟨a, b, rfl, hr', fun H' z => ⟨rfl, z⟩⟩
  have en : Env0 X.prog X.w X.K X.mg X.base X.A.in1 X.stack s H := let z := I.env0; ⟨z.frames, z.mod, z.bs, z.bsz, z.funs, z.frf, z.hok, z.bare⟩
  have vals : Vals [V.ref a, V.ref b] [Value.ref a, Value.ref b] := .cons rfl (.cons rfl .nil)
  have two := F.len _ _ _ _ told
  have bind : BindsTo s fd ⟨[.ref a, .ref b], []⟩ (ps.zip [.ref a, .ref b]) := by
    have z := hb s [.ref a, .ref b] I.kIn (by rw [← two]; rfl)
    simpa using z
  refine wpAny_call (codeAny_mono (F.run X.A.in1 X.stack s H ⟨[.ref a, .ref b], []⟩ [.ref a, .ref b] [.ref a, .ref b] _ E room en bind vals told) fun out s2 k => ?_)
  cases out with
  | error e => exact hx pins σ H s e s2 I k
  | ok fl =>
    cases fl with
    | ret u =>
      obtain ⟨z, H2, I2, rz, ez, ex⟩ := I.after k
      subst ez
      cases rz
      exact ⟨true, rfl, .bl false, H2, I2, rfl, q H2 ex⟩
    | next => exact False.elim k
    | brk => exact False.elim k
    | cont => exact False.elim k
end
end L2

set_option Elab.async false
set_option linter.all false
set_option maxRecDepth 100000
set_option maxHeartbeats 4000000
/-! SRG3: a row's own ==, its total. -/
namespace SR
open PySem PySem.Spec PyProof.Rows L2
/-- what the class of rows says beside its fields -/
structure RowK (K : PySem.W.Frag) (C : Addr) : Prop where
  kit : PySem.W.kitOne K (.ref C) (.ref C) = some true
  ha : PySem.W.findIn K (.ref C) "__class__" = some (some (.builtin "object.__class__"))
  hg : PySem.W.specialIn K (.builtin "object.__class__") "__get__" = some (some (.builtin "getset_descriptor.__get__"))
  ht : PySem.W.takesIn K (.builtin "object.__class__") = some true
  hm : PySem.W.mroIn K C (.type "object") = some true
  ne : PySem.W.findIn K (.ref C) "__ne__" = some (some (.builtin "object.__ne__"))
def rowKB (K : PySem.W.Frag) (C : Addr) : Bool := decide (PySem.W.kitOne K (.ref C) (.ref C) = some true) && (decide (PySem.W.findIn K (.ref C) "__class__" = some (some (.builtin "object.__class__"))) &&
  (decide (PySem.W.specialIn K (.builtin "object.__class__") "__get__" = some (some (.builtin "getset_descriptor.__get__"))) && (decide (PySem.W.takesIn K (.builtin "object.__class__") = some true) &&
  (decide (PySem.W.mroIn K C (.type "object") = some true) && decide (PySem.W.findIn K (.ref C) "__ne__" = some (some (.builtin "object.__ne__")))))))
theorem rowKB_ok {K : PySem.W.Frag} {C : Addr} (h : rowKB K C = true) : RowK K C := by
  unfold rowKB at h
  simp only [Bool.and_eq_true, decide_eq_true_eq] at h
  obtain ⟨h1, h2, h3, h4, h5, h6⟩ := h
  exact ⟨h1, h2, h3, h4, h5, h6⟩
theorem lay_prs : ∀ ps : List (Int × Int), PyData.canLayAll0 (ps.map fun p => pr2 p.1 p.2) = true
  | [] => rfl
  | p :: ps => by
    show (PyData.canLay0 (pr2 p.1 p.2) && PyData.canLayAll0 (ps.map fun p => pr2 p.1 p.2)) = true
    rw [lay_prs ps]
    rfl
theorem row_shaped (ps : List (Int × Int)) : SeqAt.shaped (rowD ps) = true := by
  refine shaped_tup (lay_prs ps) ?_
  have := row_depth ps
  simp only [rowD, PyData.depth] at this
  omega
/-- two rows of the same data -/
def RowEq (K : PySem.W.Frag) (C : Addr) (a b : Addr) (H : Hp) : Prop := ∃ ps ks, RowAt K C H a ps ks ∧ RowAt K C H b ps ks
abbrev spRowEq (K : PySem.W.Frag) (C : Addr) : Sp := spEq (RowEq K C)
def t_Row_eq (K : PySem.W.Frag) (c_Row : Addr) : TS := tRet (tAndV (tCB (rIsi K) (tCons (tVar 1) (tCons (tC (.ref c_Row)) tNil))) (tAndV (tOp (rEqD K) (tFld K (tVar 0) "_contents") (tFld K (tVar 1) "_contents")) (tOp (rEqD K) (tFld K (tVar 0) "_capacities") (tFld K (tVar 1) "_capacities"))))
theorem pairsT_dp {K : PySem.W.Frag} {H : Hp} {c : Addr} {ps : List (Int × Int)} (h : PairsT H c ps) : Dp K H (.ref c) (rowD ps) := let ⟨_, h1, h2⟩ := h; dp_row h1.sq h2
theorem pure_row_eq {K : PySem.W.Frag} {C : Addr} (R : RowC K C) (Z : RowK K C) (vs : List V) (H : Hp) (Q : VK) (E : XK) (h : spRowEq K C vs H Q E) : t_Row_eq K C { nx := fun _ H' => Q .non H', rt := Q } (start ["self", "other"] vs) H := by
  obtain ⟨a, b, rfl, ⟨ps, ks, ⟨dx, c, k, d, e, ps0, ks0, h1, h2, h3, _⟩, ⟨dy, c', k', d', e', _, _, g1, g2, g3, _⟩⟩, q⟩ := h
  refine ⟨_, rfl, .ref b, .ref C, .ref C, .ref C, true, rfl, .own C, .base (.ins g1 R.cls Z.ha Z.hg Z.ht Z.hm), Z.kit, ?_⟩
  refine ⟨_, rfl, iteT ⟨_, rfl, a, C, dx, _, _, rfl, h1, R.cls, R.n1, fl1 c k d e, _, rfl, b, C, dy, _, _, rfl, g1, R.cls, R.n1, fl1 c' k' d' e', ?_⟩⟩
  refine eq_same (pairsT_dp h2) (pairsT_dp g2) (row_shaped ps) ⟨_, rfl, iteT ⟨_, rfl, a, C, dx, _, _, rfl, h1, R.cls, R.n2, fl2 c k d e, _, rfl, b, C, dy, _, _, rfl, g1, R.cls, R.n2, fl2 c' k' d' e', ?_⟩⟩
  exact eq_same (pairsT_dp h3) (pairsT_dp g3) (row_shaped ks) (q H fun _ _ z => z)
/-- rows that are asked for == and != -/
structure EqM (P : Program) (w : World) (K : PySem.W.Frag) (mg : Str → Option Value) (base : Heap) (k : Nat) (C : Addr) : Prop where
  ex : ∃ (f : Addr) (fd : FuncData) (ps : List Str), FnOk P w K mg base CX0 k f fd ps (spRowEq K C) ∧ Meth K C "__eq__" f ∧ RowK K C ∧ Binds K fd ps []
theorem RowAt.at {K : PySem.W.Frag} {C : Addr} {H : Hp} {x : Addr} {ps ks : List (Int × Int)} (h : RowAt K C H x ps ks) : ∃ dx fs, H x = some (.ins C dx fs) := let ⟨dx, c, k, d, e, _, _, h1, _⟩ := h; ⟨dx, _, h1⟩
/-- x != y of equal rows -/
def rNeR (K : PySem.W.Frag) (C : Addr) : R2 := fun x y H Q => ∃ a b ps ks, x = .ref a ∧ y = .ref b ∧ RowAt K C H a ps ks ∧ RowAt K C H b ps ks ∧ ∀ H', Same H H' → Q (.bl false) H'
theorem op_neR {X : Cx} {j k : Nat} {C : Addr} (c : EqM X.prog X.w X.K X.mg X.base k C) (hr : Room j X.A) (hk : k + 1 ≤ j) : OpR X (compareOp .NotEq) (rNeR X.K C) := by
  obtain ⟨f, fd, ps, F, m, z, b⟩ := c.ex
  intro pins s σ H x y v u Q I rx ry hq
  obtain ⟨a, a', qs, ks, rfl, rfl, h1, h2, q⟩ := hq
  obtain ⟨dx, fs, e1⟩ := h1.at
  obtain ⟨dy, gs, e2⟩ := h2.at
  exact op_neG F m.at_ m.fn z.ne z.hm b pass0 (hr.mono hk) pins s σ H _ _ v u Q I rx ry ⟨⟨a, a', dx, dy, fs, gs, rfl, rfl, e1, e2, qs, ks, h1, h2⟩, q⟩
/-- x == y of equal rows -/
def rEqR (K : PySem.W.Frag) (C : Addr) : R2 := fun x y H Q => ∃ a b ps ks, x = .ref a ∧ y = .ref b ∧ RowAt K C H a ps ks ∧ RowAt K C H b ps ks ∧ ∀ H', Same H H' → Q (.bl true) H'
theorem op_eqR {X : Cx} {j k : Nat} {C : Addr} (c : EqM X.prog X.w X.K X.mg X.base k C) (hr : Room j X.A) (hk : k + 1 ≤ j) : OpR X (compareOp .Eq) (rEqR X.K C) := by
  obtain ⟨f, fd, ps, F, m, z, b⟩ := c.ex
  intro pins s σ H x y v u Q I rx ry hq
  obtain ⟨a, a', qs, ks, rfl, rfl, h1, h2, q⟩ := hq
  obtain ⟨dx, fs, e1⟩ := h1.at
  obtain ⟨dy, gs, e2⟩ := h2.at
  exact op_eqG (rcG_ins F m.at_ m.fn b pass0) (hr.mono (Nat.le_of_succ_le hk)) pins s σ H _ _ v u Q I rx ry ⟨⟨a, a', dx, dy, fs, gs, rfl, rfl, e1, e2, qs, ks, h1, h2⟩, q⟩
/-! ### total -/
def spTotal (K : PySem.W.Frag) (C : Addr) : Sp := fun vs H Q _ => ∃ x ps ks, vs = [.ref x] ∧ RowAt K C H x ps ks ∧ ps.length ≤ 1000 ∧ ∀ H', Same H H' → Q (.int (ps.map Prod.snd).sum) H'
def t_Row_total (K : PySem.W.Frag) : TS := tRet (tCB (rSum K) (tCons (tLc (iTup K (tFld K (tVar 0) "_contents")) (gTup K 2 (gCons (gName 2) (gCons (gName 1) (gNil)))) (tYes) (tVar 1) [2, 1]) (tNil)))
/-- the second parts of a tuple of pairs -/
theorem lc_snd {K : PySem.W.Frag} {te : TE} {g : TG} {telt : TE} {vs : List Nat} {σ : L2.St} {H : Hp} {ps : List (Int × Int)} {Q : VK} (hte : ∀ R : VK, (∀ c, PairsT H c ps → R (.ref c) H) → te σ H R) (hl : ps.length ≤ 1000)
    (hs : ∀ t p H' (R : VK), TupAt H' t p → R (.int p.2) H' → g (.ref t) (wipe σ vs) H' fun σ2 H2 => wipe σ2 vs = wipe σ vs ∧ telt σ2 H2 R)
    (hQ : ∀ D H', H D = none → Same H H' → H' D = some (.lst ((ps.map Prod.snd).map V.int)) → Q (.ref D) H') : tLc (iTup K te) g tYes telt vs σ H Q := by
  refine hte _ fun c hp => ?_
  obtain ⟨ts, bc, hts⟩ := hp
  have hlen : (ts.map V.ref).length = ps.length := by rw [List.length_map, paired_len hts]
  refine ⟨c, rfl, ⟨_, bc.sq⟩, fun D hD => ?_⟩
  refine lc_it (walk_tup (K := K) (a := c) (xs := ts.map V.ref)) (fun i H1 => Same H H1 ∧ H1 D = some (.lst (((ps.take i).map Prod.snd).map V.int))) ⟨same_new hD, upd_same⟩ (fun i H1 _ h => (bc.same h.1).sq) ?_ ?_
  · rintro i v H1 H2 hi ⟨s1, d1⟩ ⟨rfl, hv⟩
    rw [List.getElem?_map] at hv
    obtain ⟨t, ht, rfl⟩ := Option.map_eq_some_iff.mp hv
    obtain ⟨p, hpi, hat⟩ := paired_at hts ht
    refine hs t p H2 _ (s1 _ _ hat) ⟨_, d1, ?_, same_upd s1 hD, ?_⟩
    · rw [List.length_map, List.length_map, List.length_take]
      exact Nat.lt_of_le_of_lt (Nat.le_trans (Nat.min_le_right _ _) hl) (by decide)
    · rw [upd_same, List.take_succ, hpi, List.map_append, List.map_append]
      rfl
  · rintro H1 ⟨s1, d1⟩
    rw [hlen, List.take_length] at d1
    exact hQ D H1 hD s1 d1
theorem pure_total {K : PySem.W.Frag} {C : Addr} (R : RowC K C) (vs : List V) (H : Hp) (Q : VK) (E : XK) (h : spTotal K C vs H Q E) : t_Row_total K { nx := fun _ H' => Q .non H', rt := Q } (start ["self", "count", "_"] vs) H := by
  obtain ⟨x, ps, ks, rfl, ⟨dx, c, k, d, e, ps0, ks0, h1, h2, h3⟩, len, q⟩ := h
  unfold t_Row_total
  rw [← xLc_eq]
  show xLc (iTup K (tFld K (tVar 0) "_contents")) (gTup K 2 (gCons (gName 2) (gCons (gName 1) (gNil)))) (tYes) (tVar 1) [2, 1] [some (.ref x), none, none] H _
  rw [xLc_eq]
  refine lc_snd (fun R' r => ⟨_, rfl, x, C, dx, _, _, rfl, h1, R.cls, R.n1, fl1 c k d e, r c h2⟩) len (fun t p H1 R' at1 r => ?_) fun D H1 hD s1 d1 => ?_
  · exact ⟨t, _, rfl, SqT.of at1, rfl, _, _, rfl, _, _, rfl, rfl, rfl, _, rfl, r⟩
  · exact ⟨D, _, rfl, SqL.of d1, q H1 s1⟩
end SR

set_option Elab.async false
set_option linter.all false
set_option maxRecDepth 100000
set_option maxHeartbeats 4000000
/-! SRH3: != of a list of anything and the empty one. -/
namespace L2
open PySem PySem.Spec PyProof.Rows
def rNeE (K : PySem.W.Frag) : R2 := fun x y H Q => ∃ a b xs, x = .ref a ∧ y = .ref b ∧ SqL K H a xs ∧ SqL K H b [] ∧ Q (.bl (!xs.isEmpty)) H
theorem op_neE {X : Cx} (hu : X.A.units + 64 < cLine) : OpR X (compareOp .NotEq) (rNeE X.K) := by
  intro pins s σ H x y v u Q I rx ry h
  obtain ⟨a, b, xs, rfl, rfl, ha, hb, q⟩ := h
  cases rx
  cases ry
  have hu0 : X.A.units < cLine := by omega
  obtain ⟨its, rv, la, _⟩ := I.list ha
  obtain ⟨jts, rw_, lb, _⟩ := I.list hb
  replace la := la.isList
  replace lb := lb.isList
  have e1 := rv.length
  have e2 := rw_.length
  show wpAny (model X.prog X.w) X.A (richCompare .NotEq (.ref a) (.ref b)) (EP X pins σ Q) X.xe s
  cases xs with
  | nil =>
    have z1 : its = [] := List.length_eq_zero_iff.mp e1.symm
    have z2 : jts = [] := List.length_eq_zero_iff.mp e2.symm
    subst z1 z2
    exact (SeqAt.RcNeAt.lists (A := X.A) (e := fun _ => true) la lb rfl hu0 (fun j h1 _ => absurd h1 (by simp))) X.prog X.w X.xe _ ⟨.bl false, H, I, rfl, q⟩
  | cons x xs =>
    have z2 : jts = [] := List.length_eq_zero_iff.mp e2.symm
    subst z2
    refine (SeqAt.RcNeAt.lists_lengths (A := X.A) la lb ?_ hu0) X.prog X.w X.xe _ ⟨.bl true, H, I, rfl, q⟩
    rw [List.length_cons] at e1
    have : its.toArray.size ≠ (#[] : Array Value).size := by
      rw [List.size_toArray, ← e1]
      simp
    simpa using this
end L2

set_option Elab.async false
set_option linter.all false
set_option maxRecDepth 100000
set_option maxHeartbeats 4000000
/-! K07A: long sweeps and brackets. -/
namespace SR
open PySem PySem.Spec PyProof.Rows L2
/-- the boxes that close: places left, how many are open, the box, what closes -/
inductive Clos : List Int → Nat → Int → List Int → Prop where
  | nil {p : Int} : Clos [] 0 p []
  | opn {y : Int} {s : List Int} {w : Nat} {p : Int} {r : List Int} (h : w = 0 ∨ p = y) (t : Clos s (w + 1) (y + 1) r) : Clos (y :: s) w p r
  | cls {s : List Int} {w : Nat} {p : Int} {r : List Int} (h : s.head? ≠ some p) (t : Clos s w (p + 1) r) : Clos s (w + 1) p (p :: r)
theorem clos_any {s : List Int} {p q : Int} {r : List Int} (h : Clos s 0 p r) : Clos s 0 q r := by
  cases h with
  | nil => exact .nil
  | opn _ t => exact .opn (.inl rfl) t
theorem clos_one {s : List Int} {w : Nat} {p : Int} {r r' : List Int} (h : Clos s w p r) (h' : Clos s w p r') : r = r' := by
  induction h generalizing r' with
  | nil => cases h'; rfl
  | @opn y s w p r h t ih =>
    generalize e : y :: s = z at h'
    cases h' with
    | nil => cases e
    | @opn y2 s2 w2 p2 r2 h2 t2 =>
      injection e with e1 e2
      subst e1 e2
      exact ih t2
    | @cls s2 w2 p2 r2 h2 t2 =>
      rcases h with h | h
      · cases h
      · subst e
        exact absurd (by rw [h]; rfl) h2
  | @cls s w p r h t ih =>
    generalize e : w + 1 = z at h'
    cases h' with
    | nil => cases e
    | @opn y2 s2 w2 p2 r2 h2 t2 =>
      rcases h2 with h2 | h2
      · omega
      · exact absurd (by rw [h2]; rfl) h
    | @cls s2 w2 p2 r2 h2 t2 =>
      have : w2 = w := by omega
      subst this
      rw [ih t2]
theorem clos_len {s : List Int} {w : Nat} {p : Int} {r : List Int} (h : Clos s w p r) : r.length = s.length + w := by
  induction h with
  | nil => rfl
  | opn h t ih => rw [ih, List.length_cons]; omega
  | cls h t ih => rw [List.length_cons, ih]; omega
/-- what closes ascends, and is none of the places -/
theorem clos_all {s : List Int} {w : Nat} {p : Int} {r : List Int} (h : Clos s w p r) : s.Pairwise (· < ·) → (0 < w → ∀ y ∈ s, p ≤ y) → r.Pairwise (· < ·) ∧ (∀ x ∈ r, x ∉ s) ∧ (∀ x ∈ r, (0 < w → p ≤ x) ∧ (w = 0 → ∀ y ∈ s.head?, y ≤ x)) := by
  induction h with
  | nil => exact fun _ _ => ⟨.nil, (fun x m => nomatch m), (fun x m => nomatch m)⟩
  | @opn y s w p r h t ih =>
    intro asc lo
    obtain ⟨a1, a2⟩ := List.pairwise_cons.mp asc
    obtain ⟨b1, b2, b3⟩ := ih a2 fun _ z m => by have := a1 z m; omega
    refine ⟨b1, fun x m z => ?_, fun x m => ?_⟩
    · have := (b3 x m).1 (by omega)
      rcases List.mem_cons.mp z with z | z
      · omega
      · exact b2 x m z
    · have := (b3 x m).1 (by omega)
      refine ⟨fun w0 => ?_, fun _ z hz => ?_⟩
      · have := lo w0 y List.mem_cons_self
        omega
      · cases hz
        omega
  | @cls s w p r h t ih =>
    intro asc lo
    have up : ∀ z ∈ s, p + 1 ≤ z := fun z m => by
      have l1 := lo (by omega) z m
      have : z ≠ p := fun e => by
        cases s with
        | nil => cases m
        | cons a s =>
          have l2 := lo (by omega) a List.mem_cons_self
          rcases List.mem_cons.mp m with m | m
          · exact h (by rw [← e, m]; rfl)
          · have := (List.pairwise_cons.mp asc).1 z m
            omega
      omega
    obtain ⟨b1, b2, b3⟩ := ih asc fun _ => up
    have lo2 : ∀ x ∈ r, p + 1 ≤ x := fun x m => by
      by_cases w0 : w = 0
      · subst w0
        cases s with
        | nil =>
          cases t
          cases m
        | cons a s =>
          have := (b3 x m).2 rfl a rfl
          have := up a List.mem_cons_self
          omega
      · exact (b3 x m).1 (by omega)
    refine ⟨List.pairwise_cons.mpr ⟨fun x m => by have := lo2 x m; omega, b1⟩, fun x m z => ?_, fun x m => ⟨fun _ => ?_, fun z => by omega⟩⟩
    · rcases List.mem_cons.mp m with m | m
      · have := up x z
        omega
      · exact b2 x m z
    · rcases List.mem_cons.mp m with m | m
      · omega
      · have := lo2 x m
        omega
theorem clos_bd {B : Int} {s : List Int} {w : Nat} {p : Int} {r : List Int} (h : Clos s w p r) : (0 < w → p + w - 1 ≤ B) → (∀ y ∈ s, y + (s.length + w) ≤ B) → ∀ x ∈ r, x ≤ B := by
  induction h with
  | nil => exact fun _ _ x m => nomatch m
  | @opn y s w p r h t ih =>
    intro a b
    have c := b y List.mem_cons_self
    rw [List.length_cons] at c
    refine ih (fun _ => by omega) fun z m => ?_
    have d := b z (List.mem_cons_of_mem _ m)
    rw [List.length_cons] at d
    omega
  | @cls s w p r h t ih =>
    intro a b x m
    have c := a (by omega)
    rcases List.mem_cons.mp m with m | m
    · omega
    · exact ih (fun _ => by omega) (fun z m => by have := b z m; omega) x m
/-- the places from a box on -/
def sf (L : List Int) (i : Int) : List Int := L.filter fun y => decide (i ≤ y)
theorem sf_in {L : List Int} (asc : L.Pairwise (· < ·)) {i : Int} (h : i ∈ L) : sf L i = i :: sf L (i + 1) := by
  induction L with
  | nil => cases h
  | cons a L ih =>
    obtain ⟨a1, a2⟩ := List.pairwise_cons.mp asc
    unfold sf
    rcases List.mem_cons.mp h with e | m
    · subst e
      rw [List.filter_cons_of_pos (by exact decide_eq_true (Int.le_refl _)), List.filter_cons_of_neg (by simp; omega)]
      congr 1
      refine List.filter_congr fun y m => decide_eq_decide.mpr ?_
      have := a1 y m
      omega
    · have := a1 i m
      rw [List.filter_cons_of_neg (by simp; omega), List.filter_cons_of_neg (by simp; omega)]
      exact ih a2 m
theorem sf_out {L : List Int} {i : Int} (h : i ∉ L) : sf L i = sf L (i + 1) := by
  unfold sf
  refine List.filter_congr fun y m => decide_eq_decide.mpr ?_
  have : y ≠ i := fun e => h (e ▸ m)
  omega
theorem sf_head {L : List Int} {i : Int} (h : i ∉ L) : (sf L i).head? ≠ some i := fun z => by
  have m := List.mem_of_mem_head? z
  exact h (List.mem_filter.mp m).1
section
variable {ps : List (Int × Int)} {most : Int}
/-- one item each -/
def Ones (ps : List (Int × Int)) : Prop := ∀ p ∈ ps, p.2 = 1
theorem cnt_in (asc : Asc ps) (one : Ones ps) {i : Int} (h : i ∈ ps.map Prod.fst) : cnt ps i = 1 := by
  obtain ⟨p, m, rfl⟩ := List.mem_map.mp h
  unfold cnt
  rw [(lookup_some (n := p.2) (asc_nd asc)).mpr m, one p m]
  rfl
theorem cnt_out {i : Int} (h : i ∉ ps.map Prod.fst) : cnt ps i = 0 := by
  unfold cnt
  rw [lookup_none.mpr h]
  rfl
theorem st_one {l : Int} (h : l < most) (h0 : 0 ≤ l) : stC most l 1 1 = 0 ∧ stL most l 1 1 = l + 1 := by
  unfold stC stL
  omega
theorem st_none {l : Int} (h : l ≤ most) (h0 : 1 ≤ l) : stC most l 1 0 = 1 ∧ stL most l 1 0 = l - 1 := by
  unfold stC stL
  omega
theorem left_cons (s : Step) (st : List Step) : left (s :: st) = (if 0 < s.2.2.2.2 then [(s.1, s.2.2.2.2)] else []) ++ left st := by
  unfold left
  by_cases e : 0 < s.2.2.2.2
  · rw [if_pos e, List.filter_cons_of_pos (p := fun s : Step => decide (0 < s.2.2.2.2)) (decide_eq_true e)]
    rfl
  · rw [if_neg e, List.filter_cons_of_neg (p := fun s : Step => decide (0 < s.2.2.2.2)) (by rw [decide_eq_false e]; exact Bool.false_ne_true)]
    rfl
theorem left_append (a b : List Step) : left (a ++ b) = left a ++ left b := by
  unfold left
  rw [List.filter_append, List.map_append]
theorem lastIdx_cons {s : Step} {st : List Step} (h : st ≠ []) : lastIdx (s :: st) = lastIdx st := by
  unfold lastIdx
  cases st with
  | nil => exact absurd rfl h
  | cons a st => rw [List.getLast?_cons_cons]
theorem lastIdx_app {a b : List Step} (h : b ≠ []) : lastIdx (a ++ b) = lastIdx b := by
  unfold lastIdx
  rw [List.getLast?_append]
  cases e : b.getLast? with
  | none => exact absurd (List.getLast?_eq_none_iff.mp e) h
  | some x => rfl
theorem walks_clos (asc : Asc ps) (one : Ones ps) {i l : Int} {w : List Step} (h : Walks (cnt ps) (cap []) most i l w) : 0 ≤ l → l + (sf (ps.map Prod.fst) i).length ≤ most → (l = 0 → i ∈ ps.map Prod.fst) →
    (∀ j r, Clos (sf (ps.map Prod.fst) (lastIdx w + 1)) 0 j r → Clos (sf (ps.map Prod.fst) i) l.toNat i ((left w).map Prod.fst ++ r)) ∧ (∀ s ∈ w, s.2.2.2.2 ≤ 1) ∧ i ≤ lastIdx w := by
  have pw : (ps.map Prod.fst).Pairwise (· < ·) := by rw [List.pairwise_map]; exact asc
  have cp : ∀ i, cap [] i = 1 := fun i => rfl
  induction h with
  | @last i l h =>
    intro l0 lm li
    rw [cp] at h
    by_cases m : i ∈ ps.map Prod.fst
    · rw [cnt_in asc one m] at h
      have z := sf_in pw m
      rw [z, List.length_cons] at lm
      rw [(st_one (l := l) (most := most) (by omega) l0).2] at h
      omega
    · have l1 : 1 ≤ l := by
        by_cases e : l = 0
        · exact absurd (li e) m
        · omega
      rw [cnt_out m, (st_none (l := l) (most := most) (by omega) l1).2] at h
      have l1' : l = 1 := by omega
      subst l1'
      have sc := (st_none (l := 1) (most := most) (by omega) (by omega)).1
      refine ⟨fun j r c => ?_, fun s ms => ?_, Int.le_refl _⟩
      · have e1 : left [stepAt (cnt ps) (cap []) most i 1] = [(i, 1)] := by
          rw [left_cons]
          show (if 0 < stC most 1 (cap [] i) (cnt ps i) then [(i, stC most 1 (cap [] i) (cnt ps i))] else []) ++ [] = _
          rw [cp, cnt_out m, sc]
          rfl
        rw [e1]
        refine .cls (sf_head m) ?_
        rw [sf_out m]
        exact clos_any c
      · rw [List.mem_singleton.mp ms]
        show stC most 1 (cap [] i) (cnt ps i) ≤ 1
        rw [cp, cnt_out m, sc]
        exact Int.le_refl _
  | @more i l w h t ih =>
    intro l0 lm li
    rw [cp] at h t
    have wn := walks_ne t
    by_cases m : i ∈ ps.map Prod.fst
    · have z := sf_in pw m
      rw [z, List.length_cons] at lm
      obtain ⟨s1, s2⟩ := st_one (l := l) (most := most) (by omega) l0
      rw [cp, cnt_in asc one m, s2] at ih
      obtain ⟨a, b, c⟩ := ih (by omega) (by omega) (fun z => by omega)
      refine ⟨fun j r q => ?_, fun s ms => ?_, ?_⟩
      · rw [lastIdx_cons wn] at q
        have e1 : left (stepAt (cnt ps) (cap []) most i l :: w) = left w := by
          rw [left_cons]
          show (if 0 < stC most l (cap [] i) (cnt ps i) then [(i, stC most l (cap [] i) (cnt ps i))] else []) ++ _ = _
          rw [cp, cnt_in asc one m, s1]
          rfl
        rw [e1, z]
        have e2 : (l + 1).toNat = l.toNat + 1 := by omega
        have := a j r q
        rw [e2] at this
        exact .opn (.inr rfl) this
      · rcases List.mem_cons.mp ms with rfl | ms
        · show stC most l (cap [] i) (cnt ps i) ≤ 1
          rw [cp, cnt_in asc one m, s1]
          decide
        · exact b s ms
      · rw [lastIdx_cons wn]
        omega
    · have l1 : 1 ≤ l := by
        by_cases e : l = 0
        · exact absurd (li e) m
        · omega
      obtain ⟨s1, s2⟩ := st_none (l := l) (most := most) (by omega) l1
      rw [cnt_out m, s2] at h
      rw [cp, cnt_out m, s2] at ih
      have z := sf_out m
      rw [z] at lm
      obtain ⟨a, b, c⟩ := ih (by omega) (by omega) (fun z => absurd z h)
      refine ⟨fun j r q => ?_, fun s ms => ?_, ?_⟩
      · rw [lastIdx_cons wn] at q
        have e1 : left (stepAt (cnt ps) (cap []) most i l :: w) = (i, 1) :: left w := by
          rw [left_cons]
          show (if 0 < stC most l (cap [] i) (cnt ps i) then [(i, stC most l (cap [] i) (cnt ps i))] else []) ++ _ = _
          rw [cp, cnt_out m, s1]
          rfl
        rw [e1]
        have e2 : l.toNat = (l - 1).toNat + 1 := by omega
        rw [e2]
        refine .cls (sf_head m) ?_
        rw [z]
        exact a j r q
      · rcases List.mem_cons.mp ms with rfl | ms
        · show stC most l (cap [] i) (cnt ps i) ≤ 1
          rw [cp, cnt_out m, s1]
          decide
        · exact b s ms
      · rw [lastIdx_cons wn]
        omega
def curL (L : List Int) (acc : List Step) : List Int := L.filter fun y => decide (acc = [] ∨ lastIdx acc < y)
theorem traces_clos (asc : Asc ps) (one : Ones ps) (big : (ps.length : Int) ≤ most) {qs : List (Int × Int)} {acc st : List Step} (h : Traces (cnt ps) (cap []) most qs acc st) : (∀ q ∈ qs, q ∈ ps) → Asc qs → (∀ y ∈ ps.map Prod.fst, (acc = [] ∨ lastIdx acc < y) → y ∈ qs.map Prod.fst) →
    ∃ w, st = acc ++ w ∧ Clos (curL (ps.map Prod.fst) acc) 0 0 ((left w).map Prod.fst) ∧ ∀ s ∈ w, s.2.2.2.2 ≤ 1 := by
  induction h with
  | @nil acc =>
    intro _ _ c
    refine ⟨[], (List.append_nil _).symm, ?_, fun s m => nomatch m⟩
    have : curL (ps.map Prod.fst) acc = [] := by
      unfold curL
      rw [List.filter_eq_nil_iff]
      intro y m z
      exact nomatch c y m (of_decide_eq_true z)
    rw [this]
    exact .nil
  | @skip p qs acc r hn h2 t ih =>
    intro a b c
    refine ih (fun q m => a q (List.mem_cons_of_mem _ m)) (List.pairwise_cons.mp b).2 fun y m z => ?_
    rcases List.mem_cons.mp (show y ∈ p.1 :: qs.map Prod.fst from c y m z) with e | e
    · rcases z with z | z
      · exact absurd z hn
      · omega
    · exact e
  | @walk p qs acc w r hon hw t ih =>
    intro a b c
    obtain ⟨b1, b2⟩ := List.pairwise_cons.mp b
    have wn := walks_ne hw
    have pm : p.1 ∈ ps.map Prod.fst := List.mem_map_of_mem (a p List.mem_cons_self)
    have lq : ∀ y ∈ qs.map Prod.fst, p.1 < y := fun y m => by
      obtain ⟨q, hq, rfl⟩ := List.mem_map.mp m
      exact b1 q hq
    have cur : curL (ps.map Prod.fst) acc = sf (ps.map Prod.fst) p.1 := by
      unfold curL sf
      refine List.filter_congr fun y m => decide_eq_decide.mpr ⟨fun z => ?_, fun z => ?_⟩
      · rcases List.mem_cons.mp (show y ∈ p.1 :: qs.map Prod.fst from c y m z) with e | e
        · omega
        · have := lq y e
          omega
      · rcases hon with hon | hon
        · exact .inl hon
        · exact .inr (by omega)
    have lf : (sf (ps.map Prod.fst) p.1).length ≤ ps.length := by
      have := List.length_filter_le (fun y => decide (p.1 ≤ y)) (ps.map Prod.fst)
      rw [List.length_map] at this
      exact this
    obtain ⟨k1, k2, k3⟩ := walks_clos asc one hw (Int.le_refl _) (by omega) fun _ => pm
    have la : lastIdx (acc ++ w) = lastIdx w := lastIdx_app wn
    have ne : acc ++ w ≠ [] := fun z => wn (List.append_eq_nil_iff.mp z).2
    obtain ⟨v, e1, e2, e3⟩ := ih (fun q m => a q (List.mem_cons_of_mem _ m)) b2 fun y m z => by
      rcases z with z | z
      · exact absurd z ne
      · rw [la] at z
        have : acc = [] ∨ lastIdx acc < y := by
          rcases hon with hon | hon
          · exact .inl hon
          · exact .inr (by omega)
        rcases List.mem_cons.mp (show y ∈ p.1 :: qs.map Prod.fst from c y m this) with e | e
        · omega
        · exact e
    refine ⟨w ++ v, by rw [e1, List.append_assoc], ?_, fun s m => ?_⟩
    · rw [cur, left_append, List.map_append]
      have : curL (ps.map Prod.fst) (acc ++ w) = sf (ps.map Prod.fst) (lastIdx w + 1) := by
        unfold curL sf
        refine List.filter_congr fun y m => decide_eq_decide.mpr ⟨fun z => ?_, fun z => .inr (by rw [la]; omega)⟩
        rcases z with z | z
        · exact absurd z ne
        · rw [la] at z
          omega
      rw [this] at e2
      exact clos_any (k1 0 _ e2)
    · rcases List.mem_append.mp m with m | m
      · exact k2 s m
      · exact e3 s m
def ones (r : List Int) : List (Int × Int) := r.map fun y => (y, 1)
/-- a long sweep of a plain row -/
theorem long_sweep (asc : Asc ps) (one : Ones ps) (big : (ps.length : Int) ≤ most) {st : List Step} (h : Traces (cnt ps) (cap []) most ps [] st) {r : List Int} (c : Clos (ps.map Prod.fst) 0 0 r) : left st = ones r := by
  obtain ⟨w, e1, e2, e3⟩ := traces_clos asc one big h (fun q m => m) asc fun y m _ => m
  have : curL (ps.map Prod.fst) [] = ps.map Prod.fst := by
    unfold curL
    rw [List.filter_eq_self]
    exact fun y _ => decide_eq_true (.inl rfl)
  rw [this] at e2
  rw [List.nil_append] at e1
  subst e1
  have z := clos_one c e2
  unfold ones
  rw [z, List.map_map]
  have : ∀ p ∈ left st, ((fun y => (y, 1)) ∘ Prod.fst) p = p := fun p m => by
    obtain ⟨s, hs, rfl⟩ := List.mem_map.mp m
    obtain ⟨h1, h2⟩ := List.mem_filter.mp hs
    have a := of_decide_eq_true h2
    have b := e3 s h1
    show (s.1, (1 : Int)) = (s.1, s.2.2.2.2)
    rw [show s.2.2.2.2 = 1 by omega]
  rw [List.map_congr_left this, List.map_id']
end
end SR

set_option Elab.async false
set_option linter.all false
set_option maxRecDepth 100000
set_option maxHeartbeats 4000000
/-! K07B: the law's stack, and a crowd of items. -/
namespace SR
open PySem PySem.Spec PyProof.Rows L2
theorem clos_ex : ∀ (n : Nat) (s : List Int) (w : Nat) (p : Int), 2 * s.length + w ≤ n → ∃ r, Clos s w p r
  | 0, [], 0, p, _ => ⟨[], .nil⟩
  | 0, _ :: _, _, _, h => by rw [List.length_cons] at h; omega
  | 0, [], w + 1, _, h => by rw [List.length_nil] at h; omega
  | n + 1, [], 0, p, _ => ⟨[], .nil⟩
  | n + 1, [], w + 1, p, h => by
    obtain ⟨r, c⟩ := clos_ex n [] w (p + 1) (by rw [List.length_nil] at h ⊢; omega)
    exact ⟨p :: r, .cls (by simp) c⟩
  | n + 1, y :: s, w, p, h => by
    rw [List.length_cons] at h
    by_cases e : w = 0 ∨ p = y
    · obtain ⟨r, c⟩ := clos_ex n s (w + 1) (y + 1) (by omega)
      exact ⟨r, .opn e c⟩
    · obtain ⟨v, rfl⟩ : ∃ v, w = v + 1 := ⟨w - 1, by omega⟩
      obtain ⟨r, c⟩ := clos_ex n (y :: s) v (p + 1) (by rw [List.length_cons]; omega)
      exact ⟨p :: r, .cls (fun z => e (.inr (Option.some.inj z).symm)) c⟩
theorem cut_head (y : V) (t : List V) : cutV (y :: t) none (some 1) = [y] := by
  unfold cutV
  rw [HT.sIx_none, show (1 : Int) = ((1 : Nat) : Int) from rfl, HT.sIx_nat, List.length_cons]
  rw [show min 1 (t.length + 1) - 0 = 1 by omega]
  rfl
theorem cut_tail (y : V) (t : List V) : cutV (y :: t) (some 1) none = t := by
  unfold cutV
  rw [HT.sIx_none, show (1 : Int) = ((1 : Nat) : Int) from rfl, HT.sIx_nat, List.length_cons]
  rw [show min 1 (t.length + 1) = 1 by omega]
  show (t.take (t.length + 1 - 1)) = t
  rw [Nat.add_sub_cancel, List.take_length]
theorem eqv_int1 {i j : Int} (h : i ≠ j) : PyData.eqv (.list [.int i]) (.list [.int j]) = false := by
  simp [PyData.eqv, PyData.eqvAll, h]
def spClosing (K : PySem.W.Frag) : Sp := fun vs H Q _ => ∃ (a : Addr) (ns L r : List Int), vs = [.ref a] ∧ SqL K H a (ns.map V.int) ∧ ns.Perm L ∧ L.Pairwise (· < ·) ∧ L.length ≤ 40 ∧ Clos L 0 0 r ∧ ∀ f H', H f = none → Same H H' → H' f = some (.lst (r.map V.int)) → Q (.ref f) H'
def t_clBody (K : PySem.W.Frag) : TS := (tSeq (tAsg (tIf (tTest (tOp rEq (tVar 2) (tC (.int 0)))) (tOp (rIxL K) (tVar 1) (tC (.int 0))) (tVar 3)) (gName 3))
  (tSeq (tIfS (tTest (tOp (rEqD K) (tSl (rSlL K) (tVar 1) (tNoPart) (tPart (tC (.int 1)))) (tLst (tCons (tVar 3) (tNil)))))
  (tPar 1 2 (tCons (tSl (rSlL K) (tVar 1) (tPart (tC (.int 1))) (tNoPart)) (tCons (tOp qAdd (tVar 2) (tC (.int 1))) (tNil))))
  (tSeq (tDrop (tBM K "list" rAppend (tVar 4) (tCons (tVar 3) (tNil))))
  (tAsg (tOp qSub (tVar 2) (tC (.int 1))) (gName 2))))
  (tAsg (tOp qAdd (tVar 3) (tC (.int 1))) (gName 3))))
def t_closing (K : PySem.W.Frag) : TS := tSeq (tAsg (tTup (tCons (tCB (rSortedI K) (tCons (tVar 0) (tNil))) (tCons (tC (.int 0)) (tCons (tC (.int 0)) (tCons (tLst (tNil)) (tNil)))))) (gTup K 4 (gCons (gName 1) (gCons (gName 2) (gCons (gName 3) (gCons (gName 4) (gNil)))))))
  (tSeq (tWhile (tOr (tTest (tOp (rNeD K) (tVar 1) (tLst (tNil)))) (tTest (tOp qGt (tVar 2) (tC (.int 0)))))
  (t_clBody K))
  (tRet (tVar 4)))
theorem dp_list {K : PySem.W.Frag} {H : Hp} {a : Addr} {xs : List Int} (h : H a = some (.lst (xs.map V.int))) : Dp K H (.ref a) (.list (xs.map PyData.int)) := .lst (SqL.of h) (dp_ints xs)
theorem cl_body {K : PySem.W.Frag} {H : Hp} {f s : Addr} {sp found r' : List Int} {w : Nat} {p : Int} {w0 : Option V} {N N2 N3 : L2.St → Hp → Prop} {R : VK} (S0 : H s = some (.lst (sp.map V.int))) (F0 : H f = some (.lst (found.map V.int))) (nsf : s ≠ f) (c : Clos sp w p r') (hne : sp ≠ [] ∨ 0 < w) (hl : found.length ≤ 100)
    (hN : ∀ H' s' sp' w' p' found' r'', SameBut f H H' → H' s' = some (.lst (sp'.map V.int)) → H' f = some (.lst (found'.map V.int)) → s' ≠ f → Clos sp' w' p' r'' → found ++ r' = found' ++ r'' → 2 * sp'.length + w' < 2 * sp.length + w → found'.length + (2 * sp'.length + w') ≤ found.length + (2 * sp.length + w) →
      N [w0, some (.ref s'), some (.int w'), some (.int p'), some (.ref f)] H') :
    t_clBody K { nx := N, rt := R, bk := N2, ct := N3 } [w0, some (.ref s), some (.int w), some (.int p), some (.ref f)] H := by
  cases c with
  | nil =>
    rcases hne with h | h
    · exact absurd rfl h
    · omega
  | @opn y s2 _ _ _ h t =>
    have fin : ∀ H1 (l1 l2 : Addr), Same H H1 → H1 l1 = some (.lst ([y].map V.int)) → H1 l2 = some (.lst ([y].map V.int)) →
        (tSeq (tPar 1 2 (tCons (tSl (rSlL K) (tVar 1) (tPart (tC (.int 1))) (tNoPart)) (tCons (tOp qAdd (tVar 2) (tC (.int 1))) (tNil)))) (tAsg (tOp qAdd (tVar 3) (tC (.int 1))) (gName 3))) { nx := N, rt := R, bk := N2, ct := N3 } [w0, some (.ref s), some (.int w), some (.int y), some (.ref f)] H1 := by
      intro H1 l1 l2 s1 A B
      have S1 := s1 _ _ S0
      refine ⟨_, rfl, 1, rfl, s, _, rfl, SqL.of S1, fun q hq => ⟨_, rfl, _, _, rfl, rfl, _, _, rfl, ?_⟩⟩
      rw [List.map_cons, cut_tail]
      have s2' := s1.trans (same_new (o := .lst (s2.map V.int)) hq)
      refine ⟨_, rfl, _, _, rfl, rfl, ?_⟩
      have F2 := s2' _ _ F0
      refine hN _ q s2 (w + 1) (y + 1) found _ (Same.but s2') upd_same F2 (fun z => ?_) t rfl (by rw [List.length_cons]; omega) (by rw [List.length_cons]; omega)
      rw [z, s1 _ _ F0] at hq
      cases hq
    have go : (tSeq (tIfS (tTest (tOp (rEqD K) (tSl (rSlL K) (tVar 1) (tNoPart) (tPart (tC (.int 1)))) (tLst (tCons (tVar 3) (tNil)))))
        (tPar 1 2 (tCons (tSl (rSlL K) (tVar 1) (tPart (tC (.int 1))) (tNoPart)) (tCons (tOp qAdd (tVar 2) (tC (.int 1))) (tNil))))
        (tSeq (tDrop (tBM K "list" rAppend (tVar 4) (tCons (tVar 3) (tNil))))
        (tAsg (tOp qSub (tVar 2) (tC (.int 1))) (gName 2))))
        (tAsg (tOp qAdd (tVar 3) (tC (.int 1))) (gName 3))) { nx := N, rt := R, bk := N2, ct := N3 } [w0, some (.ref s), some (.int w), some (.int y), some (.ref f)] H := by
      refine ⟨_, rfl, 1, rfl, s, _, rfl, SqL.of S0, fun l1 h1 => ?_⟩
      rw [List.map_cons, cut_head]
      have s1 := same_new (o := .lst [V.int y]) h1
      have A1 : upd H l1 (.lst [V.int y]) l1 = some (.lst ([y].map V.int)) := upd_same
      generalize upd H l1 (.lst [V.int y]) = H1 at s1 A1 ⊢
      refine ⟨_, rfl, sz (by show 1 ≤ 1000; decide), fun l2 h2 => ?_⟩
      have s2' := s1.trans (same_new (o := .lst [V.int y]) h2)
      have A2 := same_new (o := .lst [V.int y]) h2 _ _ A1
      have B2 : upd H1 l2 (.lst [V.int y]) l2 = some (.lst ([y].map V.int)) := upd_same
      generalize upd H1 l2 (.lst [V.int y]) = H2 at s2' A2 B2 ⊢
      refine eq_same (dp_list A2) (dp_list B2) (shaped_ints [y]) ⟨_, rfl, iteT ?_⟩
      exact fin H2 l1 l2 s2' A2 B2
    refine ⟨_, rfl, rfl, _, rfl, ?_⟩
    by_cases e : w = 0
    · subst e
      exact iteT ⟨_, rfl, s, _, 0, .int y, rfl, rfl, SqL.of S0, atI_nat (j := 0) rfl, go⟩
    · rw [decide_eq_false (fun z => e (by have := V.int.inj z; omega))]
      rcases h with h | h
      · exact absurd h e
      · subst h
        exact iteF ⟨_, rfl, go⟩
  | @cls _ w _ r2 h t =>
    refine ⟨_, rfl, rfl, _, rfl, ?_⟩
    rw [decide_eq_false (fun z => by have := V.int.inj z; omega)]
    refine iteF ⟨_, rfl, _, rfl, 1, rfl, s, _, rfl, SqL.of S0, fun l1 h1 => ?_⟩
    have s1 := same_new (o := .lst (cutV (sp.map V.int) none (some 1))) h1
    have A1 : upd H l1 (.lst (cutV (sp.map V.int) none (some 1))) l1 = some (.lst (cutV (sp.map V.int) none (some 1))) := upd_same
    generalize upd H l1 (.lst (cutV (sp.map V.int) none (some 1))) = H1 at s1 A1 ⊢
    refine ⟨_, rfl, sz (by show 1 ≤ 1000; decide), fun l2 h2 => ?_⟩
    have s2' := s1.trans (same_new (o := .lst [V.int p]) h2)
    have A2 := same_new (o := .lst [V.int p]) h2 _ _ A1
    have B2 : upd H1 l2 (.lst [V.int p]) l2 = some (.lst ([p].map V.int)) := upd_same
    generalize upd H1 l2 (.lst [V.int p]) = H2 at s2' A2 B2 ⊢
    have last : (tSeq (tSeq (tDrop (tBM K "list" rAppend (tVar 4) (tCons (tVar 3) (tNil)))) (tAsg (tOp qSub (tVar 2) (tC (.int 1))) (gName 2))) (tAsg (tOp qAdd (tVar 3) (tC (.int 1))) (gName 3))) { nx := N, rt := R, bk := N2, ct := N3 } [w0, some (.ref s), some (.int ((w + 1 : Nat) : Int)), some (.int p), some (.ref f)] H2 := by
      have F2 := s2' _ _ F0
      have S2 := s2' _ _ S0
      refine ⟨_, rfl, .inl ⟨rfl, _, SqL.of F2⟩, _, rfl, f, _, _, rfl, rfl, F2, ?_, ?_⟩
      · rw [List.length_map]
        exact Nat.lt_of_le_of_lt hl (by decide)
      refine ⟨_, rfl, _, _, rfl, rfl, _, rfl, _, _, rfl, rfl, ?_⟩
      have : ((w + 1 : Nat) : Int) - 1 = (w : Int) := by omega
      show N [w0, some (.ref s), some (.int (((w + 1 : Nat) : Int) - 1)), some (.int (p + 1)), some (.ref f)] _
      rw [this]
      refine hN _ s sp w (p + 1) (found ++ [p]) r2 (fun b o ne hb => (upd_ne ne).trans (s2' _ _ hb)) ((upd_ne nsf).trans S2) (by rw [upd_same, List.map_append]; rfl) nsf t (by rw [List.append_assoc]; rfl) (by omega) (by rw [List.length_append, List.length_singleton]; omega)
    have no : ∃ d, Dp K H2 (.ref l1) d ∧ SeqAt.shaped d = true ∧ PyData.eqv d (.list [.int p]) = false := by
      cases sp with
      | nil => exact ⟨.list [], .lst (SqL.of A2) .nil, shaped_ints [], rfl⟩
      | cons a t =>
        rw [List.map_cons, cut_head] at A2
        exact ⟨.list [.int a], dp_list (xs := [a]) A2, shaped_ints [a], eqv_int1 fun z => h (by rw [z]; rfl)⟩
    obtain ⟨d, d1, d2, d3⟩ := no
    refine ⟨d, .list [.int p], d1, dp_list (xs := [p]) B2, d2, shaped_ints [p], _, rfl, ?_⟩
    rw [d3]
    exact iteF last
theorem pure_closing {K : PySem.W.Frag} (vs : List V) (H : Hp) (Q : VK) (E : XK) (h : spClosing K vs H Q E) : t_closing K { nx := fun _ H' => Q .non H', rt := Q } (start ["places", "spare", "waiting", "place", "found"] vs) H := by
  obtain ⟨a, ns, L, r, rfl, hL, pm, asc, l40, c, q⟩ := h
  refine ⟨_, rfl, a, ns, rfl, hL, fun ns' s pm2 pw hs => ?_⟩
  have e : ns' = L := by
    have nd : ns'.Nodup := (pm2.trans pm).nodup_iff.mpr (asc.imp fun z e => by omega)
    have a1 : Asc (ones ns') := by
      unfold Asc ones
      rw [List.pairwise_map]
      refine (List.Pairwise.and pw nd).imp fun {x y} z => ?_
      have := z.1
      have := z.2
      show x < y
      omega
    have a2 : Asc (ones L) := by
      unfold Asc ones
      rw [List.pairwise_map]
      exact asc
    have := congrArg (List.map Prod.fst) (asc_eq a1 a2 ((pm2.trans pm).map _))
    unfold ones at this
    rw [List.map_map, List.map_map] at this
    have k : ∀ xs : List Int, xs.map (Prod.fst ∘ fun y => (y, (1 : Int))) = xs := fun xs => List.map_id' xs
    rw [k, k] at this
    exact this
  subst e
  have s1 := same_new (o := .lst (ns'.map V.int)) hs
  have S1 : upd H s (.lst (ns'.map V.int)) s = some (.lst (ns'.map V.int)) := upd_same
  generalize upd H s (.lst (ns'.map V.int)) = H1 at s1 S1 ⊢
  refine ⟨sz (Nat.zero_le _), fun f hf => ?_⟩
  have s2 := s1.trans (same_new (o := .lst []) hf)
  have S2 := same_new (o := .lst []) hf _ _ S1
  have F2 : upd H1 f (.lst []) f = some (.lst []) := upd_same
  generalize upd H1 f (.lst []) = H2 at s2 S2 F2 ⊢
  refine ⟨sz (by show 4 ≤ 1000; decide), fun t ht => ⟨t, _, rfl, SqT.of upd_same, rfl, _, _, rfl, _, _, rfl, _, _, rfl, _, _, rfl, rfl, ?_⟩⟩
  have s3 := s2.trans (same_new (o := .tup [.ref s, .int 0, .int 0, .ref f]) ht)
  have S3 := same_new (o := .tup [.ref s, .int 0, .int 0, .ref f]) ht _ _ S2
  have F3 := same_new (o := .tup [.ref s, .int 0, .int 0, .ref f]) ht _ _ F2
  generalize upd H2 t (.tup [.ref s, .int 0, .int 0, .ref f]) = H3 at s3 S3 F3 ⊢
  have nsf : s ≠ f := fun z => by rw [z, F2] at S2; rw [← z, S1] at hf; cases hf
  have hf0 : H f = none := Same.free s1 hf
  refine ⟨fun m σ H4 => ∃ s sp w p found r', m = 2 * sp.length + w ∧ SameBut f H3 H4 ∧ H4 s = some (.lst (sp.map V.int)) ∧ H4 f = some (.lst (found.map V.int)) ∧ s ≠ f ∧ Clos sp w p r' ∧ r = found ++ r' ∧ found.length + m ≤ 80 ∧ σ = [some (.ref a), some (.ref s), some (.int w), some (.int p), some (.ref f)],
    ⟨_, s, ns', 0, 0, [], r, rfl, (fun b o _ h => h), S3, F3, nsf, c, rfl, by rw [List.length_nil]; omega, rfl⟩, ?_⟩
  rintro m σ H4 ⟨s, sp, w, p, found, r', rfl, k4, S4, F4, nsf, cl, er, len, rfl⟩
  refine ⟨_, rfl, sz (Nat.zero_le _), fun e he => ⟨.list (sp.map PyData.int), .list [], dp_list ((upd_ne (ne_of_none S4 he)).trans S4), .lst (SqL.of upd_same) .nil, shaped_ints sp, shaped_ints [], _, rfl, ?_⟩⟩
  have k5 : SameBut f H3 (upd H4 e (.lst [])) := fun b o ne hb => same_new he _ _ (k4 b o ne hb)
  have S5 := same_new (o := .lst []) he _ _ S4
  have F5 := same_new (o := .lst []) he _ _ F4
  generalize upd H4 e (.lst []) = H5 at k5 S5 F5 ⊢
  have go : sp ≠ [] ∨ 0 < w → ∃ Nn : L2.St → Hp → Prop, (∀ σ' H', Nn σ' H' → ∃ m', m' < 2 * sp.length + w ∧ ∃ s sp w p found r', m' = 2 * sp.length + w ∧ SameBut f H3 H' ∧ H' s = some (.lst (sp.map V.int)) ∧ H' f = some (.lst (found.map V.int)) ∧ s ≠ f ∧ Clos sp w p r' ∧ r = found ++ r' ∧ found.length + m' ≤ 80 ∧ σ' = [some (.ref a), some (.ref s), some (.int w), some (.int p), some (.ref f)]) ∧
      t_clBody K { nx := Nn, rt := Q, bk := tRet (tVar 4) { nx := fun _ H' => Q .non H', rt := Q }, ct := Nn } [some (.ref a), some (.ref s), some (.int w), some (.int p), some (.ref f)] H5 := by
    intro ne
    refine ⟨_, fun σ' H' z => z, cl_body S5 F5 nsf cl ne (by omega) fun H' s' sp' w' p' found' r'' k6 S6 F6 nsf' cl' er' dec tot => ⟨_, dec, s', sp', w', p', found', r'', rfl, k5.trans k6, S6, F6, nsf', cl', er.trans er', by omega, rfl⟩⟩
  cases sp with
  | cons y t =>
    rw [show (!PyData.eqv (.list ((y :: t).map PyData.int)) (.list [])) = true from rfl]
    exact iteT (iteT (go (.inl (by simp))))
  | nil =>
    rw [show (!PyData.eqv (.list (([] : List Int).map PyData.int)) (.list [])) = false from rfl]
    refine iteF ⟨_, rfl, _, _, rfl, rfl, _, rfl, ?_⟩
    by_cases pos : 0 < w
    · rw [decide_eq_true (show (0 : Int) < (w : Int) by omega)]
      exact iteT (go (.inr pos))
    · rw [decide_eq_false (show ¬ (0 : Int) < (w : Int) by omega)]
      have w0 : w = 0 := by omega
      subst w0
      cases cl
      rw [List.append_nil] at er
      subst er
      exact iteF ⟨_, rfl, q f H5 hf0 (fun b o hb => k5 _ _ (ne_of_none hb hf0) (s3 _ _ hb)) F5⟩
end SR

set_option Elab.async false
set_option linter.all false
set_option maxRecDepth 100000
set_option maxHeartbeats 4000000
/-! K07C: a crowd; lists and dicts made of places. -/
namespace SR
open PySem PySem.Spec PyProof.Rows L2
theorem ones_fst (L : List Int) : (ones L).map Prod.fst = L := by
  unfold ones
  rw [List.map_map]
  exact List.map_id' L
theorem ones_len (L : List Int) : (ones L).length = L.length := by
  unfold ones
  rw [List.length_map]
theorem ones_asc {L : List Int} (h : L.Pairwise (· < ·)) : Asc (ones L) := by
  unfold Asc ones
  rw [List.pairwise_map]
  exact h
theorem ones_ones (L : List Int) : Ones (ones L) := fun p m => by
  obtain ⟨y, _, rfl⟩ := List.mem_map.mp m
  rfl
theorem ones_of {ps : List (Int × Int)} (h : Ones ps) : ps = ones (ps.map Prod.fst) := by
  unfold ones
  rw [List.map_map]
  have : ∀ p ∈ ps, ((fun y => (y, (1 : Int))) ∘ Prod.fst) p = p := fun p m => by
    show (p.1, (1 : Int)) = p
    rw [← h p m]
  rw [List.map_congr_left this, List.map_id']
theorem ones_sum (L : List Int) : ((ones L).map Prod.snd).sum = L.length := by
  unfold ones
  rw [List.map_map]
  induction L with
  | nil => rfl
  | cons a L ih => rw [List.map_cons, List.sum_cons, ih, List.length_cons]; show 1 + (L.length : Int) = _; omega
theorem ones_ok {L : List Int} (h : L.Pairwise (· < ·)) (l : L.length ≤ 40) : RowOk (ones L) [] :=
  ⟨by rw [ones_fst]; exact h.imp fun z e => by omega, .nil, Nat.zero_le _, (fun p m => nomatch m), fun p m => by rw [ones_ones L p m]; exact ⟨Int.le_refl _, Int.le_refl _⟩, by rw [ones_sum]; omega⟩
theorem ones_keys (L : List Int) : (kvsOf (ones L)).map (fun kv => kV kv.1) = L.map V.int := by
  unfold kvsOf ones
  rw [List.map_map, List.map_map]
  rfl
theorem ones_at {L : List Int} {i : Nat} {k : Key} {v : V} (h : (kvsOf (ones L))[i]? = some (k, v)) : ∃ y, L[i]? = some y ∧ k = .inl y := by
  unfold kvsOf ones at h
  rw [List.map_map, List.getElem?_map] at h
  obtain ⟨y, h1, h2⟩ := Option.map_eq_some_iff.mp h
  cases h2
  exact ⟨y, h1, rfl⟩
theorem kvs_len (L : List Int) : (kvsOf (ones L)).length = L.length := by
  unfold kvsOf
  rw [List.length_map, ones_len]
/-- all but the dict that a loop goes over -/
theorem same_lock {H H' : Hp} {F : Addr} {u : HO} (hF : H F = some u) (k : ∀ b o, b ≠ F → H b = some o → H' b = some o) : Same H (upd H' F u) := fun b o h => by
  by_cases e : b = F
  · subst e
    rw [upd_same, ← hF]
    exact h
  · rw [upd_ne e]
    exact k b o e h
abbrev qLenD : List V → Hp → VK → Prop := fun xs H Q => ∃ a kvs, xs = [V.ref a] ∧ H a = some (.dK kvs) ∧ Q (.int kvs.length) H
/-- [-place for place in boxes] -/
theorem keys_neg {H : Hp} {F : Addr} {L : List Int} {x0 x1 x2 x4 x5 x6 x7 x8 x9 : Option V} {Q : VK} (hF : H F = some (.dK (kvsOf (ones L)))) (l40 : L.length ≤ 40)
    (q : ∀ D H', H D = none → Same H H' → H' D = some (.lst ((L.map fun y => -y).map V.int)) → Q (.ref D) H') :
    tLockE (tLc (iKeys (tVar 3)) (gName 9) (tYes) (tUn (rU fun i => .int (-i)) (tVar 9)) [9]) [x0, x1, x2, some (.ref F), x4, x5, x6, x7, x8, x9] H Q := by
  refine ⟨F, _, hF, trivial, fun od => ?_⟩
  have A : upd H F (.frz od (.dK (kvsOf (ones L)))) F = some (.frz od (.dK (kvsOf (ones L)))) := upd_same
  have k1 : ∀ b o, b ≠ F → H b = some o → upd H F (.frz od (.dK (kvsOf (ones L)))) b = some o := fun b o e h => (upd_ne e).trans h
  have fr : ∀ b, upd H F (.frz od (.dK (kvsOf (ones L)))) b = none → H b = none ∧ b ≠ F := fun b e => by
    by_cases z : b = F
    · rw [z, upd_same] at e
      cases e
    · rw [upd_ne z] at e
      exact ⟨e, z⟩
  generalize upd H F (.frz od (.dK (kvsOf (ones L)))) = H1 at A k1 fr ⊢
  refine ⟨_, rfl, F, od, rfl, .inl ⟨_, A, fun D hD => ?_⟩⟩
  obtain ⟨hD0, nDF⟩ := fr D hD
  refine lc_it (walk_keys (d := F) (o := od) (kvs := kvsOf (ones L))) (fun i H2 => Same H1 H2 ∧ H2 D = some (.lst (((L.take i).map fun y => -y).map V.int))) ⟨same_new hD, upd_same⟩ ?_ ?_ ?_
  · rintro i H2 _ ⟨s2, _⟩
    exact s2 _ _ A
  · rintro i x H2 H3 hi ⟨s2, d2⟩ ⟨rfl, k, v, hkv, rfl⟩
    obtain ⟨y, hy, rfl⟩ := ones_at hkv
    have tl : (L.take i).length ≤ 40 := by
      rw [List.length_take]
      exact Nat.le_trans (Nat.min_le_right _ _) l40
    refine ⟨rfl, _, rfl, _, rfl, _, d2, ?_, same_upd s2 hD, ?_⟩
    · rw [List.length_map, List.length_map]
      exact Nat.lt_of_le_of_lt tl (by decide)
    · rw [upd_same, List.take_succ, hy, List.map_append, List.map_append]
      rfl
  · rintro H2 ⟨s2, d2⟩
    rw [kvs_len, List.take_length] at d2
    refine ⟨s2 _ _ A, q D _ hD0 (same_lock hF fun b o e h => s2 _ _ (k1 b o e h)) ?_⟩
    rw [upd_ne nDF]
    exact d2
/-- [1 for place in boxes if place in due or place in back] of places that are in none -/
theorem keys_none {H : Hp} {F A B : Addr} {L : List Int} {qs ls : List (Int × Int)} {x0 x1 x2 x4 x5 x8 x9 : Option V} {Q : VK} (hF : H F = some (.dK (kvsOf (ones L)))) (hA : H A = some (.dK (kvsOf qs))) (hB : H B = some (.dK (kvsOf ls))) (nA : A ≠ F) (nB : B ≠ F) (no : ∀ y ∈ L, y ∉ qs.map Prod.fst ∧ y ∉ ls.map Prod.fst)
    (q : ∀ D H', H D = none → Same H H' → H' D = some (.lst []) → Q (.ref D) H') :
    tLockE (tLc (iKeys (tVar 3)) (gName 9) (tOr (tB (tDIn (tVar 9) (tVar 6))) (tB (tDIn (tVar 9) (tVar 7)))) (tC (.int 1)) [9]) [x0, x1, x2, some (.ref F), x4, x5, some (.ref A), some (.ref B), x8, x9] H Q := by
  refine ⟨F, _, hF, trivial, fun od => ?_⟩
  have AF : upd H F (.frz od (.dK (kvsOf (ones L)))) F = some (.frz od (.dK (kvsOf (ones L)))) := upd_same
  have k1 : ∀ b o, b ≠ F → H b = some o → upd H F (.frz od (.dK (kvsOf (ones L)))) b = some o := fun b o e h => (upd_ne e).trans h
  have fr : ∀ b, upd H F (.frz od (.dK (kvsOf (ones L)))) b = none → H b = none ∧ b ≠ F := fun b e => by
    by_cases z : b = F
    · rw [z, upd_same] at e
      cases e
    · rw [upd_ne z] at e
      exact ⟨e, z⟩
  generalize upd H F (.frz od (.dK (kvsOf (ones L)))) = H1 at AF k1 fr ⊢
  have A1 := k1 _ _ nA hA
  have B1 := k1 _ _ nB hB
  refine ⟨_, rfl, F, od, rfl, .inl ⟨_, AF, fun D hD => ?_⟩⟩
  obtain ⟨hD0, nDF⟩ := fr D hD
  refine lc_it (walk_keys (d := F) (o := od) (kvs := kvsOf (ones L))) (fun i H2 => Same H1 H2 ∧ H2 D = some (.lst [])) ⟨same_new hD, upd_same⟩ ?_ ?_ ?_
  · rintro i H2 _ ⟨s2, _⟩
    exact s2 _ _ AF
  · rintro i x H2 H3 hi ⟨s2, d2⟩ ⟨rfl, k, v, hkv, rfl⟩
    obtain ⟨y, hy, rfl⟩ := ones_at hkv
    obtain ⟨n1, n2⟩ := no y (List.mem_of_getElem? hy)
    have g1 : valV (kvsOf qs) (.inl y) = none := by rw [val_pairs, lookup_none.mpr n1]; rfl
    have g2 : valV (kvsOf ls) (.inl y) = none := by rw [val_pairs, lookup_none.mpr n2]; rfl
    refine ⟨rfl, _, rfl, _, rfl, A, none, rfl, (by rw [← g1]; exact DGet.k (k := .inl y) (s2 _ _ A1)), _, rfl, iteF ?_⟩
    refine ⟨_, rfl, _, rfl, B, none, rfl, (by rw [← g2]; exact DGet.k (k := .inl y) (s2 _ _ B1)), _, rfl, iteF ⟨s2, d2⟩⟩
  · rintro H2 ⟨s2, d2⟩
    refine ⟨s2 _ _ AF, q D _ hD0 (same_lock hF fun b o e h => s2 _ _ (k1 b o e h)) ?_⟩
    rw [upd_ne nDF]
    exact d2
/-- dict([(f(place), 1) for place in ..]) -/
theorem dict_ones {K : PySem.W.Frag} {H : Hp} {te telt : TE} {r : List Int} {σ : L2.St} {Q : VK} (f : Int → Int) (hte : ∀ R : VK, (∀ a H', Same H H' → H' a = some (.lst (r.map V.int)) → R (.ref a) H') → te σ H R) (r40 : r.length ≤ 40) (nd : (r.map f).Nodup)
    (hw : ∀ v, wipe ((wipe σ [9]).set 9 (some v)) [9] = wipe σ [9]) (hs : ∀ y H' (R : VK), R (.int (f y)) H' → telt ((wipe σ [9]).set 9 (some (.int y))) H' R)
    (q : ∀ D H', H D = none → Same H H' → H' D = some (.dK (kvsOf (ones (r.map f)))) → Q (.ref D) H') :
    tCB (qDictL K) (tCons (tLc (iList K te) (gName 9) (tYes) (tTup (tCons telt (tCons (tC (.int 1)) (tNil)))) [9]) (tNil)) σ H Q := by
  refine hte _ fun a H1 s1 hA => ?_
  refine ⟨a, rfl, ⟨_, SqL.of hA⟩, fun D hD => ?_⟩
  refine lc_it (walk_list (K := K) (a := a) (xs := r.map V.int)) (fun i H2 => Same H1 H2 ∧ ∃ us, H2 D = some (.lst (us.map V.ref)) ∧ Paired (TupAt H2) us (ones ((r.take i).map f))) ⟨same_new hD, [], upd_same, .nil⟩ ?_ ?_ ?_
  · rintro i H2 _ ⟨s2, _⟩
    exact SqL.of (s2 _ _ hA)
  · rintro i v H2 H3 hi ⟨s2, us, d2, hus⟩ ⟨rfl, hv⟩
    rw [List.getElem?_map] at hv
    obtain ⟨y, hy, rfl⟩ := Option.map_eq_some_iff.mp hv
    have ul : us.length ≤ 40 := by
      rw [paired_len hus, ones_len, List.length_map, List.length_take]
      exact Nat.le_trans (Nat.min_le_right _ _) r40
    refine ⟨hw _, hs y _ _ ⟨sz (by show 2 ≤ 1000; decide), fun n hn => ?_⟩⟩
    have s3 := same_new (o := .tup [.int (f y), .int 1]) hn
    have T3 : TupAt (upd H3 n (.tup [.int (f y), .int 1])) n (f y, 1) := upd_same
    generalize upd H3 n (.tup [.int (f y), .int 1]) = H4 at s3 T3 ⊢
    have d3 := s3 _ _ d2
    have keep : ∀ {b : Addr} {p : Int × Int}, TupAt H4 b p → TupAt (upd H4 D (.lst (us.map V.ref ++ [.ref n]))) b p := fun {b p} z => (upd_ne (ne_of z d3 (by intro e; cases e))).trans z
    refine ⟨_, d3, ?_, same_upd (s2.trans s3) hD, us ++ [n], ?_, ?_⟩
    · rw [List.length_map]
      exact Nat.lt_of_le_of_lt ul (by decide)
    · rw [upd_same, List.map_append]
      rfl
    · have e : ones ((r.take (i + 1)).map f) = ones ((r.take i).map f) ++ [(f y, 1)] := by
        rw [List.take_succ, hy, List.map_append]
        unfold ones
        rw [List.map_append]
        rfl
      rw [e]
      exact paired_snoc (keep T3) (paired_imp (fun _ _ z => keep (s3 _ _ z)) hus)
  · rintro H2 ⟨s2, us, d2, hus⟩
    rw [List.length_map, List.take_length] at hus
    refine ⟨D, us, _, rfl, SqL.of d2, paired_kvs hus, fun p hp => ?_⟩
    rw [merge_pairs (by rw [ones_fst]; exact nd)]
    have s12 := s1.trans s2
    exact q p _ (Same.free s12 hp) (s12.trans (same_new hp)) upd_same
end SR

set_option Elab.async false
set_option linter.all false
set_option maxRecDepth 100000
set_option maxHeartbeats 4000000
/-! K07D: the law of long sweeps. -/
namespace SR
open PySem PySem.Spec PyProof.Rows L2
def spCrowd : Sp := fun vs H Q _ => ∃ (d g c : Addr) (b : Nat), vs = [.ref d] ∧ StB H d g c (b + 42) ∧ ∀ r H' L, StB H' d g c b → Kp d g H H' → r ≠ d → r ≠ g → r ≠ c → H' r = some (.dK (kvsOf (ones L))) → L.Pairwise (· < ·) → L.length ≤ 40 → (∀ y ∈ L, -(10 ^ 30) ≤ y ∧ y ≤ 10 ^ 30) → Q (.ref r) H'
def t_cwBody (K : PySem.W.Frag) : TS := (tSeq (sDPut (tVar 2) (tVar 1) (tC (.int 1)))
  (tAsg (tOp qAdd (tOp qAdd (tVar 1) (tC (.int 1))) (tCall (spPick K) [] E0 (tCons (tVar 0) (tCons (tLst (tCons (tC (.int 0)) (tCons (tC (.int 0)) (tCons (tC (.int 1)) (tCons (tC (.int 1)) (tCons (tC (.int 2)) (tCons (tC (.int 5)) (tNil)))))))) (tNil))))) (gName 1)))
def t_crowd (K : PySem.W.Frag) : TS := tSeq (tPar 1 2 (tCons (tOp qSub (tCall spTake [] E0 (tCons (tVar 0) (tCons (tC (.int 30)) (tNil)))) (tC (.int 20))) (tCons (tDNewK) (tNil))))
  (tSeq (tFor (iRng1 (tCons (tOp qAdd (tC (.int 10)) (tCall spTake [] E0 (tCons (tVar 0) (tCons (tC (.int 31)) (tNil))))) (tNil))) (gName 3)
  (t_cwBody K))
  (tRet (tVar 2)))
theorem putI_ones {M : List Int} {p : Int} (h : ∀ y ∈ M, y < p) : putI (ones M) p 1 = ones (M ++ [p]) := by
  unfold putI
  rw [ones_fst, if_neg (fun z => by have := h p z; omega)]
  unfold ones
  rw [List.map_append]
  rfl
theorem cw_body {K : PySem.W.Frag} {H : Hp} {d g c F : Addr} {b : Nat} {M : List Int} {p : Int} {w3 : Option V} {N N2 N3 : L2.St → Hp → Prop} {R : VK} (S : StB H d g c (b + 1)) (hF : H F = some (.dK (kvsOf (ones M)))) (f1 : F ≠ d) (f2 : F ≠ g) (f3 : F ≠ c) (l40 : M.length ≤ 40) (lt : ∀ y ∈ M, y < p)
    (hN : ∀ H' m, 0 ≤ m → m ≤ 5 → StB H' d g c b → (∀ x o, x ≠ F → x ≠ d → x ≠ g → H x = some o → H' x = some o) → H' F = some (.dK (kvsOf (ones (M ++ [p])))) → N [some (.ref d), some (.int (p + 1 + m)), some (.ref F), w3] H') :
    t_cwBody K { nx := N, rt := R, bk := N2, ct := N3 } [some (.ref d), some (.int p), some (.ref F), w3] H := by
  refine ⟨_, rfl, _, rfl, F, _, rfl, dput_pairs hF (by rw [ones_len]; omega), ?_⟩
  rw [putI_ones lt]
  have S1 := S.upd (o := .dK (kvsOf (ones (M ++ [p])))) f1 f2 f3
  have F1 : upd H F (.dK (kvsOf (ones (M ++ [p])))) F = some (.dK (kvsOf (ones (M ++ [p])))) := upd_same
  have k1 : ∀ x o, x ≠ F → H x = some o → upd H F (.dK (kvsOf (ones (M ++ [p])))) x = some o := fun x o e h => (upd_ne e).trans h
  generalize upd H F (.dK (kvsOf (ones (M ++ [p])))) = H1 at S1 F1 k1 ⊢
  refine ⟨_, rfl, _, _, rfl, rfl, _, rfl, sz (by show 6 ≤ 1000; decide), fun l hl => ?_⟩
  obtain ⟨l1, l2, l3⟩ := S1.off hl
  refine ⟨d, g, c, b, l, _, rfl, S1.new hl, SqL.of upd_same, l1, l2, by show 0 < 6; decide, by show 6 < 1000; decide, fun v H2 hv S2 q2 => ?_⟩
  obtain ⟨m, rfl, m0, m5⟩ : ∃ m : Int, v = .int m ∧ 0 ≤ m ∧ m ≤ 5 := by
    simp only [List.mem_cons, List.not_mem_nil, or_false] at hv
    rcases hv with rfl | rfl | rfl | rfl | rfl | rfl <;> exact ⟨_, rfl, by decide, by decide⟩
  clear hv
  exact ⟨_, _, rfl, rfl, hN H2 m m0 m5 S2 (fun x o e1 e2 e3 h => q2 _ _ e2 e3 (same_new hl _ _ (k1 _ _ e1 h))) (q2 _ _ f1 f2 (same_new hl _ _ F1))⟩
theorem pure_crowd {K : PySem.W.Frag} (vs : List V) (H : Hp) (Q : VK) (E : XK) (h : spCrowd vs H Q E) : t_crowd K { nx := fun _ H' => Q .non H', rt := Q } (start ["state", "place", "found", "turn"] vs) H := by
  obtain ⟨d, g, c, b, rfl, S, q⟩ := h
  refine ⟨_, rfl, d, g, c, b + 41, 30, rfl, S, by decide, by decide, fun i H1 i0 i1 S1 q1 => ⟨_, _, rfl, rfl, fun F hF => ⟨_, _, rfl, ?_⟩⟩⟩
  obtain ⟨f1, f2, f3⟩ := S1.off hF
  have S2 := S1.new (o := .dK []) hF
  have F2 : upd H1 F (.dK []) F = some (.dK (kvsOf (ones []))) := upd_same
  have k2 : ∀ x o, x ≠ F → x ≠ d → x ≠ g → H x = some o → upd H1 F (.dK []) x = some o := fun x o _ e2 e3 h => same_new hF _ _ (q1 _ _ e2 e3 h)
  have hF0 : H F = none := by
    cases e : H F with
    | none => rfl
    | some o =>
      have := q1 _ _ f1 f2 e
      rw [hF] at this
      cases this
  generalize upd H1 F (.dK []) = H2 at S2 F2 k2 ⊢
  refine ⟨_, rfl, d, g, c, b + 40, 31, rfl, S2, by decide, by decide, fun u H3 u0 u1 S3 q3 => ⟨_, _, rfl, rfl, _, rfl, by omega, by omega, ?_⟩⟩
  have un : (10 + u).toNat ≤ 40 := by omega
  refine for_range (lo := 0) (n := (10 + u).toNat) (fun j σ H4 => StB H4 d g c (b + 40 - j) ∧ (∀ x o, x ≠ F → x ≠ d → x ≠ g → H x = some o → H4 x = some o) ∧ ∃ M p w3, H4 F = some (.dK (kvsOf (ones M))) ∧ M.Pairwise (· < ·) ∧ M.length = j ∧ (∀ y ∈ M, y < p) ∧ (∀ y ∈ M, -20 ≤ y) ∧ -20 ≤ p ∧ p ≤ 10 + 6 * (j : Int) ∧ σ = [some (.ref d), some (.int p), some (.ref F), w3])
    ⟨S3, fun x o e1 e2 e3 h => q3 _ _ e2 e3 (k2 _ _ e1 e2 e3 h), [], _, none, q3 _ _ f1 f2 F2, .nil, rfl, (fun y m => nomatch m), (fun y m => nomatch m), by omega, by omega, rfl⟩ ?_ ?_
  · rintro j σ H4 hj ⟨S4, k4, M, p, w3, F4, asc, len, lt, lo, p0, p1, rfl⟩
    have e : b + 40 - j = (b + 40 - (j + 1)) + 1 := by omega
    rw [e] at S4
    show t_cwBody K _ [some (.ref d), some (.int p), some (.ref F), some (.int (0 + j))] H4
    refine cw_body S4 F4 f1 f2 f3 (by omega) lt fun H5 m m0 m5 S5 k5 F5 => ⟨S5, fun x o e1 e2 e3 h => k5 _ _ e1 e2 e3 (k4 _ _ e1 e2 e3 h), M ++ [p], _, _, F5, ?_, ?_, ?_, ?_, by omega, by omega, rfl⟩
    · refine List.pairwise_append.mpr ⟨asc, List.pairwise_singleton _ _, fun x hx y hy => ?_⟩
      rw [List.mem_singleton.mp hy]
      exact lt x hx
    · rw [List.length_append, len]
      rfl
    · intro y m
      rcases List.mem_append.mp m with m | m
      · have := lt y m
        omega
      · rw [List.mem_singleton.mp m]
        omega
    · intro y m
      rcases List.mem_append.mp m with m | m
      · exact lo y m
      · rw [List.mem_singleton.mp m]
        exact p0
  · rintro σ H4 ⟨S4, k4, M, p, w3, F4, asc, len, lt, lo, p0, p1, rfl⟩
    refine ⟨_, rfl, q F H4 M (S4.mono (by omega)) (fun x o e2 e3 h => k4 x o (fun z => by rw [z, hF0] at h; cases h) e2 e3 h) f1 f2 f3 F4 asc (by omega) fun y m => ?_⟩
    have a := lo y m
    have z := lt y m
    constructor <;> omega
def tDue (K : PySem.W.Frag) : TE := tCB (qDictL K) (tCons (tLc (iList K (tCall (spClosing K) [] E0 (tCons (tCB rListD (tCons (tVar 3) (tNil))) (tNil)))) (gName 9) (tYes) (tTup (tCons (tVar 9) (tCons (tC (.int 1)) (tNil)))) [9]) (tNil))
def tBack (K : PySem.W.Frag) : TE := tCB (qDictL K) (tCons (tLc (iList K (tCall (spClosing K) [] E0 (tCons (tLockE (tLc (iKeys (tVar 3)) (gName 9) (tYes) (tUn (rU fun i => .int (-i)) (tVar 9)) [9])) (tNil)))) (gName 9) (tYes) (tTup (tCons (tUn (rU fun i => .int (-i)) (tVar 9)) (tCons (tC (.int 1)) (tNil)))) [9]) (tNil))
def tSome : TE := tLockE (tLc (iKeys (tVar 3)) (gName 9) (tOr (tB (tDIn (tVar 9) (tVar 6))) (tB (tDIn (tVar 9) (tVar 7)))) (tC (.int 1)) [9])
def t_each07 (K : PySem.W.Frag) (c_BadCapacity c_Row : Addr) : TS := (tIfS (tOr (tNot (tB (tCall (spIs K c_Row) [] E0 (tCons (tCall (spSweep K c_Row c_BadCapacity) [] E0 (tCons (tVar 4) (tCons (tVar 8) (tNil)))) (tCons (tVar 6) (tCons (tDNewK) (tNil))))))) (tNot (tB (tCall (spIs K c_Row) [] E0 (tCons (tCall (spUnsweep K c_Row c_BadCapacity) [] E0 (tCons (tVar 4) (tCons (tVar 8) (tNil)))) (tCons (tVar 7) (tCons (tDNewK) (tNil))))))))
  (tRet (tC (.bl false)))
  (tNext))
def t_rest07 (K : PySem.W.Frag) (c_BadCapacity c_Row : Addr) : TS := (tSeq (tPar 4 5 (tCons (tCall (spMade K c_Row) [] E0 (tCons (tVar 3) (tCons (tDNewK) (tNil)))) (tCons (tCB qLenD (tCons (tVar 3) (tNil))) (tNil))))
  (tSeq (tAsg (tDue K) (gName 6))
  (tSeq (tAsg (tBack K) (gName 7))
  (tSeq (tIfS (tOr (tTest (tOp (rNeD K) tSome (tLst (tNil)))) (tTest (tOp rNe (tCB qLenD (tCons (tVar 6) (tNil))) (tVar 5))))
  (tRet (tC (.bl false)))
  (tNext))
  (tFor (iList K (tLst (tCons (tCB qMax2 (tCons (tC (.int 1)) (tCons (tVar 5) (tNil)))) (tCons (tOp qAdd (tCB qMax2 (tCons (tC (.int 1)) (tCons (tVar 5) (tNil)))) (tCall spTake [] E0 (tCons (tVar 1) (tCons (tC (.int 9)) (tNil))))) (tCons (tC (.int 99)) (tNil)))))) (gName 8)
  (t_each07 K c_BadCapacity c_Row))))))
def t_turn07 (K : PySem.W.Frag) (c_BadCapacity c_Row : Addr) : TS := (tSeq (tAsg (tCall (spBoxes K) [] E0 (tCons (tVar 1) (tCons (tDNewK) (tCons (tCall (spPick K) [] E0 (tCons (tVar 1) (tCons (tLst (tCons (tC (.int 3)) (tCons (tC (.int 10)) (tCons (tC (.int 20)) (tCons (tC (.int 40)) (tNil)))))) (tNil)))) (tNil))))) (gName 3))
  (tSeq (tIfS (tTest (tOp rEq (tCall spTake [] E0 (tCons (tVar 1) (tCons (tC (.int 4)) (tNil)))) (tC (.int 0))))
  (tAsg (tCall spCrowd [] E0 (tCons (tVar 1) (tNil))) (gName 3))
  (tNext))
  (t_rest07 K c_BadCapacity c_Row)))
def t_law07 (K : PySem.W.Frag) (c_BadCapacity c_Row : Addr) : TS := tSeq (tAsg (tCall (spBegun K) [] E0 (tCons (tVar 0) (tNil))) (gName 1))
  (tSeq (tFor (iRng1 (tCons (tOp qAdd (tC (.int 4)) (tCB qMin2 (tCons (tCB (qLen K) (tCons (tVar 0) (tNil))) (tCons (tC (.int 12)) (tNil))))) (tNil))) (gName 2)
  (t_turn07 K c_BadCapacity c_Row))
  (tRet (tC (.bl true))))
section
variable {K : PySem.W.Frag} {H : Hp} {F : Addr} {L : List Int} {x0 x1 x2 x4 x5 x6 x7 x8 x9 : Option V} {Q : VK}
theorem due07 {r : List Int} (hF : H F = some (.dK (kvsOf (ones L)))) (asc : L.Pairwise (· < ·)) (l40 : L.length ≤ 40) (c : Clos L 0 0 r) (q : ∀ D H', H D = none → Same H H' → H' D = some (.dK (kvsOf (ones r))) → Q (.ref D) H') :
    tDue K [x0, x1, x2, some (.ref F), x4, x5, x6, x7, x8, x9] H Q := by
  obtain ⟨r1, r2, r3⟩ := clos_all c asc fun z => absurd z (by decide)
  have rl := clos_len c
  refine dict_ones (r := r) (fun y => y) (fun R hR => ?_) (by omega) (by rw [List.map_id']; exact r1.imp fun z e => by omega) (fun v => rfl) (fun y H' R h => ⟨_, rfl, h⟩) (by rw [List.map_id']; exact q)
  refine ⟨_, rfl, F, _, rfl, hF, fun l hl => ⟨l, L, L, r, rfl, ?_, .refl _, asc, l40, c, fun f H' hf s hf' => hR f H' ((same_new hl).trans s) hf'⟩⟩
  rw [ones_keys]
  exact SqL.of upd_same
def turned (L : List Int) : List Int := (L.map fun y => -y).reverse
theorem turned_asc (h : L.Pairwise (· < ·)) : (turned L).Pairwise (· < ·) := by
  unfold turned
  rw [List.pairwise_reverse, List.pairwise_map]
  exact h.imp fun z => by omega
theorem turned_len : (turned L).length = L.length := by
  unfold turned
  rw [List.length_reverse, List.length_map]
theorem turned_perm : (L.map fun y => -y).Perm (turned L) := (List.reverse_perm _).symm
theorem mirror_ones : mirror (ones L) = ones (turned L) := by
  unfold mirror ones turned
  rw [List.map_map, List.map_reverse, List.map_map]
  rfl
theorem back07 {r : List Int} (hF : H F = some (.dK (kvsOf (ones L)))) (asc : L.Pairwise (· < ·)) (l40 : L.length ≤ 40) (c : Clos (turned L) 0 0 r) (q : ∀ D H', H D = none → Same H H' → H' D = some (.dK (kvsOf (ones (r.map fun y => -y)))) → Q (.ref D) H') :
    tBack K [x0, x1, x2, some (.ref F), x4, x5, x6, x7, x8, x9] H Q := by
  obtain ⟨r1, r2, r3⟩ := clos_all c (turned_asc asc) fun z => absurd z (by decide)
  have rl := clos_len c
  rw [turned_len] at rl
  refine dict_ones (r := r) (fun y => -y) (fun R hR => ?_) (by omega) ?_ (fun v => rfl) (fun y H' R h => ⟨_, rfl, _, rfl, h⟩) q
  · refine keys_neg hF l40 fun l H1 hl s1 hl' => ?_
    exact ⟨l, _, turned L, r, rfl, SqL.of hl', turned_perm, turned_asc asc, by rw [turned_len]; exact l40, c, fun f H' hf s hf' => hR f H' (s1.trans s) hf'⟩
  · unfold List.Nodup
    rw [List.pairwise_map]
    exact r1.imp fun z e => by omega
end
end SR

set_option Elab.async false
set_option linter.all false
set_option maxRecDepth 100000
set_option maxHeartbeats 4000000
/-! K07E: the law of long sweeps, its turns. -/
namespace SR
open PySem PySem.Spec PyProof.Rows L2
section
variable {K : PySem.W.Frag} {C B : Addr}
/-- what is no state of draws stays -/
theorem kp_at {H H' : Hp} {d g c a : Addr} {b : Nat} {o : HO} (S : StB H d g c b) (k : Kp d g H H') (h : H a = some o) (n1 : ∀ xs, o ≠ .lst xs) (n2 : ∀ r t, o ≠ .dK (stK g c r t)) : H' a = some o := by
  obtain ⟨r, t, gs, cs, h1, h2, _⟩ := S
  refine k _ _ (fun z => ?_) (fun z => ?_) h
  · rw [z, h1] at h
    exact n2 r t (Option.some.inj h).symm
  · rw [z, h2] at h
    exact n1 _ (Option.some.inj h).symm
theorem kvs_no {ps : List (Int × Int)} (g c : Addr) (r t : Int) : HO.dK (kvsOf ps) ≠ .dK (stK g c r t) := fun z => by
  cases ps with
  | nil => cases z
  | cons p ps => cases z
theorem kp_dict {H H' : Hp} {d g c a : Addr} {b : Nat} {ps : List (Int × Int)} (S : StB H d g c b) (k : Kp d g H H') (h : H a = some (.dK (kvsOf ps))) : H' a = some (.dK (kvsOf ps)) := kp_at S k h (fun _ z => nomatch z) fun r t => kvs_no g c r t
theorem RowAt.kp {K : PySem.W.Frag} {C : Addr} {H H' : Hp} {d g c x : Addr} {b : Nat} {ps ks : List (Int × Int)} (row : RowAt K C H x ps ks) (S : StB H d g c b) (k : Kp d g H H') : RowAt K C H' x ps ks := by
  obtain ⟨dx, c0, k0, d0, e, ps0, ks0, h1, ⟨t1, h2, h3⟩, ⟨t2, h4, h5⟩, h6, h7, h8⟩ := row
  have tp : ∀ {t : Addr} {p : Int × Int}, TupAt H t p → TupAt H' t p := fun {t p} z => kp_at (o := .tup [.int p.1, .int p.2]) S k z (fun _ z => nomatch z) fun _ _ z => nomatch z
  refine ⟨dx, c0, k0, d0, e, ps0, ks0, kp_at S k h1 (fun _ z => nomatch z) (fun _ _ z => nomatch z), ⟨t1, ?_, paired_imp (fun _ _ z => tp z) h3⟩, ⟨t2, ?_, paired_imp (fun _ _ z => tp z) h5⟩, kp_dict S k h6, kp_dict S k h7, h8⟩
  · obtain ⟨o, a1, a2⟩ := h2
    exact ⟨o, kp_at S k a1 (fun _ z => nomatch z) (fun _ _ z => nomatch z), a2⟩
  · obtain ⟨o, a1, a2⟩ := h4
    exact ⟨o, kp_at S k a1 (fun _ z => nomatch z) (fun _ _ z => nomatch z), a2⟩
theorem some07 {H : Hp} {F A B : Addr} {L : List Int} {qs ls : List (Int × Int)} {x0 x1 x2 x4 x5 x8 x9 : Option V} {Q : VK} (hF : H F = some (.dK (kvsOf (ones L)))) (hA : H A = some (.dK (kvsOf qs))) (hB : H B = some (.dK (kvsOf ls))) (nA : A ≠ F) (nB : B ≠ F) (no : ∀ y ∈ L, y ∉ qs.map Prod.fst ∧ y ∉ ls.map Prod.fst)
    (q : ∀ D H', H D = none → Same H H' → H' D = some (.lst []) → Q (.ref D) H') : tSome [x0, x1, x2, some (.ref F), x4, x5, some (.ref A), some (.ref B), x8, x9] H Q := keys_none hF hA hB nA nB no q
theorem ones_small {L : List Int} (h : ∀ y ∈ L, -(10 ^ 31) ≤ y ∧ y ≤ 10 ^ 31) : Small (ones L) := fun p m => by
  obtain ⟨y, hy, rfl⟩ := List.mem_map.mp m
  have a := h y hy
  have b : (10 : Int) ^ 31 = 10000000000000000000000000000000 := by decide
  have e : (2 : Nat) ^ 110 ≤ 2 ^ 1900 := Nat.pow_le_pow_right (by decide) (by decide)
  have e2 : (2 : Nat) ^ 110 = 1298074214633706907132624082305024 := by decide
  constructor
  · show y.natAbs < 2 ^ 1900
    omega
  · show (1 : Int).natAbs < 2 ^ 1900
    omega
theorem map_neg_perm {r : List Int} : (ones (r.map fun y => -y)).Perm (mirror (ones r)) := by
  rw [mirror_ones]
  exact turned_perm.map _
/-- what closes stays near the places -/
theorem clos_near {L r : List Int} (c : Clos L 0 0 r) (asc : L.Pairwise (· < ·)) (l40 : L.length ≤ 40) (bd : ∀ y ∈ L, -(10 ^ 30) ≤ y ∧ y ≤ 10 ^ 30) : ∀ x ∈ r, -(10 ^ 31) ≤ x ∧ x ≤ 10 ^ 31 := by
  have e30 : (10 : Int) ^ 30 = 1000000000000000000000000000000 := by decide
  have e31 : (10 : Int) ^ 31 = 10000000000000000000000000000000 := by decide
  obtain ⟨a1, a2, a3⟩ := clos_all c asc fun z => absurd z (by decide)
  intro x m
  have up := clos_bd (B := 10 ^ 31) c (fun z => absurd z (by decide)) (fun y hy => by have := bd y hy; omega) x m
  refine ⟨?_, up⟩
  cases L with
  | nil =>
    have := clos_len c
    rw [List.length_eq_zero_iff.mp this] at m
    cases m
  | cons y L =>
    have := (a3 x m).2 rfl y rfl
    have := bd y List.mem_cons_self
    omega
theorem each07 {H : Hp} {x A D : Addr} {L r r' : List Int} {most many : Int} {x0 x1 x2 x3 x9 : Option V} {N N2 N3 : L2.St → Hp → Prop} {R : VK} (row : RowAt K C H x (ones L) []) (hA : H A = some (.dK (kvsOf (ones r)))) (hD : H D = some (.dK (kvsOf (ones (r'.map fun y => -y)))))
    (asc : L.Pairwise (· < ·)) (l40 : L.length ≤ 40) (bd : ∀ y ∈ L, -(10 ^ 30) ≤ y ∧ y ≤ 10 ^ 30) (c : Clos L 0 0 r) (c' : Clos (turned L) 0 0 r') (m1 : 1 ≤ most) (m2 : most ≤ 99) (big : (L.length : Int) ≤ most)
    (hN : ∀ H', Same H H' → N [x0, x1, x2, x3, some (.ref x), some (.int many), some (.ref A), some (.ref D), some (.int most), x9] H') :
    t_each07 K B C { nx := N, rt := R, bk := N2, ct := N3 } [x0, x1, x2, x3, some (.ref x), some (.int many), some (.ref A), some (.ref D), some (.int most), x9] H := by
  have ok := ones_ok asc l40
  have oa := ones_asc asc
  have yes : btw 1 99 (.int most) = true := btw_iff.mpr ⟨most, rfl, m1, m2⟩
  have near := clos_near c asc l40 bd
  have near' := clos_near c' (turned_asc asc) (by rw [turned_len]; exact l40) fun y m => by
    unfold turned at m
    obtain ⟨z, hz, rfl⟩ := List.mem_map.mp (List.mem_reverse.mp m)
    have := bd z hz
    omega
  have a1 := (clos_all c asc fun z => absurd z (by decide)).1
  have a1' := (clos_all c' (turned_asc asc) fun z => absurd z (by decide)).1
  have rl := clos_len c
  have rl' := clos_len c'
  rw [turned_len] at rl'
  refine ⟨_, rfl, _, rfl, x, .int most, _, ones L, [], rfl, .int most, row, ok, .nil, (fun z => by rw [yes] at z; cases z), fun m e _ _ y H1 st hy s1 tr row1 => ?_⟩
  cases e
  have ls := long_sweep oa (ones_ones L) (by rw [ones_len]; exact big) tr (by rw [ones_fst]; exact c)
  rw [ls] at row1
  refine ⟨_, rfl, fun e1 he1 => ?_⟩
  have s2 := same_new (o := .dK []) he1
  have E2 : upd H1 e1 (.dK []) e1 = some (.dK (kvsOf [])) := upd_same
  generalize upd H1 e1 (.dK []) = H2 at s2 E2 ⊢
  have s12 := s1.trans s2
  refine ⟨y, A, e1, ones r, [], ones r, [], rfl, row1.same s2, s12 _ _ hA, E2, ones_asc a1, .nil, .refl _, .refl _, by rw [ones_len]; omega, by decide, ones_small near, (fun p m => nomatch m), fun H3 s3 => ⟨_, rfl, ?_⟩⟩
  have s13 := s12.trans s3
  refine iteF ⟨_, rfl, _, rfl, x, .int most, _, ones L, [], rfl, .int most, row.same s13, ok, oa, .nil, (fun z => by rw [yes] at z; cases z), fun m e _ _ y2 H4 st2 hy2 s4 tr2 row2 ok2 ap2 => ?_⟩
  cases e
  have ls2 : left st2 = ones r' := by
    rw [mirror_ones] at tr2
    exact long_sweep (ones_asc (turned_asc asc)) (ones_ones _) (by rw [ones_len, turned_len]; exact big) tr2 (by rw [ones_fst]; exact c')
  rw [ls2] at row2 ap2
  refine ⟨_, rfl, fun e2 he2 => ?_⟩
  have s5 := same_new (o := .dK []) he2
  have E5 : upd H4 e2 (.dK []) e2 = some (.dK (kvsOf [])) := upd_same
  generalize upd H4 e2 (.dK []) = H5 at s5 E5 ⊢
  have s15 := s13.trans (s4.trans s5)
  have sm : Small (mirror (ones r')) := by
    rw [mirror_ones]
    refine ones_small fun y m => ?_
    unfold turned at m
    obtain ⟨z, hz, rfl⟩ := List.mem_map.mp (List.mem_reverse.mp m)
    have := near' z hz
    omega
  have ml : (mirror (ones r')).length < 64 := by
    rw [mirror_ones, ones_len, turned_len]
    omega
  refine ⟨y2, D, e2, mirror (ones r'), [], ones (r'.map fun y => -y), [], rfl, row2.same s5, s15 _ _ hD, E5, ap2, .nil, map_neg_perm, .refl _, ml, by decide, sm, (fun p m => nomatch m), fun H6 s6 => ⟨_, rfl, ?_⟩⟩
  exact iteF (hN H6 (s15.trans s6))
end
end SR

set_option Elab.async false
set_option linter.all false
set_option maxRecDepth 100000
set_option maxHeartbeats 4000000
/-! K07F: the law of long sweeps. -/
namespace SR
open PySem PySem.Spec PyProof.Rows L2
@[irreducible] def xSome := @tSome
theorem xSome_eq : @xSome = @tSome := by
  unfold xSome
  rfl
section
variable {K : PySem.W.Frag} {C B : Addr}
theorem rest07 {H : Hp} {d g c F : Addr} {b : Nat} {L : List Int} {x0 x2 x4 x5 x6 x7 x8 x9 : Option V} {N N2 N3 : L2.St → Hp → Prop} {R : VK} (S : StB H d g c (b + 1)) (hF : H F = some (.dK (kvsOf (ones L)))) (f1 : F ≠ d) (f2 : F ≠ g) (f3 : F ≠ c)
    (asc : L.Pairwise (· < ·)) (l40 : L.length ≤ 40) (bd : ∀ y ∈ L, -(10 ^ 30) ≤ y ∧ y ≤ 10 ^ 30)
    (hN : ∀ y4 y5 y6 y7 y8 y9 H', StB H' d g c b → N [x0, some (.ref d), x2, some (.ref F), y4, y5, y6, y7, y8, y9] H') :
    t_rest07 K B C { nx := N, rt := R, bk := N2, ct := N3 } [x0, some (.ref d), x2, some (.ref F), x4, x5, x6, x7, x8, x9] H := by
  obtain ⟨r, cl⟩ := clos_ex _ L 0 0 (Nat.le_refl _)
  obtain ⟨r', cl'⟩ := clos_ex _ (turned L) 0 0 (Nat.le_refl _)
  obtain ⟨r1, r2, r3⟩ := clos_all cl asc fun z => absurd z (by decide)
  obtain ⟨q1, q2, q3⟩ := clos_all cl' (turned_asc asc) fun z => absurd z (by decide)
  have rl := clos_len cl
  refine ⟨_, rfl, fun e he => ?_⟩
  have s1 := same_new (o := .dK []) he
  have E1 : upd H e (.dK []) e = some (.dK (kvsOf [])) := upd_same
  generalize upd H e (.dK []) = H1 at s1 E1 ⊢
  refine ⟨F, e, ones L, [], rfl, s1 _ _ hF, E1, ones_ok asc l40, ones_asc asc, .nil, fun x H2 hx s2 row => ?_⟩
  have s12 := s1.trans s2
  refine ⟨_, rfl, F, _, rfl, s12 _ _ hF, _, _, rfl, ?_⟩
  rw [kvs_len]
  show tDue K [x0, some (.ref d), x2, some (.ref F), some (.ref x), some (.int L.length), x6, x7, x8, x9] H2 _
  refine due07 (s12 _ _ hF) asc l40 cl fun A H3 hA s3 A3 => ?_
  have s13 := s12.trans s3
  show tBack K [x0, some (.ref d), x2, some (.ref F), some (.ref x), some (.int L.length), some (.ref A), x7, x8, x9] H3 _
  refine back07 (s13 _ _ hF) asc l40 cl' fun D H4 hD s4 D4 => ?_
  have s14 := s13.trans s4
  have A4 := s4 _ _ A3
  have F4 := s14 _ _ hF
  have nA : A ≠ F := fun z => by rw [z, s12 _ _ hF] at hA; cases hA
  have nD : D ≠ F := fun z => by rw [z, s13 _ _ hF] at hD; cases hD
  try rw [← xSome_eq]
  show xSome [x0, some (.ref d), x2, some (.ref F), some (.ref x), some (.int L.length), some (.ref A), some (.ref D), x8, x9] H4 _
  try rw [xSome_eq]
  refine some07 F4 A4 D4 nA nD (fun y m => ?_) fun l H5 hl s5 L5 => ?_
  · rw [ones_fst, ones_fst]
    refine ⟨fun z => r2 y z m, fun z => ?_⟩
    obtain ⟨w, hw, rfl⟩ := List.mem_map.mp z
    refine q2 w hw ?_
    unfold turned
    refine List.mem_reverse.mpr (List.mem_map.mpr ⟨-w, m, by omega⟩)
  have s15 := s14.trans s5
  refine ⟨sz (Nat.zero_le _), fun l2 hl2 => ?_⟩
  have s6 := s15.trans (same_new (o := .lst []) hl2)
  have L6 : upd H5 l2 (.lst []) l = some (.lst []) := (upd_ne (ne_of_none L5 hl2)).trans L5
  have M6 : upd H5 l2 (.lst []) l2 = some (.lst []) := upd_same
  have t6 : Same H4 (upd H5 l2 (.lst [])) := s5.trans (same_new hl2)
  generalize upd H5 l2 (.lst []) = H6 at s6 L6 M6 t6 ⊢
  refine ne_same (σ := []) (dp_list (xs := []) L6) (dp_list (xs := []) M6) (shaped_ints []) ⟨_, rfl, iteF ?_⟩
  refine ⟨_, rfl, A, _, rfl, t6 _ _ A4, _, rfl, ?_⟩
  have el : V.int ((kvsOf (ones r)).length : Int) = V.int (L.length : Int) := by
    rw [kvs_len, rl]
    rfl
  refine ⟨rfl, _, rfl, iteNS el ?_⟩
  -- for most in ..
  have s06 := s6
  have S6 : StB H6 d g c (b + 1) := StB.same s6 S
  have mx : (if (L.length : Int) > 1 then (L.length : Int) else 1) = max 1 (L.length : Int) := by
    split <;> omega
  have row6 := (row.same (s3.trans s4)).same t6
  have A6 := t6 _ _ A4
  have D6 := t6 _ _ D4
  refine ⟨_, rfl, 1, _, rfl, _, rfl, 1, _, rfl, _, rfl, d, g, c, b, 9, rfl, S6, by decide, by decide, fun t H7 t0 t1 S7 q7 => ⟨_, _, rfl, rfl, sz (by show 3 ≤ 1000; decide), fun ls hls => ?_⟩⟩
  have row7 := row6.kp S6 q7
  have A7 := kp_dict S6 q7 A6
  have D7 := kp_dict S6 q7 D6
  have F7 := kp_dict S6 q7 (t6 _ _ F4)
  generalize hm : (if (L.length : Int) > 1 then (L.length : Int) else 1) = m1 at mx ⊢
  have s8 := same_new (o := .lst [.int m1, .int (m1 + t), .int 99]) hls
  have L8 : upd H7 ls (.lst [.int m1, .int (m1 + t), .int 99]) ls = some (.lst [.int m1, .int (m1 + t), .int 99]) := upd_same
  have S8 := S7.new (o := .lst [.int m1, .int (m1 + t), .int 99]) hls
  generalize upd H7 ls (.lst [.int m1, .int (m1 + t), .int 99]) = H8 at s8 L8 S8 ⊢
  refine ⟨ls, rfl, ⟨_, SqL.of L8⟩, ?_⟩
  refine for_it (walk_list (K := K) (a := ls) (xs := [V.int m1, .int (m1 + t), .int 99])) (fun i σ H9 => Same H8 H9 ∧ ∃ y8, σ = [x0, some (.ref d), x2, some (.ref F), some (.ref x), some (.int L.length), some (.ref A), some (.ref D), y8, x9]) ⟨fun _ _ h => h, _, rfl⟩ ?_ ?_ ?_
  · rintro i σ H9 _ ⟨s9, _⟩
    exact SqL.of (s9 _ _ L8)
  · rintro i v σ H9 H10 hi ⟨s9, y8, rfl⟩ ⟨rfl, hv⟩
    have mem := List.mem_of_getElem? hv
    obtain ⟨m, rfl, m1', m2', m3'⟩ : ∃ m : Int, v = .int m ∧ 1 ≤ m ∧ m ≤ 99 ∧ (L.length : Int) ≤ m := by
      simp only [List.mem_cons, List.not_mem_nil, or_false] at mem
      rcases mem with rfl | rfl | rfl
      · exact ⟨_, rfl, by omega, by omega, by omega⟩
      · exact ⟨_, rfl, by omega, by omega, by omega⟩
      · exact ⟨_, rfl, by omega, by omega, by omega⟩
    have s89 := s8.trans s9
    show t_each07 K B C _ [x0, some (.ref d), x2, some (.ref F), some (.ref x), some (.int L.length), some (.ref A), some (.ref D), some (.int m), x9] H10
    exact each07 (row7.same s89) (s89 _ _ A7) (s89 _ _ D7) asc l40 bd cl cl' m1' m2' m3' fun H' s' => ⟨s9.trans s', _, rfl⟩
  · rintro σ H9 ⟨s9, y8, rfl⟩
    exact hN _ _ _ _ _ _ H9 (StB.same s9 S8)
@[irreducible] def xRest07 := @t_rest07
theorem xRest07_eq : @xRest07 = @t_rest07 := by
  unfold xRest07
  rfl
theorem turn07 {H : Hp} {d g c : Addr} {b : Nat} {x0 x2 x3 x4 x5 x6 x7 x8 x9 : Option V} {N N2 N3 : L2.St → Hp → Prop} {R : VK} (S : StB H d g c (b + 100))
    (hN : ∀ y3 y4 y5 y6 y7 y8 y9 H', StB H' d g c b → N [x0, some (.ref d), x2, y3, y4, y5, y6, y7, y8, y9] H') :
    t_turn07 K B C { nx := N, rt := R, bk := N2, ct := N3 } [x0, some (.ref d), x2, x3, x4, x5, x6, x7, x8, x9] H := by
  have e30 : (10 : Int) ^ 30 = 1000000000000000000000000000000 := by decide
  refine ⟨_, rfl, fun e he => ?_⟩
  obtain ⟨e1, e2, e3⟩ := S.off he
  have S1 := S.new (o := .dK []) he
  have E1 : upd H e (.dK []) e = some (.dK (kvsOf [])) := upd_same
  generalize upd H e (.dK []) = H1 at S1 E1 ⊢
  refine ⟨_, rfl, sz (by show 4 ≤ 1000; decide), fun l hl => ?_⟩
  obtain ⟨l1, l2, l3⟩ := S1.off hl
  refine ⟨d, g, c, b + 99, l, _, rfl, S1.new hl, SqL.of upd_same, l1, l2, by show 0 < 4; decide, by show 4 < 1000; decide, fun v H2 hv S2 q2 => ?_⟩
  obtain ⟨n, rfl, n0, n40⟩ : ∃ n : Int, v = .int n ∧ 0 ≤ n ∧ n ≤ 40 := by
    simp only [List.mem_cons, List.not_mem_nil, or_false] at hv
    rcases hv with rfl | rfl | rfl | rfl <;> exact ⟨_, rfl, by decide, by decide⟩
  clear hv
  have E2 := q2 _ _ e1 e2 (same_new (o := .lst [.int 3, .int 10, .int 20, .int 40]) hl _ _ E1)
  refine ⟨d, g, c, b + 59, e, n, [], rfl, S2, e1, e2, e3, E2, .nil, (fun p m => nomatch m), Nat.zero_le _, n0, n40, fun F H3 ps S3 q3 f1 f2 f3 hF F3 ap ok bd sm => ?_⟩
  have one : Ones ps := fun p m => by
    have z := ok p m
    have : cap [] p.1 = 1 := rfl
    rw [this] at z
    omega
  have po := ones_of one
  have asc : (ps.map Prod.fst).Pairwise (· < ·) := by
    rw [List.pairwise_map]
    exact ap
  have len : (ps.map Prod.fst).length ≤ 40 := by
    have z : ((ones (ps.map Prod.fst)).map Prod.snd).sum = ((ps.map Prod.fst).length : Int) := ones_sum _
    rw [← po] at z
    omega
  rw [po] at F3
  have bd' : ∀ y ∈ ps.map Prod.fst, -(10 ^ 30) ≤ y ∧ y ≤ 10 ^ 30 := fun y m => by
    obtain ⟨p, hp, rfl⟩ := List.mem_map.mp m
    exact bd p hp
  generalize ps.map Prod.fst = L at F3 asc len bd'
  refine ⟨_, rfl, d, g, c, b + 58, 4, rfl, S3, by decide, by decide, fun t H4 t0 t1 S4 q4 => ⟨rfl, _, rfl, ?_⟩⟩
  refine ite2 (fun _ => ?_) (fun _ => ?_)
  · refine ⟨_, rfl, d, g, c, b + 16, rfl, S4, fun F' H5 L' S5 q5 g1 g2 g3 G5 asc' len' bd2 => ?_⟩
    try rw [← xSome_eq]
    try rw [← xRest07_eq]
    show xRest07 K B C _ [x0, some (.ref d), x2, some (.ref F'), x4, x5, x6, x7, x8, x9] H5
    try rw [xSome_eq]
    try rw [xRest07_eq]
    exact rest07 (b := b + 15) S5 G5 g1 g2 g3 asc' len' bd2 fun y4 y5 y6 y7 y8 y9 H' S' => hN _ _ _ _ _ _ _ H' (S'.mono (by omega))
  · try rw [← xSome_eq]
    try rw [← xRest07_eq]
    show xRest07 K B C _ [x0, some (.ref d), x2, some (.ref F), x4, x5, x6, x7, x8, x9] H4
    try rw [xSome_eq]
    try rw [xRest07_eq]
    exact rest07 (b := b + 57) S4 (q4 _ _ f1 f2 F3) f1 f2 f3 asc len bd' fun y4 y5 y6 y7 y8 y9 H' S' => hN _ _ _ _ _ _ _ H' (S'.mono (by omega))
@[irreducible] def xTurn07 := @t_turn07
theorem xTurn07_eq : @xTurn07 = @t_turn07 := by
  unfold xTurn07
  rfl
theorem pure_law07 (vs : List V) (H : Hp) (Q : VK) (E : XK) (h : spLaw K vs H Q E) : t_law07 K B C { nx := fun _ H' => Q .non H', rt := Q } (start ["script", "state", "turn", "boxes", "made", "many", "due", "back", "most", "place"] vs) H := by
  obtain ⟨a, ns, rfl, hL, hlen, k⟩ := h
  refine ⟨_, rfl, a, ns, rfl, hL, hlen, fun d g c H1 S1 e1 _ _ _ => ?_⟩
  have hL1 : SqL K H1 a (ns.map V.int) := Same.seq e1 hL
  refine ⟨_, rfl, a, _, rfl, .inl hL1, _, _, rfl, _, _, rfl, rfl, _, rfl, ?_, ?_, ?_⟩
  · show -(2 ^ 62) ≤ 4 + (if (12 : Int) < ((ns.map V.int).length : Int) then 12 else ((ns.map V.int).length : Int))
    split <;> omega
  · show 4 + (if (12 : Int) < ((ns.map V.int).length : Int) then 12 else ((ns.map V.int).length : Int)) < 2 ^ 62
    rw [List.length_map]
    split <;> omega
  have hn : (4 + (if (12 : Int) < ((ns.map V.int).length : Int) then 12 else ((ns.map V.int).length : Int))).toNat ≤ 16 := by
    split <;> omega
  generalize (4 + (if (12 : Int) < ((ns.map V.int).length : Int) then 12 else ((ns.map V.int).length : Int))).toNat = n at hn
  refine for_range (lo := 0) (n := n) (fun i σ H2 => StB H2 d g c (5000 - 100 * i) ∧ ∃ x2 x3 x4 x5 x6 x7 x8 x9, σ = [some (.ref a), some (.ref d), x2, x3, x4, x5, x6, x7, x8, x9]) ⟨S1.mono (by decide), _, _, _, _, _, _, _, _, rfl⟩ ?_ ?_
  · rintro i σ H2 hi ⟨S2, x2, x3, x4, x5, x6, x7, x8, x9, rfl⟩
    have e : 5000 - 100 * i = (5000 - 100 * (i + 1)) + 100 := by omega
    rw [e] at S2
    try rw [← xSome_eq]
    try rw [← xRest07_eq]
    try rw [← xTurn07_eq]
    show xTurn07 K B C _ [some (.ref a), some (.ref d), some (.int (0 + i)), x3, x4, x5, x6, x7, x8, x9] H2
    try rw [xSome_eq]
    try rw [xRest07_eq]
    try rw [xTurn07_eq]
    exact turn07 S2 fun y3 y4 y5 y6 y7 y8 y9 H' S' => ⟨S', _, _, _, _, _, _, _, _, rfl⟩
  · rintro σ H2 _
    exact k H2
end
end SR

set_option Elab.async false
set_option linter.all false
set_option maxRecDepth 100000
set_option maxHeartbeats 1000000
/-! K23A: runs of a plain row, the package's and the law's. -/
namespace SR
open PySem PySem.Spec PyProof.Rows L2
/-- the runs so far, with one more place -/
def blkStep (acc : List (Int × Int)) (x : Int) : List (Int × Int) := match acc.getLast? with
  | some q => if q.1 + q.2 = x then acc.set (acc.length - 1) (q.1, q.2 + 1) else acc ++ [(x, 1)]
  | none => acc ++ [(x, 1)]
def blkOf (xs : List Int) : List (Int × Int) := xs.foldl blkStep []
theorem blkStep_len (acc : List (Int × Int)) (x : Int) : (blkStep acc x).length ≤ acc.length + 1 := by
  unfold blkStep
  split
  · split
    · rw [List.length_set]; omega
    · rw [List.length_append]; exact Nat.le_refl _
  · rw [List.length_append]; exact Nat.le_refl _
theorem blkOf_len (xs : List Int) : (blkOf xs).length ≤ xs.length := by
  have key : ∀ (xs : List Int) (acc : List (Int × Int)), (xs.foldl blkStep acc).length ≤ acc.length + xs.length := by
    intro xs
    induction xs with
    | nil => exact fun _ => Nat.le_refl _
    | cons x xs ih =>
      intro acc
      have a := ih (blkStep acc x)
      have b := blkStep_len acc x
      rw [List.foldl_cons, List.length_cons]
      omega
  have := key xs []
  rw [List.length_nil] at this
  unfold blkOf
  omega
theorem blkOf_snoc (xs : List Int) (x : Int) : blkOf (xs ++ [x]) = blkStep (blkOf xs) x := by
  unfold blkOf
  rw [List.foldl_append]
  rfl
theorem paired_set {α β : Type} {R : α → β → Prop} {xs : List α} {ys : List β} (h : Paired R xs ys) {i : Nat} {a : α} {b : β} (r : R a b) : Paired R (xs.set i a) (ys.set i b) := by
  induction h generalizing i with
  | nil => exact .nil
  | cons x y ih =>
    cases i with
    | zero => exact .cons r y
    | succ i => exact .cons x ih
theorem paired_last2 {α β : Type} {R : α → β → Prop} {xs : List α} {ys : List β} (h : Paired R xs ys) {y : β} (e : ys.getLast? = some y) : ∃ x, xs.getLast? = some x ∧ R x y ∧ 0 < xs.length := by
  have l := paired_len h
  rw [List.getLast?_eq_getElem?] at e
  have lt := (List.getElem?_eq_some_iff.mp e).1
  have : ∃ x, xs[ys.length - 1]? = some x := ⟨xs[ys.length - 1]'(by omega), List.getElem?_eq_getElem (by omega)⟩
  obtain ⟨x, hx⟩ := this
  obtain ⟨b, hb, r⟩ := paired_at h hx
  rw [e] at hb
  cases hb
  refine ⟨x, ?_, r, by omega⟩
  rw [List.getLast?_eq_getElem?, l]
  exact hx
def t_blkC (K : PySem.W.Frag) : TT := tTest (tOp rEq (tCB (rSumT K) (tCons (tOp (rIxL K) (tVar 1) (tUn (rU fun i => .int (-i)) (tC (.int 1)))) (tNil))) (tVar 2))
def t_blkT (K : PySem.W.Frag) : TS := tAsg (tTup (tCons (tOp (rIxT K) (tOp (rIxL K) (tVar 1) (tUn (rU fun i => .int (-i)) (tC (.int 1)))) (tC (.int 0))) (tCons (tOp qAdd (tOp (rIxT K) (tOp (rIxL K) (tVar 1) (tUn (rU fun i => .int (-i)) (tC (.int 1)))) (tC (.int 1))) (tC (.int 1))) (tNil)))) (gSub (tVar 1) (tUn (rU fun i => .int (-i)) (tC (.int 1))) rSetL)
def t_blkE (K : PySem.W.Frag) : TS := tDrop (tBM K "list" rAppend (tVar 1) (tCons (tTup (tCons (tVar 2) (tCons (tC (.int 1)) (tNil)))) (tNil)))
section
variable {K : PySem.W.Frag} {H : Hp} {A : Addr} {ts : List Addr} {acc : List (Int × Int)} {x : Int} {x0 x3 : Option V} {xs : List (Option V)}
/-- found: a list of pairs at A -/
def Blk (H : Hp) (A : Addr) (acc : List (Int × Int)) : Prop := ∃ ts : List Addr, H A = some (.lst (ts.map V.ref)) ∧ Paired (TupAt H) ts acc
theorem Blk.last (b : Blk H A acc) {q : Int × Int} (e : acc.getLast? = some q) : ∃ (vs : List V) (t : Addr), H A = some (.lst vs) ∧ atI vs (-1) = some (.ref t) ∧ TupAt H t q := by
  obtain ⟨ts, h, pr⟩ := b
  obtain ⟨t, e2, r, _⟩ := paired_last2 pr e
  refine ⟨_, t, h, at_last ?_, r⟩
  rw [List.getLast?_map, e2]
  rfl
theorem blkT {D : Ends} {q : Int × Int} (b : Blk H A acc) (len : acc.length ≤ 200) (e : acc.getLast? = some q) (eq : q.1 + q.2 = x)
    (k : ∀ H', SameBut A H H' → Blk H' A (blkStep acc x) → D.nx (x0 :: some (.ref A) :: some (.int x) :: xs) H') : t_blkT K D (x0 :: some (.ref A) :: some (.int x) :: xs) H := by
  obtain ⟨vs, t, h, hl, ht⟩ := b.last e
  obtain ⟨ts, h', pr⟩ := b
  cases h.symm.trans h'
  have pos : 0 < acc.length := by
    cases acc with
    | nil => cases e
    | cons _ _ => exact Nat.succ_pos _
  have tl := paired_len pr
  have hA := SqL.of (K := K) h
  have T := SqT.of (K := K) ht
  refine ⟨_, rfl, _, rfl, A, _, -1, _, rfl, rfl, hA, hl, t, _, 0, _, rfl, rfl, T, rfl, ?_⟩
  refine ⟨_, rfl, _, rfl, A, _, -1, _, rfl, rfl, hA, hl, t, _, 1, _, rfl, rfl, T, rfl, _, _, rfl, rfl, sz (by show 2 ≤ 1000; decide), fun n hn => ?_⟩
  have s1 := same_new (o := .tup [.int q.1, .int (q.2 + 1)]) hn
  have N1 : TupAt (upd H n (.tup [.int q.1, .int (q.2 + 1)])) n (q.1, q.2 + 1) := upd_same
  show gSub _ _ _ _ _ (upd H n (.tup [.int q.1, .int (q.2 + 1)])) _
  generalize upd H n (.tup [.int q.1, .int (q.2 + 1)]) = H1 at s1 N1 ⊢
  have h1 := s1 _ _ h
  refine ⟨_, rfl, _, rfl, A, _, -1, acc.length - 1, rfl, rfl, h1, ?_, ?_⟩
  · rw [List.length_map, tl]
    unfold ixN
    rw [if_neg (by decide), if_pos (by omega)]
    congr 1
    omega
  · have st : blkStep acc x = acc.set (acc.length - 1) (q.1, q.2 + 1) := by
      unfold blkStep
      rw [e]
      exact if_pos eq
    refine k _ (fun a o ne z => (upd_ne ne).trans (s1 _ _ z)) ⟨ts.set (acc.length - 1) n, ?_, ?_⟩
    · rw [upd_same, List.map_set]
    · rw [st]
      have keep : ∀ {b : Addr} {p : Int × Int}, TupAt H1 b p → TupAt (upd H1 A (.lst ((ts.map V.ref).set (acc.length - 1) (.ref n)))) b p := fun {b p} z => (upd_ne (ne_of z h1 (by intro e; cases e))).trans z
      exact paired_set (paired_imp (fun _ _ z => keep (s1 _ _ z)) pr) (keep N1)
theorem blkE {D : Ends} (b : Blk H A acc) (len : acc.length ≤ 200) (no : ∀ q, acc.getLast? = some q → q.1 + q.2 ≠ x)
    (k : ∀ H', SameBut A H H' → Blk H' A (blkStep acc x) → D.nx (x0 :: some (.ref A) :: some (.int x) :: xs) H') : t_blkE K D (x0 :: some (.ref A) :: some (.int x) :: xs) H := by
  obtain ⟨ts, h, pr⟩ := b
  have tl := paired_len pr
  refine ⟨_, rfl, .inl ⟨rfl, _, SqL.of h⟩, _, rfl, sz (by show 2 ≤ 1000; decide), fun n hn => ?_⟩
  have s1 := same_new (o := .tup [.int x, .int 1]) hn
  have N1 : TupAt (upd H n (.tup [.int x, .int 1])) n (x, 1) := upd_same
  generalize upd H n (.tup [.int x, .int 1]) = H1 at s1 N1 ⊢
  have h1 := s1 _ _ h
  have st : blkStep acc x = acc ++ [(x, 1)] := by
    unfold blkStep
    split
    · rename_i q e
      exact if_neg (no q e)
    · rfl
  refine ⟨A, _, _, rfl, rfl, h1, ?_, ?_⟩
  · rw [List.length_map, tl]
    exact Nat.lt_of_le_of_lt len (by decide)
  refine k _ (fun a o ne z => (upd_ne ne).trans (s1 _ _ z)) ⟨ts ++ [n], ?_, ?_⟩
  · rw [upd_same, List.map_append]
    rfl
  · rw [st]
    have keep : ∀ {b : Addr} {p : Int × Int}, TupAt H1 b p → TupAt (upd H1 A (.lst (ts.map V.ref ++ [.ref n]))) b p := fun {b p} z => (upd_ne (ne_of z h1 (by intro e; cases e))).trans z
    exact paired_snoc (keep N1) (paired_imp (fun _ _ z => keep (s1 _ _ z)) pr)
end
end SR

set_option Elab.async false
set_option linter.all false
set_option maxRecDepth 100000
set_option maxHeartbeats 1000000
/-! K23B: runs_in, the law's blocks, plain rows. -/
namespace SR
open PySem PySem.Spec PyProof.Rows L2
theorem sorted_keys {ps : List (Int × Int)} (a : Asc ps) {ys : List Int} (h : ys.Perm (ps.map Prod.fst)) (w : ys.Pairwise (· ≤ ·)) : ys = ps.map Prod.fst := by
  have nd : ys.Nodup := h.nodup_iff.mpr (asc_nd a)
  have s1 : Asc (ys.map fun y => (y, (1 : Int))) := by
    unfold Asc
    rw [List.pairwise_map]
    have := List.Pairwise.and w nd
    exact this.imp fun {x y} ⟨h1, h2⟩ => by
      show x < y
      omega
  have s2 : Asc ((ps.map Prod.fst).map fun y => (y, (1 : Int))) := by
    unfold Asc
    rw [List.pairwise_map, List.pairwise_map]
    exact a
  have e := asc_eq s1 s2 (h.map _)
  have k : ∀ zs : List Int, (zs.map fun y => (y, (1 : Int))).map Prod.fst = zs := fun zs => by
    rw [List.map_map]
    exact List.map_id _
  rw [← k ys, e, k]
theorem kvs_keys (fs : List (Int × Int)) : (kvsOf fs).map (·.1) = (fs.map Prod.fst).map Sum.inl := by
  unfold kvsOf
  rw [List.map_map, List.map_map]
  rfl
theorem Blk.same {H H' : Hp} {A : Addr} {acc : List (Int × Int)} (b : Blk H A acc) (s : Same H H') : Blk H' A acc := by
  obtain ⟨ts, h, pr⟩ := b
  exact ⟨ts, s _ _ h, paired_imp (fun _ _ z => s _ _ z) pr⟩
theorem Blk.sq {K : PySem.W.Frag} {H : Hp} {A : Addr} {acc : List (Int × Int)} (b : Blk H A acc) : ∃ xs, SqL K H A xs ∧ (!xs.isEmpty) = (!acc.isEmpty) := by
  obtain ⟨ts, h, pr⟩ := b
  refine ⟨_, SqL.of h, ?_⟩
  cases pr <;> rfl
/-- the body where there is a run, and where there is none -/
theorem blk_pos {K : PySem.W.Frag} {D : Ends} {H : Hp} {A : Addr} {acc : List (Int × Int)} {x : Int} {x0 : Option V} {xs : List (Option V)} (b : Blk H A acc) (len : acc.length ≤ 200) (ne : (!acc.isEmpty) = true)
    (k : ∀ H', SameBut A H H' → Blk H' A (blkStep acc x) → D.nx (x0 :: some (.ref A) :: some (.int x) :: xs) H') :
    t_blkC K (x0 :: some (.ref A) :: some (.int x) :: xs) H (fun c H1 => if c = true then t_blkT K D (x0 :: some (.ref A) :: some (.int x) :: xs) H1 else t_blkE K D (x0 :: some (.ref A) :: some (.int x) :: xs) H1) := by
  cases e : acc.getLast? with
  | none =>
    have := List.getLast?_eq_none_iff.mp e
    subst this
    cases ne
  | some q =>
    obtain ⟨vs, t, h, hl, ht⟩ := b.last e
    refine ⟨_, rfl, _, rfl, A, _, -1, _, rfl, rfl, SqL.of h, hl, t, [q.1, q.2], rfl, SqT.of ht, _, rfl, rfl, _, rfl, ?_⟩
    have sum : [q.1, q.2].sum = q.1 + q.2 := by simp
    by_cases z : q.1 + q.2 = x
    · have : decide (V.int [q.1, q.2].sum = V.int x) = true := decide_eq_true (by rw [sum, z])
      rw [this]
      exact iteT (blkT b len e z k)
    · have : decide (V.int [q.1, q.2].sum = V.int x) = false := decide_eq_false (by rw [sum]; intro y; cases y; exact z rfl)
      rw [this]
      exact iteF (blkE b len (fun q' e' => by rw [e] at e'; cases e'; exact z) k)
theorem blk_neg {K : PySem.W.Frag} {D : Ends} {H : Hp} {A : Addr} {acc : List (Int × Int)} {x : Int} {x0 : Option V} {xs : List (Option V)} (b : Blk H A acc) (len : acc.length ≤ 200) (ne : ¬(!acc.isEmpty) = true)
    (k : ∀ H', SameBut A H H' → Blk H' A (blkStep acc x) → D.nx (x0 :: some (.ref A) :: some (.int x) :: xs) H') : t_blkE K D (x0 :: some (.ref A) :: some (.int x) :: xs) H := by
  cases acc with
  | nil => exact blkE b len (fun q z => by cases z) k
  | cons _ _ => exact absurd rfl ne
def t_ruBody (K : PySem.W.Frag) : TS := (tIfS (tAnd ((fun σ H Q => tVar 1 σ H fun x H1 => ∃ k, TruV K x H1 k ∧ Q k H1)) (t_blkC K))
  (t_blkT K)
  (t_blkE K))
def t_blBody (K : PySem.W.Frag) : TS := (tIfS (tAnd (tTest (tOp (rNeE K) (tVar 1) (tLst (tNil)))) (t_blkC K))
  (t_blkT K)
  (t_blkE K))
def t_runs_in (K : PySem.W.Frag) (c_Row : Addr) : TS := tSeq (tAsg (tLst (tNil)) (gName 1))
  (tSeq (tFor (iTup K (tProp c_Row (spContents K c_Row) [] E0 (tVar 0))) (gTup K 2 (gCons (gName 2) (gCons (gName 3) (gNil))))
  (t_ruBody K))
  (tRet (tVar 1)))
def t_blocks (K : PySem.W.Frag) : TS := tSeq (tAsg (tLst (tNil)) (gName 1))
  (tSeq (tFor (iList K (tCB qSortedD (tCons (tVar 0) (tNil)))) (gName 2)
  (t_blBody K))
  (tRet (tVar 1)))
def spRunsIn (K : PySem.W.Frag) (C : Addr) : Sp := fun vs H Q _ => ∃ x ps ks, vs = [.ref x] ∧ RowAt K C H x ps ks ∧ ps.length ≤ 100 ∧ ∀ A H', H A = none → Same H H' → Blk H' A (blkOf (ps.map Prod.fst)) → Q (.ref A) H'
def spBlocks : Sp := fun vs H Q _ => ∃ F fs ps, vs = [.ref F] ∧ H F = some (.dK (kvsOf fs)) ∧ fs.Perm ps ∧ Asc ps ∧ fs.length < 64 ∧ ∀ A H', H A = none → Same H H' → Blk H' A (blkOf (ps.map Prod.fst)) → Q (.ref A) H'
theorem pure_runs_in {K : PySem.W.Frag} {C : Addr} (vs : List V) (H : Hp) (Q : VK) (E : XK) (h : spRunsIn K C vs H Q E) : t_runs_in K C { nx := fun _ H' => Q .non H', rt := Q } (start ["row", "found", "index", "_"] vs) H := by
  obtain ⟨x, ps, ks, rfl, row, pl, q⟩ := h
  refine ⟨sz (Nat.zero_le _), fun s hs => ?_⟩
  have s1 := same_new (o := .lst []) hs
  have L1 : upd H s (.lst []) s = some (.lst []) := upd_same
  generalize upd H s (.lst []) = H1 at s1 L1 ⊢
  have row1 := row.same s1
  obtain ⟨dx, fs, hx, no1, no2⟩ := row1.ins
  refine ⟨_, rfl, x, dx, fs, rfl, hx, x, ps, ks, rfl, row1, fun c hc => ⟨c, rfl, ?_⟩⟩
  obtain ⟨ts0, bc, pc⟩ := hc
  refine ⟨⟨_, bc.sq⟩, ?_⟩
  refine for_it (walk_tup (K := K) (a := c) (xs := ts0.map V.ref)) (fun i σ H2 => SameBut s H1 H2 ∧ ∃ w2 w3, Blk H2 s (blkOf ((ps.take i).map Prod.fst)) ∧ σ = [some (.ref x), some (.ref s), w2, w3]) ⟨fun b o _ h => h, none, none, ⟨[], L1, .nil⟩, rfl⟩ ?_ ?_ ?_
  · rintro i σ H2 _ ⟨k2, _⟩
    refine Bare.sq ?_
    obtain ⟨o, a1, a2⟩ := bc
    exact ⟨o, k2 _ _ (fun z => by rw [z, L1] at a1; cases a1) a1, a2⟩
  · rintro i v2 σ H2 H3 hi ⟨k2, w2, w3, b, rfl⟩ ⟨rfl, hv2⟩
    rw [List.getElem?_map] at hv2
    obtain ⟨u, hu, rfl⟩ := Option.map_eq_some_iff.mp hv2
    obtain ⟨p, hp, hat⟩ := paired_at pc hu
    have at2 : TupAt H3 u p := k2 _ _ (fun z => by
      unfold TupAt at hat
      rw [z, L1] at hat
      cases hat) hat
    refine ⟨u, _, rfl, SqT.of at2, rfl, _, _, rfl, _, _, rfl, rfl, ?_⟩
    show t_ruBody K _ [some (.ref x), some (.ref s), some (.int p.1), some (.int p.2)] H3
    have tk : (ps.take (i + 1)).map Prod.fst = (ps.take i).map Prod.fst ++ [p.1] := by
      rw [List.take_succ, hp, List.map_append]
      rfl
    have len : (blkOf ((ps.take i).map Prod.fst)).length ≤ 200 := by
      have a := blkOf_len ((ps.take i).map Prod.fst)
      rw [List.length_map] at a
      have b : (ps.take i).length ≤ ps.length := by
        rw [List.length_take]
        exact Nat.min_le_right _ _
      omega
    obtain ⟨xs, sq, em⟩ := b.sq (K := K)
    refine ⟨_, rfl, _, .inl ⟨xs, sq, rfl⟩, ?_⟩
    rw [em]
    have fin : ∀ H', SameBut s H3 H' → Blk H' s (blkStep (blkOf ((ps.take i).map Prod.fst)) p.1) → SameBut s H1 H' ∧ ∃ w2 w3, Blk H' s (blkOf ((ps.take (i + 1)).map Prod.fst)) ∧ [some (.ref x), some (.ref s), some (.int p.1), some (.int p.2)] = [some (V.ref x), some (.ref s), w2, w3] := fun H' k' b' => ⟨k2.trans k', _, _, by rw [tk, blkOf_snoc]; exact b', rfl⟩
    cases ne : (!(blkOf ((ps.take i).map Prod.fst)).isEmpty) with
    | true => exact iteT (blk_pos b len ne fin)
    | false => exact iteF (iteF (blk_neg b len (by rw [ne]; exact Bool.false_ne_true) fin))
  · rintro σ H2 ⟨k2, w2, w3, b, rfl⟩
    have tl : (ts0.map V.ref).length = ps.length := by rw [List.length_map, paired_len pc]
    rw [tl, List.take_length] at b
    exact ⟨_, rfl, q s H2 hs (fun b o hb => k2 b o (ne_of_none hb hs) (s1 b o hb)) b⟩
theorem pure_blocks {K : PySem.W.Frag} (vs : List V) (H : Hp) (Q : VK) (E : XK) (h : spBlocks vs H Q E) : t_blocks K { nx := fun _ H' => Q .non H', rt := Q } (start ["boxes", "found", "place"] vs) H := by
  obtain ⟨F, fs, ps, rfl, hF, pm, ap, fl, q⟩ := h
  refine ⟨sz (Nat.zero_le _), fun s hs => ?_⟩
  have s1 := same_new (o := .lst []) hs
  have L1 : upd H s (.lst []) s = some (.lst []) := upd_same
  generalize upd H s (.lst []) = H1 at s1 L1 ⊢
  refine ⟨_, rfl, F, _, _, rfl, .inl (s1 _ _ hF), kvs_keys fs, (by rw [List.length_map]; exact fl), fun ys l perm pw hl => ?_⟩
  have ye := sorted_keys ap (perm.trans (pm.map _)) pw
  subst ye
  have nl : l ≠ s := fun z => by rw [z, L1] at hl; cases hl
  have s2 := same_new (o := .lst ((ps.map Prod.fst).map V.int)) hl
  have L2 := s2 _ _ L1
  have Y2 : upd H1 l (.lst ((ps.map Prod.fst).map V.int)) l = some (.lst ((ps.map Prod.fst).map V.int)) := upd_same
  generalize upd H1 l (.lst ((ps.map Prod.fst).map V.int)) = H2 at s2 L2 Y2 ⊢
  have plen : ps.length < 64 := by rw [← pm.length_eq]; exact fl
  refine ⟨l, rfl, ⟨_, SqL.of Y2⟩, ?_⟩
  refine for_it (walk_list (K := K) (a := l) (xs := (ps.map Prod.fst).map V.int)) (fun i σ H3 => SameBut s H2 H3 ∧ ∃ w2, Blk H3 s (blkOf ((ps.take i).map Prod.fst)) ∧ σ = [some (.ref F), some (.ref s), w2]) ⟨fun b o _ h => h, none, ⟨[], L2, .nil⟩, rfl⟩ ?_ ?_ ?_
  · rintro i σ H3 _ ⟨k3, _⟩
    exact SqL.of (k3 _ _ nl Y2)
  · rintro i v σ H3 H4 hi ⟨k3, w2, b, rfl⟩ ⟨rfl, hv⟩
    rw [List.getElem?_map, List.getElem?_map] at hv
    obtain ⟨y, hy, rfl⟩ := Option.map_eq_some_iff.mp hv
    obtain ⟨p, hp, rfl⟩ := Option.map_eq_some_iff.mp hy
    show t_blBody K _ [some (.ref F), some (.ref s), some (.int p.1)] H4
    have tk : (ps.take (i + 1)).map Prod.fst = (ps.take i).map Prod.fst ++ [p.1] := by
      rw [List.take_succ, hp, List.map_append]
      rfl
    have len : (blkOf ((ps.take i).map Prod.fst)).length ≤ 200 := by
      have a := blkOf_len ((ps.take i).map Prod.fst)
      rw [List.length_map] at a
      have b : (ps.take i).length ≤ ps.length := by
        rw [List.length_take]
        exact Nat.min_le_right _ _
      omega
    refine ⟨_, rfl, sz (Nat.zero_le _), fun e he => ?_⟩
    have s5 := same_new (o := .lst []) he
    have E5 : upd H4 e (.lst []) e = some (.lst []) := upd_same
    have b5 := b.same s5
    generalize upd H4 e (.lst []) = H5 at s5 E5 b5 ⊢
    obtain ⟨xs, sq, em⟩ := b5.sq (K := K)
    refine ⟨s, e, xs, rfl, rfl, sq, SqL.of E5, _, rfl, ?_⟩
    rw [em]
    have fin : ∀ H', SameBut s H5 H' → Blk H' s (blkStep (blkOf ((ps.take i).map Prod.fst)) p.1) → SameBut s H2 H' ∧ ∃ w2, Blk H' s (blkOf ((ps.take (i + 1)).map Prod.fst)) ∧ [some (.ref F), some (.ref s), some (.int p.1)] = [some (V.ref F), some (.ref s), w2] := fun H' k' b' => ⟨fun a o z h => k' _ _ z (s5 _ _ (k3 _ _ z h)), _, by rw [tk, blkOf_snoc]; exact b', rfl⟩
    cases ne : (!(blkOf ((ps.take i).map Prod.fst)).isEmpty) with
    | true => exact iteT (blk_pos b5 len ne fin)
    | false => exact iteF (iteF (blk_neg b5 len (by rw [ne]; exact Bool.false_ne_true) fin))
  · rintro σ H3 ⟨k3, w2, b, rfl⟩
    have tl : ((ps.map Prod.fst).map V.int).length = ps.length := by rw [List.length_map, List.length_map]
    rw [tl, List.take_length] at b
    exact ⟨_, rfl, q s H3 hs (fun b o hb => k3 b o (ne_of_none hb hs) (s2 _ _ (s1 b o hb))) b⟩
def t_Row_is_plain (K : PySem.W.Frag) : TS := tRet (tNotT K (tFld K (tVar 0) "_capacities"))
def spIsPlain (K : PySem.W.Frag) (C : Addr) : Sp := fun vs H Q _ => ∃ x ps ks, vs = [.ref x] ∧ RowAt K C H x ps ks ∧ Q (.bl ks.isEmpty) H
theorem pure_is_plain {K : PySem.W.Frag} {C : Addr} (R : RowC K C) (vs : List V) (H : Hp) (Q : VK) (E : XK) (h : spIsPlain K C vs H Q E) : t_Row_is_plain K { nx := fun _ H' => Q .non H', rt := Q } (start ["self"] vs) H := by
  obtain ⟨x, ps, ks, rfl, ⟨dx, c, k, d, e, ps0, ks0, h1, h2, h3, h4⟩, q⟩ := h
  obtain ⟨ts, bc, pr⟩ := h3
  refine ⟨_, rfl, x, C, dx, _, _, rfl, h1, R.cls, R.n2, fl2 c k d e, _, .inr (.inl ⟨_, bc.sq, rfl⟩), ?_⟩
  have : (!(!(ts.map V.ref).isEmpty)) = ks.isEmpty := by cases pr <;> rfl
  rw [this]
  exact q
def t_is_plain_row (K : PySem.W.Frag) (c_Row : Addr) : TS := tRet (tAndV (tCB (rIsi K) (tCons (tVar 0) (tCons (tC (.ref c_Row)) tNil))) (tMeth c_Row "is_plain" (spIsPlain K c_Row) [] E0 (tVar 0) tNil))
def spPlainRow (K : PySem.W.Frag) (C : Addr) : Sp := fun vs H Q _ => ∃ x ps ks, vs = [.ref x] ∧ RowAt K C H x ps ks ∧ Q (.bl ks.isEmpty) H
theorem RowAt.insP {K : PySem.W.Frag} {C : Addr} {H : Hp} {x : Addr} {ps ks : List (Int × Int)} (h : RowAt K C H x ps ks) : ∃ dx fs, H x = some (.ins C dx fs) ∧ List.lookup ("is_plain" : Str) fs = none := by
  obtain ⟨dx, c, k, d, e, ps0, ks0, h1, _⟩ := h
  exact ⟨dx, _, h1, rfl⟩
theorem pure_plain_row {K : PySem.W.Frag} {C : Addr} (R : RowC K C) (Z : RowK K C) (vs : List V) (H : Hp) (Q : VK) (E : XK) (h : spPlainRow K C vs H Q E) : t_is_plain_row K C { nx := fun _ H' => Q .non H', rt := Q } (start ["value"] vs) H := by
  obtain ⟨x, ps, ks, rfl, row, q⟩ := h
  obtain ⟨dx, fs, h1, no⟩ := row.insP
  refine ⟨_, rfl, .ref x, .ref C, .ref C, .ref C, true, rfl, .own C, .base (.ins h1 R.cls Z.ha Z.hg Z.ht Z.hm), Z.kit, ?_⟩
  exact ⟨_, rfl, iteT ⟨_, rfl, x, dx, fs, rfl, h1, no, x, ps, ks, rfl, row, q⟩⟩
end SR

set_option Elab.async false
set_option linter.all false
set_option maxRecDepth 100000
set_option maxHeartbeats 4000000
/-! SUP: an error class whose own __init__ says super().__init__(text) and keeps one field. -/
namespace SR
open PySem PySem.Spec PyProof.Rows L2
section
variable {prog : Program} {w : World} {A : Around} {E : Value → Shared → Prop} {h : Heap} {g : Array GenState} {d : Drawn} {t : Nat} {os : OsState}
variable {nm qn : Str} {C N : Addr} {bs bm : List Value} {hdct : Bool} {sn : List Str} {sub : List Value} {ab : Bool} {col : Option Bool} {dd : Option Addr} {k0 k1 k2 k3 k5 : Option Value}
/-- the wrapper of ValueError's __init__, called -/
theorem sup_call {u e t0 : Addr} {us : List Value} {Q : Value → Shared → Prop} (hC : h.get? C = some (excClassObj nm qn C N bs bm hdct sn sub ab col dd k0 k1 k2 k3 k5 "ValueError.__new__"))
    (he : h.get? e = some (PySem.HandSPX.excO C t0)) (hu : h.get? u = some (PySem.W.kxs_mw "ValueError.__init__" e)) (hl : us.length ≤ sizeLine)
    (hq : ∀ h1 t1, (∀ b o, b ≠ e → h.get? b = some o → h1.get? b = some o) → h1.get? e = some (PySem.HandSPX.excO C t1) → Q .none ⟨h1, g, d, t, os⟩) : wpAny (model prog w) A (call (.ref u) us) Q E ⟨h, g, d, t, os⟩ := by
  refine wpAny_call (codeAny_of_tree ?_)
  show wpAny _ A.in1 (callAny (.ref u) ⟨us, []⟩) _ _ (⟨h, g, d, t, os⟩ : Shared)
  simp only [callAny]
  refine wpAny_bind (wpAny_load hu ?_)
  have z : (Value.type "method-wrapper" == Value.type "method" || Value.type "method-wrapper" == Value.type "builtin_function_or_method" || Value.type "method-wrapper" == Value.type "method-wrapper") = true := by decide
  simp only [PySem.W.kxs_mw, z, if_true]
  refine PySem.W.KFB.if_so (by decide) (wpAny_bind (PySem.W.check_bound_init F.excBase_ValueError.toExcCallFacts hC he rfl ?_))
  refine wpAny_bind (wpAny_pure (wpAny_pure ⟨plainId_quiet F.excBase_ValueError.init.plain _, codeAny_builtin F.excBase_ValueError.initEntry ?_⟩))
  exact PySem.W.exc_init_tree (cls := .ref C) (t0 := t0) (dv := none) (c2 := .none) (c3 := .none) (b4 := .bool false) he hl fun h1 k e1 _ => hq h1 _ k e1
end

/-- what the written part says of an error class D and of its __init__ at f: the def's cell cc, its code cda -/
structure SupC (P : Program) (K : PySem.W.Frag) (D f cc cda : Addr) (scope : Scope) (fld : Str) : Prop where
  T : OexC K D
  no : PySem.W.findIn K (.ref D) fld = some none
  al : PySem.W.ks_superIn K D D "__init__" = some (some (.builtin "ValueError.__init__"))
  sb : PySem.W.subIn K (.ref D) (.type "ValueError") = some true
  me : PySem.W.mroIn K D (.ref D) = some true
  tp : PySem.W.nsIn K cStatics "thirdparty.any" = some none
  file : ∃ oc od vs osl s tf, K.lookup cda = some ⟨oc, od, .fields vs, osl⟩ ∧ vs[2]? = some (.str s tf) ∧ ((P.main.file : Str) == s) = true
  cell : ∃ oc od osl, K.lookup cc = some ⟨oc, od, .cell (some (.ref D)), osl⟩
  top : (P.main.scope.names.lookup ("super" : Str)).isSome = false

/-- the context of such a def's body -/
def cxS (P : Program) (w : World) (K : PySem.W.Frag) (mg : Str → Option Value) (base : Heap) (N : List Str) (qual : Str) (scope : Scope) (f cda cc : Addr) (A : Around) (outer : List Env) (s : Shared) (H : Hp) (xe : Value → Shared → Prop) : Cx where
  prog := P
  w := w
  K := K
  mg := mg
  base := base
  A := A.deeper (PySem.W.ksEnv qual scope s.heap.objs.size f (.ref cda) cc)
  N := N
  s_0 := s
  H_0 := H
  env := PySem.W.ksEnv qual scope s.heap.objs.size f (.ref cda) cc
  outer := outer
  stack := PySem.W.ksEnv qual scope s.heap.objs.size f (.ref cda) cc :: outer
  ex := []
  calm := true
  fn := fun _ => false
  pn := []
  xe := xe

/-- the scope of such a def: two names of its own, its class, super -/
structure SupS (scope : Scope) (arg : Str) : Prop where
  kind : scope.kind = .function
  co : scope.isCoroutine = false
  gen : scope.isGenerator = false
  self_ : scope.names.lookup ("self" : Str) = some .local
  arg_ : scope.names.lookup arg = some .local
  cls : scope.names.lookup ("__class__" : Str) = some .free
  sup : scope.names.lookup ("super" : Str) = some .globalImplicit
  one : ∀ x ∈ scope.names, x.2 = .free → x.1 = "__class__"
  noc : ∀ x ∈ scope.names, x.2 ≠ .cell
  ne : (arg == ("self" : Str)) = false

section
variable {P : Program} {w : World} {K : PySem.W.Frag} {mg : Str → Option Value} {base : Heap} {qual arg fld : Str} {scope : Scope} {D f cda cc : Addr} {A : Around} {outer : List Env} {s : Shared} {H : Hp} {a : Addr} {y : V} {u : Value} {h1 : Heap} {n : Nat} {xe : Value → Shared → Prop}
theorem inv_sup (B : SupS scope arg) (S : SupC P K D f cc cda scope fld) (hd : A.handled = none) (e0 : Env0 P w K mg base A outer s H) (r : RelV y u)
    (hns : h1.Ns s.heap.objs.size (fun x => [(arg, u), ("self", Value.ref a)].lookup x)) (hk : ∀ b o, s.heap.get? b = some o → h1.get? b = some o) :
    Inv (cxS P w K mg base ["self", arg] qual scope f cda cc A outer s H xe) [] [some (.ref a), some y] H { s with heap := h1, toks := n } := by
  have KB := e0.mod.kin
  obtain ⟨oc, od, osl, lc⟩ := S.cell
  have hcc := KB _ _ lc
  have noA : ∀ b : Addr, b ∉ (cxS P w K mg base ["self", arg] qual scope f cda cc A outer s H xe).ex := fun b z => absurd (show b ∈ ([] : List Addr) from z) (by simp)
  have one : ∀ (x : Str) (c : Addr), ([("__class__", cc)] : List (Str × Addr)).lookup x = some c → x = "__class__" ∧ c = cc := fun x c e => by
    rw [List.lookup_cons] at e
    by_cases z : x = "__class__"
    · subst z
      rw [beq_self_eq_true] at e
      cases e
      exact ⟨rfl, rfl⟩
    · rw [beq_false_of_ne z] at e
      cases e
  refine ⟨⟨e0.mod, B.kind, rfl, rfl, Nat.le_refl _, fun x z c h2 h3 => ?_, fun x hx => ?_, fun x c z _ => ?_, fun _ => hd, Around.frames_deeper e0.frames, .inr ⟨rfl, rfl⟩, fun b z => absurd z (noA b), e0.bs, e0.bsz, fun b _ _ => noA b, fun b z => absurd z (noA b), e0.funs, e0.frf⟩,
    rfl, e0.bare, Un.kept hk, ⟨_, hns, fun i x v h2 h3 h4 => ?_⟩, fun x c h2 => ?_, e0.hok.fresh (Nat.le_refl _), fun x c h2 => ?_, fun p hp => absurd (show p ∈ ([] : List (Addr × Obj)) from hp) (by simp), e0.hok.kept hk, rfl⟩
  · rw [(one x c h2).1, (one z c h3).1]
  · have hx : scope.names.lookup x = some .cell ∨ scope.names.lookup x = some .free := hx
    rcases hx with hx | hx
    · exact absurd rfl (B.noc _ (PySem.mem_of_lookup hx))
    · have q : x = "__class__" := B.one _ (PySem.mem_of_lookup hx) rfl
      subst q
      exact ⟨cc, rfl⟩
  · exact absurd (show (false : Bool) = true from z) (by decide)
  · match i, h2, h3 with
    | 0, h2, h3 =>
      cases h2
      cases h3
      refine ⟨.ref a, rfl, .inl ⟨B.self_, ?_⟩⟩
      have q : (("self" : Str) == arg) = false := by
        have := B.ne
        rw [beq_eq_false_iff_ne] at this ⊢
        exact Ne.symm this
      show ([(arg, u), ("self", Value.ref a)] : List (Str × Value)).lookup ("self" : Str) = _
      rw [List.lookup_cons, q]
      rfl
    | 1, h2, h3 =>
      cases h2
      cases h3
      refine ⟨u, r, .inl ⟨B.arg_, ?_⟩⟩
      show ([(arg, u), ("self", Value.ref a)] : List (Str × Value)).lookup arg = _
      rw [List.lookup_cons, beq_self_eq_true]
    | i + 2, h2, h3 => cases h2
  · obtain ⟨rfl, rfl⟩ := one x c h2
    exact ⟨some (.ref D), _, hk _ _ (e0.bs _ _ hcc).1, rfl⟩
  · obtain ⟨rfl, rfl⟩ := one x c h2
    exact (e0.bs _ _ hcc).2

/-- what such a def promises: the field stands in the error's dict -/
def spSup (D : Addr) (fld : Str) : Sp := fun vs H Q _ => ∃ (a : Addr) (y : V), vs = [.ref a, y] ∧ H a = some (exo a D none) ∧ ∀ dx, H dx = none → dx ≠ a → Q .non (upd (upd H dx (exd dx [(fld, y)])) a (exo a D (some dx)))
variable {CX : CXT} {k : Nat} {name : Str} {params : Arguments} {dV kV doc pm ct oc : Value} {an od : Option Addr} {osl : Array (Option Value)} {txt : Str} {j : Const} {p0 p1 p2 p3 p4 p5 q0 q1 q2 q3 : Pos} {fa : Arg}
abbrev supBody (arg fld txt : Str) (jj : Nat) (p0 p1 p2 p3 p4 p5 q0 q1 q2 q3 : Pos) : List Stmt :=
  [.Expr (.Call (.Attribute (.Call (.Name "super" p0) [] [] p1) "__init__" p2) [.Constant (.str txt) jj p3] [] p4) p5, .Assign [.Attribute (.Name "self" q0) fld q1] (.Name arg q2) q3]
/-- how the call of super().__init__ is read: by the places of the text -/
def SupE (txt : Str) (jj : Nat) (p0 p1 p2 p3 p4 : Pos) : Prop := ∀ env : Env, ∃ pl : Sem Bool, eval (.Call (.Attribute (.Call (.Name "super" p0) [] [] p1) "__init__" p2) [.Constant (.str txt) jj p3] [] p4) env = (do
      let ov ← attributeBase (.Call (.Name "super" p0) [] [] p1) "__init__" env (eval (.Call (.Name "super" p0) [] [] p1) env)
      standAt p2.atName
      let (f, first) ← holding [ov] (getMethod ov "__init__" pl)
      callWith p4 f first (backTo p4 (starEach [.Constant (.str txt) jj p3] env)) [])
theorem fn_sup {jj : Nat} (he : SupE txt jj p0 p1 p2 p3 p4) (lk : K.lookup f = some ⟨oc, od, .func (PySem.W.ksFn name qual params (supBody arg fld txt jj p0 p1 p2 p3 p4 p5 q0 q1 q2 q3) scope dV kV doc pm an (.ref cda) ct cc), osl⟩) (hcd : PySem.W.codeIn K (.ref cda) qual = true)
    (B : SupS scope arg) (S : SupC P K D f cc cda scope fld) (hm : mg "super" = none) (hp : (params.posonlyargs ++ params.args).head? = some fa) (hfa : fa.arg = "self") (hdb : (arg == ("__debug__" : Str)) = false) (hdc : (arg == ("__classdict__" : Str)) = false) :
    FnOk P w K mg base CX (k + 1) f (PySem.W.ksFn name qual params (supBody arg fld txt jj p0 p1 p2 p3 p4 p5 q0 q1 q2 q3) scope dV kV doc pm an (.ref cda) ct cc) ["self", arg] (spSup D fld) := by
  refine ⟨fun vs H Q E ⟨a, y, e, _⟩ => by rw [e]; rfl, fun A outer s H args us vs Q E hr e0 hb r hsp => ?_⟩
  obtain ⟨a, y, rfl, ha, hq⟩ := hsp
  match us, r with
  | [_, u], .cons ra (.cons ry .nil) =>
  cases ra
  have KX : K.In s.heap := e0.mod.kin.keeps fun b o e => (e0.bs b o e).1
  have lim : s.heap.NoLimit := e0.mod.nolimit.keeps fun b o e => (e0.bs b o e).1
  have T := S.T
  obtain ⟨nm, qn, N, bs, bm, sn, sub, ab, col, dd, k0, k1, k2, k3, k5, hC, hbm⟩ := T.cls
  have hcl : PySem.W.clsIn K D = some { name := nm, bases := bs, mro := .ref D :: bm, ns := N, qualname := qn, hasDict := true, slotNames := sn, subclasses := sub, abstract := ab, collection := col, hasDel := false } := by unfold PySem.W.clsIn; rw [hC] <;> rfl
  have haD : a ≠ D := fun z => by
    have q := (e0.bs _ _ (e0.mod.kin _ _ hC)).2
    rw [← z, ha] at q
    cases q
  have hhd := hr.hd
  obtain ⟨hp0, g, d, t, os⟩ := s
  refine PySem.ks_codeAny_call_defAt (fd := PySem.W.ksFn name qual params (supBody arg fld txt jj p0 p1 p2 p3 p4 p5 q0 q1 q2 q3) scope dV kV doc pm an (.ref cda) ct cc) (body := supBody arg fld txt jj p0 p1 p2 p3 p4 p5 q0 q1 q2 q3) (binds := [("self", .ref a), (arg, u)])
    hr.depth (KX _ _ lk) rfl lim (PySem.W.codeRec_of KX hcd) rfl hb B.noc (fun x hx => ?_) (fun h1 hns hk => ?_) B.co B.gen B.kind
  · rcases List.mem_cons.mp hx with rfl | hx
    · exact B.self_
    · rcases List.mem_cons.mp hx with rfl | hx
      · exact B.arg_
      · cases hx
  have I0 : Inv (cxS P w K mg base ["self", arg] qual scope f cda cc A outer ⟨hp0, g, d, t, os⟩ H (fun e s' => wpAny (model P w) (A.deeper (PySem.W.ksEnv qual scope hp0.objs.size f (.ref cda) cc)) (leaving (PySem.W.ksEnv qual scope hp0.objs.size f (.ref cda) cc) e) (fun _ s'' => CR CX outer P w H ⟨hp0, g, d, t, os⟩ Q E (.error e) s'') (fun e' s'' => CR CX outer P w H ⟨hp0, g, d, t, os⟩ Q E (.error e') s'') s')) [] [some (.ref a), some y] H ⟨h1, g, d, t + 2, os⟩ := inv_sup (n := t + 2) B S hhd e0 ry hns hk
  obtain ⟨oc1, od1, vs1, osl1, s1, tf1, lcode, hvs, hfile⟩ := S.file
  obtain ⟨oc2, od2, osl2, lcell⟩ := S.cell
  have X1 : K.In h1 := I0.kIn
  have ho1 : ∃ t1 : Addr, h1.get? a = some (PySem.HandSPX.excO D t1) := exo_at I0.hok ha
  obtain ⟨t1, ho1⟩ := ho1
  obtain ⟨pl, he⟩ := he (PySem.W.ksEnv qual scope hp0.objs.size f (.ref cda) cc)
  refine PySem.ks_wpAt_execs_cons (PySem.ks_wpAt_Expr_any (hi := I0.quiet) (PySem.ks_wpAt_MethodCall (he := he) (PySem.ks_wpAt_super_base (env := PySem.W.ksEnv qual scope hp0.objs.size f (.ref cda) cc) (ar := fa) B.sup B.cls rfl rfl (X1 _ _ lk) rfl hp rfl (X1 _ _ lcode) rfl hvs hfile S.top ?_)))
  obtain ⟨mb, hb1, hb2⟩ := e0.mod.blt
  have bk1 : ∀ b o, base.get? b = some o → h1.get? b = some o := I0.bk
  refine PySem.W.ks_loadName_global B.kind B.sup (PySem.Calls.loadGlobal_builtin (env := PySem.W.ksEnv qual scope hp0.objs.size f (.ref cda) cc) (e0.mod.glob.keeps bk1) hm (hb1.keeps bk1) ((hb2 _ (by decide)).trans PyProof.Rows.Boot.«super») ⟨rfl, ?_⟩)
  refine wpAny_loadName_free B.kind B.cls rfl ⟨_, X1 _ _ lcell, rfl⟩ ?_
  rw [hfa]
  have hl1 : ([(arg, u), ("self", Value.ref a)] : List (Str × Value)).lookup ("self" : Str) = some (.ref a) := by
    have q : (("self" : Str) == arg) = false := by
      have := B.ne
      rw [beq_eq_false_iff_ne] at this ⊢
      exact Ne.symm this
    rw [List.lookup_cons, q]
    rfl
  refine PySem.wpAny_loadName_local B.kind B.self_ hns hl1 ?_
  refine PySem.ks_wpAny_isType_cls (X1 _ _ hC) rfl ⟨rfl, ?_⟩
  refine PySem.ks_wpAny_call_super (X1 _ _ hC) rfl ho1 rfl (fun c z => by cases z) (PySem.W.looks_mroIn X1 S.me) (fun h2 e2 k2 => ?_)
  have I2 := I0.kept (t' := t + 2) k2
  have X2 : K.In h2 := I2.kIn
  have ho2 := k2 _ _ ho1
  have at2 : PySem.W.InstAt h2 a (PySem.HandSPX.excO D t1) D none := ⟨ho2, rfl, rfl, trivial⟩
  have hal : PySem.W.alongIn K "__init__" (((Value.ref D :: bm).dropWhile (· != .ref D)).drop 1) = some (some (.builtin "ValueError.__init__")) := by
    have q := S.al
    unfold PySem.W.ks_superIn at q
    rw [hcl] at q
    exact q
  refine PySem.W.kxs_getMethod PySem.W.kxs_ValueError e2 (PySem.W.looks_opaque X2 S.tp) (l₀ := .ref D :: bm) ((PySem.W.looks_clsIn X2 hcl).andThen .now) rfl X2 hal (at2.type.andThen (PySem.W.looks_subIn X2 S.sb)) haD rfl ?_
  have k3 : ∀ b o, h2.get? b = some o → (h2.push (PySem.W.kxs_mw "ValueError.__init__" a)).get? b = some o := fun b o z => Heap.get?_push_of_some _ z
  have hu3 : (h2.push (PySem.W.kxs_mw "ValueError.__init__" a)).get? h2.objs.size = some (PySem.W.kxs_mw "ValueError.__init__" a) := Heap.get?_push_at rfl rfl
  have I3 := I2.kept (t' := t + 2 + 1) k3
  have fresh : H h2.objs.size = none := I2.hok.fresh (Nat.le_refl _)
  have nL : h2.objs.size ≠ hp0.objs.size := Nat.ne_of_gt I2.lt
  have nF := I2.nofs (a := h2.objs.size) (Nat.le_refl _)
  have nB : base.get? h2.objs.size = none := by
    cases z : base.get? h2.objs.size with
    | none => rfl
    | some o => exact absurd (Heap.lt_size (I2.bk _ _ z)) (Nat.lt_irrefl _)
  generalize h2.objs.size = ua at hu3 fresh nL nF nB ⊢
  generalize h2.push (PySem.W.kxs_mw "ValueError.__init__" a) = h3 at k3 hu3 I3 ⊢
  refine PySem.W.kxs_callWith1 (h₀ := base) (L := ua + 1) (news := [(ua, PySem.W.kxs_mw "ValueError.__init__" a)]) (x := a) (i := "ValueError.__init__") (fun p hp => ?_) (List.mem_singleton.mpr rfl) ?_
  · obtain rfl := List.mem_singleton.mp hp
    exact ⟨hu3, Nat.ne_of_lt (Nat.lt_succ_self _), nB⟩
  have J3 := I3.pins_of (pins' := [(ua, PySem.W.kxs_mw "ValueError.__init__" a)]) (fun p hp => by
    obtain rfl := List.mem_singleton.mp hp
    exact ⟨hu3, fresh, nL, nF, fun v z => by cases z⟩)
  refine thn ((pa_cons pe_str pa_nil).run p4 _ _ _ H (fun vs H' => vs = [.str txt] ∧ H' = H) J3 ⟨rfl, rfl⟩) fun us s4 hz => ?_
  obtain ⟨vs, H', J4, rv, rfl, rfl⟩ := hz
  obtain ⟨h4, g4, d4, t4, os4⟩ := s4
  have hu4 := (J4.pin (ua, PySem.W.kxs_mw "ValueError.__init__" a) (List.mem_singleton.mpr rfl)).1
  refine ⟨hu4, ?_⟩
  obtain ⟨t5, ho4⟩ := exo_at J4.hok ha
  have hlen : us.length ≤ sizeLine := by
    rw [← Paired.length rv, sizeLine_eq]
    show 1 ≤ _
    omega
  refine sup_call (J4.kIn _ _ hC) ho4 hu4 hlen fun h5 t6 k5' e5 => ?_
  have J5 := J4.write (t' := t4) (x := a) (e := a) (o := exo a D none) (by rw [ha]; exact True.intro) (.inl rfl) k5' ⟨_, e5⟩ (exo_ok e5)
  have eu : upd H' a (exo a D none) = H' := by
    funext b
    by_cases hb' : b = a
    · rw [hb', upd_same, ha]
    · rw [upd_ne hb']
  rw [eu] at J5
  refine wpAt_of_wpAny ?_
  refine thn ((pss_one (ps_ost (pe_var (i := 0) rfl (.inl B.self_)) (pe_var (i := 1) rfl (.inl B.arg_) hdb hdc))).run _ _ _ H' { nx := fun _ H'' => Q .non H'', rt := Q } J5 ⟨y, rfl, .ref a, rfl, a, D, rfl, T, S.no, .inl ⟨ha, fun dx n1 n2 => hq dx n1 n2⟩⟩) fun fl s6 hs => ?_
  cases fl with
  | ret v =>
    obtain ⟨v', σ', H6, J, rv', q⟩ := hs
    exact ⟨v', H6, J.os, J.bare, J.base, J.hok, rv', q⟩
  | next =>
    obtain ⟨σ', H6, J, q⟩ := hs
    exact ⟨.non, H6, J.os, J.bare, J.base, J.hok, rfl, q⟩
  | brk =>
    obtain ⟨_, _, _, q⟩ := hs
    exact False.elim q
  | cont =>
    obtain ⟨_, _, _, q⟩ := hs
    exact False.elim q
end
end SR

set_option Elab.async false
set_option linter.all false
set_option maxRecDepth 100000
set_option maxHeartbeats 4000000
/-! SRE3: the head's facts of a property. -/
namespace SR
open PySem PySem.Spec PyProof.Rows L2
/-- the getter of the class C's property f -/
def gAt (K : PySem.W.Frag) (C f : Str) : Addr := match PySem.W.recIn K (He.ma K (He.ga K C) f) "property" with
  | some (.ref g :: _) => g
  | _ => 0
def defAt (K : PySem.W.Frag) (g : Addr) : He.FnW := match K.lookup g with
  | some o => (match o.data with
    | .func fd => some (fd.name, fd.qualname, fd.params, fd.body, fd.scope, fd.globals, fd.closure, fd.builtins)
    | _ => none)
  | none => none
/-- a property: its class, its name, its getter -/
structure PropD where
  cls : Str
  f : Str
  d : He.DefD
def PropD.ok (K : PySem.W.Frag) (p : PropD) : Bool :=
  decide (PySem.W.findIn K (.ref (He.ga K p.cls)) p.f = some (some (.ref (He.ma K (He.ga K p.cls) p.f)))) &&
  (decide (PySem.W.specialIn K (.ref (He.ma K (He.ga K p.cls) p.f)) "__get__" = some (some (.builtin "property.__get__"))) &&
  (decide (PySem.W.takesIn K (.ref (He.ma K (He.ga K p.cls) p.f)) = some true) &&
  ((match PySem.W.recIn K (He.ma K (He.ga K p.cls) p.f) "property" with
    | some (.ref _ :: _) => true
    | _ => false) &&
  (PySem.W.keepIn K (.ref (gAt K p.cls p.f)) && (match K.lookup (gAt K p.cls p.f) with
    | some o => (match o.data with
      | .func fd => PySem.W.codeIn K fd.code p.d.qual && (He.dflB K fd.defaults [] && He.kwdB K fd.kwdefaults [])
      | _ => false)
    | none => false)))))
theorem PropD.of {K : PySem.W.Frag} {p : PropD} (e : defAt K (gAt K p.cls p.f) = p.d.val) (h : p.ok K = true) :
    PropOf K (He.ga K p.cls) p.f (He.ma K (He.ga K p.cls) p.f) (gAt K p.cls p.f) ∧ ∃ fd, FunD K p.d.name p.d.qual p.d.params p.d.body p.d.scope [] [] (gAt K p.cls p.f) fd := by
  unfold PropD.ok at h
  simp only [Bool.and_eq_true, decide_eq_true_eq] at h
  obtain ⟨h1, h2, h3, h4, h5, h6⟩ := h
  refine ⟨⟨h1, h2, h3, ?_⟩, ?_⟩
  · clear h6 h5 e
    unfold gAt
    generalize PySem.W.recIn K (He.ma K (He.ga K p.cls) p.f) "property" = r at h4 ⊢
    match r, h4 with
    | some (.ref g :: rest), _ => exact ⟨rest, rfl⟩
  · generalize gAt K p.cls p.f = g at *
    unfold defAt at e
    cases q : K.lookup g with
    | none =>
      rw [q] at h6
      cases h6
    | some o =>
      rw [q] at h6 e
      obtain ⟨oc, od, dt, osl⟩ := o
      cases dt with
      | func fd =>
        have h7 : (PySem.W.codeIn K fd.code p.d.qual && (He.dflB K fd.defaults [] && He.kwdB K fd.kwdefaults [])) = true := h6
        have e7 : (some (fd.name, fd.qualname, fd.params, fd.body, fd.scope, fd.globals, fd.closure, fd.builtins) : He.FnW) = p.d.val := e
        rw [Bool.and_eq_true, Bool.and_eq_true] at h7
        obtain ⟨b1, b2, b3⟩ := h7
        rcases fd with ⟨a1, a2, a3, a4, a5, a6, a7, a8, a9, a10, a11, a12, a13, a14, a15⟩
        unfold He.DefD.val at e7
        injection e7 with e7
        injection e7 with e1 e7
        injection e7 with e2 e7
        injection e7 with e3 e7
        injection e7 with e4 e7
        injection e7 with e5 e7
        injection e7 with e6 e7
        injection e7 with e8 e9
        dsimp only at e1 e2 e3 e4 e5 e6 e8 e9
        subst e1 e2 e3 e4 e5 e6 e8 e9
        exact ⟨_, ⟨oc, od, a8, a9, a10, a11, a12, a13, a14, osl, rfl, q, b1, He.dflB_ok b2, He.kwdB_ok b3⟩, h5⟩
      | _ => cases h6
/-! ### the hook with properties -/
abbrev AlP : Type := He.AlX × List He.FnW × Bool
def obsP (n : Nat) (fa : List He.Fa) (fn : List He.DefD) (pr : List PropD) (ex : PySem.W.Frag → Bool) (g : Addr → Option Obj) : AlP :=
  (He.obsX n fa fn [] [] ex g, pr.map fun p => defAt (He.frT g (He.asD g n)) (gAt (He.frT g (He.asD g n)) p.cls p.f), pr.all fun p => p.ok (He.frT g (He.asD g n)))
def valP (fn : List He.DefD) (pr : List PropD) (w : World) : AlP := (He.valX fn [] w, pr.map fun p => p.d.val, true)
structure SaysP (fa : List He.Fa) (fn : List He.DefD) (pr : List PropD) (ex : PySem.W.Frag → Bool) (w : World) (h : Heap) (K : PySem.W.Frag) : Prop where
  x : He.SaysX fa fn [] [] ex w h K
  p : ∀ p ∈ pr, PropOf K (He.ga K p.cls) p.f (He.ma K (He.ga K p.cls) p.f) (gAt K p.cls p.f) ∧ ∃ fd, FunD K p.d.name p.d.qual p.d.params p.d.body p.d.scope [] [] (gAt K p.cls p.f) fd
theorem saysP_of {n : Nat} {fa : List He.Fa} {fn : List He.DefD} {pr : List PropD} {ex : PySem.W.Frag → Bool} {w : World} {h : Heap} (e : obsP n fa fn pr ex h.get? = valP fn pr w) : SaysP fa fn pr ex w h (He.frT h.get? (He.asD h.get? n)) := by
  have e1 := congrArg (fun z : AlP => z.1) e
  have e2 : (pr.map fun p => defAt (He.frT h.get? (He.asD h.get? n)) (gAt (He.frT h.get? (He.asD h.get? n)) p.cls p.f)) = pr.map fun p => p.d.val := congrArg (fun z : AlP => z.2.1) e
  have e3 : (pr.all fun p => p.ok (He.frT h.get? (He.asD h.get? n))) = true := congrArg (fun z : AlP => z.2.2) e
  exact ⟨He.saysX_of e1, fun p m => PropD.of (List.map_inj_left.mp e2 p m) (List.all_eq_true.mp e3 p m)⟩
def hookP (n : Nat) (fa : List He.Fa) (fn : List He.DefD) (pr : List PropD) (ex : PySem.W.Frag → Bool) : PySem.W.Hook where
  α := AlP
  obs := fun s => obsP n fa fn pr ex s.heap.get?
  val := fun w => valP fn pr w
  says := fun w h => ∃ K : PySem.W.Frag, K.In h ∧ SaysP fa fn pr ex w h K
  of := fun _ _ e => ⟨_, He.frT_in, saysP_of e⟩
  keeps := fun _ _ _ ⟨K, hK, c⟩ k => ⟨K, PySem.W.Frag.In.keeps hK k, ⟨⟨c.x.t, c.x.more, c.x.hd, c.x.out, fun p hp => k _ _ (c.x.empty p hp)⟩, c.p⟩⟩
theorem obsP_eq {n : Nat} {fa : List He.Fa} {fn : List He.DefD} {pr : List PropD} {ex : PySem.W.Frag → Bool} {g : Addr → Option Obj} {s : Shared} (h : ∀ a, g a = s.heap.get? a) : obsP n fa fn pr ex g = (hookP n fa fn pr ex).obs s := by
  have e : g = s.heap.get? := funext h
  subst e
  rfl
end SR

set_option Elab.async false
set_option linter.all false
set_option maxRecDepth 100000
set_option maxHeartbeats 4000000
/-! SUP2: raising an error of a class with one field; the head's facts of it. -/
namespace SR
open PySem PySem.Spec PyProof.Rows L2
/-- raise C(v), C a class with the field fld -/
def tOutF (C : Addr) (E : XK) (fld : Str) (v : V) : TS := fun _ _ H => ∀ d, H d = none → E (.ref C) (some d) (upd H d (.xd [(fld, v)]))
def tMkC (C : Addr) (fld : Str) (v : V) : L2.St → Hp → XK → Prop := fun _ H Q => ∀ d, H d = none → Q (.ref C) (some d) (upd H d (.xd [(fld, v)]))
/-- a class of errors with the field fld that may be made by its name x -/
structure ErrM (P : Program) (w : World) (K : PySem.W.Frag) (mg : Str → Option Value) (base : Heap) (x : Str) (C : Addr) (fld arg : Str) : Prop where
  ex : ∃ (fI : Addr) (fd : FuncData), OexC K C ∧ PySem.W.findIn K (.ref C) "__init__" = some (some (.ref fI)) ∧ PySem.W.typeIn K (.ref fI) = some (.type "function") ∧ FnOk P w K mg base CX0 1 fI fd ["self", arg] (spSup C fld) ∧ Binds K fd ["self", arg] [] ∧ mg x = some (.ref C)
theorem pmk_err {X : Cx} {x fld arg txt : Str} {C : Addr} {j k : Nat} {p p1 pos : Pos} (M : ErrM X.prog X.w X.K X.mg X.base x C fld arg) (hr : Room k X.A) (hk : 2 ≤ k) (hg : Gl X x) (hdb : (x == ("__debug__" : Str)) = false := by decide) :
    PMk X (.Call (.Name x p) [.Constant (.str txt) j p1] [] pos) (tMkC C fld (.str txt)) := by
  obtain ⟨fI, fd, T, iC, tI, F1, hb, hm⟩ := M.ex
  intro pins s σ H Q I h
  refine pmk_oex (CX := CX0) (k := 1) (sp := spSup C fld) (dvs := []) (ds := []) (ps := ["self", arg]) T iC tI F1 (hr.mono hk) hb .nil pass0 hg hm (pa_cons pe_str pa_nil) hdb rfl rfl pins s σ H Q I ?_
  refine ⟨by show 1 ≤ 1000; decide, fun a ha => ⟨a, .str txt, rfl, upd_same, fun dx hdx hne => ⟨rfl, dx, [(fld, .str txt)], upd_same, ?_, ?_, ?_⟩⟩⟩
  · rw [upd_ne hne, upd_same]
  · rw [upd_ne hne] at hdx
    exact hdx
  · rw [upd_ne hne] at hdx
    have e : upd (del (upd (upd (upd H a (exo a C none)) dx (exd dx [(fld, .str txt)])) a (exo a C (some dx))) a) dx (.xd [(fld, .str txt)]) = upd H dx (.xd [(fld, .str txt)]) := by
      funext b
      by_cases h1 : b = dx
      · rw [h1, upd_same, upd_same]
      · rw [upd_ne h1, upd_ne h1]
        by_cases h2 : b = a
        · rw [h2, del_same, ha]
        · rw [del_ne h2, upd_ne h2, upd_ne h1, upd_ne h2]
    rw [e]
    exact h dx hdx
/-! ### the head's facts -/
/-- the class's own object -/
def oexB (K : PySem.W.Frag) (C : Addr) : Bool := match K.lookup C with
  | some ⟨.type "type", _, .cls cd, sl⟩ => (match cd.mro, sl.toList with
    | .ref D :: bm, [_, _, _, _, some (.builtin n), _] => decide (D = C) && (decide (n = "ValueError.__new__") && (!cd.hasDel && (cd.hasDict && PySem.HandSPX.refsVE bm)))
    | _, _ => false)
  | _ => false
theorem oexB_ok {K : PySem.W.Frag} {C : Addr} (q : oexB K C = true) : ∃ nm qn N bs bm sn sub ab col dd k0 k1 k2 k3 k5, K.lookup C = some (excClassObj nm qn C N bs bm true sn sub ab col dd k0 k1 k2 k3 k5 "ValueError.__new__") ∧ PySem.HandSPX.refsVE bm = true := by
  unfold oexB at q
  split at q
  · rename_i dd cd sl ho
    split at q
    · rename_i C' bm k0 k1 k2 k3 n k5 hm hs
      simp only [Bool.and_eq_true, decide_eq_true_eq, Bool.not_eq_true'] at q
      obtain ⟨rfl, rfl, hdel, hdic, ht⟩ := q
      obtain ⟨nm, bs, mro, ns, qn, hd, sn, sb, ab, col, dl⟩ := cd
      dsimp only at hm hdel hdic
      subst hm hdel hdic
      have hsl : sl = #[k0, k1, k2, k3, some (.builtin "ValueError.__new__"), k5] := by
        obtain ⟨l⟩ := sl
        simp only at hs
        rw [hs]
      subst hsl
      exact ⟨nm, qn, ns, bs, bm, sn, sb, ab, col, dd, k0, k1, k2, k3, k5, ho, ht⟩
    · cases q
  · cases q
/-- an error class with one field: its name, the field, the parameter's name; its __init__; the file of the text -/
structure SupD where
  cls : Str
  fld : Str
  arg : Str
  params : Arguments
  body : List Stmt
  scope : Scope
  file : Str
abbrev SupW : Type := Option (Str × Str × Arguments × FuncBody × Scope × Addr × Addr)
def supAt (K : PySem.W.Frag) (f : Addr) : SupW := match K.lookup f with
  | some ⟨_, _, .func fd, _⟩ => some (fd.name, fd.qualname, fd.params, fd.body, fd.scope, fd.globals, fd.builtins)
  | _ => none
def SupD.f (K : PySem.W.Frag) (p : SupD) : Addr := He.ma K (He.ga K p.cls) "__init__"
def SupD.val (p : SupD) : SupW := some ("__init__", p.cls ++ ".__init__", p.params, .stmts p.body, p.scope, mainGlobals, builtinsNs)
def cellB (K : PySem.W.Frag) (C : Addr) (cl : List (Str × Addr)) (cd : Value) (file qual : Str) : Bool := match cl, cd with
  | [(n, cc)], .ref cda => decide (n = "__class__") && (PySem.W.codeIn K cd qual && ((match K.lookup cc with
      | some ⟨_, _, .cell (some (.ref D)), _⟩ => decide (D = C)
      | _ => false) && (match K.lookup cda with
      | some ⟨_, _, .fields vs, _⟩ => (match vs[2]? with
        | some (Value.str s _) => file == s
        | _ => false)
      | _ => false)))
  | _, _ => false
def SupD.ok1 (K : PySem.W.Frag) (p : SupD) (C f : Addr) : Bool :=
  oexB K C && (decide (PySem.W.findIn K (.ref C) "__setattr__" = some (some (.builtin "object.__setattr__"))) && (decide (PySem.W.subIn K (.ref C) (.type "BaseException") = some true) && (decide (PySem.W.typeIn K (.ref C) = some (.type "type")) &&
  (PySem.W.keepIn K (.ref C) && (decide (PySem.W.findIn K (.ref C) p.fld = some none) && (decide (PySem.W.ks_superIn K C C "__init__" = some (some (.builtin "ValueError.__init__"))) && (decide (PySem.W.subIn K (.ref C) (.type "ValueError") = some true) &&
  (decide (PySem.W.mroIn K C (.ref C) = some true) && (decide (PySem.W.nsIn K cStatics "thirdparty.any" = some none) && (decide (PySem.W.findIn K (.ref C) "__init__" = some (some (.ref f))) && (decide (PySem.W.typeIn K (.ref f) = some (.type "function")) && xfB K C)))))))))))
def SupD.ok2 (K : PySem.W.Frag) (p : SupD) (C f : Addr) : Bool := match K.lookup f with
  | some ⟨_, _, .func fd, _⟩ => (match fd.defaults with
    | .none => cellB K C fd.closure fd.code p.file (p.cls ++ ".__init__")
    | _ => false)
  | _ => false
/-- what the facts give -/
structure SupOf (K : PySem.W.Frag) (p : SupD) (C f : Addr) : Prop where
  xf : XfC K C
  no : PySem.W.findIn K (.ref C) p.fld = some none
  ex : OexC K C ∧ PySem.W.findIn K (.ref C) "__init__" = some (some (.ref f)) ∧ PySem.W.typeIn K (.ref f) = some (.type "function") ∧
    ∃ oc od osl kV doc pm an ct cc cda, K.lookup f = some ⟨oc, od, .func (PySem.W.ksFn "__init__" (p.cls ++ ".__init__") p.params p.body p.scope .none kV doc pm an (.ref cda) ct cc), osl⟩ ∧ PySem.W.codeIn K (.ref cda) (p.cls ++ ".__init__") = true ∧
      ∀ (P : Program), P.main.file = p.file → (P.main.scope.names.lookup ("super" : Str)).isSome = false → SupC P K C f cc cda p.scope p.fld
theorem SupD.of {K : PySem.W.Frag} {p : SupD} {C f : Addr} (e : supAt K f = p.val) (h1 : p.ok1 K C f = true) (h2 : p.ok2 K C f = true) : SupOf K p C f := by
  unfold SupD.ok1 at h1
  simp only [Bool.and_eq_true, decide_eq_true_eq] at h1
  obtain ⟨a1, a2, a3, a4, a5, a6, a7, a8, a9, a10, a11, a12, a13⟩ := h1
  have T : OexC K C := ⟨oexB_ok a1, a2, a3, a4, a5⟩
  refine ⟨xfB_ok a13, a6, T, a11, a12, ?_⟩
  unfold SupD.ok2 at h2
  unfold supAt at e
  cases q : K.lookup f with
  | none =>
    rw [q] at h2
    cases h2
  | some o =>
    obtain ⟨oc, od, dt, osl⟩ := o
    rw [q] at h2 e
    cases dt with
    | func fd =>
      obtain ⟨n1, n2, n3, n4, n5, n6, n7, n8, n9, n10, n11, n12, n13, n14, n15⟩ := fd
      have e2 : (some (n1, n2, n3, n4, n5, n6, n15) : SupW) = some (("__init__" : Str), p.cls ++ ".__init__", p.params, FuncBody.stmts p.body, p.scope, mainGlobals, builtinsNs) := e
      simp only [Option.some.injEq, Prod.mk.injEq] at e2
      obtain ⟨b1, b2, b3, b4, b5, b6, b8⟩ := e2
      subst b1 b2 b3 b4 b5 b6 b8
      cases n8 with
      | none =>
        have h3 : cellB K C n7 n13 p.file (p.cls ++ ".__init__") = true := h2
        unfold cellB at h3
        split at h3
        · rename_i n cc cda
          simp only [Bool.and_eq_true, decide_eq_true_eq] at h3
          obtain ⟨rfl, c1, c2, c3⟩ := h3
          refine ⟨oc, od, osl, n9, n10, n11, n12, n14, cc, cda, rfl, c1, fun P hf ht => ⟨T, a6, a7, a8, a9, a10, ?_, ?_, ht⟩⟩
          · split at c3
            · rename_i x1 x2 vs x4 hcda
              split at c3
              · rename_i s tf hvs
                exact ⟨_, _, vs, _, s, tf, hcda, hvs, by rw [hf]; exact c3⟩
              · cases c3
            · cases c3
          · split at c2
            · rename_i x1 x2 D x4 hcc
              have z : D = C := of_decide_eq_true c2
              subst z
              exact ⟨_, _, _, hcc⟩
            · cases c2
        · cases h3
      | _ => cases h2
    | _ => cases h2
/-- such a class may be made -/
theorem err_of {P : Program} {w : World} {K : PySem.W.Frag} {mg : Str → Option Value} {base : Heap} {p : SupD} {C f : Addr} {txt : Str} {jj : Nat} {p0 p1 p2 p3 p4 p5 q0 q1 q2 q3 : Pos} {fa : Arg} (S : SupOf K p C f) (hf : P.main.file = p.file) (ht : (P.main.scope.names.lookup ("super" : Str)).isSome = false)
    (hbody : p.body = supBody p.arg p.fld txt jj p0 p1 p2 p3 p4 p5 q0 q1 q2 q3) (he : SupE txt jj p0 p1 p2 p3 p4) (B : SupS p.scope p.arg) (hm : mg "super" = none) (hg : mg p.cls = some (.ref C)) (hp : (p.params.posonlyargs ++ p.params.args).head? = some fa) (hfa : fa.arg = "self")
    (hb : ∀ (kV doc pm : Value) (an : Option Addr) (cda cc : Addr) (ct : Value) (us : List Value), us.length = 2 → bindArgs (PySem.W.ksFn "__init__" (p.cls ++ ".__init__") p.params p.body p.scope .none kV doc pm an (.ref cda) ct cc) ⟨us, []⟩ = pure ((["self", p.arg] : List Str).zip us))
    (hdb : (p.arg == ("__debug__" : Str)) = false := by decide) (hdc : (p.arg == ("__classdict__" : Str)) = false := by decide) : ErrM P w K mg base p.cls C p.fld p.arg := by
  obtain ⟨cls, fld, arg, params, body, scope, file⟩ := p
  dsimp only at *
  obtain ⟨T, iC, tI, oc, od, osl, kV, doc, pm, an, ct, cc, cda, lk, hcd, hS⟩ := S.ex
  dsimp only at *
  subst hbody
  exact ⟨f, _, T, iC, tI, fn_sup he lk hcd B (hS P hf ht) hm hp hfa hdb hdc, .all (fun us hl => hb _ _ _ _ _ _ _ us hl), hg⟩
/-- an empty tuple of the written part -/
def emptyB (K : PySem.W.Frag) (a : Addr) : Bool := match K.lookup a with
  | some ⟨.type "tuple", none, .seq its _, _⟩ => its.isEmpty
  | _ => false
theorem emptyB_ok {K : PySem.W.Frag} {a : Addr} (h : emptyB K a = true) : BareK K a [] := by
  unfold emptyB at h
  split at h
  · rename_i its n sl hk
    have e : its = #[] := Array.isEmpty_iff.mp h
    subst e
    exact ⟨_, [], n, hk, rfl, rfl, rfl, Nat.zero_le _, .nil⟩
  · cases h
/-! ### the hook -/
abbrev AlS : Type := AlP × List SupW × Bool
def frS (n : Nat) (g : Addr → Option Obj) : PySem.W.Frag := He.frT g (cStatics :: He.asD g n)
def obsS (n : Nat) (fa : List He.Fa) (fn : List He.DefD) (pr : List PropD) (su : List SupD) (ex : PySem.W.Frag → Bool) (g : Addr → Option Obj) : AlS :=
  (((He.obsT fa fn [] (frS n g), ex (frS n g)), pr.map fun p => defAt (frS n g) (gAt (frS n g) p.cls p.f), pr.all fun p => p.ok (frS n g)),
   su.map fun p => supAt (frS n g) (p.f (frS n g)), su.all fun p => p.ok1 (frS n g) (He.ga (frS n g) p.cls) (p.f (frS n g)) && p.ok2 (frS n g) (He.ga (frS n g) p.cls) (p.f (frS n g)))
def valS (fn : List He.DefD) (pr : List PropD) (su : List SupD) (w : World) : AlS := (((He.valT fn [] w, true), pr.map fun p => p.d.val, true), su.map fun p => p.val, true)
structure SaysS (fa : List He.Fa) (fn : List He.DefD) (pr : List PropD) (su : List SupD) (ex : PySem.W.Frag → Bool) (w : World) (K : PySem.W.Frag) : Prop where
  t : He.SaysT fa fn [] w K
  more : ex K = true
  p : ∀ p ∈ pr, PropOf K (He.ga K p.cls) p.f (He.ma K (He.ga K p.cls) p.f) (gAt K p.cls p.f) ∧ ∃ fd, FunD K p.d.name p.d.qual p.d.params p.d.body p.d.scope [] [] (gAt K p.cls p.f) fd
  s : ∀ p ∈ su, SupOf K p (He.ga K p.cls) (p.f K)
theorem saysS_of {n : Nat} {fa : List He.Fa} {fn : List He.DefD} {pr : List PropD} {su : List SupD} {ex : PySem.W.Frag → Bool} {w : World} {h : Heap} (e : obsS n fa fn pr su ex h.get? = valS fn pr su w) : SaysS fa fn pr su ex w (frS n h.get?) := by
  unfold obsS at e
  generalize frS n h.get? = K at e ⊢
  have e1 : He.obsT fa fn [] K = He.valT fn [] w := congrArg (fun z : AlS => z.1.1.1) e
  have e2 : ex K = true := congrArg (fun z : AlS => z.1.1.2) e
  have e3 : (pr.map fun p => defAt K (gAt K p.cls p.f)) = pr.map fun p => p.d.val := congrArg (fun z : AlS => z.1.2.1) e
  have e4 : (pr.all fun p => p.ok K) = true := congrArg (fun z : AlS => z.1.2.2) e
  have e5 : (su.map fun p => supAt K (p.f K)) = su.map fun p => p.val := congrArg (fun z : AlS => z.2.1) e
  have e6 : (su.all fun p => p.ok1 K (He.ga K p.cls) (p.f K) && p.ok2 K (He.ga K p.cls) (p.f K)) = true := congrArg (fun z : AlS => z.2.2) e
  refine ⟨e1, e2, fun p m => PropD.of (List.map_inj_left.mp e3 p m) (List.all_eq_true.mp e4 p m), fun p m => ?_⟩
  have z := List.all_eq_true.mp e6 p m
  rw [Bool.and_eq_true] at z
  exact SupD.of (List.map_inj_left.mp e5 p m) z.1 z.2
def hookS (n : Nat) (fa : List He.Fa) (fn : List He.DefD) (pr : List PropD) (su : List SupD) (ex : PySem.W.Frag → Bool) : PySem.W.Hook where
  α := AlS
  obs := fun s => obsS n fa fn pr su ex s.heap.get?
  val := fun w => valS fn pr su w
  says := fun w h => ∃ K : PySem.W.Frag, K.In h ∧ SaysS fa fn pr su ex w K
  of := fun _ _ e => ⟨_, He.frT_in, saysS_of e⟩
  keeps := fun _ _ _ ⟨K, hK, c⟩ k => ⟨K, PySem.W.Frag.In.keeps hK k, c⟩
theorem obsS_eq {n : Nat} {fa : List He.Fa} {fn : List He.DefD} {pr : List PropD} {su : List SupD} {ex : PySem.W.Frag → Bool} {g : Addr → Option Obj} {s : Shared} (h : ∀ a, g a = s.heap.get? a) : obsS n fa fn pr su ex g = (hookS n fa fn pr su ex).obs s := by
  have e : g = s.heap.get? := funext h
  subst e
  rfl
end SR

set_option Elab.async false
set_option linter.all false
set_option maxRecDepth 100000
set_option maxHeartbeats 4000000
/-! EXA: an error that is caught and kept under a name, its object tracked from then on. -/
namespace SR
open PySem PySem.Spec PyProof.Rows L2
/-- an error of the class cls that was caught, at a, its dict at d -/
def CauO (cls : Value) (d : Option Addr) (a : Addr) : HO := .ext fun h => ∃ (oe : Obj) (vs : Array Value), h.get? a = some oe ∧ Zc cls d oe ∧ oe.data = .fields vs
theorem cauO_ok {P : Program} {w : World} {H : Hp} {h : Heap} {a : Addr} {cls : Value} {d : Option Addr} {oe : Obj} {vs : Array Value} (e : h.get? a = some oe) (z : Zc cls d oe) (dd : oe.data = .fields vs) : ObjOk P w H h a (CauO cls d a) :=
  ⟨⟨oe, vs, e, z, dd⟩, ⟨oe, e⟩, fun _ _ ⟨oe1, vs1, e1, z1, d1⟩ k => ⟨oe1, vs1, k _ e1, z1, d1⟩⟩
section
variable {X : Cx} {pins : List (Addr × Obj)} {σ : L2.St} {H : Hp} {s : Shared}
theorem inv_track {a : Addr} {oe : Obj} {o : HO} (I : Inv (keepX X ((a, oe) :: (X.pn ++ pins))) [] σ H s) (ok : X.Ok) (n0 : X.s_0.heap.get? a = none) (ne : ∀ p ∈ X.pn ++ pins, p.1 ≠ a) (new : ObjOk X.prog X.w (upd H a o) s.heap a o) :
    Inv X pins σ (upd H a o) s := by
  obtain ⟨h1, hn, h3, h4, h5⟩ := I.pin (a, oe) (List.mem_append.mpr (.inl List.mem_cons_self))
  refine ⟨ok, I.os, I.bare, ⟨I.base.keep, I.base.slot, fun b ob q n hx => ?_, I.base.there, fun b xs q => ?_, fun b ob u q => ?_, fun b ps q => ?_⟩, I.loc, I.cell, ?_, fun x c hx => ?_, fun p hp => ?_, HOk.laidN I.hok (fun _ _ e => e) hn new, I.len⟩
  · rw [upd_ne (fun z => by rw [z] at q; exact nomatch (q.symm.trans n0))]
    exact I.base.free b ob q n hx
  · have := I.base.tups b xs q
    rw [upd_ne (ne_of_none this hn)]
    exact this
  · have := I.base.frzs b ob u q
    rw [upd_ne (ne_of_none this hn)]
    exact this
  · obtain ⟨more, this⟩ := I.base.tbls b ps q
    refine ⟨more, ?_⟩
    rw [upd_ne (ne_of_none this hn)]
    exact this
  · rw [upd_ne (fun z => h3 z.symm)]
    exact I.free
  · obtain ⟨v, hv⟩ := I.cell x c hx
    rw [upd_ne (fun z => ?_)]
    · exact I.freeC x c hx
    · obtain ⟨ob, q, dd⟩ := hv
      rw [z] at q
      cases q.symm.trans h1
      exact h5 _ dd
  · obtain ⟨p1, p2, p3, p4, p5⟩ := I.pin p (List.mem_append.mpr (.inl (List.mem_cons_of_mem _ hp)))
    exact ⟨p1, (upd_ne (ne p hp)).trans p2, p3, p4, p5⟩
end
/-- what is wished of an error of the body: i the clause's own name, j the name that keeps it -/
def wKeepH (K : PySem.W.Frag) (c : Value) (i j : Nat) (Wout : WX) (D : Ends) : WX := fun cls d σ H =>
  ∃ b, PySem.W.exmOne K cls c = some b ∧ (b = true → ∀ a, H a = none → D.nx (((σ.set i (some (.ref a))).set j (some (.ref a))).set i none) (upd H a (CauO cls d a))) ∧ (b = false → Wout cls d σ H)
section
variable {X : Cx} {x n y : Str} {c : Value} {i j : Nat} {body : List Stmt} {np n2 yp ap pos pos' : Pos} {tb : WX → TS} {Wout : WX}
theorem ps_try_keepH (hs : X.stack = X.env :: X.outer) (hf : X.env.frame = some X.env.locals) (hx : X.ex = []) (hN : X.N.Nodup) (hi : X.N[i]? = some n) (hln : X.env.kindOf n = some .local) (hj : X.N[j]? = some y) (hly : X.env.scope.names.lookup y = some .local)
    (hc : Names X x c) (tk : Takes X Wout)
    (hb : ∀ (W : WX) (pn : List (Addr × Obj)) (xe : Value → Shared → Prop), Takes (X.tr pn xe) W → PassesOwn (model X.prog X.w) X.A X.env xe → PSs (X.tr pn xe) body (tb W))
    (hsw : ∀ (a : Addr) (pn : List (Addr × Obj)), swapsWith (.Name n n2) (some (.Name y yp)) ap.line (X.suite a pn).env = pure false)
    (hd1 : (n == ("__debug__" : Str)) = false := by decide) (hd2 : (n == ("__classdict__" : Str)) = false := by decide) :
    PS X (.Try body [.ExceptHandler (some (.Name x np)) (some n) [.Assign [.Name y yp] (.Name n n2) ap] pos'] [] [] pos) (fun D σ H => tb (wKeepH X.K c i j Wout D) D σ H) := by
  refine ⟨fun pins s σ H D I h => ?_⟩
  have ok := I.ok
  have hfr : X.A.frames = some (X.env :: X.outer) := ok.frames.trans (by rw [hs])
  have hloc : Loc X.env.scope n := .inl hln
  let G : Flow → Shared → Prop := fun f s1 => SP X pins D f s1
  show wpAny (model X.prog X.w) X.A _ G X.xe s
  refine wpAny_Try_except ?_
  refine wpAny_mono ((hb (wKeepH X.K c i j Wout D) (X.pn ++ pins) (fun e s₁ => wpAny (model X.prog X.w) X.A (noteFrame e X.env) (fun _ s₂ => wpAny (model X.prog X.w) X.A (setFlight e none) (fun _ s₃ =>
    wpAny (model X.prog X.w) X.A (handleBy e X.env [.ExceptHandler (some (.Name x np)) (some n) [.Assign [.Name y yp] (.Name n n2) ap] pos']) G X.xe s₃) X.xe s₂) X.xe s₁) (fun w0 s' xx => ?_) PassesOwn.looking).run [] s σ H D (I.toTry _) h) (fun f s1 hsp => ?_) (fun _ _ he => he)
  · obtain ⟨a, B, sI, pins', σ', H', cls, d, rfl, J', nb, up, sky, na, os, ag, b, hb1, hyes, hno⟩ := xx
    have J : Inv X pins σ' H' sI := J'.ofTry ok
    have sky' : Sky B (X.env :: X.outer) a (Zc cls d) X.env.locals s'.heap := by rw [← hs]; exact sky
    show wpAny (model X.prog X.w) X.A (noteFrame (.ref a) X.env) _ _ _
    refine Sky.land Zc.steady hfr hf sky' fun h3 fl3 up3 => ?_
    have J3 : Inv X pins σ' H' { s' with heap := h3 } := J.landed nb fl3.1 (up.trans up3) os ag
    obtain ⟨oe3, vs3, he3, hz3, hd3⟩ := fl3.there
    have nfr : a ∉ frs (X.env :: X.outer) := fun hm => by
      obtain ⟨_, o', e', hnf⟩ := fl3.2.2.1.mem hm
      cases he3.symm.trans e'
      exact hnf _ hd3
    have nI : sI.heap.get? a = none := by
      cases e : sI.heap.get? a with
      | none => rfl
      | some o =>
        have := nb a o e (by rw [hs]; exact nfr)
        rw [fl3.2.1] at this
        cases this
    have n0 : X.s_0.heap.get? a = none := by
      cases e : X.s_0.heap.get? a with
      | none => rfl
      | some o =>
        obtain ⟨o', q⟩ := J.base.there a o e (by rw [hx]; exact List.not_mem_nil)
        rw [nI] at q
        cases q
    have ne : ∀ p ∈ X.pn ++ pins, p.1 ≠ a := fun p hp z => by
      have := (J.pin p hp).1
      rw [z, nI] at this
      cases this
    have nL : a ≠ X.env.locals := fun z => nfr (List.mem_filterMap.mpr ⟨X.env, List.mem_cons_self, hf.trans (by rw [z])⟩)
    have nF : a ∉ X.fs := fun hm => by
      obtain ⟨e, he, q⟩ := List.mem_filterMap.mp hm
      exact nfr (List.mem_filterMap.mpr ⟨e, List.mem_cons_of_mem _ he, q⟩)
    have S3 := J3.suite he3 hd3 na nL nF
    refine wpAny_handleBy_cons (codeAny_handlers_test ?_) (by intro q; cases q)
    have LT : PySem.W.Looks (model X.prog X.w) h3 (typeOf (.ref a)) cls := fun A Q E s k q => wpAny_typeOf_ref (k _ _ he3) (by rw [hz3.1]; exact q)
    have LM := PySem.W.exm_one (M := model X.prog X.w) (J3.kIn) LT hb1
    have test : ∀ {Q : Value → Shared → Prop} {E : Value → Shared → Prop}, Q c { s' with heap := h3 } → wpAny (model X.prog X.w) (X.A.mark (some (.ref a))) (eval (.Name x np) X.env) Q E { s' with heap := h3 } := fun {Q E} q => by
      obtain ⟨hg, hdbg, hm | ⟨hm, hvv, hnn⟩⟩ := hc
      · exact ld_glob (X := X.suite a ((a, oe3) :: (X.pn ++ pins))) S3 hg hm q hdbg
      · exact ld_blt (X := X.suite a ((a, oe3) :: (X.pn ++ pins))) S3 hg hm hvv q hnn hdbg
    refine test (LM.here ?_)
    cases b with
    | true =>
      refine codeAny_handlers_suite_as ?_
      refine HandSPX.lands_againZ fl3 fun h4 fl4 up4 => ?_
      have J4 : Inv X pins σ' H' { s' with heap := h4 } := J.landed nb fl4.1 ((up.trans up3).trans up4) os ag
      obtain ⟨oe4, vs4, he4, hz4, hd4⟩ := fl4.there
      have S4 := J4.suite he4 hd4 na nL nF
      refine store_ok (X := X.suite a ((a, oe4) :: (X.pn ++ pins))) (v := .ref a) S4 hN hi hloc rfl (fun s5 S5 => ?_) (.inr hln)
      have hil : i < (σ'.set i (some (V.ref a))).length := by
        rw [S5.len]
        exact (List.getElem?_eq_some_iff.mp hi).1
      have D0 : PSs (X.suite a ((a, oe4) :: (X.pn ++ pins))) [.Assign [.Name y yp] (.Name n n2) ap] (tAsg (tVar i) (gName j)) :=
        pss_one (ps_set (i := j) hN hj (.inl hly) (pe_var hi (.inl hln) hd1 hd2) (hsw _ _) (.inr hly))
      refine wpAny_mono (D0.run [] s5 _ H' { nx := fun σ6 H6 => D.nx (σ6.set i none) (upd H6 a (CauO cls d a)), rt := fun _ _ => False, bk := fun _ _ => False, ct := fun _ _ => False } S5 ?_) (fun f s6 hsp => ?_) (fun _ _ z => False.elim z)
      · refine ⟨.ref a, ?_, hyes rfl a na⟩
        rw [List.getElem?_set_self (by simpa using hil)]
      cases f with
      | next =>
        obtain ⟨σ6, H6, S6, q6⟩ := hsp
        exact gone_ok (X := keepX X ((a, oe4) :: (X.pn ++ pins))) (inv_keep S6 ok) hN hi hln fun s7 J7 => by
          have p7 := (J7.pin (a, oe4) (List.mem_append.mpr (.inl List.mem_cons_self))).1
          exact ⟨_, _, inv_track J7 ok n0 ne (cauO_ok p7 hz4 hd4), q6⟩
      | brk => exact hsp.elim fun _ z => z.elim fun _ z => z.2.elim
      | cont => exact hsp.elim fun _ z => z.elim fun _ z => z.2.elim
      | ret w => exact hsp.elim fun _ z => z.elim fun _ z => z.elim fun _ z => z.2.2.elim
    | false =>
      show wpAny _ X.A (handleBy (.ref a) X.env []) _ _ _
      refine wpAny_handleBy_nil ?_
      obtain ⟨k1, k2, k3, oe, vs, T, oT, ts', he, hz, hd, h1, hr⟩ := id fl3
      unfold PySem.passOn
      refine wpAny_bind (wpAny_field he hd h1 ?_)
      rw [if_neg (show ¬ ((Value.ref T == Value.none) = true) from by simp)]
      have fin : wpAny (model X.prog X.w) X.A (setFlight (.ref a) X.env.frame) (fun _ s4 => wpAny (model X.prog X.w) X.A (throw (.ref a) : Sem Flow) G X.xe s4) X.xe { s' with heap := h3 } := by
        rw [hf]
        refine HandSPX.setFlight_upZ fl3 fun h4 hh4 up4 => wpAny_throw (tk _ _ ?_)
        exact ⟨a, B, sI, pins, σ', H', cls, d, rfl, J, nb, (up.trans up3).trans up4, .inr (.inr (by rw [hs]; exact hh4)), na, os, ag, hno rfl⟩
      first
        | exact wpAny_bind (wpAny_pure (wpAny_bind fin))
        | exact wpAny_bind fin
  · cases f with
    | next =>
      obtain ⟨σ', H', J', q⟩ := hsp
      exact wpAny_execs_nil ⟨σ', H', J'.ofTry ok, q⟩
    | brk =>
      obtain ⟨σ', H', J', q⟩ := hsp
      exact ⟨σ', H', J'.ofTry ok, q⟩
    | cont =>
      obtain ⟨σ', H', J', q⟩ := hsp
      exact ⟨σ', H', J'.ofTry ok, q⟩
    | ret u =>
      obtain ⟨v, σ', H', J', r, q⟩ := hsp
      exact ⟨v, σ', H', J'.ofTry ok, r, q⟩
/-- isinstance(caught, C), where the error's object is tracked -/
def rIsH (K : PySem.W.Frag) : List V → Hp → VK → Prop := fun xs H Q => ∃ (a D : Addr) (c : V) (cv : Value) (b : Bool), H a = some (CauO (.ref D) none a) ∧ ExcC K D ∧ xs = [.ref a, c] ∧ (∀ u, RelV c u → u = cv) ∧ PySem.W.kitOne K (.ref D) cv = some b ∧ Q (.bl b) H
theorem cr_isH : CallR X (.builtin "isinstance") (rIsH X.K) := by
  intro pins s σ H xs us Q I r h
  obtain ⟨a, D, c, cv, b, ha, C, rfl, hcv, e, q⟩ := h
  obtain ⟨u1, u2, rfl, r1, r2⟩ := vals2 r
  cases (show u1 = Value.ref a from r1)
  cases hcv _ r2
  have x : ObjOk X.prog X.w H s.heap a (CauO (.ref D) none a) := I.hok a _ ha
  obtain ⟨⟨oe, vs, here, hz, hv⟩, _⟩ := x
  have J : PySem.W.InstAt s.heap a oe D none := by
    obtain ⟨h1, h2⟩ := hz
    obtain ⟨oc, od, oda, osl⟩ := oe
    cases h1; cases h2; cases hv
    exact ⟨here, rfl, rfl, trivial⟩
  exact PySem.W.kia_one (PySem.W.handS_kitx_exc C.hg C.hk C.hs C.hd C.ha C.hn C.ht C.hm) I.kIn J e (fun z => nomatch z) fun tk => ⟨.bl b, H, I.tok tk, rfl, q⟩
end
end SR

set_option Elab.async false
set_option linter.all false
set_option maxRecDepth 100000
set_option maxHeartbeats 4000000
/-! EXB: an error with a field that was caught and kept: isinstance of it, its field. -/
namespace SR
open PySem PySem.Spec PyProof.Rows L2
section
open PySem.W
variable {prog : Program} {w : World} {A : Around} {E : Value → Shared → Prop} {st : Shared} {K : Frag} {e D : Addr} {oe oz : Obj}
/-- type(e), by the attribute, of an error that has its dict -/
theorem cls_excD {Q : Option Value → Shared → Prop} (Z : ExcC K D) (X : K.In st.heap) (I : InstAt st.heap e oe D (some oz)) (h : Q (some (.ref D)) { st with toks := st.toks + 1 }) : wpAny (model prog w) A (getAttr? (.ref e) "__class__") Q E st := by
  have hcl : ∃ cd, clsIn K D = some cd := let ⟨cd, hc, _⟩ := any_some Z.hd; ⟨cd, hc⟩
  obtain ⟨cd, hcl⟩ := hcl
  have fnd : findObj K D (some oz) "__class__" = some (.bind (.builtin "getset_descriptor.__get__") (.builtin "object.__class__")) := by
    unfold findObj
    rw [hcl, Option.bind_some, Z.ha, Option.bind_some]
    simp [Z.hn, Z.ht]
  obtain ⟨hq, g, d, t, os⟩ := st
  have T0 := I.type (M := model prog w)
  have T1 := looks_findIn (M := model prog w) X Z.hg
  have T2 := looks_findIn (M := model prog w) X Z.hk
  have T3 := looks_find (M := model prog w) X I fnd
  have isx : Looks (model prog w) hq (isInstance (.ref e) (.type "BaseException")) true := T0.andThen (looks_subIn X Z.hs)
  have y2 : (Value.builtin "BaseException.__getattribute__" == Value.builtin "object.__getattribute__") = false := by decide +kernel
  have y1 : (onTheHeap (Value.ref D) && Value.builtin "BaseException.__getattribute__" == Value.builtin "object.__getattribute__") = false := by
    rw [y2]
    rfl
  unfold getAttr?
  unfold getAttrBy?
  unfold getAttrBy
  refine wpAny_bind (wpAny_mkText (wpAny_bind (wpAny_attempt (wpAny_holding (wpAny_bind (T0.at (wpAny_bind (T1.at ?_))))))))
  show wpAny _ _ (if (onTheHeap (Value.ref D) && Value.builtin "BaseException.__getattribute__" == Value.builtin "object.__getattribute__") = true then _ else _) _ _ (⟨hq, g, d, _, os⟩ : Shared)
  rw [y1, if_neg (by decide)]
  unfold getAttrByItsOwn
  unfold hookBefore
  refine wpAny_bind ?_
  rw [if_pos (show onTheHeap (Value.ref D) = true from rfl)]
  refine T2.at (wpAny_bind (wpAny_attempt (wpAny_holding ?_)))
  unfold callGetattribute
  rw [show (false && onTheHeap (Value.builtin "BaseException.__getattribute__")) = false from rfl, if_neg (by decide)]
  unfold boundAndCalled
  rw [PySem.F.excAttr_ValueError.ga.bind (.ref e)]
  refine wpAny_bind (wpAny_pure ?_)
  show wpAny _ _ (call (.builtin "BaseException.__getattribute__") [.ref e, .str "__class__" t]) _ _ (⟨hq, g, d, _, os⟩ : Shared)
  refine wpAny_call (codeAny_call_builtin PySem.F.excAttr_ValueError.ga.plain PySem.F.entry_bexc_ga ?_)
  refine @check_slot (model prog w) _ _ ⟨hq, g, d, t + 1, os⟩ "BaseException.__getattribute__" "BaseException" "__getattribute__" (.ref e) [.str "__class__" t] [] _ (by decide +kernel) (by decide +kernel) isx (PySem.F.args_bexc_ga (.ref e) (.str "__class__" t)) ?_
  unfold Builtin.«object.__getattribute__»
  refine wpAny_bind (wpAny_of_eq (a := ((Value.ref e : Value), [Value.str "__class__" t])) (by first | rfl | (simp only [slotArgs]; rfl)) ?_)
  refine wpAny_bind (wpAny_pure (wpAny_bind (T0.at (wpAny_bind (T3.at ?_)))))
  show wpAny _ _ (holding [Value.builtin "object.__class__"] (call (.builtin "getset_descriptor.__get__") [.builtin "object.__class__", .ref e, .ref D]) >>= ret) _ _ (⟨hq, g, d, _, os⟩ : Shared)
  refine wpAny_bind (wpAny_holding (wpAny_call (class_get (s := ⟨hq, g, d, t + 1, os⟩) (ox := oe) (od := some oz) X I Z.hm ?_)))
  refine wpAny_pure ?_
  show wpAny _ _ (handedOut (.ref D)) _ _ (⟨hq, g, d, _, os⟩ : Shared)
  rw [handedOut_of (v := .ref D) rfl]
  first
    | exact wpAny_pure (wpAny_pure h)
    | exact wpAny_pure h
    | exact wpAny_pure (wpAny_bind (wpAny_pure (wpAny_pure h)))
theorem kit_excD (Z : ExcC K D) : KitX K (.ref e) (.ref D) (fun h => InstAt h e oe D (some oz)) := by
  have Z0 := handS_kitx_exc (x := e) (ox := oe) Z.hg Z.hk Z.hs Z.hd Z.ha Z.hn Z.ht Z.hm
  exact {
    ty := fun _ _ _ I => I.type
    it := fun M h X _ => by
      obtain ⟨cd, hc, _⟩ := any_some Z.hd
      unfold clsIn at hc
      split at hc
      · rename_i c' d' cd' sl' ho
        intro A' Q' E' s' k q
        unfold isType
        unfold loadHead
        exact wpAny_bind (wpAny_loadPart (k _ _ (X _ _ ho)) (wpAny_pure q))
      · cases hc
    ne := Z0.ne
    ca := fun X I k => cls_excD Z X I k }
end
section
variable {X : Cx}
/-- isinstance(caught, C), where the error's object is tracked and has a dict -/
def rIsHD (K : PySem.W.Frag) : List V → Hp → VK → Prop := fun xs H Q => ∃ (a D d : Addr) (fs : List (Str × V)) (c : V) (cv : Value) (b : Bool), H a = some (CauO (.ref D) (some d) a) ∧ H d = some (.xd fs) ∧ ExcC K D ∧ xs = [.ref a, c] ∧ (∀ u, RelV c u → u = cv) ∧ PySem.W.kitOne K (.ref D) cv = some b ∧ Q (.bl b) H
theorem cauD_at {pins : List (Addr × Obj)} {σ : L2.St} {H : Hp} {s : Shared} {a D d : Addr} {fs : List (Str × V)} (I : Inv X pins σ H s) (ha : H a = some (CauO (.ref D) (some d) a)) (hd : H d = some (.xd fs)) :
    ∃ (oe od : Obj) (mA : Str → Option Value), PySem.W.InstAt s.heap a oe D (some od) ∧ s.heap.Ns1 d mA ∧ (∀ f, RelO (fs.lookup f) (mA f)) ∧ (∀ n, PySem.W.lookIn n od = some (mA n)) := by
  have x : ObjOk X.prog X.w H s.heap a (CauO (.ref D) (some d) a) := I.hok a _ ha
  obtain ⟨⟨oe, vs, here, hz, hv⟩, _⟩ := x
  have y : ObjOk X.prog X.w H s.heap d (.xd fs) := I.hok d _ hd
  obtain ⟨mA, hns, hr⟩ := y
  obtain ⟨od, ho, hl⟩ := lookIn_ns hns
  obtain ⟨h1, h2⟩ := hz
  refine ⟨oe, od, mA, ⟨here, h1, by unfold PySem.W.notCls; rw [hv] <;> rfl, by rw [h2]; exact ho⟩, hns, hr, ?_⟩
  exact fun n => by first | exact hl n | exact hl
theorem cr_isHD : CallR X (.builtin "isinstance") (rIsHD X.K) := by
  intro pins s σ H xs us Q I r h
  obtain ⟨a, D, d, fs, c, cv, b, ha, hd, C, rfl, hcv, e, q⟩ := h
  obtain ⟨u1, u2, rfl, r1, r2⟩ := vals2 r
  cases (show u1 = Value.ref a from r1)
  cases hcv _ r2
  obtain ⟨oe, od, mA, J, _⟩ := cauD_at I ha hd
  exact PySem.W.kia_one (kit_excD C) I.kIn J e (fun z => nomatch z) fun tk => ⟨.bl b, H, I.tok tk, rfl, q⟩
/-- caught.f -/
def tXfH (K : PySem.W.Frag) (f : Str) (te : TE) : TE := fun σ H Q => te σ H fun x H1 => ∃ (a C d : Addr) (fs : List (Str × V)) (v : V), x = .ref a ∧ XfC K C ∧ PySem.W.findIn K (.ref C) f = some none ∧ H1 a = some (CauO (.ref C) (some d) a) ∧ H1 d = some (.xd fs) ∧ fs.lookup f = some v ∧ Q v H1
theorem pe_xfH {e : Expr} {te : TE} {pos : Pos} {n : Str} (he : PE X e te) (hb : attributeBase e n X.env (eval e X.env) = eval e X.env := by rfl) : PE X (.Attribute e n pos) (tXfH X.K n te) := by
  refine ⟨fun pins s σ H Q I h => ?_⟩
  refine attr_of hb (thn (he.run pins s σ H _ I h) fun u s1 hh => ?_)
  obtain ⟨x, H1, I1, rx, a, C, d, fs, v, rfl, T, hno, ha, hd, l, q⟩ := hh
  obtain rfl : u = Value.ref a := rx
  obtain ⟨oe, od, mA, J, hns, hr, hl⟩ := cauD_at I1 ha hd
  obtain ⟨u, hu, ru⟩ := RelO.some_of (v := v) (o := mA n) (by rw [← l]; exact hr n)
  exact HandSPX.exc_get I1.kIn J T.ga T.gg T.exC (PySem.W.findObj_own T.hdC hno rfl (by rw [hl n, hu])) (handed_of ru) ⟨v, H1, I1.tok _, ru, q⟩
end
end SR

set_option Elab.async false
set_option linter.all false
set_option maxRecDepth 100000
set_option maxHeartbeats 1000000
/-! K13A: a cut of a plain row, by runs. -/
namespace SR
open PySem PySem.Spec PyProof.Rows L2
/-- the boxes that stay and the offsets, of ascending places; g pairs are gone on their left -/
def cutL : List Int → Int → List Int × List Int
  | [], _ => ([], [])
  | x :: xs, g => if xs.head? = some (x + 1) then ((x - 2 * g) :: (cutL xs g).1, (cutL xs g).2) else ((cutL xs (g + 1)).1, (x - 2 * g) :: (cutL xs (g + 1)).2)
def seg (st : Int) (n : Nat) : List Int := (List.range n).map fun p => st + ((p : Nat) : Int)
theorem seg_succ (st : Int) (n : Nat) : seg st (n + 1) = seg st n ++ [st + (n : Int)] := by
  unfold seg
  rw [List.range_succ, List.map_append]
  rfl
theorem seg_len (st : Int) (n : Nat) : (seg st n).length = n := by
  unfold seg
  rw [List.length_map, List.length_range]
def runStep (s : List Int × List Int) (r : Int × Int) : List Int × List Int :=
  (s.1 ++ seg (r.1 - 2 * (s.2.length : Int)) (r.2 - 1).toNat, s.2 ++ [r.1 - 2 * (s.2.length : Int) + r.2 - 1])
theorem blkStep_snoc (bs : List (Int × Int)) (f n x : Int) : blkStep (bs ++ [(f, n)]) x = if f + n = x then bs ++ [(f, n + 1)] else bs ++ [(f, n)] ++ [(x, 1)] := by
  unfold blkStep
  rw [List.getLast?_concat]
  show (if f + n = x then (bs ++ [(f, n)]).set ((bs ++ [(f, n)]).length - 1) (f, n + 1) else _) = _
  split
  · rw [List.length_append, List.length_singleton, Nat.add_sub_cancel, List.set_append_right _ _ (Nat.le_refl _), Nat.sub_self]
    rfl
  · rfl
theorem run_cut : ∀ (xs : List Int) (bs : List (Int × Int)) (f n : Int), 1 ≤ n → ∀ s : List Int × List Int, s = bs.foldl runStep ([], []) →
    (xs.foldl blkStep (bs ++ [(f, n)])).foldl runStep ([], []) = (s.1 ++ seg (f - 2 * (s.2.length : Int)) (n - 1).toNat ++ (cutL ((f + n - 1) :: xs) (s.2.length : Int)).1, s.2 ++ (cutL ((f + n - 1) :: xs) (s.2.length : Int)).2)
  | [], bs, f, n, hn, s, hs => by
    show (bs ++ [(f, n)]).foldl runStep ([], []) = _
    rw [List.foldl_append, ← hs]
    show runStep s (f, n) = _
    unfold runStep
    have c : cutL [f + n - 1] (s.2.length : Int) = ([], [f + n - 1 - 2 * (s.2.length : Int)]) := rfl
    rw [c]
    show (s.1 ++ seg (f - 2 * (s.2.length : Int)) (n - 1).toNat, s.2 ++ [f - 2 * (s.2.length : Int) + n - 1]) = (s.1 ++ seg (f - 2 * (s.2.length : Int)) (n - 1).toNat ++ [], s.2 ++ [f + n - 1 - 2 * (s.2.length : Int)])
    rw [List.append_nil]
    have e : f - 2 * (s.2.length : Int) + n - 1 = f + n - 1 - 2 * (s.2.length : Int) := by omega
    rw [e]
  | x :: xs, bs, f, n, hn, s, hs => by
    rw [List.foldl_cons, blkStep_snoc]
    by_cases e : f + n = x
    · rw [if_pos e, run_cut xs bs f (n + 1) (by omega) s hs]
      have c : cutL ((f + n - 1) :: x :: xs) (s.2.length : Int) = ((f + n - 1 - 2 * (s.2.length : Int)) :: (cutL (x :: xs) (s.2.length : Int)).1, (cutL (x :: xs) (s.2.length : Int)).2) := by
        show (if (x :: xs).head? = some (f + n - 1 + 1) then _ else _) = _
        rw [if_pos (by show some x = _; rw [← e]; congr 1; omega)]
      have e1 : f + (n + 1) - 1 = x := by omega
      have e2 : (n + 1 - 1).toNat = (n - 1).toNat + 1 := by omega
      have e3 : f - 2 * (s.2.length : Int) + ((n - 1).toNat : Int) = f + n - 1 - 2 * (s.2.length : Int) := by omega
      rw [c, e1, e2, seg_succ, e3]
      simp only [List.append_assoc, List.singleton_append]
    · rw [if_neg e, run_cut xs (bs ++ [(f, n)]) x 1 (by omega) (runStep s (f, n)) (by rw [List.foldl_append, ← hs]; rfl)]
      have c : cutL ((f + n - 1) :: x :: xs) (s.2.length : Int) = ((cutL (x :: xs) ((s.2.length : Int) + 1)).1, (f + n - 1 - 2 * (s.2.length : Int)) :: (cutL (x :: xs) ((s.2.length : Int) + 1)).2) := by
        show (if (x :: xs).head? = some (f + n - 1 + 1) then _ else _) = _
        rw [if_neg (by intro z; have := Option.some.inj z; omega)]
      have l : ((runStep s (f, n)).2.length : Int) = (s.2.length : Int) + 1 := by
        unfold runStep
        show ((s.2 ++ [_]).length : Int) = _
        rw [List.length_append]
        rfl
      have e1 : x + 1 - 1 = x := by omega
      have e4 : f - 2 * (s.2.length : Int) + n - 1 = f + n - 1 - 2 * (s.2.length : Int) := by omega
      rw [c, l, e1]
      show ((runStep s (f, n)).1 ++ seg _ 0 ++ _, (runStep s (f, n)).2 ++ _) = _
      unfold runStep
      show (s.1 ++ seg (f - 2 * (s.2.length : Int)) (n - 1).toNat ++ [] ++ _, s.2 ++ [f - 2 * (s.2.length : Int) + n - 1] ++ _) = _
      rw [e4, List.append_nil]
      simp only [List.append_assoc, List.singleton_append]
theorem runs_cut (L : List Int) : (blkOf L).foldl runStep ([], []) = cutL L 0 := by
  cases L with
  | nil => rfl
  | cons x xs =>
    unfold blkOf
    rw [List.foldl_cons]
    have e : blkStep [] x = [] ++ [(x, 1)] := rfl
    rw [e, run_cut xs [] x 1 (by omega) ([], []) rfl]
    have e1 : x + 1 - 1 = x := by omega
    rw [e1]
    show ([] ++ seg _ 0 ++ (cutL (x :: xs) 0).1, [] ++ (cutL (x :: xs) 0).2) = _
    rfl
theorem blk_pos1 (L : List Int) : ∀ r ∈ blkOf L, 1 ≤ r.2 := by
  have key : ∀ (xs : List Int) (acc : List (Int × Int)), (∀ r ∈ acc, 1 ≤ r.2) → ∀ r ∈ xs.foldl blkStep acc, 1 ≤ r.2 := by
    intro xs
    induction xs with
    | nil => exact fun _ h => h
    | cons x xs ih =>
      intro acc h
      refine ih _ fun r m => ?_
      unfold blkStep at m
      split at m
      · rename_i q e
        have hq := h q (List.mem_of_getLast? e)
        split at m
        · rcases List.mem_or_eq_of_mem_set m with m | rfl
          · exact h r m
          · show 1 ≤ q.2 + 1
            omega
        · rcases List.mem_append.mp m with m | m
          · exact h r m
          · rw [List.mem_singleton.mp m]
            exact Int.le_refl _
      · rcases List.mem_append.mp m with m | m
        · exact h r m
        · rw [List.mem_singleton.mp m]
          exact Int.le_refl _
  exact key L [] fun _ m => nomatch m
theorem cutL_len : ∀ (L : List Int) (g : Int), (cutL L g).1.length + (cutL L g).2.length = L.length
  | [], _ => rfl
  | x :: xs, g => by
    unfold cutL
    split
    · have := cutL_len xs g
      show ((cutL xs g).1.length + 1) + (cutL xs g).2.length = xs.length + 1
      omega
    · have := cutL_len xs (g + 1)
      show (cutL xs (g + 1)).1.length + ((cutL xs (g + 1)).2.length + 1) = xs.length + 1
      omega
theorem cutL_asc : ∀ (L : List Int) (g : Int), L.Pairwise (· < ·) → (cutL L g).1.Pairwise (· < ·) ∧ ∀ y ∈ (cutL L g).1, ∀ x, L.head? = some x → x - 2 * g ≤ y
  | [], _, _ => ⟨.nil, fun _ m => nomatch m⟩
  | x :: xs, g, asc => by
    have a := List.pairwise_cons.mp asc
    unfold cutL
    split
    · rename_i e
      obtain ⟨h1, h2⟩ := cutL_asc xs g a.2
      refine ⟨List.pairwise_cons.mpr ⟨fun y m => ?_, h1⟩, fun y m z hz => ?_⟩
      · have := h2 y m _ e
        omega
      · cases hz
        rcases List.mem_cons.mp m with rfl | m
        · exact Int.le_refl _
        · have := h2 y m _ e
          omega
    · rename_i e
      obtain ⟨h1, h2⟩ := cutL_asc xs (g + 1) a.2
      refine ⟨h1, fun y m z hz => ?_⟩
      cases hz
      cases xs with
      | nil => cases m
      | cons w ws =>
        have hw := a.1 w List.mem_cons_self
        have ne : w ≠ x + 1 := fun z => e (by rw [z]; rfl)
        have := h2 y m w rfl
        omega
/-- all that the places become stays near them -/
theorem cutL_bd : ∀ (L : List Int) (g lo hi : Int), 0 ≤ g → (∀ y ∈ L, lo ≤ y ∧ y ≤ hi) → (∀ y ∈ (cutL L g).1, lo - 2 * (g + L.length) ≤ y ∧ y ≤ hi) ∧ ∀ y ∈ (cutL L g).2, lo - 2 * (g + L.length) ≤ y ∧ y ≤ hi
  | [], _, _, _, _, _ => ⟨(fun _ m => nomatch m), fun _ m => nomatch m⟩
  | x :: xs, g, lo, hi, hg, h => by
    have hx := h x List.mem_cons_self
    have ht : ∀ y ∈ xs, lo ≤ y ∧ y ≤ hi := fun y m => h y (List.mem_cons_of_mem _ m)
    have l : ((x :: xs).length : Int) = (xs.length : Int) + 1 := rfl
    unfold cutL
    split
    · obtain ⟨h1, h2⟩ := cutL_bd xs g lo hi hg ht
      refine ⟨fun y m => ?_, fun y m => ?_⟩
      · rcases List.mem_cons.mp m with rfl | m
        · omega
        · have := h1 y m
          omega
      · have := h2 y m
        omega
    · obtain ⟨h1, h2⟩ := cutL_bd xs (g + 1) lo hi (by omega) ht
      refine ⟨fun y m => ?_, fun y m => ?_⟩
      · have := h1 y m
        omega
      · rcases List.mem_cons.mp m with rfl | m
        · omega
        · have := h2 y m
          omega
end SR

set_option Elab.async false
set_option linter.all false
set_option maxRecDepth 100000
set_option maxHeartbeats 1000000
/-! K13B: the package's cut. -/
namespace SR
open PySem PySem.Spec PyProof.Rows L2
def t_cutSeg : TE := (tLc (iRng1 (tCons (tOp qSub (tVar 4) (tC (.int 1))) (tNil))) (gName 6) (tYes) (tTup (tCons (tOp qAdd (tVar 5) (tVar 6)) (tCons (tC (.int 1)) (tNil)))) [6])
def t_cutRest (K : PySem.W.Frag) : TS := (tSeq (tDrop (tBM K "list" rExtend (tVar 1) (tCons t_cutSeg (tNil))))
  (tDrop (tBM K "list" rAppend (tVar 2) (tCons (tOp qSub (tOp qAdd (tVar 5) (tVar 4)) (tC (.int 1))) (tNil)))))
def t_cutBody (K : PySem.W.Frag) : TS := (tSeq (tAsg (tOp qSub (tVar 3) (tOp qMul (tC (.int 2)) (tCB (qLen K) (tCons (tVar 2) (tNil))))) (gName 5))
  (t_cutRest K))
def t_cut (K : PySem.W.Frag) (a0 : Addr) (c_BadRow : Addr) (c_Row : Addr) (E : XK) : TS := tSeq (tIfS (tNot (tB (tCall (spPlainRow K c_Row) [] E0 (tCons (tVar 0) (tNil)))))
  (tOutF c_BadRow E "field" (.str "plain"))
  (tNext))
  (tSeq (tAsg (tLst (tNil)) (gName 1))
  (tSeq (tAsg (tLst (tNil)) (gName 2))
  (tSeq (tFor (iList K (tCall (spRunsIn K c_Row) [] E0 (tCons (tVar 0) (tNil)))) (gTup K 2 (gCons (gName 3) (gCons (gName 4) (gNil))))
  (t_cutBody K))
  (tRet (tTup (tCons (tMake c_Row (spRowInit K c_Row) [.ref a0] E0 (tCons (tVar 1) (tNil))) (tCons (tVar 2) (tNil))))))))
def But2 (A O : Addr) (H H' : Hp) : Prop := ∀ b o, b ≠ A → b ≠ O → H b = some o → H' b = some o
theorem But2.trans {A O : Addr} {H H1 H2 : Hp} (s : But2 A O H H1) (t : But2 A O H1 H2) : But2 A O H H2 := fun b o n1 n2 h => t b o n1 n2 (s b o n1 n2 h)
theorem Same.but2 {A O : Addr} {H H' : Hp} (s : Same H H') : But2 A O H H' := fun b o _ _ h => s b o h
theorem ones_app (a b : List Int) : ones (a ++ b) = ones a ++ ones b := List.map_append
theorem yes_if {σ : L2.St} {H : Hp} {A B : Hp → Prop} (h : A H) : tYes σ H fun b H1 => if b = true then A H1 else B H1 := h
/-- the segment of a run that stays -/
theorem cut_seg {H : Hp} {Q : VK} {st f n : Int} {y0 y1 y2 y6 : Option V} (hn : 1 ≤ n ∧ n ≤ 100)
    (q : ∀ D H' us, H D = none → Same H H' → H' D = some (.lst (us.map V.ref)) → Paired (TupAt H') us (ones (seg st (n - 1).toNat)) → Q (.ref D) H') :
    t_cutSeg [y0, y1, y2, some (.int f), some (.int n), some (.int st), y6] H Q := by
  refine ⟨_, rfl, _, _, rfl, rfl, n - 1, rfl, by omega, by omega, fun D hD => ?_⟩
  refine lc_range (lo := 0) (n := (n - 1).toNat) (fun i H' => Same H H' ∧ ∃ us, H' D = some (.lst (us.map V.ref)) ∧ Paired (TupAt H') us (ones (seg st i))) ⟨same_new hD, [], upd_same, .nil⟩ ?_ ?_
  · rintro i H1 hi ⟨s1, us, d1, pr⟩
    have ul : us.length = i := by
      have := paired_len pr
      rw [ones_len, seg_len] at this
      exact this
    refine ⟨rfl, yes_if ?_⟩
    refine ⟨_, rfl, _, rfl, _, _, rfl, rfl, sz (by show 2 ≤ 1000; decide), fun p hp => ?_⟩
    show ∃ acc, (upd H1 p (.tup [.int (st + (0 + (i : Int))), .int 1])) D = some (.lst acc) ∧ acc.length < sizeLine ∧ Same H (upd (upd H1 p (.tup [.int (st + (0 + (i : Int))), .int 1])) D (.lst (acc ++ [.ref p]))) ∧ _
    have e0 : (0 : Int) + (i : Int) = (i : Int) := by omega
    rw [e0]
    have s3 := same_new (o := .tup [.int (st + (i : Int)), .int 1]) hp
    have T3 : TupAt (upd H1 p (.tup [.int (st + (i : Int)), .int 1])) p (st + (i : Int), 1) := upd_same
    generalize upd H1 p (.tup [.int (st + (i : Int)), .int 1]) = H3 at s3 T3 ⊢
    have d3 := s3 _ _ d1
    have keep : ∀ {b : Addr} {z : Int × Int}, TupAt H3 b z → TupAt (upd H3 D (.lst (us.map V.ref ++ [.ref p]))) b z := fun {b z} w => (upd_ne (ne_of w d3 (by intro e; cases e))).trans w
    refine ⟨_, d3, ?_, same_upd (s1.trans s3) hD, us ++ [p], ?_, ?_⟩
    · rw [List.length_map, ul]
      have : i < 1000 := by omega
      exact Nat.lt_of_lt_of_le this (by decide)
    · rw [upd_same, List.map_append]
      rfl
    · rw [seg_succ, ones_app]
      exact paired_snoc (keep T3) (paired_imp (fun _ _ z => keep (s3 _ _ z)) pr)
  · rintro H1 ⟨s1, us, d1, pr⟩
    exact q D H1 us hD s1 d1 pr
theorem cut_turn {K : PySem.W.Frag} {H : Hp} {A O : Addr} {f n : Int} {k o : List Int} {us : List Addr} {y0 y5 y6 : Option V} {N N2 N3 : L2.St → Hp → Prop} {R : VK} (nAO : A ≠ O) (hn : 1 ≤ n ∧ n ≤ 100) (kl : k.length ≤ 100) (ol : o.length ≤ 100)
    (hA : H A = some (.lst (us.map V.ref))) (pr : Paired (TupAt H) us (ones k)) (hO : H O = some (.lst (o.map V.int)))
    (q : ∀ y5 H' us', But2 A O H H' → H' A = some (.lst (us'.map V.ref)) → Paired (TupAt H') us' (ones (runStep (k, o) (f, n)).1) → H' O = some (.lst ((runStep (k, o) (f, n)).2.map V.int)) →
      N [y0, some (.ref A), some (.ref O), some (.int f), some (.int n), y5, y6] H') :
    t_cutBody K { nx := N, rt := R, bk := N2, ct := N3 } [y0, some (.ref A), some (.ref O), some (.int f), some (.int n), y5, y6] H := by
  refine ⟨_, rfl, _, rfl, O, _, rfl, .inl (SqL.of hO), _, _, rfl, rfl, .inl ⟨by decide, by decide⟩, _, _, rfl, rfl, ?_⟩
  show t_cutRest K _ [y0, some (.ref A), some (.ref O), some (.int f), some (.int n), some (.int (f - 2 * ((o.map V.int).length : Int))), y6] H
  rw [List.length_map]
  generalize hst : f - 2 * (o.length : Int) = st
  refine ⟨_, rfl, .inl ⟨rfl, _, SqL.of hA⟩, ?_⟩
  refine cut_seg (st := st) hn fun D H1 ws hD s1 d1 pr1 => ?_
  have A1 := s1 _ _ hA
  have O1 := s1 _ _ hO
  have ul : us.length = k.length := by rw [paired_len pr, ones_len]
  have wl : ws.length = (n - 1).toNat := by rw [paired_len pr1, ones_len, seg_len]
  refine ⟨A, D, _, _, rfl, rfl, A1, d1, ?_, ?_⟩
  · rw [List.length_map, List.length_map]
    have : us.length + ws.length ≤ 300 := by omega
    exact Nat.le_trans this (by decide)
  have keep : ∀ {b : Addr} {z : Int × Int}, TupAt H1 b z → TupAt (upd H1 A (.lst (us.map V.ref ++ ws.map V.ref))) b z := fun {b z} w => (upd_ne (ne_of w A1 (by intro e; cases e))).trans w
  have A2 : upd H1 A (.lst (us.map V.ref ++ ws.map V.ref)) A = some (.lst ((us ++ ws).map V.ref)) := by rw [upd_same, List.map_append]
  have O2 : upd H1 A (.lst (us.map V.ref ++ ws.map V.ref)) O = some (.lst (o.map V.int)) := (upd_ne (Ne.symm nAO)).trans O1
  have pr2 : Paired (TupAt (upd H1 A (.lst (us.map V.ref ++ ws.map V.ref)))) (us ++ ws) (ones (k ++ seg st (n - 1).toNat)) := by
    rw [ones_app]
    exact paired_append (paired_imp (fun _ _ z => keep (s1 _ _ z)) pr) (paired_imp (fun _ _ z => keep z) pr1)
  have b2 : But2 A O H (upd H1 A (.lst (us.map V.ref ++ ws.map V.ref))) := fun b ob n1 n2 h => (upd_ne n1).trans (s1 _ _ h)
  generalize upd H1 A (.lst (us.map V.ref ++ ws.map V.ref)) = H2 at A2 O2 pr2 b2 ⊢
  refine ⟨_, rfl, .inl ⟨rfl, _, SqL.of O2⟩, _, rfl, _, rfl, _, _, rfl, rfl, _, _, rfl, rfl, O, _, _, rfl, rfl, O2, ?_, ?_⟩
  · rw [List.length_map]
    exact Nat.lt_of_le_of_lt ol (by decide)
  have keep3 : ∀ {b : Addr} {z : Int × Int}, TupAt H2 b z → TupAt (upd H2 O (.lst (o.map V.int ++ [.int (st + n - 1)]))) b z := fun {b z} w => (upd_ne (ne_of w O2 (by intro e; cases e))).trans w
  have rs : runStep (k, o) (f, n) = (k ++ seg st (n - 1).toNat, o ++ [st + n - 1]) := by
    unfold runStep
    show (k ++ seg (f - 2 * (o.length : Int)) (n - 1).toNat, o ++ [f - 2 * (o.length : Int) + n - 1]) = _
    rw [hst]
  refine q _ _ (us ++ ws) (b2.trans fun b ob n1 n2 h => (upd_ne n2).trans h) ?_ ?_ ?_
  · exact (upd_ne nAO).trans A2
  · rw [rs]
    exact paired_imp (fun _ _ z => keep3 z) pr2
  · rw [rs, upd_same, List.map_append]
    rfl
/-- the package's cut: a plain row is cut, any other row refused -/
def spCut (K : PySem.W.Frag) (C B : Addr) : Sp := fun vs H Q E => ∃ x ps ks, vs = [.ref x] ∧ RowAt K C H x ps ks ∧ RowOk ps ks ∧ Asc ps ∧
  (ks ≠ [] → ∀ H' d, Same H H' → H' d = none → E (.ref B) (some d) (upd H' d (.xd [("field", .str "plain")]))) ∧
  (ks = [] → ∀ t y O H', H t = none → H O = none → Same H H' → H' t = some (.tup [.ref y, .ref O]) → RowAt K C H' y (ones (cutL (ps.map Prod.fst) 0).1) [] → H' O = some (.lst ((cutL (ps.map Prod.fst) 0).2.map V.int)) → Q (.ref t) H')
theorem run_mono : ∀ (bs : List (Int × Int)) (s : List Int × List Int), s.1.length ≤ (bs.foldl runStep s).1.length ∧ s.2.length ≤ (bs.foldl runStep s).2.length
  | [], _ => ⟨Nat.le_refl _, Nat.le_refl _⟩
  | b :: bs, s => by
    have h := run_mono bs (runStep s b)
    have h1 : s.1.length ≤ (runStep s b).1.length := by
      unfold runStep
      rw [List.length_append]
      exact Nat.le_add_right _ _
    have h2 : s.2.length ≤ (runStep s b).2.length := by
      unfold runStep
      rw [List.length_append]
      exact Nat.le_add_right _ _
    exact ⟨Nat.le_trans h1 h.1, Nat.le_trans h2 h.2⟩
theorem run_take (bs : List (Int × Int)) (i : Nat) : ((bs.take i).foldl runStep ([], [])).1.length ≤ (bs.foldl runStep ([], [])).1.length ∧ ((bs.take i).foldl runStep ([], [])).2.length ≤ (bs.foldl runStep ([], [])).2.length := by
  have h := run_mono (bs.drop i) ((bs.take i).foldl runStep ([], []))
  rw [← List.foldl_append, List.take_append_drop] at h
  exact h
theorem none_back {H H' : Hp} (s : Same H H') {a : Addr} (h : H' a = none) : H a = none := by
  cases e : H a with
  | none => rfl
  | some o => exact absurd ((s _ _ e).symm.trans h) (fun z => nomatch z)
theorem pure_cut {K : PySem.W.Frag} {C B a0 : Addr} (hE : BareK K a0 []) (vs : List V) (H : Hp) (Q : VK) (E : XK) (h : spCut K C B vs H Q E) : t_cut K a0 B C E { nx := fun _ H' => Q .non H', rt := Q } (start ["row", "kept", "offsets", "first", "length", "start", "place"] vs) H := by
  obtain ⟨x, ps, ks, rfl, row, ok, asc, q1, q2⟩ := h
  refine ⟨_, rfl, x, ps, ks, rfl, row, _, rfl, ?_⟩
  cases ks with
  | cons k ks => exact iteT fun d hd => q1 (fun z => nomatch z) H d (fun _ _ h => h) hd
  | nil =>
    refine iteF ⟨sz (Nat.zero_le _), fun A hA => ⟨sz (Nat.zero_le _), fun O hO => ?_⟩⟩
    have s1 := same_new (o := .lst []) hA
    have A1 : upd H A (.lst []) A = some (.lst []) := upd_same
    generalize upd H A (.lst []) = H1 at s1 A1 hO ⊢
    have s2 := same_new (o := .lst []) hO
    have A2 := s2 _ _ A1
    have O2 : upd H1 O (.lst []) O = some (.lst []) := upd_same
    have nAO : A ≠ O := fun z => by
      rw [z, hO] at A1
      cases A1
    generalize upd H1 O (.lst []) = H2 at s2 A2 O2 ⊢
    have s02 := s1.trans s2
    have row2 := row.same s02
    have l40 := len_sum (fun p m => (ok.po p m).1)
    have osm := ok.sm
    have O0 : H O = none := none_back s1 hO
    refine ⟨_, rfl, x, ps, [], rfl, row2, by omega, fun R H3 hR s3 blk => ?_⟩
    obtain ⟨ts, hRl, prR⟩ := blk
    have A3 := s3 _ _ A2
    have O3 := s3 _ _ O2
    have nRA : R ≠ A := fun z => by rw [z, A2] at hR; cases hR
    have nRO : R ≠ O := fun z => by rw [z, O2] at hR; cases hR
    have fin : (blkOf (ps.map Prod.fst)).foldl runStep ([], []) = cutL (ps.map Prod.fst) 0 := runs_cut _
    have pos := blk_pos1 (ps.map Prod.fst)
    have tot := cutL_len (ps.map Prod.fst) 0
    rw [List.length_map] at tot
    have lim : ∀ i, (((blkOf (ps.map Prod.fst)).take i).foldl runStep ([], [])).1.length ≤ 40 ∧ (((blkOf (ps.map Prod.fst)).take i).foldl runStep ([], [])).2.length ≤ 40 := fun i => by
      have h := run_take (blkOf (ps.map Prod.fst)) i
      rw [fin] at h
      omega
    generalize blkOf (ps.map Prod.fst) = bs at prR fin pos lim
    refine ⟨R, rfl, ⟨_, SqL.of hRl⟩, ?_⟩
    refine for_it (walk_list (K := K) (a := R) (xs := ts.map V.ref)) (fun i σ H' => But2 A O H3 H' ∧ ∃ us y3 y4 y5, σ = [some (.ref x), some (.ref A), some (.ref O), y3, y4, y5, none] ∧ H' A = some (.lst (us.map V.ref)) ∧ Paired (TupAt H') us (ones ((bs.take i).foldl runStep ([], [])).1) ∧ H' O = some (.lst (((bs.take i).foldl runStep ([], [])).2.map V.int)))
      ⟨fun _ _ _ _ h => h, [], _, _, _, rfl, A3, .nil, O3⟩ ?_ ?_ ?_
    · rintro i σ H' _ ⟨b, _⟩
      exact SqL.of (b _ _ nRA nRO hRl)
    · rintro i v σ H' H'' hi ⟨b, us, y3, y4, y5, rfl, hA', pr, hO'⟩ ⟨rfl, hv⟩
      rw [List.getElem?_map] at hv
      obtain ⟨t, ht, rfl⟩ := Option.map_eq_some_iff.mp hv
      obtain ⟨r, hr, hat⟩ := paired_at prR ht
      have T : TupAt H'' t r := b _ _ (ne_of hat A3 (by intro e; cases e)) (ne_of hat O3 (by intro e; cases e)) hat
      have tk : (bs.take (i + 1)).foldl runStep ([], []) = runStep ((bs.take i).foldl runStep ([], [])) r := by
        rw [List.take_succ, hr, List.foldl_append]
        rfl
      have li := lim i
      have li1 := lim (i + 1)
      rw [tk] at li1
      generalize (bs.take i).foldl runStep ([], []) = s at pr hO' tk li li1
      obtain ⟨k, o⟩ := s
      obtain ⟨f, n⟩ := r
      have n1 : 1 ≤ n := pos _ (List.mem_of_getElem? hr)
      have n2 : n ≤ 100 := by
        have z := li1.1
        unfold runStep at z
        rw [List.length_append, seg_len] at z
        omega
      refine ⟨t, _, rfl, SqT.of T, rfl, _, _, rfl, _, _, rfl, rfl, ?_⟩
      show t_cutBody K _ [some (.ref x), some (.ref A), some (.ref O), some (.int f), some (.int n), y5, none] H''
      refine cut_turn nAO ⟨n1, n2⟩ (Nat.le_trans li.1 (by decide)) (Nat.le_trans li.2 (by decide)) hA' pr hO' fun y5' H5 us' b5 a5 p5 o5 => ?_
      refine ⟨b.trans b5, us', _, _, _, rfl, a5, ?_, ?_⟩
      · rw [tk]
        exact p5
      · rw [tk]
        exact o5
    · rintro σ H' ⟨b, us, y3, y4, y5, rfl, hA', pr, hO'⟩
      have tl : (ts.map V.ref).length = bs.length := by rw [List.length_map, paired_len prR]
      rw [tl, List.take_length, fin] at pr hO'
      have s3' : Same H H' := fun c o hc => b _ _ (fun z => by rw [z, hA] at hc; cases hc) (fun z => by rw [z, O0] at hc; cases hc) (s3 _ _ (s02 _ _ hc))
      have L := (cutL_asc (ps.map Prod.fst) 0 (by rw [List.pairwise_map]; exact asc)).1
      have kl : (cutL (ps.map Prod.fst) 0).1.length ≤ 40 := by omega
      have hp : PairsAt K H' A (ones (cutL (ps.map Prod.fst) 0).1) := ⟨us, .inl (SqL.of hA'), pr⟩
      have hk : PairsAt K H' a0 [] := ⟨[], .inr (.inr hE), .nil⟩
      refine ⟨_, rfl, fun y0 dx g1 g2 g3 => make_row (C := C) (E := E0) (Q := fun z H1 => tCons (tVar 2) tNil [some (.ref x), some (.ref A), some (.ref O), y3, y4, y5, none] H1 fun xs H2 => (z :: xs).length ≤ sizeLine ∧ ∀ p, H2 p = none → Q (.ref p) (upd H2 p (.tup (z :: xs)))) hp hk (ones_ok L kl) (fun y H5 qs ls hy s5 row5 p1 p2 a1 a2 => ?_) y0 dx g1 g2 g3⟩
      refine ⟨_, rfl, sz (by show 2 ≤ 1000; decide), fun t ht => ?_⟩
      have e1 : qs = ones (cutL (ps.map Prod.fst) 0).1 := asc_eq a1 (ones_asc L) p1
      have e2 : ls = [] := List.Perm.eq_nil p2
      subst e1 e2
      have s6 := same_new (o := .tup [.ref y, .ref O]) ht
      have s05 := s3'.trans s5
      exact q2 rfl t y O _ (none_back s05 ht) O0 (s05.trans s6) upd_same (row5.same s6) (s6 _ _ (s5 _ _ hO'))
end SR

set_option Elab.async false
set_option linter.all false
set_option maxRecDepth 100000
set_option maxHeartbeats 4000000
/-! MTA: sweeps by their loads. -/
namespace SR
open PySem PySem.Spec PyProof.Rows L2
def sumAt (f : Step → Int) (st : List Step) (i : Int) : Int := (st.map fun s => if s.1 = i then f s else 0).sum
theorem sumAt_cons (f : Step → Int) (s : Step) (st : List Step) (i : Int) : sumAt f (s :: st) i = (if s.1 = i then f s else 0) + sumAt f st i := rfl
theorem sumAt_app (f : Step → Int) (a b : List Step) (i : Int) : sumAt f (a ++ b) i = sumAt f a i + sumAt f b i := by
  unfold sumAt
  rw [List.map_append, List.sum_append]
theorem sumAt_none {f : Step → Int} {st : List Step} {i : Int} (h : ∀ s ∈ st, s.1 ≠ i) : sumAt f st i = 0 := by
  induction st with
  | nil => rfl
  | cons s st ih =>
    rw [sumAt_cons, if_neg (h s List.mem_cons_self), ih fun t m => h t (List.mem_cons_of_mem _ m)]
    rfl
theorem sumAt_mem {f : Step → Int} {st : List Step} (a : AscS st) {s : Step} (m : s ∈ st) : sumAt f st s.1 = f s := by
  induction st with
  | nil => cases m
  | cons t st ih =>
    obtain ⟨a1, a2⟩ := List.pairwise_cons.mp a
    rw [sumAt_cons]
    rcases List.mem_cons.mp m with e | m
    · subst e
      rw [if_pos rfl, sumAt_none fun z hz e => by have := a1 z hz; omega]
      omega
    · have := a1 s m
      rw [if_neg (by omega), ih a2 m]
      omega
abbrev ldF : Step → Int := fun s => s.2.1
abbrev nlF : Step → Int := fun s => s.2.2.2.1
/-- what a step is -/
def StepIs (cn cp : Int → Int) (most : Int) (s : Step) : Prop := s = stepAt cn cp most s.1 s.2.1 ∧ 0 ≤ s.2.1 ∧ s.2.1 ≤ most
section
variable {ps ks : List (Int × Int)} {most : Int}
theorem walks_more (ok : RowOk ps ks) (m1 : 1 ≤ most) {i l : Int} {w : List Step} (h : Walks (cnt ps) (cap ks) most i l w) : 0 ≤ l → l ≤ most →
    (∀ s ∈ w, StepIs (cnt ps) (cap ks) most s ∧ i ≤ s.1) ∧ (∀ j, sumAt nlF w j + (if j + 1 = i then l else 0) = sumAt ldF w (j + 1)) ∧ (∀ j, i ≤ j → j ≤ lastIdx w → ∃ s ∈ w, s.1 = j) ∧ i ≤ lastIdx w := by
  induction h with
  | @last i l h =>
    intro l0 l1
    refine ⟨fun s m => ?_, fun j => ?_, fun j j0 j1 => ⟨_, List.mem_singleton.mpr rfl, ?_⟩, Int.le_refl _⟩
    · rw [List.mem_singleton.mp m]
      exact ⟨⟨rfl, l0, l1⟩, Int.le_refl _⟩
    · rw [sumAt_cons, sumAt_cons]
      show (if i = j then stL most l (cap ks i) (cnt ps i) else 0) + 0 + _ = (if i = j + 1 then l else 0) + 0
      rw [h]
      split <;> split <;> split <;> omega
    · have : lastIdx [stepAt (cnt ps) (cap ks) most i l] = i := rfl
      rw [this] at j1
      show i = j
      omega
  | @more i l r h t ih =>
    intro l0 l1
    obtain ⟨_, b, _⟩ := step_ok (i := i) ok m1 l0 l1
    obtain ⟨a1, a2, a3, a4⟩ := ih b.1 b.2
    have ne : r ≠ [] := by cases t <;> simp
    have ll : lastIdx (stepAt (cnt ps) (cap ks) most i l :: r) = lastIdx r := by
      unfold lastIdx
      cases r with
      | nil => exact absurd rfl ne
      | cons x r => rw [List.getLast?_cons_cons]
    refine ⟨fun s m => ?_, fun j => ?_, fun j j0 j1 => ?_, by rw [ll]; omega⟩
    · rcases List.mem_cons.mp m with rfl | m
      · exact ⟨⟨rfl, l0, l1⟩, Int.le_refl _⟩
      · have := a1 s m
        exact ⟨this.1, by omega⟩
    · rw [sumAt_cons, sumAt_cons]
      have := a2 j
      show (if i = j then stL most l (cap ks i) (cnt ps i) else 0) + sumAt nlF r j + _ = (if i = j + 1 then l else 0) + sumAt ldF r (j + 1)
      by_cases e1 : i = j
      · rw [if_pos e1, if_neg (by omega), if_neg (by omega)]
        rw [if_pos (by omega)] at this
        omega
      · rw [if_neg e1]
        rw [if_neg (by omega)] at this
        by_cases e2 : j + 1 = i
        · rw [if_pos e2, if_pos e2.symm]
          omega
        · rw [if_neg e2, if_neg (by omega)]
          omega
    · rw [ll] at j1
      by_cases e : j = i
      · exact ⟨_, List.mem_cons_self, e.symm⟩
      · obtain ⟨s, hs, e2⟩ := a3 j (by omega) j1
        exact ⟨s, List.mem_cons_of_mem _ hs, e2⟩
theorem traces_more (ok : RowOk ps ks) (m1 : 1 ≤ most) {qs : List (Int × Int)} {acc st : List Step} (h : Traces (cnt ps) (cap ks) most qs acc st) : Asc qs →
    (∀ s ∈ acc, StepIs (cnt ps) (cap ks) most s) → (∀ j, sumAt nlF acc j = sumAt ldF acc (j + 1)) → (acc ≠ [] → ∃ b, (∀ q ∈ qs, b ≤ q.1) ∧ ∀ j, b ≤ j → j ≤ lastIdx acc → ∃ s ∈ acc, s.1 = j) →
    (∀ s ∈ st, StepIs (cnt ps) (cap ks) most s) ∧ (∀ j, sumAt nlF st j = sumAt ldF st (j + 1)) ∧ (∀ s ∈ acc, s ∈ st) ∧ ∀ q ∈ qs, ∃ s ∈ st, s.1 = q.1 := by
  induction h with
  | nil => exact fun _ a b _ => ⟨a, b, fun _ m => m, fun _ m => nomatch m⟩
  | @skip p qs acc r hn h2 t ih =>
    intro asc a b c
    obtain ⟨x, x1, x2⟩ := c hn
    obtain ⟨i1, i2, i3, i4⟩ := ih (List.pairwise_cons.mp asc).2 a b fun _ => ⟨x, fun q m => x1 q (List.mem_cons_of_mem _ m), x2⟩
    refine ⟨i1, i2, i3, fun q m => ?_⟩
    rcases List.mem_cons.mp m with rfl | m
    · obtain ⟨s, hs, e⟩ := x2 q.1 (x1 q List.mem_cons_self) (by omega)
      exact ⟨s, i3 s hs, e⟩
    · exact i4 q m
  | @walk p qs acc w r hon hw t ih =>
    intro asc a b c
    obtain ⟨p1, p2⟩ := List.pairwise_cons.mp asc
    obtain ⟨w1, w2, w3, w4⟩ := walks_more ok m1 hw (Int.le_refl 0) (by omega)
    have wn := walks_ne hw
    have la : lastIdx (acc ++ w) = lastIdx w := by
      unfold lastIdx
      rw [List.getLast?_append]
      cases e : w.getLast? with
      | none => exact absurd (List.getLast?_eq_none_iff.mp e) wn
      | some x => rfl
    obtain ⟨i1, i2, i3, i4⟩ := ih p2 (fun s m => (List.mem_append.mp m).elim (a s) fun m => (w1 s m).1) (fun j => by
      rw [sumAt_app, sumAt_app, b j, ← w2 j]
      split <;> omega) fun _ => ⟨p.1, fun q m => by have := p1 q m; omega, fun j j0 j1 => by
        rw [la] at j1
        obtain ⟨s, hs, e⟩ := w3 j j0 j1
        exact ⟨s, List.mem_append_right _ hs, e⟩⟩
    refine ⟨i1, i2, fun s m => i3 s (List.mem_append_left _ m), fun q m => ?_⟩
    rcases List.mem_cons.mp m with rfl | m
    · obtain ⟨s, hs, e⟩ := w3 q.1 (Int.le_refl _) w4
      exact ⟨s, i3 s (List.mem_append_right _ hs), e⟩
    · exact i4 q m
/-- qs is ps after a sweep -/
def Sw (ks : List (Int × Int)) (most : Int) (ps qs : List (Int × Int)) : Prop := ∃ ld : Int → Int, (∃ lo, ∀ i, i ≤ lo → ld i = 0) ∧ (∃ hi, ∀ i, hi ≤ i → ld i = 0) ∧ ∀ i, 0 ≤ ld i ∧ ld i ≤ most ∧ cnt qs i = stC most (ld i) (cap ks i) (cnt ps i) ∧ ld (i + 1) = stL most (ld i) (cap ks i) (cnt ps i)
theorem span (st : List Step) : ∃ lo hi : Int, ∀ s ∈ st, lo < s.1 ∧ s.1 < hi := by
  induction st with
  | nil => exact ⟨0, 0, fun _ m => nomatch m⟩
  | cons s st ih =>
    obtain ⟨lo, hi, h⟩ := ih
    refine ⟨min lo (s.1 - 1), max hi (s.1 + 1), fun t m => ?_⟩
    rcases List.mem_cons.mp m with rfl | m
    · omega
    · have := h t m
      omega
theorem cnt_left {st : List Step} (a : AscS st) {s : Step} (m : s ∈ st) (h : 0 ≤ s.2.2.2.2) (la : Asc (left st)) : cnt (left st) s.1 = s.2.2.2.2 := by
  unfold cnt
  by_cases e : 0 < s.2.2.2.2
  · have z : (s.1, s.2.2.2.2) ∈ left st := List.mem_map.mpr ⟨s, List.mem_filter.mpr ⟨m, decide_eq_true e⟩, rfl⟩
    rw [(lookup_some (asc_nd la)).mpr z]
    rfl
  · rw [lookup_none.mpr]
    · show (0 : Int) = _
      omega
    · intro z
      obtain ⟨p, hp, e2⟩ := List.mem_map.mp z
      obtain ⟨t, ht, rfl⟩ := List.mem_map.mp hp
      obtain ⟨t1, t2⟩ := List.mem_filter.mp ht
      have e3 := sumAt_mem (f := fun s => s.2.2.2.2) a t1
      have e4 := sumAt_mem (f := fun s => s.2.2.2.2) a m
      have e5 : t.1 = s.1 := e2
      rw [e5] at e3
      have := of_decide_eq_true t2
      omega
theorem cnt_left_none {st : List Step} {i : Int} (h : ∀ s ∈ st, s.1 ≠ i) : cnt (left st) i = 0 := by
  unfold cnt
  rw [lookup_none.mpr]
  · rfl
  · intro z
    obtain ⟨p, hp, e2⟩ := List.mem_map.mp z
    obtain ⟨t, ht, rfl⟩ := List.mem_map.mp hp
    exact h t (List.mem_filter.mp ht).1 e2
theorem sw_traces (ok : RowOk ps ks) (asc : Asc ps) (m1 : 1 ≤ most) {st : List Step} (h : Traces (cnt ps) (cap ks) most ps [] st) : Sw ks most ps (left st) := by
  obtain ⟨lo, la, _⟩ := left_ok ok m1 h
  obtain ⟨a, b, _⟩ := traces_all ok m1 h List.Pairwise.nil (fun s m => nomatch m) rfl
  obtain ⟨t1, t2, _, t4⟩ := traces_more ok m1 h asc (fun s m => nomatch m) (fun j => rfl) fun z => absurd rfl z
  obtain ⟨x, y, xy⟩ := span st
  refine ⟨sumAt ldF st, ⟨x, fun i hi => sumAt_none fun s m e => by have := xy s m; omega⟩, ⟨y, fun i hi => sumAt_none fun s m e => by have := xy s m; omega⟩, fun i => ?_⟩
  have nl := t2 i
  by_cases ex : ∃ s ∈ st, s.1 = i
  · obtain ⟨s, m, rfl⟩ := ex
    obtain ⟨e, l0, l1⟩ := t1 s m
    have k1 := sumAt_mem (f := ldF) a m
    have k2 := sumAt_mem (f := nlF) a m
    have k3 := cnt_left a m (b s m).2.1 la
    have n1 : s.2.2.2.1 = stL most s.2.1 (cap ks s.1) (cnt ps s.1) := congrArg (fun s : Step => s.2.2.2.1) e
    have n2 : s.2.2.2.2 = stC most s.2.1 (cap ks s.1) (cnt ps s.1) := congrArg (fun s : Step => s.2.2.2.2) e
    refine ⟨by rw [k1]; exact l0, by rw [k1]; exact l1, ?_, ?_⟩
    · rw [k1, k3]
      exact n2
    · rw [k1, ← nl, k2]
      exact n1
  · have no : ∀ s ∈ st, s.1 ≠ i := fun s m e => ex ⟨s, m, e⟩
    have c0 : cnt ps i = 0 := by
      unfold cnt
      rw [lookup_none.mpr]
      · rfl
      · intro z
        obtain ⟨p, hp, e⟩ := List.mem_map.mp z
        obtain ⟨s, hs, e2⟩ := t4 p hp
        exact no s hs (by omega)
    have k1 := sumAt_none (f := ldF) no
    have k2 := sumAt_none (f := nlF) no
    have k3 := cnt_left_none no
    have cp := cap_ok ok.ko i
    refine ⟨by rw [k1]; exact Int.le_refl _, by rw [k1]; omega, ?_, ?_⟩
    · rw [k1, k3, c0]
      unfold stC
      omega
    · rw [k1, ← nl, k2, c0]
      unfold stL
      omega
/-! ### there is a sweep -/
theorem walks_ex (ok : RowOk ps ks) (m1 : 1 ≤ most) : ∀ (n : Nat) (i l : Int), 2 * sumFrom i ps + l ≤ n → 0 ≤ l → l ≤ most → (l = 0 → 1 ≤ cnt ps i) → ∃ w, Walks (cnt ps) (cap ks) most i l w := by
  intro n
  induction n with
  | zero =>
    intro i l h l0 l1 lz
    have nx := sumFrom_next i ok.nd
    have b := sumFrom_bd (i + 1) fun p m => (ok.po p m).1
    have c := cnt_bd ok i
    have := lz (by omega)
    omega
  | succ n ih =>
    intro i l h l0 l1 lz
    have nx := sumFrom_next i ok.nd
    have b := sumFrom_bd (i + 1) fun p m => (ok.po p m).1
    have c := cnt_bd ok i
    have cp := cap_ok ok.ko i
    obtain ⟨_, s2, s3⟩ := step_ok (i := i) ok m1 l0 l1
    by_cases e : stL most l (cap ks i) (cnt ps i) = 0
    · exact ⟨_, .last e⟩
    · have dec : 2 * sumFrom (i + 1) ps + stL most l (cap ks i) (cnt ps i) ≤ n := by
        have d1 : stL most l (cap ks i) (cnt ps i) ≤ l + cnt ps i := by
          unfold stL
          omega
        by_cases z : cnt ps i = 0
        · have : stL most l (cap ks i) (cnt ps i) < l := by
            have : l ≠ 0 := fun q => by have := lz q; omega
            unfold stL
            rw [z]
            omega
          omega
        · omega
      obtain ⟨w, hw⟩ := ih (i + 1) _ dec s2.1 s2.2 fun q => absurd q e
      exact ⟨_, .more e hw⟩
theorem traces_ex (ok : RowOk ps ks) (m1 : 1 ≤ most) : ∀ (qs : List (Int × Int)) (acc : List Step), (∀ q ∈ qs, q ∈ ps) → ∃ st, Traces (cnt ps) (cap ks) most qs acc st
  | [], acc, _ => ⟨acc, .nil⟩
  | p :: qs, acc, h => by
    by_cases on : acc = [] ∨ lastIdx acc < p.1
    · have c1 : 1 ≤ cnt ps p.1 := by
        unfold cnt
        rw [(lookup_some (n := p.2) ok.nd).mpr (h p List.mem_cons_self)]
        exact (ok.po p (h p List.mem_cons_self)).1
      have b := sumFrom_bd p.1 fun p m => (ok.po p m).1
      obtain ⟨w, hw⟩ := walks_ex ok m1 (2 * sumFrom p.1 ps).toNat p.1 0 (by omega) (Int.le_refl _) (by omega) fun _ => c1
      obtain ⟨st, hs⟩ := traces_ex ok m1 qs (acc ++ w) fun q m => h q (List.mem_cons_of_mem _ m)
      exact ⟨st, .walk on hw hs⟩
    · obtain ⟨st, hs⟩ := traces_ex ok m1 qs acc fun q m => h q (List.mem_cons_of_mem _ m)
      exact ⟨st, .skip (fun z => on (.inl z)) (fun z => on (.inr z)) hs⟩
/-! ### a row by its counts -/
theorem cnt_eq {qs : List (Int × Int)} (a : Asc ps) (b : Asc qs) (pa : ∀ p ∈ ps, 1 ≤ p.2) (pb : ∀ p ∈ qs, 1 ≤ p.2) (h : ∀ i, cnt ps i = cnt qs i) : ps = qs := by
  have sub : ∀ {xs ys : List (Int × Int)}, Asc xs → Asc ys → (∀ p ∈ xs, 1 ≤ p.2) → (∀ i, cnt xs i = cnt ys i) → ∀ p ∈ xs, p ∈ ys := fun {xs ys} ax ay px e p m => by
    have z := e p.1
    unfold cnt at z
    rw [(lookup_some (n := p.2) (asc_nd ax)).mpr m] at z
    have := px p m
    cases q : ys.lookup p.1 with
    | none =>
      rw [q] at z
      have z2 : p.2 = 0 := z
      omega
    | some n =>
      rw [q] at z
      have z2 : p.2 = n := z
      have := (lookup_some (asc_nd ay)).mp q
      rw [← z2] at this
      exact this
  have nx : ps.Nodup := a.imp fun {x y} z e => by rw [e] at z; omega
  have ny : qs.Nodup := b.imp fun {x y} z e => by rw [e] at z; omega
  exact asc_eq a b ((List.perm_ext_iff_of_nodup nx ny).mpr fun p => ⟨sub a b pa h p, sub b a pb (fun i => (h i).symm) p⟩)
end
end SR

set_option Elab.async false
set_option linter.all false
set_option maxRecDepth 100000
set_option maxHeartbeats 4000000
/-! MTB: sweeps commute and have inverse ones. -/
namespace SR
open PySem PySem.Spec PyProof.Rows L2
/-- valid rows -/
structure Vd (ps ks : List (Int × Int)) : Prop where
  ok : RowOk ps ks
  ap : Asc ps
  ak : Asc ks
theorem Vd.one {ps ks : List (Int × Int)} (v : Vd ps ks) : ∀ p ∈ ps, 1 ≤ p.2 := fun p m => (v.ok.po p m).1
section
variable {ks ps qs rs qs' rs' : List (Int × Int)} {c d : Int}
theorem up_from {P : Int → Prop} (lo : Int) (h0 : P lo) (h : ∀ i, lo ≤ i → P i → P (i + 1)) : ∀ i, lo ≤ i → P i := by
  have key : ∀ n : Nat, P (lo + n) := by
    intro n
    induction n with
    | zero => simpa using h0
    | succ n ih =>
      have := h (lo + n) (by omega) ih
      rw [show lo + ((n + 1 : Nat) : Int) = lo + n + 1 by omega]
      exact this
  intro i hi
  have := key (i - lo).toNat
  rw [show lo + ((i - lo).toNat : Int) = i by omega] at this
  exact this
theorem down_from {P : Int → Prop} (hi : Int) (h0 : P hi) (h : ∀ i, i < hi → P (i + 1) → P i) : ∀ i, i ≤ hi → P i := by
  have key : ∀ n : Nat, P (hi - n) := by
    intro n
    induction n with
    | zero => simpa using h0
    | succ n ih =>
      refine h _ (by omega) ?_
      rw [show hi - ((n + 1 : Nat) : Int) + 1 = hi - n by omega]
      exact ih
  intro i le
  have := key (hi - i).toNat
  rw [show hi - ((hi - i).toNat : Int) = i by omega] at this
  exact this
/-- one sweep only -/
theorem sw_one (v : Vd qs ks) (v' : Vd qs' ks) (h : Sw ks c ps qs) (h' : Sw ks c ps qs') : qs = qs' := by
  obtain ⟨l, ⟨a, ha⟩, _, st⟩ := h
  obtain ⟨l', ⟨a', ha'⟩, _, st'⟩ := h'
  have eq : ∀ i, l i = l' i := by
    intro i
    by_cases z : i ≤ min a a'
    · rw [ha i (by omega), ha' i (by omega)]
    · refine up_from (P := fun i => l i = l' i) (min a a') (by rw [ha _ (by omega), ha' _ (by omega)]) (fun j _ e => ?_) i (by omega)
      rw [(st j).2.2.2, (st' j).2.2.2, e]
  exact cnt_eq v.ap v'.ap v.one v'.one fun i => by rw [(st i).2.2.1, (st' i).2.2.1, eq]
/-- passing back -/
theorem pass_back {u D x : Int} (c1 : 1 ≤ c) (u0 : 0 ≤ u) (u1 : u ≤ c) (x0 : 0 ≤ x) (x1 : x ≤ D) : stL c (stL c u D x) D (stC c u D x) = u ∧ stC c (stL c u D x) D (stC c u D x) = x := by
  unfold stC stL
  omega
/-- a row is a sweep of one row only -/
theorem sw_from (v : Vd ps ks) (v' : Vd qs ks) (c1 : 1 ≤ c) (h : Sw ks c ps rs) (h' : Sw ks c qs rs) : ps = qs := by
  obtain ⟨l, _, ⟨b, hb⟩, st⟩ := h
  obtain ⟨l', _, ⟨b', hb'⟩, st'⟩ := h'
  have back : ∀ i, l (i + 1) = l' (i + 1) → l i = l' i ∧ cnt ps i = cnt qs i := fun i e => by
    obtain ⟨p0, p1, p2, p3⟩ := st i
    obtain ⟨q0, q1, q2, q3⟩ := st' i
    have n := cnt_bd v.ok i
    have m := cnt_bd v'.ok i
    obtain ⟨k1, k2⟩ := pass_back c1 p0 p1 n.1 n.2
    obtain ⟨k3, k4⟩ := pass_back c1 q0 q1 m.1 m.2
    rw [← p3, ← p2] at k1 k2
    rw [← q3, ← q2, ← e] at k3 k4
    exact ⟨k1.symm.trans k3, k2.symm.trans k4⟩
  have eq : ∀ i, l i = l' i := by
    intro i
    by_cases z : max b b' ≤ i
    · rw [hb i (by omega), hb' i (by omega)]
    · exact down_from (P := fun i => l i = l' i) (max b b') (by rw [hb _ (by omega), hb' _ (by omega)]) (fun j _ e => (back j e).1) i (by omega)
  exact cnt_eq v.ap v'.ap v.one v'.one fun i => (back i (eq _)).2
/-- two sweeps in either order -/
theorem sw_comm (v : Vd ps ks) (v1 : Vd rs ks) (v2 : Vd rs' ks) (vq : Vd qs ks) (vq' : Vd qs' ks) (c1 : 1 ≤ c) (d1 : 1 ≤ d) (h1 : Sw ks c ps qs) (h2 : Sw ks d qs rs) (h3 : Sw ks d ps qs') (h4 : Sw ks c qs' rs') : rs = rs' := by
  obtain ⟨a, ⟨a0, ha⟩, _, sa⟩ := h1
  obtain ⟨b, ⟨b0, hb⟩, _, sb⟩ := h2
  obtain ⟨b', ⟨b0', hb'⟩, _, sb'⟩ := h3
  obtain ⟨a', ⟨a0', ha'⟩, _, sa'⟩ := h4
  have turn : ∀ i, b' i = stL d (b i) c (a i) → a' i = stC d (b i) c (a i) → b' (i + 1) = stL d (b (i + 1)) c (a (i + 1)) ∧ a' (i + 1) = stC d (b (i + 1)) c (a (i + 1)) ∧ cnt rs i = cnt rs' i := fun i e1 e2 => by
    obtain ⟨p0, p1, p2, p3⟩ := sa i
    obtain ⟨q0, q1, q2, q3⟩ := sb i
    obtain ⟨r0, r1, r2, r3⟩ := sb' i
    obtain ⟨t0, t1, t2, t3⟩ := sa' i
    have n := cnt_bd v.ok i
    have cp := cap_ok v.ok.ko i
    generalize cnt ps i = x at *
    generalize cap ks i = D at *
    obtain ⟨k1, k2, k3, _, _⟩ := yb d c D (b i) (a i) x q0 p0 n.1 q1 p1 n.2 _ _ _ _ _ _ _ _ _ _ _ _ rfl rfl rfl rfl rfl rfl rfl rfl rfl rfl rfl rfl _ _ _ _ _ _ _ _ _ _ _ _ rfl rfl rfl rfl rfl rfl rfl rfl rfl rfl rfl rfl
    rw [e1] at r2 r3
    rw [e2] at t2 t3
    rw [r2] at t2 t3
    rw [p2] at q2 q3
    refine ⟨?_, ?_, ?_⟩
    · rw [r3, q3, p3]
      unfold stL stC
      exact k3
    · rw [t3, q3, p3]
      unfold stL stC
      exact k2
    · rw [q2, t2]
      unfold stL stC
      exact k1.symm
  have z0 : stL d 0 c 0 = 0 ∧ stC d 0 c 0 = 0 := by
    unfold stL stC
    omega
  have low : ∀ i, i ≤ min (min a0 b0) (min a0' b0') → b' i = stL d (b i) c (a i) ∧ a' i = stC d (b i) c (a i) := fun i hi => by
    rw [ha i (by omega), hb i (by omega), ha' i (by omega), hb' i (by omega), z0.1, z0.2]
    exact ⟨rfl, rfl⟩
  have all : ∀ i, b' i = stL d (b i) c (a i) ∧ a' i = stC d (b i) c (a i) := fun i => by
    by_cases z : i ≤ min (min a0 b0) (min a0' b0')
    · exact low i z
    · exact up_from (P := fun i => b' i = stL d (b i) c (a i) ∧ a' i = stC d (b i) c (a i)) _ (low _ (Int.le_refl _)) (fun j _ e => let t := turn j e.1 e.2; ⟨t.1, t.2.1⟩) i (by omega)
  exact cnt_eq v1.ap v2.ap v1.one v2.one fun i => (turn i (all i).1 (all i).2).2.2
theorem cnt_mirror (v : Vd ps ks) (i : Int) : cnt (mirror ps) (-i) = cnt ps i := by
  unfold cnt
  rw [lookup_perm (mirror_perm ps) (by
    have := asc_nd (mirror_asc v.ap)
    exact this), lookup_neg]
theorem cap_mirror (v : Vd ps ks) (i : Int) : cap (mirror ks) (-i) = cap ks i := by
  unfold cap
  rw [lookup_perm (mirror_perm ks) (by
    have := asc_nd (mirror_asc v.ak)
    exact this), lookup_neg]
theorem Vd.mirror (v : Vd ps ks) : Vd (mirror ps) (mirror ks) := ⟨(neg_ok v.ok).perm (mirror_perm ps) (mirror_perm ks), mirror_asc v.ap, mirror_asc v.ak⟩
/-- a sweep from right to left is an inverse one -/
theorem sw_mirror (v : Vd ps ks) (v' : Vd qs ks) (c1 : 1 ≤ c) (h : Sw (mirror ks) c (mirror ps) (mirror qs)) : Sw ks c qs ps := by
  obtain ⟨l, ⟨a, ha⟩, ⟨b, hb⟩, st⟩ := h
  refine ⟨fun i => l (-i + 1), ⟨-b, fun i hi => hb _ (by omega)⟩, ⟨-a + 1, fun i hi => ha _ (by omega)⟩, fun i => ?_⟩
  obtain ⟨p0, p1, p2, p3⟩ := st (-i)
  obtain ⟨q0, q1, _, _⟩ := st (-i + 1)
  rw [cnt_mirror v', cnt_mirror v, cap_mirror v] at p2
  rw [cnt_mirror v, cap_mirror v] at p3
  have n := cnt_bd v.ok i
  obtain ⟨k1, k2⟩ := pass_back c1 p0 p1 n.1 n.2
  rw [← p3, ← p2] at k1 k2
  refine ⟨q0, q1, k2.symm, ?_⟩
  show l (-(i + 1) + 1) = _
  rw [show -(i + 1) + 1 = -i by omega]
  exact k1.symm
end
/-! ### as functions -/
/-- valid rows with these wide boxes -/
abbrev Rws (ks : List (Int × Int)) : Type := { ps : List (Int × Int) // Vd ps ks }
section
variable {ks : List (Int × Int)}
def total (ps : List (Int × Int)) : Int := (ps.map Prod.snd).sum
theorem sum_zero (st : List Step) : (st.map fun _ => (0 : Int)).sum = 0 := by
  induction st with
  | nil => rfl
  | cons s st ih => rw [List.map_cons, List.sum_cons, ih]; rfl
theorem sum_cover {st : List Step} (a : AscS st) : ∀ {ps : List (Int × Int)}, (ps.map Prod.fst).Nodup → (∀ p ∈ ps, ∃ s ∈ st, s.1 = p.1) → (st.map fun s => cnt ps s.1).sum = total ps
  | [], _, _ => by
    have : (st.map fun s => cnt [] s.1) = st.map fun _ => (0 : Int) := rfl
    rw [this]
    exact sum_zero st
  | p :: ps, nd, h => by
    obtain ⟨n1, n2⟩ := List.nodup_cons.mp nd
    have ih := sum_cover a n2 fun q m => h q (List.mem_cons_of_mem _ m)
    obtain ⟨s, hs, e⟩ := h p List.mem_cons_self
    have one := sumAt_mem (f := fun _ => p.2) a hs
    have z : cnt ps p.1 = 0 := by
      unfold cnt
      rw [lookup_none.mpr n1]
      rfl
    have split : ∀ xs : List Step, (xs.map fun s => cnt (p :: ps) s.1).sum = sumAt (fun _ => p.2) xs p.1 + (xs.map fun s => cnt ps s.1).sum := by
      intro xs
      induction xs with
      | nil => rfl
      | cons x xs ih2 =>
        rw [List.map_cons, List.sum_cons, ih2, sumAt_cons, List.map_cons, List.sum_cons, cnt_cons]
        by_cases e : x.1 = p.1
        · rw [if_pos e, if_pos e, e, z]
          omega
        · rw [if_neg e, if_neg e]
          omega
    rw [split, ih, ← e, one]
    show p.2 + total ps = total (p :: ps)
    unfold total
    rw [List.map_cons, List.sum_cons]
theorem sum_traces {ps : List (Int × Int)} (v : Vd ps ks) {most : Int} (m1 : 1 ≤ most) {st : List Step} (h : Traces (cnt ps) (cap ks) most ps [] st) : sumIn st = total ps := by
  obtain ⟨a, b, _⟩ := traces_all v.ok m1 h List.Pairwise.nil (fun s m => nomatch m) rfl
  obtain ⟨_, _, _, t4⟩ := traces_more v.ok m1 h v.ap (fun s m => nomatch m) (fun j => rfl) fun z => absurd rfl z
  rw [← sum_cover a v.ok.nd t4]
  unfold sumIn
  rw [List.map_congr_left fun s m => (b s m).1]
theorem total_mirror (ps : List (Int × Int)) : total (mirror ps) = total ps := by
  unfold total
  rw [perm_sum ((mirror_perm ps).map _), List.map_map]
  rfl
theorem fwd_ex {c : Int} (c1 : 1 ≤ c) (p : Rws ks) : ∃ q : Rws ks, Sw ks c p.1 q.1 ∧ total q.1 = total p.1 := by
  obtain ⟨st, h⟩ := traces_ex p.2.ok c1 p.1 [] fun q m => m
  obtain ⟨lo, la, ls⟩ := left_ok p.2.ok c1 h
  refine ⟨⟨left st, lo, la, p.2.ak⟩, sw_traces p.2.ok p.2.ap c1 h, ?_⟩
  exact ls.trans (sum_traces p.2 c1 h)
theorem bwd_ex {c : Int} (c1 : 1 ≤ c) (p : Rws ks) : ∃ q : Rws ks, Sw ks c q.1 p.1 ∧ total q.1 = total p.1 := by
  obtain ⟨q, h, e⟩ := fwd_ex c1 (⟨mirror p.1, p.2.mirror⟩ : Rws (mirror ks))
  have vq : Vd (mirror q.1) ks := by
    have := q.2.mirror
    rw [mirror_mirror] at this
    exact this
  refine ⟨⟨mirror q.1, vq⟩, sw_mirror p.2 vq c1 ?_, ?_⟩
  · rw [mirror_mirror]
    exact h
  · rw [total_mirror, e, total_mirror]
/-- one sweep, or one inverse sweep -/
def Tn (c : Int) (back : Bool) (p q : Rws ks) : Prop := if back = true then Sw ks c q.1 p.1 else Sw ks c p.1 q.1
theorem tn_one {c : Int} (c1 : 1 ≤ c) {b : Bool} {p q q' : Rws ks} (h : Tn c b p q) (h' : Tn c b p q') : q = q' := by
  unfold Tn at h h'
  cases b with
  | true => exact Subtype.ext (sw_from q.2 q'.2 c1 h h')
  | false => exact Subtype.ext (sw_one q.2 q'.2 h h')
open Classical in
/-- the row behind a sweep, or an inverse one -/
noncomputable def Fn (s : Int × Bool) (p : Rws ks) : Rws ks := if h : ∃ q, Tn s.1 s.2 p q then Classical.choose h else p
theorem fn_is {c : Int} (c1 : 1 ≤ c) (b : Bool) (p : Rws ks) : Tn c b p (Fn (c, b) p) ∧ total (Fn (c, b) p).1 = total p.1 := by
  have ex : ∃ q, Tn c b p q ∧ total q.1 = total p.1 := by
    cases b with
    | true => exact bwd_ex c1 p
    | false => exact fwd_ex c1 p
  obtain ⟨q, h1, h2⟩ := ex
  have ex2 : ∃ q, Tn c b p q := ⟨q, h1⟩
  have e : Fn (c, b) p = Classical.choose ex2 := dif_pos ex2
  have t := Classical.choose_spec ex2
  rw [← e] at t
  refine ⟨t, ?_⟩
  rw [tn_one c1 t h1]
  exact h2
theorem fn_of {c : Int} (c1 : 1 ≤ c) {b : Bool} {p q : Rws ks} (h : Tn c b p q) : q = Fn (c, b) p := tn_one c1 h (fn_is c1 b p).1
theorem fn_back {c : Int} (c1 : 1 ≤ c) (b : Bool) (p : Rws ks) : Fn (c, b) (Fn (c, !b) p) = p := by
  have h := (fn_is c1 (!b) p).1
  refine (fn_of c1 ?_).symm
  unfold Tn at h ⊢
  cases b with
  | true => exact h
  | false => exact h
theorem fn_ff {c d : Int} (c1 : 1 ≤ c) (d1 : 1 ≤ d) (p : Rws ks) : Fn (d, false) (Fn (c, false) p) = Fn (c, false) (Fn (d, false) p) :=
  Subtype.ext (sw_comm p.2 (Fn (d, false) (Fn (c, false) p)).2 (Fn (c, false) (Fn (d, false) p)).2 (Fn (c, false) p).2 (Fn (d, false) p).2 c1 d1 (fn_is c1 false p).1 (fn_is d1 false _).1 (fn_is d1 false p).1 (fn_is c1 false _).1)
theorem fn_comm {c d : Int} (c1 : 1 ≤ c) (d1 : 1 ≤ d) (a b : Bool) (p : Rws ks) : Fn (d, b) (Fn (c, a) p) = Fn (c, a) (Fn (d, b) p) := by
  have inj : ∀ {x : Int} (x1 : 1 ≤ x) (a : Bool) {p q : Rws ks}, Fn (x, a) p = Fn (x, a) q → p = q := fun {x} x1 a {p q} e => by
    have := congrArg (Fn (x, !a)) e
    have k := fun p : Rws ks => fn_back x1 (!a) p
    simp only [Bool.not_not] at k
    rw [k, k] at this
    exact this
  have k1 := fun (x : Int) (x1 : 1 ≤ x) (p : Rws ks) => fn_back x1 false p
  have k2 := fun (x : Int) (x1 : 1 ≤ x) (p : Rws ks) => fn_back x1 true p
  simp only [Bool.not_false, Bool.not_true] at k1 k2
  cases a with
  | false =>
    cases b with
    | false => exact fn_ff c1 d1 p
    | true =>
      apply inj d1 false
      rw [k1 d d1, fn_ff c1 d1, k1 d d1]
  | true =>
    cases b with
    | false =>
      apply inj c1 false
      rw [fn_ff d1 c1, k1 c c1, k1 c c1]
    | true =>
      apply inj d1 false
      rw [k1 d d1]
      apply inj c1 false
      rw [k1 c c1]
      rw [fn_ff d1 c1, k1 c c1, k1 d d1]
end
end SR
namespace SR
section
variable {ks : List (Int × Int)}
/-- the row behind some sweeps -/
noncomputable def FnL (some : List (Int × Bool)) (p : Rws ks) : Rws ks := some.foldl (fun p s => Fn s p) p
theorem fnL_perm {l l' : List (Int × Bool)} (h : l.Perm l') (one : ∀ s ∈ l, 1 ≤ s.1) (p : Rws ks) : FnL l p = FnL l' p :=
  List.Perm.foldl_eq' h (fun x hx y hy z => fn_comm (one x hx) (one y hy) x.2 y.2 z) p
theorem fnL_pair {c : Int} (c1 : 1 ≤ c) (l : List (Int × Bool)) (p : Rws ks) : FnL ((c, true) :: (c, false) :: l) p = FnL l p := by
  show FnL l (Fn (c, false) (Fn (c, true) p)) = _
  have k := fn_back c1 false p
  simp only [Bool.not_false] at k
  rw [k]
theorem fnL_total {l : List (Int × Bool)} (one : ∀ s ∈ l, 1 ≤ s.1) (p : Rws ks) : total (FnL l p).1 = total p.1 := by
  induction l generalizing p with
  | nil => rfl
  | cons s l ih =>
    show total (FnL l (Fn s p)).1 = _
    rw [ih fun t m => one t (List.mem_cons_of_mem _ m)]
    exact (fn_is (one s List.mem_cons_self) s.2 p).2
end
end SR

set_option Elab.async false
set_option linter.all false
set_option maxRecDepth 100000
set_option maxHeartbeats 4000000
/-! MTC: the steps of a sweep, as they must be. -/
namespace SR
open PySem PySem.Spec PyProof.Rows L2
structure Good (ps ks : List (Int × Int)) (most : Int) (st : List Step) : Prop where
  asc : AscS st
  is : ∀ s ∈ st, StepIs (cnt ps) (cap ks) most s
  nz : ∀ s ∈ st, 0 < s.2.1 ∨ 0 < cnt ps s.1
  ch : ∀ j, sumAt nlF st j = sumAt ldF st (j + 1)
  cov : ∀ p ∈ ps, ∃ s ∈ st, s.1 = p.1
section
variable {ps ks : List (Int × Int)} {most : Int}
theorem walks_nz (ok : RowOk ps ks) (m1 : 1 ≤ most) {i l : Int} {w : List Step} (h : Walks (cnt ps) (cap ks) most i l w) : 0 ≤ l → l ≤ most → (l = 0 → 0 < cnt ps i) → ∀ s ∈ w, 0 < s.2.1 ∨ 0 < cnt ps s.1 := by
  induction h with
  | @last i l h =>
    intro l0 l1 z s m
    rw [List.mem_singleton.mp m]
    show 0 < l ∨ 0 < cnt ps i
    by_cases e : l = 0
    · exact .inr (z e)
    · exact .inl (by omega)
  | @more i l r h t ih =>
    intro l0 l1 z s m
    obtain ⟨_, b, _⟩ := step_ok (i := i) ok m1 l0 l1
    rcases List.mem_cons.mp m with rfl | m
    · show 0 < l ∨ 0 < cnt ps i
      by_cases e : l = 0
      · exact .inr (z e)
      · exact .inl (by omega)
    · exact ih b.1 b.2 (fun e => absurd e h) s m
theorem traces_nz (ok : RowOk ps ks) (m1 : 1 ≤ most) {qs : List (Int × Int)} {acc st : List Step} (h : Traces (cnt ps) (cap ks) most qs acc st) : (∀ q ∈ qs, q ∈ ps) → (∀ s ∈ acc, 0 < s.2.1 ∨ 0 < cnt ps s.1) → ∀ s ∈ st, 0 < s.2.1 ∨ 0 < cnt ps s.1 := by
  induction h with
  | nil => exact fun _ a => a
  | skip _ _ _ ih => exact fun a b => ih (fun q m => a q (List.mem_cons_of_mem _ m)) b
  | @walk p qs acc w r on hw t ih =>
    intro a b
    have c1 : 0 < cnt ps p.1 := by
      unfold cnt
      rw [(lookup_some (n := p.2) ok.nd).mpr (a p List.mem_cons_self)]
      have := (ok.po p (a p List.mem_cons_self)).1
      show 0 < p.2
      omega
    have wz := walks_nz ok m1 hw (Int.le_refl 0) (by omega) fun _ => c1
    exact ih (fun q m => a q (List.mem_cons_of_mem _ m)) fun s m => (List.mem_append.mp m).elim (b s) (wz s)
theorem good_traces (v : Vd ps ks) (m1 : 1 ≤ most) {st : List Step} (h : Traces (cnt ps) (cap ks) most ps [] st) : Good ps ks most st := by
  obtain ⟨a, _, _⟩ := traces_all v.ok m1 h List.Pairwise.nil (fun s m => nomatch m) rfl
  obtain ⟨t1, t2, _, t4⟩ := traces_more v.ok m1 h v.ap (fun s m => nomatch m) (fun j => rfl) fun z => absurd rfl z
  exact ⟨a, t1, traces_nz v.ok m1 h (fun q m => m) (fun s m => nomatch m), t2, t4⟩
theorem good_next (v : Vd ps ks) (m1 : 1 ≤ most) {st : List Step} (g : Good ps ks most st) (i : Int) : sumAt ldF st (i + 1) = stL most (sumAt ldF st i) (cap ks i) (cnt ps i) ∧ ((∀ s ∈ st, s.1 ≠ i) → sumAt ldF st i = 0 ∧ cnt ps i = 0) := by
  by_cases ex : ∃ s ∈ st, s.1 = i
  · obtain ⟨s, m, rfl⟩ := ex
    have e := (g.is s m).1
    have n1 : s.2.2.2.1 = stL most s.2.1 (cap ks s.1) (cnt ps s.1) := congrArg (fun s : Step => s.2.2.2.1) e
    refine ⟨?_, fun z => absurd rfl (z s m)⟩
    rw [← g.ch, sumAt_mem (f := nlF) g.asc m, sumAt_mem (f := ldF) g.asc m]
    exact n1
  · have no : ∀ s ∈ st, s.1 ≠ i := fun s m e => ex ⟨s, m, e⟩
    have c0 : cnt ps i = 0 := by
      unfold cnt
      rw [lookup_none.mpr]
      · rfl
      · intro z
        obtain ⟨p, hp, e⟩ := List.mem_map.mp z
        obtain ⟨s, hs, e2⟩ := g.cov p hp
        exact no s hs (by omega)
    have cp := cap_ok v.ok.ko i
    refine ⟨?_, fun _ => ⟨sumAt_none no, c0⟩⟩
    rw [← g.ch, sumAt_none no, sumAt_none no, c0]
    unfold stL
    omega
theorem steps_eq : ∀ {a b : List Step}, AscS a → AscS b → (∀ s, s ∈ a ↔ s ∈ b) → a = b
  | [], [], _, _, _ => rfl
  | [], s :: b, _, _, h => nomatch (h s).mpr List.mem_cons_self
  | s :: a, [], _, _, h => nomatch (h s).mp List.mem_cons_self
  | s :: a, t :: b, ha, hb, h => by
    have ha' := List.pairwise_cons.mp ha
    have hb' := List.pairwise_cons.mp hb
    have e : s = t := by
      rcases List.mem_cons.mp ((h s).mp List.mem_cons_self) with e | m
      · exact e
      · rcases List.mem_cons.mp ((h t).mpr List.mem_cons_self) with e | m2
        · exact e.symm
        · have := ha'.1 t m2
          have := hb'.1 s m
          omega
    subst e
    rw [steps_eq ha'.2 hb'.2 fun u => ⟨fun m => ?_, fun m => ?_⟩]
    · rcases List.mem_cons.mp ((h u).mp (List.mem_cons_of_mem _ m)) with e | m2
      · have := ha'.1 u m
        rw [e] at this
        omega
      · exact m2
    · rcases List.mem_cons.mp ((h u).mpr (List.mem_cons_of_mem _ m)) with e | m2
      · have := hb'.1 u m
        rw [e] at this
        omega
      · exact m2
theorem good_one (v : Vd ps ks) (m1 : 1 ≤ most) {st st' : List Step} (g : Good ps ks most st) (g' : Good ps ks most st') : st = st' := by
  obtain ⟨x, _, hx⟩ := span st
  obtain ⟨x', _, hx'⟩ := span st'
  have low : ∀ i, i ≤ min x x' → sumAt ldF st i = sumAt ldF st' i := fun i hi => by
    rw [sumAt_none fun s m e => by have := hx s m; omega, sumAt_none fun s m e => by have := hx' s m; omega]
  have eq : ∀ i, sumAt ldF st i = sumAt ldF st' i := fun i => by
    by_cases z : i ≤ min x x'
    · exact low i z
    · exact up_from (P := fun i => sumAt ldF st i = sumAt ldF st' i) _ (low _ (Int.le_refl _)) (fun j _ e => by rw [(good_next v m1 g j).1, (good_next v m1 g' j).1, e]) i (by omega)
  have sub : ∀ {a b : List Step}, Good ps ks most a → Good ps ks most b → (∀ i, sumAt ldF a i = sumAt ldF b i) → ∀ s ∈ a, s ∈ b := fun {a b} ga gb e s m => by
    by_cases ex : ∃ t ∈ b, t.1 = s.1
    · obtain ⟨t, mt, et⟩ := ex
      have l1 := sumAt_mem (f := ldF) ga.asc m
      have l2 := sumAt_mem (f := ldF) gb.asc mt
      rw [et] at l2
      have e3 : s.2.1 = t.2.1 := l1.symm.trans ((e s.1).trans l2)
      have : s = t := by
        rw [(ga.is s m).1, (gb.is t mt).1, et, e3]
      rw [this]
      exact mt
    · have no : ∀ t ∈ b, t.1 ≠ s.1 := fun t mt et => ex ⟨t, mt, et⟩
      obtain ⟨z1, z2⟩ := (good_next v m1 gb s.1).2 no
      have l1 := sumAt_mem (f := ldF) ga.asc m
      have e3 : s.2.1 = 0 := l1.symm.trans ((e s.1).trans z1)
      rcases ga.nz s m with z | z <;> omega
  exact steps_eq g.asc g'.asc fun s => ⟨sub g g' eq s, sub g' g (fun i => (eq i).symm) s⟩
/-- where the steps of a sweep are -/
theorem walks_bd (ok : RowOk ps ks) (m1 : 1 ≤ most) {i l : Int} {w : List Step} (h : Walks (cnt ps) (cap ks) most i l w) : 0 ≤ l → l ≤ most → (l = 0 → 1 ≤ cnt ps i) → ∀ s ∈ w, i ≤ s.1 ∧ s.1 < i + (2 * sumFrom i ps + l) := by
  induction h with
  | @last i l h =>
    intro l0 l1 z s m
    have nx := sumFrom_next i ok.nd
    have b := sumFrom_bd (i + 1) fun p m => (ok.po p m).1
    have c := cnt_bd ok i
    rw [List.mem_singleton.mp m]
    show i ≤ i ∧ i < i + (2 * sumFrom i ps + l)
    by_cases e : l = 0
    · have := z e
      omega
    · omega
  | @more i l r h t ih =>
    intro l0 l1 z s m
    have nx := sumFrom_next i ok.nd
    have b := sumFrom_bd (i + 1) fun p m => (ok.po p m).1
    have c := cnt_bd ok i
    have cp := cap_ok ok.ko i
    obtain ⟨_, s2, s3⟩ := step_ok (i := i) ok m1 l0 l1
    have dec : 2 * sumFrom (i + 1) ps + stL most l (cap ks i) (cnt ps i) < 2 * sumFrom i ps + l := by
      have d1 : stL most l (cap ks i) (cnt ps i) ≤ l + cnt ps i := by
        unfold stL
        omega
      by_cases z0 : cnt ps i = 0
      · have : stL most l (cap ks i) (cnt ps i) < l := by
          have : l ≠ 0 := fun q => by have := z q; omega
          unfold stL
          rw [z0]
          omega
        omega
      · omega
    rcases List.mem_cons.mp m with rfl | m
    · show i ≤ i ∧ i < i + (2 * sumFrom i ps + l)
      omega
    · have := ih s2.1 s2.2 (fun e => absurd e h) s m
      omega
theorem traces_bd (ok : RowOk ps ks) (m1 : 1 ≤ most) {B : Int} {qs : List (Int × Int)} {acc st : List Step} (h : Traces (cnt ps) (cap ks) most qs acc st) : (∀ q ∈ qs, q ∈ ps) → (∀ q ∈ ps, -B ≤ q.1 ∧ q.1 ≤ B) → (∀ s ∈ acc, -B ≤ s.1 ∧ s.1 ≤ B + 80) → ∀ s ∈ st, -B ≤ s.1 ∧ s.1 ≤ B + 80 := by
  induction h with
  | nil => exact fun _ _ a => a
  | skip _ _ _ ih => exact fun a b => ih (fun q m => a q (List.mem_cons_of_mem _ m)) b
  | @walk p qs acc w r on hw t ih =>
    intro a b c
    have mp := a p List.mem_cons_self
    have c1 : 1 ≤ cnt ps p.1 := by
      unfold cnt
      rw [(lookup_some (n := p.2) ok.nd).mpr mp]
      exact (ok.po p mp).1
    have wz := walks_bd ok m1 hw (Int.le_refl 0) (by omega) fun _ => c1
    have top := (sumFrom_bd p.1 fun p m => (ok.po p m).1).2
    have s40 := ok.sm
    have pb := b p mp
    exact ih (fun q m => a q (List.mem_cons_of_mem _ m)) b fun s m => (List.mem_append.mp m).elim (c s) fun m => by have := wz s m; omega
end
end SR

set_option Elab.async false
set_option linter.all false
set_option maxRecDepth 100000
set_option maxHeartbeats 4000000
/-! K06A: the laws' own walk. -/
namespace SR
open PySem PySem.Spec PyProof.Rows L2
def rem (ps : List (Int × Int)) (pl : List Int) : Int := (pl.map fun y => cnt ps y).sum
/-- under way: places left, what is carried, the next box, the steps so far -/
structure LW (ps ks : List (Int × Int)) (most : Int) (pl : List Int) (bu pc : Int) (acc : List Step) : Prop where
  asc : pl.Pairwise (· < ·)
  sub : ∀ y ∈ pl, y ∈ ps.map Prod.fst
  cov : ∀ p ∈ ps, p.1 ∈ pl ∨ ∃ s ∈ acc, s.1 = p.1
  aa : AscS acc
  is : ∀ s ∈ acc, StepIs (cnt ps) (cap ks) most s
  nz : ∀ s ∈ acc, 0 < s.2.1 ∨ 0 < cnt ps s.1
  ch : ∀ j, sumAt nlF acc j = sumAt ldF acc (j + 1) + (if 0 < bu ∧ j + 1 = pc then bu else 0)
  o1 : 0 < bu → (∀ s ∈ acc, s.1 < pc) ∧ ∀ y ∈ pl, pc ≤ y
  o2 : bu = 0 → ∀ s ∈ acc, ∀ y ∈ pl, s.1 < y
  b0 : 0 ≤ bu
  b1 : bu ≤ most
section
variable {ps ks : List (Int × Int)} {most bu pc : Int} {pl : List Int} {acc : List Step}
theorem cnt_pos (v : Vd ps ks) {y : Int} (h : y ∈ ps.map Prod.fst) : 1 ≤ cnt ps y := by
  obtain ⟨p, m, rfl⟩ := List.mem_map.mp h
  unfold cnt
  rw [(lookup_some (n := p.2) v.ok.nd).mpr m]
  exact v.one p m
theorem lw_step (v : Vd ps ks) (m1 : 1 ≤ most) (h : LW ps ks most pl bu pc acc) {q : Int} {pl' : List Int} (hq : (bu = 0 ∧ pl.head? = some q) ∨ (0 < bu ∧ q = pc)) (hp : (pl = q :: pl') ∨ (pl.head? ≠ some q ∧ pl' = pl)) :
    LW ps ks most pl' (stL most bu (cap ks q) (cnt ps q)) (q + 1) (acc ++ [stepAt (cnt ps) (cap ks) most q bu]) ∧ 2 * rem ps pl' + stL most bu (cap ks q) (cnt ps q) < 2 * rem ps pl + bu := by
  have n := cnt_bd v.ok q
  have cp := cap_ok v.ok.ko q
  obtain ⟨_, s2, s3⟩ := step_ok (i := q) v.ok m1 h.b0 h.b1
  have A : ∀ s ∈ acc, s.1 < q := fun s m => by
    rcases hq with ⟨z, e⟩ | ⟨z, e⟩
    · exact h.o2 z s m q (List.mem_of_mem_head? e)
    · rw [e]
      exact (h.o1 z).1 s m
  have Bq : ∀ y ∈ pl, q ≤ y := fun y m => by
    rcases hq with ⟨z, e⟩ | ⟨z, e⟩
    · cases pl with
      | nil => cases m
      | cons a t =>
        cases e
        rcases List.mem_cons.mp m with e | m
        · omega
        · have := (List.pairwise_cons.mp h.asc).1 y m
          omega
    · rw [e]
      exact (h.o1 z).2 y m
  have Cq : ∀ y ∈ pl', q < y := fun y m => by
    rcases hp with e | ⟨ne, e⟩
    · have z := h.asc
      rw [e] at z
      exact (List.pairwise_cons.mp z).1 y m
    · rw [e] at m
      have b := Bq y m
      have : y ≠ q := fun z => by
        cases pl with
        | nil => cases m
        | cons a t =>
          rcases List.mem_cons.mp m with e2 | m2
          · exact ne (by rw [← e2, z]; rfl)
          · have := (List.pairwise_cons.mp h.asc).1 y m2
            have := Bq a List.mem_cons_self
            omega
      omega
  have asc' : pl'.Pairwise (· < ·) := by
    rcases hp with e | ⟨_, e⟩
    · have z := h.asc
      rw [e] at z
      exact (List.pairwise_cons.mp z).2
    · rw [e]
      exact h.asc
  have sub' : ∀ y ∈ pl', y ∈ ps.map Prod.fst := fun y m => by
    rcases hp with e | ⟨_, e⟩
    · exact h.sub y (by rw [e]; exact List.mem_cons_of_mem _ m)
    · rw [e] at m
      exact h.sub y m
  have D : pl.head? ≠ some q → cnt ps q = 0 := fun ne => by
    unfold cnt
    rw [lookup_none.mpr]
    · rfl
    · intro z
      obtain ⟨p, hp2, e⟩ := List.mem_map.mp z
      rcases h.cov p hp2 with m | ⟨s, m, e2⟩
      · rw [e] at m
        rcases hp with e3 | ⟨_, e3⟩
        · rw [e3] at ne
          exact ne rfl
        · have := Cq q (by rw [e3]; exact m)
          omega
      · have := A s m
        omega
  have pos : 0 < bu ∨ 1 ≤ cnt ps q := by
    rcases hq with ⟨_, e⟩ | ⟨z, _⟩
    · exact .inr (cnt_pos v (h.sub q (List.mem_of_mem_head? e)))
    · exact .inl z
  refine ⟨⟨asc', sub', fun p m => ?_, ?_, fun s m => ?_, fun s m => ?_, fun j => ?_, fun z => ⟨fun s m => ?_, fun y m => by have := Cq y m; omega⟩, fun z s m y my => ?_, s2.1, s2.2⟩, ?_⟩
  · rcases h.cov p m with m2 | ⟨s, m2, e⟩
    · rcases hp with e | ⟨_, e⟩
      · rw [e] at m2
        rcases List.mem_cons.mp m2 with e2 | m3
        · exact .inr ⟨_, List.mem_append_right _ (List.mem_singleton.mpr rfl), e2.symm⟩
        · exact .inl m3
      · rw [e]
        exact .inl m2
    · exact .inr ⟨s, List.mem_append_left _ m2, e⟩
  · refine List.pairwise_append.mpr ⟨h.aa, List.pairwise_singleton _ _, fun s m t mt => ?_⟩
    rw [List.mem_singleton.mp mt]
    exact A s m
  · rcases List.mem_append.mp m with m | m
    · exact h.is s m
    · rw [List.mem_singleton.mp m]
      exact ⟨rfl, h.b0, h.b1⟩
  · rcases List.mem_append.mp m with m | m
    · exact h.nz s m
    · rw [List.mem_singleton.mp m]
      show 0 < bu ∨ 0 < cnt ps q
      rcases pos with z | z
      · exact .inl z
      · exact .inr (by omega)
  · rw [sumAt_app, sumAt_app, h.ch j, sumAt_cons, sumAt_cons]
    show _ + _ + ((if q = j then stL most bu (cap ks q) (cnt ps q) else 0) + 0) = _ + ((if q = j + 1 then bu else 0) + 0) + _
    have h1 : (if 0 < bu ∧ j + 1 = pc then bu else 0) = if q = j + 1 then bu else 0 := by
      rcases hq with ⟨z, _⟩ | ⟨z, e⟩
      · rw [z]
        split <;> split <;> rfl
      · subst e
        split <;> split <;> omega
    rw [h1]
    by_cases k : q = j
    · rw [if_pos k]
      have := s2.1
      by_cases z : 0 < stL most bu (cap ks q) (cnt ps q)
      · rw [if_pos (show 0 < stL most bu (cap ks q) (cnt ps q) ∧ j + 1 = q + 1 from ⟨z, by omega⟩)]
        omega
      · rw [if_neg (show ¬ (0 < stL most bu (cap ks q) (cnt ps q) ∧ j + 1 = q + 1) from fun w => z w.1)]
        omega
    · rw [if_neg k, if_neg (show ¬ (0 < stL most bu (cap ks q) (cnt ps q) ∧ j + 1 = q + 1) from fun w => k (by omega))]
      omega
  · rcases List.mem_append.mp m with m | m
    · have := A s m
      omega
    · rw [List.mem_singleton.mp m]
      show q < q + 1
      omega
  · have := Cq y my
    rcases List.mem_append.mp m with m | m
    · have := A s m
      omega
    · rw [List.mem_singleton.mp m]
      exact this
  · have up : stL most bu (cap ks q) (cnt ps q) ≤ bu + cnt ps q := by
      unfold stL
      omega
    rcases hp with e | ⟨ne, e⟩
    · have c1 : 1 ≤ cnt ps q := cnt_pos v (h.sub q (by rw [e]; exact List.mem_cons_self))
      have : rem ps pl = cnt ps q + rem ps pl' := by rw [e]; rfl
      omega
    · have c0 := D ne
      have b : 0 < bu := by
        rcases hq with ⟨_, e2⟩ | ⟨z, _⟩
        · exact absurd e2 ne
        · exact z
      have : stL most bu (cap ks q) (cnt ps q) < bu := by
        unfold stL
        rw [c0]
        omega
      rw [e]
      omega
theorem lw_end (h : LW ps ks most [] 0 pc acc) : Good ps ks most acc := ⟨h.aa, h.is, h.nz, fun j => by rw [h.ch j, if_neg (fun z => by have := z.1; omega)]; omega, fun p m => (h.cov p m).elim (fun z => nomatch z) id⟩
theorem lw_begin (v : Vd ps ks) (m1 : 1 ≤ most) : LW ps ks most (ps.map Prod.fst) 0 0 [] := ⟨by rw [List.pairwise_map]; exact v.ap, fun y m => m, fun p m => .inl (List.mem_map_of_mem m), .nil, (fun s m => nomatch m), (fun s m => nomatch m), fun j => by rw [if_neg (fun z => by have := z.1; omega)]; rfl, fun z => absurd z (by decide), (fun _ s m => nomatch m), Int.le_refl _, by omega⟩
theorem rem_all (v : Vd ps ks) : rem ps (ps.map Prod.fst) = total ps := by
  have key : ∀ xs : List (Int × Int), (∀ p ∈ xs, cnt ps p.1 = p.2) → rem ps (xs.map Prod.fst) = total xs := by
    intro xs
    induction xs with
    | nil => exact fun _ => rfl
    | cons p xs ih =>
      intro h
      have := ih fun q m => h q (List.mem_cons_of_mem _ m)
      unfold rem total at this ⊢
      rw [List.map_cons, List.map_cons, List.sum_cons, List.map_cons, List.sum_cons, this, h p List.mem_cons_self]
  refine key ps fun p m => ?_
  unfold cnt
  rw [(lookup_some (n := p.2) v.ok.nd).mpr m]
  rfl
end
/-! ### the walk as it is written -/
def spLWalk (K : PySem.W.Frag) : Sp := fun vs H Q _ => ∃ (F Z : Addr) (fs zs ps ks : List (Int × Int)) (most : Int), vs = [.ref F, .ref Z, .int most] ∧ H F = some (.dK (kvsOf fs)) ∧ H Z = some (.dK (kvsOf zs)) ∧ Vd ps ks ∧ fs.Perm ps ∧ zs.Perm ks ∧ 1 ≤ most ∧
  ∀ r H' st, H r = none → Same H H' → StepsAt H' r st → Good ps ks most st → (st.length : Int) ≤ 2 * total ps → Q (.ref r) H'
def t_lwBody (K : PySem.W.Frag) : TS := (tSeq (tAsg (tIf (tTest (tOp rEq (tVar 4) (tC (.int 0)))) (tOp (rIxL K) (tVar 3) (tC (.int 0))) (tVar 5)) (gName 5))
  (tSeq (tAsg (tIf (tTest (tOp (rEqD K) (tSl (rSlL K) (tVar 3) (tNoPart) (tPart (tC (.int 1)))) (tLst (tCons (tVar 5) (tNil))))) (tSl (rSlL K) (tVar 3) (tPart (tC (.int 1))) (tNoPart)) (tVar 3)) (gName 3))
  (tSeq (tAsg (tDGet2 (tVar 0) (tVar 5) (tC (.int 0))) (gName 7))
  (tSeq (tAsg (tCall spLPassed [] E0 (tCons (tVar 2) (tCons (tVar 4) (tCons (tDGet2 (tVar 1) (tVar 5) (tC (.int 1))) (tCons (tVar 7) (tNil)))))) (gTup K 2 (gCons (gName 8) (gCons (gName 9) (gNil)))))
  (tSeq (tDrop (tBM K "list" rAppend (tVar 6) (tCons (tTup (tCons (tVar 5) (tCons (tVar 4) (tCons (tVar 7) (tCons (tVar 9) (tCons (tVar 8) (tNil))))))) (tNil))))
  (tPar 4 5 (tCons (tVar 9) (tCons (tOp qAdd (tVar 5) (tC (.int 1))) (tNil)))))))))
def t_lwalk (K : PySem.W.Frag) : TS := tSeq (tAsg (tTup (tCons (tCB qSortedD (tCons (tVar 0) (tNil))) (tCons (tC (.int 0)) (tCons (tC (.int 0)) (tCons (tLst (tNil)) (tNil)))))) (gTup K 4 (gCons (gName 3) (gCons (gName 4) (gCons (gName 5) (gCons (gName 6) (gNil)))))))
  (tSeq (tWhile (tOr (tTest (tOp qGt (tVar 4) (tC (.int 0)))) (tTest (tOp (rNeD K) (tVar 3) (tLst (tNil)))))
  (t_lwBody K))
  (tRet (tVar 6)))
end SR

set_option Elab.async false
set_option linter.all false
set_option maxRecDepth 100000
set_option maxHeartbeats 4000000
/-! K06B: the laws' own walk, run. -/
namespace SR
open PySem PySem.Spec PyProof.Rows L2
theorem cnt_perm {fs ps : List (Int × Int)} (nd : (ps.map Prod.fst).Nodup) (pm : fs.Perm ps) (q : Int) : (valV (kvsOf fs) (.inl q)).getD (.int 0) = .int (cnt ps q) := by
  rw [val_pairs, ← lookup_perm pm.symm nd]
  unfold cnt
  cases ps.lookup q <;> rfl
theorem cap_perm {zs ks : List (Int × Int)} (nd : (ks.map Prod.fst).Nodup) (pm : zs.Perm ks) (q : Int) : (valV (kvsOf zs) (.inl q)).getD (.int 1) = .int (cap ks q) := by
  rw [val_pairs, ← lookup_perm pm.symm nd]
  unfold cap
  cases ks.lookup q <;> rfl
def t_lwEnd (K : PySem.W.Frag) : TS := (tSeq (tAsg (tDGet2 (tVar 0) (tVar 5) (tC (.int 0))) (gName 7))
  (tSeq (tAsg (tCall spLPassed [] E0 (tCons (tVar 2) (tCons (tVar 4) (tCons (tDGet2 (tVar 1) (tVar 5) (tC (.int 1))) (tCons (tVar 7) (tNil)))))) (gTup K 2 (gCons (gName 8) (gCons (gName 9) (gNil)))))
  (tSeq (tDrop (tBM K "list" rAppend (tVar 6) (tCons (tTup (tCons (tVar 5) (tCons (tVar 4) (tCons (tVar 7) (tCons (tVar 9) (tCons (tVar 8) (tNil))))))) (tNil))))
  (tPar 4 5 (tCons (tVar 9) (tCons (tOp qAdd (tVar 5) (tC (.int 1))) (tNil)))))))
section
variable {K : PySem.W.Frag} {ps ks fs zs : List (Int × Int)} {most bu pc : Int} {pl : List Int} {acc : List Step}
theorem lw_tail {H : Hp} {F Z s f : Addr} {ts : List Addr} {q : Int} {w7 w8 w9 : Option V} {N N2 N3 : L2.St → Hp → Prop} {R : VK} (v : Vd ps ks) (pm : fs.Perm ps) (zm : zs.Perm ks) (hF : H F = some (.dK (kvsOf fs))) (hZ : H Z = some (.dK (kvsOf zs))) (F0 : H f = some (.lst (ts.map V.ref))) (hts : Paired (TupS H) ts acc) (len : acc.length ≤ 100)
    (hN : ∀ H' us w7 w8 w9, SameBut f H H' → H' f = some (.lst (us.map V.ref)) → Paired (TupS H') us (acc ++ [stepAt (cnt ps) (cap ks) most q bu]) → N [some (.ref F), some (.ref Z), some (.int most), some (.ref s), some (.int (stL most bu (cap ks q) (cnt ps q))), some (.int (q + 1)), some (.ref f), w7, w8, w9] H') :
    t_lwEnd K { nx := N, rt := R, bk := N2, ct := N3 } [some (.ref F), some (.ref Z), some (.int most), some (.ref s), some (.int bu), some (.int q), some (.ref f), w7, w8, w9] H := by
  refine ⟨_, rfl, F, rfl, .inl ⟨_, .inl hF⟩, _, rfl, _, DGet.k (k := .inl q) hF, ?_⟩
  rw [cnt_perm v.ok.nd pm]
  refine ⟨_, rfl, _, rfl, _, rfl, Z, rfl, .inl ⟨_, .inl hZ⟩, _, rfl, _, DGet.k (k := .inl q) hZ, ?_⟩
  rw [cap_perm v.ok.kd zm]
  refine ⟨_, rfl, most, bu, cap ks q, cnt ps q, rfl, fun p hp => ?_⟩
  have s1 := same_new (o := .tup [.int (stC most bu (cap ks q) (cnt ps q)), .int (stL most bu (cap ks q) (cnt ps q))]) hp
  have P1 : upd H p (.tup [.int (stC most bu (cap ks q) (cnt ps q)), .int (stL most bu (cap ks q) (cnt ps q))]) p = some (.tup [.int (stC most bu (cap ks q) (cnt ps q)), .int (stL most bu (cap ks q) (cnt ps q))]) := upd_same
  generalize upd H p (.tup [.int (stC most bu (cap ks q) (cnt ps q)), .int (stL most bu (cap ks q) (cnt ps q))]) = H1 at s1 P1 ⊢
  refine ⟨p, _, rfl, SqT.of P1, rfl, _, _, rfl, _, _, rfl, rfl, ?_⟩
  have L1 := s1 _ _ F0
  refine ⟨_, rfl, .inl ⟨rfl, _, SqL.of L1⟩, _, rfl, _, rfl, _, rfl, _, rfl, _, rfl, sz (by show 5 ≤ 1000; decide), fun t ht => ?_⟩
  have s2 := same_new (o := .tup [.int q, .int bu, .int (cnt ps q), .int (stL most bu (cap ks q) (cnt ps q)), .int (stC most bu (cap ks q) (cnt ps q))]) ht
  have T2 : TupS (upd H1 t (.tup [.int q, .int bu, .int (cnt ps q), .int (stL most bu (cap ks q) (cnt ps q)), .int (stC most bu (cap ks q) (cnt ps q))])) t (stepAt (cnt ps) (cap ks) most q bu) := upd_same
  generalize upd H1 t (.tup [.int q, .int bu, .int (cnt ps q), .int (stL most bu (cap ks q) (cnt ps q)), .int (stC most bu (cap ks q) (cnt ps q))]) = H2 at s2 T2 ⊢
  have L2' := s2 _ _ L1
  have tl : ts.length = acc.length := paired_len hts
  refine ⟨f, _, _, rfl, rfl, L2', ?_, ?_⟩
  · rw [List.length_map, tl]
    exact Nat.lt_of_le_of_lt len (by decide)
  refine ⟨_, rfl, _, rfl, _, _, rfl, rfl, _, _, rfl, ?_⟩
  have keep : ∀ {b : Addr} {st : Step}, TupS H2 b st → TupS (upd H2 f (.lst (ts.map V.ref ++ [.ref t]))) b st := fun {b st} z => (upd_ne (ne_of z L2' (by intro e; cases e))).trans z
  refine hN _ (ts ++ [t]) _ _ _ (fun b o ne h => (upd_ne ne).trans (s2 _ _ (s1 _ _ h))) ?_ (paired_snoc (keep T2) (paired_imp (fun _ _ z => keep (s2 _ _ (s1 _ _ z))) hts))
  rw [upd_same, List.map_append]
  rfl
@[irreducible] def xLwEnd := @t_lwEnd
theorem xLwEnd_eq : @xLwEnd = @t_lwEnd := by
  unfold xLwEnd
  rfl
def t_lwBody' (K : PySem.W.Frag) : TS := (tSeq (tAsg (tIf (tTest (tOp rEq (tVar 4) (tC (.int 0)))) (tOp (rIxL K) (tVar 3) (tC (.int 0))) (tVar 5)) (gName 5))
  (tSeq (tAsg (tIf (tTest (tOp (rEqD K) (tSl (rSlL K) (tVar 3) (tNoPart) (tPart (tC (.int 1)))) (tLst (tCons (tVar 5) (tNil))))) (tSl (rSlL K) (tVar 3) (tPart (tC (.int 1))) (tNoPart)) (tVar 3)) (gName 3))
  (xLwEnd K)))
theorem lwBody_eq : t_lwBody K = t_lwBody' K := by
  unfold t_lwBody'
  rw [xLwEnd_eq]
  rfl
theorem lw_body {H : Hp} {F Z s f : Addr} {ts : List Addr} {w7 w8 w9 : Option V} {N N2 N3 : L2.St → Hp → Prop} {R : VK} (v : Vd ps ks) (m1 : 1 ≤ most) (pm : fs.Perm ps) (zm : zs.Perm ks) (hF : H F = some (.dK (kvsOf fs))) (hZ : H Z = some (.dK (kvsOf zs))) (S0 : H s = some (.lst (pl.map V.int))) (F0 : H f = some (.lst (ts.map V.ref))) (nsf : s ≠ f)
    (hts : Paired (TupS H) ts acc) (h : LW ps ks most pl bu pc acc) (hne : 0 < bu ∨ pl ≠ []) (len : acc.length ≤ 100) (nF : F ≠ f) (nZ : Z ≠ f)
    (hN : ∀ H' s' pl' bu' pc' us acc' w7 w8 w9, SameBut f H H' → H' s' = some (.lst (pl'.map V.int)) → H' f = some (.lst (us.map V.ref)) → s' ≠ f → Paired (TupS H') us acc' → LW ps ks most pl' bu' pc' acc' → 2 * rem ps pl' + bu' < 2 * rem ps pl + bu → acc'.length = acc.length + 1 → N [some (.ref F), some (.ref Z), some (.int most), some (.ref s'), some (.int bu'), some (.int pc'), some (.ref f), w7, w8, w9] H') :
    t_lwBody K { nx := N, rt := R, bk := N2, ct := N3 } [some (.ref F), some (.ref Z), some (.int most), some (.ref s), some (.int bu), some (.int pc), some (.ref f), w7, w8, w9] H := by
  rw [lwBody_eq]
  have fin : ∀ (q : Int) (pl' : List Int) (s' : Addr) (H1 : Hp), ((bu = 0 ∧ pl.head? = some q) ∨ (0 < bu ∧ q = pc)) → ((pl = q :: pl') ∨ (pl.head? ≠ some q ∧ pl' = pl)) → Same H H1 → H1 s' = some (.lst (pl'.map V.int)) → s' ≠ f →
      xLwEnd K { nx := N, rt := R, bk := N2, ct := N3 } [some (.ref F), some (.ref Z), some (.int most), some (.ref s'), some (.int bu), some (.int q), some (.ref f), w7, w8, w9] H1 := fun q pl' s' H1 hq hp s1 S1 ns => by
    rw [xLwEnd_eq]
    obtain ⟨st, dec⟩ := lw_step v m1 h hq hp
    refine lw_tail v pm zm (s1 _ _ hF) (s1 _ _ hZ) (s1 _ _ F0) (paired_imp (fun _ _ z => s1 _ _ z) hts) len fun H' us y7 y8 y9 k' f' p' => hN H' s' pl' _ _ us _ y7 y8 y9 (fun b o e z => k' b o e (s1 _ _ z)) (k' _ _ ns S1) f' ns p' st dec ?_
    rw [List.length_append]
    rfl
  have go : ∀ q : Int, ((bu = 0 ∧ pl.head? = some q) ∨ (0 < bu ∧ q = pc)) →
      (tSeq (tAsg (tIf (tTest (tOp (rEqD K) (tSl (rSlL K) (tVar 3) (tNoPart) (tPart (tC (.int 1)))) (tLst (tCons (tVar 5) (tNil))))) (tSl (rSlL K) (tVar 3) (tPart (tC (.int 1))) (tNoPart)) (tVar 3)) (gName 3)) (xLwEnd K)) { nx := N, rt := R, bk := N2, ct := N3 }
        [some (.ref F), some (.ref Z), some (.int most), some (.ref s), some (.int bu), some (.int q), some (.ref f), w7, w8, w9] H := fun q hq => by
    refine ⟨_, rfl, 1, rfl, s, _, rfl, SqL.of S0, fun l1 h1 => ?_⟩
    have s1 := same_new (o := .lst (cutV (pl.map V.int) none (some 1))) h1
    have A1 : upd H l1 (.lst (cutV (pl.map V.int) none (some 1))) l1 = some (.lst (cutV (pl.map V.int) none (some 1))) := upd_same
    generalize upd H l1 (.lst (cutV (pl.map V.int) none (some 1))) = H1 at s1 A1 ⊢
    refine ⟨_, rfl, sz (by show 1 ≤ 1000; decide), fun l2 h2 => ?_⟩
    have s2 := s1.trans (same_new (o := .lst [V.int q]) h2)
    have A2 := same_new (o := .lst [V.int q]) h2 _ _ A1
    have B2 : upd H1 l2 (.lst [V.int q]) l2 = some (.lst ([q].map V.int)) := upd_same
    generalize upd H1 l2 (.lst [V.int q]) = H2 at s2 A2 B2 ⊢
    have S2 := s2 _ _ S0
    by_cases e : pl.head? = some q
    · obtain ⟨t, rfl⟩ : ∃ t, pl = q :: t := by
        cases pl with
        | nil => cases e
        | cons a t =>
          cases e
          exact ⟨t, rfl⟩
      rw [List.map_cons, cut_head] at A2
      refine eq_same (dp_list (xs := [q]) A2) (dp_list (xs := [q]) B2) (shaped_ints [q]) ⟨_, rfl, iteT ⟨_, rfl, 1, rfl, s, _, rfl, SqL.of S2, fun p hp => ?_⟩⟩
      rw [List.map_cons, cut_tail]
      have s3 := s2.trans (same_new (o := .lst (t.map V.int)) hp)
      exact fin q t p _ hq (.inl rfl) s3 upd_same fun z => by rw [z, s2 _ _ F0] at hp; cases hp
    · have no : ∃ d, Dp K H2 (.ref l1) d ∧ SeqAt.shaped d = true ∧ PyData.eqv d (.list [.int q]) = false := by
        cases pl with
        | nil => exact ⟨.list [], .lst (SqL.of A2) .nil, shaped_ints [], rfl⟩
        | cons a t =>
          rw [List.map_cons, cut_head] at A2
          exact ⟨.list [.int a], dp_list (xs := [a]) A2, shaped_ints [a], eqv_int1 fun z => e (by rw [z]; rfl)⟩
      obtain ⟨d, d1, d2, d3⟩ := no
      refine ⟨d, .list [.int q], d1, dp_list (xs := [q]) B2, d2, shaped_ints [q], _, rfl, ?_⟩
      rw [d3]
      exact iteF ⟨_, rfl, fin q pl s H2 hq (.inr ⟨e, rfl⟩) s2 S2 nsf⟩
  refine ⟨_, rfl, rfl, _, rfl, ?_⟩
  by_cases z : bu = 0
  · obtain ⟨q, t, rfl⟩ : ∃ q t, pl = q :: t := by
      cases pl with
      | nil => exact (hne.elim (fun w => by omega) fun w => absurd rfl w)
      | cons a t => exact ⟨a, t, rfl⟩
    rw [decide_eq_true (show V.int bu = V.int 0 by rw [z])]
    exact iteT ⟨_, rfl, s, _, 0, .int q, rfl, rfl, SqL.of S0, atI_nat (j := 0) rfl, go q (.inl ⟨z, rfl⟩)⟩
  · rw [decide_eq_false (fun w => z (V.int.inj w))]
    exact iteF ⟨_, rfl, go pc (.inr ⟨by have := h.b0; omega, rfl⟩)⟩
end
theorem pure_lwalk {K : PySem.W.Frag} (vs : List V) (H : Hp) (Q : VK) (E : XK) (h : spLWalk K vs H Q E) : t_lwalk K { nx := fun _ H' => Q .non H', rt := Q } (start ["boxes", "sizes", "most", "places", "burden", "place", "found", "amount", "later", "after"] vs) H := by
  obtain ⟨F, Z, fs, zs, ps, ks, most, rfl, hF, hZ, v, pm, zm, m1, q⟩ := h
  have pl := v.ok.len
  have fl : fs.length < 64 := by rw [pm.length_eq]; omega
  have keys : (kvsOf fs).map (·.1) = (fs.map Prod.fst).map Sum.inl := by
    unfold kvsOf
    rw [List.map_map, List.map_map]
    rfl
  refine ⟨_, rfl, F, _, _, rfl, .inl hF, keys, by rw [List.length_map]; exact fl, fun ys s pm2 pw hs => ?_⟩
  have e : ys = ps.map Prod.fst := by
    have pm3 : ys.Perm (ps.map Prod.fst) := pm2.trans (pm.map _)
    have nd : ys.Nodup := pm3.nodup_iff.mpr v.ok.nd
    have a1 : Asc (ones ys) := ones_asc ((List.Pairwise.and pw nd).imp fun {x y} z => by
      have := z.1
      have := z.2
      omega)
    have a2 : Asc (ones (ps.map Prod.fst)) := ones_asc (by rw [List.pairwise_map]; exact v.ap)
    have := congrArg (List.map Prod.fst) (asc_eq a1 a2 (pm3.map _))
    rw [ones_fst, ones_fst] at this
    exact this
  subst e
  have s1 := same_new (o := .lst ((ps.map Prod.fst).map V.int)) hs
  have S1 : upd H s (.lst ((ps.map Prod.fst).map V.int)) s = some (.lst ((ps.map Prod.fst).map V.int)) := upd_same
  generalize upd H s (.lst ((ps.map Prod.fst).map V.int)) = H1 at s1 S1 ⊢
  refine ⟨sz (Nat.zero_le _), fun f hf => ?_⟩
  have s2 := s1.trans (same_new (o := .lst []) hf)
  have S2 := same_new (o := .lst []) hf _ _ S1
  have F2 : upd H1 f (.lst []) f = some (.lst []) := upd_same
  generalize upd H1 f (.lst []) = H2 at s2 S2 F2 ⊢
  refine ⟨sz (by show 4 ≤ 1000; decide), fun t ht => ⟨t, _, rfl, SqT.of upd_same, rfl, _, _, rfl, _, _, rfl, _, _, rfl, _, _, rfl, rfl, ?_⟩⟩
  have s3 := s2.trans (same_new (o := .tup [.ref s, .int 0, .int 0, .ref f]) ht)
  have S3 := same_new (o := .tup [.ref s, .int 0, .int 0, .ref f]) ht _ _ S2
  have F3 := same_new (o := .tup [.ref s, .int 0, .int 0, .ref f]) ht _ _ F2
  generalize upd H2 t (.tup [.ref s, .int 0, .int 0, .ref f]) = H3 at s3 S3 F3 ⊢
  have nsf : s ≠ f := fun z => by rw [z] at S1; rw [S1] at hf; cases hf
  have hf0 : H f = none := Same.free s1 hf
  have nF : F ≠ f := ne_of_none hF hf0
  have nZ : Z ≠ f := ne_of_none hZ hf0
  have tot : total ps ≤ 40 := v.ok.sm
  have r0 := rem_all v
  have tp : 0 ≤ total ps := by
    have := len_sum v.one
    unfold total
    omega
  refine ⟨fun m σ H4 => ∃ s pl bu pc us acc w7 w8 w9, m = (2 * rem ps pl + bu).toNat ∧ 0 ≤ 2 * rem ps pl + bu ∧ SameBut f H3 H4 ∧ H4 s = some (.lst (pl.map V.int)) ∧ H4 f = some (.lst (us.map V.ref)) ∧ s ≠ f ∧ Paired (TupS H4) us acc ∧ LW ps ks most pl bu pc acc ∧ ((acc.length + m : Nat) : Int) ≤ 2 * total ps ∧ σ = [some (.ref F), some (.ref Z), some (.int most), some (.ref s), some (.int bu), some (.int pc), some (.ref f), w7, w8, w9],
    ⟨_, s, _, 0, 0, [], [], none, none, none, rfl, by rw [r0]; omega, (fun b o _ h => h), S3, F3, nsf, .nil, lw_begin v m1, by rw [List.length_nil, r0]; omega, rfl⟩, ?_⟩
  rintro m σ H4 ⟨s, pl, bu, pc, us, acc, w7, w8, w9, rfl, r1, k4, S4, F4, nsf, pr, lw, len, rfl⟩
  have go : ∀ H5, Same H4 H5 → (0 < bu ∨ pl ≠ []) → ∃ Nn : L2.St → Hp → Prop, (∀ σ' H', Nn σ' H' → ∃ m', m' < (2 * rem ps pl + bu).toNat ∧ ∃ s pl bu pc us acc w7 w8 w9, m' = (2 * rem ps pl + bu).toNat ∧ 0 ≤ 2 * rem ps pl + bu ∧ SameBut f H3 H' ∧ H' s = some (.lst (pl.map V.int)) ∧ H' f = some (.lst (us.map V.ref)) ∧ s ≠ f ∧ Paired (TupS H') us acc ∧ LW ps ks most pl bu pc acc ∧ ((acc.length + m' : Nat) : Int) ≤ 2 * total ps ∧ σ' = [some (.ref F), some (.ref Z), some (.int most), some (.ref s), some (.int bu), some (.int pc), some (.ref f), w7, w8, w9]) ∧
      t_lwBody K { nx := Nn, rt := Q, bk := tRet (tVar 6) { nx := fun _ H' => Q .non H', rt := Q }, ct := Nn } [some (.ref F), some (.ref Z), some (.int most), some (.ref s), some (.int bu), some (.int pc), some (.ref f), w7, w8, w9] H5 := fun H5 s5 ne => by
    have k5 : SameBut f H3 H5 := fun b o e z => s5 _ _ (k4 b o e z)
    refine ⟨_, fun σ' H' z => z, lw_body v m1 pm zm (k5 _ _ nF (s3 _ _ hF)) (k5 _ _ nZ (s3 _ _ hZ)) (s5 _ _ S4) (s5 _ _ F4) nsf (paired_imp (fun _ _ z => s5 _ _ z) pr) lw ne (by omega) nF nZ fun H' s' pl' bu' pc' us' acc' y7 y8 y9 k6 S6 F6 ns6 pr6 lw6 dec l6 => ?_⟩
    have nn : 0 ≤ 2 * rem ps pl' + bu' := by
      have a := lw6.b0
      have b : 0 ≤ rem ps pl' := by
        unfold rem
        have : ∀ xs : List Int, 0 ≤ (xs.map fun y => cnt ps y).sum := by
          intro xs
          induction xs with
          | nil => exact Int.le_refl _
          | cons x xs ih =>
            rw [List.map_cons, List.sum_cons]
            have := (cnt_bd v.ok x).1
            omega
        exact this pl'
      omega
    exact ⟨_, by omega, s', pl', bu', pc', us', acc', y7, y8, y9, rfl, nn, k5.trans k6, S6, F6, ns6, pr6, lw6, by omega, rfl⟩
  refine ⟨_, rfl, _, _, rfl, rfl, _, rfl, ?_⟩
  by_cases pos : 0 < bu
  · rw [decide_eq_true pos]
    exact iteT (iteT (go H4 (fun _ _ z => z) (.inl pos)))
  · rw [decide_eq_false pos]
    refine iteF ⟨_, rfl, sz (Nat.zero_le _), fun e he => ⟨.list (pl.map PyData.int), .list [], dp_list ((upd_ne (ne_of_none S4 he)).trans S4), .lst (SqL.of upd_same) .nil, shaped_ints pl, shaped_ints [], _, rfl, ?_⟩⟩
    cases pl with
    | cons y t =>
      rw [show (!PyData.eqv (.list ((y :: t).map PyData.int)) (.list [])) = true from rfl]
      exact iteT (go _ (same_new he) (.inr (by simp)))
    | nil =>
      rw [show (!PyData.eqv (.list (([] : List Int).map PyData.int)) (.list [])) = false from rfl]
      have b0 : bu = 0 := by
        have := lw.b0
        omega
      subst b0
      have s5 := same_new (o := .lst []) he
      refine iteF ⟨_, rfl, q f _ acc hf0 (fun b o z => s5 _ _ (k4 _ _ (ne_of_none z hf0) (s3 _ _ z))) ⟨us, s5 _ _ F4, paired_imp (fun _ _ z => s5 _ _ z) pr⟩ (lw_end lw) (by omega)⟩
end SR

set_option Elab.async false
set_option linter.all false
set_option maxRecDepth 100000
set_option maxHeartbeats 4000000
/-! K06C: what a law's walk leaves. -/
namespace SR
open PySem PySem.Spec PyProof.Rows L2
def PutS (fs : List (Int × Int)) (st : List Step) : List (Int × Int) := st.foldl (fun g s => putI g s.1 s.2.2.2.2) fs
theorem putI_look (fs : List (Int × Int)) (k n i : Int) : (putI fs k n).lookup i = if i = k then some n else fs.lookup i := by
  unfold putI
  split
  · rename_i h
    induction fs with
    | nil => cases h
    | cons p fs ih =>
      rw [List.map_cons]
      show List.lookup i ((if p.1 = k then (p.1, n) else p) :: _) = if i = k then some n else List.lookup i (p :: fs)
      obtain ⟨a, b⟩ := p
      by_cases e : a = k
      · subst e
        rw [if_pos rfl, List.lookup_cons, List.lookup_cons]
        by_cases z : i = a
        · subst z
          rw [beq_self_eq_true, if_pos rfl]
        · rw [beq_eq_false_iff_ne.mpr z, if_neg z]
          have : fs.map (fun p => if p.1 = a then (p.1, n) else p) = fs.map fun p => if p.1 = a then (p.1, n) else p := rfl
          by_cases m : a ∈ fs.map Prod.fst
          · have := ih m
            rw [if_neg z] at this
            exact this
          · have id_ : fs.map (fun p => if p.1 = a then (p.1, n) else p) = fs := by
              have : ∀ p ∈ fs, (if p.1 = a then (p.1, n) else p) = p := fun p hp => if_neg fun q => m (List.mem_map.mpr ⟨p, hp, q⟩)
              rw [List.map_congr_left this, List.map_id']
            rw [id_]
      · rw [if_neg e, List.lookup_cons, List.lookup_cons]
        have hm : k ∈ fs.map Prod.fst := by
          rcases List.mem_cons.mp h with q | q
          · exact absurd q.symm e
          · exact q
        have := ih hm
        by_cases z : i = a
        · subst z
          rw [beq_self_eq_true, if_neg e]
        · rw [beq_eq_false_iff_ne.mpr z]
          exact this
  · rename_i h
    rw [List.lookup_append]
    by_cases z : i = k
    · subst z
      rw [if_pos rfl, lookup_none.mpr h]
      show List.lookup i [(i, n)] = some n
      rw [List.lookup_cons, beq_self_eq_true]
    · rw [if_neg z]
      have : List.lookup i [(k, n)] = none := by
        rw [List.lookup_cons, beq_eq_false_iff_ne.mpr z]
        rfl
      rw [this, Option.or_none]
theorem putS_look : ∀ {st : List Step} (fs : List (Int × Int)), AscS st → (∀ i, (∀ s ∈ st, s.1 ≠ i) → (PutS fs st).lookup i = fs.lookup i) ∧ ∀ s ∈ st, (PutS fs st).lookup s.1 = some s.2.2.2.2
  | [], fs, _ => ⟨fun _ _ => rfl, fun _ m => nomatch m⟩
  | s :: st, fs, a => by
    obtain ⟨a1, a2⟩ := List.pairwise_cons.mp a
    obtain ⟨h1, h2⟩ := putS_look (st := st) (putI fs s.1 s.2.2.2.2) a2
    refine ⟨fun i no => ?_, fun t m => ?_⟩
    · show (PutS (putI fs s.1 s.2.2.2.2) st).lookup i = _
      rw [h1 i fun t m => no t (List.mem_cons_of_mem _ m), putI_look, if_neg (no s List.mem_cons_self).symm]
    · show (PutS (putI fs s.1 s.2.2.2.2) st).lookup t.1 = _
      rcases List.mem_cons.mp m with rfl | m
      · rw [h1 t.1 fun u mu e => by have := a1 u mu; omega, putI_look, if_pos rfl]
      · exact h2 t m
theorem putS_nd : ∀ {st : List Step} {fs : List (Int × Int)}, (fs.map Prod.fst).Nodup → ((PutS fs st).map Prod.fst).Nodup
  | [], _, h => h
  | s :: st, fs, h => by
    have := putS_nd (st := st) (fs := putI fs s.1 s.2.2.2.2) (putI_nd h)
    exact this
theorem putS_len : ∀ (st : List Step) (fs : List (Int × Int)), (PutS fs st).length ≤ fs.length + st.length
  | [], _ => Nat.le_refl _
  | s :: st, fs => by
    have := putS_len st (putI fs s.1 s.2.2.2.2)
    have := putI_len (fs := fs) (i := s.1) (n := s.2.2.2.2)
    show (PutS (putI fs s.1 s.2.2.2.2) st).length ≤ fs.length + (st.length + 1)
    omega
/-- what is positive, sorted -/
theorem left_puts {ps ks fs : List (Int × Int)} {most : Int} {st : List Step} (v : Vd ps ks) (m1 : 1 ≤ most) (pm : fs.Perm ps) (g : Good ps ks most st) (vl : Vd (left st) ks) {qs : List (Int × Int)} (asc : Asc qs) (hq : ∀ p, p ∈ qs ↔ (PutS fs st).lookup p.1 = some p.2 ∧ 0 < p.2) : qs = left st := by
  have one : ∀ p ∈ qs, 1 ≤ p.2 := fun p m => by
    have := ((hq p).mp m).2
    omega
  obtain ⟨h1, h2⟩ := putS_look fs g.asc
  refine cnt_eq asc vl.ap one vl.one fun i => ?_
  have c1 : cnt qs i = if 0 < ((PutS fs st).lookup i).getD 0 then ((PutS fs st).lookup i).getD 0 else 0 := by
    unfold cnt
    cases e : (PutS fs st).lookup i with
    | none =>
      rw [lookup_none.mpr]
      · rfl
      · intro z
        obtain ⟨p, hp, e2⟩ := List.mem_map.mp z
        have := ((hq p).mp hp).1
        rw [e2, e] at this
        cases this
    | some n =>
      show _ = if 0 < n then n else 0
      by_cases z : 0 < n
      · rw [if_pos z, (lookup_some (n := n) (asc_nd asc)).mpr ((hq (i, n)).mpr ⟨e, z⟩)]
        rfl
      · rw [if_neg z, lookup_none.mpr]
        · rfl
        · intro w
          obtain ⟨p, hp, e2⟩ := List.mem_map.mp w
          have k := (hq p).mp hp
          rw [e2, e] at k
          have := Option.some.inj k.1
          omega
  rw [c1]
  by_cases ex : ∃ s ∈ st, s.1 = i
  · obtain ⟨s, m, rfl⟩ := ex
    have n0 : 0 ≤ s.2.2.2.2 := by
      have e := (g.is s m).1
      have l0 := (g.is s m).2
      obtain ⟨a, _, _⟩ := step_ok (i := s.1) v.ok m1 l0.1 l0.2
      have n2 : s.2.2.2.2 = stC most s.2.1 (cap ks s.1) (cnt ps s.1) := congrArg (fun s : Step => s.2.2.2.2) e
      rw [n2]
      exact a.2.1
    rw [h2 s m, cnt_left g.asc m n0 vl.ap]
    show (if 0 < s.2.2.2.2 then s.2.2.2.2 else 0) = s.2.2.2.2
    split <;> omega
  · have no : ∀ s ∈ st, s.1 ≠ i := fun s m e => ex ⟨s, m, e⟩
    rw [h1 i no, cnt_left_none no]
    have : fs.lookup i = none := by
      refine lookup_none.mpr fun z => ?_
      obtain ⟨p, hp, e⟩ := List.mem_map.mp z
      obtain ⟨s, hs, e2⟩ := g.cov p (pm.mem_iff.mp hp)
      exact no s hs (by omega)
    rw [this]
    rfl
/-- dict([(y, found[y]) for y in sorted(found) if found[y] > 0]) -/
theorem sorted_pos {K : PySem.W.Frag} {F : Addr} {fs : List (Int × Int)} {x0 x1 x2 x4 x5 x6 x7 x8 : Option V} {H : Hp} {Q : VK} (hF : H F = some (.dK (kvsOf fs))) (nd : (fs.map Prod.fst).Nodup) (hl : fs.length < 64)
    (q : ∀ r H' qs, H r = none → Same H H' → H' r = some (.dK (kvsOf qs)) → Asc qs → (∀ p, p ∈ qs ↔ fs.lookup p.1 = some p.2 ∧ 0 < p.2) → Q (.ref r) H') :
    tCB (qDictL K) (tCons (tLc (iList K (tCB qSortedD (tCons (tVar 3) (tNil)))) (gName 4) (tTest (tOp qGt (tDGet (tVar 3) (tVar 4)) (tC (.int 0)))) (tTup (tCons (tVar 4) (tCons (tDGet (tVar 3) (tVar 4)) (tNil)))) [4]) (tNil)) [x0, x1, x2, some (.ref F), x4, x5, x6, x7, x8] H Q := by
  have keys : (kvsOf fs).map (·.1) = (fs.map Prod.fst).map Sum.inl := by
    unfold kvsOf
    rw [List.map_map, List.map_map]
    rfl
  refine ⟨_, rfl, F, _, _, rfl, .inl hF, keys, (by rw [List.length_map]; exact hl), fun ys l perm pw hlf => ?_⟩
  have s1 := same_new (o := .lst (ys.map V.int)) hlf
  have L1 : upd H l (.lst (ys.map V.int)) l = some (.lst (ys.map V.int)) := upd_same
  generalize upd H l (.lst (ys.map V.int)) = H1 at s1 L1 ⊢
  refine ⟨l, rfl, ⟨_, SqL.of L1⟩, fun D hD => ?_⟩
  have yl : ys.length = fs.length := by rw [perm.length_eq, List.length_map]
  have val : ∀ y ∈ ys, fs.lookup y = some (cnt fs y) := fun y m => by
    have hm := perm.mem_iff.mp m
    unfold cnt
    cases e : fs.lookup y with
    | none => exact absurd hm (lookup_none.mp e)
    | some n => rfl
  have ndy : ys.Nodup := perm.nodup_iff.mpr nd
  have asc : Asc ((ys.filter fun y => decide (0 < cnt fs y)).map fun y => (y, cnt fs y)) := by
    unfold Asc
    rw [List.pairwise_map]
    refine List.Pairwise.filter _ ((List.Pairwise.and pw ndy).imp fun {x y} z => ?_)
    have := z.1
    have := z.2
    show x < y
    omega
  refine lc_it (walk_list (K := K) (a := l) (xs := ys.map V.int)) (fun i H2 => Same H1 H2 ∧ ∃ ts, H2 D = some (.lst (ts.map V.ref)) ∧ Paired (TupAt H2) ts (((ys.take i).filter fun y => decide (0 < cnt fs y)).map fun y => (y, cnt fs y))) ⟨same_new hD, [], upd_same, .nil⟩ ?_ ?_ ?_
  · rintro i H2 _ ⟨s2, _⟩
    exact SqL.of (s2 _ _ L1)
  · rintro i x H2 H3 hi ⟨s2, ts, d2, pr⟩ ⟨rfl, hx⟩
    rw [List.getElem?_map] at hx
    obtain ⟨y, hy, rfl⟩ := Option.map_eq_some_iff.mp hx
    have hv := val y (List.mem_of_getElem? hy)
    have hF3 := s2 _ _ (s1 _ _ hF)
    have gv : valV (kvsOf fs) (.inl y) = some (.int (cnt fs y)) := by
      rw [val_pairs, hv]
      rfl
    have dg : DGet H3 F (.int y) (some (.int (cnt fs y))) := by
      rw [← gv]
      exact DGet.k (k := .inl y) hF3
    have tk : ys.take (i + 1) = ys.take i ++ [y] := by
      rw [List.take_succ, hy]
      rfl
    have tl : ts.length ≤ 64 := by
      have a := paired_len pr
      rw [List.length_map] at a
      have b := List.length_filter_le (fun y => decide (0 < cnt fs y)) (ys.take i)
      rw [List.length_take] at b
      have c := Nat.min_le_right i ys.length
      omega
    refine ⟨rfl, _, rfl, _, rfl, F, _, rfl, dg, _, _, rfl, rfl, _, rfl, ?_⟩
    by_cases e : 0 < cnt fs y
    · rw [decide_eq_true e]
      refine iteT ⟨_, rfl, _, rfl, _, rfl, F, _, rfl, dg, sz (by show 2 ≤ 1000; decide), fun t ht => ?_⟩
      have s3 := same_new (o := .tup [.int y, .int (cnt fs y)]) ht
      have T3 : TupAt (upd H3 t (.tup [.int y, .int (cnt fs y)])) t (y, cnt fs y) := upd_same
      generalize upd H3 t (.tup [.int y, .int (cnt fs y)]) = H4 at s3 T3 ⊢
      have d3 := s3 _ _ d2
      have keep : ∀ {b : Addr} {p : Int × Int}, TupAt H4 b p → TupAt (upd H4 D (.lst (ts.map V.ref ++ [.ref t]))) b p := fun {b p} z => (upd_ne (ne_of z d3 (by intro e; cases e))).trans z
      refine ⟨_, d3, ?_, same_upd (s2.trans s3) hD, ts ++ [t], ?_, ?_⟩
      · rw [List.length_map]
        exact Nat.lt_of_le_of_lt tl (by decide)
      · rw [upd_same, List.map_append]
        rfl
      · rw [tk, List.filter_append, List.map_append]
        have : ([y].filter fun y => decide (0 < cnt fs y)) = [y] := by
          rw [List.filter_cons_of_pos (p := fun y => decide (0 < cnt fs y)) (decide_eq_true e)]
          rfl
        rw [this]
        exact paired_snoc (keep T3) (paired_imp (fun _ _ z => keep (s3 _ _ z)) pr)
    · rw [decide_eq_false e]
      refine iteF ⟨s2, ts, d2, ?_⟩
      rw [tk, List.filter_append, List.map_append]
      have : ([y].filter fun y => decide (0 < cnt fs y)) = [] := by
        rw [List.filter_cons_of_neg (p := fun y => decide (0 < cnt fs y)) (by rw [decide_eq_false e]; exact Bool.false_ne_true)]
        rfl
      rw [this, List.map_nil, List.append_nil]
      exact pr
  · rintro H2 ⟨s2, ts, d2, pr⟩
    rw [List.length_map, List.take_length] at pr
    refine ⟨D, ts, _, rfl, SqL.of d2, paired_kvs pr, fun r hr => ?_⟩
    rw [merge_pairs (asc_nd asc)]
    have s12 := s1.trans s2
    refine q r _ _ (Same.free s12 hr) (s12.trans (same_new hr)) upd_same asc fun p => ⟨fun m => ?_, fun ⟨h1, h2⟩ => ?_⟩
    · obtain ⟨y, hy, rfl⟩ := List.mem_map.mp m
      obtain ⟨y1, y2⟩ := List.mem_filter.mp hy
      exact ⟨val y y1, of_decide_eq_true y2⟩
    · have hm : p.1 ∈ ys := perm.mem_iff.mpr (by
        by_cases z : p.1 ∈ fs.map Prod.fst
        · exact z
        · rw [lookup_none.mpr z] at h1
          cases h1)
      have hc := val p.1 hm
      rw [h1] at hc
      have e := Option.some.inj hc
      refine List.mem_map.mpr ⟨p.1, List.mem_filter.mpr ⟨hm, decide_eq_true (by omega)⟩, ?_⟩
      show (p.1, cnt fs p.1) = p
      rw [← e]
def spLSwept (K : PySem.W.Frag) : Sp := fun vs H Q _ => ∃ (F Z : Addr) (fs zs ps ks : List (Int × Int)) (most : Int), vs = [.ref F, .ref Z, .int most] ∧ H F = some (.dK (kvsOf fs)) ∧ H Z = some (.dK (kvsOf zs)) ∧ Vd ps ks ∧ fs.Perm ps ∧ zs.Perm ks ∧ 1 ≤ most ∧ total ps ≤ 20 ∧
  (∀ st, Good ps ks most st → Vd (left st) ks) ∧ ∀ r H' st, H r = none → Same H H' → Good ps ks most st → H' r = some (.dK (kvsOf (left st))) → Q (.ref r) H'
def t_lswept (K : PySem.W.Frag) : TS := tSeq (tAsg (tCB (qDictL K) (tCons (LiI.tListItems (tVar 0)) (tNil))) (gName 3))
  (tSeq (tFor (iList K (tCall (spLWalk K) [] E0 (tCons (tVar 0) (tCons (tVar 1) (tCons (tVar 2) (tNil)))))) (gTup K 5 (gCons (gName 4) (gCons (gName 5) (gCons (gName 6) (gCons (gName 7) (gCons (gName 8) (gNil)))))))
  (sDPut (tVar 3) (tVar 4) (tVar 8)))
  (tRet (tCB (qDictL K) (tCons (tLc (iList K (tCB qSortedD (tCons (tVar 3) (tNil)))) (gName 4) (tTest (tOp qGt (tDGet (tVar 3) (tVar 4)) (tC (.int 0)))) (tTup (tCons (tVar 4) (tCons (tDGet (tVar 3) (tVar 4)) (tNil)))) [4]) (tNil)))))
def tPosD (K : PySem.W.Frag) : TE := tCB (qDictL K) (tCons (tLc (iList K (tCB qSortedD (tCons (tVar 3) (tNil)))) (gName 4) (tTest (tOp qGt (tDGet (tVar 3) (tVar 4)) (tC (.int 0)))) (tTup (tCons (tVar 4) (tCons (tDGet (tVar 3) (tVar 4)) (tNil)))) [4]) (tNil))
@[irreducible] def xPosD := @tPosD
theorem xPosD_eq : @xPosD = @tPosD := by
  unfold xPosD
  rfl
theorem pure_lswept {K : PySem.W.Frag} (vs : List V) (H : Hp) (Q : VK) (E : XK) (h : spLSwept K vs H Q E) : t_lswept K { nx := fun _ H' => Q .non H', rt := Q } (start ["boxes", "sizes", "most", "found", "place", "burden", "amount", "after", "later"] vs) H := by
  obtain ⟨F, Z, fs, zs, ps, ks, most, rfl, hF, hZ, v, pm, zm, m1, t20, vl, q⟩ := h
  have e : t_lswept K = tSeq (tAsg (tCB (qDictL K) (tCons (LiI.tListItems (tVar 0)) (tNil))) (gName 3)) (tSeq (tFor (iList K (tCall (spLWalk K) [] E0 (tCons (tVar 0) (tCons (tVar 1) (tCons (tVar 2) (tNil)))))) (gTup K 5 (gCons (gName 4) (gCons (gName 5) (gCons (gName 6) (gCons (gName 7) (gCons (gName 8) (gNil))))))) (sDPut (tVar 3) (tVar 4) (tVar 8))) (tRet (xPosD K))) := by
    rw [xPosD_eq]
    rfl
  rw [e]
  have nd : (fs.map Prod.fst).Nodup := (pm.map _).nodup_iff.mpr v.ok.nd
  have fl : fs.length ≤ 20 := by
    have a := len_sum v.one
    have b := pm.length_eq
    unfold total at t20
    omega
  refine ⟨_, rfl, F, _, rfl, hF, fun H1 l1 t1 s1 n1 _ _ d1 p1 => ⟨l1, t1, kvsOf fs, rfl, SqL.of d1, paired_imp (fun _ _ z => SqT.of z) p1, fun W hW => ?_⟩⟩
  rw [merge_pairs nd]
  have s2 := Same.trans s1 (same_new (o := .dK (kvsOf fs)) hW)
  have W2 : upd H1 W (.dK (kvsOf fs)) W = some (.dK (kvsOf fs)) := upd_same
  have hW0 := Same.free s1 hW
  generalize upd H1 W (.dK (kvsOf fs)) = H2 at s2 W2 ⊢
  refine ⟨_, rfl, _, rfl, _, rfl, F, Z, fs, zs, ps, ks, most, rfl, s2 _ _ hF, s2 _ _ hZ, v, pm, zm, m1, fun r H3 st hr s3 ⟨ts, hr', pr⟩ good len => ⟨r, rfl, ⟨_, SqL.of hr'⟩, ?_⟩⟩
  have sl : st.length ≤ 40 := by omega
  have tl : (ts.map V.ref).length = st.length := by rw [List.length_map, paired_len pr]
  have rW : r ≠ W := fun z => by rw [z, W2] at hr; cases hr
  refine for_it (walk_list (K := K) (a := r) (xs := ts.map V.ref)) (fun i σ H4 => SameBut W H3 H4 ∧ ∃ w4 w5 w6 w7 w8, H4 W = some (.dK (kvsOf (PutS fs (st.take i)))) ∧ σ = [some (.ref F), some (.ref Z), some (.int most), some (.ref W), w4, w5, w6, w7, w8]) ⟨fun _ _ _ h => h, _, _, _, _, _, s3 _ _ W2, rfl⟩ ?_ ?_ ?_
  · rintro i σ H4 _ ⟨k4, _⟩
    exact SqL.of (k4 _ _ rW hr')
  · rintro i x σ H4 H5 hi ⟨k4, w4, w5, w6, w7, w8, W4, rfl⟩ ⟨rfl, hx⟩
    rw [List.getElem?_map] at hx
    obtain ⟨t, ht, rfl⟩ := Option.map_eq_some_iff.mp hx
    obtain ⟨s, hs, hat⟩ := paired_at pr ht
    have T5 : TupS H5 t s := k4 _ _ (fun z => by
      unfold TupS at hat
      rw [z, s3 _ _ W2] at hat
      cases hat) hat
    have pl := putS_len (st.take i) fs
    have tkl := List.length_take_le i st
    refine ⟨t, _, rfl, SqT.of T5, rfl, _, _, rfl, _, _, rfl, _, _, rfl, _, _, rfl, _, _, rfl, rfl, ?_⟩
    refine ⟨_, rfl, _, rfl, _, rfl, W, _, rfl, dput_pairs W4 (by omega), ?_⟩
    refine ⟨fun b o ne h => (upd_ne ne).trans (k4 _ _ ne h), _, _, _, _, _, ?_, rfl⟩
    rw [upd_same, List.take_succ, hs]
    unfold PutS
    rw [List.foldl_append]
    rfl
  · rintro σ H4 ⟨k4, w4, w5, w6, w7, w8, W4, rfl⟩
    rw [tl, List.take_length] at W4
    show xPosD K [some (.ref F), some (.ref Z), some (.int most), some (.ref W), w4, w5, w6, w7, w8] H4 _
    rw [xPosD_eq]
    have pl := putS_len st fs
    refine sorted_pos W4 (putS_nd nd) (by omega) fun R H5 qs hR s5 R5 asc hq => ?_
    have eq := left_puts v m1 pm good (vl st good) asc hq
    rw [eq] at R5
    have s04 : Same H H4 := fun b o z => k4 _ _ (ne_of_none z hW0) (s3 _ _ (s2 _ _ z))
    exact q R H5 st (Same.free s04 hR) (s04.trans s5) good R5
end SR

set_option Elab.async false
set_option linter.all false
set_option maxRecDepth 100000
set_option maxHeartbeats 4000000
/-! K18A: shuffled lists, sweeps one behind the other. -/
namespace SR
open PySem PySem.Spec PyProof.Rows L2
/-- a tuple of plain values -/
def Flat (H : Hp) (t : Addr) : Prop := ∃ xs ds, H t = some (.tup xs) ∧ (∀ (K : PySem.W.Frag) (H' : Hp), DpAll K H' xs ds) ∧ PyData.canLayAll0 ds = true ∧ PyData.depthAll ds ≤ 10
theorem Flat.kp {H H' : Hp} {d g c t : Addr} {b : Nat} (f : Flat H t) (S : StB H d g c b) (k : Kp d g H H') : Flat H' t := let ⟨xs, ds, h1, h2⟩ := f; ⟨xs, ds, kp_at S k h1 (fun _ z => nomatch z) (fun _ _ z => nomatch z), h2⟩
theorem Flat.same {H H' : Hp} {t : Addr} (f : Flat H t) (s : Same H H') : Flat H' t := let ⟨xs, ds, h1, h2⟩ := f; ⟨xs, ds, s _ _ h1, h2⟩
/-- their data -/
theorem flats {H : Hp} : ∀ {ts : List Addr}, (∀ t ∈ ts, Flat H t) → ∃ ds, (∀ K, DpAll K H (ts.map V.ref) ds) ∧ PyData.canLayAll0 ds = true ∧ PyData.depthAll ds ≤ 50 ∧ ds.length = ts.length
  | [], _ => ⟨[], fun K => .nil, rfl, Nat.zero_le _, rfl⟩
  | t :: ts, h => by
    obtain ⟨ds, h1, h2, h3, h4⟩ := flats fun u m => h u (List.mem_cons_of_mem _ m)
    obtain ⟨xs, es, g1, g2, g3, g4⟩ := h t List.mem_cons_self
    refine ⟨.tuple es :: ds, fun K => .cons (.tup (SqT.of g1) (g2 K H)) (h1 K), ?_, ?_, by rw [List.length_cons, List.length_cons, h4]⟩
    · show (PyData.canLay0 (.tuple es) && PyData.canLayAll0 ds) = true
      rw [h2, Bool.and_true]
      exact g3
    · show max (PyData.depth (.tuple es)) (PyData.depthAll ds) ≤ 50
      simp only [PyData.depth]
      omega
def spShuffled (K : PySem.W.Frag) : Sp := fun vs H Q _ => ∃ (d g c : Addr) (b : Nat) (a : Addr) (ts : List Addr), vs = [.ref d, .ref a] ∧ StB H d g c (b + 64) ∧ SqL K H a (ts.map V.ref) ∧ ts.length ≤ 60 ∧ (∀ t ∈ ts, Flat H t) ∧
  ∀ (r : Addr) (H' : Hp) (us : List Addr), StB H' d g c b → Kp d g H H' → r ≠ d → r ≠ g → r ≠ c → H r = none → H' r = some (.lst (us.map V.ref)) → us.Perm ts → Q (.ref r) H'
def t_shBody (K : PySem.W.Frag) : TS := (tDrop (tBM K "list" rAppend (tVar 3) (tCons (tBM K "list" rPopAt (tVar 2) (tCons (tCall spTake [] E0 (tCons (tVar 0) (tCons (tCB (qLen K) (tCons (tVar 2) (tNil))) (tNil)))) (tNil))) (tNil))))
def t_shuffled (K : PySem.W.Frag) : TS := tSeq (tPar 2 3 (tCons (tCB (qListOf K) (tCons (tVar 1) (tNil))) (tCons (tLst (tNil)) (tNil))))
  (tSeq (tWhile (tTest (tOp (rNeD K) (tVar 2) (tLst (tNil))))
  (t_shBody K))
  (tRet (tVar 3)))
theorem erase_perm {α : Type} : ∀ {xs : List α} {k : Nat} {y : α}, xs[k]? = some y → (y :: xs.eraseIdx k).Perm xs
  | [], _, _, h => by simp at h
  | x :: xs, 0, y, h => by
    have : x = y := by simpa using h
    subst this
    exact .refl _
  | x :: xs, k + 1, y, h => by
    have h2 : xs[k]? = some y := by simpa using h
    exact (List.Perm.swap x y _).trans (.cons x (erase_perm h2))
theorem erase_map : ∀ (xs : List Addr) (k : Nat), (xs.map V.ref).eraseIdx k = (xs.eraseIdx k).map V.ref
  | [], _ => rfl
  | _ :: _, 0 => rfl
  | x :: xs, k + 1 => by
    show V.ref x :: (xs.map V.ref).eraseIdx k = V.ref x :: (xs.eraseIdx k).map V.ref
    rw [erase_map xs k]
theorem sh_body {K : PySem.W.Frag} {H : Hp} {d g c s f : Addr} {b : Nat} {sp fo : List Addr} {w1 : Option V} {N N2 N3 : L2.St → Hp → Prop} {R : VK} (S : StB H d g c (b + 1)) (hs : H s = some (.lst (sp.map V.ref))) (hf : H f = some (.lst (fo.map V.ref))) (s1 : s ≠ d) (s2 : s ≠ g) (s3 : s ≠ c) (f1 : f ≠ d) (f2 : f ≠ g) (f3 : f ≠ c) (nsf : s ≠ f) (ne : sp ≠ []) (l60 : sp.length ≤ 60) (lf : fo.length ≤ 60)
    (hN : ∀ (H' : Hp) (sp' fo' : List Addr), StB H' d g c b → (∀ x o, x ≠ s → x ≠ f → x ≠ d → x ≠ g → H x = some o → H' x = some o) → H' s = some (.lst (sp'.map V.ref)) → H' f = some (.lst (fo'.map V.ref)) → sp'.length + 1 = sp.length → fo'.length = fo.length + 1 → (sp' ++ fo').Perm (sp ++ fo) → N [some (.ref d), w1, some (.ref s), some (.ref f)] H') :
    t_shBody K { nx := N, rt := R, bk := N2, ct := N3 } [some (.ref d), w1, some (.ref s), some (.ref f)] H := by
  have pos : 0 < sp.length := List.length_pos_iff.mpr ne
  refine ⟨_, rfl, .inl ⟨rfl, _, SqL.of hf⟩, _, rfl, .inl ⟨rfl, _, SqL.of hs⟩, _, rfl, _, rfl, s, _, rfl, .inl (SqL.of hs), d, g, c, b, _, rfl, S, by rw [List.length_map]; omega, by rw [List.length_map]; omega, fun i H1 i0 i1 S1 q1 => ?_⟩
  rw [List.length_map] at i1
  obtain ⟨k, rfl⟩ : ∃ k : Nat, i = (k : Int) := ⟨i.toNat, by omega⟩
  have kl : k < sp.length := by omega
  have hs1 := q1 _ _ s1 s2 hs
  have hf1 := q1 _ _ f1 f2 hf
  have at_ : (sp.map V.ref)[k]? = some (V.ref sp[k]) := by rw [List.getElem?_map, List.getElem?_eq_getElem kl]; rfl
  refine ⟨s, _, (k : Int), k, .ref sp[k], rfl, rfl, hs1, by omega, by omega, ?_, at_, ?_⟩
  · rw [List.length_map]
    simp only [seqIndex?]
    have n : ¬ (k : Int) < 0 := by omega
    simp only [n, if_false]
    have y : (decide (0 ≤ (k : Int)) && decide ((k : Int) < (sp.length : Int))) = true := by rw [decide_eq_true (show 0 ≤ (k : Int) by omega), decide_eq_true (show (k : Int) < (sp.length : Int) by omega)]; rfl
    rw [if_pos y]
    rfl
  have e1 : (sp.map V.ref).eraseIdx k = (sp.eraseIdx k).map V.ref := erase_map sp k
  rw [e1]
  have S2 := S1.upd (o := .lst ((sp.eraseIdx k).map V.ref)) s1 s2 s3
  have hf2 : upd H1 s (.lst ((sp.eraseIdx k).map V.ref)) f = some (.lst (fo.map V.ref)) := (upd_ne nsf.symm).trans hf1
  have hs2 : upd H1 s (.lst ((sp.eraseIdx k).map V.ref)) s = some (.lst ((sp.eraseIdx k).map V.ref)) := upd_same
  have k2 : ∀ x o, x ≠ s → H1 x = some o → upd H1 s (.lst ((sp.eraseIdx k).map V.ref)) x = some o := fun x o e h => (upd_ne e).trans h
  generalize upd H1 s (.lst ((sp.eraseIdx k).map V.ref)) = H2 at S2 hf2 hs2 k2 ⊢
  refine ⟨f, _, _, rfl, rfl, hf2, by rw [List.length_map]; exact Nat.lt_of_le_of_lt lf (by decide), ?_⟩
  have el := List.length_eraseIdx_of_lt kl
  refine hN _ (sp.eraseIdx k) (fo ++ [sp[k]]) (S2.upd f1 f2 f3) (fun x o e1 e2 e3 e4 h => (upd_ne e2).trans (k2 _ _ e1 (q1 _ _ e3 e4 h))) ((upd_ne nsf).trans hs2) (by rw [upd_same, List.map_append]; rfl) (by omega) (by rw [List.length_append]; rfl) ?_
  have ep := erase_perm (List.getElem?_eq_getElem kl)
  have a : (sp.eraseIdx k ++ (fo ++ [sp[k]])).Perm (sp[k] :: sp.eraseIdx k ++ fo) := by
    rw [← List.append_assoc]
    exact (List.perm_append_comm (l₁ := sp.eraseIdx k ++ fo) (l₂ := [sp[k]]))
  exact a.trans (ep.append_right fo)
theorem pure_shuffled {K : PySem.W.Frag} (vs : List V) (H : Hp) (Q : VK) (E : XK) (h : spShuffled K vs H Q E) : t_shuffled K { nx := fun _ H' => Q .non H', rt := Q } (start ["state", "some", "spare", "found"] vs) H := by
  obtain ⟨d, g, c, b, a, ts, rfl, S, hA, l60, fl, q⟩ := h
  refine ⟨_, rfl, a, _, rfl, .inl hA, fun s hs => ?_⟩
  obtain ⟨s1, s2, s3⟩ := S.off hs
  have S1 := S.new (o := .lst (ts.map V.ref)) hs
  have hs1 : upd H s (.lst (ts.map V.ref)) s = some (.lst (ts.map V.ref)) := upd_same
  have e1 := same_new (o := .lst (ts.map V.ref)) hs
  generalize upd H s (.lst (ts.map V.ref)) = H1 at S1 hs1 e1 ⊢
  refine ⟨sz (Nat.zero_le _), fun f hf => ⟨_, _, rfl, ?_⟩⟩
  obtain ⟨f1, f2, f3⟩ := S1.off hf
  have S2 := S1.new (o := .lst []) hf
  have hs2 := same_new (o := .lst []) hf _ _ hs1
  have hf2 : upd H1 f (.lst []) f = some (.lst []) := upd_same
  have e2 := e1.trans (same_new (o := .lst []) hf)
  have nsf : s ≠ f := ne_of_none hs1 hf
  have hf0 : H f = none := Same.free e1 hf
  generalize upd H1 f (.lst []) = H2 at S2 hs2 hf2 e2 ⊢
  refine ⟨fun m σ H3 => ∃ sp fo, m = sp.length ∧ StB H3 d g c (b + m) ∧ (∀ x o, x ≠ s → x ≠ f → x ≠ d → x ≠ g → H2 x = some o → H3 x = some o) ∧ H3 s = some (.lst (sp.map V.ref)) ∧ H3 f = some (.lst (fo.map V.ref)) ∧ sp.length + fo.length = ts.length ∧ (sp ++ fo).Perm ts ∧ σ = [some (.ref d), some (.ref a), some (.ref s), some (.ref f)],
    ⟨ts.length, ts, [], rfl, S2.mono (by omega), (fun x o _ _ _ _ h => h), hs2, hf2, rfl, by rw [List.append_nil], rfl⟩, ?_⟩
  rintro m σ H3 ⟨sp, fo, rfl, S3, k3, hs3, hf3, len, pm, rfl⟩
  have fls : ∀ t ∈ sp, Flat H3 t := fun t m => by
    obtain ⟨xs, ds, h1, h2⟩ := fl t (pm.mem_iff.mp (List.mem_append_left _ m))
    have h3 := e2 _ _ h1
    refine ⟨xs, ds, k3 _ _ (fun z => ?_) (fun z => ?_) (fun z => ?_) (fun z => ?_) h3, h2⟩
    · rw [z, hs2] at h3
      cases h3
    · rw [z, hf2] at h3
      cases h3
    · rw [z] at h3
      obtain ⟨_, _, _, _, x1, x2, _⟩ := S2
      rw [x1] at h3
      cases h3
    · rw [z] at h3
      obtain ⟨_, _, _, _, x1, x2, _⟩ := S2
      rw [x2] at h3
      cases h3
  obtain ⟨ds, d1, d2, d3, d4⟩ := flats fls
  refine ⟨_, rfl, sz (Nat.zero_le _), fun e he => ⟨.list ds, .list [], ?_, .lst (SqL.of upd_same) .nil, shaped_list d2 (by omega), shaped_ints [], _, rfl, ?_⟩⟩
  · exact Dp.same (same_new he) _ _ (.lst (SqL.of hs3) (d1 K))
  obtain ⟨n1, n2, n3⟩ := S3.off he
  have S4 := S3.new (o := .lst []) he
  have k4 : ∀ x o, x ≠ s → x ≠ f → x ≠ d → x ≠ g → H2 x = some o → upd H3 e (.lst []) x = some o := fun x o z1 z2 z3 z4 h => same_new he _ _ (k3 _ _ z1 z2 z3 z4 h)
  have hs4 := same_new (o := .lst []) he _ _ hs3
  have hf4 := same_new (o := .lst []) he _ _ hf3
  generalize upd H3 e (.lst []) = H4 at S4 k4 hs4 hf4 ⊢
  cases sp with
  | cons y sp =>
    cases ds with
    | nil => cases d4
    | cons x ds =>
    rw [show (!PyData.eqv (.list (x :: ds)) (.list [])) = true from rfl]
    refine iteT ⟨_, fun σ' H' z => z, ?_⟩
    have hb : b + (y :: sp).length = (b + sp.length) + 1 := by rw [List.length_cons]; omega
    rw [hb] at S4
    rw [List.length_cons] at len
    refine sh_body S4 hs4 hf4 s1 s2 s3 f1 f2 f3 nsf (by simp) (by rw [List.length_cons]; omega) (by omega) fun H' sp' fo' S' k' hs' hf' l1 l2 pm' => ⟨sp'.length, by omega, sp', fo', rfl, ?_, fun x o z1 z2 z3 z4 h => k' _ _ z1 z2 z3 z4 (k4 _ _ z1 z2 z3 z4 h), hs', hf', ?_, pm'.trans pm, rfl⟩
    · rw [List.length_cons] at l1
      rw [show sp'.length = sp.length by omega]
      exact S'
    · rw [List.length_cons] at l1
      omega
  | nil =>
    cases ds with
    | cons x ds => cases d4
    | nil =>
    rw [show (!PyData.eqv (.list []) (.list [])) = false from rfl]
    refine iteF ⟨_, rfl, q f H4 fo (S4.mono (by omega)) (fun x o z3 z4 h => k4 _ _ (ne_of_none h hs) (ne_of_none h hf0) z3 z4 (e2 _ _ h)) f1 f2 f3 hf0 hf4 ?_⟩
    exact pm
end SR

set_option Elab.async false
set_option linter.all false
set_option maxRecDepth 100000
set_option maxHeartbeats 4000000
/-! K18B: sweeps one behind the other; a crowd. -/
namespace SR
open PySem PySem.Spec PyProof.Rows L2
def TupB (H : Hp) (t : Addr) (s : Int × Bool) : Prop := H t = some (.tup [.int s.1, .bl s.2])
theorem TupB.flat {H : Hp} {t : Addr} {s : Int × Bool} (h : TupB H t s) : Flat H t := ⟨_, [.int s.1, .bool s.2], h, fun K H' => .cons (.int _) (.cons (.bl _) .nil), rfl, by simp [PyData.depthAll, PyData.depth]⟩
theorem perm_paired {α β : Type} {F : α → β → Prop} {us ts : List α} (h : us.Perm ts) : ∀ {xs : List β}, Paired F ts xs → ∃ ys, Paired F us ys ∧ ys.Perm xs := by
  induction h with
  | nil => exact fun p => ⟨_, p, .refl _⟩
  | cons a h ih =>
    intro xs p
    cases p with
    | cons f t =>
      obtain ⟨ys, h1, h2⟩ := ih t
      exact ⟨_, .cons f h1, .cons _ h2⟩
  | swap a b l =>
    intro xs p
    cases p with
    | cons f t =>
      cases t with
      | cons g t => exact ⟨_, .cons g (.cons f t), .swap _ _ _⟩
  | trans h1 h2 ih1 ih2 =>
    intro xs p
    obtain ⟨ys, a1, a2⟩ := ih2 p
    obtain ⟨zs, b1, b2⟩ := ih1 a1
    exact ⟨zs, b1, b2.trans a2⟩
def spDone (K : PySem.W.Frag) (C : Addr) : Sp := fun vs H Q _ => ∃ (x a : Addr) (ks : List (Int × Int)) (p : Rws ks) (some_ : List (Int × Bool)) (ts : List Addr), vs = [.ref x, .ref a] ∧ RowAt K C H x p.1 ks ∧ SqL K H a (ts.map V.ref) ∧ Paired (TupB H) ts some_ ∧ (∀ s ∈ some_, 1 ≤ s.1 ∧ s.1 ≤ 99) ∧
  ∀ y H', Same H H' → RowAt K C H' y (FnL some_ p).1 ks → Q (.ref y) H'
def t_doBody (K : PySem.W.Frag) (c_BadCapacity c_Row : Addr) : TS := (tAsg (tIf (tB (tVar 4)) (tCall (spUnsweep K c_Row c_BadCapacity) [] E0 (tCons (tVar 2) (tCons (tVar 3) (tNil)))) (tCall (spSweep K c_Row c_BadCapacity) [] E0 (tCons (tVar 2) (tCons (tVar 3) (tNil))))) (gName 2))
def t_done (K : PySem.W.Frag) (c_BadCapacity : Addr) (c_Row : Addr) : TS := tSeq (tAsg (tVar 0) (gName 2))
  (tSeq (tFor (iList K (tVar 1)) (gTup K 2 (gCons (gName 3) (gCons (gName 4) (gNil))))
  (t_doBody K c_BadCapacity c_Row))
  (tRet (tVar 2)))
section
variable {K : PySem.W.Frag} {C B : Addr} {ks : List (Int × Int)}
/-- a sweep, or an inverse one, by its promise -/
theorem sweep_fn {H : Hp} {y : Addr} {p : Rws ks} {c : Int} {Q : VK} (row : RowAt K C H y p.1 ks) (c1 : 1 ≤ c) (c2 : c ≤ 99) (q : ∀ z H', Same H H' → RowAt K C H' z (Fn (c, false) p).1 ks → Q (.ref z) H') : spSweep K C B [.ref y, .int c] H Q E0 := by
  have yes : btw 1 99 (.int c) = true := btw_iff.mpr ⟨c, rfl, c1, c2⟩
  refine ⟨y, .int c, _, p.1, ks, rfl, .int c, row, p.2.ok, p.2.ak, (fun z => by rw [yes] at z; cases z), fun m e m1 m2 z H' st hz s tr row' => q z H' s ?_⟩
  cases e
  obtain ⟨lo, la, _⟩ := left_ok p.2.ok c1 tr
  have := fn_of (p := p) (q := ⟨left st, lo, la, p.2.ak⟩) (b := false) c1 (sw_traces p.2.ok p.2.ap c1 tr)
  rw [← this]
  exact row'
theorem unsweep_fn {H : Hp} {y : Addr} {p : Rws ks} {c : Int} {Q : VK} (row : RowAt K C H y p.1 ks) (c1 : 1 ≤ c) (c2 : c ≤ 99) (q : ∀ z H', Same H H' → RowAt K C H' z (Fn (c, true) p).1 ks → Q (.ref z) H') : spUnsweep K C B [.ref y, .int c] H Q E0 := by
  have yes : btw 1 99 (.int c) = true := btw_iff.mpr ⟨c, rfl, c1, c2⟩
  refine ⟨y, .int c, _, p.1, ks, rfl, .int c, row, p.2.ok, p.2.ap, p.2.ak, (fun z => by rw [yes] at z; cases z), fun m e m1 m2 z H' st hz s tr row' ok' ap' => q z H' s ?_⟩
  cases e
  have v' : Vd (mirror (left st)) ks := ⟨ok', ap', p.2.ak⟩
  have vm := p.2.mirror
  have sw := sw_traces vm.ok vm.ap c1 tr
  have := fn_of (p := p) (q := ⟨mirror (left st), v'⟩) (b := true) c1 (by
    show Sw ks c (mirror (left st)) p.1
    refine sw_mirror p.2 v' c1 ?_
    rw [mirror_mirror]
    exact sw)
  rw [← this]
  exact row'
theorem pure_done (vs : List V) (H : Hp) (Q : VK) (E : XK) (h : spDone K C vs H Q E) : t_done K B C { nx := fun _ H' => Q .non H', rt := Q } (start ["made", "some", "here", "most", "is_back"] vs) H := by
  obtain ⟨x, a, ks, p, l, ts, rfl, row, hA, pr, cs, q⟩ := h
  refine ⟨_, rfl, _, rfl, a, rfl, ⟨_, hA⟩, ?_⟩
  have tl : (ts.map V.ref).length = l.length := by rw [List.length_map, paired_len pr]
  refine for_it (walk_list (K := K) (a := a) (xs := ts.map V.ref)) (fun i σ H1 => Same H H1 ∧ ∃ y w3 w4, RowAt K C H1 y (FnL (l.take i) p).1 ks ∧ σ = [some (.ref x), some (.ref a), some (.ref y), w3, w4]) ⟨fun _ _ h => h, x, none, none, row, rfl⟩ ?_ ?_ ?_
  · rintro i σ H1 _ ⟨s1, _⟩
    exact Same.seq s1 hA
  · rintro i v σ H1 H2 hi ⟨s1, y, w3, w4, row1, rfl⟩ ⟨rfl, hv⟩
    rw [List.getElem?_map] at hv
    obtain ⟨t, ht, rfl⟩ := Option.map_eq_some_iff.mp hv
    obtain ⟨s, hs, hat⟩ := paired_at pr ht
    have T2 : TupB H2 t s := s1 _ _ hat
    obtain ⟨c1, c2⟩ := cs s (List.mem_of_getElem? hs)
    have tk : FnL (l.take (i + 1)) p = Fn s (FnL (l.take i) p) := by
      unfold FnL
      rw [List.take_succ, hs, List.foldl_append]
      rfl
    refine ⟨t, _, rfl, SqT.of T2, rfl, _, _, rfl, _, _, rfl, rfl, ?_⟩
    show t_doBody K B C _ [some (.ref x), some (.ref a), some (.ref y), some (.int s.1), some (.bl s.2)] H2
    cases e : s.2 with
    | true =>
      have es : s = (s.1, true) := by rw [← e]
      refine ⟨_, rfl, _, rfl, iteT ⟨_, rfl, _, rfl, ?_⟩⟩
      generalize hz : spUnsweep K C B = zz
      show zz [.ref y, .int s.1] H2 _ E0
      subst hz
      refine unsweep_fn row1 c1 c2 fun z H' s' row' => ⟨s1.trans s', z, _, _, ?_, rfl⟩
      rw [tk, es]
      exact row'
    | false =>
      have es : s = (s.1, false) := by rw [← e]
      refine ⟨_, rfl, _, rfl, iteF ⟨_, rfl, _, rfl, ?_⟩⟩
      generalize hz : spSweep K C B = zz
      show zz [.ref y, .int s.1] H2 _ E0
      subst hz
      refine sweep_fn row1 c1 c2 fun z H' s' row' => ⟨s1.trans s', z, _, _, ?_, rfl⟩
      rw [tk, es]
      exact row'
  · rintro σ H1 ⟨s1, y, w3, w4, row1, rfl⟩
    rw [tl, List.take_length] at row1
    exact ⟨_, rfl, q y H1 s1 row1⟩
end
def t_crowd18 (K : PySem.W.Frag) : TS := tSeq (tPar 1 2 (tCons (tOp qSub (tCall spTake [] E0 (tCons (tVar 0) (tCons (tC (.int 30)) (tNil)))) (tC (.int 20))) (tCons (tDNewK) (tNil))))
  (tSeq (tFor (iRng1 (tCons (tOp qAdd (tC (.int 34)) (tCall spTake [] E0 (tCons (tVar 0) (tCons (tC (.int 7)) (tNil))))) (tNil))) (gName 3)
  (t_cwBody K))
  (tRet (tVar 2)))
theorem pure_crowd18 {K : PySem.W.Frag} (vs : List V) (H : Hp) (Q : VK) (E : XK) (h : spCrowd vs H Q E) : t_crowd18 K { nx := fun _ H' => Q .non H', rt := Q } (start ["state", "place", "found", "turn"] vs) H := by
  obtain ⟨d, g, c, b, rfl, S, q⟩ := h
  refine ⟨_, rfl, d, g, c, b + 41, 30, rfl, S, by decide, by decide, fun i H1 i0 i1 S1 q1 => ⟨_, _, rfl, rfl, fun F hF => ⟨_, _, rfl, ?_⟩⟩⟩
  obtain ⟨f1, f2, f3⟩ := S1.off hF
  have S2 := S1.new (o := .dK []) hF
  have F2 : upd H1 F (.dK []) F = some (.dK (kvsOf (ones []))) := upd_same
  have k2 : ∀ x o, x ≠ F → x ≠ d → x ≠ g → H x = some o → upd H1 F (.dK []) x = some o := fun x o _ e2 e3 h => same_new hF _ _ (q1 _ _ e2 e3 h)
  have hF0 : H F = none := by
    cases e : H F with
    | none => rfl
    | some o =>
      have := q1 _ _ f1 f2 e
      rw [hF] at this
      cases this
  generalize upd H1 F (.dK []) = H2 at S2 F2 k2 ⊢
  refine ⟨_, rfl, d, g, c, b + 40, 7, rfl, S2, by decide, by decide, fun u H3 u0 u1 S3 q3 => ⟨_, _, rfl, rfl, _, rfl, by omega, by omega, ?_⟩⟩
  have un : (34 + u).toNat ≤ 40 := by omega
  refine for_range (lo := 0) (n := (34 + u).toNat) (fun j σ H4 => StB H4 d g c (b + 40 - j) ∧ (∀ x o, x ≠ F → x ≠ d → x ≠ g → H x = some o → H4 x = some o) ∧ ∃ M p w3, H4 F = some (.dK (kvsOf (ones M))) ∧ M.Pairwise (· < ·) ∧ M.length = j ∧ (∀ y ∈ M, y < p) ∧ (∀ y ∈ M, -20 ≤ y) ∧ -20 ≤ p ∧ p ≤ 10 + 6 * (j : Int) ∧ σ = [some (.ref d), some (.int p), some (.ref F), w3])
    ⟨S3, fun x o e1 e2 e3 h => q3 _ _ e2 e3 (k2 _ _ e1 e2 e3 h), [], _, none, q3 _ _ f1 f2 F2, .nil, rfl, (fun y m => nomatch m), (fun y m => nomatch m), by omega, by omega, rfl⟩ ?_ ?_
  · rintro j σ H4 hj ⟨S4, k4, M, p, w3, F4, asc, len, lt, lo, p0, p1, rfl⟩
    have e : b + 40 - j = (b + 40 - (j + 1)) + 1 := by omega
    rw [e] at S4
    show t_cwBody K _ [some (.ref d), some (.int p), some (.ref F), some (.int (0 + j))] H4
    refine cw_body S4 F4 f1 f2 f3 (by omega) lt fun H5 m m0 m5 S5 k5 F5 => ⟨S5, fun x o e1 e2 e3 h => k5 _ _ e1 e2 e3 (k4 _ _ e1 e2 e3 h), M ++ [p], _, _, F5, ?_, ?_, ?_, ?_, by omega, by omega, rfl⟩
    · refine List.pairwise_append.mpr ⟨asc, List.pairwise_singleton _ _, fun x hx y hy => ?_⟩
      rw [List.mem_singleton.mp hy]
      exact lt x hx
    · rw [List.length_append, len]
      rfl
    · intro y m
      rcases List.mem_append.mp m with m | m
      · have := lt y m
        omega
      · rw [List.mem_singleton.mp m]
        omega
    · intro y m
      rcases List.mem_append.mp m with m | m
      · exact lo y m
      · rw [List.mem_singleton.mp m]
        exact p0
  · rintro σ H4 ⟨S4, k4, M, p, w3, F4, asc, len, lt, lo, p0, p1, rfl⟩
    refine ⟨_, rfl, q F H4 M (S4.mono (by omega)) (fun x o e2 e3 h => k4 x o (fun z => by rw [z, hF0] at h; cases h) e2 e3 h) f1 f2 f3 F4 asc (by omega) fun y m => ?_⟩
    have a := lo y m
    have z := lt y m
    constructor <;> omega
end SR

set_option Elab.async false
set_option linter.all false
set_option maxRecDepth 100000
set_option maxHeartbeats 4000000
/-! K06D: the laws' walk from right to left. -/
namespace SR
open PySem PySem.Spec PyProof.Rows L2
def spLTurned (K : PySem.W.Frag) : Sp := fun vs H Q _ => ∃ (F : Addr) (fs : List (Int × Int)), vs = [.ref F] ∧ H F = some (.dK (kvsOf fs)) ∧ (fs.map Prod.fst).Nodup ∧ fs.length ≤ 100 ∧ ∀ r H', H r = none → Same H H' → H' r = some (.dK (kvsOf (fs.map neg1))) → Q (.ref r) H'
def t_lturned (K : PySem.W.Frag) : TS := tRet (tCB (qDictL K) (tCons (tLockE (tLc (iKeys (tVar 0)) (gName 1) (tYes) (tTup (tCons (tUn (rU fun i => .int (-i)) (tVar 1)) (tCons (tDGet (tVar 0) (tVar 1)) (tNil)))) [1])) (tNil)))
theorem pure_lturned {K : PySem.W.Frag} (vs : List V) (H : Hp) (Q : VK) (E : XK) (h : spLTurned K vs H Q E) : t_lturned K { nx := fun _ H' => Q .non H', rt := Q } (start ["boxes", "place"] vs) H := by
  obtain ⟨F, fs, rfl, hF, nd, l100, q⟩ := h
  refine ⟨F, _, hF, trivial, fun od => ?_⟩
  have A : upd H F (.frz od (.dK (kvsOf fs))) F = some (.frz od (.dK (kvsOf fs))) := upd_same
  have k1 : ∀ b o, b ≠ F → H b = some o → upd H F (.frz od (.dK (kvsOf fs))) b = some o := fun b o e h => (upd_ne e).trans h
  have fr : ∀ b, upd H F (.frz od (.dK (kvsOf fs))) b = none → H b = none ∧ b ≠ F := fun b e => by
    by_cases z : b = F
    · rw [z, upd_same] at e
      cases e
    · rw [upd_ne z] at e
      exact ⟨e, z⟩
  generalize upd H F (.frz od (.dK (kvsOf fs))) = H1 at A k1 fr ⊢
  refine ⟨_, rfl, F, od, rfl, .inl ⟨_, A, fun D hD => ?_⟩⟩
  obtain ⟨hD0, nDF⟩ := fr D hD
  have kl : (kvsOf fs).length = fs.length := by unfold kvsOf; rw [List.length_map]
  refine lc_it (walk_keys (d := F) (o := od) (kvs := kvsOf fs)) (fun i H2 => Same H1 H2 ∧ ∃ us, H2 D = some (.lst (us.map V.ref)) ∧ Paired (TupAt H2) us ((fs.take i).map neg1)) ⟨same_new hD, [], upd_same, .nil⟩ ?_ ?_ ?_
  · rintro i H2 _ ⟨s2, _⟩
    exact s2 _ _ A
  · rintro i x H2 H3 hi ⟨s2, us, d2, hus⟩ ⟨rfl, k, w, hkv, rfl⟩
    obtain ⟨p, hp, e⟩ : ∃ p, fs[i]? = some p ∧ ((.inl p.1, .int p.2) : Key × V) = (k, w) := by
      unfold kvsOf at hkv
      rw [List.getElem?_map] at hkv
      obtain ⟨p, h1, h2⟩ := Option.map_eq_some_iff.mp hkv
      exact ⟨p, h1, h2⟩
    cases e
    have hm := List.mem_of_getElem? hp
    have gv : valV (kvsOf fs) (.inl p.1) = some (.int p.2) := by
      rw [val_pairs, (lookup_some (n := p.2) nd).mpr hm]
      rfl
    have dg : DGet H3 F (.int p.1) (some (.int p.2)) := .inl ⟨kvsOf fs, .inl p.1, .inr ⟨od, s2 _ _ A⟩, rfl, gv.symm⟩
    have ul : us.length ≤ 100 := by
      rw [paired_len hus, List.length_map, List.length_take]
      exact Nat.le_trans (Nat.min_le_right _ _) l100
    refine ⟨rfl, _, rfl, _, rfl, _, rfl, _, rfl, F, _, rfl, dg, sz (by show 2 ≤ 1000; decide), fun n hn => ?_⟩
    have s3 := same_new (o := .tup [.int (-p.1), .int p.2]) hn
    have T3 : TupAt (upd H3 n (.tup [.int (-p.1), .int p.2])) n (neg1 p) := upd_same
    generalize upd H3 n (.tup [.int (-p.1), .int p.2]) = H4 at s3 T3 ⊢
    have d3 := s3 _ _ d2
    have keep : ∀ {b : Addr} {p : Int × Int}, TupAt H4 b p → TupAt (upd H4 D (.lst (us.map V.ref ++ [.ref n]))) b p := fun {b p} z => (upd_ne (ne_of z d3 (by intro e; cases e))).trans z
    refine ⟨_, d3, ?_, same_upd (s2.trans s3) hD, us ++ [n], ?_, ?_⟩
    · rw [List.length_map]
      exact Nat.lt_of_le_of_lt ul (by decide)
    · rw [upd_same, List.map_append]
      rfl
    · rw [List.take_succ, hp, List.map_append]
      exact paired_snoc (keep T3) (paired_imp (fun _ _ z => keep (s3 _ _ z)) hus)
  · rintro H2 ⟨s2, us, d2, hus⟩
    rw [kl, List.take_length] at hus
    have s4 : Same H (upd H2 F (.dK (kvsOf fs))) := same_lock hF fun b o e h => s2 _ _ (k1 b o e h)
    have up : ∀ {b : Addr} {p : Int × Int}, TupAt H2 b p → TupAt (upd H2 F (.dK (kvsOf fs))) b p := fun {b p} z => (upd_ne (fun e => by
      unfold TupAt at z
      rw [e, s2 _ _ A] at z
      cases z)).trans z
    refine ⟨s2 _ _ A, D, us, _, rfl, SqL.of ((upd_ne nDF).trans d2), paired_kvs (paired_imp (fun _ _ z => up z) hus), fun r hr => ?_⟩
    rw [merge_pairs (neg_nd nd)]
    exact q r _ (Same.free s4 hr) (s4.trans (same_new hr)) upd_same
theorem good_left {ps ks : List (Int × Int)} {most : Int} {st : List Step} (v : Vd ps ks) (m1 : 1 ≤ most) (g : Good ps ks most st) : Vd (left st) ks := by
  obtain ⟨st0, h⟩ := traces_ex v.ok m1 ps [] fun q m => m
  have e := good_one v m1 g (good_traces v m1 h)
  subst e
  obtain ⟨lo, la, _⟩ := left_ok v.ok m1 h
  exact ⟨lo, la, v.ak⟩
def spLBack (K : PySem.W.Frag) : Sp := fun vs H Q _ => ∃ (F Z : Addr) (fs zs ps ks : List (Int × Int)) (most : Int), vs = [.ref F, .ref Z, .int most] ∧ H F = some (.dK (kvsOf fs)) ∧ H Z = some (.dK (kvsOf zs)) ∧ Vd ps ks ∧ fs.Perm ps ∧ zs.Perm ks ∧ 1 ≤ most ∧ total ps ≤ 20 ∧
  ∀ r H' st, H r = none → Same H H' → Good (mirror ps) (mirror ks) most st → H' r = some (.dK (kvsOf ((left st).map neg1))) → Q (.ref r) H'
def t_lback (K : PySem.W.Frag) : TS := tRet (tCall (spLTurned K) [] E0 (tCons (tCall (spLSwept K) [] E0 (tCons (tCall (spLTurned K) [] E0 (tCons (tVar 0) (tNil))) (tCons (tCall (spLTurned K) [] E0 (tCons (tVar 1) (tNil))) (tCons (tVar 2) (tNil))))) (tNil)))
theorem pure_lback {K : PySem.W.Frag} (vs : List V) (H : Hp) (Q : VK) (E : XK) (h : spLBack K vs H Q E) : t_lback K { nx := fun _ H' => Q .non H', rt := Q } (start ["boxes", "sizes", "most"] vs) H := by
  obtain ⟨F, Z, fs, zs, ps, ks, most, rfl, hF, hZ, v, pm, zm, m1, t20, q⟩ := h
  have pl := v.ok.len
  have kl := v.ok.kl
  have vm := v.mirror
  refine ⟨_, rfl, F, fs, rfl, hF, (pm.map _).nodup_iff.mpr v.ok.nd, by rw [pm.length_eq]; omega, fun F1 H1 hF1 s1 D1 => ?_⟩
  refine ⟨_, rfl, Z, zs, rfl, s1 _ _ hZ, (zm.map _).nodup_iff.mpr v.ok.kd, by rw [zm.length_eq]; omega, fun Z1 H2 hZ1 s2 E1 => ?_⟩
  refine ⟨_, rfl, F1, Z1, _, _, mirror ps, mirror ks, most, rfl, s2 _ _ D1, E1, vm, (pm.map neg1).trans (mirror_perm ps).symm, (zm.map neg1).trans (mirror_perm ks).symm, m1, by rw [total_mirror]; exact t20, fun st g => good_left vm m1 g, fun r H3 st hr s3 g R3 => ?_⟩
  have vl := good_left vm m1 g
  have ll := vl.ok.len
  refine ⟨r, left st, rfl, R3, vl.ok.nd, by omega, fun r2 H4 hr2 s4 R4 => ?_⟩
  have s03 := s1.trans (s2.trans s3)
  exact q r2 H4 st (Same.free s03 hr2) (s03.trans s4) g R4
end SR

set_option Elab.async false
set_option linter.all false
set_option maxRecDepth 100000
set_option maxHeartbeats 4000000
/-! SRC3: half a sweep leaves a row. -/
namespace SR
open PySem PySem.Spec PyProof.Rows L2
/-- the steps up to a box -/
def upTo (idx : Int) (st : List Step) : List Step := st.filter fun s => decide (s.1 ≤ idx)
/-- the items behind it -/
def ahead (idx : Int) (ps : List (Int × Int)) : List (Int × Int) := ps.filter fun p => decide (idx < p.1)
theorem upTo_cons {idx : Int} {s : Step} {st : List Step} : upTo idx (s :: st) = if s.1 ≤ idx then s :: upTo idx st else upTo idx st := by
  unfold upTo
  by_cases e : s.1 ≤ idx
  · rw [if_pos e, List.filter_cons_of_pos (p := fun s : Step => decide (s.1 ≤ idx)) (decide_eq_true e)]
  · rw [if_neg e, List.filter_cons_of_neg (p := fun s : Step => decide (s.1 ≤ idx)) (by rw [decide_eq_false e]; exact Bool.false_ne_true)]
theorem upTo_none {idx : Int} : ∀ {st : List Step}, (∀ s ∈ st, idx < s.1) → upTo idx st = []
  | [], _ => rfl
  | s :: st, h => by
    rw [upTo_cons, if_neg (by have := h s List.mem_cons_self; omega), upTo_none fun t m => h t (List.mem_cons_of_mem _ m)]
theorem upTo_app (idx : Int) (a b : List Step) : upTo idx (a ++ b) = upTo idx a ++ upTo idx b := List.filter_append _ _
theorem walks_part {ps ks : List (Int × Int)} (ok : RowOk ps ks) {most : Int} (m1 : 1 ≤ most) (idx : Int) {i l : Int} {w : List Step} (h : Walks (cnt ps) (cap ks) most i l w) : 0 ≤ l → l ≤ most → sumOut (upTo idx w) ≤ sumIn (upTo idx w) + l := by
  induction h with
  | @last i l h =>
    intro l0 l1
    obtain ⟨a, b, c⟩ := step_ok (i := i) ok m1 l0 l1
    rw [upTo_cons]
    split
    · show stC most l (cap ks i) (cnt ps i) + 0 ≤ cnt ps i + 0 + l
      omega
    · show (0 : Int) ≤ 0 + l
      omega
  | @more i l r h t ih =>
    intro l0 l1
    obtain ⟨a, b, c⟩ := step_ok (i := i) ok m1 l0 l1
    have z := ih b.1 b.2
    have w := (walks_all ok m1 t b.1 b.2).2.1
    rw [upTo_cons]
    split
    · show stC most l (cap ks i) (cnt ps i) + sumOut (upTo idx r) ≤ cnt ps i + sumIn (upTo idx r) + l
      omega
    · rename_i e
      rw [upTo_none fun s m => by
        have := (w s m).1
        have e : ¬ i ≤ idx := e
        omega]
      show (0 : Int) ≤ 0 + l
      omega
theorem traces_part {ps ks : List (Int × Int)} (ok : RowOk ps ks) {most : Int} (m1 : 1 ≤ most) (idx : Int) {qs : List (Int × Int)} {acc st : List Step} (h : Traces (cnt ps) (cap ks) most qs acc st) : sumOut (upTo idx acc) ≤ sumIn (upTo idx acc) → sumOut (upTo idx st) ≤ sumIn (upTo idx st) := by
  induction h with
  | nil => exact id
  | skip _ _ _ ih => exact ih
  | @walk p qs acc w r on hw t ih =>
    intro a
    have b := walks_part ok m1 idx hw (Int.le_refl 0) (by omega)
    refine ih ?_
    rw [upTo_app]
    obtain ⟨s1, s2⟩ := sum_app (upTo idx acc) (upTo idx w)
    omega
theorem sumIn_part {ps ks : List (Int × Int)} (ok : RowOk ps ks) (idx : Int) : ∀ {st : List Step} (i : Int), i ≤ idx + 1 → AscS st → (∀ s ∈ st, i ≤ s.1 ∧ s.1 ≤ idx ∧ StepOk ps ks s) → sumIn st + sumFrom (idx + 1) ps ≤ sumFrom i ps
  | [], i, hi, _, _ => by
    have := sumFrom_mono (fun p m => (ok.po p m).1) hi
    show 0 + _ ≤ _
    omega
  | s :: st, i, hi, a, b => by
    have a' := List.pairwise_cons.mp a
    have hs := b s List.mem_cons_self
    have ih := sumIn_part ok idx (st := st) (s.1 + 1) (by omega) a'.2 fun t m => by
      have x := b t (List.mem_cons_of_mem _ m)
      exact ⟨by have := a'.1 t m; omega, x.2⟩
    have nx := sumFrom_next s.1 ok.nd
    have mo := sumFrom_mono (fun p m => (ok.po p m).1) hs.1
    have e := hs.2.2.1
    show s.2.2.1 + sumIn st + _ ≤ _
    omega
theorem ahead_sum (idx : Int) : ∀ ps : List (Int × Int), ((ahead idx ps).map Prod.snd).sum = sumFrom (idx + 1) ps
  | [] => rfl
  | p :: ps => by
    have ih := ahead_sum idx ps
    rw [sumFrom_cons]
    unfold ahead at ih ⊢
    by_cases e : idx < p.1
    · rw [List.filter_cons_of_pos (p := fun p : Int × Int => decide (idx < p.1)) (decide_eq_true e), List.map_cons, List.sum_cons, ih, if_pos (by omega)]
    · rw [List.filter_cons_of_neg (p := fun p : Int × Int => decide (idx < p.1)) (by rw [decide_eq_false e]; exact Bool.false_ne_true), ih, if_neg (by omega)]
      omega
/-- half a sweep's row -/
theorem half_ok {ps ks : List (Int × Int)} (ok : RowOk ps ks) (ap : Asc ps) {most : Int} (m1 : 1 ≤ most) {st : List Step} (h : Traces (cnt ps) (cap ks) most ps [] st) (idx : Int) : RowOk (left (upTo idx st) ++ ahead idx ps) ks ∧ Asc (left (upTo idx st) ++ ahead idx ps) := by
  obtain ⟨a, b, _⟩ := traces_all ok m1 h List.Pairwise.nil (fun s m => nomatch m) rfl
  have a2 : AscS (upTo idx st) := List.Pairwise.filter _ a
  have b2 : ∀ s ∈ upTo idx st, s.1 ≤ idx ∧ StepOk ps ks s := fun s m => by
    obtain ⟨x, y⟩ := List.mem_filter.mp m
    exact ⟨of_decide_eq_true y, b s x⟩
  have asc1 : Asc (left (upTo idx st)) := by
    unfold Asc left
    rw [List.pairwise_map]
    exact List.Pairwise.filter _ a2
  have lm : ∀ p ∈ left (upTo idx st), p.1 ≤ idx ∧ 1 ≤ p.2 ∧ p.2 ≤ cap ks p.1 := fun p m => by
    obtain ⟨s, hs, rfl⟩ := List.mem_map.mp m
    obtain ⟨hs1, hs2⟩ := List.mem_filter.mp hs
    have := of_decide_eq_true hs2
    have w := b2 s hs1
    exact ⟨w.1, by show 1 ≤ s.2.2.2.2; omega, w.2.2.2⟩
  have am : ∀ p ∈ ahead idx ps, idx < p.1 ∧ p ∈ ps := fun p m => by
    obtain ⟨x, y⟩ := List.mem_filter.mp m
    exact ⟨of_decide_eq_true y, x⟩
  have asc : Asc (left (upTo idx st) ++ ahead idx ps) := List.pairwise_append.mpr ⟨asc1, List.Pairwise.filter _ ap, fun p hp q hq => by
    have := (lm p hp).1
    have := (am q hq).1
    omega⟩
  have sm := left_sum fun s m => (b2 s m).2.2.1
  have part := traces_part ok m1 idx h (Int.le_refl _)
  have low : ∃ i : Int, i ≤ idx + 1 ∧ ∀ s ∈ upTo idx st, i ≤ s.1 := by
    cases e : upTo idx st with
    | nil => exact ⟨idx + 1, Int.le_refl _, fun s m => nomatch m⟩
    | cons s r =>
      rw [e] at a2 b2
      have z := (b2 s List.mem_cons_self).1
      refine ⟨s.1, by omega, fun t m => ?_⟩
      rcases List.mem_cons.mp m with rfl | m
      · exact Int.le_refl _
      · have := (List.pairwise_cons.mp a2).1 t m
        omega
  obtain ⟨i, hi, low⟩ := low
  have le := sumIn_part ok idx i hi a2 fun s m => ⟨low s m, b2 s m⟩
  have top := (sumFrom_bd i fun p m => (ok.po p m).1).2
  have s40 := ok.sm
  have ah := ahead_sum idx ps
  refine ⟨⟨asc_nd asc, ok.kd, ok.kl, ok.ko, fun p m => ?_, ?_⟩, asc⟩
  · rcases List.mem_append.mp m with m | m
    · exact (lm p m).2
    · exact ok.po p (am p m).2
  · rw [List.map_append, List.sum_append]
    omega
end SR

set_option Elab.async false
set_option linter.all false
set_option maxRecDepth 100000
set_option maxHeartbeats 4000000
/-! SRD3: half a sweep. -/
namespace SR
open PySem PySem.Spec PyProof.Rows L2
def lastLoad (st : List Step) : Int := ((st.getLast?).map fun s => s.2.2.2.1).getD 0
def spHalfway (K : PySem.W.Frag) (C B D : Addr) : Sp := fun vs H Q E => ∃ x v t w tw ps ks, vs = [.ref x, v, w] ∧ AnyT K H v t ∧ AnyT K H w tw ∧ RowAt K C H x ps ks ∧ RowOk ps ks ∧ Asc ps ∧ Asc ks ∧ (btw 1 99 v = false → E (.ref B) none H) ∧ (btw 1 99 v = true → isI w = false → ∀ H', Same H H' → E (.ref D) none H') ∧
  ∀ most idx, v = .int most → 1 ≤ most → most ≤ 99 → w = .int idx → ∀ H' st p, H p = none → Same H H' → Traces (cnt ps) (cap ks) most ps [] st →
    ((upTo idx st = [] ∧ H' p = some (.tup [.ref x, .int 0])) ∨ ∃ y, upTo idx st ≠ [] ∧ H' p = some (.tup [.ref y, .int (lastLoad (upTo idx st))]) ∧ RowAt K C H' y (left (upTo idx st) ++ ahead idx ps) ks) → Q (.ref p) H'
def t_halfway (K : PySem.W.Frag) (c_BadCapacity : Addr) (c_BadIndex : Addr) (c_Row : Addr) (E : XK) : TS := tSeq (tAsg (tCall (spTrace K c_Row c_BadCapacity) [] E (tCons (tVar 0) (tCons (tVar 1) (tNil)))) (gName 3))
  (tSeq (tIfS (tNot (tB (tCall (spIsInt K) [] E0 (tCons (tVar 2) (tNil)))))
  (tOut (.ref c_BadIndex) E)
  (tNext))
  (tSeq (tAsg (tLc (iList K (tVar 3)) (gName 6) (tTest (tOp qLe (tOp (rIxT K) (tVar 6) (tC (.int 0))) (tVar 2))) (tVar 6) [6]) (gName 4))
  (tSeq (tIfS (tNot ((fun σ H Q => tVar 4 σ H fun x H1 => ∃ k, TruV K x H1 k ∧ Q k H1)))
  (tRet (tTup (tCons (tVar 0) (tCons (tC (.int 0)) (tNil)))))
  (tNext))
  (tSeq (tAsg (tLc (iTup K (tProp c_Row (spContents K c_Row) [] E0 (tVar 0))) (gTup K 2 (gCons (gName 7) (gCons (gName 8) (gNil)))) (tTest (tOp qGt (tVar 7) (tVar 2))) (tTup (tCons (tVar 7) (tCons (tVar 8) (tNil)))) [7, 8]) (gName 5))
  (tRet (tTup (tCons (tMake c_Row (spRowInit K c_Row) [] E0 (tCons (tOp rCat (tCall (spLeftBy K) [] E0 (tCons (tVar 4) (tNil))) (tVar 5)) (tCons (tProp c_Row (spCapacities K c_Row) [] E0 (tVar 0)) (tNil)))) (tCons (tOp (rIxT K) (tOp (rIxL K) (tVar 4) (tUn (rU fun i => .int (-i)) (tC (.int 1)))) (tC (.int 3))) (tNil)))))))))
theorem upTo_snoc (idx : Int) (st : List Step) (s : Step) : upTo idx (st ++ [s]) = upTo idx st ++ (if s.1 ≤ idx then [s] else []) := by
  rw [upTo_app, upTo_cons]
  rfl
theorem ahead_snoc (idx : Int) (ps : List (Int × Int)) (p : Int × Int) : ahead idx (ps ++ [p]) = ahead idx ps ++ (if idx < p.1 then [p] else []) := by
  unfold ahead
  rw [List.filter_append]
  by_cases e : idx < p.1
  · rw [if_pos e, List.filter_cons_of_pos (p := fun p : Int × Int => decide (idx < p.1)) (decide_eq_true e)]
    rfl
  · rw [if_neg e, List.filter_cons_of_neg (p := fun p : Int × Int => decide (idx < p.1)) (by rw [decide_eq_false e]; exact Bool.false_ne_true)]
    rfl
theorem lc_done {K : PySem.W.Frag} {σ : L2.St} {H : Hp} {s : Addr} {st : List Step} {ts : List Addr} {idx : Int} {Q : VK} (h3 : σ[3]? = some (some (.ref s))) (h2 : ∀ y, ((wipe σ [6]).set 6 (some y))[2]? = some (some (.int idx))) (h6 : ∀ y, ((wipe σ [6]).set 6 (some y))[6]? = some (some y)) (hw : ∀ y, wipe ((wipe σ [6]).set 6 (some y)) [6] = wipe σ [6])
    (hA : H s = some (.lst (ts.map V.ref))) (hts : Paired (TupS H) ts st) (len : st.length ≤ 3200) (q : ∀ D H' us, H D = none → Same H H' → H' D = some (.lst (us.map V.ref)) → Paired (TupS H') us (upTo idx st) → Q (.ref D) H') :
    tLc (iList K (tVar 3)) (gName 6) (tTest (tOp qLe (tOp (rIxT K) (tVar 6) (tC (.int 0))) (tVar 2))) (tVar 6) [6] σ H Q := by
  refine ⟨_, h3, s, rfl, ⟨_, SqL.of hA⟩, fun D hD => ?_⟩
  refine lc_it (walk_list (K := K) (a := s) (xs := ts.map V.ref)) (fun i H1 => Same H H1 ∧ ∃ us, H1 D = some (.lst (us.map V.ref)) ∧ Paired (TupS H1) us (upTo idx (st.take i)) ∧ us.length ≤ i) ⟨same_new hD, [], upd_same, .nil, Nat.le_refl _⟩ (fun i H1 _ h => SqL.of (h.1 _ _ hA)) ?_ ?_
  · rintro i v H1 H2 hi ⟨s1, us, d1, hus, ul⟩ ⟨rfl, hv⟩
    rw [List.getElem?_map] at hv
    obtain ⟨t, ht, rfl⟩ := Option.map_eq_some_iff.mp hv
    obtain ⟨u, hu, hat⟩ := paired_at hts ht
    have T1 : TupS H2 t u := s1 _ _ hat
    have tk : st.take (i + 1) = st.take i ++ [u] := by
      rw [List.take_succ, hu]
      rfl
    have il : i < st.length := (List.getElem?_eq_some_iff.mp hu).1
    refine ⟨hw _, _, h6 _, t, _, 0, _, rfl, rfl, SqT.of T1, rfl, _, h2 _, _, _, rfl, rfl, _, rfl, ?_⟩
    by_cases e : u.1 ≤ idx
    · rw [decide_eq_true e]
      refine iteT ⟨_, h6 _, _, d1, ?_, same_upd s1 hD, us ++ [t], ?_, ?_, ?_⟩
      · rw [List.length_map]
        exact Nat.lt_of_le_of_lt (by omega : us.length ≤ 3200) (by decide)
      · rw [upd_same, List.map_append]
        rfl
      · rw [tk, upTo_snoc, if_pos e]
        have keep : ∀ {b : Addr} {p : Step}, TupS H2 b p → TupS (upd H2 D (.lst (us.map V.ref ++ [.ref t]))) b p := fun {b p} z => (upd_ne (ne_of z d1 (by intro e; cases e))).trans z
        exact paired_snoc (keep T1) (paired_imp (fun _ _ z => keep z) hus)
      · rw [List.length_append]
        show us.length + 1 ≤ i + 1
        omega
    · rw [decide_eq_false e]
      refine iteF ⟨s1, us, d1, ?_, by omega⟩
      rw [tk, upTo_snoc, if_neg e, List.append_nil]
      exact hus
  · rintro H1 ⟨s1, us, d1, hus, ul⟩
    have tl : (ts.map V.ref).length = st.length := by rw [List.length_map, paired_len hts]
    rw [tl, List.take_length] at hus
    exact q D H1 us hD s1 d1 hus
theorem lc_ahead {K : PySem.W.Frag} {te : TE} {σ : L2.St} {H : Hp} {ps : List (Int × Int)} {idx : Int} {Q : VK} (hte : ∀ R : VK, (∀ c, PairsT H c ps → R (.ref c) H) → te σ H R) (hl : ps.length ≤ 1000)
    (h2 : ∀ y z, (((wipe σ [7, 8]).set 7 (some y)).set 8 (some z))[2]? = some (some (.int idx))) (h7 : ∀ y z, (((wipe σ [7, 8]).set 7 (some y)).set 8 (some z))[7]? = some (some y)) (h8 : ∀ y z, (((wipe σ [7, 8]).set 7 (some y)).set 8 (some z))[8]? = some (some z)) (hw : ∀ y z, wipe (((wipe σ [7, 8]).set 7 (some y)).set 8 (some z)) [7, 8] = wipe σ [7, 8])
    (hQ : ∀ D H' us, H D = none → Same H H' → H' D = some (.lst (us.map V.ref)) → Paired (TupAt H') us (ahead idx ps) → Q (.ref D) H') :
    tLc (iTup K te) (gTup K 2 (gCons (gName 7) (gCons (gName 8) (gNil)))) (tTest (tOp qGt (tVar 7) (tVar 2))) (tTup (tCons (tVar 7) (tCons (tVar 8) (tNil)))) [7, 8] σ H Q := by
  refine hte _ fun c hp => ?_
  obtain ⟨ts, bc, hts⟩ := hp
  have hlen : (ts.map V.ref).length = ps.length := by rw [List.length_map, paired_len hts]
  refine ⟨c, rfl, ⟨_, bc.sq⟩, fun D hD => ?_⟩
  refine lc_it (walk_tup (K := K) (a := c) (xs := ts.map V.ref)) (fun i H1 => Same H H1 ∧ ∃ us, H1 D = some (.lst (us.map V.ref)) ∧ Paired (TupAt H1) us (ahead idx (ps.take i)) ∧ us.length ≤ i) ⟨same_new hD, [], upd_same, .nil, Nat.le_refl _⟩ (fun i H1 _ h => (bc.same h.1).sq) ?_ ?_
  · rintro i v H1 H2 hi ⟨s1, us, d1, hus, ul⟩ ⟨rfl, hv⟩
    rw [List.getElem?_map] at hv
    obtain ⟨t, ht, rfl⟩ := Option.map_eq_some_iff.mp hv
    obtain ⟨p, hpi, hat⟩ := paired_at hts ht
    have at1 : TupAt H2 t p := s1 _ _ hat
    have tk : ps.take (i + 1) = ps.take i ++ [p] := by
      rw [List.take_succ, hpi]
      rfl
    have il : i < ps.length := (List.getElem?_eq_some_iff.mp hpi).1
    refine ⟨t, _, rfl, SqT.of at1, rfl, _, _, rfl, _, _, rfl, rfl, hw _ _, _, h7 _ _, _, h2 _ _, _, _, rfl, rfl, _, rfl, ?_⟩
    by_cases e : idx < p.1
    · rw [decide_eq_true e]
      refine iteT ⟨_, h7 _ _, _, h8 _ _, sz (by show 2 ≤ 1000; decide), fun n hn => ?_⟩
      have s3 := same_new (o := .tup [.int p.1, .int p.2]) hn
      have T3 : TupAt (upd H2 n (.tup [.int p.1, .int p.2])) n p := upd_same
      generalize upd H2 n (.tup [.int p.1, .int p.2]) = H3 at s3 T3 ⊢
      have d3 := s3 _ _ d1
      have keep : ∀ {b : Addr} {p : Int × Int}, TupAt H3 b p → TupAt (upd H3 D (.lst (us.map V.ref ++ [.ref n]))) b p := fun {b p} z => (upd_ne (ne_of z d3 (by intro e; cases e))).trans z
      refine ⟨_, d3, ?_, same_upd (s1.trans s3) hD, us ++ [n], ?_, ?_, ?_⟩
      · rw [List.length_map]
        exact Nat.lt_of_le_of_lt (by omega : us.length ≤ 1000) (by decide)
      · rw [upd_same, List.map_append]
        rfl
      · rw [tk, ahead_snoc, if_pos e]
        exact paired_snoc (keep T3) (paired_imp (fun _ _ z => keep (s3 _ _ z)) hus)
      · rw [List.length_append]
        show us.length + 1 ≤ i + 1
        omega
    · rw [decide_eq_false e]
      refine iteF ⟨s1, us, d1, ?_, by omega⟩
      rw [tk, ahead_snoc, if_neg e, List.append_nil]
      exact hus
  · rintro H1 ⟨s1, us, d1, hus, ul⟩
    rw [hlen, List.take_length] at hus
    exact hQ D H1 us hD s1 d1 hus
theorem pure_halfway {K : PySem.W.Frag} {C B D : Addr} (vs : List V) (H : Hp) (Q : VK) (E : XK) (h : spHalfway K C B D vs H Q E) : t_halfway K B D C E { nx := fun _ H' => Q .non H', rt := Q } (start ["row", "capacity", "index", "steps", "done", "ahead", "step", "place", "count"] vs) H := by
  obtain ⟨x, v, t, w, tw, ps, ks, rfl, hv, hw, row, ok, ap, ak, bad1, bad2, q⟩ := h
  refine ⟨_, rfl, _, rfl, x, v, t, ps, ks, rfl, hv, row, ok, bad1, fun most e m1 m2 s H1 st hs s1 hst tr len => ?_⟩
  subst e
  refine ⟨_, rfl, w, tw, rfl, hw.same s1, _, rfl, ?_⟩
  cases ew : isI w with
  | false => exact iteT (bad2 (btw_iff.mpr ⟨most, rfl, m1, m2⟩) ew H1 s1)
  | true =>
  obtain ⟨idx, rfl⟩ : ∃ i, w = .int i := by
    cases w <;> first | exact ⟨_, rfl⟩ | cases ew
  refine iteF ?_
  obtain ⟨ts, hA, hts⟩ := hst
  try rw [← xLc_eq]
  show xLc (iList K (tVar 3)) (gName 6) (tTest (tOp qLe (tOp (rIxT K) (tVar 6) (tC (.int 0))) (tVar 2))) (tVar 6) [6] [some (.ref x), some (.int most), some (.int idx), some (.ref s), none, none, none, none, none] H1 _
  try rw [xLc_eq]
  refine lc_done rfl (fun y => rfl) (fun y => rfl) (fun y => rfl) hA hts len fun D2 H2 us hD2 s2 d2 hus => ?_
  have s02 := s1.trans s2
  have ul := paired_len hus
  refine ⟨_, rfl, _, .inl ⟨_, SqL.of d2, rfl⟩, ?_⟩
  cases hup : upTo idx st with
  | nil =>
    have e : us = [] := List.length_eq_zero_iff.mp (by rw [ul, hup]; rfl)
    subst e
    refine iteT ⟨_, rfl, sz (by show 2 ≤ 1000; decide), fun p hp => ?_⟩
    exact q most idx rfl m1 m2 rfl _ st p (Same.free s02 hp) (s02.trans (same_new hp)) tr (.inl ⟨hup, upd_same⟩)
  | cons u0 r0 =>
    have une : upTo idx st ≠ [] := by rw [hup]; simp
    have emp : (us.map V.ref).isEmpty = false := by
      cases us with
      | nil => rw [hup] at ul; cases ul
      | cons _ _ => rfl
    rw [emp]
    refine iteF ?_
    have row2 := row.same s02
    obtain ⟨dx, fs, hx, _, _⟩ := row2.ins
    have pl := ok.len
    try rw [← xLc_eq]
    show xLc (iTup K (tProp C (spContents K C) [] E0 (tVar 0))) (gTup K 2 (gCons (gName 7) (gCons (gName 8) (gNil)))) (tTest (tOp qGt (tVar 7) (tVar 2))) (tTup (tCons (tVar 7) (tCons (tVar 8) (tNil)))) [7, 8] [some (.ref x), some (.int most), some (.int idx), some (.ref s), some (.ref D2), none, none, none, none] H2 _
    try rw [xLc_eq]
    refine lc_ahead (fun R r => ⟨_, rfl, x, dx, fs, rfl, hx, x, ps, ks, rfl, row2, r⟩) (by omega) (fun y z => rfl) (fun y z => rfl) (fun y z => rfl) (fun y z => rfl) fun D3 H3 vs3 hD3 s3 d3 hvs => ?_
    have hus3 : Paired (TupS H3) us (upTo idx st) := paired_imp (fun _ _ z => s3 _ _ z) hus
    have ulen : (upTo idx st).length ≤ 3200 := by
      unfold upTo
      exact Nat.le_trans (List.length_filter_le _ _) len
    refine ⟨_, rfl, D2, upTo idx st, rfl, ⟨us, s3 _ _ d2, hus3⟩, ulen, fun r H4 ls4 hr s4 rd rp => ?_⟩
    have d4 := s4 _ _ d3
    have l4 := paired_len rp
    have lv := paired_len hvs
    have ll := left_len (upTo idx st)
    have al : (ahead idx ps).length ≤ ps.length := by
      unfold ahead
      exact List.length_filter_le _ _
    refine ⟨_, rfl, r, D3, _, _, rfl, rfl, rd, d4, ?_, fun z hz => ?_⟩
    · rw [List.length_map, List.length_map]
      exact Nat.le_trans (by omega : ls4.length + vs3.length ≤ 3240) (by decide)
    have s5 := same_new (o := .lst (ls4.map V.ref ++ vs3.map V.ref)) hz
    have Z5 : upd H4 z (.lst (ls4.map V.ref ++ vs3.map V.ref)) z = some (.lst ((ls4 ++ vs3).map V.ref)) := by rw [upd_same, List.map_append]
    generalize upd H4 z (.lst (ls4.map V.ref ++ vs3.map V.ref)) = H5 at s5 Z5 ⊢
    have pr5 : PairsAt K H5 z (left (upTo idx st) ++ ahead idx ps) := ⟨_, .inl (SqL.of Z5), paired_append (paired_imp (fun _ _ z => s5 _ _ z) rp) (paired_imp (fun _ _ z => s5 _ _ (s4 _ _ z)) hvs)⟩
    have s25 := s3.trans (s4.trans s5)
    have row5 := row2.same s25
    refine ⟨_, rfl, x, dx, fs, rfl, s25 _ _ hx, x, ps, ks, rfl, row5, fun c hc => ?_⟩
    obtain ⟨ho, ha⟩ := half_ok ok ap m1 tr idx
    refine make_row (C := C) (E := E0) (Q := fun v H6 => tCons (tOp (rIxT K) (tOp (rIxL K) (tVar 4) (tUn (rU fun i => .int (-i)) (tC (.int 1)))) (tC (.int 3))) tNil [some (.ref x), some (.int most), some (.int idx), some (.ref s), some (.ref D2), some (.ref D3), none, none, none] H6 fun xs H7 => (v :: xs).length ≤ sizeLine ∧ ∀ p, H7 p = none → Q (.ref p) (upd H7 p (.tup (v :: xs)))) pr5 hc.at ho fun y H6 qs ls hy s6 ry p1 p2 a1 a2 => ?_
    have z1 := asc_eq a1 ha p1
    have z2 := asc_eq a2 ak p2
    subst z1 z2
    obtain ⟨tt, lst, g1, g2, g3⟩ := paired_last hus3 une
    have g4 : TupS H6 tt lst := s6 _ _ (s5 _ _ (s4 _ _ g3))
    have D6 := s6 _ _ (s25 _ _ d2)
    have ll6 : lastLoad (upTo idx st) = lst.2.2.2.1 := by
      unfold lastLoad
      rw [g2]
      rfl
    refine ⟨_, rfl, 1, rfl, D2, _, -1, _, rfl, rfl, SqL.of D6, at_last (by rw [List.getLast?_map, g1]; rfl), tt, _, 3, _, rfl, rfl, SqT.of g4, rfl, sz (by show 2 ≤ 1000; decide), fun p hp => ?_⟩
    have s7 := same_new (o := .tup [.ref y, .int lst.2.2.2.1]) hp
    have all := s02.trans (s25.trans (s6.trans s7))
    refine q most idx rfl m1 m2 rfl _ st p ?_ all tr (.inr ⟨y, une, ?_, ry.same s7⟩)
    · exact Same.free s02 (Same.free s25 (Same.free s6 hp))
    · rw [upd_same, ll6]
end SR

set_option Elab.async false
set_option linter.all false
set_option maxRecDepth 100000
set_option maxHeartbeats 4000000
/-! SRI3: != of tuples whose items are asked by their own ==. -/
namespace GQ
open PySem PySem.SeqAt
open AutoSeq1 (wpAny_loadPart')
open MeetsSeq MeetsSeq2 MeetsSeq3 SeqRoads2
section
variable {prog : Program} {wd : World} {A : Around} {T : Result → Shared → Prop} {Er : Value → Shared → Prop}
theorem tuple_ne_walk (a c : Addr) (us vs : Array Value) (m m2 : Nat) (da dc : Option Addr) (la lc : Array (Option Value)) (same : us.size = vs.size) (J : Nat → Shared → Prop)
    (each : ∀ j (k1 : j < us.size) (k2 : j < vs.size) z, J j z → wpAny (model prog wd) A.in1 (eqBool us[j] vs[j]) (fun r z2 => r = true ∧ J (j + 1) z2) (fun e z2 => T (.error e) z2) z)
    (last : ∀ z, J us.size z → T (.ok (.ret (.bool false))) z) {z : Shared} (ha : z.heap.get? a = some { cls := .type "tuple", dict := da, data := .seq us m, slots := la }) (hc : z.heap.get? c = some { cls := .type "tuple", dict := dc, data := .seq vs m2, slots := lc }) (j0 : J 0 z) :
    wpAny (model prog wd) A.in1 (Builtin.«tuple.__ne__» ⟨[.ref a, .ref c], []⟩) (FinOf prog wd A T) (fun e z2 => T (.error e) z2) z := by
  have sub2 := AutoSeq1.sub_tuple_tuple
  have zl : (us.toList.zip vs.toList).length = us.size := by simp [same]
  have j00 := j0
  obtain ⟨zh, zg, zd, zt, zo⟩ := z
  wp_walk using wpAny_loadPart' ha, wpAny_loadPart' hc, wpAny_forIn_list _ (fun left acc z2 => acc.1 = none ∧ ∃ j, left = (us.toList.zip vs.toList).drop j ∧ j ≤ us.size ∧ J j z2) _
  case turn =>
    rintro ⟨p, q⟩ left acc z2 ⟨an, j, hd, jl, hj⟩
    have jz : j < (us.toList.zip vs.toList).length := by
      rcases Nat.lt_or_ge j (us.toList.zip vs.toList).length with w | w
      · exact w
      · rw [List.drop_of_length_le w] at hd; cases hd
    have k1 : j < us.size := zl ▸ jz
    have k2 : j < vs.size := same ▸ k1
    rw [List.drop_eq_getElem_cons jz] at hd
    injection hd with hd1 hd2
    have ep : p = us[j] := by have := congrArg Prod.fst hd1; simpa using this
    have eq : q = vs[j] := by have := congrArg Prod.snd hd1; simpa using this
    subst ep eq
    refine wpAny_bind (wpAny_mono (each j k1 k2 z2 hj) (fun r z3 w => ?_) fun _ _ w => w)
    obtain ⟨rt, w⟩ := w
    subst rt
    wp_walk
    exact ⟨rfl, j + 1, hd2, k1, w⟩
  case fin =>
    rintro ⟨c1, c2⟩ z2 ⟨an, j, hd, jl, hj⟩
    simp only at an
    subst an
    have je : us.size ≤ j := by
      rcases Nat.lt_or_ge j (us.toList.zip vs.toList).length with w | w
      · rw [List.drop_eq_getElem_cons w] at hd; cases hd
      · exact zl ▸ w
    have je2 : j = us.size := by omega
    have ht : T (.ok (.ret (.bool false))) z2 := last z2 (je2 ▸ hj)
    wp_walk
    simpa [Builtin.Tuple.tupleCompareSizes, same] using ht
  case h =>
    exact ⟨rfl, 0, rfl, Nat.zero_le _, j00⟩
theorem rich_tuple_ne {a c : Addr} {us vs : Array Value} {z : Shared} {Q : Value → Shared → Prop} (same : us.size = vs.size) (hu : A.units < cLine) (J : Nat → Shared → Prop) (ha : z.heap.IsTuple a us) (hc : z.heap.IsTuple c vs)
    (each : ∀ j (k1 : j < us.size) (k2 : j < vs.size) z, J j z → wpAny (model prog wd) A.in1 (eqBool us[j] vs[j]) (fun r z2 => r = true ∧ J (j + 1) z2) Er z)
    (last : ∀ z, J us.size z → Q (.bool false) z) (j0 : J 0 z) : wpAny (model prog wd) A (richCompare .NotEq (.ref a) (.ref c)) Q Er z := by
  obtain ⟨⟨ca, da, ua, la⟩, oa, ea, m, fa⟩ := id ha
  obtain ⟨⟨cc, dc, uc, lc⟩, oc, ec, m2, fc⟩ := id hc
  simp only at ea fa ec fc
  subst ea fa ec fc
  refine wpAny_richCompare_same_room (op := .NotEq) ⟨_, oa, rfl⟩ ⟨_, oc, rfl⟩ F.slot_tuple_ne (call_here F.slot_tuple_ne ⟨_, oa, rfl⟩ F.entry_tuple_ne (F.args_tuple_ne_2 _ _) ?_) hu
  exact tuple_ne_walk (T := wants (fun v z2 => v ≠ .notImplemented ∧ Q v z2) Er) a c us vs m m2 da dc la lc same J each (fun z2 w => ⟨(fun x => nomatch x), last z2 w⟩) oa oc j0
end
end GQ
namespace L2
open PySem PySem.Spec PyProof.Rows
/-- x != y of two tuples that are equal item by item -/
def rNeT (K : PySem.W.Frag) (D : Eqv) : R2 := fun x y H Q => ∃ a b xs ys, x = .ref a ∧ y = .ref b ∧ SqT K H a xs ∧ SqT K H b ys ∧ Prs D xs ys H ∧ ∀ H', Ext H H' → Q (.bl false) H'
theorem op_neT {X : Cx} {n : Nat} {D : Eqv} (mon : Mon D) (h : EqG X n D) (hr : Room (n + 1) X.A) : OpR X (compareOp .NotEq) (rNeT X.K D) := by
  intro pins s σ H x y v u Q I rx ry hq
  obtain ⟨a, b, xs, ys, rfl, rfl, ha, hb, p, q⟩ := hq
  cases rx
  cases ry
  obtain ⟨us, r1, ta, _⟩ := I.tuple ha
  obtain ⟨vs, r2, tb, _⟩ := I.tuple hb
  have same : us.toArray.size = vs.toArray.size := by rw [List.size_toArray, List.size_toArray, ← r1.length, ← r2.length]; exact p.1
  show wpAny (model X.prog X.w) X.A (richCompare .NotEq (.ref a) (.ref b)) (EP X pins σ Q) X.xe s
  refine GQ.rich_tuple_ne same hr.units0 (fun _ z => LoopI X pins σ H z) ta tb (fun j k1 k2 z w => turnG mon h ⟨hr, rfl⟩ p r1 r2 j k1 k2 z w) (fun z w => ?_) ⟨H, I, Ext.rfl'⟩
  obtain ⟨H2, I2, ex⟩ := w
  exact ⟨.bl false, H2, I2, rfl, q H2 ex⟩
end L2
namespace SR
open PySem PySem.Spec PyProof.Rows L2
theorem RowEq.mon {K : PySem.W.Frag} {C : Addr} {a b : Addr} {H H' : Hp} (e : Ext H H') (h : RowEq K C a b H) : RowEq K C a b H' := let ⟨ps, ks, h1, h2⟩ := h; ⟨ps, ks, h1.same e, h2.same e⟩
/-- (row, number) != (row, number), both equal -/
def rNeTR (K : PySem.W.Frag) (C : Addr) : R2 := fun x y H Q => ∃ a b r r' i ps ks, x = .ref a ∧ y = .ref b ∧ SqT K H a [.ref r, .int i] ∧ SqT K H b [.ref r', .int i] ∧ RowAt K C H r ps ks ∧ RowAt K C H r' ps ks ∧ ∀ H', Same H H' → Q (.bl false) H'
theorem op_neTR {X : Cx} {j k : Nat} {C : Addr} (c : EqM X.prog X.w X.K X.mg X.base k C) (hr : Room j X.A) (hk : k + 1 ≤ j) : OpR X (compareOp .NotEq) (rNeTR X.K C) := by
  obtain ⟨f, fd, ps, F, m, z, b⟩ := c.ex
  intro pins s σ H x y v u Q I rx ry hq
  obtain ⟨a, a', r, r', i, qs, ks, rfl, rfl, h1, h2, h3, h4, q⟩ := hq
  obtain ⟨dx, fs, e1⟩ := h3.at
  obtain ⟨dy, gs, e2⟩ := h4.at
  have eg : EqG X k (fun x y H => DIns C (RowEq X.K C) x y H ∨ DFlat x y H) := (eqG_ins F m.at_ m.fn b pass0).or (eqG_flat.mono (Nat.zero_le _))
  have mo : Mon (fun x y H => DIns C (RowEq X.K C) x y H ∨ DFlat x y H) := (mon_ins fun _ _ _ _ e h => h.mon e).or mon_flat
  refine op_neT mo eg (hr.mono hk) pins s σ H _ _ v u Q I rx ry ⟨a, a', _, _, rfl, rfl, h1, h2, .cons (.inl ⟨r, r', dx, dy, fs, gs, rfl, rfl, e1, e2, qs, ks, h3, h4⟩) (.cons (.inr ⟨rfl, rfl, ?_⟩) .nil), q⟩
  simp [eqV]
end SR

set_option Elab.async false
set_option linter.all false
set_option maxRecDepth 100000
set_option maxHeartbeats 1000000
/-! K05A: the law's half a sweep, its trace. -/
namespace SR
open PySem PySem.Spec PyProof.Rows L2
def spLTrace (K : PySem.W.Frag) : Sp := fun vs H Q _ => ∃ (F Z : Addr) (fs zs ps ks : List (Int × Int)) (most : Int), vs = [.ref F, .ref Z, .int most] ∧ H F = some (.dK (kvsOf fs)) ∧ H Z = some (.dK (kvsOf zs)) ∧ Vd ps ks ∧ fs.Perm ps ∧ zs.Perm ks ∧ 1 ≤ most ∧ total ps ≤ 20 ∧
  ∀ r H' st, H r = none → Same H H' → StepsAt H' r st → Good ps ks most st → st.length ≤ 40 → Q (.ref r) H'
def t_ltrace (K : PySem.W.Frag) : TS := tSeq (tAsg (tCall (spLWalk K) [] E0 (tCons (tVar 0) (tCons (tVar 1) (tCons (tVar 2) (tNil))))) (gName 3))
  (tRet (tLc (iList K (tVar 3)) (gTup K 5 (gCons (gName 4) (gCons (gName 5) (gCons (gName 6) (gCons (gName 7) (gCons (gName 8) (gNil))))))) (tYes) (tTup (tCons (tVar 4) (tCons (tVar 5) (tCons (tVar 6) (tCons (tVar 7) (tCons (tVar 8) (tNil))))))) [4, 5, 6, 7, 8]))
theorem pure_ltrace {K : PySem.W.Frag} (vs : List V) (H : Hp) (Q : VK) (E : XK) (h : spLTrace K vs H Q E) : t_ltrace K { nx := fun _ H' => Q .non H', rt := Q } (start ["boxes", "sizes", "most", "steps", "place", "burden", "amount", "after", "later"] vs) H := by
  obtain ⟨F, Z, fs, zs, ps, ks, most, rfl, hF, hZ, v, pm, zm, m1, t20, q⟩ := h
  unfold t_ltrace
  rw [← xLc_eq]
  refine ⟨_, rfl, _, rfl, _, rfl, F, Z, fs, zs, ps, ks, most, rfl, hF, hZ, v, pm, zm, m1, fun r H1 st hr s1 ⟨ts, hr', pr⟩ good len => ?_⟩
  have sl : st.length ≤ 40 := by omega
  have tl : (ts.map V.ref).length = st.length := by rw [List.length_map, paired_len pr]
  show xLc (iList K (tVar 3)) (gTup K 5 (gCons (gName 4) (gCons (gName 5) (gCons (gName 6) (gCons (gName 7) (gCons (gName 8) (gNil))))))) (tYes) (tTup (tCons (tVar 4) (tCons (tVar 5) (tCons (tVar 6) (tCons (tVar 7) (tCons (tVar 8) (tNil))))))) [4, 5, 6, 7, 8] [some (.ref F), some (.ref Z), some (.int most), some (.ref r), none, none, none, none, none] H1 _
  rw [xLc_eq]
  refine ⟨_, rfl, r, rfl, ⟨_, SqL.of hr'⟩, fun D hD => ?_⟩
  refine lc_it (walk_list (K := K) (a := r) (xs := ts.map V.ref)) (fun i H2 => Same H1 H2 ∧ ∃ us, H2 D = some (.lst (us.map V.ref)) ∧ Paired (TupS H2) us (st.take i)) ⟨same_new hD, [], upd_same, .nil⟩ ?_ ?_ ?_
  · rintro i H2 _ ⟨s2, _⟩
    exact SqL.of (s2 _ _ hr')
  · rintro i x H2 H3 hi ⟨s2, us, d2, hus⟩ ⟨rfl, hx⟩
    rw [List.getElem?_map] at hx
    obtain ⟨t, ht, rfl⟩ := Option.map_eq_some_iff.mp hx
    obtain ⟨s, hs, hat⟩ := paired_at pr ht
    have T3 : TupS H3 t s := s2 _ _ hat
    have ul : us.length ≤ 40 := by
      rw [paired_len hus, List.length_take]
      exact Nat.le_trans (Nat.min_le_right _ _) sl
    refine ⟨t, _, rfl, SqT.of T3, rfl, _, _, rfl, _, _, rfl, _, _, rfl, _, _, rfl, _, _, rfl, rfl, rfl, _, rfl, _, rfl, _, rfl, _, rfl, _, rfl, sz (by show 5 ≤ 1000; decide), fun n hn => ?_⟩
    have s3 := same_new (o := .tup [.int s.1, .int s.2.1, .int s.2.2.1, .int s.2.2.2.1, .int s.2.2.2.2]) hn
    have N3 : TupS (upd H3 n (.tup [.int s.1, .int s.2.1, .int s.2.2.1, .int s.2.2.2.1, .int s.2.2.2.2])) n s := upd_same
    generalize upd H3 n (.tup [.int s.1, .int s.2.1, .int s.2.2.1, .int s.2.2.2.1, .int s.2.2.2.2]) = H4 at s3 N3 ⊢
    have d3 := s3 _ _ d2
    have keep : ∀ {b : Addr} {p : Step}, TupS H4 b p → TupS (upd H4 D (.lst (us.map V.ref ++ [.ref n]))) b p := fun {b p} z => (upd_ne (ne_of z d3 (by intro e; cases e))).trans z
    refine ⟨_, d3, ?_, same_upd (s2.trans s3) hD, us ++ [n], ?_, ?_⟩
    · rw [List.length_map]
      exact Nat.lt_of_le_of_lt ul (by decide)
    · rw [upd_same, List.map_append]
      rfl
    · rw [List.take_succ, hs]
      exact paired_snoc (keep N3) (paired_imp (fun _ _ z => keep (s3 _ _ z)) hus)
  · rintro H2 ⟨s2, us, d2, hus⟩
    rw [tl, List.take_length] at hus
    exact q D H2 st (Same.free s1 hD) (Same.trans s1 s2) ⟨us, d2, hus⟩ good sl
def spLHalf (K : PySem.W.Frag) : Sp := fun vs H Q _ => ∃ (F Z : Addr) (fs zs ps ks : List (Int × Int)) (most idx : Int), vs = [.ref F, .ref Z, .int most, .int idx] ∧ H F = some (.dK (kvsOf fs)) ∧ H Z = some (.dK (kvsOf zs)) ∧ Vd ps ks ∧ fs.Perm ps ∧ zs.Perm ks ∧ 1 ≤ most ∧ total ps ≤ 20 ∧
  ∀ t r H' st qs, H t = none → Same H H' → Good ps ks most st → H' t = some (.tup [.ref r, .int (lastLoad (upTo idx st))]) → H' r = some (.dK (kvsOf qs)) → qs.Perm (left (upTo idx st) ++ ahead idx ps) → Q (.ref t) H'
def t_lhFor (K : PySem.W.Frag) : TS := (tIfS (tTest (tOp qLe (tVar 6) (tVar 3)))
  (tAsg (tTup (tCons (tVar 10) (tCons (tVar 9) (tNil)))) (gTup K 2 (gCons (gSub (tVar 4) (tVar 6) rSetD) (gCons (gName 5) (gNil)))))
  (tNext))
def tPosH (K : PySem.W.Frag) : TE := tCB (qDictL K) (tCons (tLockE (tLc (iKeys (tVar 4)) (gName 6) (tTest (tOp qGt (tDGet (tVar 4) (tVar 6)) (tC (.int 0)))) (tTup (tCons (tVar 6) (tCons (tDGet (tVar 4) (tVar 6)) (tNil)))) [6])) (tNil))
def t_lhalf (K : PySem.W.Frag) : TS := tSeq (tAsg (tTup (tCons (tCB (qDictL K) (tCons (LiI.tListItems (tVar 0)) (tNil))) (tCons (tC (.int 0)) (tNil)))) (gTup K 2 (gCons (gName 4) (gCons (gName 5) (gNil)))))
  (tSeq (tFor (iList K (tCall (spLWalk K) [] E0 (tCons (tVar 0) (tCons (tVar 1) (tCons (tVar 2) (tNil)))))) (gTup K 5 (gCons (gName 6) (gCons (gName 7) (gCons (gName 8) (gCons (gName 9) (gCons (gName 10) (gNil)))))))
  (t_lhFor K))
  (tRet (tTup (tCons (tPosH K) (tCons (tVar 5) (tNil))))))
@[irreducible] def xPosH := @tPosH
theorem xPosH_eq : @xPosH = @tPosH := by
  unfold xPosH
  rfl
/-- dict([(y, found[y]) for y in found if found[y] > 0]) -/
theorem keys_pos {K : PySem.W.Frag} {F : Addr} {fs : List (Int × Int)} {x0 x1 x2 x3 x5 x6 x7 x8 x9 x10 : Option V} {H : Hp} {Q : VK} (hF : H F = some (.dK (kvsOf fs))) (nd : (fs.map Prod.fst).Nodup) (hl : fs.length ≤ 100)
    (q : ∀ r H', H r = none → Same H H' → H' r = some (.dK (kvsOf (fs.filter fun p => decide (0 < p.2)))) → Q (.ref r) H') : tPosH K [x0, x1, x2, x3, some (.ref F), x5, x6, x7, x8, x9, x10] H Q := by
  refine ⟨F, _, hF, trivial, fun od => ?_⟩
  have A : upd H F (.frz od (.dK (kvsOf fs))) F = some (.frz od (.dK (kvsOf fs))) := upd_same
  have k1 : ∀ b o, b ≠ F → H b = some o → upd H F (.frz od (.dK (kvsOf fs))) b = some o := fun b o e h => (upd_ne e).trans h
  have fr : ∀ b, upd H F (.frz od (.dK (kvsOf fs))) b = none → H b = none ∧ b ≠ F := fun b e => by
    by_cases z : b = F
    · rw [z, upd_same] at e
      cases e
    · rw [upd_ne z] at e
      exact ⟨e, z⟩
  generalize upd H F (.frz od (.dK (kvsOf fs))) = H1 at A k1 fr ⊢
  refine ⟨_, rfl, F, od, rfl, .inl ⟨_, A, fun D hD => ?_⟩⟩
  obtain ⟨hD0, nDF⟩ := fr D hD
  have kl : (kvsOf fs).length = fs.length := by unfold kvsOf; rw [List.length_map]
  refine lc_it (walk_keys (d := F) (o := od) (kvs := kvsOf fs)) (fun i H2 => Same H1 H2 ∧ ∃ us, H2 D = some (.lst (us.map V.ref)) ∧ Paired (TupAt H2) us ((fs.take i).filter fun p => decide (0 < p.2))) ⟨same_new hD, [], upd_same, .nil⟩ ?_ ?_ ?_
  · rintro i H2 _ ⟨s2, _⟩
    exact s2 _ _ A
  · rintro i x H2 H3 hi ⟨s2, us, d2, hus⟩ ⟨rfl, k, w, hkv, rfl⟩
    obtain ⟨p, hp, e⟩ : ∃ p, fs[i]? = some p ∧ ((.inl p.1, .int p.2) : Key × V) = (k, w) := by
      unfold kvsOf at hkv
      rw [List.getElem?_map] at hkv
      obtain ⟨p, h1, h2⟩ := Option.map_eq_some_iff.mp hkv
      exact ⟨p, h1, h2⟩
    cases e
    have hm := List.mem_of_getElem? hp
    have gv : valV (kvsOf fs) (.inl p.1) = some (.int p.2) := by
      rw [val_pairs, (lookup_some (n := p.2) nd).mpr hm]
      rfl
    have dg : DGet H3 F (.int p.1) (some (.int p.2)) := .inl ⟨kvsOf fs, .inl p.1, .inr ⟨od, s2 _ _ A⟩, rfl, gv.symm⟩
    have ul : us.length ≤ 100 := by
      have a := paired_len hus
      have b := List.length_filter_le (fun p : Int × Int => decide (0 < p.2)) (fs.take i)
      rw [List.length_take] at b
      have c := Nat.min_le_right i fs.length
      omega
    have tk : fs.take (i + 1) = fs.take i ++ [p] := by
      rw [List.take_succ, hp]
      rfl
    refine ⟨rfl, _, rfl, _, rfl, F, _, rfl, dg, _, _, rfl, rfl, _, rfl, ?_⟩
    by_cases e : 0 < p.2
    · rw [decide_eq_true e]
      refine iteT ⟨_, rfl, _, rfl, _, rfl, F, _, rfl, dg, sz (by show 2 ≤ 1000; decide), fun n hn => ?_⟩
      have s3 := same_new (o := .tup [kV (.inl p.1), .int p.2]) hn
      have T3 : TupAt (upd H3 n (.tup [kV (.inl p.1), .int p.2])) n p := upd_same
      generalize upd H3 n (.tup [kV (.inl p.1), .int p.2]) = H4 at s3 T3 ⊢
      have d3 := s3 _ _ d2
      have keep : ∀ {b : Addr} {p : Int × Int}, TupAt H4 b p → TupAt (upd H4 D (.lst (us.map V.ref ++ [.ref n]))) b p := fun {b p} z => (upd_ne (ne_of z d3 (by intro e; cases e))).trans z
      refine ⟨_, d3, ?_, same_upd (s2.trans s3) hD, us ++ [n], ?_, ?_⟩
      · rw [List.length_map]
        exact Nat.lt_of_le_of_lt ul (by decide)
      · rw [upd_same, List.map_append]
        rfl
      · rw [tk, List.filter_append]
        have : ([p].filter fun p : Int × Int => decide (0 < p.2)) = [p] := by
          rw [List.filter_cons_of_pos (p := fun p : Int × Int => decide (0 < p.2)) (decide_eq_true e)]
          rfl
        rw [this]
        exact paired_snoc (keep T3) (paired_imp (fun _ _ z => keep (s3 _ _ z)) hus)
    · rw [decide_eq_false e]
      refine iteF ⟨s2, us, d2, ?_⟩
      rw [tk, List.filter_append]
      have : ([p].filter fun p : Int × Int => decide (0 < p.2)) = [] := by
        rw [List.filter_cons_of_neg (p := fun p : Int × Int => decide (0 < p.2)) (by rw [decide_eq_false e]; exact Bool.false_ne_true)]
        rfl
      rw [this, List.append_nil]
      exact hus
  · rintro H2 ⟨s2, us, d2, hus⟩
    rw [kl, List.take_length] at hus
    have s4 : Same H (upd H2 F (.dK (kvsOf fs))) := same_lock hF fun b o e h => s2 _ _ (k1 b o e h)
    have up : ∀ {b : Addr} {p : Int × Int}, TupAt H2 b p → TupAt (upd H2 F (.dK (kvsOf fs))) b p := fun {b p} z => (upd_ne (fun e => by
      unfold TupAt at z
      rw [e, s2 _ _ A] at z
      cases z)).trans z
    refine ⟨s2 _ _ A, D, us, _, rfl, SqL.of ((upd_ne nDF).trans d2), paired_kvs (paired_imp (fun _ _ z => up z) hus), fun r hr => ?_⟩
    rw [merge_pairs (nd.sublist (List.Sublist.map _ List.filter_sublist))]
    exact q r _ (Same.free s4 hr) (s4.trans (same_new hr)) upd_same
theorem half_perm {ps ks fs : List (Int × Int)} {most idx : Int} {st : List Step} (v : Vd ps ks) (m1 : 1 ≤ most) (pm : fs.Perm ps) (g : Good ps ks most st) :
    ((PutS fs (upTo idx st)).filter fun p => decide (0 < p.2)).Perm (left (upTo idx st) ++ ahead idx ps) := by
  obtain ⟨st0, h⟩ := traces_ex v.ok m1 ps [] fun q m => m
  have e := good_one v m1 g (good_traces v m1 h)
  subst e
  have asc := (half_ok v.ok v.ap m1 h idx).2
  have nf : (fs.map Prod.fst).Nodup := (pm.map _).nodup_iff.mpr v.ok.nd
  have aa : AscS (upTo idx st) := List.Pairwise.filter _ g.asc
  obtain ⟨h1, h2⟩ := putS_look fs aa
  have nd : ((PutS fs (upTo idx st)).map Prod.fst).Nodup := putS_nd nf
  have n1 : ((PutS fs (upTo idx st)).filter fun p => decide (0 < p.2)).Nodup := by
    have : (PutS fs (upTo idx st)).Nodup := by
      unfold List.Nodup at nd ⊢
      rw [List.pairwise_map] at nd
      exact nd.imp fun z e => z (by rw [e])
    exact this.sublist List.filter_sublist
  have n2 : (left (upTo idx st) ++ ahead idx ps).Nodup := asc.imp fun {x y} z e => by rw [e] at z; omega
  have fl : ∀ p : Int × Int, fs.lookup p.1 = some p.2 ↔ p ∈ ps := fun p => (lookup_some (n := p.2) nf).trans pm.mem_iff
  refine (List.perm_ext_iff_of_nodup n1 n2).mpr fun p => ⟨fun m => ?_, fun m => ?_⟩
  · obtain ⟨m2, p0⟩ := List.mem_filter.mp m
    have p0 := of_decide_eq_true p0
    have lk := (lookup_some (n := p.2) nd).mpr m2
    by_cases ex : ∃ s ∈ upTo idx st, s.1 = p.1
    · obtain ⟨s, hs, e⟩ := ex
      have k := h2 s hs
      rw [e, lk] at k
      have k2 : p.2 = s.2.2.2.2 := Option.some.inj k
      refine List.mem_append_left _ (List.mem_map.mpr ⟨s, List.mem_filter.mpr ⟨hs, decide_eq_true (by omega)⟩, ?_⟩)
      show (s.1, s.2.2.2.2) = p
      rw [e, ← k2]
    · have no : ∀ s ∈ upTo idx st, s.1 ≠ p.1 := fun s hs e => ex ⟨s, hs, e⟩
      rw [h1 p.1 no] at lk
      have hp := (fl p).mp lk
      obtain ⟨s, hs, e⟩ := g.cov p hp
      refine List.mem_append_right _ (List.mem_filter.mpr ⟨hp, decide_eq_true ?_⟩)
      by_cases z : s.1 ≤ idx
      · exact absurd e (no s (List.mem_filter.mpr ⟨hs, decide_eq_true z⟩))
      · omega
  · rcases List.mem_append.mp m with m | m
    · obtain ⟨s, hs, rfl⟩ := List.mem_map.mp m
      obtain ⟨hs1, hs2⟩ := List.mem_filter.mp hs
      exact List.mem_filter.mpr ⟨(lookup_some nd).mp (h2 s hs1), hs2⟩
    · obtain ⟨hp, z⟩ := List.mem_filter.mp m
      have z := of_decide_eq_true z
      have no : ∀ s ∈ upTo idx st, s.1 ≠ p.1 := fun s hs e => by
        have := of_decide_eq_true (List.mem_filter.mp hs).2
        omega
      have lk := (fl p).mpr hp
      rw [← h1 p.1 no] at lk
      exact List.mem_filter.mpr ⟨(lookup_some nd).mp lk, decide_eq_true (by have := v.one p hp; omega)⟩
theorem pure_lhalf {K : PySem.W.Frag} (vs : List V) (H : Hp) (Q : VK) (E : XK) (h : spLHalf K vs H Q E) : t_lhalf K { nx := fun _ H' => Q .non H', rt := Q } (start ["boxes", "sizes", "most", "place", "found", "burden", "at", "before", "amount", "after", "later"] vs) H := by
  obtain ⟨F, Z, fs, zs, ps, ks, most, idx, rfl, hF, hZ, v, pm, zm, m1, t20, q⟩ := h
  unfold t_lhalf
  rw [← xPosH_eq]
  have nd : (fs.map Prod.fst).Nodup := (pm.map _).nodup_iff.mpr v.ok.nd
  have fl : fs.length ≤ 20 := by
    have a := len_sum v.one
    have b := pm.length_eq
    unfold total at t20
    omega
  refine ⟨_, rfl, F, _, rfl, hF, fun H1 l1 t1 s1 n1 _ _ d1 p1 => ⟨l1, t1, kvsOf fs, rfl, SqL.of d1, paired_imp (fun _ _ z => SqT.of z) p1, fun W hW => ?_⟩⟩
  rw [merge_pairs nd]
  have s2 := Same.trans s1 (same_new (o := .dK (kvsOf fs)) hW)
  have W2 : upd H1 W (.dK (kvsOf fs)) W = some (.dK (kvsOf fs)) := upd_same
  have hW0 := Same.free s1 hW
  generalize upd H1 W (.dK (kvsOf fs)) = H2 at s2 W2 ⊢
  refine ⟨sz (by show 2 ≤ 1000; decide), fun tu htu => ⟨tu, _, rfl, SqT.of upd_same, rfl, _, _, rfl, _, _, rfl, rfl, ?_⟩⟩
  have s3 := Same.trans s2 (same_new (o := .tup [.ref W, .int 0]) htu)
  have W3 := same_new (o := .tup [.ref W, .int 0]) htu _ _ W2
  generalize upd H2 tu (.tup [.ref W, .int 0]) = H3 at s3 W3 ⊢
  refine ⟨_, rfl, _, rfl, _, rfl, F, Z, fs, zs, ps, ks, most, rfl, s3 _ _ hF, s3 _ _ hZ, v, pm, zm, m1, fun r H4 st hr s4 ⟨ts, hr', pr⟩ good len => ⟨r, rfl, ⟨_, SqL.of hr'⟩, ?_⟩⟩
  have sl : st.length ≤ 40 := by omega
  have tl : (ts.map V.ref).length = st.length := by rw [List.length_map, paired_len pr]
  have rW : r ≠ W := fun z => by rw [z, W3] at hr; cases hr
  refine for_it (walk_list (K := K) (a := r) (xs := ts.map V.ref)) (fun i σ H5 => SameBut W H4 H5 ∧ ∃ w6 w7 w8 w9 w10, H5 W = some (.dK (kvsOf (PutS fs (upTo idx (st.take i))))) ∧ σ = [some (.ref F), some (.ref Z), some (.int most), some (.int idx), some (.ref W), some (.int (lastLoad (upTo idx (st.take i)))), w6, w7, w8, w9, w10]) ⟨fun _ _ _ h => h, _, _, _, _, _, s4 _ _ W3, rfl⟩ ?_ ?_ ?_
  · rintro i σ H5 _ ⟨k5, _⟩
    exact SqL.of (k5 _ _ rW hr')
  · rintro i x σ H5 H6 hi ⟨k5, w6, w7, w8, w9, w10, W5, rfl⟩ ⟨rfl, hx⟩
    rw [List.getElem?_map] at hx
    obtain ⟨t, ht, rfl⟩ := Option.map_eq_some_iff.mp hx
    obtain ⟨s, hs, hat⟩ := paired_at pr ht
    have T6 : TupS H6 t s := k5 _ _ (fun z => by
      unfold TupS at hat
      rw [z, s4 _ _ W3] at hat
      cases hat) hat
    have tk : st.take (i + 1) = st.take i ++ [s] := by
      rw [List.take_succ, hs]
      rfl
    have up : upTo idx (st.take (i + 1)) = upTo idx (st.take i) ++ (if s.1 ≤ idx then [s] else []) := by
      rw [tk]
      unfold upTo
      rw [List.filter_append]
      by_cases e : s.1 ≤ idx
      · rw [if_pos e, List.filter_cons_of_pos (p := fun s : Step => decide (s.1 ≤ idx)) (decide_eq_true e)]
        rfl
      · rw [if_neg e, List.filter_cons_of_neg (p := fun s : Step => decide (s.1 ≤ idx)) (by rw [decide_eq_false e]; exact Bool.false_ne_true)]
        rfl
    refine ⟨t, _, rfl, SqT.of T6, rfl, _, _, rfl, _, _, rfl, _, _, rfl, _, _, rfl, _, _, rfl, rfl, ?_⟩
    show t_lhFor K _ [some (.ref F), some (.ref Z), some (.int most), some (.int idx), some (.ref W), some (.int (lastLoad (upTo idx (st.take i)))), some (.int s.1), some (.int s.2.1), some (.int s.2.2.1), some (.int s.2.2.2.1), some (.int s.2.2.2.2)] H6
    refine ⟨_, rfl, _, rfl, _, _, rfl, rfl, _, rfl, ?_⟩
    by_cases e : s.1 ≤ idx
    · rw [if_pos e] at up
      rw [decide_eq_true e]
      refine iteT ⟨_, rfl, _, rfl, sz (by show 2 ≤ 1000; decide), fun t2 ht2 => ?_⟩
      have s7 := same_new (o := .tup [.int s.2.2.2.2, .int s.2.2.2.1]) ht2
      have T7 : upd H6 t2 (.tup [.int s.2.2.2.2, .int s.2.2.2.1]) t2 = some (.tup [.int s.2.2.2.2, .int s.2.2.2.1]) := upd_same
      generalize upd H6 t2 (.tup [.int s.2.2.2.2, .int s.2.2.2.1]) = H7 at s7 T7 ⊢
      have pl := putS_len (upTo idx (st.take i)) fs
      have ul := List.length_filter_le (fun s : Step => decide (s.1 ≤ idx)) (st.take i)
      have tkl := List.length_take_le i st
      have bound : (PutS fs (upTo idx (st.take i))).length < 1000 := by
        unfold upTo at pl ⊢
        omega
      refine ⟨t2, _, rfl, SqT.of T7, rfl, _, _, rfl, ⟨_, rfl, _, rfl, W, _, rfl, dput_pairs (s7 _ _ W5) bound, _, _, rfl, rfl, ?_⟩⟩
      refine ⟨fun b o ne h => (upd_ne ne).trans (s7 _ _ (k5 _ _ ne h)), some (.int s.1), some (.int s.2.1), some (.int s.2.2.1), some (.int s.2.2.2.1), some (.int s.2.2.2.2), ?_, ?_⟩
      · rw [upd_same, up]
        unfold PutS
        rw [List.foldl_append]
        rfl
      · have : lastLoad (upTo idx (st.take (i + 1))) = s.2.2.2.1 := by
          rw [up]
          unfold lastLoad
          rw [List.getLast?_append]
          rfl
        rw [this]
        rfl
    · rw [if_neg e, List.append_nil] at up
      rw [decide_eq_false e]
      refine iteF ⟨k5, some (.int s.1), some (.int s.2.1), some (.int s.2.2.1), some (.int s.2.2.2.1), some (.int s.2.2.2.2), ?_, ?_⟩
      · rw [up]
        exact W5
      · rw [up]
  · rintro σ H5 ⟨k5, w6, w7, w8, w9, w10, W5, rfl⟩
    rw [tl, List.take_length] at W5 ⊢
    have pl := putS_len (upTo idx st) fs
    have ul := List.length_filter_le (fun s : Step => decide (s.1 ≤ idx)) st
    show xPosH K [some (.ref F), some (.ref Z), some (.int most), some (.int idx), some (.ref W), some (.int (lastLoad (upTo idx st))), w6, w7, w8, w9, w10] H5 _
    rw [xPosH_eq]
    refine keys_pos W5 (putS_nd nd) (by unfold upTo at pl ⊢; omega) fun R H6 hR s6 R6 => ⟨_, rfl, sz (by show 2 ≤ 1000; decide), fun tt htt => ?_⟩
    have s05 : Same H H5 := fun b o z => k5 _ _ (ne_of_none z hW0) (s4 _ _ (s3 _ _ z))
    have s06 := s05.trans s6
    exact q tt R _ st _ (Same.free s06 htt) (s06.trans (same_new htt)) good upd_same (same_new htt _ _ R6) (half_perm v m1 pm good)
end SR

set_option Elab.async false
set_option linter.all false
set_option maxRecDepth 100000
set_option maxHeartbeats 4000000
/-! SRJ3: a method, a class called by keywords. -/
namespace SR
open PySem PySem.Spec PyProof.Rows L2
/-- o.m(k = v, ..); n: how many keywords -/
def tMethKw (C : Addr) (m : Str) (n : Nat) (sp : Sp) (gV : List V → List V → List V) (E : XK) (ta : TE) (tk : TA) : TE := fun σ H Q => ta σ H fun x H1 => ∃ a dx fs, x = .ref a ∧ H1 a = some (.ins C dx fs) ∧ fs.lookup m = none ∧
  tk σ H1 fun zs H2 => zs.length = n ∧ sp (gV [x] zs) H2 Q E
section
variable {X : Cx} {CX : CXT} {k : Nat} {C f : Addr} {m : Str} {fd : FuncData} {ps ks : List Str} {sp : Sp} {E : XK} {o : Expr} {apos pos : Pos} {kws : List Keyword} {ta : TE} {tk : TA} {g : List Value → List Value → List Value} {gV : List V → List V → List V}
theorem pe_methKw {pl : Sem Bool} (he : PE X o ta) (c : Cls X.K C) (hm : Meth X.K C m f) (F : FnOk X.prog X.w X.K X.mg X.base CX k f fd ps sp) (hr : Room k X.A) (hb : KBn X.K fd ps 1 ks g gV) (hx : ∀ σ : L2.St, PassesAt CX X σ E) (hkw : PK X kws tk)
    (hall : (backToKw pos (keywordEach kws X.env)).all (·.1.isSome) = true := by rfl) (hks : (backToKw pos (keywordEach kws X.env)).filterMap (·.1) = ks := by rfl)
    (hpl : ((backTo pos (starEach [] X.env)).any (·.1) || (backToKw pos (keywordEach kws X.env)).any (·.1.isNone)) = false := by rfl)
    (ht : eval (.Call (.Attribute o m apos) [] kws pos) X.env = (do
      let ov ← eval o X.env
      standAt apos.atName
      let (f, first) ← holding [ov] (getMethod ov m pl)
      callWith pos f first (backTo pos (starEach [] X.env)) (backToKw pos (keywordEach kws X.env))) := by rfl) :
    PE X (.Call (.Attribute o m apos) [] kws pos) (tMethKw C m ks.length sp gV E ta tk) := by
  refine ⟨fun pins s σ H Q I h => ?_⟩
  refine PySem.W.methodCall_KW (pl := pl) (thn (he.run pins s σ H _ I h) fun u s1 ⟨x, H1, I1, rx, a, dx, fs, ex, ea, l, q⟩ => ?_) ht
  subst ex
  obtain rfl : u = Value.ref a := rx
  refine getmeth_ok I1 ea c hm l ?_
  refine PySem.W.callWith_KW0 (first := [.ref a]) (h₀ := X.base) I.ok.mod.kin hm.kp hall ?_ hpl
  refine thn (hkw.run pos pins s1 σ H1 _ I1 q) fun ws s2 ⟨zs, H2, I2, rz, l2, q2⟩ => ⟨I2.kIn, ?_⟩
  rw [hks]
  exact run_kw (E := fun _ => E) (us := [.ref a]) (vs := [.ref a]) F hr hb (hx σ) I2 (.cons rfl .nil) rz rfl l2 q2
/-- C(k = v, ..) -/
def tMakeKw (C : Addr) (n : Nat) (sp : Sp) (gV : List V → List V → List V) (E : XK) (tk : TA) : TE := fun σ H Q => tk σ H fun zs H1 => zs.length = n ∧ ∀ x dx, H1 x = none → H1 dx = none → dx ≠ x →
  sp (gV [.ref x] zs) (upd (upd H1 dx (.own x)) x (.ins C dx [])) (fun v H2 => v = .non ∧ Q (.ref x) H2) E
theorem run_makeKw {pins : List (Addr × Obj)} {σ : L2.St} {H : Hp} {s : Shared} {Q : VK} {ws : List Value} {zs : List V} (M : Mk X.K C f) (F : FnOk X.prog X.w X.K X.mg X.base CX k f fd ps sp) (hr : Room (k + 1) X.A) (hb : KBn X.K fd ps 1 ks g gV)
    (hx : Passes CX X E) (I : Inv X pins σ H s) (rz : Vals zs ws) (l2 : zs.length = ks.length)
    (h : ∀ x dx, H x = none → H dx = none → dx ≠ x → sp (gV [.ref x] zs) (upd (upd H dx (.own x)) x (.ins C dx [])) (fun v H2 => v = .non ∧ Q (.ref x) H2) E) :
    wpAny (model X.prog X.w) X.A (call (.ref C) [] (ks.zip ws)) (EP X pins σ Q) X.xe s := by
  have hq := h (s.heap.objs.size + 1) s.heap.objs.size (I.hok.fresh (Nat.le_succ _)) (I.hok.fresh (Nat.le_refl _)) (Nat.ne_of_lt (Nat.lt_succ_self _))
  have I2 := Inv.made (C := C) I
  have r1 : Vals [V.ref (s.heap.objs.size + 1)] [Value.ref (s.heap.objs.size + 1)] := .cons rfl .nil
  refine wpAny_call (make_map (f := f) I.kIn M.makes M.init (beq_iff_eq.mp M.fn) (codeAny_mono (F.run _ X.stack _ _ ⟨[Value.ref (s.heap.objs.size + 1)], ks.zip ws⟩ (g [Value.ref (s.heap.objs.size + 1)] ws) _ _ E (hr.make C [] (ks.zip ws))
    (I2.env0.make C [] (ks.zip ws)) (hb.to _ [Value.ref (s.heap.objs.size + 1)] ws I2.kIn rfl (rz.length.symm.trans l2)) (hb.rel r1 rz) hq) fun r s' hq' => ?_))
  cases r with
  | error e => exact hx pins σ _ _ e s' I2 hq'
  | ok fl =>
    cases fl with
    | ret u =>
      obtain ⟨v, H', I3, rv, ev, q3⟩ := I2.after hq'
      subst ev
      exact ⟨rv, ⟨V.ref (s.heap.objs.size + 1), H', I3, rfl, q3⟩⟩
    | next => exact False.elim hq'
    | brk => exact False.elim hq'
    | cont => exact False.elim hq'
theorem pe_makeKw {x : Str} {p : Pos} (M : Mk X.K C f) (F : FnOk X.prog X.w X.K X.mg X.base CX k f fd ps sp) (hr : Room (k + 1) X.A) (hg : Gl X x) (hm : X.mg x = some (.ref C)) (hb : KBn X.K fd ps 1 ks g gV) (hx : Passes CX X E) (hkw : PK X kws tk)
    (hall : (backToKw pos (keywordEach kws X.env)).all (·.1.isSome) = true := by rfl) (hks : (backToKw pos (keywordEach kws X.env)).filterMap (·.1) = ks := by rfl) (hdb : (x == ("__debug__" : Str)) = false := by decide)
    (hpl : ((backTo pos (starEach [] X.env)).any (·.1) || (backToKw pos (keywordEach kws X.env)).any (·.1.isNone)) = false := by rfl) :
    PE X (.Call (.Name x p) [] kws pos) (tMakeKw C ks.length sp gV E tk) := by
  refine ⟨fun pins s σ H Q I h => wpAny_Call_Name_kw (ld_glob I hg hm (PySem.W.callWith_KW0 (h₀ := X.base) I.ok.mod.kin M.kp hall ?_ hpl) hdb)⟩
  refine thn (hkw.run pos pins s σ H _ I h) fun ws s2 ⟨zs, H2, I2, rz, l2, q2⟩ => ⟨I2.kIn, ?_⟩
  rw [hks]
  exact run_makeKw M F hr hb hx I2 rz l2 q2
end
end SR

set_option Elab.async false
set_option linter.all false
set_option maxRecDepth 100000
set_option maxHeartbeats 2000000
/-! K02A: a row's own == in full: rows of any data; a value that is no row. -/
namespace SR
open PySem PySem.Spec PyProof.Rows L2
theorem eqv_pair (p q : Int × Int) : PyData.eqv (pr2 p.1 p.2) (pr2 q.1 q.2) = decide (p = q) := by
  obtain ⟨a, b⟩ := p
  obtain ⟨c, d⟩ := q
  show (a == c && (b == d && true)) = _
  by_cases h1 : a = c
  · by_cases h2 : b = d
    · subst h1 h2
      simp
    · have : ¬((a, b) = (c, d)) := fun z => h2 (congrArg Prod.snd z)
      rw [decide_eq_false this]
      simp [h2]
  · have : ¬((a, b) = (c, d)) := fun z => h1 (congrArg Prod.fst z)
    rw [decide_eq_false this]
    simp [h1]
theorem eqv_row : ∀ ps qs : List (Int × Int), PyData.eqv (rowD ps) (rowD qs) = decide (ps = qs)
  | [], [] => rfl
  | [], q :: qs => by
    rw [decide_eq_false (by intro z; cases z)]
    rfl
  | p :: ps, [] => by
    rw [decide_eq_false (by intro z; cases z)]
    rfl
  | p :: ps, q :: qs => by
    show (PyData.eqv (pr2 p.1 p.2) (pr2 q.1 q.2) && PyData.eqv (rowD ps) (rowD qs)) = _
    rw [eqv_pair, eqv_row ps qs]
    by_cases h1 : p = q
    · by_cases h2 : ps = qs
      · subst h1 h2
        simp
      · rw [decide_eq_false h2, decide_eq_false fun z => h2 (List.cons.inj z).2]
        simp
    · rw [decide_eq_false h1, decide_eq_false fun z => h1 (List.cons.inj z).1]
      rfl
theorem eq_rows {K : PySem.W.Frag} {H : Hp} {x y : V} {ps qs : List (Int × Int)} {Q : VK} (hx : Dp K H x (rowD ps)) (hy : Dp K H y (rowD qs)) (q : Q (.bl (decide (ps = qs))) H) : rEqD K x y H Q :=
  ⟨rowD ps, rowD qs, hx, hy, row_shaped ps, row_shaped qs, by rw [eqv_row]; exact q⟩
def spRowEqF (K : PySem.W.Frag) (C : Addr) : Sp := fun vs H Q _ => ∃ a y ps ks, vs = [.ref a, y] ∧ RowAt K C H a ps ks ∧
  ((∃ b qs ls, y = .ref b ∧ RowAt K C H b qs ls ∧ Q (.bl (decide (ps = qs ∧ ks = ls))) H) ∨ ∃ t, TyX K H y t ∧ PySem.W.kitOne K t (.ref C) = some false ∧ Q (.bl false) H)
theorem pure_row_eqF {K : PySem.W.Frag} {C : Addr} (R : RowC K C) (Z : RowK K C) (vs : List V) (H : Hp) (Q : VK) (E : XK) (h : spRowEqF K C vs H Q E) : t_Row_eq K C { nx := fun _ H' => Q .non H', rt := Q } (start ["self", "other"] vs) H := by
  obtain ⟨a, y, ps, ks, rfl, ⟨dx, c, k, d, e, ps0, ks0, h1, h2, h3, _⟩, ⟨b, qs, ls, rfl, ⟨dy, c', k', d', e', _, _, g1, g2, g3, _⟩, q⟩ | ⟨t, ty, kt, q⟩⟩ := h
  · refine ⟨_, rfl, .ref b, .ref C, .ref C, .ref C, true, rfl, .own C, .base (.ins g1 R.cls Z.ha Z.hg Z.ht Z.hm), Z.kit, ?_⟩
    refine ⟨_, rfl, iteT ⟨_, rfl, a, C, dx, _, _, rfl, h1, R.cls, R.n1, fl1 c k d e, _, rfl, b, C, dy, _, _, rfl, g1, R.cls, R.n1, fl1 c' k' d' e', ?_⟩⟩
    by_cases z1 : ps = qs
    · refine eq_rows (pairsT_dp h2) (pairsT_dp g2) ?_
      rw [decide_eq_true z1]
      refine ⟨_, rfl, iteT ⟨_, rfl, a, C, dx, _, _, rfl, h1, R.cls, R.n2, fl2 c k d e, _, rfl, b, C, dy, _, _, rfl, g1, R.cls, R.n2, fl2 c' k' d' e', ?_⟩⟩
      refine eq_rows (pairsT_dp h3) (pairsT_dp g3) ?_
      have : decide (ps = qs ∧ ks = ls) = decide (ks = ls) := by
        by_cases z2 : ks = ls
        · rw [decide_eq_true z2, decide_eq_true ⟨z1, z2⟩]
        · rw [decide_eq_false z2, decide_eq_false fun z => z2 z.2]
      rw [← this]
      exact q
    · refine eq_rows (pairsT_dp h2) (pairsT_dp g2) ?_
      rw [decide_eq_false z1]
      rw [decide_eq_false fun z => z1 z.1] at q
      exact ⟨_, rfl, iteF q⟩
  · exact ⟨_, rfl, y, .ref C, t, .ref C, false, rfl, .own C, ty, kt, _, rfl, iteF q⟩
/-- rows that are asked for == in full -/
structure EqF (P : Program) (w : World) (K : PySem.W.Frag) (mg : Str → Option Value) (base : Heap) (k : Nat) (C : Addr) : Prop where
  ex : ∃ (f : Addr) (fd : FuncData) (ps : List Str), FnOk P w K mg base CX0 k f fd ps (spRowEqF K C) ∧ Meth K C "__eq__" f ∧ RowK K C ∧ Binds K fd ps []
def rEqF (K : PySem.W.Frag) (C : Addr) : R2 := fun x y H Q => ∃ a b ps ks qs ls, x = .ref a ∧ y = .ref b ∧ RowAt K C H a ps ks ∧ RowAt K C H b qs ls ∧ ∀ H', Same H H' → Q (.bl (decide (ps = qs ∧ ks = ls))) H'
theorem op_eqF {X : Cx} {j k : Nat} {C : Addr} (c : EqF X.prog X.w X.K X.mg X.base k C) (hr : Room j X.A) (hk : k + 1 ≤ j) : OpR X (compareOp .Eq) (rEqF X.K C) := by
  obtain ⟨f, fd, fps, F, m, z, hb⟩ := c.ex
  intro pins s σ H x y v u Q I rx ry hq
  obtain ⟨a, b, ps, ks, qs, ls, rfl, rfl, h1, h2, q⟩ := hq
  obtain ⟨dx, fs, e1⟩ := h1.at
  obtain ⟨dy, gs, e2⟩ := h2.at
  cases rx
  cases ry
  obtain ⟨mA, J, _⟩ := ins_get I.hok e1
  obtain ⟨mB, J', _⟩ := ins_get I.hok e2
  obtain ⟨od, J, _⟩ := J.look
  obtain ⟨od', J', _⟩ := J'.look
  obtain ⟨mm, hF⟩ := I.fr
  show wpAny (model X.prog X.w) X.A (richCompare .Eq (.ref a) (.ref b)) (EP X pins σ Q) X.xe s
  have room := hr.mono (Nat.le_trans (Nat.le_succ k) hk)
  refine PySem.W.cmp_K (op := .Eq) (tb := .ref C) room.units0 hF I.ok.mod.kin J J'.type (by simp [PySem.W.notFirst]) m.at_ m.fn ?_
  have told : spRowEqF X.K C [.ref a, .ref b] H (fun v H' => v = .bl (decide (ps = qs ∧ ks = ls)) ∧ Same H H') E0 := ⟨a, .ref b, ps, ks, rfl, h1, .inl ⟨b, qs, ls, rfl, h2, rfl, fun _ _ z => z⟩⟩
  have en := I.env0
  have vals : Vals [V.ref a, V.ref b] [Value.ref a, Value.ref b] := .cons rfl (.cons rfl .nil)
  have two := F.len _ _ _ _ told
  refine wpAny_call (codeAny_mono (F.run X.A X.stack s H ⟨[.ref a, .ref b], []⟩ [.ref a, .ref b] [.ref a, .ref b] _ E0 room en (by
    have := hb s [.ref a, .ref b] I.kIn (by rw [← two]; rfl)
    simpa using this) vals told) fun out s2 kk => ?_)
  cases out with
  | error e => exact pass0 pins σ H s e s2 I kk
  | ok fl =>
    cases fl with
    | ret w =>
      obtain ⟨zz, H2, I2, rz, ez, ex⟩ := I.after kk
      subst ez
      cases rz
      exact ⟨.bl (decide (ps = qs ∧ ks = ls)), H2, I2, rfl, q H2 ex⟩
    | next => exact False.elim kk
    | brk => exact False.elim kk
    | cont => exact False.elim kk
/-- a dict == {} -/
def rEqDE : R2 := fun x y H Q => ∃ a b ks, x = .ref a ∧ y = .ref b ∧ H a = some (.dK ks) ∧ H b = some (.dK []) ∧ Q (.bl ks.isEmpty) H
theorem op_eqDE {X : Cx} (hu : X.A.units < cLine) : OpR X (compareOp .Eq) rEqDE := by
  intro pins s σ H x y v u Q I rx ry h
  obtain ⟨a, b, ks, rfl, rfl, ea, eb, q⟩ := h
  obtain rfl : v = Value.ref a := rx
  obtain rfl : u = Value.ref b := ry
  obtain ⟨_, ya, va, ra, da⟩ := (show ObjOk X.prog X.w H s.heap a (.dK ks) from I.hok a _ ea)
  obtain ⟨_, yb, vb, rb, db⟩ := (show ObjOk X.prog X.w H s.heap b (.dK []) from I.hok b _ eb)
  have l1 := ra.length
  have l2 := rb.length
  refine PySem.W.keq_eq (knd := mixKind X.prog X.w) (r := true) ya yb da db hu (fun e => ?_) (fin_bl I q ?_)
  · have : ks = [] := List.length_eq_zero_iff.mp (by rw [l1, e, ← l2]; rfl)
    subst this
    exact hits_all rb ra fun p m => nomatch m
  · have e2 : vb.length = 0 := by rw [← l2]; rfl
    cases ks with
    | nil =>
      have e1 : va.length = 0 := by rw [← l1]; rfl
      simp [e1, e2]
    | cons k kt =>
      have e1 : va.length = kt.length + 1 := by rw [← l1]; rfl
      simp [e1, e2]
/-- a value that is no row, as the class of rows sees it -/
def oddB (K : PySem.W.Frag) (C : Addr) : Bool := ["NoneType", "bool", "int", "str", "list", "tuple", "dict"].all fun t => decide (PySem.W.kitOne K (.type t) (.ref C) = some false) && PySem.W.notFirst K C (.type t)
structure OddK (K : PySem.W.Frag) (C : Addr) : Prop where
  kit : ∀ {H : Hp} {v : V} {t : String}, AnyT K H v t → PySem.W.kitOne K (.type t) (.ref C) = some false
  first : ∀ {H : Hp} {v : V} {t : String}, AnyT K H v t → PySem.W.notFirst K C (.type t) = true
theorem oddB_ok {K : PySem.W.Frag} {C : Addr} (h : oddB K C = true) : OddK K C := by
  have key : ∀ {H : Hp} {v : V} {t : String}, AnyT K H v t → PySem.W.kitOne K (.type t) (.ref C) = some false ∧ PySem.W.notFirst K C (.type t) = true := fun {H v t} a => by
    have m : t ∈ ["NoneType", "bool", "int", "str", "list", "tuple", "dict"] := by cases a <;> simp
    have := List.all_eq_true.mp h t m
    rw [Bool.and_eq_true, decide_eq_true_eq] at this
    exact this
  exact ⟨fun a => (key a).1, fun a => (key a).2⟩
/-- a row == a value that is no row -/
def rEqOdd (K : PySem.W.Frag) (C : Addr) : R2 := fun x y H Q => ∃ a ps ks t, x = .ref a ∧ RowAt K C H a ps ks ∧ AnyT K H y t ∧ ∀ H', Same H H' → Q (.bl false) H'
theorem op_eqOdd {X : Cx} {j k : Nat} {C : Addr} (c : EqF X.prog X.w X.K X.mg X.base k C) (O : OddK X.K C) (hr : Room j X.A) (hk : k + 1 ≤ j) : OpR X (compareOp .Eq) (rEqOdd X.K C) := by
  obtain ⟨f, fd, fps, F, m, z, hb⟩ := c.ex
  intro pins s σ H x y v u Q I rx ry hq
  obtain ⟨a, ps, ks, t, rfl, h1, at', q⟩ := hq
  obtain ⟨dx, fs, e1⟩ := h1.at
  cases rx
  obtain ⟨mA, J, _⟩ := ins_get I.hok e1
  obtain ⟨od, J, _⟩ := J.look
  obtain ⟨P, Zk, p, _⟩ := kit_of I ry at'.ty
  obtain ⟨mm, hF⟩ := I.fr
  show wpAny (model X.prog X.w) X.A (richCompare .Eq (.ref a) u) (EP X pins σ Q) X.xe s
  have room := hr.mono (Nat.le_trans (Nat.le_succ k) hk)
  refine PySem.W.cmp_K (op := .Eq) (tb := .type t) room.units0 hF I.ok.mod.kin J (Zk.ty _ _ I.kIn p) (O.first at') m.at_ m.fn ?_
  have told : spRowEqF X.K C [.ref a, y] H (fun v H' => v = .bl false ∧ Same H H') E0 := ⟨a, y, ps, ks, rfl, h1, .inr ⟨_, at'.ty, O.kit at', rfl, fun _ _ z => z⟩⟩
  have vals : Vals [V.ref a, y] [Value.ref a, u] := .cons rfl (.cons ry .nil)
  have two := F.len _ _ _ _ told
  refine wpAny_call (codeAny_mono (F.run X.A X.stack s H ⟨[.ref a, u], []⟩ [.ref a, u] [.ref a, y] _ E0 room I.env0 (by
    have := hb s [.ref a, u] I.kIn (by rw [← two]; rfl)
    simpa using this) vals told) fun out s2 kk => ?_)
  cases out with
  | error e => exact pass0 pins σ H s e s2 I kk
  | ok fl =>
    cases fl with
    | ret w =>
      obtain ⟨zz, H2, I2, rz, ez, ex⟩ := I.after kk
      subst ez
      cases rz
      exact ⟨.bl false, H2, I2, rfl, q H2 ex⟩
    | next => exact False.elim kk
    | brk => exact False.elim kk
    | cont => exact False.elim kk
end SR

set_option Elab.async false
set_option linter.all false
set_option maxRecDepth 100000
set_option maxHeartbeats 1000000
/-! K13C: dicts made of dicts and lists; the law's own moving. -/
namespace SR
open PySem PySem.Spec PyProof.Rows L2
section
variable {K : PySem.W.Frag} {H : Hp} {Q : VK} {σ : L2.St} {F : Addr}
/-- dict([pair for n in d if test]), d a dict at F -/
theorem keys_pairs {fs : List (Int × Int)} {vF vn : Nat} {tt : TT} {te : TE} (P : Int × Int → Bool) (f : Int × Int → Int × Int) (hF : H F = some (.dK (kvsOf fs))) (hσ : σ[vF]? = some (some (.ref F))) (nd : (fs.map Prod.fst).Nodup) (hl : fs.length ≤ 100)
    (ndr : (((fs.filter P).map f).map Prod.fst).Nodup) (hw : ∀ v, wipe ((wipe σ [vn]).set vn (some v)) [vn] = wipe σ [vn])
    (hs : ∀ p H' (R : Bool → Hp → Prop), DGet H' F (.int p.1) (some (.int p.2)) → R (P p) H' → tt ((wipe σ [vn]).set vn (some (.int p.1))) H' R)
    (he : ∀ p H' (R : VK), DGet H' F (.int p.1) (some (.int p.2)) → (∀ n, H' n = none → R (.ref n) (upd H' n (.tup [.int (f p).1, .int (f p).2]))) → te ((wipe σ [vn]).set vn (some (.int p.1))) H' R)
    (q : ∀ r H', H r = none → Same H H' → H' r = some (.dK (kvsOf ((fs.filter P).map f))) → Q (.ref r) H') :
    tCB (qDictL K) (tCons (tLockE (tLc (iKeys (tVar vF)) (gName vn) tt te [vn])) (tNil)) σ H Q := by
  refine ⟨F, _, hF, trivial, fun od => ?_⟩
  have A : upd H F (.frz od (.dK (kvsOf fs))) F = some (.frz od (.dK (kvsOf fs))) := upd_same
  have k1 : ∀ b o, b ≠ F → H b = some o → upd H F (.frz od (.dK (kvsOf fs))) b = some o := fun b o e h => (upd_ne e).trans h
  have fr : ∀ b, upd H F (.frz od (.dK (kvsOf fs))) b = none → H b = none ∧ b ≠ F := fun b e => by
    by_cases z : b = F
    · rw [z, upd_same] at e
      cases e
    · rw [upd_ne z] at e
      exact ⟨e, z⟩
  generalize upd H F (.frz od (.dK (kvsOf fs))) = H1 at A k1 fr ⊢
  refine ⟨_, hσ, F, od, rfl, .inl ⟨_, A, fun D hD => ?_⟩⟩
  obtain ⟨hD0, nDF⟩ := fr D hD
  have kl : (kvsOf fs).length = fs.length := by unfold kvsOf; rw [List.length_map]
  refine lc_it (walk_keys (d := F) (o := od) (kvs := kvsOf fs)) (fun i H2 => Same H1 H2 ∧ ∃ us, H2 D = some (.lst (us.map V.ref)) ∧ Paired (TupAt H2) us (((fs.take i).filter P).map f)) ⟨same_new hD, [], upd_same, .nil⟩ ?_ ?_ ?_
  · rintro i H2 _ ⟨s2, _⟩
    exact s2 _ _ A
  · rintro i x H2 H3 hi ⟨s2, us, d2, hus⟩ ⟨rfl, k, w, hkv, rfl⟩
    obtain ⟨p, hp, e⟩ : ∃ p, fs[i]? = some p ∧ ((.inl p.1, .int p.2) : Key × V) = (k, w) := by
      unfold kvsOf at hkv
      rw [List.getElem?_map] at hkv
      obtain ⟨p, h1, h2⟩ := Option.map_eq_some_iff.mp hkv
      exact ⟨p, h1, h2⟩
    cases e
    have hm := List.mem_of_getElem? hp
    have gv : valV (kvsOf fs) (.inl p.1) = some (.int p.2) := by
      rw [val_pairs, (lookup_some (n := p.2) nd).mpr hm]
      rfl
    have dg : ∀ H', H' F = some (.frz od (.dK (kvsOf fs))) → DGet H' F (.int p.1) (some (.int p.2)) := fun H' h => .inl ⟨kvsOf fs, .inl p.1, .inr ⟨od, h⟩, rfl, gv.symm⟩
    have ul : us.length ≤ 100 := by
      have a := paired_len hus
      rw [List.length_map] at a
      have b := List.length_filter_le P (fs.take i)
      rw [List.length_take] at b
      have c := Nat.min_le_right i fs.length
      omega
    have tk : fs.take (i + 1) = fs.take i ++ [p] := by
      rw [List.take_succ, hp]
      rfl
    refine ⟨hw _, hs p _ _ (dg _ (s2 _ _ A)) ?_⟩
    cases e : P p with
    | true =>
      refine iteT (he p _ _ (dg _ (s2 _ _ A)) fun n hn => ?_)
      have s3 := same_new (o := .tup [.int (f p).1, .int (f p).2]) hn
      have T3 : TupAt (upd H3 n (.tup [.int (f p).1, .int (f p).2])) n (f p) := upd_same
      generalize upd H3 n (.tup [.int (f p).1, .int (f p).2]) = H4 at s3 T3 ⊢
      have d3 := s3 _ _ d2
      have keep : ∀ {b : Addr} {p : Int × Int}, TupAt H4 b p → TupAt (upd H4 D (.lst (us.map V.ref ++ [.ref n]))) b p := fun {b p} z => (upd_ne (ne_of z d3 (by intro e; cases e))).trans z
      refine ⟨_, d3, ?_, same_upd (s2.trans s3) hD, us ++ [n], ?_, ?_⟩
      · rw [List.length_map]
        exact Nat.lt_of_le_of_lt ul (by decide)
      · rw [upd_same, List.map_append]
        rfl
      · rw [tk, List.filter_append, List.map_append]
        have : ([p].filter P) = [p] := by
          rw [List.filter_cons_of_pos e]
          rfl
        rw [this]
        exact paired_snoc (keep T3) (paired_imp (fun _ _ z => keep (s3 _ _ z)) hus)
    | false =>
      refine iteF ⟨s2, us, d2, ?_⟩
      rw [tk, List.filter_append, List.map_append]
      have : ([p].filter P) = [] := by
        rw [List.filter_cons_of_neg (by rw [e]; exact Bool.false_ne_true)]
        rfl
      rw [this]
      show Paired _ _ (_ ++ [])
      rw [List.append_nil]
      exact hus
  · rintro H2 ⟨s2, us, d2, hus⟩
    rw [kl, List.take_length] at hus
    have s4 : Same H (upd H2 F (.dK (kvsOf fs))) := same_lock hF fun b o e h => s2 _ _ (k1 b o e h)
    have up : ∀ {b : Addr} {p : Int × Int}, TupAt H2 b p → TupAt (upd H2 F (.dK (kvsOf fs))) b p := fun {b p} z => (upd_ne (fun e => by
      unfold TupAt at z
      rw [e, s2 _ _ A] at z
      cases z)).trans z
    refine ⟨s2 _ _ A, D, us, _, rfl, SqL.of ((upd_ne nDF).trans d2), paired_kvs (paired_imp (fun _ _ z => up z) hus), fun r hr => ?_⟩
    rw [merge_pairs ndr]
    exact q r _ (Same.free s4 hr) (s4.trans (same_new hr)) upd_same
/-- dict([(place, 1) for place in l]) -/
theorem list_ones {a : Addr} {L : List Int} {va vn : Nat} (hA : H a = some (.lst (L.map V.int))) (hσ : σ[va]? = some (some (.ref a))) (hl : L.length ≤ 100) (nd : L.Nodup) (hw : ∀ v, wipe ((wipe σ [vn]).set vn (some v)) [vn] = wipe σ [vn]) (hv : ∀ v, ((wipe σ [vn]).set vn (some v))[vn]? = some (some v))
    (q : ∀ r H', H r = none → Same H H' → H' r = some (.dK (kvsOf (ones L))) → Q (.ref r) H') :
    tCB (qDictL K) (tCons (tLc (iList K (tVar va)) (gName vn) (tYes) (tTup (tCons (tVar vn) (tCons (tC (.int 1)) (tNil)))) [vn]) (tNil)) σ H Q := by
  refine ⟨_, hσ, a, rfl, ⟨_, SqL.of hA⟩, fun D hD => ?_⟩
  refine lc_it (walk_list (K := K) (a := a) (xs := L.map V.int)) (fun i H2 => Same H H2 ∧ ∃ us, H2 D = some (.lst (us.map V.ref)) ∧ Paired (TupAt H2) us (ones (L.take i))) ⟨same_new hD, [], upd_same, .nil⟩ ?_ ?_ ?_
  · rintro i H2 _ ⟨s2, _⟩
    exact SqL.of (s2 _ _ hA)
  · rintro i v H2 H3 hi ⟨s2, us, d2, hus⟩ ⟨rfl, hv0⟩
    rw [List.getElem?_map] at hv0
    obtain ⟨y, hy, rfl⟩ := Option.map_eq_some_iff.mp hv0
    have ul : us.length ≤ 100 := by
      rw [paired_len hus, ones_len, List.length_take]
      exact Nat.le_trans (Nat.min_le_right _ _) hl
    refine ⟨hw _, yes_if ?_⟩
    refine ⟨_, hv _, sz (by show 2 ≤ 1000; decide), fun n hn => ?_⟩
    have s3 := same_new (o := .tup [.int y, .int 1]) hn
    have T3 : TupAt (upd H3 n (.tup [.int y, .int 1])) n (y, 1) := upd_same
    generalize upd H3 n (.tup [.int y, .int 1]) = H4 at s3 T3 ⊢
    have d3 := s3 _ _ d2
    have keep : ∀ {b : Addr} {p : Int × Int}, TupAt H4 b p → TupAt (upd H4 D (.lst (us.map V.ref ++ [.ref n]))) b p := fun {b p} z => (upd_ne (ne_of z d3 (by intro e; cases e))).trans z
    refine ⟨_, d3, ?_, same_upd (s2.trans s3) hD, us ++ [n], ?_, ?_⟩
    · rw [List.length_map]
      exact Nat.lt_of_le_of_lt ul (by decide)
    · rw [upd_same, List.map_append]
      rfl
    · have e : ones (L.take (i + 1)) = ones (L.take i) ++ [(y, 1)] := by
        rw [List.take_succ, hy]
        exact List.map_append
      rw [e]
      exact paired_snoc (keep T3) (paired_imp (fun _ _ z => keep (s3 _ _ z)) hus)
  · rintro H2 ⟨s2, us, d2, hus⟩
    have tl : (L.map V.int).length = L.length := List.length_map ..
    rw [tl, List.take_length] at hus
    refine ⟨D, us, _, rfl, SqL.of d2, paired_kvs hus, fun r hr => ?_⟩
    rw [merge_pairs (by rw [ones_fst]; exact nd)]
    exact q r _ (Same.free s2 hr) (s2.trans (same_new hr)) upd_same
end
/-! ### the law's small defs -/
def spOnes (K : PySem.W.Frag) : Sp := fun vs H Q _ => ∃ (l : Addr) (L : List Int), vs = [.ref l] ∧ H l = some (.lst (L.map V.int)) ∧ L.Pairwise (· < ·) ∧ L.length ≤ 100 ∧ ∀ r H', H r = none → Same H H' → H' r = some (.dK (kvsOf (ones L))) → Q (.ref r) H'
def t_ones (K : PySem.W.Frag) : TS := tRet (tCB (qDictL K) (tCons (tLc (iList K (tVar 0)) (gName 1) (tYes) (tTup (tCons (tVar 1) (tCons (tC (.int 1)) (tNil)))) [1]) (tNil)))
theorem asc_nodup {L : List Int} (h : L.Pairwise (· < ·)) : L.Nodup := h.imp fun {a b} h => Int.ne_of_lt h
theorem pure_ones {K : PySem.W.Frag} (vs : List V) (H : Hp) (Q : VK) (E : XK) (h : spOnes K vs H Q E) : t_ones K { nx := fun _ H' => Q .non H', rt := Q } (start ["places", "place"] vs) H := by
  obtain ⟨l, L, rfl, hl, asc, len, q⟩ := h
  exact list_ones (va := 0) (vn := 1) hl rfl len (asc_nodup asc) (fun _ => rfl) (fun _ => rfl) q
def spMoved (K : PySem.W.Frag) : Sp := fun vs H Q _ => ∃ (F : Addr) (L : List Int) (far : Int), vs = [.ref F, .int far] ∧ H F = some (.dK (kvsOf (ones L))) ∧ L.Pairwise (· < ·) ∧ L.length ≤ 100 ∧ ∀ r H', H r = none → Same H H' → H' r = some (.dK (kvsOf (ones (L.map (· + far))))) → Q (.ref r) H'
def t_moved (K : PySem.W.Frag) : TS := tRet (tCB (qDictL K) (tCons (tLockE (tLc (iKeys (tVar 0)) (gName 2) (tYes) (tTup (tCons (tOp qAdd (tVar 2) (tVar 1)) (tCons (tDGet (tVar 0) (tVar 2)) (tNil)))) [2])) (tNil)))
theorem pure_moved {K : PySem.W.Frag} (vs : List V) (H : Hp) (Q : VK) (E : XK) (h : spMoved K vs H Q E) : t_moved K { nx := fun _ H' => Q .non H', rt := Q } (start ["boxes", "far", "place"] vs) H := by
  obtain ⟨F, L, far, rfl, hF, asc, len, q⟩ := h
  have e : (((ones L).filter fun _ => true).map fun p : Int × Int => (p.1 + far, p.2)) = ones (L.map (· + far)) := by
    have z : (ones L).filter (fun _ => true) = ones L := List.filter_eq_self.mpr fun _ _ => rfl
    rw [z]
    unfold ones
    rw [List.map_map, List.map_map]
    rfl
  refine keys_pairs (vF := 0) (vn := 2) (fun _ => true) (fun p => (p.1 + far, p.2)) hF rfl (by rw [ones_fst]; exact asc_nodup asc) (by rw [ones_len]; exact len) ?_ (fun _ => rfl) (fun p H' R _ r => r) (fun p H' R dg r => ?_) (fun r H' h1 h2 h3 => q r H' h1 h2 (by rw [← e]; exact h3))
  · rw [e, ones_fst]
    exact asc_nodup (List.pairwise_map.mpr (asc.imp fun {a b} h => by omega))
  · exact ⟨_, rfl, _, rfl, _, _, rfl, rfl, _, rfl, _, rfl, F, _, rfl, dg, sz (by show 2 ≤ 1000; decide), r⟩
def spNear (K : PySem.W.Frag) : Sp := fun vs H Q _ => ∃ (F : Addr) (L : List Int), vs = [.ref F] ∧ H F = some (.dK (kvsOf (ones L))) ∧ L.Pairwise (· < ·) ∧ L.length ≤ 100 ∧
  ∀ r H' M, H r = none → Same H H' → M.Pairwise (· < ·) → M.length ≤ L.length → (∀ y ∈ M, 0 ≤ y ∧ y < 60) → H' r = some (.dK (kvsOf (ones M))) → Q (.ref r) H'
def t_nearD (K : PySem.W.Frag) : TE := (tCB (qDictL K) (tCons (tLockE (tLc (iKeys (tVar 0)) (gName 2) (tTest (tOp qLt (tOp qSub (tVar 2) (tVar 1)) (tC (.int 60)))) (tTup (tCons (tOp qSub (tVar 2) (tVar 1)) (tCons (tDGet (tVar 0) (tVar 2)) (tNil)))) [2])) (tNil)))
def t_near (K : PySem.W.Frag) : TS := tSeq (tAsg (tCB (rMin K) (tCons (tOp rCat (tCB rListD (tCons (tVar 0) (tNil))) (tOp rRep (tLst (tCons (tC (.int 0)) (tNil))) (tCB qInt1 (tCons (tOp rEqDE (tVar 0) (tDNewK)) (tNil))))) (tNil))) (gName 1))
  (tRet (t_nearD K))
theorem near_dict {K : PySem.W.Frag} {H : Hp} {Q : VK} {F : Addr} {L : List Int} {m : Int} {y2 : Option V} (hF : H F = some (.dK (kvsOf (ones L)))) (asc : L.Pairwise (· < ·)) (len : L.length ≤ 100) (hm : ∀ y ∈ L, m ≤ y)
    (q : ∀ r H' M, H r = none → Same H H' → M.Pairwise (· < ·) → M.length ≤ L.length → (∀ y ∈ M, 0 ≤ y ∧ y < 60) → H' r = some (.dK (kvsOf (ones M))) → Q (.ref r) H') :
    t_nearD K [some (.ref F), some (.int m), y2] H Q := by
  have e : (((ones L).filter fun p => decide (p.1 - m < 60)).map fun p : Int × Int => (p.1 - m, p.2)) = ones ((L.filter fun y => decide (y - m < 60)).map (· - m)) := by
    unfold ones
    rw [List.filter_map, List.map_map, List.map_map]
    rfl
  have asc2 : ((L.filter fun y => decide (y - m < 60)).map (· - m)).Pairwise (· < ·) := List.pairwise_map.mpr ((asc.sublist List.filter_sublist).imp fun {a b} h => by omega)
  refine keys_pairs (vF := 0) (vn := 2) (fun p => decide (p.1 - m < 60)) (fun p => (p.1 - m, p.2)) hF rfl (by rw [ones_fst]; exact asc_nodup asc) (by rw [ones_len]; exact len) ?_ (fun _ => rfl) (fun p H' R dg r => ?_) (fun p H' R dg r => ?_) (fun r H' h1 h2 h3 => q r H' _ h1 h2 asc2 ?_ ?_ (by rw [← e]; exact h3))
  · rw [e, ones_fst]
    exact asc_nodup asc2
  · exact ⟨_, rfl, _, rfl, _, _, rfl, rfl, _, _, rfl, rfl, _, rfl, r⟩
  · exact ⟨_, rfl, _, rfl, _, _, rfl, rfl, _, rfl, _, rfl, F, _, rfl, dg, sz (by show 2 ≤ 1000; decide), r⟩
  · rw [List.length_map]
    exact List.length_filter_le _ _
  · intro y my
    obtain ⟨z, hz, rfl⟩ := List.mem_map.mp my
    obtain ⟨z1, z2⟩ := List.mem_filter.mp hz
    have := hm z z1
    have := of_decide_eq_true z2
    omega
theorem pure_near {K : PySem.W.Frag} (vs : List V) (H : Hp) (Q : VK) (E : XK) (h : spNear K vs H Q E) : t_near K { nx := fun _ H' => Q .non H', rt := Q } (start ["boxes", "first", "place"] vs) H := by
  obtain ⟨F, L, rfl, hF, asc, len, q⟩ := h
  refine ⟨_, rfl, F, _, rfl, hF, fun l1 h1 => ?_⟩
  have s1 := same_new (o := .lst ((kvsOf (ones L)).map fun kv => kV kv.1)) h1
  have L1 : upd H l1 (.lst ((kvsOf (ones L)).map fun kv => kV kv.1)) l1 = some (.lst (L.map V.int)) := by rw [upd_same, ones_keys]
  generalize upd H l1 (.lst ((kvsOf (ones L)).map fun kv => kV kv.1)) = H1 at s1 L1 ⊢
  refine ⟨sz (by show 1 ≤ 1000; decide), fun l2 h2 => ?_⟩
  have s2 := same_new (o := .lst [.int 0]) h2
  have L2 : upd H1 l2 (.lst [.int 0]) l2 = some (.lst [.int 0]) := upd_same
  generalize upd H1 l2 (.lst [.int 0]) = H2 at s2 L2 ⊢
  refine ⟨_, rfl, fun e he => ?_⟩
  have s3 := same_new (o := .dK []) he
  have E3 : upd H2 e (.dK []) e = some (.dK []) := upd_same
  generalize upd H2 e (.dK []) = H3 at s3 E3 ⊢
  have F3 := s3 _ _ (s2 _ _ (s1 _ _ hF))
  refine ⟨F, e, _, rfl, rfl, F3, E3, .inr ⟨_, rfl, ?_⟩⟩
  have ke : (kvsOf (ones L)).isEmpty = L.isEmpty := by cases L <;> rfl
  rw [ke]
  refine ⟨l2, _, _, rfl, rfl, s3 _ _ L2, ?_, ?_, ?_, fun l4 h4 => ?_⟩
  · cases L.isEmpty <;> decide
  · cases L.isEmpty <;> decide
  · cases L.isEmpty <;> exact sz (by decide)
  have s4 := same_new (o := .lst (List.replicate (if L.isEmpty = true then (1 : Int) else 0).toNat [V.int 0]).flatten) h4
  have L4 : upd H3 l4 (.lst (List.replicate (if L.isEmpty = true then (1 : Int) else 0).toNat [V.int 0]).flatten) l4 = some (.lst ((if L.isEmpty then [(0 : Int)] else []).map V.int)) := by
    rw [upd_same]
    cases L <;> rfl
  generalize upd H3 l4 (.lst (List.replicate (if L.isEmpty = true then (1 : Int) else 0).toNat [V.int 0]).flatten) = H4 at s4 L4 ⊢
  have L14 := s4 _ _ (s3 _ _ (s2 _ _ L1))
  refine ⟨l1, l4, _, _, rfl, rfl, L14, L4, ?_, fun l5 h5 => ?_⟩
  · rw [List.length_map, List.length_map]
    have : (if L.isEmpty then [(0 : Int)] else []).length ≤ 1 := by cases L.isEmpty <;> decide
    exact Nat.le_trans (show _ ≤ 200 by omega) (by decide)
  have s5 := same_new (o := .lst (L.map V.int ++ (if L.isEmpty then [(0 : Int)] else []).map V.int)) h5
  have L5 : upd H4 l5 (.lst (L.map V.int ++ (if L.isEmpty then [(0 : Int)] else []).map V.int)) l5 = some (.lst ((L ++ (if L.isEmpty then [(0 : Int)] else [])).map V.int)) := by rw [upd_same, List.map_append]
  generalize upd H4 l5 (.lst (L.map V.int ++ (if L.isEmpty then [(0 : Int)] else []).map V.int)) = H5 at s5 L5 ⊢
  refine ⟨l5, _, rfl, SqL.of L5, ?_, fun m mm lo => ?_⟩
  · cases L with
    | nil => decide
    | cons x xs => exact Nat.succ_pos _
  have s05 := s1.trans (s2.trans (s3.trans (s4.trans s5)))
  show t_nearD K [some (.ref F), some (.int m), none] H5 _
  exact near_dict (s05 _ _ hF) asc len (fun y my => lo y (List.mem_append.mpr (.inl my))) fun r H6 M hr s6 a b c d => q r H6 M (none_back s05 hr) (s05.trans s6) a b c d
end SR

set_option Elab.async false
set_option linter.all false
set_option maxRecDepth 100000
set_option maxHeartbeats 1000000
/-! K13D: the law's own cut, along a word. -/
namespace SR
open PySem PySem.Spec PyProof.Rows L2
/-! ### words of two signs -/
def bit (b : Bool) : Nat := if b then 49 else 48
def wordS (bs : List Bool) : Str := ⟨(bs.map bit).toArray⟩
theorem word_app (a b : List Bool) : wordS a ++ wordS b = wordS (a ++ b) := by
  show (⟨(a.map bit).toArray ++ (b.map bit).toArray⟩ : Str) = ⟨((a ++ b).map bit).toArray⟩
  rw [List.map_append, List.append_toArray]
theorem word_len (a : List Bool) : (wordS a).length = a.length := by
  show (a.map bit).toArray.size = _
  rw [List.size_toArray, List.length_map]
theorem bit_inj {a b : Bool} (h : bit a = bit b) : a = b := by
  cases a <;> cases b <;> first | rfl | (exact absurd h (by decide))
theorem word_inj {a b : List Bool} (h : wordS a = wordS b) : a = b := by
  have h1 : (a.map bit).toArray = (b.map bit).toArray := congrArg Str.cps h
  have h2 : a.map bit = b.map bit := congrArg Array.toList h1
  exact (List.map_inj_right fun {x y} e => bit_inj e).mp h2
theorem word_eq {a b : List Bool} : decide (V.str (wordS a) = V.str (wordS b)) = decide (a = b) := by
  by_cases h : a = b
  · rw [decide_eq_true h, decide_eq_true (by rw [h])]
  · rw [decide_eq_false h, decide_eq_false fun z => h (word_inj (V.str.inj z))]
theorem word_cut (w : List Bool) (at_ : Nat) (h : at_ ≤ w.length) : cutS (wordS w) (some (at_ : Int)) (some ((at_ : Int) + 2)) = wordS ((w.drop at_).take 2) := by
  unfold cutS
  have e : ((at_ : Int) + 2) = ((at_ + 2 : Nat) : Int) := by omega
  rw [e, HT.sIx_nat, HT.sIx_nat, word_len]
  show (⟨(((w.map bit).toArray.toList.drop (min at_ w.length)).take (min (at_ + 2) w.length - min at_ w.length)).toArray⟩ : Str) = ⟨(((w.drop at_).take 2).map bit).toArray⟩
  rw [Nat.min_eq_left h, List.toList_toArray, List.map_take, List.map_drop]
  congr 2
  by_cases h2 : at_ + 2 ≤ w.length
  · rw [Nat.min_eq_left h2]
    congr 1
    omega
  · have l : ((w.map bit).drop at_).length = w.length - at_ := by rw [List.length_drop, List.length_map]
    rw [Nat.min_eq_right (by omega), List.take_of_length_le (by omega), List.take_of_length_le (by omega)]
theorem word_at (w : List Bool) (at_ : Nat) (b : Bool) (h : w[at_]? = some b) : atI (wordS w).cps.toList (at_ : Int) = some (bit b) := by
  have lt := (List.getElem?_eq_some_iff.mp h).1
  unfold atI
  have l : ((wordS w).cps.toList).length = w.length := by
    show ((w.map bit).toArray.toList).length = _
    rw [List.toList_toArray, List.length_map]
  have e : ixN (wordS w).cps.toList.length (at_ : Int) = some at_ := by
    rw [l]
    unfold ixN
    rw [if_pos (by omega), if_pos (by omega)]
    congr 1
  rw [e]
  show ((w.map bit).toArray.toList)[at_]? = _
  rw [List.toList_toArray, List.getElem?_map, h]
  rfl
/-! ### places behind one -/
def dropL (L : List Int) (p : Int) : List Int := L.filter fun y => decide (p ≤ y)
theorem drop_not {L : List Int} {p : Int} (h : p ∉ L) : dropL L p = dropL L (p + 1) := by
  unfold dropL
  refine List.filter_congr fun y m => ?_
  have : y ≠ p := fun z => h (z ▸ m)
  exact decide_eq_decide.mpr ⟨fun _ => by omega, fun _ => by omega⟩
theorem drop_mem : ∀ {L : List Int} {p : Int}, L.Pairwise (· < ·) → p ∈ L → dropL L p = p :: dropL L (p + 1)
  | [], _, _, h => nomatch h
  | x :: xs, p, asc, h => by
    have a := List.pairwise_cons.mp asc
    by_cases e : x = p
    · subst e
      unfold dropL
      rw [List.filter_cons_of_pos (p := fun y => decide (x ≤ y)) (decide_eq_true (Int.le_refl x)), List.filter_cons_of_neg (p := fun y => decide (x + 1 ≤ y)) (by rw [decide_eq_true_eq]; omega)]
      congr 1
      refine List.filter_congr fun y m => ?_
      have := a.1 y m
      exact decide_eq_decide.mpr ⟨fun _ => by omega, fun _ => by omega⟩
    · rcases List.mem_cons.mp h with h | h
      · exact absurd h.symm e
      have lt := a.1 p h
      have ih := drop_mem a.2 h
      unfold dropL at ih ⊢
      rw [List.filter_cons_of_neg (p := fun y => decide (p ≤ y)) (by rw [decide_eq_true_eq]; omega), List.filter_cons_of_neg (p := fun y => decide (p + 1 ≤ y)) (by rw [decide_eq_true_eq]; omega)]
      exact ih
theorem drop_all {L : List Int} {p : Int} (h : ∀ y ∈ L, p ≤ y) : dropL L p = L := List.filter_eq_self.mpr fun y m => decide_eq_true (h y m)
theorem drop_none {L : List Int} {p : Int} (h : ∀ y ∈ L, y < p) : dropL L p = [] := List.filter_eq_nil_iff.mpr fun y m => by
  have := h y m
  rw [decide_eq_true_eq]
  omega
theorem drop_head {L : List Int} {p : Int} (asc : L.Pairwise (· < ·)) : (dropL L p).head? = some p ↔ p ∈ L := by
  constructor
  · intro h
    have := List.mem_of_head? h
    exact (List.mem_filter.mp this).1
  · intro h
    rw [drop_mem asc h]
    rfl
/-- a pair of boxes is gone at p -/
theorem cut_gone {L : List Int} {p g : Int} (asc : L.Pairwise (· < ·)) (h : p ∈ L) (n : p + 1 ∉ L) : cutL (dropL L p) g = ((cutL (dropL L (p + 2)) (g + 1)).1, (p - 2 * g) :: (cutL (dropL L (p + 2)) (g + 1)).2) := by
  rw [drop_mem asc h]
  have e : dropL L (p + 1) = dropL L (p + 2) := by
    rw [drop_not n]
    congr 1
    omega
  show (if (dropL L (p + 1)).head? = some (p + 1) then _ else _) = _
  rw [if_neg fun z => n ((drop_head asc).mp z), e]
theorem cut_stays {L : List Int} {p g : Int} (asc : L.Pairwise (· < ·)) (h : p ∈ L) (n : p + 1 ∈ L) : cutL (dropL L p) g = ((p - 2 * g) :: (cutL (dropL L (p + 1)) g).1, (cutL (dropL L (p + 1)) g).2) := by
  rw [drop_mem asc h]
  show (if (dropL L (p + 1)).head? = some (p + 1) then _ else _) = _
  rw [if_pos ((drop_head asc).mpr n)]
/-- the word of the places -/
def wordL (L : List Int) (first : Int) (n : Nat) : List Bool := (List.range n).map fun i : Nat => decide (first + (i : Int) ∈ L)
theorem wordL_len (L : List Int) (first : Int) (n : Nat) : (wordL L first n).length = n := by
  unfold wordL
  rw [List.length_map, List.length_range]
theorem wordL_at (L : List Int) (first : Int) (n i : Nat) (h : i < n) : (wordL L first n)[i]? = some (decide (first + (i : Int) ∈ L)) := by
  unfold wordL
  rw [List.getElem?_map, List.getElem?_range h]
  rfl
theorem wordL_succ (L : List Int) (first : Int) (n : Nat) : wordL L first (n + 1) = wordL L first n ++ [decide (first + (n : Int) ∈ L)] := by
  unfold wordL
  rw [List.range_succ, List.map_append]
  rfl
theorem take2 {w : List Bool} {i : Nat} {a b : Bool} (h1 : w[i]? = some a) (h2 : w[i + 1]? = some b) : (w.drop i).take 2 = [a, b] := by
  have l1 := (List.getElem?_eq_some_iff.mp h1)
  have l2 := (List.getElem?_eq_some_iff.mp h2)
  obtain ⟨k1, e1⟩ := l1
  obtain ⟨k2, e2⟩ := l2
  rw [List.drop_eq_getElem_cons k1, List.drop_eq_getElem_cons k2, e1, e2]
  rfl
theorem take2_last {w : List Bool} {i : Nat} (h : w.length ≤ i + 1) : ((w.drop i).take 2).length ≤ 1 := by
  rw [List.length_take, List.length_drop]
  omega
/-! ### the crowd, near -/
def spCrowd13 : Sp := fun vs H Q _ => ∃ (d g c : Addr) (b : Nat), vs = [.ref d] ∧ StB H d g c (b + 42) ∧ ∀ r H' L, StB H' d g c b → Kp d g H H' → r ≠ d → r ≠ g → r ≠ c → H' r = some (.dK (kvsOf (ones L))) → L.Pairwise (· < ·) → L.length ≤ 40 → (∀ y ∈ L, -20 ≤ y ∧ y ≤ 250) → Q (.ref r) H'
theorem pure_crowd13 {K : PySem.W.Frag} (vs : List V) (H : Hp) (Q : VK) (E : XK) (h : spCrowd13 vs H Q E) : t_crowd K { nx := fun _ H' => Q .non H', rt := Q } (start ["state", "place", "found", "turn"] vs) H := by
  obtain ⟨d, g, c, b, rfl, S, q⟩ := h
  refine ⟨_, rfl, d, g, c, b + 41, 30, rfl, S, by decide, by decide, fun i H1 i0 i1 S1 q1 => ⟨_, _, rfl, rfl, fun F hF => ⟨_, _, rfl, ?_⟩⟩⟩
  obtain ⟨f1, f2, f3⟩ := S1.off hF
  have S2 := S1.new (o := .dK []) hF
  have F2 : upd H1 F (.dK []) F = some (.dK (kvsOf (ones []))) := upd_same
  have k2 : ∀ x o, x ≠ F → x ≠ d → x ≠ g → H x = some o → upd H1 F (.dK []) x = some o := fun x o _ e2 e3 h => same_new hF _ _ (q1 _ _ e2 e3 h)
  have hF0 : H F = none := by
    cases e : H F with
    | none => rfl
    | some o =>
      have := q1 _ _ f1 f2 e
      rw [hF] at this
      cases this
  generalize upd H1 F (.dK []) = H2 at S2 F2 k2 ⊢
  refine ⟨_, rfl, d, g, c, b + 40, 31, rfl, S2, by decide, by decide, fun u H3 u0 u1 S3 q3 => ⟨_, _, rfl, rfl, _, rfl, by omega, by omega, ?_⟩⟩
  have un : (10 + u).toNat ≤ 40 := by omega
  refine for_range (lo := 0) (n := (10 + u).toNat) (fun j σ H4 => StB H4 d g c (b + 40 - j) ∧ (∀ x o, x ≠ F → x ≠ d → x ≠ g → H x = some o → H4 x = some o) ∧ ∃ M p w3, H4 F = some (.dK (kvsOf (ones M))) ∧ M.Pairwise (· < ·) ∧ M.length = j ∧ (∀ y ∈ M, y < p) ∧ (∀ y ∈ M, -20 ≤ y) ∧ -20 ≤ p ∧ p ≤ 10 + 6 * (j : Int) ∧ σ = [some (.ref d), some (.int p), some (.ref F), w3])
    ⟨S3, fun x o e1 e2 e3 h => q3 _ _ e2 e3 (k2 _ _ e1 e2 e3 h), [], _, none, q3 _ _ f1 f2 F2, .nil, rfl, (fun y m => nomatch m), (fun y m => nomatch m), by omega, by omega, rfl⟩ ?_ ?_
  · rintro j σ H4 hj ⟨S4, k4, M, p, w3, F4, asc, len, lt, lo, p0, p1, rfl⟩
    have e : b + 40 - j = (b + 40 - (j + 1)) + 1 := by omega
    rw [e] at S4
    show t_cwBody K _ [some (.ref d), some (.int p), some (.ref F), some (.int (0 + j))] H4
    refine cw_body S4 F4 f1 f2 f3 (by omega) lt fun H5 m m0 m5 S5 k5 F5 => ⟨S5, fun x o e1 e2 e3 h => k5 _ _ e1 e2 e3 (k4 _ _ e1 e2 e3 h), M ++ [p], _, _, F5, ?_, ?_, ?_, ?_, by omega, by omega, rfl⟩
    · refine List.pairwise_append.mpr ⟨asc, List.pairwise_singleton _ _, fun x hx y hy => ?_⟩
      rw [List.mem_singleton.mp hy]
      exact lt x hx
    · rw [List.length_append, len]
      rfl
    · intro y m
      rcases List.mem_append.mp m with m | m
      · have := lt y m
        omega
      · rw [List.mem_singleton.mp m]
        omega
    · intro y m
      rcases List.mem_append.mp m with m | m
      · exact lo y m
      · rw [List.mem_singleton.mp m]
        exact p0
  · rintro σ H4 ⟨S4, k4, M, p, w3, F4, asc, len, lt, lo, p0, p1, rfl⟩
    refine ⟨_, rfl, q F H4 M (S4.mono (by omega)) (fun x o e2 e3 h => k4 x o (fun z => by rw [z, hF0] at h; cases h) e2 e3 h) f1 f2 f3 F4 asc (by omega) fun y m => ?_⟩
    have a := lo y m
    have z := lt y m
    constructor <;> omega
end SR

set_option Elab.async false
set_option linter.all false
set_option maxRecDepth 100000
set_option maxHeartbeats 1000000
/-! K13E: the law's own cut. -/
namespace SR
open PySem PySem.Spec PyProof.Rows L2
abbrev qAddS : R2 := fun x y H Q => ∃ i j, x = V.str i ∧ y = V.str j ∧ i.length + j.length ≤ sizeLine ∧ Q (.str (i ++ j)) H
abbrev qLenS : List V → Hp → VK → Prop := fun xs H Q => ∃ z, xs = [V.str z] ∧ z.length ≤ sizeLine ∧ Q (.int z.length) H
def t_lcFirst (K : PySem.W.Frag) : TE := (tCB (rMin K) (tCons (tOp rCat (tCB (qListOf K) (tCons (tVar 0) (tNil))) (tOp rRep (tLst (tCons (tC (.int 0)) (tNil))) (tCB qInt1 (tCons (tOp (rEqD K) (tCB (qListOf K) (tCons (tVar 0) (tNil))) (tLst (tNil))) (tNil))))) (tNil)))
def t_lcEnd (K : PySem.W.Frag) : TE := (tOp qAdd (tCB (rMax K) (tCons (tOp rCat (tCB (qListOf K) (tCons (tVar 0) (tNil))) (tLst (tCons (tVar 4) (tNil)))) (tNil))) (tC (.int 2)))
def t_lcSign (K : PySem.W.Frag) : TS := (tAsg (tOp qAddS (tVar 1) (tIf (tTest (tOp (rIn K false) (tVar 5) (tVar 0))) (tC (.str "1")) (tC (.str "0")))) (gName 1))
def t_lcTurn (K : PySem.W.Frag) : TS := (tIfS (tTest (tOp rEq (tSl rSlS (tVar 1) (tPart (tVar 6)) (tPart (tOp qAdd (tVar 6) (tC (.int 2))))) (tC (.str "10"))))
  (tSeq (tDrop (tBM K "list" rAppend (tVar 3) (tCons (tOp qSub (tOp qAdd (tVar 4) (tVar 6)) (tOp qMul (tC (.int 2)) (tVar 7))) (tNil))))
  (tPar 6 7 (tCons (tOp qAdd (tVar 6) (tC (.int 2))) (tCons (tOp qAdd (tVar 7) (tC (.int 1))) (tNil)))))
  (tSeq (tIfS (tTest (tOp rEq (tOp rIxS (tVar 1) (tVar 6)) (tC (.str "1"))))
  (tDrop (tBM K "list" rAppend (tVar 2) (tCons (tOp qSub (tOp qAdd (tVar 4) (tVar 6)) (tOp qMul (tC (.int 2)) (tVar 7))) (tNil))))
  (tNext))
  (tAsg (tOp qAdd (tVar 6) (tC (.int 1))) (gName 6))))
def t_lcWalk (K : PySem.W.Frag) : TS := (tWhile (tTest (tOp qLt (tVar 6) (tCB qLenS (tCons (tVar 1) (tNil))))) (t_lcTurn K))
def t_lcut (K : PySem.W.Frag) : TS := tSeq (tPar3 1 2 3 (tCons (tC (.str "")) (tCons (tLst (tNil)) (tCons (tLst (tNil)) (tNil)))))
  (tSeq (tAsg (t_lcFirst K) (gName 4))
  (tSeq (tFor (iRng2 (tCons (tVar 4) (tCons (t_lcEnd K) (tNil)))) (gName 5)
  (t_lcSign K))
  (tSeq (tAsg (tTup (tCons (tC (.int 0)) (tCons (tC (.int 0)) (tNil)))) (gTup K 2 (gCons (gName 6) (gCons (gName 7) (gNil)))))
  (tSeq (t_lcWalk K)
  (tRet (tTup (tCons (tVar 2) (tCons (tVar 3) (tNil)))))))))
theorem lc_first {K : PySem.W.Frag} {H : Hp} {Q : VK} {l : Addr} {L : List Int} {r : List (Option V)} (hl : H l = some (.lst (L.map V.int))) (len : L.length ≤ 100) (bd : ∀ y ∈ L, -300 ≤ y ∧ y ≤ 300)
    (q : ∀ m H', Same H H' → (∀ y ∈ L, m ≤ y) → -300 ≤ m ∧ m ≤ 300 → Q (.int m) H') : t_lcFirst K (some (.ref l) :: r) H Q := by
  refine ⟨_, rfl, l, _, rfl, .inl (SqL.of hl), fun l1 h1 => ?_⟩
  have s1 := same_new (o := .lst (L.map V.int)) h1
  have L1 : upd H l1 (.lst (L.map V.int)) l1 = some (.lst (L.map V.int)) := upd_same
  generalize upd H l1 (.lst (L.map V.int)) = H1 at s1 L1 ⊢
  refine ⟨sz (by show 1 ≤ 1000; decide), fun l2 h2 => ?_⟩
  have s2 := same_new (o := .lst [.int 0]) h2
  have L2 : upd H1 l2 (.lst [.int 0]) l2 = some (.lst [.int 0]) := upd_same
  generalize upd H1 l2 (.lst [.int 0]) = H2 at s2 L2 ⊢
  refine ⟨_, rfl, l, _, rfl, .inl (SqL.of (s2 _ _ (s1 _ _ hl))), fun l3 h3 => ?_⟩
  have s3 := same_new (o := .lst (L.map V.int)) h3
  have L3 : upd H2 l3 (.lst (L.map V.int)) l3 = some (.lst (L.map V.int)) := upd_same
  generalize upd H2 l3 (.lst (L.map V.int)) = H3 at s3 L3 ⊢
  refine ⟨sz (Nat.zero_le _), fun l4 h4 => ?_⟩
  have s4 := same_new (o := .lst []) h4
  have L4 : upd H3 l4 (.lst []) l4 = some (.lst []) := upd_same
  generalize upd H3 l4 (.lst []) = H4 at s4 L4 ⊢
  have s14 := s1.trans (s2.trans (s3.trans s4))
  have L24 := s4 _ _ (s3 _ _ L2)
  have L14 := s4 _ _ (s3 _ _ (s2 _ _ L1))
  refine ⟨.list (L.map PyData.int), .list (([] : List Int).map PyData.int), dp_list (xs := L) (s4 _ _ L3), dp_list (xs := []) L4, shaped_ints L, shaped_ints [], ?_⟩
  have ev : PyData.eqv (.list (L.map PyData.int)) (.list (([] : List Int).map PyData.int)) = L.isEmpty := by
    cases L with
    | nil => exact eqv_same (shaped_ints [])
    | cons x xs => rfl
  rw [ev]
  refine .inr ⟨_, rfl, l2, _, _, rfl, rfl, L24, ?_, ?_, ?_, fun l5 h5 => ?_⟩
  · cases L.isEmpty <;> decide
  · cases L.isEmpty <;> decide
  · cases L.isEmpty <;> exact sz (by decide)
  have s5 := same_new (o := .lst (List.replicate (if L.isEmpty = true then (1 : Int) else 0).toNat [V.int 0]).flatten) h5
  have L5 : upd H4 l5 (.lst (List.replicate (if L.isEmpty = true then (1 : Int) else 0).toNat [V.int 0]).flatten) l5 = some (.lst ((if L.isEmpty then [(0 : Int)] else []).map V.int)) := by
    rw [upd_same]
    cases L <;> rfl
  generalize upd H4 l5 (.lst (List.replicate (if L.isEmpty = true then (1 : Int) else 0).toNat [V.int 0]).flatten) = H5 at s5 L5 ⊢
  refine ⟨l1, l5, _, _, rfl, rfl, s5 _ _ L14, L5, ?_, fun l6 h6 => ?_⟩
  · rw [List.length_map, List.length_map]
    have : (if L.isEmpty then [(0 : Int)] else []).length ≤ 1 := by cases L.isEmpty <;> decide
    exact Nat.le_trans (show _ ≤ 200 by omega) (by decide)
  have s6 := same_new (o := .lst (L.map V.int ++ (if L.isEmpty then [(0 : Int)] else []).map V.int)) h6
  have L6 : upd H5 l6 (.lst (L.map V.int ++ (if L.isEmpty then [(0 : Int)] else []).map V.int)) l6 = some (.lst ((L ++ (if L.isEmpty then [(0 : Int)] else [])).map V.int)) := by rw [upd_same, List.map_append]
  generalize upd H5 l6 (.lst (L.map V.int ++ (if L.isEmpty then [(0 : Int)] else []).map V.int)) = H6 at s6 L6 ⊢
  refine ⟨l6, _, rfl, SqL.of L6, ?_, fun m mm lo => q m H6 (s14.trans (s5.trans s6)) (fun y my => lo y (List.mem_append.mpr (.inl my))) ?_⟩
  · cases L with
    | nil => decide
    | cons x xs => exact Nat.succ_pos _
  · cases L with
    | nil =>
      rw [List.mem_singleton.mp mm]
      decide
    | cons x xs =>
      rcases List.mem_append.mp mm with mm | mm
      · exact bd m mm
      · exact nomatch mm
theorem lc_end {K : PySem.W.Frag} {H : Hp} {Q : VK} {l : Addr} {L : List Int} {m : Int} {x1 x2 x3 : Option V} {r : List (Option V)} (hl : H l = some (.lst (L.map V.int))) (len : L.length ≤ 100) (bd : ∀ y ∈ L, -300 ≤ y ∧ y ≤ 300) (bm : -300 ≤ m ∧ m ≤ 300)
    (q : ∀ z H', Same H H' → (∀ y ∈ L, y ≤ z) → m ≤ z → z ≤ 300 → Q (.int (z + 2)) H') : t_lcEnd K (some (.ref l) :: x1 :: x2 :: x3 :: some (.int m) :: r) H Q := by
  refine ⟨_, rfl, l, _, rfl, .inl (SqL.of hl), fun l1 h1 => ?_⟩
  have s1 := same_new (o := .lst (L.map V.int)) h1
  have L1 : upd H l1 (.lst (L.map V.int)) l1 = some (.lst (L.map V.int)) := upd_same
  generalize upd H l1 (.lst (L.map V.int)) = H1 at s1 L1 ⊢
  refine ⟨_, rfl, sz (by show 1 ≤ 1000; decide), fun l2 h2 => ?_⟩
  have s2 := same_new (o := .lst [.int m]) h2
  have L2 : upd H1 l2 (.lst [.int m]) l2 = some (.lst ([m].map V.int)) := upd_same
  generalize upd H1 l2 (.lst [.int m]) = H2 at s2 L2 ⊢
  refine ⟨l1, l2, _, _, rfl, rfl, s2 _ _ L1, L2, ?_, fun l6 h6 => ?_⟩
  · rw [List.length_map, List.length_map]
    exact Nat.le_trans (show L.length + 1 ≤ 200 by omega) (by decide)
  have s6 := same_new (o := .lst (L.map V.int ++ [m].map V.int)) h6
  have L6 : upd H2 l6 (.lst (L.map V.int ++ [m].map V.int)) l6 = some (.lst ((L ++ [m]).map V.int)) := by rw [upd_same, List.map_append]
  generalize upd H2 l6 (.lst (L.map V.int ++ [m].map V.int)) = H6 at s6 L6 ⊢
  refine ⟨l6, _, rfl, SqL.of L6, ?_, fun z mz hi => ⟨_, _, rfl, rfl, q z H6 (s1.trans (s2.trans s6)) (fun y my => hi y (List.mem_append.mpr (.inl my))) (hi m (List.mem_append.mpr (.inr (List.mem_singleton.mpr rfl)))) ?_⟩⟩
  · rw [List.length_append]
    exact Nat.succ_pos _
  · rcases List.mem_append.mp mz with mz | mz
    · exact (bd z mz).2
    · rw [List.mem_singleton.mp mz]
      exact bm.2
theorem in_ints (p : Int) (L : List Int) : inV (.int p) (L.map V.int) = decide (p ∈ L) := by
  unfold inV
  rw [List.any_map]
  by_cases h : p ∈ L
  · rw [decide_eq_true h]
    exact List.any_eq_true.mpr ⟨p, h, by show (p == p) = true; exact beq_self_eq_true p⟩
  · rw [decide_eq_false h]
    refine List.any_eq_false.mpr fun y m z => h ?_
    have : (y == p) = true := z
    rw [← eq_of_beq this]
    exact m
theorem flat_ints (L : List Int) : (L.map V.int).all flatV = true := by
  rw [List.all_map]
  exact List.all_eq_true.mpr fun _ _ => rfl
theorem lc_sign {K : PySem.W.Frag} {H : Hp} {l : Addr} {L : List Int} {w : List Bool} {p : Int} {x2 x3 x4 x6 x7 : Option V} {N N2 N3 : L2.St → Hp → Prop} {R : VK} (hl : H l = some (.lst (L.map V.int))) (wl : w.length ≤ 990)
    (q : N [some (.ref l), some (.str (wordS (w ++ [decide (p ∈ L)]))), x2, x3, x4, some (.int p), x6, x7] H) :
    t_lcSign K { nx := N, rt := R, bk := N2, ct := N3 } [some (.ref l), some (.str (wordS w)), x2, x3, x4, some (.int p), x6, x7] H := by
  have one : ("1" : Str) = wordS [true] := by decide +kernel
  have zero : ("0" : Str) = wordS [false] := by decide +kernel
  refine ⟨_, rfl, _, rfl, _, rfl, l, _, rfl, .inl (SqL.of hl), rfl, flat_ints L, _, rfl, ?_⟩
  show (if (inV (.int p) (L.map V.int)) = true then _ else _)
  rw [in_ints]
  by_cases h : p ∈ L
  · rw [decide_eq_true h] at q ⊢
    refine iteT ⟨_, _, rfl, rfl, ?_, ?_⟩
    · rw [one, word_len, word_len]
      exact Nat.le_trans (show w.length + 1 ≤ 1000 by omega) (by decide)
    · rw [one, word_app]
      exact q
  · rw [decide_eq_false h] at q ⊢
    refine iteF ⟨_, _, rfl, rfl, ?_, ?_⟩
    · rw [zero, word_len, word_len]
      exact Nat.le_trans (show w.length + 1 ≤ 1000 by omega) (by decide)
    · rw [zero, word_app]
      exact q
end SR

set_option Elab.async false
set_option linter.all false
set_option maxRecDepth 100000
set_option maxHeartbeats 1000000
/-! K13F: the walk along the word. -/
namespace SR
open PySem PySem.Spec PyProof.Rows L2
theorem take2_head {w : List Bool} {i : Nat} {a b : Bool} (h : (w.drop i).take 2 = [a, b]) : w[i]? = some a ∧ w[i + 1]? = some b := by
  have h0 : ((w.drop i).take 2)[0]? = some a := by rw [h]; rfl
  have h1 : ((w.drop i).take 2)[1]? = some b := by rw [h]; rfl
  rw [List.getElem?_take, if_pos (by decide), List.getElem?_drop] at h0 h1
  exact ⟨h0, h1⟩
section
variable {K : PySem.W.Frag} {H0 : Hp} {l F O : Addr} {L : List Int} {first : Int} {n : Nat}
/-- behind at signs of the word -/
structure Wlk (H0 : Hp) (F O : Addr) (L : List Int) (first : Int) (n : Nat) (at_ g : Nat) (f o : List Int) (H : Hp) : Prop where
  le : at_ ≤ n
  b : But2 F O H0 H
  hf : H F = some (.lst (f.map V.int))
  ho : H O = some (.lst (o.map V.int))
  e : (f ++ (cutL (dropL L (first + (at_ : Int))) (g : Int)).1, o ++ (cutL (dropL L (first + (at_ : Int))) (g : Int)).2) = cutL L 0
theorem Wlk.len {H : Hp} {at_ g : Nat} {f o : List Int} (w : Wlk H0 F O L first n at_ g f o H) : f.length + o.length ≤ L.length := by
  have h := cutL_len L 0
  have h1 : (cutL L 0).1 = f ++ (cutL (dropL L (first + (at_ : Int))) (g : Int)).1 := by rw [← w.e]
  have h2 : (cutL L 0).2 = o ++ (cutL (dropL L (first + (at_ : Int))) (g : Int)).2 := by rw [← w.e]
  rw [h1, h2, List.length_append, List.length_append] at h
  omega
theorem lc_turn {H : Hp} {at_ g : Nat} {f o : List Int} {y5 : Option V} {N N2 N3 : L2.St → Hp → Prop} {R : VK} (nFO : F ≠ O) (asc : L.Pairwise (· < ·)) (l100 : L.length ≤ 100) (hi : ∀ y ∈ L, y + 2 ≤ first + (n : Int)) (n990 : n ≤ 990) (lt : at_ < n)
    (w : Wlk H0 F O L first n at_ g f o H)
    (q : ∀ at2 g2 f2 o2 H', at_ < at2 → Wlk H0 F O L first n at2 g2 f2 o2 H' → N [some (.ref l), some (.str (wordS (wordL L first n))), some (.ref F), some (.ref O), some (.int first), y5, some (.int (at2 : Int)), some (.int (g2 : Int))] H') :
    t_lcTurn K { nx := N, rt := R, bk := N2, ct := N3 } [some (.ref l), some (.str (wordS (wordL L first n))), some (.ref F), some (.ref O), some (.int first), y5, some (.int (at_ : Int)), some (.int (g : Int))] H := by
  have one : ("1" : Str) = wordS [true] := by decide +kernel
  have oz : ("10" : Str) = wordS [true, false] := by decide +kernel
  have wl := wordL_len L first n
  have wz : (wordS (wordL L first n)).length ≤ sizeLine := by
    rw [word_len, wl]
    exact Nat.le_trans n990 (by decide)
  have wa := wordL_at L first n at_ lt
  have len := w.len
  have fl : f.length < sizeLine := Nat.lt_of_le_of_lt (show f.length ≤ 100 by omega) (by decide)
  have ol : o.length < sizeLine := Nat.lt_of_le_of_lt (show o.length ≤ 100 by omega) (by decide)
  refine ⟨_, rfl, _, rfl, _, rfl, _, rfl, _, _, rfl, rfl, _, rfl, _, rfl, wz, rfl, _, rfl, ?_⟩
  rw [word_cut _ _ (by omega), oz, word_eq]
  by_cases hp : first + (at_ : Int) ∈ L
  · have last : at_ + 1 < n := by
      have := hi _ hp
      omega
    have wb := wordL_at L first n (at_ + 1) last
    have e1 : first + ((at_ + 1 : Nat) : Int) = first + (at_ : Int) + 1 := by omega
    rw [e1] at wb
    have tk := take2 wa wb
    rw [decide_eq_true hp] at tk wa
    rw [tk]
    by_cases hn : first + (at_ : Int) + 1 ∈ L
    · rw [decide_eq_true hn, decide_eq_false (by decide : ¬ ([true, true] = [true, false]))]
      refine iteF ⟨_, rfl, _, rfl, _, _, _, rfl, rfl, wz, word_at _ _ _ wa, rfl, _, rfl, ?_⟩
      have y1 : V.str ⟨#[bit true]⟩ = V.str "1" := by rw [one]; rfl
      rw [decide_eq_true y1]
      refine iteT ⟨_, rfl, .inl ⟨rfl, _, SqL.of w.hf⟩, _, rfl, _, rfl, _, _, rfl, rfl, _, rfl, _, _, rfl, rfl, .inl ⟨by decide, by decide⟩, _, _, rfl, rfl, F, _, _, rfl, rfl, w.hf, by rw [List.length_map]; exact fl, _, rfl, _, _, rfl, rfl, ?_⟩
      refine q (at_ + 1) g (f ++ [first + (at_ : Int) - 2 * (g : Int)]) o _ (by omega) ⟨by omega, fun b ob n1 n2 h => (upd_ne n1).trans (w.b _ _ n1 n2 h), ?_, (upd_ne (Ne.symm nFO)).trans w.ho, ?_⟩
      · rw [upd_same, List.map_append]
        rfl
      · have e := w.e
        rw [cut_stays asc hp hn] at e
        rw [e1, ← e, List.append_assoc]
        rfl
    · rw [decide_eq_false hn, decide_eq_true (rfl : [true, false] = [true, false])]
      refine iteT ⟨_, rfl, .inl ⟨rfl, _, SqL.of w.ho⟩, _, rfl, _, rfl, _, _, rfl, rfl, _, rfl, _, _, rfl, rfl, .inl ⟨by decide, by decide⟩, _, _, rfl, rfl, O, _, _, rfl, rfl, w.ho, by rw [List.length_map]; exact ol, _, rfl, _, _, rfl, rfl, _, rfl, _, _, rfl, rfl, _, _, rfl, ?_⟩
      refine q (at_ + 2) (g + 1) f (o ++ [first + (at_ : Int) - 2 * (g : Int)]) _ (by omega) ⟨by omega, fun b ob n1 n2 h => (upd_ne n2).trans (w.b _ _ n1 n2 h), (upd_ne nFO).trans w.hf, ?_, ?_⟩
      · rw [upd_same, List.map_append]
        rfl
      · have e := w.e
        rw [cut_gone asc hp hn] at e
        have e2 : first + ((at_ + 2 : Nat) : Int) = first + (at_ : Int) + 2 := by omega
        have e3 : ((g + 1 : Nat) : Int) = (g : Int) + 1 := by omega
        rw [e2, e3, ← e, List.append_assoc]
        rfl
  · rw [decide_eq_false hp] at wa
    have no : ¬ ((wordL L first n).drop at_).take 2 = [true, false] := fun z => by
      have := (take2_head z).1
      rw [wa] at this
      cases this
    rw [decide_eq_false no]
    refine iteF ⟨_, rfl, _, rfl, _, _, _, rfl, rfl, wz, word_at _ _ _ wa, rfl, _, rfl, ?_⟩
    have y1 : ¬ V.str ⟨#[bit false]⟩ = V.str "1" := by
      rw [one]
      intro z
      have := word_inj (a := [false]) (b := [true]) (V.str.inj z)
      cases this
    rw [decide_eq_false y1]
    refine iteF ⟨_, rfl, _, _, rfl, rfl, ?_⟩
    refine q (at_ + 1) g f o _ (by omega) ⟨by omega, w.b, w.hf, w.ho, ?_⟩
    have e1 : first + ((at_ + 1 : Nat) : Int) = first + (at_ : Int) + 1 := by omega
    have e := w.e
    rw [drop_not hp] at e
    rw [e1, ← e]
theorem lc_walk {H : Hp} {at_ g : Nat} {f o : List Int} {y5 : Option V} {N N2 N3 : L2.St → Hp → Prop} {R : VK} (nFO : F ≠ O) (asc : L.Pairwise (· < ·)) (l100 : L.length ≤ 100) (hi : ∀ y ∈ L, y + 2 ≤ first + (n : Int)) (n990 : n ≤ 990)
    (w : Wlk H0 F O L first n at_ g f o H)
    (q : ∀ y6 y7 H', But2 F O H0 H' → H' F = some (.lst ((cutL L 0).1.map V.int)) → H' O = some (.lst ((cutL L 0).2.map V.int)) → N [some (.ref l), some (.str (wordS (wordL L first n))), some (.ref F), some (.ref O), some (.int first), y5, y6, y7] H') :
    t_lcWalk K { nx := N, rt := R, bk := N2, ct := N3 } [some (.ref l), some (.str (wordS (wordL L first n))), some (.ref F), some (.ref O), some (.int first), y5, some (.int (at_ : Int)), some (.int (g : Int))] H := by
  refine ⟨fun m σ H' => ∃ (at2 g2 : Nat) (f2 o2 : List Int), m = n - at2 ∧ σ = [some (.ref l), some (.str (wordS (wordL L first n))), some (.ref F), some (.ref O), some (.int first), y5, some (.int (at2 : Int)), some (.int (g2 : Int))] ∧ Wlk H0 F O L first n at2 g2 f2 o2 H', ⟨_, at_, g, f, o, rfl, rfl, w⟩, ?_⟩
  rintro m σ H1 ⟨at2, g2, f2, o2, rfl, rfl, w2⟩
  have wl := wordL_len L first n
  have wz : (wordS (wordL L first n)).length ≤ sizeLine := by
    rw [word_len, wl]
    exact Nat.le_trans n990 (by decide)
  refine ⟨_, rfl, _, rfl, _, rfl, wz, _, _, rfl, rfl, _, rfl, ?_⟩
  rw [word_len, wl]
  by_cases e : (at2 : Int) < (n : Int)
  · rw [decide_eq_true e]
    refine iteT ⟨fun σ' H' => ∃ m', m' < n - at2 ∧ ∃ (at3 g3 : Nat) (f3 o3 : List Int), m' = n - at3 ∧ σ' = [some (.ref l), some (.str (wordS (wordL L first n))), some (.ref F), some (.ref O), some (.int first), y5, some (.int (at3 : Int)), some (.int (g3 : Int))] ∧ Wlk H0 F O L first n at3 g3 f3 o3 H', fun σ' H' h => h, ?_⟩
    refine lc_turn nFO asc l100 hi n990 (by omega) w2 fun at3 g3 f3 o3 H' lt w3 => ?_
    have := w3.le
    exact ⟨n - at3, by omega, at3, g3, f3, o3, rfl, rfl, w3⟩
  · rw [decide_eq_false e]
    refine iteF ?_
    have z : dropL L (first + (at2 : Int)) = [] := drop_none fun y m => by
      have := hi y m
      omega
    have en := w2.e
    rw [z] at en
    have c : cutL [] (g2 : Int) = ([], []) := rfl
    rw [c] at en
    simp only [List.append_nil] at en
    rw [← en] at q
    exact q _ _ H1 w2.b w2.hf w2.ho
end
def spLCut (K : PySem.W.Frag) : Sp := fun vs H Q _ => ∃ (l : Addr) (L : List Int), vs = [.ref l] ∧ H l = some (.lst (L.map V.int)) ∧ L.Pairwise (· < ·) ∧ L.length ≤ 100 ∧ (∀ y ∈ L, -300 ≤ y ∧ y ≤ 300) ∧
  ∀ t F O H', H F = none → H O = none → F ≠ O → Same H H' → H' t = some (.tup [.ref F, .ref O]) → H' F = some (.lst ((cutL L 0).1.map V.int)) → H' O = some (.lst ((cutL L 0).2.map V.int)) → Q (.ref t) H'
theorem pure_lcut {K : PySem.W.Frag} (vs : List V) (H : Hp) (Q : VK) (E : XK) (h : spLCut K vs H Q E) : t_lcut K { nx := fun _ H' => Q .non H', rt := Q } (start ["places", "word", "found", "offsets", "first", "place", "at", "gone"] vs) H := by
  obtain ⟨l, L, rfl, hl, asc, len, bd, q⟩ := h
  have emp : ("" : Str) = wordS (wordL L 0 0) := by
    have : ("" : Str) = wordS [] := by decide +kernel
    exact this
  refine ⟨sz (Nat.zero_le _), fun F hF => ⟨sz (Nat.zero_le _), fun O hO => ⟨_, _, _, rfl, ?_⟩⟩⟩
  have s1 := same_new (o := .lst []) hF
  have F1 : upd H F (.lst []) F = some (.lst []) := upd_same
  generalize upd H F (.lst []) = H1 at s1 F1 hO ⊢
  have s2 := same_new (o := .lst []) hO
  have F2 := s2 _ _ F1
  have O2 : upd H1 O (.lst []) O = some (.lst []) := upd_same
  have nFO : F ≠ O := fun z => by
    rw [z, hO] at F1
    cases F1
  generalize upd H1 O (.lst []) = H2 at s2 F2 O2 ⊢
  have s02 := s1.trans s2
  have O0 := none_back s1 hO
  refine lc_first (s02 _ _ hl) len bd fun m H3 s3 lo bm => ?_
  have l3 := s3 _ _ (s02 _ _ hl)
  refine ⟨_, rfl, ?_⟩
  refine lc_end l3 len bd bm fun z H4 s4 hi mz z300 => ?_
  have l4 := s4 _ _ l3
  refine ⟨_, _, rfl, ⟨by omega, by omega, by omega, by omega⟩, ?_⟩
  have n990 : (z + 2 - m).toNat ≤ 990 := by omega
  have hi2 : ∀ y ∈ L, y + 2 ≤ m + ((z + 2 - m).toNat : Int) := fun y my => by
    have := hi y my
    omega
  generalize (z + 2 - m).toNat = n at n990 hi2 ⊢
  refine for_range (lo := m) (n := n) (fun i σ H' => H' = H4 ∧ ∃ y5, σ = [some (.ref l), some (.str (wordS (wordL L m i))), some (.ref F), some (.ref O), some (.int m), y5, none, none]) ⟨rfl, none, by rw [emp]; rfl⟩ ?_ ?_
  · rintro i σ H' hin ⟨rfl, y5, rfl⟩
    show t_lcSign K _ [some (.ref l), some (.str (wordS (wordL L m i))), some (.ref F), some (.ref O), some (.int m), some (.int (m + (i : Int))), none, none] H'
    refine lc_sign l4 (by rw [wordL_len]; omega) ⟨rfl, some (.int (m + (i : Int))), ?_⟩
    rw [wordL_succ]
  · rintro σ H' ⟨rfl, y5, rfl⟩
    refine ⟨sz (by show 2 ≤ 1000; decide), fun t ht => ⟨t, _, rfl, SqT.of upd_same, rfl, _, _, rfl, _, _, rfl, rfl, ?_⟩⟩
    have s5 := same_new (o := .tup [.int 0, .int 0]) ht
    generalize upd H' t (.tup [.int 0, .int 0]) = H5 at s5 ⊢
    have s25 := s3.trans (s4.trans s5)
    have st : dropL L (m + ((0 : Nat) : Int)) = L := drop_all fun y my => by
      have := lo y my
      omega
    refine lc_walk (H0 := H5) (at_ := 0) (g := 0) (f := []) (o := []) nFO asc len hi2 n990 ⟨Nat.zero_le _, fun _ _ _ _ h => h, s25 _ _ F2, s25 _ _ O2, by rw [st]; rfl⟩ fun y6 y7 H6 b6 F6 O6 => ?_
    refine ⟨_, rfl, _, rfl, sz (by show 2 ≤ 1000; decide), fun t2 ht2 => ?_⟩
    have s06 : Same H H6 := fun c o hc => b6 _ _ (fun z => by rw [z, hF] at hc; cases hc) (fun z => by rw [z, O0] at hc; cases hc) (s25 _ _ (s02 _ _ hc))
    have s7 := same_new (o := .tup [.ref F, .ref O]) ht2
    exact q t2 F O _ hF O0 nFO (s06.trans s7) upd_same (s7 _ _ F6) (s7 _ _ O6)
end SR

set_option Elab.async false
set_option linter.all false
set_option maxRecDepth 100000
set_option maxHeartbeats 1000000
/-! K13G: the refusal; moved rows. -/
namespace SR
open PySem PySem.Spec PyProof.Rows L2
theorem cutL_cons (x : Int) (xs : List Int) (g : Int) : cutL (x :: xs) g = if xs.head? = some (x + 1) then ((x - 2 * g) :: (cutL xs g).1, (cutL xs g).2) else ((cutL xs (g + 1)).1, (x - 2 * g) :: (cutL xs (g + 1)).2) := rfl
theorem cutL_shift (far : Int) : ∀ (L : List Int) (g : Int), cutL (L.map (· + far)) g = ((cutL L g).1.map (· + far), (cutL L g).2.map (· + far))
  | [], _ => rfl
  | x :: xs, g => by
    have h1 := cutL_shift far xs g
    have h2 := cutL_shift far xs (g + 1)
    have c : ((xs.map (· + far)).head? = some (x + far + 1)) ↔ (xs.head? = some (x + 1)) := by
      rw [List.head?_map]
      cases xs.head? with
      | none => exact ⟨(fun z => nomatch z), fun z => nomatch z⟩
      | some y =>
        show some (y + far) = some (x + far + 1) ↔ _
        constructor
        · intro z
          have := Option.some.inj z
          congr 1
          omega
        · intro z
          have := Option.some.inj z
          congr 1
          omega
    have e : x + far - 2 * g = x - 2 * g + far := by omega
    rw [List.map_cons, cutL_cons, cutL_cons, h1, h2, e]
    by_cases h : xs.head? = some (x + 1)
    · rw [if_pos h, if_pos (c.mpr h)]
      rfl
    · rw [if_neg h, if_neg fun z => h (c.mp z)]
      rfl
/-! ### repr of whole numbers -/
theorem ints_show {L : List Int} (h : ∀ y ∈ L, y.natAbs < 2 ^ 1900) : (PyData.list (L.map PyData.int)).showable = true := by
  show PyData.showableAll (L.map PyData.int) = true
  induction L with
  | nil => rfl
  | cons y L ih =>
    show (PyData.showable (.int y) && PyData.showableAll (L.map PyData.int)) = true
    rw [show_int (h y List.mem_cons_self), ih fun q m => h q (List.mem_cons_of_mem _ m)]
    rfl
theorem ints_cost {L : List Int} (h : L.length ≤ 100) : cost (.list (L.map PyData.int)) ≤ 1000000 := by
  have : costAll (L.map PyData.int) ≤ L.length * 2000 := by
    clear h
    induction L with
    | nil => exact Nat.le_refl _
    | cons s st ih =>
      show cost (.int s) + 2 + costAll (st.map PyData.int) ≤ _
      have : cost (.int s) = 1921 := by simp [cost]
      rw [List.length_cons]
      omega
  show costAll _ + 4 ≤ _
  omega
theorem ints_depth (L : List Int) : (PyData.list (L.map PyData.int)).depth ≤ 60 := by
  simp only [PyData.depth, depth_ints]
  decide
/-! ### the refusal -/
structure ErrK (K : PySem.W.Frag) (B S : Addr) (fld : Str) : Prop where
  exm : PySem.W.exmOne K (.ref B) (.ref S) = some true
  ec : ExcC K B
  kit : PySem.W.kitOne K (.ref B) (.ref B) = some true
  xf : XfC K B
  no : PySem.W.findIn K (.ref B) fld = some none
def spRefused13 (K : PySem.W.Frag) (C : Addr) : Sp := fun vs H Q _ => ∃ x ps ks, vs = [.ref x] ∧ RowAt K C H x ps ks ∧ RowOk ps ks ∧ Asc ps ∧ ks ≠ [] ∧ ∀ H', Same H H' → Q (.bl true) H'
def t_refused13 (K : PySem.W.Frag) (c_BadRow : Addr) (c_Row : Addr) (c_ScoopError : Addr) : TS := tSeq (tAsg (tC .non) (gName 1))
  (tSeq (fun D σ H => (fun W => tDrop (tCallS (spCut K c_Row c_BadRow) (WE W) (tCons (tVar 0) (tNil)))) (wKeepH K (.ref c_ScoopError) 2 1 (fun _ _ _ _ => False) D) D σ H)
  (tRet (tAndV (tCB (rIsHD K) (tCons (tVar 1) (tCons (tC (.ref c_BadRow)) (tNil)))) (tOp rEq (tXfH K "field" (tVar 1)) (tC (.str "plain"))))))
theorem pure_refused13 {K : PySem.W.Frag} {C B S : Addr} (Z : ErrK K B S "field") (vs : List V) (H : Hp) (Q : VK) (E : XK) (h : spRefused13 K C vs H Q E) : t_refused13 K B C S { nx := fun _ H' => Q .non H', rt := Q } (start ["made", "caught", "error"] vs) H := by
  obtain ⟨x, ps, ks, rfl, row, ok, asc, ne, q⟩ := h
  refine ⟨_, rfl, x, ps, ks, rfl, row, ok, asc, fun _ H1 d s1 hd => ⟨true, Z.exm, fun _ a ha => ?_, fun z => nomatch z⟩, fun z => absurd z ne⟩
  have s2 := same_new (o := .xd [("field", .str "plain")]) hd
  have D2 : upd H1 d (.xd [("field", .str "plain")]) d = some (.xd [("field", .str "plain")]) := upd_same
  generalize upd H1 d (.xd [("field", .str "plain")]) = H2 at s2 D2 ha ⊢
  have s3 := same_new (o := CauO (.ref B) (some d) a) ha
  have A3 : upd H2 a (CauO (.ref B) (some d) a) a = some (CauO (.ref B) (some d) a) := upd_same
  have D3 := s3 _ _ D2
  generalize upd H2 a (CauO (.ref B) (some d) a) = H3 at s3 A3 D3 ⊢
  refine ⟨_, rfl, a, B, d, _, .ref B, .ref B, true, A3, D3, Z.ec, rfl, fun u r => r, Z.kit, _, rfl, ?_⟩
  refine iteT ⟨_, rfl, a, B, d, _, .str "plain", rfl, Z.xf, Z.no, A3, D3, rfl, rfl, ?_⟩
  rw [decide_eq_true rfl]
  exact q H3 (s1.trans (s2.trans s3))
end SR

set_option Elab.async false
set_option linter.all false
set_option maxRecDepth 100000
set_option maxHeartbeats 1000000
/-! K13H: the law of cuts. -/
namespace SR
open PySem PySem.Spec PyProof.Rows L2
/-- a dict != {} -/
def rNeDE : R2 := fun x y H Q => ∃ a b ks, x = .ref a ∧ y = .ref b ∧ H a = some (.dK ks) ∧ H b = some (.dK []) ∧ Q (.bl (!ks.isEmpty)) H
theorem op_neDE {X : Cx} (hu : X.A.units < cLine) : OpR X (compareOp .NotEq) rNeDE := by
  intro pins s σ H x y v u Q I rx ry h
  obtain ⟨a, b, ks, rfl, rfl, ea, eb, q⟩ := h
  obtain rfl : v = Value.ref a := rx
  obtain rfl : u = Value.ref b := ry
  obtain ⟨_, ya, va, ra, da⟩ := (show ObjOk X.prog X.w H s.heap a (.dK ks) from I.hok a _ ea)
  obtain ⟨_, yb, vb, rb, db⟩ := (show ObjOk X.prog X.w H s.heap b (.dK []) from I.hok b _ eb)
  have l1 := ra.length
  have l2 := rb.length
  refine PySem.W.keq_ne (knd := mixKind X.prog X.w) (r := true) ya yb da db hu (fun e => ?_) (fin_bl I q ?_)
  · have : ks = [] := List.length_eq_zero_iff.mp (by rw [l1, e, ← l2]; rfl)
    subst this
    exact hits_all rb ra fun p m => nomatch m
  · have e2 : vb.length = 0 := by rw [← l2]; rfl
    cases ks with
    | nil =>
      have e1 : va.length = 0 := by rw [← l1]; rfl
      simp [e1, e2]
    | cons k kt =>
      have e1 : va.length = kt.length + 1 := by rw [← l1]; rfl
      simp [e1, e2]
abbrev gkw_cut {α : Type} (_ zs : List α) : List α := zs
theorem gkw_cut_rel {vs zs : List V} {us ws : List Value} (_ : Vals vs us) (r : Vals zs ws) : Vals (gkw_cut vs zs) (gkw_cut us ws) := r
def t_ref13 (K : PySem.W.Frag) (C : Addr) : TS := (tSeq (tAsg (tCall (spSizes K) [] E0 (tCons (tVar 1) (tCons (tC (.int 3)) (tNil)))) (gName 10))
  (tIfS (tAnd (tTest (tOp rNeDE (tVar 10) (tDNewK))) (tNot (tB (tCall (spRefused13 K C) [] E0 (tCons (tCall (spMade K C) [] E0 (tCons (tCall (spBoxes K) [] E0 (tCons (tVar 1) (tCons (tVar 10) (tCons (tC (.int 9)) (tNil))))) (tCons (tVar 10) (tNil)))) (tNil))))))
  (tRet (tC (.bl false)))
  (tNext)))
def t_again13 (K : PySem.W.Frag) (B C : Addr) : TS := (tSeq (tIfS (tOr (tTest (tOp rNe (tCB (rRepr K) (tCons (tOp (rIxT K) (tKw 1 (spCut K C B) gkw_cut (fun _ => E0) tNil (tCons (tVar 7) (tNil))) (tC (.int 1))) (tNil))) (tCB (rRepr K) (tCons (tVar 9) (tNil))))) (tNot (tB (tCall (spIs K C) [] E0 (tCons (tVar 7) (tCons (tCall (spMoved K) [] E0 (tCons (tVar 3) (tCons (tVar 4) (tNil)))) (tCons (tDNewK) (tNil))))))))
  (tRet (tC (.bl false)))
  (tNext))
  (t_ref13 K C))
def t_due13 (K : PySem.W.Frag) : TE := (tLc (iList K (tVar 6)) (gName 11) (tYes) (tOp qAdd (tVar 11) (tVar 4)) [11])
def t_rep13b (K : PySem.W.Frag) (B C : Addr) : TS := (tSeq (tIfS (tTest (tOp rNe (tCB (rRepr K) (tCons (tOp (rIxT K) (tVar 8) (tC (.int 1))) (tNil))) (tCB (rRepr K) (tCons (tVar 9) (tNil)))))
  (tRet (tC (.bl false)))
  (tNext))
  (tSeq (tDrop (tBM K "list" rAppend (tOp (rIxT K) (tVar 8) (tC (.int 1))) (tCons (tC .non) (tNil))))
  (t_again13 K B C)))
def t_rep13 (K : PySem.W.Frag) (B C : Addr) : TS := (tSeq (tAsg (t_due13 K) (gName 9)) (t_rep13b K B C))
def t_chk13 (K : PySem.W.Frag) (B C : Addr) : TS := (tSeq (tIfS (tOr (tNot (tB (tCB (rIsi K) (tCons (tVar 8) (tCons (tC (.ty "tuple")) tNil))))) (tTest (tOp rNe (tCB (qLen K) (tCons (tVar 8) (tNil))) (tC (.int 2)))))
  (tRet (tC (.bl false)))
  (tNext))
  (tSeq (tIfS (tNot (tB (tCall (spIs K C) [] E0 (tCons (tOp (rIxT K) (tVar 8) (tC (.int 0))) (tCons (tCall (spMoved K) [] E0 (tCons (tCall (spOnes K) [] E0 (tCons (tVar 5) (tNil))) (tCons (tVar 4) (tNil)))) (tCons (tDNewK) (tNil)))))))
  (tRet (tC (.bl false)))
  (tNext))
  (t_rep13 K B C)))
def t_cut13 (K : PySem.W.Frag) (B C : Addr) : TS := (tSeq (tAsg (tCall (spLCut K) [] E0 (tCons (tCB rListD (tCons (tVar 3) (tNil))) (tNil))) (gTup K 2 (gCons (gName 5) (gCons (gName 6) (gNil)))))
  (tSeq (tAsg (tCall (spMade K C) [] E0 (tCons (tCall (spMoved K) [] E0 (tCons (tVar 3) (tCons (tVar 4) (tNil)))) (tCons (tDNewK) (tNil)))) (gName 7))
  (tSeq (tAsg (tCall (spCut K C B) [] E0 (tCons (tVar 7) (tNil))) (gName 8))
  (t_chk13 K B C))))
def t_far13 (K : PySem.W.Frag) (B C : Addr) : TS := (tSeq (tAsg (tCall (spPick K) [] E0 (tCons (tVar 1) (tCons (tLst (tCons (tC (.int 0)) (tCons (tC (.int 1)) (tCons (tUn (rU fun i => .int (-i)) (tC (.int 20))) (tCons (tOp qPow (tC (.int 10)) (tC (.int 29))) (tCons (tOp qSub (tUn (rU fun i => .int (-i)) (tOp qPow (tC (.int 10)) (tC (.int 29)))) (tC (.int 3))) (tNil))))))) (tNil)))) (gName 4))
  (t_cut13 K B C))
def t_turn13 (K : PySem.W.Frag) (B C : Addr) : TS := (tSeq (tAsg (tCall (spNear K) [] E0 (tCons (tCall (spBoxes K) [] E0 (tCons (tVar 1) (tCons (tDNewK) (tCons (tCall (spPick K) [] E0 (tCons (tVar 1) (tCons (tLst (tCons (tC (.int 3)) (tCons (tC (.int 10)) (tCons (tC (.int 40)) (tNil))))) (tNil)))) (tNil))))) (tNil))) (gName 3))
  (tSeq (tIfS (tTest (tOp rEq (tCall spTake [] E0 (tCons (tVar 1) (tCons (tC (.int 4)) (tNil)))) (tC (.int 0))))
  (tAsg (tCall spCrowd13 [] E0 (tCons (tVar 1) (tNil))) (gName 3))
  (tNext))
  (t_far13 K B C)))
def t_law13 (K : PySem.W.Frag) (B C : Addr) : TS := tSeq (tAsg (tCall (spBegun K) [] E0 (tCons (tVar 0) (tNil))) (gName 1))
  (tSeq (tFor (iRng1 (tCons (tOp qAdd (tC (.int 4)) (tCB qMin2 (tCons (tCB (qLen K) (tCons (tVar 0) (tNil))) (tCons (tC (.int 12)) (tNil))))) (tNil))) (gName 2)
  (t_turn13 K B C))
  (tRet (tC (.bl true))))
section
variable {K : PySem.W.Frag} {B C : Addr} {N N2 N3 : L2.St → Hp → Prop} {R : VK}
/-- a row of wide boxes is refused -/
theorem ref13 {H : Hp} {d g c : Addr} {b : Nat} {x0 x2 x3 x4 x5 x6 x7 x8 x9 x10 x11 : Option V} (S : StB H d g c (b + 65))
    (hN : ∀ y10 H', StB H' d g c b → N [x0, some (.ref d), x2, x3, x4, x5, x6, x7, x8, x9, y10, x11] H') :
    t_ref13 K C { nx := N, rt := R, bk := N2, ct := N3 } [x0, some (.ref d), x2, x3, x4, x5, x6, x7, x8, x9, x10, x11] H := by
  refine ⟨_, rfl, d, g, c, b + 40, 3, rfl, S, by decide, by decide, fun Z H1 ks S1 q1 z1 z2 z3 hZ Z1 ak zo zl => ?_⟩
  refine ⟨_, rfl, fun e he => ?_⟩
  have s2 := same_new (o := .dK []) he
  have E2 : upd H1 e (.dK []) e = some (.dK []) := upd_same
  have S2 := S1.new (o := .dK []) he
  have Z2 := s2 _ _ Z1
  generalize upd H1 e (.dK []) = H2 at s2 E2 S2 Z2 ⊢
  refine ⟨Z, e, _, rfl, rfl, Z2, E2, _, rfl, ?_⟩
  have ne : (!(kvsOf ks).isEmpty) = !ks.isEmpty := by cases ks <;> rfl
  rw [ne]
  cases ks with
  | nil => exact iteF (iteF (hN _ _ (S2.mono (by omega))))
  | cons k ks =>
    refine iteT ⟨_, rfl, _, rfl, d, g, c, b, Z, 9, k :: ks, rfl, S2, z1, z2, z3, Z2, asc_nd ak, zo, zl, by decide, by decide, fun F H3 ps S3 q3 f1 f2 f3 hF F3 ap ok bd sm => ?_⟩
    have Z3 := kp_dict S2 q3 Z2
    have rok : RowOk ps (k :: ks) := ⟨asc_nd ap, asc_nd ak, zl, zo, ok, by omega⟩
    refine ⟨_, rfl, F, Z, ps, k :: ks, rfl, F3, Z3, rok, ap, ak, fun x H4 hx s4 row4 => ?_⟩
    refine ⟨x, ps, k :: ks, rfl, row4, rok, ap, (fun z => nomatch z), fun H5 s5 => ⟨_, rfl, ?_⟩⟩
    exact iteF (hN _ _ (StB.same s5 (StB.same s4 S3)))
end
/-- the places and how far they are moved -/
structure P13 (L : List Int) (far : Int) : Prop where
  asc : L.Pairwise (· < ·)
  len : L.length ≤ 40
  bd : ∀ y ∈ L, -300 ≤ y ∧ y ≤ 300
  fb : -(10 ^ 30) ≤ far ∧ far ≤ 10 ^ 30
theorem asc_add {L : List Int} (h : L.Pairwise (· < ·)) (far : Int) : (L.map (· + far)).Pairwise (· < ·) := List.pairwise_map.mpr (h.imp fun {a b} h => by omega)
theorem P13.small {L : List Int} {far : Int} (p : P13 L far) {M : List Int} (h : ∀ y ∈ M, -400 ≤ y ∧ y ≤ 400) : ∀ y ∈ M.map (· + far), -(10 ^ 31) ≤ y ∧ y ≤ 10 ^ 31 := fun y m => by
  obtain ⟨z, hz, rfl⟩ := List.mem_map.mp m
  have a := h z hz
  have f := p.fb
  have e30 : (10 : Int) ^ 30 = 1000000000000000000000000000000 := by decide
  have e31 : (10 : Int) ^ 31 = 10000000000000000000000000000000 := by decide
  omega
theorem P13.cut {L : List Int} {far : Int} (p : P13 L far) : (∀ y ∈ (cutL L 0).1, -400 ≤ y ∧ y ≤ 400) ∧ ∀ y ∈ (cutL L 0).2, -400 ≤ y ∧ y ≤ 400 := by
  obtain ⟨h1, h2⟩ := cutL_bd L 0 (-300) 300 (Int.le_refl _) p.bd
  have l := p.len
  exact ⟨fun y m => by have := h1 y m; omega, fun y m => by have := h2 y m; omega⟩
theorem P13.cutLen {L : List Int} {far : Int} (p : P13 L far) : (cutL L 0).1.length ≤ 40 ∧ (cutL L 0).2.length ≤ 40 := by
  have h := cutL_len L 0
  have l := p.len
  omega
theorem nat_small {y : Int} (h : -(10 ^ 31) ≤ y ∧ y ≤ 10 ^ 31) : y.natAbs < 2 ^ 1900 := by
  have b : (10 : Int) ^ 31 = 10000000000000000000000000000000 := by decide
  have e : (2 : Nat) ^ 110 ≤ 2 ^ 1900 := Nat.pow_le_pow_right (by decide) (by decide)
  have e2 : (2 : Nat) ^ 110 = 1298074214633706907132624082305024 := by decide
  omega
/-- repr(x) != repr(y) of equal lists of whole numbers -/
theorem repr_two {K : PySem.W.Frag} {σ : L2.St} {H : Hp} {ta tb : TE} {L : List Int} {Q : Bool → Hp → Prop} (ha : ∀ R : VK, (∀ x H', Same H H' → H' x = some (.lst (L.map V.int)) → R (.ref x) H') → ta σ H R)
    (hb : ∀ H' (R : VK), Same H H' → (∀ y, H' y = some (.lst (L.map V.int)) → R (.ref y) H') → tb σ H' R) (sm : ∀ y ∈ L, -(10 ^ 31) ≤ y ∧ y ≤ 10 ^ 31) (len : L.length ≤ 100) (q : ∀ H', Same H H' → Q false H') :
    tTest (tOp rNe (tCB (rRepr K) (tCons ta tNil)) (tCB (rRepr K) (tCons tb tNil))) σ H Q := by
  have sh := ints_show fun y m => nat_small (sm y m)
  have fit : ∀ {H' : Hp} {x : Addr}, H' x = some (.lst (L.map V.int)) → (dRepr (.list (L.map PyData.int))).length ≤ sizeLine := fun {H' x} h => repr_fit (K := K) sh (dp_list (xs := L) h) (ints_cost len)
  refine ha _ fun x H1 s1 hx => ⟨.ref x, _, rfl, dp_list (xs := L) hx, sh, ints_depth L, fit hx, ?_⟩
  refine hb H1 _ s1 fun y hy => ⟨.ref y, _, rfl, dp_list (xs := L) hy, sh, ints_depth L, fit hy, rfl, _, rfl, ?_⟩
  rw [decide_eq_true (rfl : V.str (dRepr (.list (L.map PyData.int))) = V.str (dRepr (.list (L.map PyData.int))))]
  exact q H1 s1
/-- cut of a plain row -/
theorem cut_call {K : PySem.W.Frag} {C B : Addr} {H : Hp} {x : Addr} {M : List Int} {Q : VK} {E : XK} (row : RowAt K C H x (ones M) []) (asc : M.Pairwise (· < ·)) (len : M.length ≤ 40)
    (q : ∀ t y O H', H t = none → H O = none → Same H H' → H' t = some (.tup [.ref y, .ref O]) → RowAt K C H' y (ones (cutL M 0).1) [] → H' O = some (.lst ((cutL M 0).2.map V.int)) → Q (.ref t) H') : spCut K C B [.ref x] H Q E := by
  refine ⟨x, ones M, [], rfl, row, ones_ok asc len, ones_asc asc, (fun z => absurd rfl z), fun _ t y O H' ht hO s h1 h2 h3 => ?_⟩
  rw [ones_fst] at h2 h3
  exact q t y O H' ht hO s h1 h2 h3
section
variable {K : PySem.W.Frag} {B C : Addr} {N N2 N3 : L2.St → Hp → Prop} {R : VK}
theorem again13 {H : Hp} {d g c F x D : Addr} {b : Nat} {L : List Int} {far : Int} {x0 x2 x5 x6 x8 x10 x11 : Option V} (p : P13 L far) (S : StB H d g c (b + 65)) (hF : H F = some (.dK (kvsOf (ones L)))) (row : RowAt K C H x (ones (L.map (· + far))) []) (hD : H D = some (.lst (((cutL L 0).2.map (· + far)).map V.int)))
    (hN : ∀ y10 H', StB H' d g c b → N [x0, some (.ref d), x2, some (.ref F), some (.int far), x5, x6, some (.ref x), x8, some (.ref D), y10, x11] H') :
    t_again13 K B C { nx := N, rt := R, bk := N2, ct := N3 } [x0, some (.ref d), x2, some (.ref F), some (.int far), x5, x6, some (.ref x), x8, some (.ref D), x10, x11] H := by
  have am := asc_add p.asc far
  have lm : (L.map (· + far)).length ≤ 40 := by
    rw [List.length_map]
    exact p.len
  have sh := cutL_shift far L 0
  refine repr_two (L := (cutL L 0).2.map (· + far)) (fun R0 k => ⟨_, rfl, rfl, cut_call row am lm fun t y O H' ht hO s h1 h2 h3 => ?_⟩) (fun H' R0 s k => ⟨_, rfl, k D (s _ _ hD)⟩) (p.small p.cut.2) (by rw [List.length_map]; have := p.cutLen.2; omega) fun H1 s1 => ?_
  · rw [sh] at h3
    exact ⟨t, _, 1, _, rfl, rfl, SqT.of h1, rfl, k O H' s h3⟩
  have row1 := row.same s1
  refine iteF ⟨_, rfl, _, rfl, _, rfl, F, L, far, rfl, s1 _ _ hF, p.asc, by have := p.len; omega, fun r H2 hr s2 R2 => ?_⟩
  intro e he
  have s3 := same_new (o := .dK []) he
  have E3 : upd H2 e (.dK []) e = some (.dK (kvsOf [])) := upd_same
  generalize upd H2 e (.dK []) = H3 at s3 E3 ⊢
  have s13 := s1.trans (s2.trans s3)
  refine ⟨x, r, e, ones (L.map (· + far)), [], ones (L.map (· + far)), [], rfl, row.same s13, s3 _ _ R2, E3, ones_asc am, .nil, .refl _, .refl _, by rw [ones_len]; omega, by decide, ones_small (p.small fun y m => by have := p.bd y m; omega), (fun p m => nomatch m), fun H4 s4 => ⟨_, rfl, iteF ?_⟩⟩
  exact ref13 (StB.same (s13.trans s4) S) fun y10 H' S' => hN y10 H' S'
/-- what is no list stays -/
theorem RowAt.lst {H H' : Hp} {O x : Addr} {xs : List V} {ps ks : List (Int × Int)} (row : RowAt K C H x ps ks) (hO : H O = some (.lst xs)) (k : SameBut O H H') : RowAt K C H' x ps ks := by
  have kp : ∀ {a : Addr} {o : HO}, H a = some o → (∀ ys, o ≠ .lst ys) → H' a = some o := fun {a o} h n => k _ _ (fun z => by
    rw [z, hO] at h
    exact n xs (Option.some.inj h).symm) h
  obtain ⟨dx, c0, k0, d0, e, ps0, ks0, h1, ⟨t1, h2, h3⟩, ⟨t2, h4, h5⟩, h6, h7, h8⟩ := row
  have tp : ∀ {t : Addr} {p : Int × Int}, TupAt H t p → TupAt H' t p := fun {t p} z => kp (o := .tup [.int p.1, .int p.2]) z (fun _ z => nomatch z)
  refine ⟨dx, c0, k0, d0, e, ps0, ks0, kp h1 (fun _ z => nomatch z), ⟨t1, ?_, paired_imp (fun _ _ z => tp z) h3⟩, ⟨t2, ?_, paired_imp (fun _ _ z => tp z) h5⟩, kp h6 (fun _ z => nomatch z), kp h7 (fun _ z => nomatch z), h8⟩
  · obtain ⟨o, a1, a2⟩ := h2
    exact ⟨o, kp a1 (fun _ z => nomatch z), a2⟩
  · obtain ⟨o, a1, a2⟩ := h4
    exact ⟨o, kp a1 (fun _ z => nomatch z), a2⟩
theorem due13 {H : Hp} {O : Addr} {L : List Int} {far : Int} {x0 x1 x2 x3 x5 x7 x8 x9 x10 x11 : Option V} {Q : VK} (hO : H O = some (.lst (L.map V.int))) (len : L.length ≤ 100)
    (q : ∀ D H', H D = none → Same H H' → H' D = some (.lst ((L.map (· + far)).map V.int)) → Q (.ref D) H') : t_due13 K [x0, x1, x2, x3, some (.int far), x5, some (.ref O), x7, x8, x9, x10, x11] H Q := by
  refine ⟨_, rfl, O, rfl, ⟨_, SqL.of hO⟩, fun D hD => ?_⟩
  refine lc_it (walk_list (K := K) (a := O) (xs := L.map V.int)) (fun i H2 => Same H H2 ∧ H2 D = some (.lst (((L.take i).map (· + far)).map V.int))) ⟨same_new hD, upd_same⟩ ?_ ?_ ?_
  · rintro i H2 _ ⟨s2, _⟩
    exact SqL.of (s2 _ _ hO)
  · rintro i v H2 H3 hi ⟨s2, d2⟩ ⟨rfl, hv⟩
    rw [List.getElem?_map] at hv
    obtain ⟨y, hy, rfl⟩ := Option.map_eq_some_iff.mp hv
    refine ⟨rfl, yes_if ?_⟩
    refine ⟨_, rfl, _, rfl, _, _, rfl, rfl, _, d2, ?_, same_upd s2 hD, ?_⟩
    · rw [List.length_map, List.length_map, List.length_take]
      exact Nat.lt_of_le_of_lt (Nat.le_trans (Nat.min_le_right _ _) len) (by decide)
    · rw [upd_same, List.take_succ, hy, List.map_append, List.map_append]
      rfl
  · rintro H2 ⟨s2, d2⟩
    have tl : (L.map V.int).length = L.length := List.length_map ..
    rw [tl, List.take_length] at d2
    exact q D H2 hD s2 d2
theorem rep13 {H : Hp} {d g c F x O1 t y O2 : Addr} {b : Nat} {L : List Int} {far : Int} {x0 x2 x5 x9 x10 x11 : Option V} (p : P13 L far) (S : StB H d g c (b + 65)) (hF : H F = some (.dK (kvsOf (ones L)))) (row : RowAt K C H x (ones (L.map (· + far))) [])
    (hO1 : H O1 = some (.lst ((cutL L 0).2.map V.int))) (ht : H t = some (.tup [.ref y, .ref O2])) (hO2 : H O2 = some (.lst (((cutL L 0).2.map (· + far)).map V.int))) (n1 : O2 ≠ d) (n2 : O2 ≠ g) (n3 : O2 ≠ c)
    (hN : ∀ y9 y10 H', StB H' d g c b → N [x0, some (.ref d), x2, some (.ref F), some (.int far), x5, some (.ref O1), some (.ref x), some (.ref t), y9, y10, x11] H') :
    t_rep13 K B C { nx := N, rt := R, bk := N2, ct := N3 } [x0, some (.ref d), x2, some (.ref F), some (.int far), x5, some (.ref O1), some (.ref x), some (.ref t), x9, x10, x11] H := by
  unfold t_rep13
  unfold tSeq
  unfold tAsg
  refine due13 hO1 (by have := p.cutLen.2; omega) fun D H1 hD s1 D1 => ?_
  show t_rep13b K B C { nx := N, rt := R, bk := N2, ct := N3 } [x0, some (.ref d), x2, some (.ref F), some (.int far), x5, some (.ref O1), some (.ref x), some (.ref t), some (.ref D), x10, x11] H1
  have cl : ((cutL L 0).2.map (· + far)).length ≤ 40 := by
    rw [List.length_map]
    exact p.cutLen.2
  refine repr_two (L := (cutL L 0).2.map (· + far)) (fun R0 k => ⟨_, rfl, t, _, 1, _, rfl, rfl, SqT.of (s1 _ _ ht), rfl, k O2 H1 (fun _ _ h => h) (s1 _ _ hO2)⟩) (fun H' R0 s k => ⟨_, rfl, k D (s _ _ D1)⟩) (p.small p.cut.2) (by omega) fun H2 s2 => iteF ?_
  have s02 := s1.trans s2
  have O22 := s02 _ _ hO2
  refine ⟨_, rfl, t, _, 1, _, rfl, rfl, SqT.of (s02 _ _ ht), rfl, .inl ⟨rfl, _, SqL.of O22⟩, ?_⟩
  refine ⟨O2, _, _, rfl, rfl, O22, ?_, ?_⟩
  · rw [List.length_map]
    exact Nat.lt_of_le_of_lt cl (by decide)
  have nD : D ≠ O2 := fun z => by
    rw [z, hO2] at hD
    cases hD
  have nF : F ≠ O2 := fun z => by
    rw [z, hO2] at hF
    cases hF
  have k3 : SameBut O2 H2 (upd H2 O2 (.lst (((cutL L 0).2.map (· + far)).map V.int ++ [.non]))) := but_upd
  have S3 : StB (upd H2 O2 (.lst (((cutL L 0).2.map (· + far)).map V.int ++ [.non]))) d g c (b + 65) := (StB.same s02 S).upd n1 n2 n3
  exact again13 p S3 (k3 _ _ nF (s02 _ _ hF)) ((row.same s02).lst O22 k3) (k3 _ _ nD (s2 _ _ D1)) fun y10 H' S' => hN _ _ _ S'
theorem chk13 {H : Hp} {d g c F x O0 O1 t y O2 : Addr} {b : Nat} {L : List Int} {far : Int} {x0 x2 x9 x10 x11 : Option V} (p : P13 L far) (S : StB H d g c (b + 65)) (hF : H F = some (.dK (kvsOf (ones L)))) (row : RowAt K C H x (ones (L.map (· + far))) [])
    (hO0 : H O0 = some (.lst ((cutL L 0).1.map V.int))) (hO1 : H O1 = some (.lst ((cutL L 0).2.map V.int))) (ht : H t = some (.tup [.ref y, .ref O2])) (hy : RowAt K C H y (ones ((cutL L 0).1.map (· + far))) []) (hO2 : H O2 = some (.lst (((cutL L 0).2.map (· + far)).map V.int))) (n1 : O2 ≠ d) (n2 : O2 ≠ g) (n3 : O2 ≠ c)
    (hN : ∀ y9 y10 H', StB H' d g c b → N [x0, some (.ref d), x2, some (.ref F), some (.int far), some (.ref O0), some (.ref O1), some (.ref x), some (.ref t), y9, y10, x11] H') :
    t_chk13 K B C { nx := N, rt := R, bk := N2, ct := N3 } [x0, some (.ref d), x2, some (.ref F), some (.int far), some (.ref O0), some (.ref O1), some (.ref x), some (.ref t), x9, x10, x11] H := by
  have ty := AnyT.tup (K := K) (SqT.of ht)
  refine ⟨_, rfl, _, _, _, _, _, rfl, .ty _, ty.ty, ty.kit.2.2.1, _, rfl, iteF ?_⟩
  refine ⟨_, rfl, t, _, rfl, .inr (SqT.of ht), rfl, _, rfl, ?_⟩
  refine iteF ?_
  have ac := (cutL_asc L 0 p.asc).1
  have cl := p.cutLen.1
  refine ⟨_, rfl, t, _, 0, _, rfl, rfl, SqT.of ht, rfl, _, rfl, O0, (cutL L 0).1, rfl, hO0, ac, by omega, fun r1 H1 hr1 s1 R1 => ⟨_, rfl, r1, (cutL L 0).1, far, rfl, R1, ac, by omega, fun r2 H2 hr2 s2 R2 => ?_⟩⟩
  intro e he
  have s3 := same_new (o := .dK []) he
  have E3 : upd H2 e (.dK []) e = some (.dK (kvsOf [])) := upd_same
  generalize upd H2 e (.dK []) = H3 at s3 E3 ⊢
  have s03 := s1.trans (s2.trans s3)
  have am := asc_add ac far
  refine ⟨y, r2, e, ones ((cutL L 0).1.map (· + far)), [], ones ((cutL L 0).1.map (· + far)), [], rfl, hy.same s03, s3 _ _ R2, E3, ones_asc am, .nil, .refl _, .refl _, by rw [ones_len, List.length_map]; omega, by decide, ones_small (p.small p.cut.1), (fun p m => nomatch m), fun H4 s4 => ⟨_, rfl, iteF ?_⟩⟩
  have s04 := s03.trans s4
  exact rep13 p (StB.same s04 S) (s04 _ _ hF) (row.same s04) (s04 _ _ hO1) (s04 _ _ ht) (s04 _ _ hO2) n1 n2 n3 fun y9 y10 H' S' => hN y9 y10 H' S'
end
end SR

set_option Elab.async false
set_option linter.all false
set_option maxRecDepth 100000
set_option maxHeartbeats 1000000
/-! K13I: the law of cuts, its turns. -/
namespace SR
open PySem PySem.Spec PyProof.Rows L2
@[irreducible] def xChk13 := @t_chk13
theorem xChk13_eq : @xChk13 = @t_chk13 := by
  unfold xChk13
  rfl
section
variable {K : PySem.W.Frag} {B C : Addr} {N N2 N3 : L2.St → Hp → Prop} {R : VK}
theorem cut13 {H : Hp} {d g c F : Addr} {b : Nat} {L : List Int} {far : Int} {x0 x2 x5 x6 x7 x8 x9 x10 x11 : Option V} (p : P13 L far) (S : StB H d g c (b + 65)) (hF : H F = some (.dK (kvsOf (ones L))))
    (hN : ∀ y5 y6 y7 y8 y9 y10 H', StB H' d g c b → N [x0, some (.ref d), x2, some (.ref F), some (.int far), y5, y6, y7, y8, y9, y10, x11] H') :
    t_cut13 K B C { nx := N, rt := R, bk := N2, ct := N3 } [x0, some (.ref d), x2, some (.ref F), some (.int far), x5, x6, x7, x8, x9, x10, x11] H := by
  have am := asc_add p.asc far
  have lm : (L.map (· + far)).length ≤ 40 := by
    rw [List.length_map]
    exact p.len
  have len := p.len
  refine ⟨_, rfl, F, _, rfl, hF, fun l hl => ?_⟩
  have s1 := same_new (o := .lst ((kvsOf (ones L)).map fun kv => kV kv.1)) hl
  have L1 : upd H l (.lst ((kvsOf (ones L)).map fun kv => kV kv.1)) l = some (.lst (L.map V.int)) := by rw [upd_same, ones_keys]
  generalize upd H l (.lst ((kvsOf (ones L)).map fun kv => kV kv.1)) = H1 at s1 L1 ⊢
  refine ⟨l, L, rfl, L1, p.asc, by omega, p.bd, fun t0 O0 O1 H2 h0 h1 ne s2 T2 P0 P1 => ⟨t0, _, rfl, SqT.of T2, rfl, _, _, rfl, _, _, rfl, rfl, ?_⟩⟩
  have s12 := s1.trans s2
  refine ⟨_, rfl, _, rfl, F, L, far, rfl, s12 _ _ hF, p.asc, by omega, fun r H3 hr s3 R3 => ?_⟩
  intro e he
  have s4 := same_new (o := .dK []) he
  have E4 : upd H3 e (.dK []) e = some (.dK (kvsOf [])) := upd_same
  generalize upd H3 e (.dK []) = H4 at s4 E4 ⊢
  refine ⟨r, e, ones (L.map (· + far)), [], rfl, s4 _ _ R3, E4, ones_ok am lm, ones_asc am, .nil, fun x H5 hx s5 row => ?_⟩
  have s25 := s3.trans (s4.trans s5)
  have s05 := s12.trans s25
  have call : spCut K C B [.ref x] H5 (fun z H6 => t_chk13 K B C { nx := N, rt := R, bk := N2, ct := N3 } [x0, some (.ref d), x2, some (.ref F), some (.int far), some (.ref O0), some (.ref O1), some (.ref x), some z, x9, x10, x11] H6) E0 := by
    refine cut_call row am lm fun t y O H6 ht hO s6 T6 row6 P6 => ?_
    rw [cutL_shift] at row6 P6
    have S6 := StB.same (s05.trans s6) S
    obtain ⟨n1, n2, n3⟩ := (StB.same s05 S).off hO
    have s26 := s25.trans s6
    exact chk13 p S6 ((s12.trans s26) _ _ hF) (row.same s6) (s26 _ _ P0) (s26 _ _ P1) T6 row6 P6 n1 n2 n3 fun y9 y10 H' S' => hN _ _ _ _ _ _ H' S'
  exact ⟨_, rfl, call⟩
@[irreducible] def xCut13 := @t_cut13
theorem xCut13_eq : @xCut13 = @t_cut13 := by
  unfold xCut13
  rfl
theorem far13 {H : Hp} {d g c F : Addr} {b : Nat} {L : List Int} {x0 x2 x4 x5 x6 x7 x8 x9 x10 x11 : Option V} (asc : L.Pairwise (· < ·)) (len : L.length ≤ 40) (bd : ∀ y ∈ L, -300 ≤ y ∧ y ≤ 300) (S : StB H d g c (b + 66)) (hF : H F = some (.dK (kvsOf (ones L))))
    (hN : ∀ y4 y5 y6 y7 y8 y9 y10 H', StB H' d g c b → N [x0, some (.ref d), x2, some (.ref F), y4, y5, y6, y7, y8, y9, y10, x11] H') :
    t_far13 K B C { nx := N, rt := R, bk := N2, ct := N3 } [x0, some (.ref d), x2, some (.ref F), x4, x5, x6, x7, x8, x9, x10, x11] H := by
  refine ⟨_, rfl, 20, rfl, 10, 29, rfl, rfl, ⟨by decide, by decide, by decide⟩, 10, 29, rfl, rfl, ⟨by decide, by decide, by decide⟩, _, rfl, _, _, rfl, rfl, sz (by show 5 ≤ 1000; decide), fun l hl => ?_⟩
  obtain ⟨l1, l2, l3⟩ := S.off hl
  refine ⟨d, g, c, b + 65, l, _, rfl, S.new hl, SqL.of upd_same, l1, l2, by show 0 < 5; decide, by show 5 < 1000; decide, fun v H1 hv S1 q1 => ?_⟩
  have e30 : (10 : Int) ^ 30 = 1000000000000000000000000000000 := by decide
  have E29 : (10 : Int) ^ (29 : Int).toNat = 100000000000000000000000000000 := by
    show (10 : Int) ^ 29 = _
    decide
  obtain ⟨far, rfl, f1, f2⟩ : ∃ m : Int, v = .int m ∧ -1000000000000000000000000000000 ≤ m ∧ m ≤ 1000000000000000000000000000000 := by
    simp only [List.mem_cons, List.not_mem_nil, or_false] at hv
    rcases hv with rfl | rfl | rfl | rfl | rfl
    · exact ⟨0, rfl, by decide, by decide⟩
    · exact ⟨1, rfl, by decide, by decide⟩
    · exact ⟨_, rfl, by decide, by decide⟩
    · exact ⟨_, rfl, by rw [E29]; decide, by rw [E29]; decide⟩
    · exact ⟨_, rfl, by rw [E29]; decide, by rw [E29]; decide⟩
  clear hv
  have k1 : Kp d g H H1 := (Kp.new hl).trans q1
  have F1 := kp_dict S k1 hF
  try rw [← xCut13_eq]
  show xCut13 K B C { nx := N, rt := R, bk := N2, ct := N3 } [x0, some (.ref d), x2, some (.ref F), some (.int far), x5, x6, x7, x8, x9, x10, x11] H1
  rw [xCut13_eq]
  exact cut13 ⟨asc, len, bd, by rw [e30]; exact ⟨f1, f2⟩⟩ S1 F1 fun y5 y6 y7 y8 y9 y10 H' S' => hN _ _ _ _ _ _ _ H' S'
@[irreducible] def xFar13 := @t_far13
theorem xFar13_eq : @xFar13 = @t_far13 := by
  unfold xFar13
  rfl
theorem turn13 {H : Hp} {d g c : Addr} {b : Nat} {x0 x2 x3 x4 x5 x6 x7 x8 x9 x10 x11 : Option V} (S : StB H d g c (b + 200))
    (hN : ∀ y3 y4 y5 y6 y7 y8 y9 y10 H', StB H' d g c b → N [x0, some (.ref d), x2, y3, y4, y5, y6, y7, y8, y9, y10, x11] H') :
    t_turn13 K B C { nx := N, rt := R, bk := N2, ct := N3 } [x0, some (.ref d), x2, x3, x4, x5, x6, x7, x8, x9, x10, x11] H := by
  refine ⟨_, rfl, fun e he => ?_⟩
  obtain ⟨e1, e2, e3⟩ := S.off he
  have S1 := S.new (o := .dK []) he
  have E1 : upd H e (.dK []) e = some (.dK (kvsOf [])) := upd_same
  generalize upd H e (.dK []) = H1 at S1 E1 ⊢
  refine ⟨_, rfl, sz (by show 3 ≤ 1000; decide), fun l hl => ?_⟩
  obtain ⟨l1, l2, l3⟩ := S1.off hl
  refine ⟨d, g, c, b + 199, l, _, rfl, S1.new hl, SqL.of upd_same, l1, l2, by show 0 < 3; decide, by show 3 < 1000; decide, fun v H2 hv S2 q2 => ?_⟩
  obtain ⟨n, rfl, n0, n40⟩ : ∃ n : Int, v = .int n ∧ 0 ≤ n ∧ n ≤ 40 := by
    simp only [List.mem_cons, List.not_mem_nil, or_false] at hv
    rcases hv with rfl | rfl | rfl <;> exact ⟨_, rfl, by decide, by decide⟩
  clear hv
  have E2 := q2 _ _ e1 e2 (same_new (o := .lst [.int 3, .int 10, .int 40]) hl _ _ E1)
  refine ⟨d, g, c, b + 159, e, n, [], rfl, S2, e1, e2, e3, E2, .nil, (fun p m => nomatch m), Nat.zero_le _, n0, n40, fun F H3 ps S3 q3 f1 f2 f3 hF F3 ap ok bd sm => ?_⟩
  have one : Ones ps := fun p m => by
    have z := ok p m
    have : cap [] p.1 = 1 := rfl
    rw [this] at z
    omega
  have po := ones_of one
  have asc : (ps.map Prod.fst).Pairwise (· < ·) := by
    rw [List.pairwise_map]
    exact ap
  have len : (ps.map Prod.fst).length ≤ 40 := by
    have z : ((ones (ps.map Prod.fst)).map Prod.snd).sum = ((ps.map Prod.fst).length : Int) := ones_sum _
    rw [← po] at z
    omega
  rw [po] at F3
  generalize ps.map Prod.fst = L0 at F3 asc len
  refine ⟨F, L0, rfl, F3, asc, by omega, fun r H4 L hr s4 ascL lenL bdL HL => ?_⟩
  obtain ⟨r1, r2, r3⟩ := S3.off hr
  have S4 := StB.same s4 S3
  refine ⟨_, rfl, d, g, c, b + 158, 4, rfl, S4, by decide, by decide, fun t H5 t0 t1 S5 q5 => ⟨rfl, _, rfl, ?_⟩⟩
  refine ite2 (fun _ => ?_) (fun _ => ?_)
  · refine ⟨_, rfl, d, g, c, b + 116, rfl, S5, fun F' H6 L' S6 q6 g1 g2 g3 G6 asc' len' bd2 => ?_⟩
    try rw [← xFar13_eq]
    show xFar13 K B C { nx := N, rt := R, bk := N2, ct := N3 } [x0, some (.ref d), x2, some (.ref F'), x4, x5, x6, x7, x8, x9, x10, x11] H6
    rw [xFar13_eq]
    exact far13 (b := b + 50) asc' len' (fun y m => by have := bd2 y m; omega) S6 G6 fun y4 y5 y6 y7 y8 y9 y10 H' S' => hN _ _ _ _ _ _ _ _ H' (S'.mono (by omega))
  · try rw [← xFar13_eq]
    show xFar13 K B C { nx := N, rt := R, bk := N2, ct := N3 } [x0, some (.ref d), x2, some (.ref r), x4, x5, x6, x7, x8, x9, x10, x11] H5
    rw [xFar13_eq]
    exact far13 (b := b + 92) ascL (by omega) (fun y m => by have := bdL y m; omega) S5 (kp_dict S4 q5 HL) fun y4 y5 y6 y7 y8 y9 y10 H' S' => hN _ _ _ _ _ _ _ _ H' (S'.mono (by omega))
@[irreducible] def xTurn13 := @t_turn13
theorem xTurn13_eq : @xTurn13 = @t_turn13 := by
  unfold xTurn13
  rfl
theorem pure_law13 (vs : List V) (H : Hp) (Q : VK) (E : XK) (h : spLaw K vs H Q E) : t_law13 K B C { nx := fun _ H' => Q .non H', rt := Q } (start ["script", "state", "turn", "boxes", "far", "places", "offsets", "made", "told", "due", "sizes", "offset"] vs) H := by
  obtain ⟨a, ns, rfl, hL, hlen, k⟩ := h
  refine ⟨_, rfl, a, ns, rfl, hL, hlen, fun d g c H1 S1 e1 _ _ _ => ?_⟩
  have hL1 : SqL K H1 a (ns.map V.int) := Same.seq e1 hL
  refine ⟨_, rfl, a, _, rfl, .inl hL1, _, _, rfl, _, _, rfl, rfl, _, rfl, ?_, ?_, ?_⟩
  · show -(2 ^ 62) ≤ 4 + (if (12 : Int) < ((ns.map V.int).length : Int) then 12 else ((ns.map V.int).length : Int))
    split <;> omega
  · show 4 + (if (12 : Int) < ((ns.map V.int).length : Int) then 12 else ((ns.map V.int).length : Int)) < 2 ^ 62
    rw [List.length_map]
    split <;> omega
  have hn : (4 + (if (12 : Int) < ((ns.map V.int).length : Int) then 12 else ((ns.map V.int).length : Int))).toNat ≤ 16 := by
    split <;> omega
  generalize (4 + (if (12 : Int) < ((ns.map V.int).length : Int) then 12 else ((ns.map V.int).length : Int))).toNat = n at hn
  refine for_range (lo := 0) (n := n) (fun i σ H2 => StB H2 d g c (5000 - 200 * i) ∧ ∃ x2 x3 x4 x5 x6 x7 x8 x9 x10, σ = [some (.ref a), some (.ref d), x2, x3, x4, x5, x6, x7, x8, x9, x10, none]) ⟨S1.mono (by decide), _, _, _, _, _, _, _, _, _, rfl⟩ ?_ ?_
  · rintro i σ H2 hi ⟨S2, x2, x3, x4, x5, x6, x7, x8, x9, x10, rfl⟩
    have e : 5000 - 200 * i = (5000 - 200 * (i + 1)) + 200 := by omega
    rw [e] at S2
    try rw [← xTurn13_eq]
    show xTurn13 K B C _ [some (.ref a), some (.ref d), some (.int (0 + i)), x3, x4, x5, x6, x7, x8, x9, x10, none] H2
    rw [xTurn13_eq]
    exact turn13 S2 fun y3 y4 y5 y6 y7 y8 y9 y10 H' S' => ⟨S', _, _, _, _, _, _, _, _, _, rfl⟩
  · rintro σ H2 _
    exact k H2
end
end SR

set_option Elab.async false
set_option linter.all false
set_option maxRecDepth 100000
set_option maxHeartbeats 8000000
namespace SR
open PySem PySem.Spec PyProof.Rows L2
def topS (i : Nat) : Stmt := PySem.Challenge.pw_scooprow_k13_cuts.main.body.getD i (.Pass ⟨0, 0, 0, 0⟩)
abbrev s_is_integer : Stmt := topS 12
abbrev s_is_between : Stmt := topS 13
abbrev s_is_pair : Stmt := topS 14
abbrev s_are_pairs : Stmt := topS 15
abbrev s_is_wide_box : Stmt := topS 16
abbrev s_are_capacities : Stmt := topS 17
abbrev s_are_contents : Stmt := topS 18
abbrev s_Row_init : Stmt := inClass (topS 19) 0
abbrev s_Row_contents : Stmt := inClass (topS 19) 1
abbrev s_Row_capacities : Stmt := inClass (topS 19) 2
abbrev s_Row_is_plain : Stmt := inClass (topS 19) 6
abbrev s_is_plain_row : Stmt := topS 20
abbrev s_runs_in : Stmt := topS 22
abbrev s_cut : Stmt := topS 23
abbrev s_begun : Stmt := topS 25
abbrev s_mixed : Stmt := topS 26
abbrev s_take : Stmt := topS 27
abbrev s_pick : Stmt := topS 28
abbrev s_sizes : Stmt := topS 29
abbrev s_boxes : Stmt := topS 30
abbrev s_near : Stmt := topS 31
abbrev s_made : Stmt := topS 32
abbrev s_is : Stmt := topS 33
abbrev s_lcut : Stmt := topS 34
abbrev s_moved : Stmt := topS 35
abbrev s_ones : Stmt := topS 36
abbrev s_is_refused : Stmt := topS 37
abbrev s_crowd : Stmt := topS 38
abbrev s_law : Stmt := topS 39
theorem sc_is_integer : FnScope ["value"] ["value"] (defScope s_is_integer) := ⟨rfl, rfl, rfl, by decide +kernel, rfl, by decide +kernel, by decide +kernel⟩
theorem sc_is_between : FnScope ["value", "low", "high"] ["value", "low", "high"] (defScope s_is_between) := ⟨rfl, rfl, rfl, by decide +kernel, rfl, by decide +kernel, by decide +kernel⟩
theorem sc_is_pair : FnScope ["value"] ["value"] (defScope s_is_pair) := ⟨rfl, rfl, rfl, by decide +kernel, rfl, by decide +kernel, by decide +kernel⟩
theorem sc_are_pairs : FnScope ["value", "part", "first", "_"] ["value"] (defScope s_are_pairs) := ⟨rfl, rfl, rfl, by decide +kernel, rfl, by decide +kernel, by decide +kernel⟩
theorem sc_is_wide_box : FnScope ["index", "capacity"] ["index", "capacity"] (defScope s_is_wide_box) := ⟨rfl, rfl, rfl, by decide +kernel, rfl, by decide +kernel, by decide +kernel⟩
theorem sc_are_capacities : FnScope ["value", "index", "capacity"] ["value"] (defScope s_are_capacities) := ⟨rfl, rfl, rfl, by decide +kernel, rfl, by decide +kernel, by decide +kernel⟩
theorem sc_are_contents : FnScope ["value", "capacities", "wide", "index", "count", "_"] ["value", "capacities"] (defScope s_are_contents) := ⟨rfl, rfl, rfl, by decide +kernel, rfl, by decide +kernel, by decide +kernel⟩
theorem sc_Row_init : FnScope ["self", "contents", "capacities"] ["self", "contents", "capacities"] (defScope s_Row_init) := ⟨rfl, rfl, rfl, by decide +kernel, rfl, by decide +kernel, by decide +kernel⟩
theorem sc_Row_contents : FnScope ["self"] ["self"] (defScope s_Row_contents) := ⟨rfl, rfl, rfl, by decide +kernel, rfl, by decide +kernel, by decide +kernel⟩
theorem sc_Row_capacities : FnScope ["self"] ["self"] (defScope s_Row_capacities) := ⟨rfl, rfl, rfl, by decide +kernel, rfl, by decide +kernel, by decide +kernel⟩
theorem sc_Row_is_plain : FnScope ["self"] ["self"] (defScope s_Row_is_plain) := ⟨rfl, rfl, rfl, by decide +kernel, rfl, by decide +kernel, by decide +kernel⟩
theorem sc_is_plain_row : FnScope ["value"] ["value"] (defScope s_is_plain_row) := ⟨rfl, rfl, rfl, by decide +kernel, rfl, by decide +kernel, by decide +kernel⟩
theorem sc_runs_in : FnScope ["row", "found", "index", "_"] ["row"] (defScope s_runs_in) := ⟨rfl, rfl, rfl, by decide +kernel, rfl, by decide +kernel, by decide +kernel⟩
theorem sc_cut : FnScope ["row", "kept", "offsets", "first", "length", "start", "place"] ["row"] (defScope s_cut) := ⟨rfl, rfl, rfl, by decide +kernel, rfl, by decide +kernel, by decide +kernel⟩
theorem sc_begun : FnScope ["script", "wide", "cell"] ["script"] (defScope s_begun) := ⟨rfl, rfl, rfl, by decide +kernel, rfl, by decide +kernel, by decide +kernel⟩
theorem sc_mixed : FnScope ["state", "turn", "found", "prime", "blend", "cell"] ["state"] (defScope s_mixed) := ⟨rfl, rfl, rfl, by decide +kernel, rfl, by decide +kernel, by decide +kernel⟩
theorem sc_take : FnScope ["state", "size", "found"] ["state", "size"] (defScope s_take) := ⟨rfl, rfl, rfl, by decide +kernel, rfl, by decide +kernel, by decide +kernel⟩
theorem sc_pick : FnScope ["state", "some"] ["state", "some"] (defScope s_pick) := ⟨rfl, rfl, rfl, by decide +kernel, rfl, by decide +kernel, by decide +kernel⟩
theorem sc_sizes : FnScope ["state", "most", "found", "turn", "place"] ["state", "most"] (defScope s_sizes) := ⟨rfl, rfl, rfl, by decide +kernel, rfl, by decide +kernel, by decide +kernel⟩
theorem sc_boxes : FnScope ["state", "sizes", "most", "place", "found", "spare", "turn", "step", "amount"] ["state", "sizes", "most"] (defScope s_boxes) := ⟨rfl, rfl, rfl, by decide +kernel, rfl, by decide +kernel, by decide +kernel⟩
theorem sc_near : FnScope ["boxes", "first", "place"] ["boxes"] (defScope s_near) := ⟨rfl, rfl, rfl, by decide +kernel, rfl, by decide +kernel, by decide +kernel⟩
theorem sc_made : FnScope ["boxes", "sizes"] ["boxes", "sizes"] (defScope s_made) := ⟨rfl, rfl, rfl, by decide +kernel, rfl, by decide +kernel, by decide +kernel⟩
theorem sc_is : FnScope ["made", "boxes", "sizes", "place"] ["made", "boxes", "sizes"] (defScope s_is) := ⟨rfl, rfl, rfl, by decide +kernel, rfl, by decide +kernel, by decide +kernel⟩
theorem sc_lcut : FnScope ["places", "word", "found", "offsets", "first", "place", "at", "gone"] ["places"] (defScope s_lcut) := ⟨rfl, rfl, rfl, by decide +kernel, rfl, by decide +kernel, by decide +kernel⟩
theorem sc_moved : FnScope ["boxes", "far", "place"] ["boxes", "far"] (defScope s_moved) := ⟨rfl, rfl, rfl, by decide +kernel, rfl, by decide +kernel, by decide +kernel⟩
theorem sc_ones : FnScope ["places", "place"] ["places"] (defScope s_ones) := ⟨rfl, rfl, rfl, by decide +kernel, rfl, by decide +kernel, by decide +kernel⟩
theorem sc_is_refused : FnScope ["made", "caught", "error"] ["made"] (defScope s_is_refused) := ⟨rfl, rfl, rfl, by decide +kernel, rfl, by decide +kernel, by decide +kernel⟩
theorem sc_crowd : FnScope ["state", "place", "found", "turn"] ["state"] (defScope s_crowd) := ⟨rfl, rfl, rfl, by decide +kernel, rfl, by decide +kernel, by decide +kernel⟩
theorem sc_law : FnScope ["script", "state", "turn", "boxes", "far", "places", "offsets", "made", "told", "due", "sizes", "offset"] ["script"] (defScope s_law) := ⟨rfl, rfl, rfl, by decide +kernel, rfl, by decide +kernel, by decide +kernel⟩
structure Tx (K : PySem.W.Frag) (mg : Str → Option Value) (c_Row : Addr) (c_BadRow : Addr) (c_ScoopError : Addr) : Prop where
  n_isinstance : mg "isinstance" = none
  n_int : mg "int" = none
  n_bool : mg "bool" = none
  n_list : mg "list" = none
  n_tuple : mg "tuple" = none
  n_all : mg "all" = none
  n_len : mg "len" = none
  n_dict : mg "dict" = none
  n_sum : mg "sum" = none
  n_sorted : mg "sorted" = none
  n_range : mg "range" = none
  n_min : mg "min" = none
  n_max : mg "max" = none
  n_repr : mg "repr" = none
  n_super : mg "super" = none
  c_FIRST_WIDE_INDEX : ∃ u, mg "FIRST_WIDE_INDEX" = some u ∧ RelV (.int (-60)) u
  c_LAST_WIDE_INDEX : ∃ u, mg "LAST_WIDE_INDEX" = some u ∧ RelV (.int (60)) u
  c_LEAST_WIDE_CAPACITY : ∃ u, mg "LEAST_WIDE_CAPACITY" = some u ∧ RelV (.int (2)) u
  c_GREATEST_WIDE_CAPACITY : ∃ u, mg "GREATEST_WIDE_CAPACITY" = some u ∧ RelV (.int (9)) u
  c_MOST_WIDE_BOXES : ∃ u, mg "MOST_WIDE_BOXES" = some u ∧ RelV (.int (6)) u
  c_MOST_ITEMS : ∃ u, mg "MOST_ITEMS" = some u ∧ RelV (.int (40)) u
  g_Row : mg "Row" = some (.ref c_Row)
  g_BadRow : mg "BadRow" = some (.ref c_BadRow)
  g_ScoopError : mg "ScoopError" = some (.ref c_ScoopError)
section
variable {P : Program} {w : World} {K : PySem.W.Frag} {mg : Str → Option Value} {base : Heap} {c_Row : Addr} {c_BadRow : Addr} {c_ScoopError : Addr}
theorem dfn_is_integer (T : Tx K mg c_Row c_BadRow c_ScoopError) {f : Addr} {fd : FuncData} (F : FunD K "is_integer" "is_integer" (defArgs s_is_integer) (defBody s_is_integer) (defScope s_is_integer) [] [] f fd) :
    FnOk P w K mg base CX0 1 f fd ["value"] (spIsInt K) := by
  have D : ∀ (cdv : Value) (A : Around) (outer : List Env) (s : Shared) (H : Hp) (vs : List V) (Q : VK) (E : XK), Room 0 (A.deeper (envOfC "is_integer" (defScope s_is_integer) s.heap.objs.size f cdv)) → (spIsInt K) vs H Q E →
      ∃ t, PSs (cxOf CX0 P w K mg base ["value"] "is_integer" (defScope s_is_integer) f cdv A outer s H E) (defBody s_is_integer) t ∧ t { nx := fun _ H' => Q .non H', rt := Q } (start ["value"] vs) H := by
    intro cdv A outer s H vs Q E hr h
    refine ⟨t_is_integer K, PSs.nox ?_, pure_is_integer vs H Q E h⟩
    exact pss_one (ps_ret (pe_and (pe_callB call_isi (by rfl) T.n_isinstance PyProof.Rows.boot_isinstance (pa_cons (pv 0) (pa_cons (pe_bltn (v := .ty "int") (by rfl) T.n_int (by decide +kernel) rfl) pa_nil))) (pe_one (pe_not (pe_callB call_isi (by rfl) T.n_isinstance PyProof.Rows.boot_isinstance (pa_cons (pv 0) (pa_cons (pe_bltn (v := .ty "bool") (by rfl) T.n_bool (by decide +kernel) rfl) pa_nil)))))))
  exact F.ok sc_is_integer (fun vs H Q E h => by
    repeat (first | (obtain ⟨rfl, _⟩ := h; rfl) | obtain ⟨_, h⟩ := h)) D
theorem dfn_is_between (T : Tx K mg c_Row c_BadRow c_ScoopError) (C_is_integer : Kn P w K mg base CX0 1 "is_integer" ["value"] (spIsInt K)) {f : Addr} {fd : FuncData} (F : FunD K "is_between" "is_between" (defArgs s_is_between) (defBody s_is_between) (defScope s_is_between) [] [] f fd) :
    FnOk P w K mg base CX0 2 f fd ["value", "low", "high"] (spBetween K) := by
  have D : ∀ (cdv : Value) (A : Around) (outer : List Env) (s : Shared) (H : Hp) (vs : List V) (Q : VK) (E : XK), Room 1 (A.deeper (envOfC "is_between" (defScope s_is_between) s.heap.objs.size f cdv)) → (spBetween K) vs H Q E →
      ∃ t, PSs (cxOf CX0 P w K mg base ["value", "low", "high"] "is_between" (defScope s_is_between) f cdv A outer s H E) (defBody s_is_between) t ∧ t { nx := fun _ H' => Q .non H', rt := Q } (start ["value", "low", "high"] vs) H := by
    intro cdv A outer s H vs Q E hr h
    refine ⟨t_is_between K, PSs.nox ?_, pure_is_between vs H Q E h⟩
    exact pss_one (ps_ret (pe_and (pe_k C_is_integer hr (by decide) rfl pass0 (pa_cons (pv 0) (pa_nil))) (pe_one (pe_chain op_le op_le (pv 1) (pv 0) (pv 2)))))
  exact F.ok sc_is_between (fun vs H Q E h => by
    repeat (first | (obtain ⟨rfl, _⟩ := h; rfl) | obtain ⟨_, h⟩ := h)) D
theorem dfn_is_pair (T : Tx K mg c_Row c_BadRow c_ScoopError) (C_is_integer : Kn P w K mg base CX0 1 "is_integer" ["value"] (spIsInt K)) {f : Addr} {fd : FuncData} (F : FunD K "is_pair" "is_pair" (defArgs s_is_pair) (defBody s_is_pair) (defScope s_is_pair) [] [] f fd) :
    FnOk P w K mg base CX0 2 f fd ["value"] (spIsPair K) := by
  have D : ∀ (cdv : Value) (A : Around) (outer : List Env) (s : Shared) (H : Hp) (vs : List V) (Q : VK) (E : XK), Room 1 (A.deeper (envOfC "is_pair" (defScope s_is_pair) s.heap.objs.size f cdv)) → (spIsPair K) vs H Q E →
      ∃ t, PSs (cxOf CX0 P w K mg base ["value"] "is_pair" (defScope s_is_pair) f cdv A outer s H E) (defBody s_is_pair) t ∧ t { nx := fun _ H' => Q .non H', rt := Q } (start ["value"] vs) H := by
    intro cdv A outer s H vs Q E hr h
    refine ⟨t_is_pair K, PSs.nox ?_, pure_is_pair vs H Q E h⟩
    exact pss_cons (ps_if (PW.pt (pw_or (pt_not (pt_val (pe_callB call_isi (by rfl) T.n_isinstance PyProof.Rows.boot_isinstance (pa_cons (pv 0) (pa_cons (pe_bltn (v := .ty "tuple") (by rfl) T.n_tuple (by decide +kernel) rfl) pa_nil))))) (pw_or1 (pt_cmpR op_ne (pe_callB call_len_seq (by rfl) T.n_len PySem.boot_len (pa_cons (pv 0) (pa_nil))) (pe_int) (nomark _)))))
      (pss_one (ps_ret (pe_bl)))
      (pss_nil))
      (pss_one (ps_ret (pe_and (pe_k C_is_integer hr (by decide) rfl pass0 (pa_cons (pe_ix ix_tup (pv 0) (pe_int) (fun _ _ => rfl)) (pa_nil))) (pe_one (pe_k C_is_integer hr (by decide) rfl pass0 (pa_cons (pe_ix ix_tup (pv 0) (pe_int) (fun _ _ => rfl)) (pa_nil)))))))
  exact F.ok sc_is_pair (fun vs H Q E h => by
    repeat (first | (obtain ⟨rfl, _⟩ := h; rfl) | obtain ⟨_, h⟩ := h)) D
theorem dfn_are_pairs (T : Tx K mg c_Row c_BadRow c_ScoopError) (C_is_pair : Kn P w K mg base CX0 2 "is_pair" ["value"] (spIsPair K)) {f : Addr} {fd : FuncData} (F : FunD K "are_pairs" "are_pairs" (defArgs s_are_pairs) (defBody s_are_pairs) (defScope s_are_pairs) [] [] f fd) :
    FnOk P w K mg base CX0 3 f fd ["value"] (spArePairs K) := by
  have D : ∀ (cdv : Value) (A : Around) (outer : List Env) (s : Shared) (H : Hp) (vs : List V) (Q : VK) (E : XK), Room 2 (A.deeper (envOfC "are_pairs" (defScope s_are_pairs) s.heap.objs.size f cdv)) → (spArePairs K) vs H Q E →
      ∃ t, PSs (cxOf CX0 P w K mg base ["value", "part", "first", "_"] "are_pairs" (defScope s_are_pairs) f cdv A outer s H E) (defBody s_are_pairs) t ∧ t { nx := fun _ H' => Q .non H', rt := Q } (start ["value", "part", "first", "_"] vs) H := by
    intro cdv A outer s H vs Q E hr h
    refine ⟨t_are_pairs w K, PSs.nox ?_, pure_are_pairs vs H Q E h⟩
    exact pss_cons (ps_if (pt_not (pt_val (pe_callB call_isiT (by rfl) T.n_isinstance PyProof.Rows.boot_isinstance (pa_cons (pv 0) (pa_cons (pe_tup (pa_cons (pe_bltn (v := .ty "list") (by rfl) T.n_list (by decide +kernel) rfl) (pa_cons (pe_bltn (v := .ty "tuple") (by rfl) T.n_tuple (by decide +kernel) rfl) (pa_nil)))) pa_nil)))))
      (pss_one (ps_ret (pe_bl)))
      (pss_nil))
      (pss_cons (ps_if (pt_not (pt_val (pe_callB (cr_all rfl) (by rfl) T.n_all (by decide +kernel) (pa_cons (pe_lc (own := [("part", 1)]) (g := gName 1) (tt := tYes) rfl sc_are_pairs.nd (pi_or (pi_list (pv 0)) (pi_tup (pv 0))) (blkOk_by (own := [("part", 1)]) (N := ["value", "part", "first", "_"]) (sc := defScope s_are_pairs) (by decide +kernel)) (fun _ _ _ _ _ => pg_name (i := 1) sc_are_pairs.nd rfl (Or.inl rfl)) (fun _ _ _ _ _ => pts_nil) (fun _ _ _ _ _ => pe_k C_is_pair hr (by decide) rfl pass0 (pa_cons (pv 1) (pa_nil)))) (pa_nil)))))
      (pss_one (ps_ret (pe_bl)))
      (pss_nil))
      (pss_one (ps_ret (pe_cmpR op_eq (pe_callB cr_lenSet (by rfl) T.n_len PySem.boot_len (pa_cons (pe_scN (own := [("first", 2), ("_", 3)]) (g := gTup K 2 (gCons (gName 2) (gCons (gName 3) (gNil)))) (tt := tYes) rfl sc_are_pairs.nd (pi_or (pi_list (pv 0)) (pi_tup (pv 0))) (blkOk_by (own := [("first", 2), ("_", 3)]) (N := ["value", "part", "first", "_"]) (sc := defScope s_are_pairs) (by decide +kernel)) (fun _ _ _ _ _ => pg_tup rfl (pgs_cons (pg_name (i := 2) sc_are_pairs.nd rfl (Or.inl rfl)) (pgs_cons (pg_name (i := 3) sc_are_pairs.nd rfl (Or.inl rfl)) (pgs_nil)))) (fun _ _ _ _ _ => pts_nil) (fun _ _ _ _ _ => pv 2)) (pa_nil))) (pe_callB call_len_seq (by rfl) T.n_len PySem.boot_len (pa_cons (pv 0) (pa_nil))) (nomark _)))))
  exact F.ok sc_are_pairs (fun vs H Q E h => by
    repeat (first | (obtain ⟨rfl, _⟩ := h; rfl) | obtain ⟨_, h⟩ := h)) D
theorem dfn_is_wide_box (T : Tx K mg c_Row c_BadRow c_ScoopError) (C_is_between : Kn P w K mg base CX0 2 "is_between" ["value", "low", "high"] (spBetween K)) {f : Addr} {fd : FuncData} (F : FunD K "_is_wide_box" "_is_wide_box" (defArgs s_is_wide_box) (defBody s_is_wide_box) (defScope s_is_wide_box) [] [] f fd) :
    FnOk P w K mg base CX0 3 f fd ["index", "capacity"] (spWideBox K) := by
  have D : ∀ (cdv : Value) (A : Around) (outer : List Env) (s : Shared) (H : Hp) (vs : List V) (Q : VK) (E : XK), Room 2 (A.deeper (envOfC "_is_wide_box" (defScope s_is_wide_box) s.heap.objs.size f cdv)) → (spWideBox K) vs H Q E →
      ∃ t, PSs (cxOf CX0 P w K mg base ["index", "capacity"] "_is_wide_box" (defScope s_is_wide_box) f cdv A outer s H E) (defBody s_is_wide_box) t ∧ t { nx := fun _ H' => Q .non H', rt := Q } (start ["index", "capacity"] vs) H := by
    intro cdv A outer s H vs Q E hr h
    refine ⟨t_is_wide_box K, PSs.nox ?_, pure_wide_box vs H Q E h⟩
    exact pss_cons (ps_if (pt_not (pt_val (pe_k C_is_between hr (by decide) rfl pass0 (pa_cons (pv 0) (pa_cons (pe_gl (by rfl) T.c_FIRST_WIDE_INDEX) (pa_cons (pe_gl (by rfl) T.c_LAST_WIDE_INDEX) (pa_nil)))))))
      (pss_one (ps_ret (pe_bl)))
      (pss_nil))
      (pss_one (ps_ret (pe_k C_is_between hr (by decide) rfl pass0 (pa_cons (pv 1) (pa_cons (pe_gl (by rfl) T.c_LEAST_WIDE_CAPACITY) (pa_cons (pe_gl (by rfl) T.c_GREATEST_WIDE_CAPACITY) (pa_nil)))))))
  exact F.ok sc_is_wide_box (fun vs H Q E h => by
    repeat (first | (obtain ⟨rfl, _⟩ := h; rfl) | obtain ⟨_, h⟩ := h)) D
theorem dfn_are_capacities (T : Tx K mg c_Row c_BadRow c_ScoopError) (C_are_pairs : Kn P w K mg base CX0 3 "are_pairs" ["value"] (spArePairs K)) (C_is_wide_box : Kn P w K mg base CX0 3 "_is_wide_box" ["index", "capacity"] (spWideBox K)) {f : Addr} {fd : FuncData} (F : FunD K "_are_capacities" "_are_capacities" (defArgs s_are_capacities) (defBody s_are_capacities) (defScope s_are_capacities) [] [] f fd) :
    FnOk P w K mg base CX0 4 f fd ["value"] (spAreCapacities K) := by
  have D : ∀ (cdv : Value) (A : Around) (outer : List Env) (s : Shared) (H : Hp) (vs : List V) (Q : VK) (E : XK), Room 3 (A.deeper (envOfC "_are_capacities" (defScope s_are_capacities) s.heap.objs.size f cdv)) → (spAreCapacities K) vs H Q E →
      ∃ t, PSs (cxOf CX0 P w K mg base ["value", "index", "capacity"] "_are_capacities" (defScope s_are_capacities) f cdv A outer s H E) (defBody s_are_capacities) t ∧ t { nx := fun _ H' => Q .non H', rt := Q } (start ["value", "index", "capacity"] vs) H := by
    intro cdv A outer s H vs Q E hr h
    refine ⟨t_are_capacities K, PSs.nox ?_, pure_are_capacities vs H Q E h⟩
    exact pss_cons (ps_if (PW.pt (pw_or (pt_not (pt_val (pe_k C_are_pairs hr (by decide) rfl pass0 (pa_cons (pv 0) (pa_nil))))) (pw_or1 (pt_cmpR op_gt (pe_callB call_len_seq (by rfl) T.n_len PySem.boot_len (pa_cons (pv 0) (pa_nil))) (pe_gl (by rfl) T.c_MOST_WIDE_BOXES) (nomark _)))))
      (pss_one (ps_ret (pe_bl)))
      (pss_nil))
      (pss_one (ps_ret (pe_callB (cr_all rfl) (by rfl) T.n_all (by decide +kernel) (pa_cons (pe_lc (own := [("index", 1), ("capacity", 2)]) (g := gTup K 2 (gCons (gName 1) (gCons (gName 2) (gNil)))) (tt := tYes) rfl sc_are_capacities.nd (pi_or (pi_list (pv 0)) (pi_tup (pv 0))) (blkOk_by (own := [("index", 1), ("capacity", 2)]) (N := ["value", "index", "capacity"]) (sc := defScope s_are_capacities) (by decide +kernel)) (fun _ _ _ _ _ => pg_tup rfl (pgs_cons (pg_name (i := 1) sc_are_capacities.nd rfl (Or.inl rfl)) (pgs_cons (pg_name (i := 2) sc_are_capacities.nd rfl (Or.inl rfl)) (pgs_nil)))) (fun _ _ _ _ _ => pts_nil) (fun _ _ _ _ _ => pe_k C_is_wide_box hr (by decide) rfl pass0 (pa_cons (pv 1) (pa_cons (pv 2) (pa_nil))))) (pa_nil)))))
  exact F.ok sc_are_capacities (fun vs H Q E h => by
    repeat (first | (obtain ⟨rfl, _⟩ := h; rfl) | obtain ⟨_, h⟩ := h)) D
theorem dfn_are_contents (T : Tx K mg c_Row c_BadRow c_ScoopError) (C_are_pairs : Kn P w K mg base CX0 3 "are_pairs" ["value"] (spArePairs K)) {f : Addr} {fd : FuncData} (F : FunD K "_are_contents" "_are_contents" (defArgs s_are_contents) (defBody s_are_contents) (defScope s_are_contents) [] [] f fd) :
    FnOk P w K mg base CX0 4 f fd ["value", "capacities"] (spAreContents K) := by
  have D : ∀ (cdv : Value) (A : Around) (outer : List Env) (s : Shared) (H : Hp) (vs : List V) (Q : VK) (E : XK), Room 3 (A.deeper (envOfC "_are_contents" (defScope s_are_contents) s.heap.objs.size f cdv)) → (spAreContents K) vs H Q E →
      ∃ t, PSs (cxOf CX0 P w K mg base ["value", "capacities", "wide", "index", "count", "_"] "_are_contents" (defScope s_are_contents) f cdv A outer s H E) (defBody s_are_contents) t ∧ t { nx := fun _ H' => Q .non H', rt := Q } (start ["value", "capacities", "wide", "index", "count", "_"] vs) H := by
    intro cdv A outer s H vs Q E hr h
    refine ⟨t_are_contents K, PSs.nox ?_, pure_are_contents vs H Q E h⟩
    exact pss_cons (ps_if (pt_not (pt_val (pe_k C_are_pairs hr (by decide) rfl pass0 (pa_cons (pv 0) (pa_nil)))))
      (pss_one (ps_ret (pe_bl)))
      (pss_nil))
      (pss_cons (ps_set (i := 2) sc_are_contents.nd rfl (Or.inr rfl) (pe_callTy (cr_or (call_dictP rfl) (cr_dictPT rfl)) (by rfl) T.n_dict (by decide +kernel) (pa_cons (pv 1) (pa_nil))))
      (pss_cons (ps_if (pt_not (pt_val (pe_callB (cr_all rfl) (by rfl) T.n_all (by decide +kernel) (pa_cons (pe_lc (own := [("index", 3), ("count", 4)]) (g := gTup K 2 (gCons (gName 3) (gCons (gName 4) (gNil)))) (tt := tYes) rfl sc_are_contents.nd (pi_or (pi_list (pv 0)) (pi_tup (pv 0))) (blkOk_by (own := [("index", 3), ("count", 4)]) (N := ["value", "capacities", "wide", "index", "count", "_"]) (sc := defScope s_are_contents) (by decide +kernel)) (fun _ _ _ _ _ => pg_tup rfl (pgs_cons (pg_name (i := 3) sc_are_contents.nd rfl (Or.inl rfl)) (pgs_cons (pg_name (i := 4) sc_are_contents.nd rfl (Or.inl rfl)) (pgs_nil)))) (fun _ _ _ _ _ => pts_nil) (fun _ _ _ _ _ => pe_chain op_le op_le (pe_int) (pv 4) (pe_dget2 (hu_of hr) (pv 2) (pv 3) (pe_int) ⟨rfl, rfl, rfl, rfl⟩))) (pa_nil)))))
      (pss_one (ps_ret (pe_bl)))
      (pss_nil))
      (pss_one (ps_ret (pe_cmpR op_le (pe_callB (cr_sum rfl) (by rfl) T.n_sum (by decide +kernel) (pa_cons (pe_lc (own := [("count", 4), ("_", 5)]) (g := gTup K 2 (gCons (gName 5) (gCons (gName 4) (gNil)))) (tt := tYes) rfl sc_are_contents.nd (pi_or (pi_list (pv 0)) (pi_tup (pv 0))) (blkOk_by (own := [("count", 4), ("_", 5)]) (N := ["value", "capacities", "wide", "index", "count", "_"]) (sc := defScope s_are_contents) (by decide +kernel)) (fun _ _ _ _ _ => pg_tup rfl (pgs_cons (pg_name (i := 5) sc_are_contents.nd rfl (Or.inl rfl)) (pgs_cons (pg_name (i := 4) sc_are_contents.nd rfl (Or.inl rfl)) (pgs_nil)))) (fun _ _ _ _ _ => pts_nil) (fun _ _ _ _ _ => pv 4)) (pa_nil))) (pe_gl (by rfl) T.c_MOST_ITEMS) (nomark _))))))
  exact F.ok sc_are_contents (fun vs H Q E h => by
    repeat (first | (obtain ⟨rfl, _⟩ := h; rfl) | obtain ⟨_, h⟩ := h)) D
theorem dfn_Row_init (T : Tx K mg c_Row c_BadRow c_ScoopError) (C_are_capacities : Kn P w K mg base CX0 4 "_are_capacities" ["value"] (spAreCapacities K)) (C_are_contents : Kn P w K mg base CX0 4 "_are_contents" ["value", "capacities"] (spAreContents K)) (R_Row : RowC K c_Row) {f : Addr} {fd : FuncData} {dv : List V} (F : FunD K "__init__" "Row.__init__" (defArgs s_Row_init) (defBody s_Row_init) (defScope s_Row_init) dv [] f fd) :
    FnOk P w K mg base CX0 5 f fd ["self", "contents", "capacities"] (spRowInit K c_Row) := by
  have D : ∀ (cdv : Value) (A : Around) (outer : List Env) (s : Shared) (H : Hp) (vs : List V) (Q : VK) (E : XK), Room 4 (A.deeper (envOfC "Row.__init__" (defScope s_Row_init) s.heap.objs.size f cdv)) → (spRowInit K c_Row) vs H Q E →
      ∃ t, PSs (cxOf CX0 P w K mg base ["self", "contents", "capacities"] "Row.__init__" (defScope s_Row_init) f cdv A outer s H E) (defBody s_Row_init) t ∧ t { nx := fun _ H' => Q .non H', rt := Q } (start ["self", "contents", "capacities"] vs) H := by
    intro cdv A outer s H vs Q E hr h
    refine ⟨t_Row_init K, PSs.nox ?_, pure_row_init R_Row vs H Q E h⟩
    exact pss_cons (ps_if (pt_not (pt_val (pe_k C_are_capacities hr (by decide) rfl pass0 (pa_cons (pv 2) (pa_nil)))))
      (pss_one (ps_no))
      (pss_nil))
      (pss_cons (ps_if (pt_not (pt_val (pe_k C_are_contents hr (by decide) rfl pass0 (pa_cons (pv 1) (pa_cons (pv 2) (pa_nil))))))
      (pss_one (ps_no))
      (pss_nil))
      (pss_cons (ps_fld (pv 0) (pe_callTy cr_tupB (by rfl) T.n_tuple (by decide +kernel) (pa_cons (pe_callB (cr_or cr_sortedPO cr_sortedPT) (by rfl) T.n_sorted (by decide +kernel) (pa_cons (pv 1) (pa_nil))) (pa_nil))) rfl)
      (pss_cons (ps_fld (pv 0) (pe_callTy cr_tupB (by rfl) T.n_tuple (by decide +kernel) (pa_cons (pe_callB (cr_or cr_sortedPO cr_sortedPT) (by rfl) T.n_sorted (by decide +kernel) (pa_cons (pv 2) (pa_nil))) (pa_nil))) rfl)
      (pss_cons (ps_fld (pv 0) (pe_callTy (cr_or (call_dictP rfl) (cr_dictPT rfl)) (by rfl) T.n_dict (by decide +kernel) (pa_cons (pv 1) (pa_nil))) rfl)
      (pss_one (ps_fld (pv 0) (pe_callTy (cr_or (call_dictP rfl) (cr_dictPT rfl)) (by rfl) T.n_dict (by decide +kernel) (pa_cons (pv 2) (pa_nil))) rfl))))))
  exact F.ok sc_Row_init (fun vs H Q E h => by
    repeat (first | (obtain ⟨rfl, _⟩ := h; rfl) | obtain ⟨_, h⟩ := h)) D
theorem dfn_Row_contents (T : Tx K mg c_Row c_BadRow c_ScoopError) (R_Row : RowC K c_Row) {f : Addr} {fd : FuncData} {dv : List V} (F : FunD K "contents" "Row.contents" (defArgs s_Row_contents) (defBody s_Row_contents) (defScope s_Row_contents) dv [] f fd) :
    FnOk P w K mg base CX0 1 f fd ["self"] (spContents K c_Row) := by
  have D : ∀ (cdv : Value) (A : Around) (outer : List Env) (s : Shared) (H : Hp) (vs : List V) (Q : VK) (E : XK), Room 0 (A.deeper (envOfC "Row.contents" (defScope s_Row_contents) s.heap.objs.size f cdv)) → (spContents K c_Row) vs H Q E →
      ∃ t, PSs (cxOf CX0 P w K mg base ["self"] "Row.contents" (defScope s_Row_contents) f cdv A outer s H E) (defBody s_Row_contents) t ∧ t { nx := fun _ H' => Q .non H', rt := Q } (start ["self"] vs) H := by
    intro cdv A outer s H vs Q E hr h
    refine ⟨t_Row_contents K, PSs.nox ?_, pure_contents R_Row vs H Q E h⟩
    exact pss_one (ps_ret (pe_fld (pv 0) rfl))
  exact F.ok sc_Row_contents (fun vs H Q E h => by
    repeat (first | (obtain ⟨rfl, _⟩ := h; rfl) | obtain ⟨_, h⟩ := h)) D
theorem dfn_Row_capacities (T : Tx K mg c_Row c_BadRow c_ScoopError) (R_Row : RowC K c_Row) {f : Addr} {fd : FuncData} {dv : List V} (F : FunD K "capacities" "Row.capacities" (defArgs s_Row_capacities) (defBody s_Row_capacities) (defScope s_Row_capacities) dv [] f fd) :
    FnOk P w K mg base CX0 1 f fd ["self"] (spCapacities K c_Row) := by
  have D : ∀ (cdv : Value) (A : Around) (outer : List Env) (s : Shared) (H : Hp) (vs : List V) (Q : VK) (E : XK), Room 0 (A.deeper (envOfC "Row.capacities" (defScope s_Row_capacities) s.heap.objs.size f cdv)) → (spCapacities K c_Row) vs H Q E →
      ∃ t, PSs (cxOf CX0 P w K mg base ["self"] "Row.capacities" (defScope s_Row_capacities) f cdv A outer s H E) (defBody s_Row_capacities) t ∧ t { nx := fun _ H' => Q .non H', rt := Q } (start ["self"] vs) H := by
    intro cdv A outer s H vs Q E hr h
    refine ⟨t_Row_capacities K, PSs.nox ?_, pure_capacities R_Row vs H Q E h⟩
    exact pss_one (ps_ret (pe_fld (pv 0) rfl))
  exact F.ok sc_Row_capacities (fun vs H Q E h => by
    repeat (first | (obtain ⟨rfl, _⟩ := h; rfl) | obtain ⟨_, h⟩ := h)) D
theorem dfn_Row_is_plain (T : Tx K mg c_Row c_BadRow c_ScoopError) (R_Row : RowC K c_Row) {f : Addr} {fd : FuncData} {dv : List V} (F : FunD K "is_plain" "Row.is_plain" (defArgs s_Row_is_plain) (defBody s_Row_is_plain) (defScope s_Row_is_plain) dv [] f fd) :
    FnOk P w K mg base CX0 1 f fd ["self"] (spIsPlain K c_Row) := by
  have D : ∀ (cdv : Value) (A : Around) (outer : List Env) (s : Shared) (H : Hp) (vs : List V) (Q : VK) (E : XK), Room 0 (A.deeper (envOfC "Row.is_plain" (defScope s_Row_is_plain) s.heap.objs.size f cdv)) → (spIsPlain K c_Row) vs H Q E →
      ∃ t, PSs (cxOf CX0 P w K mg base ["self"] "Row.is_plain" (defScope s_Row_is_plain) f cdv A outer s H E) (defBody s_Row_is_plain) t ∧ t { nx := fun _ H' => Q .non H', rt := Q } (start ["self"] vs) H := by
    intro cdv A outer s H vs Q E hr h
    refine ⟨t_Row_is_plain K, PSs.nox ?_, pure_is_plain R_Row vs H Q E h⟩
    exact pss_one (ps_ret (pe_notT (pe_fld (pv 0) rfl)))
  exact F.ok sc_Row_is_plain (fun vs H Q E h => by
    repeat (first | (obtain ⟨rfl, _⟩ := h; rfl) | obtain ⟨_, h⟩ := h)) D
theorem dfn_is_plain_row (T : Tx K mg c_Row c_BadRow c_ScoopError) (C_is_plain : C8.Met P w K mg base 1 c_Row "is_plain" (spIsPlain K c_Row) []) (R_Row : RowC K c_Row) (Z_Row : RowK K c_Row) {f : Addr} {fd : FuncData} (F : FunD K "is_plain_row" "is_plain_row" (defArgs s_is_plain_row) (defBody s_is_plain_row) (defScope s_is_plain_row) [] [] f fd) :
    FnOk P w K mg base CX0 2 f fd ["value"] (spPlainRow K c_Row) := by
  have D : ∀ (cdv : Value) (A : Around) (outer : List Env) (s : Shared) (H : Hp) (vs : List V) (Q : VK) (E : XK), Room 1 (A.deeper (envOfC "is_plain_row" (defScope s_is_plain_row) s.heap.objs.size f cdv)) → (spPlainRow K c_Row) vs H Q E →
      ∃ t, PSs (cxOf CX0 P w K mg base ["value"] "is_plain_row" (defScope s_is_plain_row) f cdv A outer s H E) (defBody s_is_plain_row) t ∧ t { nx := fun _ H' => Q .non H', rt := Q } (start ["value"] vs) H := by
    intro cdv A outer s H vs Q E hr h
    refine ⟨t_is_plain_row K c_Row, PSs.nox ?_, pure_plain_row R_Row Z_Row vs H Q E h⟩
    exact pss_one (ps_ret (pe_and (pe_callB call_isi (by rfl) T.n_isinstance PyProof.Rows.boot_isinstance (pa_cons (pv 0) (pa_cons (pe_gl (by rfl) ⟨_, T.g_Row, rfl⟩) pa_nil))) (pe_one (C8.pe_mt0 C_is_plain hr (by decide) (pv 0)))))
  exact F.ok sc_is_plain_row (fun vs H Q E h => by
    repeat (first | (obtain ⟨rfl, _⟩ := h; rfl) | obtain ⟨_, h⟩ := h)) D
theorem dfn_runs_in (T : Tx K mg c_Row c_BadRow c_ScoopError) (C_contents : Prp P w K mg base 1 c_Row "contents" (spContents K c_Row)) {f : Addr} {fd : FuncData} (F : FunD K "runs_in" "runs_in" (defArgs s_runs_in) (defBody s_runs_in) (defScope s_runs_in) [] [] f fd) :
    FnOk P w K mg base CX0 3 f fd ["row"] (spRunsIn K c_Row) := by
  have D : ∀ (cdv : Value) (A : Around) (outer : List Env) (s : Shared) (H : Hp) (vs : List V) (Q : VK) (E : XK), Room 2 (A.deeper (envOfC "runs_in" (defScope s_runs_in) s.heap.objs.size f cdv)) → (spRunsIn K c_Row) vs H Q E →
      ∃ t, PSs (cxOf CX0 P w K mg base ["row", "found", "index", "_"] "runs_in" (defScope s_runs_in) f cdv A outer s H E) (defBody s_runs_in) t ∧ t { nx := fun _ H' => Q .non H', rt := Q } (start ["row", "found", "index", "_"] vs) H := by
    intro cdv A outer s H vs Q E hr h
    refine ⟨t_runs_in K c_Row, PSs.nox ?_, pure_runs_in vs H Q E h⟩
    exact pss_cons (ps_set (i := 1) sc_runs_in.nd rfl (Or.inl rfl) (pe_lst (pa_nil)))
      (pss_cons (ps_for PassesOwn.never rfl (pi_tup (pe_pr C_contents hr (by decide) (pv 0))) (pg_tup rfl (pgs_cons (pg_name (i := 2) sc_runs_in.nd rfl (Or.inl rfl)) (pgs_cons (pg_name (i := 3) sc_runs_in.nd rfl (Or.inl rfl)) (pgs_nil))))
      (pss_one (ps_if (PW.pt (pw_and (pt_truth (pv 1) (fun _ => rfl)) (pw_and1 (pt_cmpR op_eq (pe_callB (cr_sumT rfl) (by rfl) T.n_sum (by decide +kernel) (pa_cons (pe_ix ix_list (pv 1) (pe_un un_neg (pe_int)) (fun _ _ => rfl)) (pa_nil))) (pv 2) (nomark _)))))
      (pss_one (ps_asg (pe_tup (pa_cons (pe_ix ix_tup (pe_ix ix_list (pv 1) (pe_un un_neg (pe_int)) (fun _ _ => rfl)) (pe_int) (fun _ _ => rfl)) (pa_cons (pe_op op_add (pe_ix ix_tup (pe_ix ix_list (pv 1) (pe_un un_neg (pe_int)) (fun _ _ => rfl)) (pe_int) (fun _ _ => rfl)) (pe_int)) (pa_nil)))) (pg_sub (pv 1) (pe_un un_neg (pe_int)) set_list)))
      (pss_one (ps_expr (pe_bm PySem.F.plainAttrs_list PySem.F.slot_list_append PySem.F.type_list_append mt_append (pv 1) (pa_cons (pe_tup (pa_cons (pv 2) (pa_cons (pe_int) (pa_nil)))) (pa_nil))))))))
      (pss_one (ps_ret (pv 1))))
  exact F.ok sc_runs_in (fun vs H Q E h => by
    repeat (first | (obtain ⟨rfl, _⟩ := h; rfl) | obtain ⟨_, h⟩ := h)) D
theorem dfn_cut (T : Tx K mg c_Row c_BadRow c_ScoopError) (C_is_plain_row : Kn P w K mg base CX0 2 "is_plain_row" ["value"] (spPlainRow K c_Row)) (C_runs_in : Kn P w K mg base CX0 3 "runs_in" ["row"] (spRunsIn K c_Row)) {a0 : Addr} (C_Row1 : C8.Mak P w K mg base 5 "Row" c_Row (spRowInit K c_Row) [.ref a0]) (hE : BareK K a0 []) (M_BadRow : ErrM P w K mg base "BadRow" c_BadRow "field" "field") {f : Addr} {fd : FuncData} (F : FunD K "cut" "cut" (defArgs s_cut) (defBody s_cut) (defScope s_cut) [] [] f fd) :
    FnOk P w K mg base (L2.CX P w) 7 f fd ["row"] (spCut K c_Row c_BadRow) := by
  have D : ∀ (cdv : Value) (A : Around) (outer : List Env) (s : Shared) (H : Hp) (vs : List V) (Q : VK) (E : XK), Room 6 (A.deeper (envOfC "cut" (defScope s_cut) s.heap.objs.size f cdv)) → (spCut K c_Row c_BadRow) vs H Q E →
      ∃ t, PSs (cxOf (L2.CX P w) P w K mg base ["row", "kept", "offsets", "first", "length", "start", "place"] "cut" (defScope s_cut) f cdv A outer s H E) (defBody s_cut) t ∧ t { nx := fun _ H' => Q .non H', rt := Q } (start ["row", "kept", "offsets", "first", "length", "start", "place"] vs) H := by
    intro cdv A outer s H vs Q E hr h
    refine ⟨t_cut K a0 c_BadRow c_Row E, ?_, pure_cut hE vs H Q E h⟩
    exact pss_cons (ps_if (pt_not (pt_val (pe_k C_is_plain_row hr (by decide) rfl pass0 (pa_cons (pv 0) (pa_nil)))))
      (pss_one (ps_raise rfl (takes_of rfl rfl rfl rfl) (pmk_err M_BadRow hr (by decide) (by rfl))))
      (pss_nil))
      (pss_cons (ps_set (i := 1) sc_cut.nd rfl (Or.inl rfl) (pe_lst (pa_nil)))
      (pss_cons (ps_set (i := 2) sc_cut.nd rfl (Or.inl rfl) (pe_lst (pa_nil)))
      (pss_cons (ps_for (passes_of rfl) rfl (pi_list (pe_k C_runs_in hr (by decide) rfl pass0 (pa_cons (pv 0) (pa_nil)))) (pg_tup rfl (pgs_cons (pg_name (i := 3) sc_cut.nd rfl (Or.inl rfl)) (pgs_cons (pg_name (i := 4) sc_cut.nd rfl (Or.inl rfl)) (pgs_nil))))
      (pss_cons (ps_set (i := 5) sc_cut.nd rfl (Or.inr rfl) (pe_op op_sub (pv 3) (pe_op op_mul (pe_int) (pe_callB call_len_seq (by rfl) T.n_len PySem.boot_len (pa_cons (pv 2) (pa_nil))))))
      (pss_cons (ps_expr (pe_bm PySem.F.plainAttrs_list PySem.F.slot_list_extend PySem.F.type_list_extend mt_extend (pv 1) (pa_cons (pe_lc (own := [("place", 6)]) (g := gName 6) (tt := tYes) rfl sc_cut.nd (pi_range1 rfl T.n_range (pa_cons (pe_op op_sub (pv 4) (pe_int)) (pa_nil))) (blkOk_by (own := [("place", 6)]) (N := ["row", "kept", "offsets", "first", "length", "start", "place"]) (sc := defScope s_cut) (by decide +kernel)) (fun _ _ _ _ _ => pg_name (i := 6) sc_cut.nd rfl (Or.inl rfl)) (fun _ _ _ _ _ => pts_nil) (fun _ _ _ _ _ => pe_tup (pa_cons (pe_op op_add (pv 5) (pv 6)) (pa_cons (pe_int) (pa_nil))))) (pa_nil))))
      (pss_one (ps_expr (pe_bm PySem.F.plainAttrs_list PySem.F.slot_list_append PySem.F.type_list_append mt_append (pv 2) (pa_cons (pe_op op_sub (pe_op op_add (pv 5) (pv 4)) (pe_int)) (pa_nil))))))))
      (pss_one (ps_ret (pe_tup (pa_cons (C8.pe_mk C_Row1 hr (by decide) (by rfl) (pa_cons (pv 1) (pa_nil))) (pa_cons (pv 2) (pa_nil)))))))))
  exact F.ok sc_cut (fun vs H Q E h => by
    repeat (first | (obtain ⟨rfl, _⟩ := h; rfl) | obtain ⟨_, h⟩ := h)) D
theorem dfn_begun (T : Tx K mg c_Row c_BadRow c_ScoopError) {f : Addr} {fd : FuncData} (F : FunD K "_law_begun" "_law_begun" (defArgs s_begun) (defBody s_begun) (defScope s_begun) [] [] f fd) :
    FnOk P w K mg base CX0 1 f fd ["script"] (spBegun K) := by
  have D : ∀ (cdv : Value) (A : Around) (outer : List Env) (s : Shared) (H : Hp) (vs : List V) (Q : VK) (E : XK), Room 0 (A.deeper (envOfC "_law_begun" (defScope s_begun) s.heap.objs.size f cdv)) → (spBegun K) vs H Q E →
      ∃ t, PSs (cxOf CX0 P w K mg base ["script", "wide", "cell"] "_law_begun" (defScope s_begun) f cdv A outer s H E) (defBody s_begun) t ∧ t { nx := fun _ H' => Q .non H', rt := Q } (start ["script", "wide", "cell"] vs) H := by
    intro cdv A outer s H vs Q E hr h
    refine ⟨t_begun K, PSs.nox ?_, pure_begun vs H Q E h⟩
    exact pss_cons (ps_setLc (i := 1) (own := [("cell", 2)]) (g := gName 2) (tt := tTest (tOp qGe (tVar 2) (tOp qPow (tC (.int 10)) (tC (.int 18))))) rfl sc_begun.nd rfl rfl (sw_true rfl rfl rfl (by decide +kernel)) (pi_list (pv 0)) (blkOk_by (own := [("cell", 2)]) (N := ["script", "wide", "cell"]) (sc := defScope s_begun) (by decide +kernel)) (fun _ _ _ _ _ => pg_name (i := 2) sc_begun.nd rfl (Or.inl rfl)) (fun _ _ _ _ _ => pts_one (pt_cmpR op_ge (pv 2) (pe_op op_pow (pe_int) (pe_int)) (nomark _))) (fun _ _ _ _ _ => pe_op op_sub (pv 2) (pe_op op_pow (pe_int) (pe_int))))
      (pss_one (ps_ret (pe_disp (pps_cons (pe_str) (pv 1) (pps_cons (pe_str) (pe_callTy call_list_of (by rfl) T.n_list (by decide +kernel) (pa_cons (pv 0) (pa_nil))) (pps_cons (pe_str) (pe_int) (pps_cons (pe_str) (pe_int) (pps_nil))))) (by rfl) (by rfl) (fun z => by cases z) (by decide))))
  exact F.ok sc_begun (fun vs H Q E h => by
    repeat (first | (obtain ⟨rfl, _⟩ := h; rfl) | obtain ⟨_, h⟩ := h)) D
theorem dfn_mixed (T : Tx K mg c_Row c_BadRow c_ScoopError) {f : Addr} {fd : FuncData} (F : FunD K "_law_mixed" "_law_mixed" (defArgs s_mixed) (defBody s_mixed) (defScope s_mixed) [] [] f fd) :
    FnOk P w K mg base CX0 1 f fd ["state"] spMixed := by
  have D : ∀ (cdv : Value) (A : Around) (outer : List Env) (s : Shared) (H : Hp) (vs : List V) (Q : VK) (E : XK), Room 0 (A.deeper (envOfC "_law_mixed" (defScope s_mixed) s.heap.objs.size f cdv)) → spMixed vs H Q E →
      ∃ t, PSs (cxOf CX0 P w K mg base ["state", "turn", "found", "prime", "blend", "cell"] "_law_mixed" (defScope s_mixed) f cdv A outer s H E) (defBody s_mixed) t ∧ t { nx := fun _ H' => Q .non H', rt := Q } (start ["state", "turn", "found", "prime", "blend", "cell"] vs) H := by
    intro cdv A outer s H vs Q E hr h
    refine ⟨t_mixed K, PSs.nox ?_, pure_mixed vs H Q E h⟩
    exact pss_cons (ps_set (i := 1) sc_mixed.nd rfl (Or.inl rfl) (pe_op op_add (pe_dget (hu_of hr) (pv 0) (pe_str) (fun _ _ => rfl)) (pe_int)))
      (pss_cons (ps_dput (hu_of hr) (pv 0) (pe_str) (pv 1) rfl)
      (pss_cons (ps_set (i := 2) sc_mixed.nd rfl (Or.inl rfl) (pe_int))
      (pss_cons (ps_for PassesOwn.never rfl (pi_list (pe_lst (pa_cons (pe_int) (pa_cons (pe_int) (pa_cons (pe_int) (pa_cons (pe_int) (pa_cons (pe_int) (pa_cons (pe_int) (pa_nil))))))))) (pg_name (i := 3) sc_mixed.nd rfl (Or.inl rfl))
      (pss_cons (ps_set (i := 4) sc_mixed.nd rfl (Or.inl rfl) (pe_op op_add (pe_op op_mul (pe_int) (pv 1)) (pe_op op_fdivN (pv 3) (pe_int))))
      (pss_cons (ps_for PassesOwn.never rfl (pi_list (pe_dget (hu_of hr) (pv 0) (pe_str) (fun _ _ => rfl))) (pg_name (i := 5) sc_mixed.nd rfl (Or.inl rfl))
      (pss_one (ps_set (i := 4) sc_mixed.nd rfl (Or.inl rfl) (pe_op op_modN (pe_callTy call_int1 (by rfl) T.n_int (by decide +kernel) (pa_cons (pe_op op_add (pe_op op_mul (pv 4) (pe_int)) (pv 5)) (pa_nil))) (pv 3)))))
      (pss_one (ps_set (i := 2) sc_mixed.nd rfl (Or.inl rfl) (pe_op op_add (pe_op op_mul (pv 2) (pe_int)) (pe_op op_modN (pe_callTy call_int1 (by rfl) T.n_int (by decide +kernel) (pa_cons (pe_op op_pow (pv 4) (pe_int)) (pa_nil))) (pv 3))))))))
      (pss_one (ps_ret (pv 2))))))
  exact F.ok sc_mixed (fun vs H Q E h => by
    repeat (first | (obtain ⟨rfl, _⟩ := h; rfl) | obtain ⟨_, h⟩ := h)) D
theorem dfn_take (T : Tx K mg c_Row c_BadRow c_ScoopError) (C_mixed : Kn P w K mg base CX0 1 "_law_mixed" ["state"] spMixed) {f : Addr} {fd : FuncData} (F : FunD K "_law_take" "_law_take" (defArgs s_take) (defBody s_take) (defScope s_take) [] [] f fd) :
    FnOk P w K mg base CX0 2 f fd ["state", "size"] spTake := by
  have D : ∀ (cdv : Value) (A : Around) (outer : List Env) (s : Shared) (H : Hp) (vs : List V) (Q : VK) (E : XK), Room 1 (A.deeper (envOfC "_law_take" (defScope s_take) s.heap.objs.size f cdv)) → spTake vs H Q E →
      ∃ t, PSs (cxOf CX0 P w K mg base ["state", "size", "found"] "_law_take" (defScope s_take) f cdv A outer s H E) (defBody s_take) t ∧ t { nx := fun _ H' => Q .non H', rt := Q } (start ["state", "size", "found"] vs) H := by
    intro cdv A outer s H vs Q E hr h
    refine ⟨t_take K, PSs.nox ?_, pure_take vs H Q E h⟩
    exact pss_cons (ps_if (PW.pt (pw_and (pt_cmpR op_eq (pe_dget (hu_of hr) (pv 0) (pe_str) (fun _ _ => rfl)) (pe_int) (nomark _)) (pw_and1 (pt_cmpR (op_neD hr.units) (pe_dget (hu_of hr) (pv 0) (pe_str) (fun _ _ => rfl)) (pe_lst (pa_nil)) (nomark _)))))
      (pss_one (ps_dput (hu_of hr) (pv 0) (pe_str) (pe_bm PySem.F.plainAttrs_list PySem.F.slot_list_pop PySem.F.type_list_pop mt_popAt (pe_dget (hu_of hr) (pv 0) (pe_str) (fun _ _ => rfl)) (pa_cons (pe_int) (pa_nil))) rfl))
      (pss_one (ps_if (pt_cmpR op_eq (pe_dget (hu_of hr) (pv 0) (pe_str) (fun _ _ => rfl)) (pe_int) (nomark _))
      (pss_one (ps_dput (hu_of hr) (pv 0) (pe_str) (pe_k C_mixed hr (by decide) rfl pass0 (pa_cons (pv 0) (pa_nil))) rfl))
      (pss_nil))))
      (pss_cons (ps_set (i := 2) sc_take.nd rfl (Or.inl rfl) (pe_op op_modN (pe_callTy call_int1 (by rfl) T.n_int (by decide +kernel) (pa_cons (pe_dget (hu_of hr) (pv 0) (pe_str) (fun _ _ => rfl)) (pa_nil))) (pv 1)))
      (pss_cons (ps_dput (hu_of hr) (pv 0) (pe_str) (pe_op op_fdivN (pe_dget (hu_of hr) (pv 0) (pe_str) (fun _ _ => rfl)) (pv 1)) rfl)
      (pss_one (ps_ret (pv 2)))))
  exact F.ok sc_take (fun vs H Q E h => by
    repeat (first | (obtain ⟨rfl, _⟩ := h; rfl) | obtain ⟨_, h⟩ := h)) D
theorem dfn_pick (T : Tx K mg c_Row c_BadRow c_ScoopError) (C_take : Kn P w K mg base CX0 2 "_law_take" ["state", "size"] spTake) {f : Addr} {fd : FuncData} (F : FunD K "_law_pick" "_law_pick" (defArgs s_pick) (defBody s_pick) (defScope s_pick) [] [] f fd) :
    FnOk P w K mg base CX0 3 f fd ["state", "some"] (spPick K) := by
  have D : ∀ (cdv : Value) (A : Around) (outer : List Env) (s : Shared) (H : Hp) (vs : List V) (Q : VK) (E : XK), Room 2 (A.deeper (envOfC "_law_pick" (defScope s_pick) s.heap.objs.size f cdv)) → (spPick K) vs H Q E →
      ∃ t, PSs (cxOf CX0 P w K mg base ["state", "some"] "_law_pick" (defScope s_pick) f cdv A outer s H E) (defBody s_pick) t ∧ t { nx := fun _ H' => Q .non H', rt := Q } (start ["state", "some"] vs) H := by
    intro cdv A outer s H vs Q E hr h
    refine ⟨t_pick K, PSs.nox ?_, pure_pick vs H Q E h⟩
    exact pss_one (ps_ret (pe_ix ix_list (pv 1) (pe_k C_take hr (by decide) rfl pass0 (pa_cons (pv 0) (pa_cons (pe_callB call_len_seq (by rfl) T.n_len PySem.boot_len (pa_cons (pv 1) (pa_nil))) (pa_nil)))) (fun _ _ => rfl)))
  exact F.ok sc_pick (fun vs H Q E h => by
    repeat (first | (obtain ⟨rfl, _⟩ := h; rfl) | obtain ⟨_, h⟩ := h)) D
theorem dfn_sizes (T : Tx K mg c_Row c_BadRow c_ScoopError) (C_take : Kn P w K mg base CX0 2 "_law_take" ["state", "size"] spTake) (C_pick : Kn P w K mg base CX0 3 "_law_pick" ["state", "some"] (spPick K)) {f : Addr} {fd : FuncData} (F : FunD K "_law_sizes" "_law_sizes" (defArgs s_sizes) (defBody s_sizes) (defScope s_sizes) [] [] f fd) :
    FnOk P w K mg base CX0 4 f fd ["state", "most"] (spSizes K) := by
  have D : ∀ (cdv : Value) (A : Around) (outer : List Env) (s : Shared) (H : Hp) (vs : List V) (Q : VK) (E : XK), Room 3 (A.deeper (envOfC "_law_sizes" (defScope s_sizes) s.heap.objs.size f cdv)) → (spSizes K) vs H Q E →
      ∃ t, PSs (cxOf CX0 P w K mg base ["state", "most", "found", "turn", "place"] "_law_sizes" (defScope s_sizes) f cdv A outer s H E) (defBody s_sizes) t ∧ t { nx := fun _ H' => Q .non H', rt := Q } (start ["state", "most", "found", "turn", "place"] vs) H := by
    intro cdv A outer s H vs Q E hr h
    refine ⟨t_sizes K, PSs.nox ?_, pure_sizes vs H Q E h⟩
    exact pss_cons (ps_set (i := 2) sc_sizes.nd rfl (Or.inr rfl) (pe_dnewK))
      (pss_cons (ps_for PassesOwn.never rfl (pi_range1 rfl T.n_range (pa_cons (pe_k C_take hr (by decide) rfl pass0 (pa_cons (pv 0) (pa_cons (pe_op op_add (pv 1) (pe_int)) (pa_nil)))) (pa_nil))) (pg_name (i := 3) sc_sizes.nd rfl (Or.inl rfl))
      (pss_one (ps_dput (hu_of hr) (pv 2) (pe_k C_pick hr (by decide) rfl pass0 (pa_cons (pv 0) (pa_cons (pe_lst (pa_cons (pe_op op_sub (pe_k C_take hr (by decide) rfl pass0 (pa_cons (pv 0) (pa_cons (pe_int) (pa_nil)))) (pe_int)) (pa_cons (pe_op op_sub (pe_k C_take hr (by decide) rfl pass0 (pa_cons (pv 0) (pa_cons (pe_int) (pa_nil)))) (pe_int)) (pa_cons (pe_int) (pa_cons (pe_un un_neg (pe_int)) (pa_nil)))))) (pa_nil)))) (pe_op op_add (pe_int) (pe_k C_take hr (by decide) rfl pass0 (pa_cons (pv 0) (pa_cons (pe_int) (pa_nil))))) rfl)))
      (pss_one (ps_ret (pe_callTy (call_dictP rfl) (by rfl) T.n_dict (by decide +kernel) (pa_cons (pe_lc (own := [("place", 4)]) (g := gName 4) (tt := tYes) rfl sc_sizes.nd (pi_list (pe_callB (call_sortedDI rfl) (by rfl) T.n_sorted (by decide +kernel) (pa_cons (pv 2) (pa_nil)))) (blkOk_by (own := [("place", 4)]) (N := ["state", "most", "found", "turn", "place"]) (sc := defScope s_sizes) (by decide +kernel)) (fun _ _ _ _ _ => pg_name (i := 4) sc_sizes.nd rfl (Or.inl rfl)) (fun _ _ _ _ _ => pts_nil) (fun _ _ _ _ _ => pe_tup (pa_cons (pv 4) (pa_cons (pe_dget (hu_of hr) (pv 2) (pv 4) (fun _ _ => rfl)) (pa_nil))))) (pa_nil))))))
  exact F.ok sc_sizes (fun vs H Q E h => by
    repeat (first | (obtain ⟨rfl, _⟩ := h; rfl) | obtain ⟨_, h⟩ := h)) D
theorem dfn_boxes (T : Tx K mg c_Row c_BadRow c_ScoopError) (C_take : Kn P w K mg base CX0 2 "_law_take" ["state", "size"] spTake) (C_pick : Kn P w K mg base CX0 3 "_law_pick" ["state", "some"] (spPick K)) {f : Addr} {fd : FuncData} (F : FunD K "_law_boxes" "_law_boxes" (defArgs s_boxes) (defBody s_boxes) (defScope s_boxes) [] [] f fd) :
    FnOk P w K mg base CX0 4 f fd ["state", "sizes", "most"] (spBoxes K) := by
  have D : ∀ (cdv : Value) (A : Around) (outer : List Env) (s : Shared) (H : Hp) (vs : List V) (Q : VK) (E : XK), Room 3 (A.deeper (envOfC "_law_boxes" (defScope s_boxes) s.heap.objs.size f cdv)) → (spBoxes K) vs H Q E →
      ∃ t, PSs (cxOf CX0 P w K mg base ["state", "sizes", "most", "place", "found", "spare", "turn", "step", "amount"] "_law_boxes" (defScope s_boxes) f cdv A outer s H E) (defBody s_boxes) t ∧ t { nx := fun _ H' => Q .non H', rt := Q } (start ["state", "sizes", "most", "place", "found", "spare", "turn", "step", "amount"] vs) H := by
    intro cdv A outer s H vs Q E hr h
    refine ⟨t_boxes K, PSs.nox ?_, pure_boxes vs H Q E h⟩
    exact pss_cons (ps_asg (pe_tup (pa_cons (pe_k C_pick hr (by decide) rfl pass0 (pa_cons (pv 0) (pa_cons (pe_lst (pa_cons (pe_int) (pa_cons (pe_int) (pa_cons (pe_un un_neg (pe_int)) (pa_cons (pe_un un_neg (pe_int)) (pa_cons (pe_int) (pa_cons (pe_op op_pow (pe_int) (pe_int)) (pa_cons (pe_un un_neg (pe_op op_pow (pe_int) (pe_int))) (pa_nil))))))))) (pa_nil)))) (pa_cons (pe_dnewK) (pa_cons (pv 2) (pa_nil))))) (pg_tup rfl (pgs_cons (pg_name (i := 3) sc_boxes.nd rfl (Or.inl rfl)) (pgs_cons (pg_name (i := 4) sc_boxes.nd rfl (Or.inr rfl)) (pgs_cons (pg_name (i := 5) sc_boxes.nd rfl (Or.inl rfl)) (pgs_nil))))))
      (pss_cons (ps_for PassesOwn.never rfl (pi_range1 rfl T.n_range (pa_cons (pe_k C_take hr (by decide) rfl pass0 (pa_cons (pv 0) (pa_cons (pe_int) (pa_nil)))) (pa_nil))) (pg_name (i := 6) sc_boxes.nd rfl (Or.inl rfl))
      (pss_cons (ps_for PassesOwn.never rfl (pi_range1 rfl T.n_range (pa_cons (pe_op op_add (pe_int) (pe_k C_take hr (by decide) rfl pass0 (pa_cons (pv 0) (pa_cons (pe_int) (pa_nil))))) (pa_nil))) (pg_name (i := 7) sc_boxes.nd rfl (Or.inl rfl))
      (pss_cons (ps_set (i := 8) sc_boxes.nd rfl (Or.inl rfl) (pe_callB (call_min2 rfl) (by rfl) T.n_min (by decide +kernel) (pa_cons (pv 5) (pa_cons (pe_op op_add (pe_int) (pe_k C_take hr (by decide) rfl pass0 (pa_cons (pv 0) (pa_cons (pe_dget2 (hu_of hr) (pv 1) (pv 3) (pe_int) ⟨rfl, rfl, rfl, rfl⟩) (pa_nil))))) (pa_nil)))))
      (pss_cons (ps_if (pt_cmpR op_gt (pv 8) (pe_int) (nomark _))
      (pss_one (ps_dput (hu_of hr) (pv 4) (pv 3) (pv 8) rfl))
      (pss_nil))
      (pss_one (ps_par (by rfl) sc_boxes.nd rfl rfl (by decide) rfl rfl (pa_cons (pe_op op_sub (pv 5) (pv 8)) (pa_cons (pe_op op_add (pv 3) (pe_int)) (pa_nil))) (by rfl))))))
      (pss_one (ps_set (i := 3) sc_boxes.nd rfl (Or.inl rfl) (pe_op op_add (pv 3) (pe_k C_pick hr (by decide) rfl pass0 (pa_cons (pv 0) (pa_cons (pe_lst (pa_cons (pe_int) (pa_cons (pe_int) (pa_cons (pe_int) (pa_cons (pe_int) (pa_cons (pe_int) (pa_cons (pe_int) (pa_cons (pe_op op_pow (pe_int) (pe_int)) (pa_nil))))))))) (pa_nil)))))))))
      (pss_cons (ps_lock (ps_for PassesOwn.never rfl (pi_keys (pv 1)) (pg_name (i := 3) sc_boxes.nd rfl (Or.inl rfl))
      (pss_cons (ps_set (i := 8) sc_boxes.nd rfl (Or.inl rfl) (pe_callB (call_min2 rfl) (by rfl) T.n_min (by decide +kernel) (pa_cons (pv 5) (pa_cons (pe_k C_take hr (by decide) rfl pass0 (pa_cons (pv 0) (pa_cons (pe_op op_add (pe_dget (hu_of hr) (pv 1) (pv 3) (fun _ _ => rfl)) (pe_int)) (pa_nil)))) (pa_nil)))))
      (pss_one (ps_if (PW.pt (pw_and (pt_cmp (pc_dnotin (hu_of hr) (pv 3) (pv 4))) (pw_and1 (pt_cmpR op_gt (pv 8) (pe_int) (nomark _)))))
      (pss_one (ps_asg (pe_tup (pa_cons (pv 8) (pa_cons (pe_op op_sub (pv 5) (pv 8)) (pa_nil)))) (pg_tup rfl (pgs_cons (pg_sub (pv 4) (pv 3) (set_dict (hu_of hr))) (pgs_cons (pg_name (i := 5) sc_boxes.nd rfl (Or.inl rfl)) (pgs_nil))))))
      (pss_nil))))))
      (pss_one (ps_ret (pe_callTy (call_dictP rfl) (by rfl) T.n_dict (by decide +kernel) (pa_cons (pe_lc (own := [("place", 3)]) (g := gName 3) (tt := tYes) rfl sc_boxes.nd (pi_list (pe_callB (call_sortedDI rfl) (by rfl) T.n_sorted (by decide +kernel) (pa_cons (pv 4) (pa_nil)))) (blkOk_by (own := [("place", 3)]) (N := ["state", "sizes", "most", "place", "found", "spare", "turn", "step", "amount"]) (sc := defScope s_boxes) (by decide +kernel)) (fun _ _ _ _ _ => pg_name (i := 3) sc_boxes.nd rfl (Or.inl rfl)) (fun _ _ _ _ _ => pts_nil) (fun _ _ _ _ _ => pe_tup (pa_cons (pv 3) (pa_cons (pe_dget (hu_of hr) (pv 4) (pv 3) (fun _ _ => rfl)) (pa_nil))))) (pa_nil)))))))
  exact F.ok sc_boxes (fun vs H Q E h => by
    repeat (first | (obtain ⟨rfl, _⟩ := h; rfl) | obtain ⟨_, h⟩ := h)) D
theorem dfn_near (T : Tx K mg c_Row c_BadRow c_ScoopError) {f : Addr} {fd : FuncData} (F : FunD K "_law_near" "_law_near" (defArgs s_near) (defBody s_near) (defScope s_near) [] [] f fd) :
    FnOk P w K mg base CX0 1 f fd ["boxes"] (spNear K) := by
  have D : ∀ (cdv : Value) (A : Around) (outer : List Env) (s : Shared) (H : Hp) (vs : List V) (Q : VK) (E : XK), Room 0 (A.deeper (envOfC "_law_near" (defScope s_near) s.heap.objs.size f cdv)) → (spNear K) vs H Q E →
      ∃ t, PSs (cxOf CX0 P w K mg base ["boxes", "first", "place"] "_law_near" (defScope s_near) f cdv A outer s H E) (defBody s_near) t ∧ t { nx := fun _ H' => Q .non H', rt := Q } (start ["boxes", "first", "place"] vs) H := by
    intro cdv A outer s H vs Q E hr h
    refine ⟨t_near K, PSs.nox ?_, pure_near vs H Q E h⟩
    exact pss_cons (ps_set (i := 1) sc_near.nd rfl (Or.inr rfl) (pe_callB (cr_min rfl) (by rfl) T.n_min (by decide +kernel) (pa_cons (pe_op op_cat (pe_callTy (call_list_dK rfl) (by rfl) T.n_list (by decide +kernel) (pa_cons (pv 0) (pa_nil))) (pe_op op_rep (pe_lst (pa_cons (pe_int) (pa_nil))) (pe_callTy call_int1 (by rfl) T.n_int (by decide +kernel) (pa_cons (pe_cmpR (op_eqDE hr.units0) (pv 0) pe_dnewK (nomark _)) (pa_nil))))) (pa_nil))))
      (pss_one (ps_ret (pe_callTy (call_dictP rfl) (by rfl) T.n_dict (by decide +kernel) (pa_cons (pe_lock (pe_lc (own := [("place", 2)]) (g := gName 2) (tt := tTest (tOp qLt (tOp qSub (tVar 2) (tVar 1)) (tC (.int 60)))) rfl sc_near.nd (pi_keys (pv 0)) (blkOk_by (own := [("place", 2)]) (N := ["boxes", "first", "place"]) (sc := defScope s_near) (by decide +kernel)) (fun _ _ _ _ _ => pg_name (i := 2) sc_near.nd rfl (Or.inl rfl)) (fun _ _ _ _ _ => pts_one (pt_cmpR op_lt (pe_op op_sub (pv 2) (pv 1)) (pe_int) (nomark _))) (fun _ _ _ _ _ => pe_tup (pa_cons (pe_op op_sub (pv 2) (pv 1)) (pa_cons (pe_dget (hu_of hr) (pv 0) (pv 2) (fun _ _ => rfl)) (pa_nil)))))) (pa_nil)))))
  exact F.ok sc_near (fun vs H Q E h => by
    repeat (first | (obtain ⟨rfl, _⟩ := h; rfl) | obtain ⟨_, h⟩ := h)) D
theorem dfn_made (T : Tx K mg c_Row c_BadRow c_ScoopError) (C_Row : C8.Mak P w K mg base 5 "Row" c_Row (spRowInit K c_Row) []) {f : Addr} {fd : FuncData} (F : FunD K "_law_made" "_law_made" (defArgs s_made) (defBody s_made) (defScope s_made) [] [] f fd) :
    FnOk P w K mg base CX0 7 f fd ["boxes", "sizes"] (spMade K c_Row) := by
  have D : ∀ (cdv : Value) (A : Around) (outer : List Env) (s : Shared) (H : Hp) (vs : List V) (Q : VK) (E : XK), Room 6 (A.deeper (envOfC "_law_made" (defScope s_made) s.heap.objs.size f cdv)) → (spMade K c_Row) vs H Q E →
      ∃ t, PSs (cxOf CX0 P w K mg base ["boxes", "sizes"] "_law_made" (defScope s_made) f cdv A outer s H E) (defBody s_made) t ∧ t { nx := fun _ H' => Q .non H', rt := Q } (start ["boxes", "sizes"] vs) H := by
    intro cdv A outer s H vs Q E hr h
    refine ⟨t_made K c_Row, PSs.nox ?_, pure_made vs H Q E h⟩
    exact pss_one (ps_ret (C8.pe_mk C_Row hr (by decide) (by rfl) (pa_cons (LiI.pe_listItems rfl (pv 0) (by rfl) T.n_list (by decide +kernel)) (pa_cons (LiI.pe_listItems rfl (pv 1) (by rfl) T.n_list (by decide +kernel)) (pa_nil)))))
  exact F.ok sc_made (fun vs H Q E h => by
    repeat (first | (obtain ⟨rfl, _⟩ := h; rfl) | obtain ⟨_, h⟩ := h)) D
theorem dfn_is (T : Tx K mg c_Row c_BadRow c_ScoopError) (C_contents : Prp P w K mg base 1 c_Row "contents" (spContents K c_Row)) (C_capacities : Prp P w K mg base 1 c_Row "capacities" (spCapacities K c_Row)) {f : Addr} {fd : FuncData} (F : FunD K "_law_is" "_law_is" (defArgs s_is) (defBody s_is) (defScope s_is) [] [] f fd) :
    FnG P w K mg base CX0 3 f fd ["made", "boxes", "sizes"] (spIs K c_Row) := by
  have D : ∀ (cdv : Value) (A : Around) (outer : List Env) (s : Shared) (H : Hp) (vs : List V) (Q : VK) (E : XK), Gs A → Room 2 (A.deeper (envOfC "_law_is" (defScope s_is) s.heap.objs.size f cdv)) → (spIs K c_Row) vs H Q E →
      ∃ t, PSs (cxOf CX0 P w K mg base ["made", "boxes", "sizes", "place"] "_law_is" (defScope s_is) f cdv A outer s H E) (defBody s_is) t ∧ t { nx := fun _ H' => Q .non H', rt := Q } (start ["made", "boxes", "sizes", "place"] vs) H := by
    intro cdv A outer s H vs Q E hgs hr h
    refine ⟨t_is K c_Row, PSs.nox ?_, pure_is vs H Q E h⟩
    exact pss_cons (ps_if (pt_cmpR op_ne (pe_callB (call_reprD hgs hr.units) (by rfl) T.n_repr (by decide +kernel) (pa_cons (pe_pr C_contents hr (by decide) (pv 0)) (pa_nil))) (pe_callB (call_reprD hgs hr.units) (by rfl) T.n_repr (by decide +kernel) (pa_cons (pe_callTy cr_tupB (by rfl) T.n_tuple (by decide +kernel) (pa_cons (pe_lc (own := [("place", 3)]) (g := gName 3) (tt := tYes) rfl sc_is.nd (pi_list (pe_callB (call_sortedDI rfl) (by rfl) T.n_sorted (by decide +kernel) (pa_cons (pv 1) (pa_nil)))) (blkOk_by (own := [("place", 3)]) (N := ["made", "boxes", "sizes", "place"]) (sc := defScope s_is) (by decide +kernel)) (fun _ _ _ _ _ => pg_name (i := 3) sc_is.nd rfl (Or.inl rfl)) (fun _ _ _ _ _ => pts_nil) (fun _ _ _ _ _ => pe_tup (pa_cons (pv 3) (pa_cons (pe_dget (hu_of hr) (pv 1) (pv 3) (fun _ _ => rfl)) (pa_nil))))) (pa_nil))) (pa_nil))) (nomark _))
      (pss_one (ps_ret (pe_bl)))
      (pss_nil))
      (pss_one (ps_ret (pe_cmpR op_eq (pe_callB (call_reprD hgs hr.units) (by rfl) T.n_repr (by decide +kernel) (pa_cons (pe_pr C_capacities hr (by decide) (pv 0)) (pa_nil))) (pe_callB (call_reprD hgs hr.units) (by rfl) T.n_repr (by decide +kernel) (pa_cons (pe_callTy cr_tupB (by rfl) T.n_tuple (by decide +kernel) (pa_cons (pe_lc (own := [("place", 3)]) (g := gName 3) (tt := tYes) rfl sc_is.nd (pi_list (pe_callB (call_sortedDI rfl) (by rfl) T.n_sorted (by decide +kernel) (pa_cons (pv 2) (pa_nil)))) (blkOk_by (own := [("place", 3)]) (N := ["made", "boxes", "sizes", "place"]) (sc := defScope s_is) (by decide +kernel)) (fun _ _ _ _ _ => pg_name (i := 3) sc_is.nd rfl (Or.inl rfl)) (fun _ _ _ _ _ => pts_nil) (fun _ _ _ _ _ => pe_tup (pa_cons (pv 3) (pa_cons (pe_dget (hu_of hr) (pv 2) (pv 3) (fun _ _ => rfl)) (pa_nil))))) (pa_nil))) (pa_nil))) (nomark _))))
  exact okG F sc_is (fun vs H Q E h => by
    repeat (first | (obtain ⟨rfl, _⟩ := h; rfl) | obtain ⟨_, h⟩ := h)) D
theorem dfn_lcut (T : Tx K mg c_Row c_BadRow c_ScoopError) {f : Addr} {fd : FuncData} (F : FunD K "_law_cut" "_law_cut" (defArgs s_lcut) (defBody s_lcut) (defScope s_lcut) [] [] f fd) :
    FnOk P w K mg base CX0 1 f fd ["places"] (spLCut K) := by
  have D : ∀ (cdv : Value) (A : Around) (outer : List Env) (s : Shared) (H : Hp) (vs : List V) (Q : VK) (E : XK), Room 0 (A.deeper (envOfC "_law_cut" (defScope s_lcut) s.heap.objs.size f cdv)) → (spLCut K) vs H Q E →
      ∃ t, PSs (cxOf CX0 P w K mg base ["places", "word", "found", "offsets", "first", "place", "at", "gone"] "_law_cut" (defScope s_lcut) f cdv A outer s H E) (defBody s_lcut) t ∧ t { nx := fun _ H' => Q .non H', rt := Q } (start ["places", "word", "found", "offsets", "first", "place", "at", "gone"] vs) H := by
    intro cdv A outer s H vs Q E hr h
    refine ⟨t_lcut K, PSs.nox ?_, pure_lcut vs H Q E h⟩
    exact pss_cons (ps_par3 (by rfl) sc_lcut.nd rfl rfl rfl (by decide) (by decide) (by decide) rfl rfl rfl (pa_cons (pe_str) (pa_cons (pe_lst (pa_nil)) (pa_cons (pe_lst (pa_nil)) (pa_nil)))) (by rfl))
      (pss_cons (ps_set (i := 4) sc_lcut.nd rfl (Or.inl rfl) (pe_callB (cr_min rfl) (by rfl) T.n_min (by decide +kernel) (pa_cons (pe_op op_cat (pe_callTy call_list_of (by rfl) T.n_list (by decide +kernel) (pa_cons (pv 0) (pa_nil))) (pe_op op_rep (pe_lst (pa_cons (pe_int) (pa_nil))) (pe_callTy call_int1 (by rfl) T.n_int (by decide +kernel) (pa_cons (pe_cmpR (op_eqD hr.units) (pe_callTy call_list_of (by rfl) T.n_list (by decide +kernel) (pa_cons (pv 0) (pa_nil))) (pe_lst (pa_nil)) (nomark _)) (pa_nil))))) (pa_nil))))
      (pss_cons (ps_for PassesOwn.never rfl (pi_range2 rfl T.n_range (pa_cons (pv 4) (pa_cons (pe_op op_add (pe_callB (cr_max rfl) (by rfl) T.n_max (by decide +kernel) (pa_cons (pe_op op_cat (pe_callTy call_list_of (by rfl) T.n_list (by decide +kernel) (pa_cons (pv 0) (pa_nil))) (pe_lst (pa_cons (pv 4) (pa_nil)))) (pa_nil))) (pe_int)) (pa_nil)))) (pg_name (i := 5) sc_lcut.nd rfl (Or.inl rfl))
      (pss_one (ps_set (i := 1) sc_lcut.nd rfl (Or.inl rfl) (pe_op op_add_str (pv 1) (pe_ifExp (pt_cmpR op_in_seq (pv 5) (pv 0) (by rfl)) (pe_str) (pe_str))))))
      (pss_cons (ps_asg (pe_tup (pa_cons (pe_int) (pa_cons (pe_int) (pa_nil)))) (pg_tup rfl (pgs_cons (pg_name (i := 6) sc_lcut.nd rfl (Or.inl rfl)) (pgs_cons (pg_name (i := 7) sc_lcut.nd rfl (Or.inl rfl)) (pgs_nil)))))
      (pss_cons (ps_while PassesOwn.never (pt_cmpR op_lt (pv 6) (pe_callB call_len_str (by rfl) T.n_len PySem.boot_len (pa_cons (pv 1) (pa_nil))) (nomark _))
      (pss_one (ps_if (pt_cmpR op_eq (pe_slice sl_str (pv 1) (po_some (pv 6)) (po_some (pe_op op_add (pv 6) (pe_int)))) (pe_str) (nomark _))
      (pss_cons (ps_expr (pe_bm PySem.F.plainAttrs_list PySem.F.slot_list_append PySem.F.type_list_append mt_append (pv 3) (pa_cons (pe_op op_sub (pe_op op_add (pv 4) (pv 6)) (pe_op op_mul (pe_int) (pv 7))) (pa_nil))))
      (pss_one (ps_par (by rfl) sc_lcut.nd rfl rfl (by decide) rfl rfl (pa_cons (pe_op op_add (pv 6) (pe_int)) (pa_cons (pe_op op_add (pv 7) (pe_int)) (pa_nil))) (by rfl))))
      (pss_cons (ps_if (pt_cmpR op_eq (pe_ix ix_str (pv 1) (pv 6) (fun _ _ => rfl)) (pe_str) (nomark _))
      (pss_one (ps_expr (pe_bm PySem.F.plainAttrs_list PySem.F.slot_list_append PySem.F.type_list_append mt_append (pv 2) (pa_cons (pe_op op_sub (pe_op op_add (pv 4) (pv 6)) (pe_op op_mul (pe_int) (pv 7))) (pa_nil)))))
      (pss_nil))
      (pss_one (ps_set (i := 6) sc_lcut.nd rfl (Or.inl rfl) (pe_op op_add (pv 6) (pe_int))))))))
      (pss_one (ps_ret (pe_tup (pa_cons (pv 2) (pa_cons (pv 3) (pa_nil))))))))))
  exact F.ok sc_lcut (fun vs H Q E h => by
    repeat (first | (obtain ⟨rfl, _⟩ := h; rfl) | obtain ⟨_, h⟩ := h)) D
theorem dfn_moved (T : Tx K mg c_Row c_BadRow c_ScoopError) {f : Addr} {fd : FuncData} (F : FunD K "_law_moved" "_law_moved" (defArgs s_moved) (defBody s_moved) (defScope s_moved) [] [] f fd) :
    FnOk P w K mg base CX0 1 f fd ["boxes", "far"] (spMoved K) := by
  have D : ∀ (cdv : Value) (A : Around) (outer : List Env) (s : Shared) (H : Hp) (vs : List V) (Q : VK) (E : XK), Room 0 (A.deeper (envOfC "_law_moved" (defScope s_moved) s.heap.objs.size f cdv)) → (spMoved K) vs H Q E →
      ∃ t, PSs (cxOf CX0 P w K mg base ["boxes", "far", "place"] "_law_moved" (defScope s_moved) f cdv A outer s H E) (defBody s_moved) t ∧ t { nx := fun _ H' => Q .non H', rt := Q } (start ["boxes", "far", "place"] vs) H := by
    intro cdv A outer s H vs Q E hr h
    refine ⟨t_moved K, PSs.nox ?_, pure_moved vs H Q E h⟩
    exact pss_one (ps_ret (pe_callTy (call_dictP rfl) (by rfl) T.n_dict (by decide +kernel) (pa_cons (pe_lock (pe_lc (own := [("place", 2)]) (g := gName 2) (tt := tYes) rfl sc_moved.nd (pi_keys (pv 0)) (blkOk_by (own := [("place", 2)]) (N := ["boxes", "far", "place"]) (sc := defScope s_moved) (by decide +kernel)) (fun _ _ _ _ _ => pg_name (i := 2) sc_moved.nd rfl (Or.inl rfl)) (fun _ _ _ _ _ => pts_nil) (fun _ _ _ _ _ => pe_tup (pa_cons (pe_op op_add (pv 2) (pv 1)) (pa_cons (pe_dget (hu_of hr) (pv 0) (pv 2) (fun _ _ => rfl)) (pa_nil)))))) (pa_nil))))
  exact F.ok sc_moved (fun vs H Q E h => by
    repeat (first | (obtain ⟨rfl, _⟩ := h; rfl) | obtain ⟨_, h⟩ := h)) D
theorem dfn_ones (T : Tx K mg c_Row c_BadRow c_ScoopError) {f : Addr} {fd : FuncData} (F : FunD K "_law_ones" "_law_ones" (defArgs s_ones) (defBody s_ones) (defScope s_ones) [] [] f fd) :
    FnOk P w K mg base CX0 1 f fd ["places"] (spOnes K) := by
  have D : ∀ (cdv : Value) (A : Around) (outer : List Env) (s : Shared) (H : Hp) (vs : List V) (Q : VK) (E : XK), Room 0 (A.deeper (envOfC "_law_ones" (defScope s_ones) s.heap.objs.size f cdv)) → (spOnes K) vs H Q E →
      ∃ t, PSs (cxOf CX0 P w K mg base ["places", "place"] "_law_ones" (defScope s_ones) f cdv A outer s H E) (defBody s_ones) t ∧ t { nx := fun _ H' => Q .non H', rt := Q } (start ["places", "place"] vs) H := by
    intro cdv A outer s H vs Q E hr h
    refine ⟨t_ones K, PSs.nox ?_, pure_ones vs H Q E h⟩
    exact pss_one (ps_ret (pe_callTy (call_dictP rfl) (by rfl) T.n_dict (by decide +kernel) (pa_cons (pe_lc (own := [("place", 1)]) (g := gName 1) (tt := tYes) rfl sc_ones.nd (pi_list (pv 0)) (blkOk_by (own := [("place", 1)]) (N := ["places", "place"]) (sc := defScope s_ones) (by decide +kernel)) (fun _ _ _ _ _ => pg_name (i := 1) sc_ones.nd rfl (Or.inl rfl)) (fun _ _ _ _ _ => pts_nil) (fun _ _ _ _ _ => pe_tup (pa_cons (pv 1) (pa_cons (pe_int) (pa_nil))))) (pa_nil))))
  exact F.ok sc_ones (fun vs H Q E h => by
    repeat (first | (obtain ⟨rfl, _⟩ := h; rfl) | obtain ⟨_, h⟩ := h)) D
theorem dfn_is_refused (T : Tx K mg c_Row c_BadRow c_ScoopError) (C_cut : Kn P w K mg base (L2.CX P w) 7 "cut" ["row"] (spCut K c_Row c_BadRow)) (Z_BadRow : ErrK K c_BadRow c_ScoopError "field") {f : Addr} {fd : FuncData} (F : FunD K "_law_is_refused" "_law_is_refused" (defArgs s_is_refused) (defBody s_is_refused) (defScope s_is_refused) [] [] f fd) :
    FnOk P w K mg base CX0 9 f fd ["made"] (spRefused13 K c_Row) := by
  have D : ∀ (cdv : Value) (A : Around) (outer : List Env) (s : Shared) (H : Hp) (vs : List V) (Q : VK) (E : XK), Room 8 (A.deeper (envOfC "_law_is_refused" (defScope s_is_refused) s.heap.objs.size f cdv)) → (spRefused13 K c_Row) vs H Q E →
      ∃ t, PSs (cxOf CX0 P w K mg base ["made", "caught", "error"] "_law_is_refused" (defScope s_is_refused) f cdv A outer s H E) (defBody s_is_refused) t ∧ t { nx := fun _ H' => Q .non H', rt := Q } (start ["made", "caught", "error"] vs) H := by
    intro cdv A outer s H vs Q E hr h
    refine ⟨t_refused13 K c_BadRow c_Row c_ScoopError, PSs.nox ?_, pure_refused13 Z_BadRow vs H Q E h⟩
    exact pss_cons (ps_set (i := 1) sc_is_refused.nd rfl (Or.inl rfl) (pe_non))
      (pss_cons (ps_try_keepH (i := 2) (j := 1) (tb := fun W => tDrop (tCallS (spCut K c_Row c_BadRow) (WE W) (tCons (tVar 0) (tNil)))) (Wout := fun _ _ _ _ => False) rfl rfl rfl sc_is_refused.nd rfl rfl rfl rfl ⟨rfl, by decide, .inl T.g_ScoopError⟩ takes0 (fun W pn xe tk _ => pss_one (ps_expr (pe_kS C_cut hr (by decide) (by exact rfl) (fun σ => passAt tk σ) (pa_cons (pv 0) (pa_nil))))) (fun _ _ => rfl)) (pss_one (ps_ret (pe_and (pe_callB cr_isHD (by rfl) T.n_isinstance PyProof.Rows.boot_isinstance (pa_cons (pv 1) (pa_cons (pe_gl (by rfl) ⟨_, T.g_BadRow, rfl⟩) (pa_nil)))) (pe_one (pe_cmpR op_eq (pe_xfH (pv 1)) (pe_str) (nomark _)))))))
  exact F.ok sc_is_refused (fun vs H Q E h => by
    repeat (first | (obtain ⟨rfl, _⟩ := h; rfl) | obtain ⟨_, h⟩ := h)) D
theorem dfn_crowd (T : Tx K mg c_Row c_BadRow c_ScoopError) (C_take : Kn P w K mg base CX0 2 "_law_take" ["state", "size"] spTake) (C_pick : Kn P w K mg base CX0 3 "_law_pick" ["state", "some"] (spPick K)) {f : Addr} {fd : FuncData} (F : FunD K "_law_crowd" "_law_crowd" (defArgs s_crowd) (defBody s_crowd) (defScope s_crowd) [] [] f fd) :
    FnOk P w K mg base CX0 4 f fd ["state"] spCrowd13 := by
  have D : ∀ (cdv : Value) (A : Around) (outer : List Env) (s : Shared) (H : Hp) (vs : List V) (Q : VK) (E : XK), Room 3 (A.deeper (envOfC "_law_crowd" (defScope s_crowd) s.heap.objs.size f cdv)) → spCrowd13 vs H Q E →
      ∃ t, PSs (cxOf CX0 P w K mg base ["state", "place", "found", "turn"] "_law_crowd" (defScope s_crowd) f cdv A outer s H E) (defBody s_crowd) t ∧ t { nx := fun _ H' => Q .non H', rt := Q } (start ["state", "place", "found", "turn"] vs) H := by
    intro cdv A outer s H vs Q E hr h
    refine ⟨t_crowd K, PSs.nox ?_, pure_crowd13 vs H Q E h⟩
    exact pss_cons (ps_par (by rfl) sc_crowd.nd rfl rfl (by decide) rfl rfl (pa_cons (pe_op op_sub (pe_k C_take hr (by decide) rfl pass0 (pa_cons (pv 0) (pa_cons (pe_int) (pa_nil)))) (pe_int)) (pa_cons (pe_dnewK) (pa_nil))) (by rfl))
      (pss_cons (ps_for PassesOwn.never rfl (pi_range1 rfl T.n_range (pa_cons (pe_op op_add (pe_int) (pe_k C_take hr (by decide) rfl pass0 (pa_cons (pv 0) (pa_cons (pe_int) (pa_nil))))) (pa_nil))) (pg_name (i := 3) sc_crowd.nd rfl (Or.inl rfl))
      (pss_cons (ps_dput (hu_of hr) (pv 2) (pv 1) (pe_int) rfl)
      (pss_one (ps_set (i := 1) sc_crowd.nd rfl (Or.inl rfl) (pe_op op_add (pe_op op_add (pv 1) (pe_int)) (pe_k C_pick hr (by decide) rfl pass0 (pa_cons (pv 0) (pa_cons (pe_lst (pa_cons (pe_int) (pa_cons (pe_int) (pa_cons (pe_int) (pa_cons (pe_int) (pa_cons (pe_int) (pa_cons (pe_int) (pa_nil)))))))) (pa_nil)))))))))
      (pss_one (ps_ret (pv 2))))
  exact F.ok sc_crowd (fun vs H Q E h => by
    repeat (first | (obtain ⟨rfl, _⟩ := h; rfl) | obtain ⟨_, h⟩ := h)) D
theorem dfn_law (T : Tx K mg c_Row c_BadRow c_ScoopError) (C_begun : Kn P w K mg base CX0 1 "_law_begun" ["script"] (spBegun K)) (C_pick : Kn P w K mg base CX0 3 "_law_pick" ["state", "some"] (spPick K)) (C_take : Kn P w K mg base CX0 2 "_law_take" ["state", "size"] spTake) (C_sizes : Kn P w K mg base CX0 4 "_law_sizes" ["state", "most"] (spSizes K)) (C_boxes : Kn P w K mg base CX0 4 "_law_boxes" ["state", "sizes", "most"] (spBoxes K)) (C_near : Kn P w K mg base CX0 1 "_law_near" ["boxes"] (spNear K)) (C_crowd : Kn P w K mg base CX0 4 "_law_crowd" ["state"] spCrowd13) (C_lcut : Kn P w K mg base CX0 1 "_law_cut" ["places"] (spLCut K)) (C_made : Kn P w K mg base CX0 7 "_law_made" ["boxes", "sizes"] (spMade K c_Row)) (C_moved : Kn P w K mg base CX0 1 "_law_moved" ["boxes", "far"] (spMoved K)) (C_ones : Kn P w K mg base CX0 1 "_law_ones" ["places"] (spOnes K)) (C_is : KnG P w K mg base CX0 3 "_law_is" ["made", "boxes", "sizes"] (spIs K c_Row)) (C_is_refused : Kn P w K mg base CX0 9 "_law_is_refused" ["made"] (spRefused13 K c_Row)) (C_cut : Kn P w K mg base (L2.CX P w) 7 "cut" ["row"] (spCut K c_Row c_BadRow)) (C_cut_kw : KnK P w K mg base (L2.CX P w) 7 "cut" ["row"] (spCut K c_Row c_BadRow) 0 ["row"] (fun vs zs => gkw_cut vs zs)) {f : Addr} {fd : FuncData} (F : FunD K "law" "law" (defArgs s_law) (defBody s_law) (defScope s_law) [] [] f fd) :
    FnG P w K mg base CX0 12 f fd ["script"] (spLaw K) := by
  have D : ∀ (cdv : Value) (A : Around) (outer : List Env) (s : Shared) (H : Hp) (vs : List V) (Q : VK) (E : XK), Gs A → Room 11 (A.deeper (envOfC "law" (defScope s_law) s.heap.objs.size f cdv)) → (spLaw K) vs H Q E →
      ∃ t, PSs (cxOf CX0 P w K mg base ["script", "state", "turn", "boxes", "far", "places", "offsets", "made", "told", "due", "sizes", "offset"] "law" (defScope s_law) f cdv A outer s H E) (defBody s_law) t ∧ t { nx := fun _ H' => Q .non H', rt := Q } (start ["script", "state", "turn", "boxes", "far", "places", "offsets", "made", "told", "due", "sizes", "offset"] vs) H := by
    intro cdv A outer s H vs Q E hgs hr h
    refine ⟨t_law13 K c_BadRow c_Row, PSs.nox ?_, pure_law13 vs H Q E h⟩
    exact pss_cons (ps_set (i := 1) sc_law.nd rfl (Or.inl rfl) (pe_k C_begun hr (by decide) rfl pass0 (pa_cons (pv 0) (pa_nil))))
      (pss_cons (ps_for PassesOwn.never rfl (pi_range1 rfl T.n_range (pa_cons (pe_op op_add (pe_int) (pe_callB (call_min2 rfl) (by rfl) T.n_min (by decide +kernel) (pa_cons (pe_callB call_len_seq (by rfl) T.n_len PySem.boot_len (pa_cons (pv 0) (pa_nil))) (pa_cons (pe_int) (pa_nil))))) (pa_nil))) (pg_name (i := 2) sc_law.nd rfl (Or.inl rfl))
      (pss_cons (ps_set (i := 3) sc_law.nd rfl (Or.inl rfl) (pe_k C_near hr (by decide) rfl pass0 (pa_cons (pe_k C_boxes hr (by decide) rfl pass0 (pa_cons (pv 1) (pa_cons (pe_dnewK) (pa_cons (pe_k C_pick hr (by decide) rfl pass0 (pa_cons (pv 1) (pa_cons (pe_lst (pa_cons (pe_int) (pa_cons (pe_int) (pa_cons (pe_int) (pa_nil))))) (pa_nil)))) (pa_nil))))) (pa_nil))))
      (pss_cons (ps_if (pt_cmpR op_eq (pe_k C_take hr (by decide) rfl pass0 (pa_cons (pv 1) (pa_cons (pe_int) (pa_nil)))) (pe_int) (nomark _))
      (pss_one (ps_set (i := 3) sc_law.nd rfl (Or.inl rfl) (pe_k C_crowd hr (by decide) rfl pass0 (pa_cons (pv 1) (pa_nil)))))
      (pss_nil))
      (pss_cons (ps_set (i := 4) sc_law.nd rfl (Or.inr rfl) (pe_k C_pick hr (by decide) rfl pass0 (pa_cons (pv 1) (pa_cons (pe_lst (pa_cons (pe_int) (pa_cons (pe_int) (pa_cons (pe_un un_neg (pe_int)) (pa_cons (pe_op op_pow (pe_int) (pe_int)) (pa_cons (pe_op op_sub (pe_un un_neg (pe_op op_pow (pe_int) (pe_int))) (pe_int)) (pa_nil))))))) (pa_nil)))))
      (pss_cons (ps_asg (pe_k C_lcut hr (by decide) rfl pass0 (pa_cons (pe_callTy (call_list_dK rfl) (by rfl) T.n_list (by decide +kernel) (pa_cons (pv 3) (pa_nil))) (pa_nil))) (pg_tup rfl (pgs_cons (pg_name (i := 5) sc_law.nd rfl (Or.inl rfl)) (pgs_cons (pg_name (i := 6) sc_law.nd rfl (Or.inl rfl)) (pgs_nil)))))
      (pss_cons (ps_set (i := 7) sc_law.nd rfl (Or.inl rfl) (pe_k C_made hr (by decide) rfl pass0 (pa_cons (pe_k C_moved hr (by decide) rfl pass0 (pa_cons (pv 3) (pa_cons (pv 4) (pa_nil)))) (pa_cons (pe_dnewK) (pa_nil)))))
      (pss_cons (ps_set (i := 8) sc_law.nd rfl (Or.inl rfl) (pe_k C_cut hr (by decide) rfl passL (pa_cons (pv 7) (pa_nil))))
      (pss_cons (ps_if (PW.pt (pw_or (pt_not (pt_val (pe_callB call_isi (by rfl) T.n_isinstance PyProof.Rows.boot_isinstance (pa_cons (pv 8) (pa_cons (pe_bltn (v := .ty "tuple") (by rfl) T.n_tuple (by decide +kernel) rfl) pa_nil))))) (pw_or1 (pt_cmpR op_ne (pe_callB call_len_seq (by rfl) T.n_len PySem.boot_len (pa_cons (pv 8) (pa_nil))) (pe_int) (nomark _)))))
      (pss_one (ps_ret (pe_bl)))
      (pss_nil))
      (pss_cons (ps_if (pt_not (pt_val (pe_kG C_is hgs hr (by decide) rfl pass0 (pa_cons (pe_ix ix_tup (pv 8) (pe_int) (fun _ _ => rfl)) (pa_cons (pe_k C_moved hr (by decide) rfl pass0 (pa_cons (pe_k C_ones hr (by decide) rfl pass0 (pa_cons (pv 5) (pa_nil))) (pa_cons (pv 4) (pa_nil)))) (pa_cons (pe_dnewK) (pa_nil)))))))
      (pss_one (ps_ret (pe_bl)))
      (pss_nil))
      (pss_cons (ps_setLc (i := 9) (own := [("offset", 11)]) (g := gName 11) (tt := tYes) rfl sc_law.nd rfl rfl (sw_true rfl rfl rfl (by decide +kernel)) (pi_list (pv 6)) (blkOk_by (own := [("offset", 11)]) (N := ["script", "state", "turn", "boxes", "far", "places", "offsets", "made", "told", "due", "sizes", "offset"]) (sc := defScope s_law) (by decide +kernel)) (fun _ _ _ _ _ => pg_name (i := 11) sc_law.nd rfl (Or.inl rfl)) (fun _ _ _ _ _ => pts_nil) (fun _ _ _ _ _ => pe_op op_add (pv 11) (pv 4)))
      (pss_cons (ps_if (pt_cmpR op_ne (pe_callB (call_reprD hgs hr.units) (by rfl) T.n_repr (by decide +kernel) (pa_cons (pe_ix ix_tup (pv 8) (pe_int) (fun _ _ => rfl)) (pa_nil))) (pe_callB (call_reprD hgs hr.units) (by rfl) T.n_repr (by decide +kernel) (pa_cons (pv 9) (pa_nil))) (nomark _))
      (pss_one (ps_ret (pe_bl)))
      (pss_nil))
      (pss_cons (ps_expr (pe_bm PySem.F.plainAttrs_list PySem.F.slot_list_append PySem.F.type_list_append mt_append (pe_ix ix_tup (pv 8) (pe_int) (fun _ _ => rfl)) (pa_cons (pe_non) (pa_nil))))
      (pss_cons (ps_if (PW.pt (pw_or (pt_cmpR op_ne (pe_callB (call_reprD hgs hr.units) (by rfl) T.n_repr (by decide +kernel) (pa_cons (pe_ix ix_tup (pe_kK1 C_cut_kw hr (by decide) (by exact rfl) (fun σ pins H s e s2 => passL pins σ H s e s2) (pk_cons (pv 7) (pk_nil))) (pe_int) (fun _ _ => rfl)) (pa_nil))) (pe_callB (call_reprD hgs hr.units) (by rfl) T.n_repr (by decide +kernel) (pa_cons (pv 9) (pa_nil))) (nomark _)) (pw_or1 (pt_not (pt_val (pe_kG C_is hgs hr (by decide) rfl pass0 (pa_cons (pv 7) (pa_cons (pe_k C_moved hr (by decide) rfl pass0 (pa_cons (pv 3) (pa_cons (pv 4) (pa_nil)))) (pa_cons (pe_dnewK) (pa_nil))))))))))
      (pss_one (ps_ret (pe_bl)))
      (pss_nil))
      (pss_cons (ps_set (i := 10) sc_law.nd rfl (Or.inl rfl) (pe_k C_sizes hr (by decide) rfl pass0 (pa_cons (pv 1) (pa_cons (pe_int) (pa_nil)))))
      (pss_one (ps_if (PW.pt (pw_and (pt_cmpR (op_neDE hr.units0) (pv 10) pe_dnewK (nomark _)) (pw_and1 (pt_not (pt_val (pe_k C_is_refused hr (by decide) rfl pass0 (pa_cons (pe_k C_made hr (by decide) rfl pass0 (pa_cons (pe_k C_boxes hr (by decide) rfl pass0 (pa_cons (pv 1) (pa_cons (pv 10) (pa_cons (pe_int) (pa_nil))))) (pa_cons (pv 10) (pa_nil)))) (pa_nil))))))))
      (pss_one (ps_ret (pe_bl)))
      (pss_nil)))))))))))))))))
      (pss_one (ps_ret (pe_bl))))
  exact okG F sc_law (fun vs H Q E h => by
    repeat (first | (obtain ⟨rfl, _⟩ := h; rfl) | obtain ⟨_, h⟩ := h)) D
end
abbrev s_BadRow_init : Stmt := inClass (topS 3) 0
def e_BadRow : SupD := ⟨"BadRow", "field", "field", defArgs s_BadRow_init, defBody s_BadRow_init, defScope s_BadRow_init, "/claim/cut.py"⟩
def supDs : List SupD := [e_BadRow]
def d_is_integer : He.DefD := ⟨("is_integer", none), "is_integer", "is_integer", defArgs s_is_integer, defBody s_is_integer, defScope s_is_integer, [], []⟩
def d_is_between : He.DefD := ⟨("is_between", none), "is_between", "is_between", defArgs s_is_between, defBody s_is_between, defScope s_is_between, [], []⟩
def d_is_pair : He.DefD := ⟨("is_pair", none), "is_pair", "is_pair", defArgs s_is_pair, defBody s_is_pair, defScope s_is_pair, [], []⟩
def d_are_pairs : He.DefD := ⟨("are_pairs", none), "are_pairs", "are_pairs", defArgs s_are_pairs, defBody s_are_pairs, defScope s_are_pairs, [], []⟩
def d_is_wide_box : He.DefD := ⟨("_is_wide_box", none), "_is_wide_box", "_is_wide_box", defArgs s_is_wide_box, defBody s_is_wide_box, defScope s_is_wide_box, [], []⟩
def d_are_capacities : He.DefD := ⟨("_are_capacities", none), "_are_capacities", "_are_capacities", defArgs s_are_capacities, defBody s_are_capacities, defScope s_are_capacities, [], []⟩
def d_are_contents : He.DefD := ⟨("_are_contents", none), "_are_contents", "_are_contents", defArgs s_are_contents, defBody s_are_contents, defScope s_are_contents, [], []⟩
def d_Row_init : He.DefD := ⟨("Row", some "__init__"), "__init__", "Row.__init__", defArgs s_Row_init, defBody s_Row_init, defScope s_Row_init, [.adr (He.dflAt ("Row", some "__init__") 0), .adr (He.dflAt ("Row", some "__init__") 1)], []⟩
def d_Row_contents : He.DefD := ⟨("Row", some "contents"), "contents", "Row.contents", defArgs s_Row_contents, defBody s_Row_contents, defScope s_Row_contents, [], []⟩
def d_Row_capacities : He.DefD := ⟨("Row", some "capacities"), "capacities", "Row.capacities", defArgs s_Row_capacities, defBody s_Row_capacities, defScope s_Row_capacities, [], []⟩
def d_Row_is_plain : He.DefD := ⟨("Row", some "is_plain"), "is_plain", "Row.is_plain", defArgs s_Row_is_plain, defBody s_Row_is_plain, defScope s_Row_is_plain, [], []⟩
def d_is_plain_row : He.DefD := ⟨("is_plain_row", none), "is_plain_row", "is_plain_row", defArgs s_is_plain_row, defBody s_is_plain_row, defScope s_is_plain_row, [], []⟩
def d_runs_in : He.DefD := ⟨("runs_in", none), "runs_in", "runs_in", defArgs s_runs_in, defBody s_runs_in, defScope s_runs_in, [], []⟩
def d_cut : He.DefD := ⟨("cut", none), "cut", "cut", defArgs s_cut, defBody s_cut, defScope s_cut, [], []⟩
def d_begun : He.DefD := ⟨("_law_begun", none), "_law_begun", "_law_begun", defArgs s_begun, defBody s_begun, defScope s_begun, [], []⟩
def d_mixed : He.DefD := ⟨("_law_mixed", none), "_law_mixed", "_law_mixed", defArgs s_mixed, defBody s_mixed, defScope s_mixed, [], []⟩
def d_take : He.DefD := ⟨("_law_take", none), "_law_take", "_law_take", defArgs s_take, defBody s_take, defScope s_take, [], []⟩
def d_pick : He.DefD := ⟨("_law_pick", none), "_law_pick", "_law_pick", defArgs s_pick, defBody s_pick, defScope s_pick, [], []⟩
def d_sizes : He.DefD := ⟨("_law_sizes", none), "_law_sizes", "_law_sizes", defArgs s_sizes, defBody s_sizes, defScope s_sizes, [], []⟩
def d_boxes : He.DefD := ⟨("_law_boxes", none), "_law_boxes", "_law_boxes", defArgs s_boxes, defBody s_boxes, defScope s_boxes, [], []⟩
def d_near : He.DefD := ⟨("_law_near", none), "_law_near", "_law_near", defArgs s_near, defBody s_near, defScope s_near, [], []⟩
def d_made : He.DefD := ⟨("_law_made", none), "_law_made", "_law_made", defArgs s_made, defBody s_made, defScope s_made, [], []⟩
def d_is : He.DefD := ⟨("_law_is", none), "_law_is", "_law_is", defArgs s_is, defBody s_is, defScope s_is, [], []⟩
def d_lcut : He.DefD := ⟨("_law_cut", none), "_law_cut", "_law_cut", defArgs s_lcut, defBody s_lcut, defScope s_lcut, [], []⟩
def d_moved : He.DefD := ⟨("_law_moved", none), "_law_moved", "_law_moved", defArgs s_moved, defBody s_moved, defScope s_moved, [], []⟩
def d_ones : He.DefD := ⟨("_law_ones", none), "_law_ones", "_law_ones", defArgs s_ones, defBody s_ones, defScope s_ones, [], []⟩
def d_is_refused : He.DefD := ⟨("_law_is_refused", none), "_law_is_refused", "_law_is_refused", defArgs s_is_refused, defBody s_is_refused, defScope s_is_refused, [], []⟩
def d_crowd : He.DefD := ⟨("_law_crowd", none), "_law_crowd", "_law_crowd", defArgs s_crowd, defBody s_crowd, defScope s_crowd, [], []⟩
def d_law : He.DefD := ⟨("law", none), "law", "law", defArgs s_law, defBody s_law, defScope s_law, [], []⟩
def fns : List He.DefD := [d_is_integer, d_is_between, d_is_pair, d_are_pairs, d_is_wide_box, d_are_capacities, d_are_contents, d_Row_init, d_Row_is_plain, d_is_plain_row, d_runs_in, d_cut, d_begun, d_mixed, d_take, d_pick, d_sizes, d_boxes, d_near, d_made, d_is, d_lcut, d_moved, d_ones, d_is_refused, d_crowd, d_law]
def propDs : List PropD := [⟨"Row", "contents", d_Row_contents⟩, ⟨"Row", "capacities", d_Row_capacities⟩]
def fas : List He.Fa := [.glo "is_integer", .glo "is_between", .glo "is_pair", .glo "are_pairs", .glo "_is_wide_box", .glo "_are_capacities", .glo "_are_contents", .glo "is_plain_row", .glo "runs_in", .glo "cut", .glo "_law_begun", .glo "_law_mixed", .glo "_law_take", .glo "_law_pick", .glo "_law_sizes", .glo "_law_boxes", .glo "_law_near", .glo "_law_made", .glo "_law_is", .glo "_law_cut", .glo "_law_moved", .glo "_law_ones", .glo "_law_is_refused", .glo "_law_crowd", .glo "law", .glo "Row", .glo "BadRow", .glo "ScoopError", .free "isinstance", .free "int", .free "bool", .free "list", .free "tuple", .free "all", .free "len", .free "dict", .free "sum", .free "sorted", .free "range", .free "min", .free "max", .free "repr", .free "super", .int "FIRST_WIDE_INDEX" (-60), .int "LAST_WIDE_INDEX" (60), .int "LEAST_WIDE_CAPACITY" (2), .int "GREATEST_WIDE_CAPACITY" (9), .int "MOST_WIDE_BOXES" (6), .int "MOST_ITEMS" (40), .exm "BadRow" "ScoopError" true, .cls "Row", .noat "Row" "_contents", .noat "Row" "_capacities", .noat "Row" "_count_at", .noat "Row" "_capacity_at", .mkr "Row", .meth "Row" "is_plain"]
def more (K : PySem.W.Frag) : Bool := (rowKB K (He.ga K "Row")) && (emptyB K (He.dflAt ("Row", some "__init__") 1 K)) && (excB K (He.ga K "BadRow")) && (kitIs K (.ref (He.ga K "BadRow")) (.ref (He.ga K "BadRow")) true)
abbrev Rw : PySem.W.OpenRow := PySem.W.OpenLaw.row PySem.Challenge.rw_scooprow_k13_cuts
abbrev hk : PySem.W.Hook := hookS 6 fas fns propDs supDs more
def ob (s : PySem.W.SharedT) : AlS := obsS 6 fas fns propDs supDs more (HandSHeadRun.getT s)
theorem ob_eq (s : PySem.W.SharedT) : ob s = hk.obs s.abs := obsS_eq (HandSHeadRun.getT_eq s)
def others0 : List Str := ["_wall", "ScoopError", "BadRow", "BadIndex", "MOST_ITEMS", "MOST_WIDE_BOXES", "FIRST_WIDE_INDEX", "LAST_WIDE_INDEX", "LEAST_WIDE_CAPACITY", "GREATEST_WIDE_CAPACITY", "is_integer", "is_between", "is_pair", "are_pairs", "_is_wide_box", "_are_capacities", "_are_contents", "Row", "is_plain_row", "runs_in", "cut", "_law_begun", "_law_mixed", "_law_take", "_law_pick", "_law_sizes", "_law_boxes", "_law_near", "_law_made", "_law_is"]
def others1 : List Str := ["_law_cut", "_law_moved", "_law_ones", "_law_is_refused", "_law_crowd"]
def others : List Str := others0 ++ others1
theorem run (w : World) : HandSHeadRun.RunEq Rw (PySem.W.view Rw.prog [39]) hk ob 4000 others w := by
  intro os
  kernel_rfl
theorem facts {P : Program} {w : World} {K : PySem.W.Frag} {h : Heap} {mg : Str → Option Value} {f : Addr} (X : K.In h) (G : h.Ns mainGlobals mg) (hfa : mg ("law" : Str) = some (.ref f)) (c : SaysS fas fns propDs supDs more w K) (hPf : P.main.file = "/claim/cut.py") (hPt : (P.main.scope.names.lookup ("super" : Str)).isSome = false) :
    ∃ fd : FuncData, (∀ (s : Shared) (v : Value), BindsTo s fd ⟨[v], []⟩ [("script", v)]) ∧ ∀ base : Heap, K.In base → base.Ns mainGlobals mg → FnG P w K mg base CX0 12 f fd ["script"] (spLaw K) := by
  have c1 := c.t.d
  have cm := c.more
  unfold more at cm
  simp only [Bool.and_eq_true] at cm
  obtain ⟨⟨⟨m_Z_Row, m_hE⟩, m_ec_BadRow⟩, m_kit_BadRow⟩ := cm
  have Z_Row := rowKB_ok m_Z_Row
  have hE := emptyB_ok m_hE
  have ec_BadRow := excB_ok m_ec_BadRow
  have kit_BadRow := kitIs_ok m_kit_BadRow
  have T : Tx K mg (He.ga K "Row") (He.ga K "BadRow") (He.ga K "ScoopError") := ⟨He.free_ok X G (c1.fact 28 (f := .free "isinstance") rfl),
    He.free_ok X G (c1.fact 29 (f := .free "int") rfl),
    He.free_ok X G (c1.fact 30 (f := .free "bool") rfl),
    He.free_ok X G (c1.fact 31 (f := .free "list") rfl),
    He.free_ok X G (c1.fact 32 (f := .free "tuple") rfl),
    He.free_ok X G (c1.fact 33 (f := .free "all") rfl),
    He.free_ok X G (c1.fact 34 (f := .free "len") rfl),
    He.free_ok X G (c1.fact 35 (f := .free "dict") rfl),
    He.free_ok X G (c1.fact 36 (f := .free "sum") rfl),
    He.free_ok X G (c1.fact 37 (f := .free "sorted") rfl),
    He.free_ok X G (c1.fact 38 (f := .free "range") rfl),
    He.free_ok X G (c1.fact 39 (f := .free "min") rfl),
    He.free_ok X G (c1.fact 40 (f := .free "max") rfl),
    He.free_ok X G (c1.fact 41 (f := .free "repr") rfl),
    He.free_ok X G (c1.fact 42 (f := .free "super") rfl),
    (let ⟨t, e⟩ := He.int_ok X G (c1.fact 43 (f := .int "FIRST_WIDE_INDEX" (-60)) rfl); ⟨_, e, ⟨t, rfl⟩⟩),
    (let ⟨t, e⟩ := He.int_ok X G (c1.fact 44 (f := .int "LAST_WIDE_INDEX" (60)) rfl); ⟨_, e, ⟨t, rfl⟩⟩),
    (let ⟨t, e⟩ := He.int_ok X G (c1.fact 45 (f := .int "LEAST_WIDE_CAPACITY" (2)) rfl); ⟨_, e, ⟨t, rfl⟩⟩),
    (let ⟨t, e⟩ := He.int_ok X G (c1.fact 46 (f := .int "GREATEST_WIDE_CAPACITY" (9)) rfl); ⟨_, e, ⟨t, rfl⟩⟩),
    (let ⟨t, e⟩ := He.int_ok X G (c1.fact 47 (f := .int "MOST_WIDE_BOXES" (6)) rfl); ⟨_, e, ⟨t, rfl⟩⟩),
    (let ⟨t, e⟩ := He.int_ok X G (c1.fact 48 (f := .int "MOST_ITEMS" (40)) rfl); ⟨_, e, ⟨t, rfl⟩⟩),
    He.glo_ok X G (c1.fact 25 (f := .glo "Row") rfl),
    He.glo_ok X G (c1.fact 26 (f := .glo "BadRow") rfl),
    He.glo_ok X G (c1.fact 27 (f := .glo "ScoopError") rfl)⟩
  have L_Row := He.cls_ok (c1.fact 50 (f := .cls "Row") rfl)
  have R_Row : RowC K (He.ga K "Row") := ⟨L_Row, He.noat_ok (c1.fact 51 (f := .noat "Row" "_contents") rfl), He.noat_ok (c1.fact 52 (f := .noat "Row" "_capacities") rfl), He.noat_ok (c1.fact 53 (f := .noat "Row" "_count_at") rfl), He.noat_ok (c1.fact 54 (f := .noat "Row" "_capacity_at") rfl)⟩
  obtain ⟨fd_is_integer, F_is_integer⟩ := c1.def_ 0 (d := d_is_integer) rfl
  obtain ⟨fd_is_between, F_is_between⟩ := c1.def_ 1 (d := d_is_between) rfl
  obtain ⟨fd_is_pair, F_is_pair⟩ := c1.def_ 2 (d := d_is_pair) rfl
  obtain ⟨fd_are_pairs, F_are_pairs⟩ := c1.def_ 3 (d := d_are_pairs) rfl
  obtain ⟨fd_is_wide_box, F_is_wide_box⟩ := c1.def_ 4 (d := d_is_wide_box) rfl
  obtain ⟨fd_are_capacities, F_are_capacities⟩ := c1.def_ 5 (d := d_are_capacities) rfl
  obtain ⟨fd_are_contents, F_are_contents⟩ := c1.def_ 6 (d := d_are_contents) rfl
  obtain ⟨fd_Row_init, F_Row_init⟩ := c1.def_ 7 (d := d_Row_init) rfl
  obtain ⟨fd_Row_is_plain, F_Row_is_plain⟩ := c1.def_ 8 (d := d_Row_is_plain) rfl
  obtain ⟨fd_is_plain_row, F_is_plain_row⟩ := c1.def_ 9 (d := d_is_plain_row) rfl
  obtain ⟨fd_runs_in, F_runs_in⟩ := c1.def_ 10 (d := d_runs_in) rfl
  obtain ⟨fd_cut, F_cut⟩ := c1.def_ 11 (d := d_cut) rfl
  obtain ⟨fd_begun, F_begun⟩ := c1.def_ 12 (d := d_begun) rfl
  obtain ⟨fd_mixed, F_mixed⟩ := c1.def_ 13 (d := d_mixed) rfl
  obtain ⟨fd_take, F_take⟩ := c1.def_ 14 (d := d_take) rfl
  obtain ⟨fd_pick, F_pick⟩ := c1.def_ 15 (d := d_pick) rfl
  obtain ⟨fd_sizes, F_sizes⟩ := c1.def_ 16 (d := d_sizes) rfl
  obtain ⟨fd_boxes, F_boxes⟩ := c1.def_ 17 (d := d_boxes) rfl
  obtain ⟨fd_near, F_near⟩ := c1.def_ 18 (d := d_near) rfl
  obtain ⟨fd_made, F_made⟩ := c1.def_ 19 (d := d_made) rfl
  obtain ⟨fd_is, F_is⟩ := c1.def_ 20 (d := d_is) rfl
  obtain ⟨fd_lcut, F_lcut⟩ := c1.def_ 21 (d := d_lcut) rfl
  obtain ⟨fd_moved, F_moved⟩ := c1.def_ 22 (d := d_moved) rfl
  obtain ⟨fd_ones, F_ones⟩ := c1.def_ 23 (d := d_ones) rfl
  obtain ⟨fd_is_refused, F_is_refused⟩ := c1.def_ 24 (d := d_is_refused) rfl
  obtain ⟨fd_crowd, F_crowd⟩ := c1.def_ 25 (d := d_crowd) rfl
  obtain ⟨fd_law, F_law⟩ := c1.def_ 26 (d := d_law) rfl
  obtain ⟨po_Row_contents, fd_Row_contents, F_Row_contents⟩ := c.p ⟨"Row", "contents", d_Row_contents⟩ (List.mem_of_getElem? (l := propDs) (i := 0) rfl)
  obtain ⟨po_Row_capacities, fd_Row_capacities, F_Row_capacities⟩ := c.p ⟨"Row", "capacities", d_Row_capacities⟩ (List.mem_of_getElem? (l := propDs) (i := 1) rfl)
  have e := hfa.symm.trans (He.glo_ok X G (c1.fact 24 (f := .glo "law") rfl))
  cases e
  have b := FunD.bindsA (ps := ["script"]) F_law fun _ _ _ _ _ _ us hl => match us, hl with | [_], _ => rfl
  refine ⟨fd_law, fun s v => b s [v] rfl, fun base _ _ => ?_⟩
  have O_BadRow := c.s e_BadRow (List.mem_of_getElem? (l := supDs) (i := 0) rfl)
  have B_BadRow : SupS (defScope s_BadRow_init) "field" := ⟨rfl, rfl, rfl, rfl, rfl, rfl, rfl, by decide +kernel, by decide +kernel, by decide⟩
  have M_BadRow : ErrM P w K mg base "BadRow" (He.ga K "BadRow") "field" "field" := err_of (p := e_BadRow) O_BadRow hPf hPt rfl (fun env => ⟨_, rfl⟩) B_BadRow T.n_super T.g_BadRow rfl rfl (fun _ _ _ _ _ _ _ us hl => match us, hl with | [_, _], _ => rfl)
  have Z_BadRow : ErrK K (He.ga K "BadRow") (He.ga K "ScoopError") "field" := ⟨He.exm_ok (c1.fact 49 (f := .exm "BadRow" "ScoopError" true) rfl), ec_BadRow, kit_BadRow, O_BadRow.xf, O_BadRow.no⟩
  have G_is_integer := dfn_is_integer (P := P) (w := w) (base := base) T F_is_integer
  have C_is_integer : Kn P w K mg base CX0 1 "is_integer" ["value"] _ := ⟨_, _, G_is_integer, (He.glo_ok X G (c1.fact 0 (f := .glo "is_integer") rfl)), F_is_integer.kp, (FunD.bindsN F_is_integer fun _ _ _ _ _ _ us hl => match us, hl with | [_], _ => rfl)⟩
  have G_is_between := dfn_is_between (P := P) (w := w) (base := base) T C_is_integer F_is_between
  have C_is_between : Kn P w K mg base CX0 2 "is_between" ["value", "low", "high"] _ := ⟨_, _, G_is_between, (He.glo_ok X G (c1.fact 1 (f := .glo "is_between") rfl)), F_is_between.kp, (FunD.bindsN F_is_between fun _ _ _ _ _ _ us hl => match us, hl with | [_, _, _], _ => rfl)⟩
  have G_is_pair := dfn_is_pair (P := P) (w := w) (base := base) T C_is_integer F_is_pair
  have C_is_pair : Kn P w K mg base CX0 2 "is_pair" ["value"] _ := ⟨_, _, G_is_pair, (He.glo_ok X G (c1.fact 2 (f := .glo "is_pair") rfl)), F_is_pair.kp, (FunD.bindsN F_is_pair fun _ _ _ _ _ _ us hl => match us, hl with | [_], _ => rfl)⟩
  have G_are_pairs := dfn_are_pairs (P := P) (w := w) (base := base) T C_is_pair F_are_pairs
  have C_are_pairs : Kn P w K mg base CX0 3 "are_pairs" ["value"] _ := ⟨_, _, G_are_pairs, (He.glo_ok X G (c1.fact 3 (f := .glo "are_pairs") rfl)), F_are_pairs.kp, (FunD.bindsN F_are_pairs fun _ _ _ _ _ _ us hl => match us, hl with | [_], _ => rfl)⟩
  have G_is_wide_box := dfn_is_wide_box (P := P) (w := w) (base := base) T C_is_between F_is_wide_box
  have C_is_wide_box : Kn P w K mg base CX0 3 "_is_wide_box" ["index", "capacity"] _ := ⟨_, _, G_is_wide_box, (He.glo_ok X G (c1.fact 4 (f := .glo "_is_wide_box") rfl)), F_is_wide_box.kp, (FunD.bindsN F_is_wide_box fun _ _ _ _ _ _ us hl => match us, hl with | [_, _], _ => rfl)⟩
  have G_are_capacities := dfn_are_capacities (P := P) (w := w) (base := base) T C_are_pairs C_is_wide_box F_are_capacities
  have C_are_capacities : Kn P w K mg base CX0 4 "_are_capacities" ["value"] _ := ⟨_, _, G_are_capacities, (He.glo_ok X G (c1.fact 5 (f := .glo "_are_capacities") rfl)), F_are_capacities.kp, (FunD.bindsN F_are_capacities fun _ _ _ _ _ _ us hl => match us, hl with | [_], _ => rfl)⟩
  have G_are_contents := dfn_are_contents (P := P) (w := w) (base := base) T C_are_pairs F_are_contents
  have C_are_contents : Kn P w K mg base CX0 4 "_are_contents" ["value", "capacities"] _ := ⟨_, _, G_are_contents, (He.glo_ok X G (c1.fact 6 (f := .glo "_are_contents") rfl)), F_are_contents.kp, (FunD.bindsN F_are_contents fun _ _ _ _ _ _ us hl => match us, hl with | [_, _], _ => rfl)⟩
  have G_Row_init := dfn_Row_init (P := P) (w := w) (base := base) T C_are_capacities C_are_contents R_Row F_Row_init
  obtain ⟨ds_Row, dv_Row, db_Row⟩ := FunD.binds1 (ps := ["self", "contents", "capacities"]) F_Row_init 3 2 (List.cons_ne_nil _ _) rfl fun _ _ _ _ _ _ _ us its h1 h2 => match us, its, h1, h2 with | [_, _, _], [_, _], _, _ => ⟨_, rfl, rfl⟩
  have C_Row : C8.Mak P w K mg base 5 "Row" (He.ga K "Row") _ [] := ⟨_, _, _, ds_Row, He.mkr_ok (c1.fact 55 (f := .mkr "Row") rfl), G_Row_init, He.glo_ok X G (c1.fact 25 (f := .glo "Row") rfl), db_Row, dv_Row⟩
  obtain ⟨ds_Row1, dv_Row1, db_Row1⟩ := FunD.binds1 (ps := ["self", "contents", "capacities"]) F_Row_init 2 1 (List.cons_ne_nil _ _) rfl fun _ _ _ _ _ _ _ us its h1 h2 => match us, its, h1, h2 with | [_, _], [_, _], _, _ => ⟨_, rfl, rfl⟩
  have C_Row1 : C8.Mak P w K mg base 5 "Row" (He.ga K "Row") _ [.ref (He.dflAt ("Row", some "__init__") 1 K)] := ⟨_, _, _, ds_Row1, He.mkr_ok (c1.fact 55 (f := .mkr "Row") rfl), G_Row_init, He.glo_ok X G (c1.fact 25 (f := .glo "Row") rfl), db_Row1, dv_Row1⟩
  have G_Row_contents := dfn_Row_contents (P := P) (w := w) (base := base) T R_Row F_Row_contents
  have C_contents : Prp P w K mg base 1 (He.ga K "Row") "contents" _ := ⟨_, _, _, _, L_Row, po_Row_contents, G_Row_contents, (FunD.bindsN F_Row_contents fun _ _ _ _ _ _ us hl => match us, hl with | [_], _ => rfl)⟩
  have G_Row_capacities := dfn_Row_capacities (P := P) (w := w) (base := base) T R_Row F_Row_capacities
  have C_capacities : Prp P w K mg base 1 (He.ga K "Row") "capacities" _ := ⟨_, _, _, _, L_Row, po_Row_capacities, G_Row_capacities, (FunD.bindsN F_Row_capacities fun _ _ _ _ _ _ us hl => match us, hl with | [_], _ => rfl)⟩
  have G_Row_is_plain := dfn_Row_is_plain (P := P) (w := w) (base := base) T R_Row F_Row_is_plain
  have C_is_plain : C8.Met P w K mg base 1 (He.ga K "Row") "is_plain" _ [] := ⟨_, _, _, [], L_Row, He.meth_ok (c1.fact 56 (f := .meth "Row" "is_plain") rfl), G_Row_is_plain, (FunD.bindsN F_Row_is_plain fun _ _ _ _ _ _ us hl => match us, hl with | [_], _ => rfl), .nil⟩
  have G_is_plain_row := dfn_is_plain_row (P := P) (w := w) (base := base) T C_is_plain R_Row Z_Row F_is_plain_row
  have C_is_plain_row : Kn P w K mg base CX0 2 "is_plain_row" ["value"] _ := ⟨_, _, G_is_plain_row, (He.glo_ok X G (c1.fact 7 (f := .glo "is_plain_row") rfl)), F_is_plain_row.kp, (FunD.bindsN F_is_plain_row fun _ _ _ _ _ _ us hl => match us, hl with | [_], _ => rfl)⟩
  have G_runs_in := dfn_runs_in (P := P) (w := w) (base := base) T C_contents F_runs_in
  have C_runs_in : Kn P w K mg base CX0 3 "runs_in" ["row"] _ := ⟨_, _, G_runs_in, (He.glo_ok X G (c1.fact 8 (f := .glo "runs_in") rfl)), F_runs_in.kp, (FunD.bindsN F_runs_in fun _ _ _ _ _ _ us hl => match us, hl with | [_], _ => rfl)⟩
  have G_cut := dfn_cut (P := P) (w := w) (base := base) T C_is_plain_row C_runs_in C_Row1 hE M_BadRow F_cut
  have C_cut : Kn P w K mg base (L2.CX P w) 7 "cut" ["row"] _ := ⟨_, _, G_cut, (He.glo_ok X G (c1.fact 9 (f := .glo "cut") rfl)), F_cut.kp, (FunD.bindsN F_cut fun _ _ _ _ _ _ us hl => match us, hl with | [_], _ => rfl)⟩
  have C_cut_kw : KnK P w K mg base (L2.CX P w) 7 "cut" ["row"] _ 0 ["row"] (fun vs zs => gkw_cut vs zs) :=
    ⟨_, _, _, G_cut, (He.glo_ok X G (c1.fact 9 (f := .glo "cut") rfl)), F_cut.kp, kb_of F_cut 0 ["row"] (fun us ws => gkw_cut us ws) gkw_cut_rel (fun _ _ _ _ _ _ us ws h1 h2 => match us, ws, h1, h2 with | [], [_], _, _ => rfl)⟩
  have G_begun := dfn_begun (P := P) (w := w) (base := base) T F_begun
  have C_begun : Kn P w K mg base CX0 1 "_law_begun" ["script"] _ := ⟨_, _, G_begun, (He.glo_ok X G (c1.fact 10 (f := .glo "_law_begun") rfl)), F_begun.kp, (FunD.bindsN F_begun fun _ _ _ _ _ _ us hl => match us, hl with | [_], _ => rfl)⟩
  have G_mixed := dfn_mixed (P := P) (w := w) (base := base) T F_mixed
  have C_mixed : Kn P w K mg base CX0 1 "_law_mixed" ["state"] _ := ⟨_, _, G_mixed, (He.glo_ok X G (c1.fact 11 (f := .glo "_law_mixed") rfl)), F_mixed.kp, (FunD.bindsN F_mixed fun _ _ _ _ _ _ us hl => match us, hl with | [_], _ => rfl)⟩
  have G_take := dfn_take (P := P) (w := w) (base := base) T C_mixed F_take
  have C_take : Kn P w K mg base CX0 2 "_law_take" ["state", "size"] _ := ⟨_, _, G_take, (He.glo_ok X G (c1.fact 12 (f := .glo "_law_take") rfl)), F_take.kp, (FunD.bindsN F_take fun _ _ _ _ _ _ us hl => match us, hl with | [_, _], _ => rfl)⟩
  have G_pick := dfn_pick (P := P) (w := w) (base := base) T C_take F_pick
  have C_pick : Kn P w K mg base CX0 3 "_law_pick" ["state", "some"] _ := ⟨_, _, G_pick, (He.glo_ok X G (c1.fact 13 (f := .glo "_law_pick") rfl)), F_pick.kp, (FunD.bindsN F_pick fun _ _ _ _ _ _ us hl => match us, hl with | [_, _], _ => rfl)⟩
  have G_sizes := dfn_sizes (P := P) (w := w) (base := base) T C_take C_pick F_sizes
  have C_sizes : Kn P w K mg base CX0 4 "_law_sizes" ["state", "most"] _ := ⟨_, _, G_sizes, (He.glo_ok X G (c1.fact 14 (f := .glo "_law_sizes") rfl)), F_sizes.kp, (FunD.bindsN F_sizes fun _ _ _ _ _ _ us hl => match us, hl with | [_, _], _ => rfl)⟩
  have G_boxes := dfn_boxes (P := P) (w := w) (base := base) T C_take C_pick F_boxes
  have C_boxes : Kn P w K mg base CX0 4 "_law_boxes" ["state", "sizes", "most"] _ := ⟨_, _, G_boxes, (He.glo_ok X G (c1.fact 15 (f := .glo "_law_boxes") rfl)), F_boxes.kp, (FunD.bindsN F_boxes fun _ _ _ _ _ _ us hl => match us, hl with | [_, _, _], _ => rfl)⟩
  have G_near := dfn_near (P := P) (w := w) (base := base) T F_near
  have C_near : Kn P w K mg base CX0 1 "_law_near" ["boxes"] _ := ⟨_, _, G_near, (He.glo_ok X G (c1.fact 16 (f := .glo "_law_near") rfl)), F_near.kp, (FunD.bindsN F_near fun _ _ _ _ _ _ us hl => match us, hl with | [_], _ => rfl)⟩
  have G_made := dfn_made (P := P) (w := w) (base := base) T C_Row F_made
  have C_made : Kn P w K mg base CX0 7 "_law_made" ["boxes", "sizes"] _ := ⟨_, _, G_made, (He.glo_ok X G (c1.fact 17 (f := .glo "_law_made") rfl)), F_made.kp, (FunD.bindsN F_made fun _ _ _ _ _ _ us hl => match us, hl with | [_, _], _ => rfl)⟩
  have G_is := dfn_is (P := P) (w := w) (base := base) T C_contents C_capacities F_is
  have C_is : KnG P w K mg base CX0 3 "_law_is" ["made", "boxes", "sizes"] _ := ⟨_, _, G_is, (He.glo_ok X G (c1.fact 18 (f := .glo "_law_is") rfl)), F_is.kp, (FunD.bindsN F_is fun _ _ _ _ _ _ us hl => match us, hl with | [_, _, _], _ => rfl)⟩
  have G_lcut := dfn_lcut (P := P) (w := w) (base := base) T F_lcut
  have C_lcut : Kn P w K mg base CX0 1 "_law_cut" ["places"] _ := ⟨_, _, G_lcut, (He.glo_ok X G (c1.fact 19 (f := .glo "_law_cut") rfl)), F_lcut.kp, (FunD.bindsN F_lcut fun _ _ _ _ _ _ us hl => match us, hl with | [_], _ => rfl)⟩
  have G_moved := dfn_moved (P := P) (w := w) (base := base) T F_moved
  have C_moved : Kn P w K mg base CX0 1 "_law_moved" ["boxes", "far"] _ := ⟨_, _, G_moved, (He.glo_ok X G (c1.fact 20 (f := .glo "_law_moved") rfl)), F_moved.kp, (FunD.bindsN F_moved fun _ _ _ _ _ _ us hl => match us, hl with | [_, _], _ => rfl)⟩
  have G_ones := dfn_ones (P := P) (w := w) (base := base) T F_ones
  have C_ones : Kn P w K mg base CX0 1 "_law_ones" ["places"] _ := ⟨_, _, G_ones, (He.glo_ok X G (c1.fact 21 (f := .glo "_law_ones") rfl)), F_ones.kp, (FunD.bindsN F_ones fun _ _ _ _ _ _ us hl => match us, hl with | [_], _ => rfl)⟩
  have G_is_refused := dfn_is_refused (P := P) (w := w) (base := base) T C_cut Z_BadRow F_is_refused
  have C_is_refused : Kn P w K mg base CX0 9 "_law_is_refused" ["made"] _ := ⟨_, _, G_is_refused, (He.glo_ok X G (c1.fact 22 (f := .glo "_law_is_refused") rfl)), F_is_refused.kp, (FunD.bindsN F_is_refused fun _ _ _ _ _ _ us hl => match us, hl with | [_], _ => rfl)⟩
  have G_crowd := dfn_crowd (P := P) (w := w) (base := base) T C_take C_pick F_crowd
  have C_crowd : Kn P w K mg base CX0 4 "_law_crowd" ["state"] _ := ⟨_, _, G_crowd, (He.glo_ok X G (c1.fact 23 (f := .glo "_law_crowd") rfl)), F_crowd.kp, (FunD.bindsN F_crowd fun _ _ _ _ _ _ us hl => match us, hl with | [_], _ => rfl)⟩
  exact dfn_law (P := P) (w := w) (base := base) T C_begun C_pick C_take C_sizes C_boxes C_near C_crowd C_lcut C_made C_moved C_ones C_is C_is_refused C_cut C_cut_kw F_law
end SR
open PySem PySem.W PySem.Calls PyProof.Rows
set_option maxRecDepth 100000 in
set_option maxHeartbeats 0 in
theorem PySem.Challenge.cw_scooprow_k13_cuts_holds : PySem.Challenge.rw_scooprow_k13_cuts.Holds := by
  w_on; o_law
  refine HandSHeadRun.head_any (r := OpenLaw.row PySem.Challenge.rw_scooprow_k13_cuts) (q := view (OpenLaw.row PySem.Challenge.rw_scooprow_k13_cuts).prog [39]) (H := SR.hk) (ob := SR.ob) (M := 4000) (loose := SR.others) (d := HandSHeadRun.topDef (OpenLaw.row PySem.Challenge.rw_scooprow_k13_cuts).prog 39) (kwd := []) SR.ob_eq
    (by kernel_rfl) (fun s => by kernel_rfl) SR.run (by kernel_rfl) (by kernel_rfl) (by kernel_rfl) (by rfl) (by first | assumption | decide +kernel) (by decide +kernel) ⟨rfl, rfl, rfl, rfl, rfl, by decide +kernel⟩ ?hw ?hc
  case hw => w_witness2
  case hc =>
    refine SR.walk_ofG (l := PySem.Challenge.rw_scooprow_k13_cuts) (n := 63) (k := 12) (x := "script") (CX := L2.CX0) rfl (by decide) (by kernel_rfl) ⟨rfl, by decide, by decide⟩ ?F (fun _ _ _ _ z => z)
    intro w mg fa h Y G hmg0
    obtain ⟨K, KX, c⟩ := Y
    have hmg : mg ("law" : PySem.Str) = some (.ref fa) := by
      have e : (HandSHeadRun.topDef (OpenLaw.row PySem.Challenge.rw_scooprow_k13_cuts).prog 39).name = ("law" : PySem.Str) := by kernel_rfl
      rw [← e]
      exact hmg0
    obtain ⟨fd, hb, hF⟩ := SR.facts (P := (PySem.Challenge.rw_scooprow_k13_cuts).prog) (w := w) KX G hmg c rfl rfl
    exact ⟨K, fd, (SR.spLaw K), KX, hb, fun H a ns hl _ hS => ⟨a, ns, rfl, hS, hl, fun _ => rfl⟩, hF⟩
