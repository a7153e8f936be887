import PyProof.Rows.All
import Wide.All
import OpenK.AllK
import Wide.FinOn
import HandS.ForMost
import HandS.Base
import HandS.Call
import HandS.List
import HandS.Comp
import HandS.Ends
import HandS.Dict
import HandS.Iter
import HandS.Text
import HandS.Words
import HandS.WordsList
import HandS.WordsDict
import HandS.ForExc
import HandS.Defaults
import HandS.HeadEnd
import HandS.IsInst
import HandS.ExcIs
import PyProof.ReprRoads
import PyProof.CallFns
import HandS.ExcField
import HandS.CallSlots
import HandS.NoneIn
import HandS.Set
import HandS.Star
import KE.DataMinMax
import PyProof.CollectIter
import HandS.Codes
import HandS.StrMore
import HandS.FStr
import HandS.HeadHook2
import HandS.HeadHook4
import HandS.Head0
import HandS.Head1
import HandS.Head2
import HandS.SetBool
import HandS.Strs
import HandS.Sort
import HandS.SortRule
import HandS.Conv
import HandS.Zip
import HandS.Walk
import KE.KDictPairs
import HandS.Style
import HandS.Small
import HandS.More
import HandS.ListItems
import HandS.Property
import HandS.OwnEq
import PyProof.InstNe
import PyProof.NeKinds
import HandS.SortInts
import HandS.Flow
import HandS.Exc
import HandS.ExcInit
import KE.KSuper
import KE.KExcSuper
import HandS.ExcValue
import HandS.DictComp
import KE.KItemsList
import KE.KDictList
import HandS.SortKw
import HandS.SetFor
import HandS.Remove
import PySem.Challenge.RW_scooprow_k62_rows_written_and_read
set_option Elab.async false
set_option linter.all false
set_option maxRecDepth 100000
set_option maxHeartbeats 4000000
namespace SR
open PySem L2
abbrev qAdd : R2 := rI0 fun i j => .int (i + j)
abbrev qSub : R2 := rI0 fun i j => .int (i - j)
abbrev qMul : R2 := rI CMul fun i j => .int (i * j)
abbrev qFd : R2 := rI CDivN fun i j => .int (i.fdiv j)
abbrev qMod : R2 := rI (fun _ j => j ≠ 0) fun i j => .int (i.fmod j)
abbrev qPow : R2 := rI CPow fun i j => .int (i ^ j.toNat)
abbrev qLe : R2 := rI0 fun i j => .bl (decide (i ≤ j))
abbrev qGt : R2 := rI0 fun i j => .bl (decide (j < i))
abbrev qGe : R2 := rI0 fun i j => .bl (decide (j ≤ i))
abbrev qInt1 : List V → Hp → VK → Prop := fun xs H Q => (∃ i, xs = [.int i] ∧ Q (.int i) H) ∨ ∃ k, xs = [.bl k] ∧ Q (.int (if k then 1 else 0)) H
abbrev qListOf (K : PySem.W.Frag) : List V → Hp → VK → Prop := fun xs H Q => ∃ p ys, xs = [.ref p] ∧ (SqL K H p ys ∨ SqT K H p ys) ∧ ∀ l, H l = none → Q (.ref l) (upd H l (.lst ys))
abbrev qLen (K : PySem.W.Frag) : List V → Hp → VK → Prop := fun xs H Q => ∃ p ys, xs = [.ref p] ∧ (SqL K H p ys ∨ SqT K H p ys) ∧ Q (.int ys.length) H
abbrev qMin2 : List V → Hp → VK → Prop := fun xs H Q => ∃ i j, xs = [.int i, .int j] ∧ Q (.int (if j < i then j else i)) H
def stK (g c : Addr) (r t : Int) : List (Key × V) := [(.inr "great", .ref g), (.inr "cells", .ref c), (.inr "rest", .int r), (.inr "turn", .int t)]
def St0 (H : Hp) (d g c : Addr) (b : Nat) (r t : Int) (gs cs : List Int) : Prop :=
  H d = some (.dK (stK g c r t)) ∧ H g = some (.lst (gs.map V.int)) ∧ H c = some (.lst (cs.map V.int)) ∧ g ≠ c ∧ 0 ≤ t ∧ t + b ≤ 2 ^ 40
def StB (H : Hp) (d g c : Addr) (b : Nat) : Prop := ∃ r t gs cs, St0 H d g c b r t gs cs
/-- all but the state's dict and its great cells stay -/
def Kp (d g : Addr) (H H' : Hp) : Prop := ∀ a o, a ≠ d → a ≠ g → H a = some o → H' a = some o
theorem Kp.refl {d g : Addr} (H : Hp) : Kp d g H H := fun _ _ _ _ h => h
theorem Kp.trans {d g : Addr} {H H1 H2 : Hp} (x : Kp d g H H1) (y : Kp d g H1 H2) : Kp d g H H2 := fun a o h1 h2 h => y a o h1 h2 (x a o h1 h2 h)
theorem Kp.new {d g : Addr} {H : Hp} {p : Addr} {o : HO} (h : H p = none) : Kp d g H (upd H p o) := fun a u _ _ e => by
  rw [upd_ne (ne_of_none e h)]
  exact e
theorem StB.mono {H : Hp} {d g c : Addr} {b b' : Nat} (h : StB H d g c b) (e : b' ≤ b) : StB H d g c b' := by
  obtain ⟨r, t, gs, cs, h1, h2, h3, h4, h5, h6⟩ := h
  exact ⟨r, t, gs, cs, h1, h2, h3, h4, h5, by omega⟩
theorem St0.dg {H : Hp} {d g c : Addr} {b : Nat} {r t : Int} {gs cs : List Int} (h : St0 H d g c b r t gs cs) : d ≠ g := ne_of h.1 h.2.1 (by intro z; cases z)
theorem St0.dc {H : Hp} {d g c : Addr} {b : Nat} {r t : Int} {gs cs : List Int} (h : St0 H d g c b r t gs cs) : d ≠ c := ne_of h.1 h.2.2.1 (by intro z; cases z)
/-- a new object leaves the state -/
theorem StB.new {H : Hp} {d g c : Addr} {b : Nat} (h : StB H d g c b) {p : Addr} {o : HO} (hp : H p = none) : StB (upd H p o) d g c b := by
  obtain ⟨r, t, gs, cs, h1, h2, h3, h4, h5⟩ := h
  exact ⟨r, t, gs, cs, by rw [upd_ne (ne_of_none h1 hp)]; exact h1, by rw [upd_ne (ne_of_none h2 hp)]; exact h2, by rw [upd_ne (ne_of_none h3 hp)]; exact h3, h4, h5⟩
/-- an object that is none of the state's is changed -/
theorem StB.upd {H : Hp} {d g c : Addr} {b : Nat} (h : StB H d g c b) {p : Addr} {o : HO} (h1 : p ≠ d) (h2 : p ≠ g) (h3 : p ≠ c) : StB (upd H p o) d g c b := by
  obtain ⟨r, t, gs, cs, e1, e2, e3, e4⟩ := h
  exact ⟨r, t, gs, cs, by rw [upd_ne h1.symm]; exact e1, by rw [upd_ne h2.symm]; exact e2, by rw [upd_ne h3.symm]; exact e3, e4⟩
def spMixed : Sp := fun vs H Q _ => ∃ (d g c : Addr) (b : Nat), vs = [.ref d] ∧ ∃ r t gs cs, St0 H d g c (b + 1) r t gs cs ∧
  ∀ (i : Int) H', St0 H' d g c b r (t + 1) gs cs → Kp d g H H' → Q (.int i) H'
def spTake : Sp := fun vs H Q _ => ∃ (d g c : Addr) (b : Nat) (n : Int), vs = [.ref d, .int n] ∧ StB H d g c (b + 1) ∧ 0 < n ∧ n < 2 ^ 29 ∧
  ∀ (i : Int) H', 0 ≤ i → i < n → StB H' d g c b → Kp d g H H' → Q (.int i) H'
def spPick (K : PySem.W.Frag) : Sp := fun vs H Q _ => ∃ (d g c : Addr) (b : Nat) (a : Addr) (xs : List V), vs = [.ref d, .ref a] ∧ StB H d g c (b + 1) ∧ SqL K H a xs ∧ a ≠ d ∧ a ≠ g ∧ 0 < xs.length ∧ xs.length < 1000 ∧
  ∀ v H', v ∈ xs → StB H' d g c b → Kp d g H H' → Q v H'
def spBegun (K : PySem.W.Frag) : Sp := fun vs H Q _ => ∃ (a : Addr) (ns : List Int), vs = [.ref a] ∧ SqL K H a (ns.map V.int) ∧ ns.length ≤ 63 ∧
  ∀ d g c H', StB H' d g c (2 ^ 39) → (∀ x o, H x = some o → H' x = some o) → H d = none → H g = none → H c = none → Q (.ref d) H'
theorem kstr {x y : Str} (h : x ≠ y) : ¬ (Sum.inr x : Key) = Sum.inr y := fun e => h (Sum.inr.inj e)
end SR
set_option Elab.async false
set_option linter.all false
set_option maxRecDepth 100000
set_option maxHeartbeats 4000000
namespace SR
open PySem L2
section
variable {H : Hp} {d g c : Addr} {r t : Int} {K : PySem.W.Frag}
theorem get_great (h : H d = some (.dK (stK g c r t))) : DGet H d (.str "great") (some (.ref g)) := .inl ⟨_, .inr "great", .inl h, rfl, by rw [stK, valV_pos rfl]⟩
theorem get_cells (h : H d = some (.dK (stK g c r t))) : DGet H d (.str "cells") (some (.ref c)) := .inl ⟨_, .inr "cells", .inl h, rfl, by rw [stK, valV_neg (kstr (by decide +kernel)), valV_pos rfl]⟩
theorem get_rest (h : H d = some (.dK (stK g c r t))) : DGet H d (.str "rest") (some (.int r)) := .inl ⟨_, .inr "rest", .inl h, rfl, by rw [stK, valV_neg (kstr (by decide +kernel)), valV_neg (kstr (by decide +kernel)), valV_pos rfl]⟩
theorem get_turn (h : H d = some (.dK (stK g c r t))) : DGet H d (.str "turn") (some (.int t)) := .inl ⟨_, .inr "turn", .inl h, rfl, by rw [stK, valV_neg (kstr (by decide +kernel)), valV_neg (kstr (by decide +kernel)), valV_neg (kstr (by decide +kernel)), valV_pos rfl]⟩
theorem putK_rest (y : Int) : putK (stK g c r t) (.inr "rest") (.int y) = stK g c y t := by
  have n1 : ¬ ("great" : Str) = "rest" := by decide +kernel
  have n2 : ¬ ("cells" : Str) = "rest" := by decide +kernel
  have n3 : ¬ ("turn" : Str) = "rest" := by decide +kernel
  simp [putK, stK, n1, n2, n3]
theorem putK_turn (y : Int) : putK (stK g c r t) (.inr "turn") (.int y) = stK g c r y := by
  have n1 : ¬ ("great" : Str) = "turn" := by decide +kernel
  have n2 : ¬ ("cells" : Str) = "turn" := by decide +kernel
  have n3 : ¬ ("rest" : Str) = "turn" := by decide +kernel
  simp [putK, stK, n1, n2, n3]
theorem put_rest (y : Int) (h : H d = some (.dK (stK g c r t))) : DPut H d (.str "rest") (.int y) (upd H d (.dK (stK g c y t))) :=
  .inl ⟨_, .inr "rest", h, rfl, small1000 (by show 4 ≤ 1000; decide), by rw [putK_rest]⟩
theorem put_turn (y : Int) (h : H d = some (.dK (stK g c r t))) : DPut H d (.str "turn") (.int y) (upd H d (.dK (stK g c r y))) :=
  .inl ⟨_, .inr "turn", h, rfl, small1000 (by show 4 ≤ 1000; decide), by rw [putK_turn]⟩
/-- the state with another rest, another turn -/
theorem St0.rest {b : Nat} {gs cs : List Int} (h : St0 H d g c b r t gs cs) (y : Int) : St0 (upd H d (.dK (stK g c y t))) d g c b y t gs cs :=
  ⟨upd_same, by rw [upd_ne h.dg.symm]; exact h.2.1, by rw [upd_ne h.dc.symm]; exact h.2.2.1, h.2.2.2⟩
theorem St0.turn {b : Nat} {gs cs : List Int} (h : St0 H d g c (b + 1) r t gs cs) : St0 (upd H d (.dK (stK g c r (t + 1)))) d g c b r (t + 1) gs cs :=
  ⟨upd_same, by rw [upd_ne h.dg.symm]; exact h.2.1, by rw [upd_ne h.dc.symm]; exact h.2.2.1, h.2.2.2.1, by have := h.2.2.2.2; omega, by have := h.2.2.2.2; omega⟩
theorem St0.pop {b : Nat} {x : Int} {gs cs : List Int} (h : St0 H d g c b r t (x :: gs) cs) : St0 (upd H g (.lst (gs.map V.int))) d g c b r t gs cs :=
  ⟨by rw [upd_ne h.dg]; exact h.1, upd_same, by rw [upd_ne h.2.2.2.1.symm]; exact h.2.2.1, h.2.2.2⟩
theorem St0.new {b : Nat} {gs cs : List Int} (h : St0 H d g c b r t gs cs) {p : Addr} {o : HO} (hp : H p = none) : St0 (upd H p o) d g c b r t gs cs :=
  ⟨by rw [upd_ne (ne_of_none h.1 hp)]; exact h.1, by rw [upd_ne (ne_of_none h.2.1 hp)]; exact h.2.1, by rw [upd_ne (ne_of_none h.2.2.1 hp)]; exact h.2.2.1, h.2.2.2⟩
theorem Kp.own {o : HO} : Kp d g H (upd H d o) := fun a u h1 _ e => by rw [upd_ne h1]; exact e
theorem Kp.ownG {o : HO} : Kp d g H (upd H g o) := fun a u _ h2 e => by rw [upd_ne h2]; exact e
end
def primes : List Int := [2147483629, 2147483587, 2147483579, 2147483563, 2147483549, 2147483543]
theorem primes_mem {i : Nat} {x : V} (h : (primes.map V.int)[i]? = some x) : ∃ p : Int, x = .int p ∧ 2147483543 ≤ p ∧ p ≤ 2147483629 := by
  have hx := List.mem_of_getElem? h
  obtain ⟨p, hp, rfl⟩ := List.mem_map.mp hx
  refine ⟨p, rfl, ?_⟩
  simp [primes] at hp
  omega
theorem ints_at {ns : List Int} {i : Nat} {x : V} (h : (ns.map V.int)[i]? = some x) : ∃ z, ns[i]? = some z ∧ x = .int z := by
  rw [List.getElem?_map] at h
  cases e : ns[i]? with
  | none => rw [e] at h; cases h
  | some z => rw [e] at h; exact ⟨z, rfl, (Option.some.inj h).symm⟩
def t_mixed (K : PySem.W.Frag) : TS := tSeq (tAsg (tOp qAdd (tDGet (tVar 0) (tC (.str "turn"))) (tC (.int 1))) (gName 1))
  (tSeq (sDPut (tVar 0) (tC (.str "turn")) (tVar 1))
  (tSeq (tAsg (tC (.int 0)) (gName 2))
  (tSeq (tFor (iList K (tLst (tCons (tC (.int 2147483629)) (tCons (tC (.int 2147483587)) (tCons (tC (.int 2147483579)) (tCons (tC (.int 2147483563)) (tCons (tC (.int 2147483549)) (tCons (tC (.int 2147483543)) (tNil))))))))) (gName 3)
  (tSeq (tAsg (tOp qAdd (tOp qMul (tC (.int 130363)) (tVar 1)) (tOp qFd (tVar 3) (tC (.int 13)))) (gName 4))
  (tSeq (tFor (iList K (tDGet (tVar 0) (tC (.str "cells")))) (gName 5)
  (tAsg (tOp qMod (tCB qInt1 (tCons (tOp qAdd (tOp qMul (tVar 4) (tC (.int 48271))) (tVar 5)) (tNil))) (tVar 3)) (gName 4)))
  (tAsg (tOp qAdd (tOp qMul (tVar 2) (tC (.int 2147483647))) (tOp qMod (tCB qInt1 (tCons (tOp qPow (tVar 4) (tC (.int 5))) (tNil))) (tVar 3))) (gName 2)))))
  (tRet (tVar 2)))))
theorem pure_mixed {K : PySem.W.Frag} (vs : List V) (H : Hp) (Q : VK) (E : XK) (h : spMixed vs H Q E) : t_mixed K { nx := fun _ H' => Q .non H', rt := Q } (start ["state", "turn", "found", "prime", "blend", "cell"] vs) H := by
  obtain ⟨d, g, c, b, rfl, r, t, gs, cs, S, k⟩ := h
  -- turn = state["turn"] + 1
  refine ⟨_, rfl, d, _, rfl, get_turn S.1, _, _, rfl, rfl, ?_⟩
  -- state["turn"] = turn
  refine ⟨_, rfl, _, rfl, d, _, rfl, put_turn (t + 1) S.1, ?_⟩
  have S1 := S.turn
  have kp1 : Kp d g H (upd H d (.dK (stK g c r (t + 1)))) := Kp.own
  generalize upd H d (.dK (stK g c r (t + 1))) = H1 at S1 kp1 ⊢
  -- found = 0; for prime in [..]
  refine ⟨by show 6 ≤ sizeLine; exact Nat.le_of_lt (small1000 (by decide)), fun l hl => ⟨l, rfl, ⟨_, SqL.of upd_same⟩, ?_⟩⟩
  have S2 := S1.new (o := .lst (primes.map V.int)) hl
  have kp2 : Kp d g H (upd H1 l (.lst (primes.map V.int))) := kp1.trans (Kp.new hl)
  have hL : upd H1 l (.lst (primes.map V.int)) l = some (.lst (primes.map V.int)) := upd_same
  have ht := S2.2.2.2.2
  refine for_list (K := K) (a := l) (xs := primes.map V.int) (fun i σ H2 => H2 = upd H1 l (.lst (primes.map V.int)) ∧ ∃ (f : Int) (v3 v4 v5 : Option V), σ = [some (.ref d), some (.int (t + 1)), some (.int f), v3, v4, v5])
    ⟨rfl, 0, none, none, none, rfl⟩ (fun i σ H2 _ e => e.1 ▸ SqL.of hL) ?_ ?_
  · rintro i x σ H2 hi ⟨rfl, f, v3, v4, v5, rfl⟩
    obtain ⟨p, rfl, hp1, hp2⟩ := primes_mem hi
    generalize upd H1 l (.lst (primes.map V.int)) = H3 at S2 kp2 hL
    -- blend = 130363 * turn + prime // 13
    refine ⟨_, rfl, 130363, t + 1, rfl, rfl, .inl ⟨by decide, by decide⟩, _, rfl, _, _, rfl, rfl, ⟨by decide, by decide⟩, _, _, rfl, rfl, ?_⟩
    -- for cell in state["cells"]
    refine ⟨_, rfl, d, _, rfl, get_cells S2.1, c, rfl, ⟨_, SqL.of S2.2.2.1⟩, ?_⟩
    refine for_list (K := K) (a := c) (xs := cs.map V.int) (fun j σ H4 => H4 = H3 ∧ ∃ (bl : Int) (w5 : Option V), σ = [some (.ref d), some (.int (t + 1)), some (.int f), some (.int p), some (.int bl), w5] ∧ bl.natAbs < 2 ^ 64)
      ⟨rfl, _, v5, rfl, ?_⟩ (fun j σ H4 _ e => e.1 ▸ SqL.of S2.2.2.1) ?_ ?_
    · have : p.fdiv 13 = p / 13 := Int.fdiv_eq_ediv_of_nonneg _ (by decide)
      rw [this]; omega
    · rintro j x σ H4 hj ⟨rfl, bl, w5, rfl, hb⟩
      obtain ⟨z, _, rfl⟩ := ints_at hj
      refine ⟨_, rfl, bl, 48271, rfl, rfl, .inr ⟨by decide, by decide⟩, _, rfl, _, _, rfl, rfl, .inl ⟨_, rfl, _, rfl, _, p, rfl, rfl, by omega, ?_⟩⟩
      refine ⟨rfl, _, _, rfl, ?_⟩
      have h0 : 0 ≤ (bl * 48271 + z).fmod p := Int.fmod_nonneg_of_pos _ (by omega)
      have h1 : (bl * 48271 + z).fmod p < p := Int.fmod_lt_of_pos _ (by omega)
      omega
    · rintro σ H4 ⟨rfl, bl, w5, rfl, hb⟩
      -- found = found * 2147483647 + int(blend ** 5) % prime
      refine ⟨_, rfl, f, 2147483647, rfl, rfl, .inr ⟨by decide, by decide⟩, _, rfl, bl, 5, rfl, rfl, ⟨by decide, by decide, hb⟩, .inl ⟨_, rfl, _, rfl, _, p, rfl, rfl, by omega, _, _, rfl, rfl, ?_⟩⟩
      exact ⟨rfl, _, _, _, _, rfl⟩
  · rintro σ H2 ⟨rfl, f, v3, v4, v5, rfl⟩
    exact ⟨_, rfl, k f _ S2 kp2⟩
end SR
set_option Elab.async false
set_option linter.all false
set_option maxRecDepth 100000
set_option maxHeartbeats 4000000
namespace SR
open PySem L2
theorem SqL.same {K : PySem.W.Frag} {H H' : Hp} {a : Addr} {xs : List V} (e : Same H H') (h : SqL K H a xs) : SqL K H' a xs := Same.seq e h
theorem SqT.same {K : PySem.W.Frag} {H H' : Hp} {a : Addr} {xs : List V} (e : Same H H') (h : SqT K H a xs) : SqT K H' a xs := by
  rcases h with (h | ⟨o, h⟩) | h
  · exact .inl (.inl (e _ _ h))
  · exact .inl (.inr ⟨o, e _ _ h⟩)
  · exact .inr h
mutual
theorem Dp.same {K : PySem.W.Frag} {H H' : Hp} (e : Same H H') : ∀ (d : PyData) (v : V), Dp K H v d → Dp K H' v d
  | .none, _, h => by cases h; exact .non
  | .bool _, _, h => by cases h; exact .bl _
  | .int _, _, h => by cases h; exact .int _
  | .str _, _, h => by cases h; exact .str _
  | .list ds, _, h => by
    cases h with
    | lst h1 h2 => exact .lst (SqL.same e h1) (DpAll.same e ds _ h2)
  | .tuple ds, _, h => by
    cases h with
    | tup h1 h2 => exact .tup (SqT.same e h1) (DpAll.same e ds _ h2)
  | .dict _, _, h => nomatch h
theorem DpAll.same {K : PySem.W.Frag} {H H' : Hp} (e : Same H H') : ∀ (ds : List PyData) (vs : List V), DpAll K H vs ds → DpAll K H' vs ds
  | [], _, h => by cases h; exact .nil
  | d :: ds, _, h => by
    cases h with
    | cons h1 h2 => exact .cons (Dp.same e d _ h1) (DpAll.same e ds _ h2)
end
theorem dp_ints {K : PySem.W.Frag} {H : Hp} : ∀ ns : List Int, DpAll K H (ns.map V.int) (ns.map PyData.int)
  | [] => .nil
  | n :: ns => .cons (.int n) (dp_ints ns)
theorem lay_ints : ∀ ns : List Int, PyData.canLayAll0 (ns.map PyData.int) = true
  | [] => rfl
  | n :: ns => by
    show (PyData.canLay0 (PyData.int n) && PyData.canLayAll0 (ns.map PyData.int)) = true
    rw [lay_ints ns] <;> rfl
theorem depth_ints : ∀ ns : List Int, PyData.depthAll (ns.map PyData.int) = 0
  | [] => rfl
  | n :: ns => by
    show max (PyData.depth (PyData.int n)) (PyData.depthAll (ns.map PyData.int)) = 0
    rw [depth_ints ns]
    simp [PyData.depth]
theorem shaped_list {ds : List PyData} (h : PyData.canLayAll0 ds = true) (h2 : PyData.depthAll ds ≤ 60) : SeqAt.shaped (.list ds) = true := by
  have e1 : PyData.canLay0 (.list ds) = true := h
  have e2 : PyData.depth (.list ds) ≤ 64 := by simp only [PyData.depth]; omega
  unfold SeqAt.shaped
  rw [e1, decide_eq_true e2] <;> rfl
theorem shaped_tup {ds : List PyData} (h : PyData.canLayAll0 ds = true) (h2 : PyData.depthAll ds ≤ 60) : SeqAt.shaped (.tuple ds) = true := by
  have e1 : PyData.canLay0 (.tuple ds) = true := h
  have e2 : PyData.depth (.tuple ds) ≤ 64 := by simp only [PyData.depth]; omega
  unfold SeqAt.shaped
  rw [e1, decide_eq_true e2] <;> rfl
theorem shaped_ints (ns : List Int) : SeqAt.shaped (.list (ns.map PyData.int)) = true := shaped_list (lay_ints ns) (by rw [depth_ints]; decide)
def hid (d g : Addr) (H : Hp) : Hp := fun a => if a = d ∨ a = g then none else H a
theorem hid_some {d g : Addr} {H : Hp} {a : Addr} {o : HO} (h : hid d g H a = some o) : H a = some o ∧ a ≠ d ∧ a ≠ g := by
  unfold hid at h
  by_cases e : a = d ∨ a = g
  · rw [if_pos e] at h; cases h
  · rw [if_neg e] at h
    exact ⟨h, fun z => e (.inl z), fun z => e (.inr z)⟩
theorem hid_of {d g : Addr} {H : Hp} {a : Addr} {o : HO} (h : H a = some o) (h1 : a ≠ d) (h2 : a ≠ g) : hid d g H a = some o := by
  unfold hid
  rw [if_neg (fun e => e.elim h1 h2)]
  exact h
theorem Kp.hid {d g : Addr} {H H' : Hp} (k : Kp d g H H') : Same (hid d g H) (hid d g H') := fun a o h => by
  obtain ⟨h0, h1, h2⟩ := hid_some h
  exact hid_of (k a o h1 h2 h0) h1 h2
def t_take (K : PySem.W.Frag) : TS := tSeq (tIfS (tAnd (tTest (tOp rEq (tDGet (tVar 0) (tC (.str "rest"))) (tC (.int 0)))) (tTest (tOp (rNeD K) (tDGet (tVar 0) (tC (.str "great"))) (tLst (tNil)))))
  (sDPut (tVar 0) (tC (.str "rest")) (tBM K "list" rPopAt (tDGet (tVar 0) (tC (.str "great"))) (tCons (tC (.int 0)) (tNil))))
  (tIfS (tTest (tOp rEq (tDGet (tVar 0) (tC (.str "rest"))) (tC (.int 0))))
  (sDPut (tVar 0) (tC (.str "rest")) (tCall spMixed [] E0 (tCons (tVar 0) (tNil))))
  (tNext)))
  (tSeq (tAsg (tOp qMod (tCB qInt1 (tCons (tDGet (tVar 0) (tC (.str "rest"))) (tNil))) (tVar 1)) (gName 2))
  (tSeq (sDPut (tVar 0) (tC (.str "rest")) (tOp qFd (tDGet (tVar 0) (tC (.str "rest"))) (tVar 1)))
  (tRet (tVar 2))))
theorem pure_take {K : PySem.W.Frag} (vs : List V) (H : Hp) (Q : VK) (E : XK) (h : spTake vs H Q E) : t_take K { nx := fun _ H' => Q .non H', rt := Q } (start ["state", "size", "found"] vs) H := by
  obtain ⟨d, g, c, b, n, rfl, ⟨r, t, gs, cs, S⟩, hn0, hn1, k⟩ := h
  -- behind the if
  have fin : ∀ (H1 : Hp) (r1 t1 : Int) (gs1 : List Int), St0 H1 d g c b r1 t1 gs1 cs → Kp d g H H1 →
      (tSeq (tAsg (tOp qMod (tCB qInt1 (tCons (tDGet (tVar 0) (tC (.str "rest"))) (tNil))) (tVar 1)) (gName 2))
        (tSeq (sDPut (tVar 0) (tC (.str "rest")) (tOp qFd (tDGet (tVar 0) (tC (.str "rest"))) (tVar 1))) (tRet (tVar 2)))) { nx := fun _ H' => Q .non H', rt := Q } [some (.ref d), some (.int n), none] H1 := by
    intro H1 r1 t1 gs1 S1 kp
    refine ⟨_, rfl, d, _, rfl, get_rest S1.1, .inl ⟨_, rfl, _, rfl, r1, n, rfl, rfl, by omega, ?_⟩⟩
    refine ⟨_, rfl, d, _, rfl, get_rest S1.1, _, rfl, r1, n, rfl, rfl, ⟨by omega, by omega⟩, _, rfl, d, _, rfl, put_rest _ S1.1, _, rfl, ?_⟩
    exact k _ _ (Int.fmod_nonneg_of_pos _ hn0) (Int.fmod_lt_of_pos _ hn0) ⟨_, _, _, _, S1.rest _⟩ (kp.trans Kp.own)
  have S' : St0 H d g c b r t gs cs := ⟨S.1, S.2.1, S.2.2.1, S.2.2.2.1, S.2.2.2.2.1, by have := S.2.2.2.2.2; omega⟩
  refine ⟨_, rfl, d, _, rfl, get_rest S.1, rfl, _, rfl, ?_⟩
  by_cases e : r = 0
  · subst e
    rw [decide_eq_true (rfl : V.int 0 = V.int 0)]
    refine iteT ⟨_, rfl, d, _, rfl, get_great S.1, by show 0 ≤ sizeLine; exact Nat.zero_le _, fun p hp => ⟨.list (gs.map PyData.int), .list [], ?_, ?_, shaped_ints gs, shaped_ints [], _, rfl, ?_⟩⟩
    · exact .lst (SqL.of (by rw [upd_ne (ne_of_none S.2.1 hp)]; exact S.2.1)) (dp_ints gs)
    · exact .lst (SqL.of upd_same) .nil
    have S2 := S'.new (o := .lst []) hp
    have S2b := S.new (o := .lst []) hp
    have kp2 : Kp d g H (upd H p (.lst [])) := Kp.new hp
    cases gs with
    | nil =>
      -- great is empty: the state is mixed
      rw [show (!PyData.eqv (.list (([] : List Int).map PyData.int)) (.list [])) = false from rfl]
      refine iteF ⟨_, rfl, d, _, rfl, get_rest S2.1, rfl, _, rfl, ?_⟩
      rw [decide_eq_true (rfl : V.int 0 = V.int 0)]
      refine iteT ⟨_, rfl, d, g, c, b, rfl, _, _, _, _, S2b, fun i H3 S3 kp3 => ⟨_, rfl, d, _, rfl, put_rest i S3.1, ?_⟩⟩
      exact fin _ _ _ _ (S3.rest i) ((kp2.trans kp3).trans Kp.own)
    | cons x gs =>
      rw [show (!PyData.eqv (.list ((x :: gs).map PyData.int)) (.list [])) = true from rfl]
      refine iteT ⟨_, rfl, d, _, rfl, get_great S2.1, .inl ⟨rfl, _, .inl (.inl S2.2.1)⟩, g, _, 0, 0, .int x, rfl, rfl, S2.2.1, by decide, by decide, ?_, rfl, ?_⟩
      · simp [seqIndex?]
      have S3 := S2.pop
      refine ⟨_, rfl, d, _, rfl, put_rest x S3.1, ?_⟩
      exact fin _ _ _ _ (S3.rest x) ((kp2.trans Kp.ownG).trans Kp.own)
  · have e1 : ¬ V.int r = V.int 0 := fun z => e (by injection z)
    rw [decide_eq_false e1]
    refine iteF ⟨_, rfl, d, _, rfl, get_rest S.1, rfl, _, rfl, ?_⟩
    rw [decide_eq_false e1]
    exact iteF (fin _ _ _ _ S' (Kp.refl H))
def t_pick (K : PySem.W.Frag) : TS := tRet (tOp (rIxL K) (tVar 1) (tCall spTake [] E0 (tCons (tVar 0) (tCons (tCB (qLen K) (tCons (tVar 1) (tNil))) (tNil)))))
theorem SqL.kp {K : PySem.W.Frag} {d g a : Addr} {H H' : Hp} {xs : List V} (k : Kp d g H H') (h : SqL K H a xs) (h1 : a ≠ d) (h2 : a ≠ g) : SqL K H' a xs := by
  rcases h with (h | ⟨o, h⟩) | h
  · exact .inl (.inl (k _ _ h1 h2 h))
  · exact .inl (.inr ⟨o, k _ _ h1 h2 h⟩)
  · exact .inr h
theorem pure_pick {K : PySem.W.Frag} (vs : List V) (H : Hp) (Q : VK) (E : XK) (h : spPick K vs H Q E) : t_pick K { nx := fun _ H' => Q .non H', rt := Q } (start ["state", "some"] vs) H := by
  obtain ⟨d, g, c, b, a, xs, rfl, S, hL, h1, h2, h3, h4, k⟩ := h
  refine ⟨_, rfl, _, rfl, _, rfl, _, xs, rfl, .inl hL, d, g, c, b, xs.length, rfl, S, by omega, by omega, fun i H1 hi0 hi1 S1 kp => ?_⟩
  obtain ⟨j, rfl⟩ : ∃ j : Nat, i = (j : Int) := ⟨i.toNat, by omega⟩
  have hj : j < xs.length := by omega
  exact ⟨a, xs, j, xs[j], rfl, rfl, SqL.kp kp hL h1 h2, atI_nat (List.getElem?_eq_getElem hj), k _ _ (List.getElem_mem hj) S1 kp⟩
def t_begun (K : PySem.W.Frag) : TS := tSeq (tAsg (tLc (iList K (tVar 0)) (gName 2) (tTest (tOp qGe (tVar 2) (tOp qPow (tC (.int 10)) (tC (.int 18))))) (tOp qSub (tVar 2) (tOp qPow (tC (.int 10)) (tC (.int 18)))) [2]) (gName 1))
  (tRet (tDisp ((tC (.str "great"), tVar 1) :: (tC (.str "cells"), tCB (qListOf K) (tCons (tVar 0) (tNil))) :: (tC (.str "rest"), tC (.int 0)) :: (tC (.str "turn"), tC (.int 0)) :: [])))
theorem merge_st {g c : Addr} : mergeK [] [((.inr "great" : Key), V.ref g), (.inr "cells", .ref c), (.inr "rest", .int 0), (.inr "turn", .int 0)] = stK g c 0 0 := by
  have n1 : ¬ ("great" : Str) = "cells" := by decide +kernel
  have n2 : ¬ ("great" : Str) = "rest" := by decide +kernel
  have n3 : ¬ ("cells" : Str) = "rest" := by decide +kernel
  have n4 : ¬ ("great" : Str) = "turn" := by decide +kernel
  have n5 : ¬ ("cells" : Str) = "turn" := by decide +kernel
  have n6 : ¬ ("rest" : Str) = "turn" := by decide +kernel
  simp [mergeK, putK, stK, n1, n2, n3, n4, n5, n6]
theorem pure_begun {K : PySem.W.Frag} (vs : List V) (H : Hp) (Q : VK) (E : XK) (h : spBegun K vs H Q E) : t_begun K { nx := fun _ H' => Q .non H', rt := Q } (start ["script", "wide", "cell"] vs) H := by
  obtain ⟨a, ns, rfl, hL, hlen, k⟩ := h
  refine ⟨_, rfl, a, rfl, ⟨_, hL⟩, fun D hD => lc_list (K := K) (a := a) (xs := ns.map V.int) (fun i H2 => ∃ zs : List Int, H2 D = some (.lst (zs.map V.int)) ∧ zs.length ≤ i ∧ Same H H2)
    ⟨[], upd_same, Nat.le_refl _, fun b o e => by rw [upd_ne (ne_of_none e hD)]; exact e⟩ (fun i H2 _ ⟨_, _, _, s⟩ => Same.seq s hL) ?_ ?_⟩
  · rintro i x H2 hi ⟨zs, h1, h2, s⟩
    have hil := (List.getElem?_eq_some_iff.mp hi).1
    rw [List.length_map] at hil
    obtain ⟨z, _, rfl⟩ := ints_at hi
    refine ⟨rfl, _, rfl, 10, 18, rfl, rfl, ⟨by decide, by decide, by decide⟩, z, _, rfl, rfl, _, rfl, ?_⟩
    refine ite2 (fun _ => ?_) (fun _ => ⟨zs, h1, by omega, s⟩)
    refine ⟨_, rfl, 10, 18, rfl, rfl, ⟨by decide, by decide, by decide⟩, z, _, rfl, rfl, _, h1, small1000 (by rw [List.length_map]; omega), ?_⟩
    refine ⟨zs ++ [z - 10 ^ (18 : Int).toNat], by rw [upd_same, List.map_append]; rfl, by rw [List.length_append, List.length_singleton]; omega, fun b o e => ?_⟩
    rw [upd_ne (ne_of_none e hD)]
    exact s b o e
  · rintro H2 ⟨zs, h1, h2, s⟩
    -- return {..}
    refine fun p hp => ?_
    have npD : p ≠ D := fun e => by rw [e] at hp; rw [h1] at hp; cases hp
    refine ⟨_, rfl, _, rfl, a, _, rfl, .inl (Same.seq (fun b o e => by rw [upd_ne (ne_of_none e hp)]; exact e) (Same.seq s hL)), fun l hl => ?_⟩
    have nlp : p ≠ l := fun e => by rw [← e, upd_same] at hl; cases hl
    have hl2 : H2 l = none := by rw [upd_ne nlp.symm] at hl; exact hl
    have nlD : D ≠ l := ne_of_none h1 hl2
    refine ⟨by rw [upd_ne nlp, upd_same], [((.inr "great" : Key), V.ref D), (.inr "cells", .ref l), (.inr "rest", .int 0), (.inr "turn", .int 0)], rfl, by show 4 ≤ 15; decide, ?_⟩
    rw [merge_st]
    refine k p D l _ ⟨0, 0, zs, ns, upd_same, ?_, ?_, nlD, by decide, by decide⟩ (fun x o e => ?_) ?_ hD ?_
    · rw [upd_ne npD.symm, upd_ne nlD, upd_ne npD.symm]; exact h1
    · rw [upd_ne nlp.symm, upd_same]
    · have e2 := s x o e
      rw [upd_ne (ne_of_none e2 hp), upd_ne (ne_of_none e2 hl2), upd_ne (ne_of_none e2 hp)]
      exact e2
    · exact Same.free s hp
    · exact Same.free s hl2
end SR
set_option Elab.async false
set_option linter.all false
set_option maxRecDepth 100000
set_option maxHeartbeats 4000000
namespace SR
open PySem PySem.Spec PyProof.Rows L2
abbrev Gs (A : Around) : Prop := A.guards = some []
/-- as FnOk, but promised only under Gs -/
structure FnG (P : Program) (w : World) (K : PySem.W.Frag) (mg : Str → Option Value) (base : Heap) (CX : CXT) (k : Nat) (f : Addr) (fd : FuncData) (ps : List Str) (sp : Sp) : Prop where
  size : ∀ vs H Q E, sp vs H Q E → vs.length = ps.length
  goes : ∀ (A : Around) (out : List Env) (s : Shared) (H : Hp) (gv : Args) (us : List Value) (vs : List V) (Q : VK) (E : XK), Gs A → Room k A → Env0 P w K mg base A out s H → BindsTo s fd gv (ps.zip us) → Vals vs us → sp vs H Q E →
    codeAny (model P w) A (.call (.ref f) gv) (CR CX out P w H s Q E) s
section
variable {X : Cx} {CX : CXT} {k : Nat} {f : Addr} {fd : FuncData} {ps : List Str} {sp : Sp} {dvs : List V} {ds : List Value} {E : XK} {x : Str} {p pos : Pos} {e : Expr} {es : List Expr} {t : TA}
theorem FnG.at (F : FnG X.prog X.w X.K X.mg X.base CX k f fd ps sp) (hgs : Gs X.A) {pins : List (Addr × Obj)} {σ : L2.St} {H : Hp} {s : Shared} {Q : VK} {us : List Value} {vs : List V} (hr : Room k X.A) (hb : Binds X.K fd ps ds) (hd : Vals dvs ds) (hx : Passes CX X E)
    (I : Inv X pins σ H s) (r : Vals vs us) (h : sp (vs ++ dvs) H Q E) : wpAny (model X.prog X.w) X.A (call (.ref f) us) (EP X pins σ Q) X.xe s := by
  have both : Vals (vs ++ dvs) (us ++ ds) := r.append hd
  have lens : (us ++ ds).length = ps.length := both.length.symm.trans (F.size _ _ _ _ h)
  refine wpAny_call (codeAny_mono (F.goes _ _ s H _ _ _ Q E hgs hr I.env0 (hb s us I.kIn lens) both h) fun out s2 hq => ?_)
  match out, hq with
  | .error e, hq => exact hx _ _ _ _ e s2 I hq
  | .ok (.ret u), hq => exact I.after hq
theorem pe_callG1 (F : FnG X.prog X.w X.K X.mg X.base CX k f fd ps sp) (hgs : Gs X.A) (hr : Room k X.A) (hg : Gl X x) (hm : X.mg x = some (.ref f)) (hk : PySem.W.keepIn X.K (.ref f) = true) (hb : Binds X.K fd ps ds) (hd : Vals dvs ds) (hx : Passes CX X E)
    (ha : PA X (e :: es) t) (hdb : (x == ("__debug__" : Str)) = false := by decide) (he : starEach (e :: es) X.env = (false, eval e X.env) :: starEach es X.env := by rfl) (hpl : (backTo pos (starEach es X.env)).any (·.1) = false := by rfl) :
    PE X (.Call (.Name x p) (e :: es) [] pos) (tCall sp dvs E t) := ⟨fun pins s σ H Q I h =>
  wpAny_Call_Name_kw (ld_glob I hg hm (PySem.W.callWith_K (h₀ := X.base) I.ok.mod.kin hk (thn (ha.run pos pins s σ H _ I h) fun _ _ ⟨_, _, I1, r, q⟩ => ⟨I1.kIn, F.at hgs hr hb hd hx I1 r q⟩) he hpl) hdb)⟩
end
section
variable {P : Program} {w : World} {K : PySem.W.Frag} {mg : Str → Option Value} {base : Heap} {x qual : Str} {params : Arguments} {body : List Stmt} {scope : Scope} {dvs : List V} {kws : List (Str × V)} {f : Addr} {fd : FuncData}
/-- a def's body under Gs: by FnOk of the very def, whose context is given -/
theorem okG {CX : CXT} {N ps : List Str} {k : Nat} {sp : Sp} (F : FunD K x qual params body scope dvs kws f fd) (S : FnScope N ps scope) (len : ∀ vs H Q E, sp vs H Q E → vs.length = ps.length)
    (hbody : ∀ (cdv : Value) (A : Around) (outer : List Env) (s : Shared) (H : Hp) (vs : List V) (Q : VK) (E : XK), Gs A → Room k (A.deeper (envOfC qual scope s.heap.objs.size f cdv)) → sp vs H Q E →
      ∃ t, PSs (cxOf CX P w K mg base N qual scope f cdv A outer s H E) body t ∧ t { nx := fun _ H' => Q .non H', rt := Q } (start N vs) H) : FnG P w K mg base CX (k + 1) f fd ps sp := by
  refine ⟨len, fun A out s H gv us vs Q E hgs hr e0 hb hv hs => ?_⟩
  obtain ⟨oc, od, dV, kV, doc, pm, an, cdv, ct, osl, rfl, lk, hcd, _, _⟩ := F.ex
  have hl := len _ _ _ _ hs
  have old : ∀ b o, base.get? b = some o → s.heap.get? b = some o := fun b o z => (e0.bs b o z).1
  have KX : K.In s.heap := e0.mod.kin.keeps old
  refine codeAny_call_function hr.depth (KX _ _ lk) rfl S.co S.gen rfl (PySem.W.codeRec_of KX hcd) (hb _ _ _ _ ?_)
  have params_known : ∀ y ∈ ps.zip us, scope.names.lookup y.1 = some .local ∨ (scope.names.lookup y.1 = some .cell ∧ ((cellsFrom (s.heap.objs.size + 1) scope.names []).lookup y.1).isSome = true) := by
    rintro ⟨n, v⟩ hy
    exact (S.par n (List.of_mem_zip hy).1).imp id fun q => ⟨q, PySem.W.cellsFrom_some _ _ _ (.inl q)⟩
  refine wpAny_newFunctionEnv_cells S.kind params_known fun env he s1 z => ?_
  subst he
  refine ⟨(e0.mod.nolimit.keeps old).keeps z.toInCall.keep, codeAny_func ?_⟩
  obtain ⟨t, ht, hq⟩ := hbody cdv A out s H vs Q E hgs (hr.deeper _) hs
  refine wpAny_mono (ht.run [] s1 (start N vs) H _ (inv_start S hr.hd e0 hl hv z) hq) (fun fl s' hf => ?_) fun _ _ hf => hf
  match fl, hf with
  | .ret u, ⟨v, _, H', J, rv, q⟩ => exact ⟨v, H', J.os, J.bare, J.base, J.hok, rv, q⟩
  | .next, ⟨_, H', J, q⟩ => exact ⟨.non, H', J.os, J.bare, J.base, J.hok, rfl, q⟩
  | .brk, ⟨_, _, _, q⟩ => exact q.elim
  | .cont, ⟨_, _, _, q⟩ => exact q.elim
end
def dRepr : PyData → Str
  | .none => "None"
  | .bool b => if b then "True" else "False"
  | .int i => toString i
  | .str x => reprText x
  | d => d.shown
section
variable {X : Cx}
/-- repr(x), x data that can be shown -/
def rRepr (K : PySem.W.Frag) : List V → Hp → VK → Prop := fun xs H Q => ∃ x d, xs = [x] ∧ Dp K H x d ∧ d.showable = true ∧ d.depth ≤ 60 ∧ (dRepr d).length ≤ sizeLine ∧ Q (.str (dRepr d)) H
mutual
theorem dp_nodict {K : PySem.W.Frag} {H : Hp} : ∀ (d : PyData) (v : V), Dp K H v d → d.hasDict = false
  | .none, _, _ => rfl
  | .bool _, _, _ => rfl
  | .int _, _, _ => rfl
  | .str _, _, _ => rfl
  | .list ds, _, h => by
    cases h with
    | lst _ h2 => exact dp_nodicts ds _ h2
  | .tuple ds, _, h => by
    cases h with
    | tup _ h2 => exact dp_nodicts ds _ h2
  | .dict _, _, h => nomatch h
theorem dp_nodicts {K : PySem.W.Frag} {H : Hp} : ∀ (ds : List PyData) (vs : List V), DpAll K H vs ds → PyData.hasDictAll ds = false
  | [], _, _ => rfl
  | d :: ds, _, h => by
    cases h with
    | cons h1 h2 =>
      show (PyData.hasDict d || PyData.hasDictAll ds) = false
      rw [dp_nodict d _ h1, dp_nodicts ds _ h2] <;> rfl
end
theorem call_reprD (hgs : Gs X.A) (hu : X.A.units + 64 < cLine) : CallR X (.builtin "repr") (rRepr X.K) := by
  intro pins s σ H xs us Q I r h
  obtain ⟨x, d, rfl, hd, hsh, hdep, hz, q⟩ := h
  obtain ⟨u, rfl, ru⟩ := vals1 r
  cases hd with
  | non => cases (show u = Value.none from ru); exact PySem.P.repr_of_none ⟨.str _, H, I.tok _, ⟨_, rfl⟩, q⟩
  | bl b => cases (show u = Value.bool b from ru); exact PySem.P.repr_of_bool ⟨.str _, H, I.tok _, ⟨_, rfl⟩, q⟩
  | int i =>
    obtain ⟨t, rfl⟩ := (show ∃ t, u = Value.int i t from ru)
    exact PySem.P.repr_of_int (of_decide_eq_true hsh) ⟨.str _, H, I.tok _, ⟨_, rfl⟩, q⟩
  | str y =>
    obtain ⟨t, rfl⟩ := (show ∃ t, u = Value.str y t from ru)
    exact PySem.P.repr_of_str ⟨.str _, H, I.tok _, ⟨_, rfl⟩, q⟩ hz
  | @lst a xs ds h1 h2 =>
    have hd : Dp X.K H (.ref a) (.list ds) := .lst h1 h2
    obtain ⟨as, rd⟩ := Dp.reads I _ _ _ hd ru
    cases (show u = Value.ref a from ru)
    exact repr_of_reads' rd hsh (fun z => by rw [dp_nodict _ _ hd] at z; cases z) hgs (by omega) (fun _ _ z => z) (fun h' u' tk hk => ⟨.str _, H, I.kept hk, ⟨_, rfl⟩, q⟩) hz
  | @tup a xs ds h1 h2 =>
    have hd : Dp X.K H (.ref a) (.tuple ds) := .tup h1 h2
    obtain ⟨as, rd⟩ := Dp.reads I _ _ _ hd ru
    cases (show u = Value.ref a from ru)
    exact repr_of_reads' rd hsh (fun z => by rw [dp_nodict _ _ hd] at z; cases z) hgs (by omega) (fun _ _ z => z) (fun h' u' tk hk => ⟨.str _, H, I.kept hk, ⟨_, rfl⟩, q⟩) hz
end
theorem law_callG {P : Program} {w : World} {K : PySem.W.Frag} {mg mb : Str → Option Value} {CX : CXT} {k : Nat} {fa a : Addr} {fd : FuncData} {x : Str} {sp : Sp} {s : Shared} {vs : List Value} {ns : List Int}
    (KX : K.In s.heap) (hns : s.heap.Ns mainGlobals mg) (hb : s.heap.Ns builtinsNs mb) (hbb : ∀ x : Str, x ≠ "__name__" → mb x = bootBuiltins x) (hlim : s.heap.NoLimit) (hg : s.gens = #[])
    (ha : s.heap.get? a = some { cls := .type "list", data := .seq vs.toArray }) (hi : IntsAre vs ns) (hl : ns.length ≤ sizeLine) (hr : Room k callerA)
    (F : ∀ base : Heap, K.In base → base.Ns mainGlobals mg → FnG P w K mg base CX k fa fd [x] sp) (hbind : ∀ (s : Shared) (u : Value), BindsTo s fd ⟨[u], []⟩ [(x, u)])
    (hsp : ∀ H : Hp, Only H → SqL K H a (ns.map V.int) → sp [.ref a] H (fun v _ => v = .bl true) fun _ _ _ => False)
    (hCX : ∀ H e s', CX [] H s (fun _ _ _ => False) e s' → False) :
    codeAny (model P w) callerA (.call (.ref fa) ⟨[.ref a], []⟩) (fun r s' => r = .ok (.ret (.bool true)) ∧ OldK s.heap s'.heap ∧ s'.os = s.os ∧ AllBare s'.gens) s := by
  have rv := vals_ints hi
  -- H tracks the script at most; what it does not track is the base
  have run_at : ∀ H : Hp, Only H → SqL K H a (ns.map V.int) → HOk P w H s.heap → (∀ b, H b ≠ none → b = a ∧ K.lookup a = none) →
      codeAny (model P w) callerA (.call (.ref fa) ⟨[.ref a], []⟩) (fun r s' => r = .ok (.ret (.bool true)) ∧ OldK s.heap s'.heap ∧ s'.os = s.os ∧ AllBare s'.gens) s := by
    intro H hO hS hok hA
    have untr : ∀ {b : Addr} {o : Obj}, s.heap.get? b = some o → (b = a → False) → (hidT s.heap H).get? b = some o := fun {b o} z n => hidT_get z (by
      by_cases q : H b = none
      · exact q
      · exact (n (hA b q).1).elim)
    have ns_ : ∀ {b : Addr} {m : Str → Option Value}, s.heap.Ns b m → (hidT s.heap H).Ns b m := by
      rintro b m ⟨o, es, ep, z, dz, rest⟩
      refine ⟨o, es, ep, untr z (fun q => ?_), dz, rest⟩
      rw [q, ha] at z
      cases z
      cases dz
    have KB : K.In (hidT s.heap H) := fun b o z => by
      by_cases q : H b = none
      · exact hidT_get (KX b o z) q
      · obtain ⟨q1, q2⟩ := hA b q
        rw [q1, q2] at z
        cases z
    obtain ⟨mc, l1, l2⟩ := hlim
    have e0 : Env0 P w K mg (hidT s.heap H) callerA [] s H :=
      ⟨rfl, ⟨KB, ns_ hns, ⟨mb, ns_ hb, hbb⟩, ⟨mc, ns_ l1, l2⟩⟩, fun b o z => of_hidT z, Nat.le_of_eq (hidT_size _ _), trivial, fun b z => (List.not_mem_nil z).elim, hok, .of_eq hg⟩
    refine codeAny_mono ((F _ KB (ns_ hns)).goes callerA [] s H ⟨[.ref a], []⟩ [.ref a] [.ref a] _ _ rfl hr e0 (hbind s (.ref a)) (.cons rfl .nil) (hsp H hO hS)) fun r s' h => ?_
    match r, h with
    | .error e, h => exact (hCX H e s' h).elim
    | .ok (.ret u), ⟨v, H', os, bare, un, hok', rel, isT⟩ =>
      cases (show v = V.bl true from isT)
      cases (show u = Value.bool true from rel)
      refine ⟨rfl, OldK.of_keep fun b o z => ?_, os, bare⟩
      rcases hO b with q | ⟨ob, xs, q⟩
      · exact un.keep b o z q (List.not_mem_nil) (List.not_mem_nil)
      · have z1 := (hok b _ q).1
        have z2 := (hok' b _ (un.frzs b ob _ q)).1
        exact z2.trans (z1.symm.trans z)
  have lenV := hi.length
  by_cases hk : K.lookup a = none
  · refine run_at (fun b => if b = a then some (.frz { cls := .type "list", data := .seq vs.toArray } (.lst (ns.map V.int))) else none) (fun b => ?_) (.inl (.inr ⟨_, if_pos rfl⟩)) (fun b u z => ?_) (fun b z => ?_)
    · by_cases q : b = a
      · exact .inr ⟨_, _, if_pos q⟩
      · exact .inl (if_neg q)
    · by_cases q : b = a
      · subst q
        cases (if_pos rfl).symm.trans z
        exact ⟨ha, by rw [List.length_map]; exact hl, vs, _, rv, ha⟩
      · cases (if_neg q).symm.trans z
    · by_cases q : b = a
      · exact ⟨q, hk⟩
      · exact (z (if_neg q)).elim
  · obtain ⟨o, ho⟩ := Option.ne_none_iff_exists'.mp hk
    cases ha.symm.trans (KX a o ho)
    exact run_at (fun _ => none) (fun _ => .inl rfl) (.inr ⟨_, vs.toArray, _, ho, rfl, rfl, rfl, by rw [List.size_toArray, lenV]; exact hl, by simpa using rv⟩) (fun b u z => nomatch (show (none : Option HO) = some u from z)) fun b z => absurd rfl z
theorem walk_ofG {l : PySem.W.OpenLaw} {n k : Nat} {q : Program} {loose : List Str} {XP : (Str → Option Value) → Heap → Prop} {YP : World → Heap → Prop} {d : DefRec} {CX : CXT} {x : Str}
    (hn : l.most = some n) (hn2 : n ≤ sizeLine) (hdf : d.params.defaults = []) (hr : Room k callerA)
    (F : ∀ (w : World) (mg : Str → Option Value) (fa : Addr) (h : Heap), YP w h → h.Ns mainGlobals mg → mg d.name = some (.ref fa) →
      ∃ (K : PySem.W.Frag) (fd : FuncData) (sp : Sp), K.In h ∧ (∀ (s : Shared) (u : Value), BindsTo s fd ⟨[u], []⟩ [(x, u)]) ∧
        (∀ (H : Hp) (a : Addr) (ns : List Int), ns.length ≤ n → Only H → SqL K H a (ns.map V.int) → sp [.ref a] H (fun v _ => v = .bl true) fun _ _ _ => False) ∧
        ∀ base : Heap, K.In base → base.Ns mainGlobals mg → FnG l.prog w K mg base CX k fa fd [x] sp)
    (hCX : ∀ (H : Hp) (s : Shared) (e : Value) (s' : Shared), CX [] H s (fun _ _ _ => False) e s' → False) :
    PySem.W.WalkO q loose XP YP l.row.toRowW d [] (fun f vs => PySem.call f vs) :=
  Att.attach_call hn hdf fun w s₀ s₁ mg mb fa o pm cd doc a vs ns G Y ho hd hcd hmg hobj hints hlen hg => by
    obtain ⟨K, fd, sp, KX, hb, hsp, hF⟩ := F w mg fa _ Y G.T.g hmg
    exact law_callG KX G.T.g G.T.b G.T.builtins G.T.nolimit hg hobj hints (Nat.le_trans hlen hn2) hr hF hb (fun H hO hS => hsp H a ns hlen hO hS) fun H e s' => hCX H s₁ e s'
end SR
set_option Elab.async false
set_option linter.all false
set_option maxRecDepth 100000
set_option maxHeartbeats 4000000
namespace SR
open PySem PySem.Spec PyProof.Rows L2
section
variable {X : Cx} {CX : CXT} {k m : Nat} {f : Addr} {fd : FuncData} {ps ks : List Str} {sp : Sp} {E : L2.St → XK} {x : Str} {p pos : Pos} {e : Expr} {es : List Expr} {kws : List Keyword} {t tk : TA} {g : List Value → List Value → List Value} {gV : List V → List V → List V}
theorem run_kw (F : FnOk X.prog X.w X.K X.mg X.base CX k f fd ps sp) (hr : Room k X.A) (hb : KBn X.K fd ps m ks g gV) {pins : List (Addr × Obj)} {σ : L2.St} {H : Hp} {s : Shared} {Q : VK} {us ws : List Value} {vs zs : List V} (hx : PassesAt CX X σ (E σ))
    (I : Inv X pins σ H s) (r : Vals vs us) (rz : Vals zs ws) (l1 : vs.length = m) (l2 : zs.length = ks.length) (h : sp (gV vs zs) H Q (E σ)) : wpAny (model X.prog X.w) X.A (call (.ref f) us (ks.zip ws)) (EP X pins σ Q) X.xe s := by
  refine wpAny_call (codeAny_mono (F.run _ _ s H _ _ _ Q _ hr I.env0 (hb.to s us ws I.kIn (r.length.symm.trans l1) (rz.length.symm.trans l2)) (hb.rel r rz) h) fun out s2 hq => ?_)
  match out, hq with
  | .error e, hq => exact hx _ _ _ e s2 I hq
  | .ok (.ret u), hq => exact I.after hq
/-- f(k = v, ..) | f(e, .., k = v, ..); n: how many keywords -/
def tKw (n : Nat) (sp : Sp) (gV : List V → List V → List V) (E : L2.St → XK) (t tk : TA) : TE := fun σ H Q => t σ H fun vs H1 => tk σ H1 fun zs H2 => zs.length = n ∧ sp (gV vs zs) H2 Q (E σ)
theorem pe_kw0 (F : FnOk X.prog X.w X.K X.mg X.base CX k f fd ps sp) (hr : Room k X.A) (hg : Gl X x) (hm : X.mg x = some (.ref f)) (hk : PySem.W.keepIn X.K (.ref f) = true) (hb : KBn X.K fd ps 0 ks g gV) (hx : ∀ σ, PassesAt CX X σ (E σ)) (hkw : PK X kws tk)
    (hall : (backToKw pos (keywordEach kws X.env)).all (·.1.isSome) = true := by rfl) (hks : (backToKw pos (keywordEach kws X.env)).filterMap (·.1) = ks := by rfl) (hdb : (x == ("__debug__" : Str)) = false := by decide)
    (hpl : ((backTo pos (starEach [] X.env)).any (·.1) || (backToKw pos (keywordEach kws X.env)).any (·.1.isNone)) = false := by rfl) :
    PE X (.Call (.Name x p) [] kws pos) (tKw ks.length sp gV E tNil tk) := by
  refine ⟨fun pins s σ H Q I h => wpAny_Call_Name_kw (ld_glob I hg hm (PySem.W.callWith_KW0 (h₀ := X.base) I.ok.mod.kin hk hall ?_ hpl) hdb)⟩
  refine thn (hkw.run pos pins s σ H _ I h) fun ws s2 ⟨zs, H2, I2, rz, l2, q2⟩ => ⟨I2.kIn, ?_⟩
  rw [hks]
  exact run_kw (us := []) (vs := []) F hr hb (hx σ) I2 .nil rz rfl l2 q2
/-- how keywords bind, where a def has no defaults -/
theorem kb_of {K : PySem.W.Frag} {qual : Str} {params : Arguments} {body : List Stmt} {scope : Scope} {kws : List (Str × V)} {f : Addr} {fd : FuncData} {ps : List Str} (F : FunD K x qual params body scope [] kws f fd) (n : Nat) (ks : List Str) (g : {α : Type} → List α → List α → List α)
    (hrel : ∀ {vs zs : List V} {us ws : List Value}, Vals vs us → Vals zs ws → Vals (g vs zs) (g us ws))
    (h : ∀ (kV doc pm : Value) (an : Option Addr) (cdv ct : Value) (us ws : List Value), us.length = n → ws.length = ks.length → bindArgs (PySem.W.fnOf x qual params body scope .none kV doc pm an cdv ct) ⟨us, ks.zip ws⟩ = pure (ps.zip (g us ws))) :
    KBn K fd ps n ks (fun us ws => g us ws) (fun vs zs => g vs zs) := by
  obtain ⟨oc, od, dV, kV, doc, pm, an, cdv, ct, osl, rfl, lk, hcd, hD, hK⟩ := F.ex
  rcases hD with ⟨_, rfl⟩ | ⟨e, _⟩
  · exact ⟨fun s us ws X l1 l2 => .of_eq (h kV doc pm an cdv ct us ws l1 l2), hrel⟩
  · exact absurd rfl e
end
end SR
set_option Elab.async false
set_option linter.all false
set_option maxRecDepth 100000
set_option maxHeartbeats 2000000
namespace SR
open PySem PySem.Spec PyProof.Rows L2
/-- *xs, y = a list of at least one: all but the last, in a new list; the last -/
def gStar (K : PySem.W.Frag) (t1 t2 : TG) : TG := fun v σ H Q => ∃ (a : Addr) (xs : List V) (y : V), v = .ref a ∧ SqL K H a (xs ++ [y]) ∧ ∀ p, H p = none → t1 (.ref p) σ (upd H p (.lst xs)) fun σ1 H1 => t2 y σ1 H1 Q
theorem pg_star {X : Cx} {e e2 : Expr} {t1 t2 : TG} {p1 pos : Pos} {k : Nat} (hc : X.calm = true) (h1 : PG X e t1) (h2 : PG X e2 t2) (hs : assignEach [.Starred e p1, e2] X.env = [(true, assign e X.env), (false, assign e2 X.env)] := by rfl) :
    PG X (.Tuple [.Starred e p1, e2] k pos) (gStar X.K t1 t2) := by
  refine ⟨fun pins s σ H v u Q I r hw => ?_⟩
  obtain ⟨a, xs, y, e1, hq, hw⟩ := hw
  subst e1
  cases r
  obtain ⟨its, rv, pl, hz⟩ := I.list hq
  have hl : s.heap.IsList a its.toArray := by
    obtain ⟨o, m, e, c, d, q⟩ := pl
    exact ⟨o, e, c, m, q⟩
  obtain ⟨us, w1, rfl, r1, r2⟩ := StX.vals_split rv
  obtain ⟨u, rfl, ru⟩ := vals1 r2
  have hh := I.ok.hd hc
  have hlt : a < s.heap.objs.size := by obtain ⟨_, e, _⟩ := hl; exact Heap.lt_size e
  have ul : (us ++ [u]).length ≤ sizeLine := by
    rw [← rv.length]
    exact hz
  rw [PyProof.Rows.assign_Tuple]
  refine wpAny_bind (wpAny_standAt ?_)
  unfold unpack
  rw [hs]
  refine wpAny_bind (wpAny_holding ?_)
  show wpAny _ _ (unpackItems (.ref a) 2 (some 0)) _ _ _
  unfold unpackItems
  refine wpAny_bind ?_
  unfold notIterableAtAll
  refine wpAny_bind (wpAny_specialOf hl.typeIs PySem.slot_list_iter.lookup ?_)
  refine wpAny_pure ?_
  simp only [Bool.false_eq_true, if_false]
  have W := (Walks.list (prog := X.prog) (w := X.w) (A := X.A.in1) hh s.heap.objs.size a (Nat.ne_of_lt hlt) (us ++ [u]).toArray).toS
  refine wpAny_bind (wpAny_holding (wpAny_pyIter_list hl ?_))
  refine wpAny_bind (wpAny_holding (show wpAny _ _ (pure []) _ _ _ from wpAny_pure ?_))
  rw [if_neg (by simp)]
  refine wpAny_bind (wpAny_holding (wpAny_collect_iter (.inr (.inr (.inl rfl))) W (fun i s' h => ?_) ⟨⟨_, Heap.get?_push_size _ rfl, rfl, rfl⟩, hl.push _⟩ (fun b hb => ?_) List.mem_cons_self (fun s' acc mv io => ?_) (by simpa using ul)))
  · exact h.1.typeIs
  · rw [Heap.size_push]
    rcases List.mem_cons.mp hb with rfl | hb
    · exact Nat.lt_succ_self _
    · rw [List.mem_singleton.mp hb]
      exact Nat.lt_succ_of_lt hlt
  have eo : acc.toList = us ++ [u] := items_out (by simpa using io) fun j v h => by simpa using h
  rw [eo]
  obtain ⟨h', g', d', t', os'⟩ := s'
  have m2 : g' = s.gens := mv.gens
  have m3 : d' = s.drawn := mv.drawn
  have m4 : os' = s.os := mv.os
  subst m2 m3 m4
  have kp : ∀ b o, s.heap.get? b = some o → h'.get? b = some o := fun b o q => mv.heap b o (fun z => by
    have := Heap.lt_size q
    rw [List.mem_singleton.mp z] at this
    exact absurd this (Nat.lt_irrefl _)) (Heap.get?_push_of_some _ q)
  have I1 : Inv X pins σ H { s with heap := h', toks := t' } := I.kept kp
  rw [if_neg (by simp)]
  have tk : (us ++ [u]).take ((us ++ [u]).length - (2 - 1 - 0)) = us := by simp
  have dp : (us ++ [u]).drop ((us ++ [u]).length - (2 - 1 - 0)) = [u] := by simp
  rw [tk, dp]
  have xl : xs.length ≤ sizeLine := by
    rw [List.length_append] at ul
    rw [r1.length]
    omega
  refine wpAny_bind (wpAny_newList ?_ (by rw [← r1.length]; exact xl))
  have I2 : Inv X pins σ (upd H h'.objs.size (.lst xs)) { s with heap := h'.push { cls := .type "list", data := .seq us.toArray }, toks := t' } :=
    I1.laid (t' := t') (o := .lst xs) (fun b o q => Heap.get?_push_of_some _ q) (Nat.le_refl _) ⟨xl, us, 0, r1, Heap.get?_push_size _ rfl⟩
  refine wpAny_pure ?_
  refine assignInOrder_cons (thn (h1.run pins _ σ _ (.ref h'.objs.size) _ _ I2 rfl (hw _ (I1.hok.fresh (Nat.le_refl _)))) fun _ s3 ⟨σ1, H1, I3, q3⟩ => ?_)
  refine assignInOrder_cons (thn (h2.run pins s3 σ1 H1 y u Q I3 ru q3) fun _ s4 ⟨σ2, H2, I4, q4⟩ => ?_)
  exact assignInOrder_nil ⟨σ2, H2, I4, q4⟩
end SR
set_option Elab.async false
set_option linter.all false
set_option maxRecDepth 100000
set_option maxHeartbeats 2000000
namespace SR
open PySem PySem.Spec PyProof.Rows L2 SX
/-- the signs of a whole number's word -/
def intL (i : Int) : List Nat := if i < 0 then 45 :: TL.numL i.natAbs else TL.numL i.natAbs
theorem intL_S (i : Int) : (Str.ofString (toString i)) = S (intL i) := by
  cases i with
  | ofNat n =>
    unfold intL
    rw [if_neg (show ¬ (Int.ofNat n < 0) from Int.not_lt.mpr (Int.natCast_nonneg n))]
    exact num_S n
  | negSucc n =>
    unfold intL
    rw [if_pos (by omega)]
    refine TL.ext_tl ?_
    rw [TL.tl_ofString]
    have e : (toString (Int.negSucc n)).toList = '-' :: (toString ((n + 1 : Nat) : Int)).toList := by
      show ("-" ++ Nat.repr (n + 1)).toList = _
      rw [String.toList_append]
      rfl
    rw [e, List.map_cons, ← TL.tl_ofString, TL.tl_num]
    rfl
theorem intL_free {i : Int} {s : Nat} (h : s ≠ 45) (h2 : s < 48 ∨ 57 < s) : s ∉ intL i := by
  unfold intL
  split
  · intro hm
    rcases List.mem_cons.mp hm with e | hm
    · exact h e
    · exact TL.numL_free h2 hm
  · exact TL.numL_free h2
/-- at most 31 digits -/
def Sml31 (i : Int) : Prop := i.natAbs < 10 ^ 31
theorem numL_small {i : Int} (h : Sml31 i) : (TL.numL i.natAbs).length ≤ 31 := TL.numL_len (by decide) h
theorem intL_small {i : Int} (h : Sml31 i) : (intL i).length ≤ 32 := by
  have := numL_small h
  unfold intL
  split
  · rw [List.length_cons]; omega
  · omega
theorem numL_pos (n : Nat) : 1 ≤ (TL.numL n).length := List.length_pos_iff.mpr (TL.numL_ne n)
theorem rem_int (i : Int) : Txt.removeprefix (S (intL i)) (S [45]) = S (TL.numL i.natAbs) := by
  rw [StrLaws.removeprefix_eq]
  unfold intL
  by_cases hi : i < 0
  · rw [if_pos hi]
    have e1 : (S [45]).length = 1 := S_len _
    have e2 : (S (45 :: TL.numL i.natAbs)).length = (TL.numL i.natAbs).length + 1 := S_len _
    have e3 : Builtin.Str.subAt (S (45 :: TL.numL i.natAbs)) (S [45]) 0 = true := by
      unfold Builtin.Str.subAt
      rw [e1, beq_iff_eq]
      refine Array.toList_inj.mp ?_
      rw [Array.toList_extract]
      rfl
    rw [e1, e2, e3, if_pos (by rw [Bool.and_true]; exact decide_eq_true (by omega))]
    show S (((45 :: TL.numL i.natAbs).drop 1).take _) = _
    refine congrArg S ?_
    show (TL.numL i.natAbs).take _ = _
    exact List.take_of_length_le (by omega)
  · rw [if_neg hi]
    refine if_neg ?_
    intro h
    rw [Bool.and_eq_true] at h
    have h2 := h.2
    unfold Builtin.Str.subAt at h2
    rw [beq_iff_eq] at h2
    have h3 := congrArg Array.toList h2
    rw [Array.toList_extract] at h3
    have e1 : (S [45]).length = 1 := S_len _
    rw [e1] at h3
    have h4 : (TL.numL i.natAbs).take 1 = [45] := h3
    have h5 : 45 ∈ TL.numL i.natAbs := List.mem_of_mem_take (i := 1) (by rw [h4]; exact List.mem_cons_self ..)
    exact TL.numL_free (by omega) h5
theorem int_back {i : Int} (h : Sml31 i) : intText? (S (intL i)) = some i := by
  have hl := numL_small h
  unfold intL
  by_cases hi : i < 0
  · rw [if_pos hi]
    have e := intText_neg (x := S (45 :: TL.numL i.natAbs)) (cs := TL.numL i.natAbs) rfl (TL.numL_digits _) (TL.numL_ne _) (by rw [S_len, List.length_cons]; omega)
    rw [e, TL.numL_val]
    exact congrArg some (by omega)
  · rw [if_neg hi]
    have e := intText_digits (x := S (TL.numL i.natAbs)) (TL.numL_digits _) (TL.numL_ne _) (by rw [S_len]; omega)
    rw [e]
    show some ((NumText.digitsVal (TL.numL i.natAbs) : Nat) : Int) = _
    rw [TL.numL_val]
    exact congrArg some (by omega)
/-- a number that begins with 0 is 0 -/
theorem numL_head : ∀ (n : Nat), 1 ≤ n → (TL.numL n).head? ≠ some 48 := by
  intro n
  induction n using Nat.strongRecOn with
  | _ n ih =>
    intro h1
    by_cases h : n < 10
    · rw [TL.numL_lt h]
      intro e
      have : 48 + n = 48 := Option.some.inj e
      omega
    · rw [TL.numL_step (by omega)]
      have := ih (n / 10) (by omega) (by omega)
      have hn := TL.numL_ne (n / 10)
      cases hc : TL.numL (n / 10) with
      | nil => exact absurd hc hn
      | cons c r => rw [hc] at this; exact this
theorem zero_word {i : Int} (h : (TL.numL i.natAbs).head? = some 48) : S (intL i) = Str.ofString "0" := by
  have e : i.natAbs = 0 := by
    by_cases h1 : 1 ≤ i.natAbs
    · exact absurd h (numL_head _ h1)
    · omega
  have e0 : i = 0 := by omega
  subst e0
  rfl
theorem le48 {c : Nat} (h : 48 ≤ c) : (!decide ([c] < [48])) = true := by
  rw [Bool.not_eq_true', decide_eq_false_iff_not]
  intro z
  rw [List.cons_lt_cons_iff] at z
  rcases z with z | ⟨_, z⟩
  · omega
  · exact absurd z (List.lt_irrefl [])
theorem le57 {c : Nat} (h : c ≤ 57) : (!decide ([57] < [c])) = true := by
  rw [Bool.not_eq_true', decide_eq_false_iff_not]
  intro z
  rw [List.cons_lt_cons_iff] at z
  rcases z with z | ⟨_, z⟩
  · omega
  · exact absurd z (List.lt_irrefl [])
/-- the signs of a line: a word, two numbers -/
def lineL (w : List Nat) (p : Int × Int) : List Nat := w ++ 32 :: (intL p.1 ++ 32 :: intL p.2)
theorem lineL_join (w : List Nat) (p : Int × Int) : lineL w p = TL.joinL [32] [w, intL p.1, intL p.2] := by
  show _ = w ++ ([32] ++ (intL p.1 ++ ([32] ++ intL p.2)))
  rfl
theorem lineL_split {w : List Nat} (hw : 32 ∉ w) (p : Int × Int) : Txt.split (S (lineL w p)) (S [32]) = [S w, S (intL p.1), S (intL p.2)] := by
  rw [split_S (by simp) (by decide), lineL_join, spl_join (by simp)]
  · rfl
  · intro q hq
    rcases List.mem_cons.mp hq with rfl | hq
    · exact hw
    · rcases List.mem_cons.mp hq with rfl | hq
      · exact intL_free (by decide) (by decide)
      · rw [List.mem_singleton.mp hq]
        exact intL_free (by decide) (by decide)
theorem lineL_nl {w : List Nat} (hw : 10 ∉ w) (p : Int × Int) : 10 ∉ lineL w p := by
  unfold lineL
  intro h
  rcases List.mem_append.mp h with h | h
  · exact hw h
  · rcases List.mem_cons.mp h with h | h
    · exact absurd h (by decide)
    · rcases List.mem_append.mp h with h | h
      · exact intL_free (by decide) (by decide) h
      · rcases List.mem_cons.mp h with h | h
        · exact absurd h (by decide)
        · exact intL_free (by decide) (by decide) h
def wideW : List Nat := [119, 105, 100, 101]
def boxW : List Nat := [98, 111, 120]
/-- the lines of a row -/
def rowLs (ps ks : List (Int × Int)) : List (List Nat) := ks.map (lineL wideW) ++ ps.map (lineL boxW)
/-- its text -/
def rowL (ps ks : List (Int × Int)) : List Nat := ((rowLs ps ks).map (· ++ [10])).flatten
theorem joinL_nl : ∀ ls : List (List Nat), (ls.map (· ++ [10])).flatten = TL.joinL [10] (ls ++ [[]])
  | [] => rfl
  | [x] => by simp [TL.joinL]
  | x :: y :: ls => by
    have ih := joinL_nl (y :: ls)
    rw [List.map_cons, List.flatten_cons, ih]
    show x ++ [10] ++ _ = x ++ ([10] ++ _)
    rw [List.append_assoc]
    rfl
theorem rowL_split (ps ks : List (Int × Int)) : Txt.split (S (rowL ps ks)) (S [10]) = (rowLs ps ks).map S ++ [S []] := by
  unfold rowL
  rw [split_S (by simp) (by decide), joinL_nl, spl_join (by simp)]
  · rw [List.map_append]; rfl
  · intro q hq
    rcases List.mem_append.mp hq with hq | hq
    · unfold rowLs at hq
      rcases List.mem_append.mp hq with hq | hq
      · obtain ⟨p, _, rfl⟩ := List.mem_map.mp hq
        exact lineL_nl (by decide) p
      · obtain ⟨p, _, rfl⟩ := List.mem_map.mp hq
        exact lineL_nl (by decide) p
    · rw [List.mem_singleton.mp hq]
      simp
theorem lineL_len {w : List Nat} (hw : w.length ≤ 4) {p : Int × Int} (h1 : Sml31 p.1) (h2 : Sml31 p.2) : (lineL w p).length ≤ 70 := by
  have := intL_small h1
  have := intL_small h2
  unfold lineL
  rw [List.length_append, List.length_cons, List.length_append, List.length_cons]
  omega
end SR
set_option Elab.async false
set_option linter.all false
set_option maxRecDepth 100000
set_option maxHeartbeats 1000000
namespace SR
inductive Lx
  | z | o | m
def bw : List Lx → List Bool
  | [] => []
  | .z :: w => false :: bw w
  | .o :: w => true :: bw w
  | .m :: w => true :: false :: bw w
def bk : List Lx → List Bool
  | [] => []
  | .z :: w => false :: bk w
  | .o :: w => true :: bk w
  | .m :: w => bk w
def swB (c : Nat) : Nat → List Bool → List Bool
  | _, [] => []
  | u, true :: bs => if u < c then false :: swB c (u + 1) bs else true :: swB c u bs
  | u, false :: bs => if 0 < u then true :: swB c (u - 1) bs else false :: swB c 0 bs
def ends : Bool → List Bool → Int → List Int
  | true, [], n => [n]
  | false, [], _ => []
  | _, true :: bs, n => ends true bs (n + 1)
  | true, false :: bs, n => n :: ends false bs (n + 1)
  | false, false :: bs, n => ends false bs (n + 1)
def marks : List Lx → Int → List Int
  | [], _ => []
  | .z :: w, n => marks w (n + 1)
  | .o :: w, n => marks w (n + 1)
  | .m :: w, n => n :: marks w n
/-- the word does not begin with an empty box, nor is it over -/
def hdB : List Lx → Bool
  | [] => false
  | .z :: _ => false
  | _ => true
def gdB : List Lx → Bool
  | [] => true
  | .o :: w => hdB w && gdB w
  | _ :: w => gdB w
def zs (k : Nat) : List Lx := List.replicate k .z
theorem zs_succ (k : Nat) : zs (k + 1) = .z :: zs k := rfl
theorem bk_zs (k : Nat) : bk (zs k) = List.replicate k false := by
  induction k with
  | zero => rfl
  | succ k ih => rw [zs_succ, List.replicate_succ, ← ih]; rfl
/-- what becomes of a word in a sweep, from a state on: pend, a full box not yet told; mem, the letters of the cut row not yet told -/
structure Res (c : Nat) (pend : Bool) (u u' : Nat) (mem : List Bool) (w out : List Lx) : Prop where
  gd : gdB out = true
  hd : pend = true → hdB out = true
  bits : bw out = bif pend then true :: swB c u (bw w) else swB c u (bw w)
  kept : bk out ++ [false] = mem ++ swB (c - 1) u' (bk w)
/-- the removed pairs -/
def Mks (d : Int) (owed : Bool) (e f : Bool) (c u' : Nat) (w out : List Lx) : Prop :=
  ∀ (N x : Int), (marks out (N - d)).count x + (ends e (bk w) N).count x = (bif owed then if N == x then 1 else 0 else 0) + (marks w N).count x + (ends f (swB (c - 1) u' (bk w)) N).count x
theorem swB_t {c u : Nat} {bs : List Bool} (h : u < c) : swB c u (true :: bs) = false :: swB c (u + 1) bs := by
  show (if u < c then _ else _) = _
  rw [if_pos h]
theorem swB_tf {c u : Nat} {bs : List Bool} (h : ¬u < c) : swB c u (true :: bs) = true :: swB c u bs := by
  show (if u < c then _ else _) = _
  rw [if_neg h]
theorem swB_f {c u : Nat} {bs : List Bool} (h : 0 < u) : swB c u (false :: bs) = true :: swB c (u - 1) bs := by
  show (if 0 < u then _ else _) = _
  rw [if_pos h]
theorem swB_z {c : Nat} {bs : List Bool} : swB c 0 (false :: bs) = false :: swB c 0 bs := by
  show (if 0 < 0 then _ else _) = _
  rw [if_neg (Nat.lt_irrefl 0)]
section
variable {c : Nat}
def SA (c u : Nat) (w : List Lx) : Prop := ∃ out, Res c false u (min u (c - 1)) [decide (u = c)] w out ∧ Mks 1 false (decide (0 < u)) (decide (u = c)) c (min u (c - 1)) w out
def SB1 (c u : Nat) (e f : Bool) (w : List Lx) : Prop := ∃ out, Res c true u u [] w out ∧ Mks 0 true e f c u w out
def SB2 (c u : Nat) (w : List Lx) : Prop := ∃ out, Res c true u u [] w out ∧ Mks 0 false false true c u w out
def SC (c : Nat) (w : List Lx) : Prop := ∃ out, Res c true c (c - 1) [true, true] w out ∧ Mks 2 false true true c (c - 1) w out
/-- only empty boxes ahead -/
theorem sA_zs (c1 : 1 ≤ c) (k : Nat) : SA c 0 (zs k) := by
  have d0 : decide (0 = c) = false := decide_eq_false (by omega)
  induction k with
  | zero =>
    refine ⟨[], ⟨rfl, (fun z => nomatch z), rfl, ?_⟩, ?_⟩
    · rw [d0]
      rfl
    · rw [d0]
      exact fun N x => rfl
  | succ k ih =>
    obtain ⟨out, r, mk⟩ := ih
    have m0 : min 0 (c - 1) = 0 := by omega
    rw [m0] at r mk
    rw [d0] at r mk
    unfold SA
    rw [m0, d0]
    refine ⟨.z :: out, ⟨r.gd, (fun z => nomatch z), ?_, ?_⟩, fun N x => ?_⟩
    · show false :: bw out = swB c 0 (false :: bw (zs k))
      rw [swB_z, r.bits]
      rfl
    · show false :: (bk out ++ [false]) = [false] ++ swB (c - 1) 0 (false :: bk (zs k))
      rw [swB_z, r.kept]
      rfl
    · have := mk (N + 1) x
      rw [Int.add_sub_cancel] at this
      show (marks out (N - 1 + 1)).count x + (ends false (bk (zs k)) (N + 1)).count x = 0 + (marks (zs k) (N + 1)).count x + (ends false (swB (c - 1) 0 (false :: bk (zs k))) N).count x
      rw [Int.sub_add_cancel, swB_z]
      exact this
theorem sB2_zs (c1 : 1 ≤ c) : ∀ (u k : Nat), u + 1 ≤ k → SB2 c u (zs k)
  | 0, k + 1, _ => by
    obtain ⟨out, r, mk⟩ := sA_zs c1 k
    have d0 : decide (0 = c) = false := decide_eq_false (by omega)
    have m0 : min 0 (c - 1) = 0 := by omega
    rw [m0, d0] at r mk
    refine ⟨.m :: out, ⟨r.gd, fun _ => rfl, ?_, ?_⟩, fun N x => ?_⟩
    · show true :: false :: bw out = true :: swB c 0 (false :: bw (zs k))
      rw [swB_z, r.bits]
      rfl
    · show bk out ++ [false] = swB (c - 1) 0 (false :: bk (zs k))
      rw [swB_z, r.kept]
      rfl
    · have := mk (N + 1) x
      rw [Int.add_sub_cancel] at this
      show ((N - 0) :: marks out (N - 0)).count x + (ends false (bk (zs k)) (N + 1)).count x = 0 + (marks (zs k) (N + 1)).count x + (ends true (swB (c - 1) 0 (false :: bk (zs k))) N).count x
      rw [swB_z, Int.sub_zero]
      show _ = _ + (N :: ends false (swB (c - 1) 0 (bk (zs k))) (N + 1)).count x
      rw [List.count_cons, List.count_cons]
      have e1 : (ends (decide (0 < 0)) (bk (zs k)) (N + 1)) = ends false (bk (zs k)) (N + 1) := rfl
      rw [e1] at this
      simp only [cond_false] at this
      omega
  | u + 1, k + 1, h => by
    obtain ⟨out, r, mk⟩ := sB2_zs c1 u k (by omega)
    refine ⟨.o :: out, ⟨?_, fun _ => rfl, ?_, ?_⟩, fun N x => ?_⟩
    · show (hdB out && gdB out) = true
      rw [r.hd rfl, r.gd]
      rfl
    · show true :: bw out = true :: swB c (u + 1) (false :: bw (zs k))
      rw [swB_f (Nat.succ_pos u), r.bits]
      rfl
    · show true :: (bk out ++ [false]) = swB (c - 1) (u + 1) (false :: bk (zs k))
      rw [swB_f (Nat.succ_pos u), r.kept]
      rfl
    · have := mk (N + 1) x
      show (marks out (N - 0 + 1)).count x + (ends false (bk (zs k)) (N + 1)).count x = 0 + (marks (zs k) (N + 1)).count x + (ends true (swB (c - 1) (u + 1) (false :: bk (zs k))) N).count x
      rw [swB_f (Nat.succ_pos u)]
      show _ = _ + (ends true (swB (c - 1) u (bk (zs k))) (N + 1)).count x
      rw [Int.sub_zero] at this ⊢
      exact this
/-- one step of state B, over an empty box: the carrier has items -/
theorem sB1_zs (c1 : 1 ≤ c) (u k : Nat) (h : u + 1 ≤ k) (e f : Bool) (ok : (u = 0 ∧ e = f) ∨ (0 < u ∧ e = true)) : SB1 c u e f (zs k) := by
  obtain ⟨k, rfl⟩ : ∃ j, k = j + 1 := ⟨k - 1, by omega⟩
  rcases ok with ⟨rfl, rfl⟩ | ⟨u0, rfl⟩
  · obtain ⟨out, r, mk⟩ := sA_zs c1 k
    have d0 : decide (0 = c) = false := decide_eq_false (by omega)
    have m0 : min 0 (c - 1) = 0 := by omega
    rw [m0, d0] at r mk
    refine ⟨.m :: out, ⟨r.gd, fun _ => rfl, ?_, ?_⟩, fun N x => ?_⟩
    · show true :: false :: bw out = true :: swB c 0 (false :: bw (zs k))
      rw [swB_z, r.bits]
      rfl
    · show bk out ++ [false] = swB (c - 1) 0 (false :: bk (zs k))
      rw [swB_z, r.kept]
      rfl
    · have := mk (N + 1) x
      rw [Int.add_sub_cancel] at this
      show ((N - 0) :: marks out (N - 0)).count x + (ends e (false :: bk (zs k)) N).count x = (if N == x then 1 else 0) + (marks (zs k) (N + 1)).count x + (ends e (swB (c - 1) 0 (false :: bk (zs k))) N).count x
      rw [swB_z, Int.sub_zero]
      have e1 : (ends (decide (0 < 0)) (bk (zs k)) (N + 1)) = ends false (bk (zs k)) (N + 1) := rfl
      rw [e1] at this
      simp only [cond_false] at this
      rw [List.count_cons]
      cases e with
      | true =>
        show _ + (N :: ends false (bk (zs k)) (N + 1)).count x = _ + (N :: ends false (swB (c - 1) 0 (bk (zs k))) (N + 1)).count x
        rw [List.count_cons, List.count_cons]
        omega
      | false =>
        show _ + (ends false (bk (zs k)) (N + 1)).count x = _ + (ends false (swB (c - 1) 0 (bk (zs k))) (N + 1)).count x
        omega
  · obtain ⟨u, rfl⟩ : ∃ j, u = j + 1 := ⟨u - 1, by omega⟩
    obtain ⟨out, r, mk⟩ := sB2_zs c1 u k (by omega)
    refine ⟨.o :: out, ⟨?_, fun _ => rfl, ?_, ?_⟩, fun N x => ?_⟩
    · show (hdB out && gdB out) = true
      rw [r.hd rfl, r.gd]
      rfl
    · show true :: bw out = true :: swB c (u + 1) (false :: bw (zs k))
      rw [swB_f (Nat.succ_pos u), r.bits]
      rfl
    · show true :: (bk out ++ [false]) = swB (c - 1) (u + 1) (false :: bk (zs k))
      rw [swB_f (Nat.succ_pos u), r.kept]
      rfl
    · have := mk (N + 1) x
      show (marks out (N - 0 + 1)).count x + (N :: ends false (bk (zs k)) (N + 1)).count x = (if N == x then 1 else 0) + (marks (zs k) (N + 1)).count x + (ends f (swB (c - 1) (u + 1) (false :: bk (zs k))) N).count x
      rw [swB_f (Nat.succ_pos u), List.count_cons]
      show _ = _ + (ends f (true :: swB (c - 1) u (bk (zs k))) N).count x
      have e2 : ends f (true :: swB (c - 1) u (bk (zs k))) N = ends true (swB (c - 1) u (bk (zs k))) (N + 1) := by cases f <;> rfl
      rw [e2, Int.sub_zero]
      rw [Int.sub_zero] at this
      simp only [cond_false] at this
      omega
end
end SR
set_option Elab.async false
set_option linter.all false
set_option maxRecDepth 100000
set_option maxHeartbeats 1000000
namespace SR
section
variable {c u : Nat} {w : List Lx} {e f : Bool}
theorem dec0 (c1 : 1 ≤ c) : decide (0 = c) = false := decide_eq_false (by omega)
theorem min0 : min 0 (c - 1) = 0 := by omega
theorem endsT (q : Bool) (bs : List Bool) (n : Int) : ends q (true :: bs) n = ends true bs (n + 1) := by cases q <;> rfl
theorem A_z (c1 : 1 ≤ c) (h : SA c 0 w) : SA c 0 (.z :: w) := by
  obtain ⟨out, r, mk⟩ := h
  have d0 := dec0 c1
  rw [min0] at r mk
  rw [d0] at r mk
  unfold SA
  rw [min0, d0]
  refine ⟨.z :: out, ⟨r.gd, (fun z => nomatch z), ?_, ?_⟩, fun N x => ?_⟩
  · show false :: bw out = swB c 0 (false :: bw w)
    rw [swB_z, r.bits]
    rfl
  · show false :: (bk out ++ [false]) = [false] ++ swB (c - 1) 0 (false :: bk w)
    rw [swB_z, r.kept]
    rfl
  · have := mk (N + 1) x
    rw [Int.add_sub_cancel] at this
    show (marks out (N - 1 + 1)).count x + (ends false (bk w) (N + 1)).count x = 0 + (marks w (N + 1)).count x + (ends false (swB (c - 1) 0 (false :: bk w)) N).count x
    rw [Int.sub_add_cancel, swB_z]
    exact this
theorem B2_z0 (c1 : 1 ≤ c) (h : SA c 0 w) : SB2 c 0 (.z :: w) := by
  obtain ⟨out, r, mk⟩ := h
  have d0 := dec0 c1
  rw [min0, d0] at r mk
  refine ⟨.m :: out, ⟨r.gd, fun _ => rfl, ?_, ?_⟩, fun N x => ?_⟩
  · show true :: false :: bw out = true :: swB c 0 (false :: bw w)
    rw [swB_z, r.bits]
    rfl
  · show bk out ++ [false] = swB (c - 1) 0 (false :: bk w)
    rw [swB_z, r.kept]
    rfl
  · have := mk (N + 1) x
    rw [Int.add_sub_cancel] at this
    show ((N - 0) :: marks out (N - 0)).count x + (ends false (bk w) (N + 1)).count x = 0 + (marks w (N + 1)).count x + (ends true (swB (c - 1) 0 (false :: bk w)) N).count x
    rw [swB_z, Int.sub_zero]
    show _ = _ + (N :: ends false (swB (c - 1) 0 (bk w)) (N + 1)).count x
    rw [List.count_cons, List.count_cons]
    have e1 : (ends (decide (0 < 0)) (bk w) (N + 1)) = ends false (bk w) (N + 1) := rfl
    rw [e1] at this
    simp only [cond_false] at this
    omega
theorem B1_z0 (c1 : 1 ≤ c) (h : SA c 0 w) : SB1 c 0 e e (.z :: w) := by
  obtain ⟨out, r, mk⟩ := h
  have d0 := dec0 c1
  rw [min0, d0] at r mk
  refine ⟨.m :: out, ⟨r.gd, fun _ => rfl, ?_, ?_⟩, fun N x => ?_⟩
  · show true :: false :: bw out = true :: swB c 0 (false :: bw w)
    rw [swB_z, r.bits]
    rfl
  · show bk out ++ [false] = swB (c - 1) 0 (false :: bk w)
    rw [swB_z, r.kept]
    rfl
  · have := mk (N + 1) x
    rw [Int.add_sub_cancel] at this
    show ((N - 0) :: marks out (N - 0)).count x + (ends e (false :: bk w) N).count x = (if N == x then 1 else 0) + (marks w (N + 1)).count x + (ends e (swB (c - 1) 0 (false :: bk w)) N).count x
    rw [swB_z, Int.sub_zero]
    have e1 : (ends (decide (0 < 0)) (bk w) (N + 1)) = ends false (bk w) (N + 1) := rfl
    rw [e1] at this
    simp only [cond_false] at this
    rw [List.count_cons]
    cases e with
    | true =>
      show _ + (N :: ends false (bk w) (N + 1)).count x = _ + (N :: ends false (swB (c - 1) 0 (bk w)) (N + 1)).count x
      rw [List.count_cons, List.count_cons]
      omega
    | false =>
      show _ + (ends false (bk w) (N + 1)).count x = _ + (ends false (swB (c - 1) 0 (bk w)) (N + 1)).count x
      omega
theorem B2_z (h : SB2 c u w) : SB2 c (u + 1) (.z :: w) := by
  obtain ⟨out, r, mk⟩ := h
  refine ⟨.o :: out, ⟨?_, fun _ => rfl, ?_, ?_⟩, fun N x => ?_⟩
  · show (hdB out && gdB out) = true
    rw [r.hd rfl, r.gd]
    rfl
  · show true :: bw out = true :: swB c (u + 1) (false :: bw w)
    rw [swB_f (Nat.succ_pos u), r.bits]
    rfl
  · show true :: (bk out ++ [false]) = swB (c - 1) (u + 1) (false :: bk w)
    rw [swB_f (Nat.succ_pos u), r.kept]
    rfl
  · have := mk (N + 1) x
    show (marks out (N - 0 + 1)).count x + (ends false (bk w) (N + 1)).count x = 0 + (marks w (N + 1)).count x + (ends true (swB (c - 1) (u + 1) (false :: bk w)) N).count x
    rw [swB_f (Nat.succ_pos u)]
    show _ = _ + (ends true (swB (c - 1) u (bk w)) (N + 1)).count x
    rw [Int.sub_zero] at this ⊢
    exact this
theorem B1_z (h : SB2 c u w) : SB1 c (u + 1) true f (.z :: w) := by
  obtain ⟨out, r, mk⟩ := h
  refine ⟨.o :: out, ⟨?_, fun _ => rfl, ?_, ?_⟩, fun N x => ?_⟩
  · show (hdB out && gdB out) = true
    rw [r.hd rfl, r.gd]
    rfl
  · show true :: bw out = true :: swB c (u + 1) (false :: bw w)
    rw [swB_f (Nat.succ_pos u), r.bits]
    rfl
  · show true :: (bk out ++ [false]) = swB (c - 1) (u + 1) (false :: bk w)
    rw [swB_f (Nat.succ_pos u), r.kept]
    rfl
  · have := mk (N + 1) x
    show (marks out (N - 0 + 1)).count x + (N :: ends false (bk w) (N + 1)).count x = (if N == x then 1 else 0) + (marks w (N + 1)).count x + (ends f (swB (c - 1) (u + 1) (false :: bk w)) N).count x
    rw [swB_f (Nat.succ_pos u), List.count_cons]
    show _ = _ + (ends f (true :: swB (c - 1) u (bk w)) N).count x
    rw [endsT, Int.sub_zero]
    rw [Int.sub_zero] at this
    simp only [cond_false] at this
    omega
theorem A_o (h1 : u < c) (h : SA c (u + 1) w) : SA c u (.o :: w) := by
  obtain ⟨out, r, mk⟩ := h
  have d1 : decide (u = c) = false := decide_eq_false (by omega)
  have m1 : min u (c - 1) = u := by omega
  have key : decide (u + 1 = c) :: swB (c - 1) (min (u + 1) (c - 1)) (bk w) = swB (c - 1) u (true :: bk w) := by
    by_cases z : u < c - 1
    · rw [swB_t z, decide_eq_false (by omega), show min (u + 1) (c - 1) = u + 1 by omega]
    · rw [swB_tf z, decide_eq_true (by omega), show min (u + 1) (c - 1) = u by omega]
  unfold SA
  rw [d1, m1]
  refine ⟨.z :: out, ⟨r.gd, (fun z => nomatch z), ?_, ?_⟩, fun N x => ?_⟩
  · show false :: bw out = swB c u (true :: bw w)
    rw [swB_t h1, r.bits]
    rfl
  · show false :: (bk out ++ [false]) = [false] ++ swB (c - 1) u (true :: bk w)
    rw [← key, r.kept]
    rfl
  · have := mk (N + 1) x
    rw [Int.add_sub_cancel] at this
    show (marks out (N - 1 + 1)).count x + (ends (decide (0 < u)) (true :: bk w) N).count x = 0 + (marks w (N + 1)).count x + (ends false (swB (c - 1) u (true :: bk w)) N).count x
    rw [Int.sub_add_cancel, endsT, ← key]
    have t : decide (0 < u + 1) = true := decide_eq_true (Nat.succ_pos u)
    rw [t] at this
    have e2 : ends false (decide (u + 1 = c) :: swB (c - 1) (min (u + 1) (c - 1)) (bk w)) N = ends (decide (u + 1 = c)) (swB (c - 1) (min (u + 1) (c - 1)) (bk w)) (N + 1) := by
      cases decide (u + 1 = c) <;> rfl
    rw [e2]
    exact this
theorem A_oc (c1 : 1 ≤ c) (h : SC c w) : SA c c (.o :: w) := by
  obtain ⟨out, r, mk⟩ := h
  have d1 : decide (c = c) = true := decide_eq_true rfl
  have m1 : min c (c - 1) = c - 1 := by omega
  have t : decide (0 < c) = true := decide_eq_true c1
  unfold SA
  rw [d1, m1, t]
  refine ⟨out, ⟨r.gd, (fun z => nomatch z), ?_, ?_⟩, fun N x => ?_⟩
  · show bw out = swB c c (true :: bw w)
    rw [swB_tf (Nat.lt_irrefl c), r.bits]
    rfl
  · show bk out ++ [false] = [true] ++ swB (c - 1) (c - 1) (true :: bk w)
    rw [swB_tf (Nat.lt_irrefl _), r.kept]
    rfl
  · have := mk (N + 1) x
    show (marks out (N - 1)).count x + (ends true (true :: bk w) N).count x = 0 + (marks w (N + 1)).count x + (ends true (swB (c - 1) (c - 1) (true :: bk w)) N).count x
    rw [swB_tf (Nat.lt_irrefl _), endsT, endsT]
    have e1 : N + 1 - 2 = N - 1 := by omega
    rw [e1] at this
    exact this
theorem A_m (h1 : u < c) (h : SB1 c u (decide (0 < u)) false w) : SA c u (.m :: w) := by
  obtain ⟨out, r, mk⟩ := h
  have d1 : decide (u = c) = false := decide_eq_false (by omega)
  have m1 : min u (c - 1) = u := by omega
  unfold SA
  rw [d1, m1]
  refine ⟨.z :: out, ⟨r.gd, (fun z => nomatch z), ?_, ?_⟩, fun N x => ?_⟩
  · show false :: bw out = swB c u (true :: false :: bw w)
    rw [swB_t h1, swB_f (Nat.succ_pos u), r.bits]
    rfl
  · show false :: (bk out ++ [false]) = [false] ++ swB (c - 1) u (bk w)
    rw [r.kept]
    rfl
  · have := mk N x
    show (marks out (N - 1 + 1)).count x + (ends (decide (0 < u)) (bk w) N).count x = 0 + (N :: marks w N).count x + (ends false (swB (c - 1) u (bk w)) N).count x
    rw [Int.sub_add_cancel, List.count_cons]
    rw [Int.sub_zero] at this
    simp only [cond_true] at this
    omega
theorem A_mc (c1 : 1 ≤ c) (h : SB1 c (c - 1) true true w) : SA c c (.m :: w) := by
  obtain ⟨out, r, mk⟩ := h
  have d1 : decide (c = c) = true := decide_eq_true rfl
  have m1 : min c (c - 1) = c - 1 := by omega
  have t : decide (0 < c) = true := decide_eq_true c1
  unfold SA
  rw [d1, m1, t]
  refine ⟨.o :: out, ⟨?_, (fun z => nomatch z), ?_, ?_⟩, fun N x => ?_⟩
  · show (hdB out && gdB out) = true
    rw [r.hd rfl, r.gd]
    rfl
  · show true :: bw out = swB c c (true :: false :: bw w)
    rw [swB_tf (Nat.lt_irrefl c), swB_f c1, r.bits]
    rfl
  · show true :: (bk out ++ [false]) = [true] ++ swB (c - 1) (c - 1) (bk w)
    rw [r.kept]
    rfl
  · have := mk N x
    show (marks out (N - 1 + 1)).count x + (ends true (bk w) N).count x = 0 + (N :: marks w N).count x + (ends true (swB (c - 1) (c - 1) (bk w)) N).count x
    rw [Int.sub_add_cancel, List.count_cons]
    rw [Int.sub_zero] at this
    simp only [cond_true] at this
    omega
theorem aft (h1 : u < c) (h : SA c (u + 1) w) : ∃ out, Res c false (u + 1) (min (u + 1) (c - 1)) [decide (u + 1 = c)] w out ∧ Mks 1 false true (decide (u + 1 = c)) c (min (u + 1) (c - 1)) w out ∧
    decide (u + 1 = c) :: swB (c - 1) (min (u + 1) (c - 1)) (bk w) = swB (c - 1) u (true :: bk w) := by
  obtain ⟨out, r, mk⟩ := h
  have t : decide (0 < u + 1) = true := decide_eq_true (Nat.succ_pos u)
  rw [t] at mk
  refine ⟨out, r, mk, ?_⟩
  by_cases z : u < c - 1
  · rw [swB_t z, decide_eq_false (by omega), show min (u + 1) (c - 1) = u + 1 by omega]
  · rw [swB_tf z, decide_eq_true (by omega), show min (u + 1) (c - 1) = u by omega]
theorem B1_o (h1 : u < c) (hf : f = true → u = c - 1) (h : SA c (u + 1) w) : SB1 c u e f (.o :: w) := by
  obtain ⟨out, r, mk, key⟩ := aft h1 h
  refine ⟨.m :: out, ⟨r.gd, fun _ => rfl, ?_, ?_⟩, fun N x => ?_⟩
  · show true :: false :: bw out = true :: swB c u (true :: bw w)
    rw [swB_t h1, r.bits]
    rfl
  · show bk out ++ [false] = swB (c - 1) u (true :: bk w)
    rw [← key, r.kept]
    rfl
  · have := mk (N + 1) x
    rw [Int.add_sub_cancel] at this
    show ((N - 0) :: marks out (N - 0)).count x + (ends e (true :: bk w) N).count x = (if N == x then 1 else 0) + (marks w (N + 1)).count x + (ends f (swB (c - 1) u (true :: bk w)) N).count x
    have e2 : ends f (decide (u + 1 = c) :: swB (c - 1) (min (u + 1) (c - 1)) (bk w)) N = ends (decide (u + 1 = c)) (swB (c - 1) (min (u + 1) (c - 1)) (bk w)) (N + 1) := by
      cases f with
      | true =>
        rw [decide_eq_true (show u + 1 = c by have := hf rfl; omega)]
        rfl
      | false => cases decide (u + 1 = c) <;> rfl
    rw [Int.sub_zero, endsT, ← key, e2, List.count_cons]
    simp only [cond_false] at this
    omega
theorem B2_o (h1 : u + 1 < c) (h : SA c (u + 1) w) : SB2 c u (.o :: w) := by
  obtain ⟨out, r, mk, key⟩ := aft (by omega) h
  have d : decide (u + 1 = c) = false := decide_eq_false (by omega)
  refine ⟨.m :: out, ⟨r.gd, fun _ => rfl, ?_, ?_⟩, fun N x => ?_⟩
  · show true :: false :: bw out = true :: swB c u (true :: bw w)
    rw [swB_t (by omega), r.bits]
    rfl
  · show bk out ++ [false] = swB (c - 1) u (true :: bk w)
    rw [← key, r.kept]
    rfl
  · have := mk (N + 1) x
    rw [Int.add_sub_cancel] at this
    show ((N - 0) :: marks out (N - 0)).count x + (ends false (true :: bk w) N).count x = 0 + (marks w (N + 1)).count x + (ends true (swB (c - 1) u (true :: bk w)) N).count x
    rw [Int.sub_zero, endsT, ← key]
    rw [d] at this ⊢
    show _ = _ + (N :: ends false (swB (c - 1) (min (u + 1) (c - 1)) (bk w)) (N + 1)).count x
    rw [List.count_cons, List.count_cons]
    simp only [cond_false] at this
    omega
theorem B1_m (h1 : u < c) (h : SB1 c u e f w) : SB1 c u e f (.m :: w) := by
  obtain ⟨out, r, mk⟩ := h
  refine ⟨.m :: out, ⟨r.gd, fun _ => rfl, ?_, ?_⟩, fun N x => ?_⟩
  · show true :: false :: bw out = true :: swB c u (true :: false :: bw w)
    rw [swB_t h1, swB_f (Nat.succ_pos u), r.bits]
    rfl
  · show bk out ++ [false] = swB (c - 1) u (bk w)
    rw [r.kept]
    rfl
  · have := mk N x
    show ((N - 0) :: marks out (N - 0)).count x + (ends e (bk w) N).count x = (if N == x then 1 else 0) + (N :: marks w N).count x + (ends f (swB (c - 1) u (bk w)) N).count x
    rw [Int.sub_zero, List.count_cons, List.count_cons]
    rw [Int.sub_zero] at this
    simp only [cond_true] at this
    omega
theorem B2_m (h1 : u < c) (h : SB2 c u w) : SB2 c u (.m :: w) := by
  obtain ⟨out, r, mk⟩ := h
  refine ⟨.m :: out, ⟨r.gd, fun _ => rfl, ?_, ?_⟩, fun N x => ?_⟩
  · show true :: false :: bw out = true :: swB c u (true :: false :: bw w)
    rw [swB_t h1, swB_f (Nat.succ_pos u), r.bits]
    rfl
  · show bk out ++ [false] = swB (c - 1) u (bk w)
    rw [r.kept]
    rfl
  · have := mk N x
    show ((N - 0) :: marks out (N - 0)).count x + (ends false (bk w) N).count x = 0 + (N :: marks w N).count x + (ends true (swB (c - 1) u (bk w)) N).count x
    rw [Int.sub_zero, List.count_cons, List.count_cons]
    rw [Int.sub_zero] at this
    simp only [cond_false] at this
    omega
theorem C_o (h : SC c w) : SC c (.o :: w) := by
  obtain ⟨out, r, mk⟩ := h
  refine ⟨.o :: out, ⟨?_, fun _ => rfl, ?_, ?_⟩, fun N x => ?_⟩
  · show (hdB out && gdB out) = true
    rw [r.hd rfl, r.gd]
    rfl
  · show true :: bw out = true :: swB c c (true :: bw w)
    rw [swB_tf (Nat.lt_irrefl c), r.bits]
    rfl
  · show true :: (bk out ++ [false]) = [true, true] ++ swB (c - 1) (c - 1) (true :: bk w)
    rw [swB_tf (Nat.lt_irrefl _), r.kept]
    rfl
  · have := mk (N + 1) x
    show (marks out (N - 2 + 1)).count x + (ends true (true :: bk w) N).count x = 0 + (marks w (N + 1)).count x + (ends true (swB (c - 1) (c - 1) (true :: bk w)) N).count x
    rw [swB_tf (Nat.lt_irrefl _), endsT, endsT]
    have e1 : N + 1 - 2 = N - 2 + 1 := by omega
    rw [e1] at this
    exact this
theorem C_m (c1 : 1 ≤ c) (h : SB1 c (c - 1) true true w) : SC c (.m :: w) := by
  obtain ⟨out, r, mk⟩ := h
  refine ⟨.o :: .o :: out, ⟨?_, fun _ => rfl, ?_, ?_⟩, fun N x => ?_⟩
  · show (true && (hdB out && gdB out)) = true
    rw [r.hd rfl, r.gd]
    rfl
  · show true :: true :: bw out = true :: swB c c (true :: false :: bw w)
    rw [swB_tf (Nat.lt_irrefl c), swB_f c1, r.bits]
    rfl
  · show true :: true :: (bk out ++ [false]) = [true, true] ++ swB (c - 1) (c - 1) (bk w)
    rw [r.kept]
    rfl
  · have := mk N x
    show (marks out (N - 2 + 1 + 1)).count x + (ends true (bk w) N).count x = 0 + (N :: marks w N).count x + (ends true (swB (c - 1) (c - 1) (bk w)) N).count x
    have e1 : N - 2 + 1 + 1 = N := by omega
    rw [e1, List.count_cons]
    rw [Int.sub_zero] at this
    simp only [cond_true] at this
    omega
/-- every state, over a word with enough empty boxes behind it -/
theorem sim (c1 : 1 ≤ c) (k : Nat) : ∀ (w : List Lx), gdB w = true →
    (∀ u, u ≤ c → (0 < u → hdB w = true) → u + w.length + 1 ≤ k → SA c u (w ++ zs k)) ∧
    (∀ u e f, u < c → ((u = 0 ∧ e = f) ∨ (0 < u ∧ e = true)) → (f = true → u = c - 1) → u + w.length + 1 ≤ k → SB1 c u e f (w ++ zs k)) ∧
    (∀ u, u + 1 < c → u + w.length + 1 ≤ k → SB2 c u (w ++ zs k)) ∧
    (hdB w = true → c + w.length + 1 ≤ k → SC c (w ++ zs k)) := by
  intro w
  induction w with
  | nil =>
    intro _
    refine ⟨fun u _ h _ => ?_, fun u e f h1 ok hf hk => sB1_zs c1 u k (by simpa using hk) e f ok, fun u _ hk => sB2_zs c1 u k (by simpa using hk), fun h => nomatch h⟩
    obtain rfl : u = 0 := by
      rcases Nat.eq_zero_or_pos u with z | z
      · exact z
      · cases h z
    exact sA_zs c1 k
  | cons l w ih =>
    intro g
    cases l with
    | z =>
      obtain ⟨ia, ib, ib2, ic⟩ := ih g
      refine ⟨fun u h1 h2 hk => ?_, fun u e f h1 ok hf hk => ?_, fun u h1 hk => ?_, fun h => nomatch h⟩
      · obtain rfl : u = 0 := by
          rcases Nat.eq_zero_or_pos u with z | z
          · exact z
          · cases h2 z
        exact A_z c1 (ia 0 (by omega) (fun z => absurd z (Nat.lt_irrefl 0)) (by rw [List.length_cons] at hk; omega))
      · rw [List.length_cons] at hk
        rcases ok with ⟨rfl, rfl⟩ | ⟨u0, rfl⟩
        · exact B1_z0 c1 (ia 0 (by omega) (fun z => absurd z (Nat.lt_irrefl 0)) (by omega))
        · obtain ⟨u, rfl⟩ : ∃ j, u = j + 1 := ⟨u - 1, by omega⟩
          exact B1_z (ib2 u (by omega) (by omega))
      · rw [List.length_cons] at hk
        cases u with
        | zero => exact B2_z0 c1 (ia 0 (by omega) (fun z => absurd z (Nat.lt_irrefl 0)) (by omega))
        | succ u => exact B2_z (ib2 u (by omega) (by omega))
    | o =>
      have g2 : (hdB w && gdB w) = true := g
      rw [Bool.and_eq_true] at g2
      obtain ⟨ia, ib, ib2, ic⟩ := ih g2.2
      refine ⟨fun u h1 h2 hk => ?_, fun u e f h1 ok hf hk => ?_, fun u h1 hk => ?_, fun h hk => ?_⟩
      · rw [List.length_cons] at hk
        by_cases z : u < c
        · exact A_o z (ia (u + 1) (by omega) (fun _ => g2.1) (by omega))
        · obtain rfl : u = c := by omega
          exact A_oc c1 (ic g2.1 (by omega))
      · rw [List.length_cons] at hk
        exact B1_o h1 hf (ia (u + 1) (by omega) (fun _ => g2.1) (by omega))
      · rw [List.length_cons] at hk
        exact B2_o h1 (ia (u + 1) (by omega) (fun _ => g2.1) (by omega))
      · rw [List.length_cons] at hk
        exact C_o (ic g2.1 (by omega))
    | m =>
      obtain ⟨ia, ib, ib2, ic⟩ := ih g
      refine ⟨fun u h1 h2 hk => ?_, fun u e f h1 ok hf hk => ?_, fun u h1 hk => ?_, fun h hk => ?_⟩
      · rw [List.length_cons] at hk
        by_cases z : u < c
        · refine A_m z (ib u _ false z ?_ (fun q => nomatch q) (by omega))
          rcases Nat.eq_zero_or_pos u with q | q
          · exact .inl ⟨q, decide_eq_false (by omega)⟩
          · exact .inr ⟨q, decide_eq_true q⟩
        · obtain rfl : u = c := by omega
          refine A_mc c1 (ib (u - 1) true true (by omega) ?_ (fun _ => rfl) (by omega))
          rcases Nat.eq_zero_or_pos (u - 1) with q | q
          · exact .inl ⟨q, rfl⟩
          · exact .inr ⟨q, rfl⟩
      · rw [List.length_cons] at hk
        exact B1_m h1 (ib u e f h1 ok hf (by omega))
      · rw [List.length_cons] at hk
        exact B2_m (by omega) (ib2 u h1 (by omega))
      · rw [List.length_cons] at hk
        refine C_m c1 (ib (c - 1) true true (by omega) ?_ (fun _ => rfl) (by omega))
        rcases Nat.eq_zero_or_pos (c - 1) with q | q
        · exact .inl ⟨q, rfl⟩
        · exact .inr ⟨q, rfl⟩
end
end SR
set_option Elab.async false
set_option linter.all false
set_option maxRecDepth 100000
set_option maxHeartbeats 4000000
namespace SR
open PySem L2
/-- a value of any kind, with its class -/
inductive AnyT (K : PySem.W.Frag) (H : Hp) : V → String → Prop where
  | non : AnyT K H .non "NoneType"
  | bl (b : Bool) : AnyT K H (.bl b) "bool"
  | int (i : Int) : AnyT K H (.int i) "int"
  | str (x : Str) : AnyT K H (.str x) "str"
  | lst {a : Addr} {xs : List V} (h : SqL K H a xs) : AnyT K H (.ref a) "list"
  | tup {a : Addr} {xs : List V} (h : SqT K H a xs) : AnyT K H (.ref a) "tuple"
  | dct {a : Addr} {kvs : List (Key × V)} (h : Rd H a (.dK kvs)) : AnyT K H (.ref a) "dict"
theorem AnyT.ty {K : PySem.W.Frag} {H : Hp} {v : V} {t : String} (h : AnyT K H v t) : TyX K H v (.type t) := by
  cases h with
  | non => exact .base .non
  | bl b => exact .base (.bl b)
  | int i => exact .base (.int i)
  | str x => exact .base (.str x)
  | lst h =>
    rcases h with (h | ⟨o, h⟩) | ⟨o, its, n, hk, hc, _⟩
    · exact .base (.lst h)
    · exact .base (.frz h)
    · exact .kList hk hc
  | tup h =>
    rcases h with (h | ⟨o, h⟩) | ⟨o, its, n, hk, hc, _⟩
    · exact .base (.tup h)
    · exact .fTuple h
    · exact .kTuple hk hc
  | dct h =>
    rcases h with h | ⟨o, h⟩
    · exact .base (.dK h)
    · exact .fDict h
theorem AnyT.same {K : PySem.W.Frag} {H H' : Hp} {v : V} {t : String} (e : Same H H') (h : AnyT K H v t) : AnyT K H' v t := by
  cases h with
  | non => exact .non
  | bl b => exact .bl b
  | int i => exact .int i
  | str x => exact .str x
  | lst h => exact .lst (SqL.same e h)
  | tup h => exact .tup (SqT.same e h)
  | dct h =>
    rcases h with h | ⟨o, h⟩
    · exact .dct (.inl (e _ _ h))
    · exact .dct (.inr ⟨o, e _ _ h⟩)
def isI : V → Bool
  | .int _ => true
  | _ => false
/-- which class a value's class is, asked of a built-in one -/
theorem AnyT.kit {K : PySem.W.Frag} {H : Hp} {v : V} {t : String} (h : AnyT K H v t) :
    PySem.W.kitOne K (.type t) (.type "int") = some (isI v || t == "bool") ∧ PySem.W.kitOne K (.type t) (.type "bool") = some (t == "bool") ∧
    PySem.W.kitOne K (.type t) (.type "tuple") = some (t == "tuple") ∧ PySem.W.kitOne K (.type t) (.type "list") = some (t == "list") ∧ PySem.W.kitOne K (.type t) (.type "str") = some (t == "str") ∧ PySem.W.kitOne K (.type t) (.type "dict") = some (t == "dict") := by
  cases h with
  | non => exact ⟨kit_ty (show kitB "NoneType" "int" = some false by decide +kernel), kit_ty (by decide +kernel), kit_ty (by decide +kernel), kit_ty (by decide +kernel), kit_ty (by decide +kernel), kit_ty (by decide +kernel)⟩
  | bl b => exact ⟨kit_ty (show kitB "bool" "int" = some true by decide +kernel), kit_ty (by decide +kernel), kit_ty (by decide +kernel), kit_ty (by decide +kernel), kit_ty (by decide +kernel), kit_ty (by decide +kernel)⟩
  | int i => exact ⟨kit_ty (show kitB "int" "int" = some true by decide +kernel), kit_ty (by decide +kernel), kit_ty (by decide +kernel), kit_ty (by decide +kernel), kit_ty (by decide +kernel), kit_ty (by decide +kernel)⟩
  | str x => exact ⟨kit_ty (show kitB "str" "int" = some false by decide +kernel), kit_ty (by decide +kernel), kit_ty (by decide +kernel), kit_ty (by decide +kernel), kit_ty (by decide +kernel), kit_ty (by decide +kernel)⟩
  | lst h => exact ⟨kit_ty (show kitB "list" "int" = some false by decide +kernel), kit_ty (by decide +kernel), kit_ty (by decide +kernel), kit_ty (by decide +kernel), kit_ty (by decide +kernel), kit_ty (by decide +kernel)⟩
  | tup h => exact ⟨kit_ty (show kitB "tuple" "int" = some false by decide +kernel), kit_ty (by decide +kernel), kit_ty (by decide +kernel), kit_ty (by decide +kernel), kit_ty (by decide +kernel), kit_ty (by decide +kernel)⟩
  | dct h => exact ⟨kit_ty (show kitB "dict" "int" = some false by decide +kernel), kit_ty (by decide +kernel), kit_ty (by decide +kernel), kit_ty (by decide +kernel), kit_ty (by decide +kernel), kit_ty (by decide +kernel)⟩
theorem AnyT.notB {K : PySem.W.Frag} {H : Hp} {v : V} {t : String} (h : AnyT K H v t) (hi : isI v = true) : (t == "bool") = false := by
  cases h <;> first | rfl | (cases hi)
def spIsInt (K : PySem.W.Frag) : Sp := fun vs H Q _ => ∃ v t, vs = [v] ∧ AnyT K H v t ∧ Q (.bl (isI v)) H
def t_is_integer (K : PySem.W.Frag) : TS := tRet (tAndV (tCB (rIsi K) (tCons (tVar 0) (tCons (tC (.ty "int")) tNil))) (tNotV (tCB (rIsi K) (tCons (tVar 0) (tCons (tC (.ty "bool")) tNil)))))
theorem pure_is_integer {K : PySem.W.Frag} (vs : List V) (H : Hp) (Q : VK) (E : XK) (h : spIsInt K vs H Q E) : t_is_integer K { nx := fun _ H' => Q .non H', rt := Q } (start ["value"] vs) H := by
  obtain ⟨v, t, rfl, hv, q⟩ := h
  obtain ⟨k1, k2, _⟩ := hv.kit
  refine ⟨_, rfl, _, _, _, _, _, rfl, .ty _, hv.ty, k1, _, rfl, ?_⟩
  cases hi : isI v with
  | true =>
    refine iteT ⟨_, rfl, _, _, _, _, _, rfl, .ty _, hv.ty, k2, _, rfl, ?_⟩
    rw [hv.notB hi]
    rw [hi] at q
    exact q
  | false =>
    rw [hi] at q
    cases hb : t == "bool" with
    | true =>
      refine iteT ⟨_, rfl, _, _, _, _, _, rfl, .ty _, hv.ty, k2, _, rfl, ?_⟩
      rw [hb]
      exact q
    | false => exact iteF q
/-- an integer from lo to hi -/
def btw (lo hi : Int) : V → Bool
  | .int i => decide (lo ≤ i) && decide (i ≤ hi)
  | _ => false
def spBetween (K : PySem.W.Frag) : Sp := fun vs H Q _ => ∃ v t lo hi, vs = [v, lo, hi] ∧ AnyT K H v t ∧ (isI v = true → ∃ i j, lo = .int i ∧ hi = .int j ∧ Q (.bl (btw i j v)) H) ∧ (isI v = false → Q (.bl false) H)
def t_is_between (K : PySem.W.Frag) : TS := tRet (tAndV (tCall (spIsInt K) [] E0 (tCons (tVar 0) (tNil))) (tChain qLe qLe (tVar 1) (tVar 0) (tVar 2)))
theorem pure_is_between {K : PySem.W.Frag} (vs : List V) (H : Hp) (Q : VK) (E : XK) (h : spBetween K vs H Q E) : t_is_between K { nx := fun _ H' => Q .non H', rt := Q } (start ["value", "low", "high"] vs) H := by
  obtain ⟨v, t, lo, hi, rfl, hv, q, q'⟩ := h
  refine ⟨_, rfl, v, t, rfl, hv, _, rfl, ?_⟩
  cases e : isI v with
  | false => exact iteF (q' e)
  | true =>
    obtain ⟨i, j, rfl, rfl, q2⟩ := q e
    cases v with
    | int z =>
      refine iteT ⟨_, rfl, _, rfl, i, z, rfl, rfl, _, rfl, ?_⟩
      have q2 : Q (.bl (decide (i ≤ z) && decide (z ≤ j))) H := q2
      by_cases h1 : i ≤ z
      · rw [decide_eq_true h1] at q2 ⊢
        exact iteT ⟨_, rfl, z, j, rfl, rfl, q2⟩
      · rw [decide_eq_false h1] at q2 ⊢
        exact iteF q2
    | _ => cases e
end SR
set_option Elab.async false
set_option linter.all false
set_option maxRecDepth 100000
set_option maxHeartbeats 4000000
namespace SR
open PySem L2
/-- what a carrier of capacity c with load u leaves of a box of capacity d with x items: the count, the load -/
def stC (c u d x : Int) : Int := x - min (c - u) x + min u (d - x)
def stL (c u d x : Int) : Int := u + min (c - u) x - min u (d - x)
/-- an integer from 0 to what w is -/
def upto (w v : V) : Bool := match w with
  | .int c => btw 0 c v
  | _ => false
theorem btw_iff {lo hi : Int} {v : V} : btw lo hi v = true ↔ ∃ i, v = .int i ∧ lo ≤ i ∧ i ≤ hi := by
  cases v with
  | int i =>
    show (decide (lo ≤ i) && decide (i ≤ hi)) = true ↔ _
    rw [Bool.and_eq_true, decide_eq_true_iff, decide_eq_true_iff]
    exact ⟨fun h => ⟨i, rfl, h⟩, fun ⟨j, e, h⟩ => by cases e; exact h⟩
  | _ => exact Iff.intro (fun h => nomatch h) (fun ⟨j, e, _⟩ => nomatch e)
end SR
set_option Elab.async false
set_option linter.all false
set_option maxRecDepth 100000
set_option maxHeartbeats 4000000
namespace SR
open PySem L2
theorem StB.d {H : Hp} {d g c : Addr} {b : Nat} (S : StB H d g c b) : ∃ o, H d = some o := let ⟨_, _, _, _, h, _⟩ := S; ⟨_, h⟩
theorem StB.g {H : Hp} {d g c : Addr} {b : Nat} (S : StB H d g c b) : ∃ o, H g = some o := let ⟨_, _, _, _, _, h, _⟩ := S; ⟨_, h⟩
theorem StB.c {H : Hp} {d g c : Addr} {b : Nat} (S : StB H d g c b) : ∃ o, H c = some o := let ⟨_, _, _, _, _, _, h, _⟩ := S; ⟨_, h⟩
/-- a new address is none of the state's -/
theorem StB.off {H : Hp} {d g c p : Addr} {b : Nat} (S : StB H d g c b) (h : H p = none) : p ≠ d ∧ p ≠ g ∧ p ≠ c := by
  obtain ⟨_, h1⟩ := S.d
  obtain ⟨_, h2⟩ := S.g
  obtain ⟨_, h3⟩ := S.c
  exact ⟨(ne_of_none h1 h).symm, (ne_of_none h2 h).symm, (ne_of_none h3 h).symm⟩
theorem hid_new {d g p : Addr} {H : Hp} {o : HO} (h1 : p ≠ d) (h2 : p ≠ g) : hid d g (upd H p o) p = some o := hid_of upd_same h1 h2
theorem sz {n : Nat} (h : n ≤ 1000) : n ≤ sizeLine := Nat.le_of_lt (small1000 h)
abbrev qIsN : R2 := fun x y H Q => y = .non ∧ Q (.bl (decide (x = .non))) H
/-- a <= b <= c as a value -/
theorem chain_le {σ : L2.St} {H : Hp} {Q : VK} {ta tb tc : TE} {i j k : Int} (ha : ∀ Q' : VK, Q' (.int i) H → ta σ H Q') (hb : ∀ Q' : VK, Q' (.int j) H → tb σ H Q') (hc : ∀ Q' : VK, Q' (.int k) H → tc σ H Q') (q : Q (.bl (decide (i ≤ j) && decide (j ≤ k))) H) : tChain qLe qLe ta tb tc σ H Q := by
  refine ha _ (hb _ ⟨i, j, rfl, rfl, _, rfl, ?_⟩)
  by_cases h : i ≤ j
  · rw [decide_eq_true h] at q ⊢
    exact iteT (hc _ ⟨j, k, rfl, rfl, q⟩)
  · rw [decide_eq_false h] at q ⊢
    exact iteF q
end SR
set_option Elab.async false
set_option linter.all false
set_option maxRecDepth 100000
set_option maxHeartbeats 4000000
set_option Elab.async false
set_option linter.all false
set_option maxRecDepth 100000
set_option maxHeartbeats 4000000
namespace SR
open PySem L2
mutual
def cost : PyData → Nat
  | .none => 4
  | .bool _ => 5
  | .int _ => 1921
  | .str x => (reprText x).length
  | .list xs => costAll xs + 4
  | .tuple xs => costAll xs + 4
  | .dict _ => 0
def costAll : List PyData → Nat
  | [] => 0
  | x :: xs => cost x + 2 + costAll xs
end
theorem listText_len (ts : List Str) : (listText ts).length ≤ piled ts + 2 := by
  cases ts with
  | nil => decide
  | cons t r =>
    have h := textFrom_length_pos r 1 (("[" : Str) ++ (if (0 : Nat) > 0 then ", " else "" : String) ++ t) (Nat.succ_pos 0)
    have e : ((("[" : Str) ++ (if (0 : Nat) > 0 then ", " else "" : String) ++ t)).length = 1 + t.length := by
      simp only [strLen_append] <;> rfl
    have e2 : (listText (t :: r)).length = (textFrom 1 (("[" : Str) ++ (if (0 : Nat) > 0 then ", " else "" : String) ++ t) r).length + 1 := by
      show (textFrom 1 (("[" : Str) ++ (if (0 : Nat) > 0 then ", " else "" : String) ++ t) r ++ "]").length = _
      simp only [strLen_append] <;> rfl
    rw [e2, h, e, piled_cons]
    omega
theorem tupleText_len (ts : List Str) : (tupleText ts).length ≤ piled ts + 4 := by
  unfold tupleText
  rw [strLen_append, strLen_append]
  have e1 : ((("(" : String) : Str)).length = 1 := rfl
  have e3 : (((if ts.length == 1 then ",)" else ")" : String) : Str)).length ≤ 2 := by split <;> decide
  by_cases h : ts = []
  · subst h
    have e4 : (Str.join ", " []).length = 0 := rfl
    omega
  · have := join_length_add ts h
    omega
mutual
theorem shown_cost : ∀ d : PyData, d.showable = true → d.hasDict = false → d.shown.length ≤ cost d
  | .none, _, _ => by show (("None" : String) : Str).length ≤ 4; decide
  | .bool b, _, _ => by cases b <;> (simp only [PyData.shown, cost]; decide)
  | .int i, h, _ => by
    have e := int_text_length_le (k := 1920) (by decide) (of_decide_eq_true h)
    show (Str.ofString (toString i)).length ≤ 1921
    rw [ofString_length]
    exact e
  | .str x, _, _ => Nat.le_refl _
  | .list xs, h, hd => by
    have q := shownAll_cost xs h hd
    have := listText_len (PyData.shownAll xs)
    show (listText (PyData.shownAll xs)).length ≤ costAll xs + 4
    omega
  | .tuple xs, h, hd => by
    have q := shownAll_cost xs h hd
    have := tupleText_len (PyData.shownAll xs)
    show (tupleText (PyData.shownAll xs)).length ≤ costAll xs + 4
    omega
  | .dict _, _, hd => nomatch hd
theorem shownAll_cost : ∀ ds : List PyData, PyData.showableAll ds = true → PyData.hasDictAll ds = false → piled (PyData.shownAll ds) ≤ costAll ds
  | [], _, _ => Nat.le_refl _
  | d :: ds, h, hd => by
    have h' : (PyData.showable d && PyData.showableAll ds) = true := h
    have hd' : (PyData.hasDict d || PyData.hasDictAll ds) = false := hd
    rw [Bool.and_eq_true] at h'
    rw [Bool.or_eq_false_iff] at hd'
    have q1 := shown_cost d h'.1 hd'.1
    have q2 := shownAll_cost ds h'.2 hd'.2
    show piled (PyData.shown d :: PyData.shownAll ds) ≤ cost d + 2 + costAll ds
    rw [piled_cons]
    omega
end
theorem dRepr_cost {d : PyData} (h : d.showable = true) (hd : d.hasDict = false) : (dRepr d).length ≤ cost d := by
  cases d with
  | dict _ => cases hd
  | _ => exact shown_cost _ h hd
theorem show_int {i : Int} (h : i.natAbs < 2 ^ 1900) : (PyData.int i).showable = true := by
  show decide (i.natAbs.log2 < 1920) = true
  refine decide_eq_true ?_
  by_cases e : i.natAbs = 0
  · rw [e]; decide
  · exact Nat.lt_of_lt_of_le ((Nat.log2_lt e).mpr h) (by decide)
theorem repr_fit {K : PySem.W.Frag} {H : Hp} {x : V} {d : PyData} (hs : d.showable = true) (hx : Dp K H x d) (hc : cost d ≤ 1000000) : (dRepr d).length ≤ sizeLine :=
  Nat.le_trans (dRepr_cost hs (dp_nodict _ _ hx)) (Nat.le_trans hc (by decide))
theorem eq_same {K : PySem.W.Frag} {H : Hp} {x y : V} {d : PyData} {Q : VK} (hx : Dp K H x d) (hy : Dp K H y d) (hs : SeqAt.shaped d = true) (q : Q (.bl true) H) : rEqD K x y H Q := by
  refine ⟨d, d, hx, hy, hs, hs, ?_⟩
  have e : PyData.eqv d d = true := SeqAt.eqv_refl d (by
    unfold SeqAt.shaped at hs
    rw [Bool.and_eq_true] at hs
    exact hs.1)
  rw [e]
  exact q
end SR
set_option Elab.async false
set_option linter.all false
set_option maxRecDepth 100000
set_option maxHeartbeats 4000000
namespace SR
open PySem L2
section
variable {K : PySem.W.Frag} {B : Addr}
theorem StB.same {H H' : Hp} {d g c : Addr} {b : Nat} (e : Same H H') (S : StB H d g c b) : StB H' d g c b := by
  obtain ⟨r, t, gs, cs, h1, h2, h3, h4⟩ := S
  exact ⟨r, t, gs, cs, e _ _ h1, e _ _ h2, e _ _ h3, h4⟩
/-- the list of four, as the rest of a turn finds it -/
structure Four (K : PySem.W.Frag) (H : Hp) (d g c s : Addr) (v1 v2 v3 v4 : V) : Prop where
  at_ : H s = some (.lst [v1, v2, v3, v4])
  nd : s ≠ d
  ng : s ≠ g
  nc : s ≠ c
  k1 : ∃ t, AnyT K (hid d g H) v1 t
  k2 : ∃ t, AnyT K (hid d g H) v2 t
  k3 : ∃ t, AnyT K (hid d g H) v3 t
  k4 : ∃ t, AnyT K (hid d g H) v4 t
theorem Four.kp {H H' : Hp} {d g c s : Addr} {v1 v2 v3 v4 : V} (F : Four K H d g c s v1 v2 v3 v4) (k : Kp d g H H') : Four K H' d g c s v1 v2 v3 v4 :=
  ⟨k _ _ F.nd F.ng F.at_, F.nd, F.ng, F.nc, let ⟨t, h⟩ := F.k1; ⟨t, h.same k.hid⟩, let ⟨t, h⟩ := F.k2; ⟨t, h.same k.hid⟩, let ⟨t, h⟩ := F.k3; ⟨t, h.same k.hid⟩, let ⟨t, h⟩ := F.k4; ⟨t, h.same k.hid⟩⟩
def pr2 (i j : Int) : PyData := .tuple [.int i, .int j]
theorem dp_pr2 {H : Hp} {p : Addr} {i j : Int} (h : H p = some (.tup [.int i, .int j])) : Dp K H (.ref p) (pr2 i j) := .tup (SqT.of h) (.cons (.int i) (.cons (.int j) .nil))
theorem pr2_show {i j : Int} (h1 : i.natAbs < 2 ^ 1900) (h2 : j.natAbs < 2 ^ 1900) : (pr2 i j).showable = true := by
  show (PyData.showable (.int i) && (PyData.showable (.int j) && true)) = true
  rw [show_int h1, show_int h2] <;> rfl
def spLaw (K : PySem.W.Frag) : Sp := fun vs H Q _ => ∃ (a : Addr) (ns : List Int), vs = [.ref a] ∧ SqL K H a (ns.map V.int) ∧ ns.length ≤ 63 ∧ ∀ H', Q (.bl true) H'
end
end SR
set_option Elab.async false
set_option linter.all false
set_option maxRecDepth 100000
set_option maxHeartbeats 4000000
namespace SR
open PySem PySem.Spec PyProof.Rows L2
structure Kn (P : Program) (w : World) (K : PySem.W.Frag) (mg : Str → Option Value) (base : Heap) (CX : CXT) (k : Nat) (x : Str) (ps : List Str) (sp : Sp) : Prop where
  ex : ∃ f fd, FnOk P w K mg base CX k f fd ps sp ∧ mg x = some (.ref f) ∧ PySem.W.keepIn K (.ref f) = true ∧ L2.Binds K fd ps []
structure KnG (P : Program) (w : World) (K : PySem.W.Frag) (mg : Str → Option Value) (base : Heap) (CX : CXT) (k : Nat) (x : Str) (ps : List Str) (sp : Sp) : Prop where
  ex : ∃ f fd, FnG P w K mg base CX k f fd ps sp ∧ mg x = some (.ref f) ∧ PySem.W.keepIn K (.ref f) = true ∧ L2.Binds K fd ps []
/-- with keywords: m positional values, then those named ks -/
structure KnK (P : Program) (w : World) (K : PySem.W.Frag) (mg : Str → Option Value) (base : Heap) (CX : CXT) (k : Nat) (x : Str) (ps : List Str) (sp : Sp) (m : Nat) (ks : List Str) (gV : List V → List V → List V) : Prop where
  ex : ∃ f fd g, FnOk P w K mg base CX k f fd ps sp ∧ mg x = some (.ref f) ∧ PySem.W.keepIn K (.ref f) = true ∧ KBn K fd ps m ks g gV
section
variable {X : Cx} {CX : CXT} {k j : Nat} {ps ks : List Str} {sp : Sp} {E : XK} {x : Str} {p pos : Pos} {e : Expr} {es : List Expr} {t tk : TA} {kws : List Keyword} {gV : List V → List V → List V}
theorem pe_k (c : Kn X.prog X.w X.K X.mg X.base CX k x ps sp) (hr : Room j X.A) (hk : k ≤ j) (hg : Gl X x) (hx : Passes CX X E) (ha : PA X (e :: es) t) (hdb : (x == ("__debug__" : Str)) = false := by decide)
    (he : starEach (e :: es) X.env = (false, eval e X.env) :: starEach es X.env := by rfl) (hpl : (backTo pos (starEach es X.env)).any (·.1) = false := by rfl) : PE X (.Call (.Name x p) (e :: es) [] pos) (tCall sp [] E t) := by
  obtain ⟨f, fd, F, hm, kp, b⟩ := c.ex
  exact pe_call F (hr.mono hk) hg hm kp b .nil hx ha hdb he hpl
theorem pe_kG (c : KnG X.prog X.w X.K X.mg X.base CX k x ps sp) (hgs : Gs X.A) (hr : Room j X.A) (hk : k ≤ j) (hg : Gl X x) (hx : Passes CX X E) (ha : PA X (e :: es) t) (hdb : (x == ("__debug__" : Str)) = false := by decide)
    (he : starEach (e :: es) X.env = (false, eval e X.env) :: starEach es X.env := by rfl) (hpl : (backTo pos (starEach es X.env)).any (·.1) = false := by rfl) : PE X (.Call (.Name x p) (e :: es) [] pos) (tCall sp [] E t) := by
  obtain ⟨f, fd, F, hm, kp, b⟩ := c.ex
  exact pe_callG1 F hgs (hr.mono hk) hg hm kp b .nil hx ha hdb he hpl
theorem pe_kK0 {E : L2.St → XK} (c : KnK X.prog X.w X.K X.mg X.base CX k x ps sp 0 ks gV) (hr : Room j X.A) (hk : k ≤ j) (hg : Gl X x) (hx : ∀ σ, PassesAt CX X σ (E σ)) (hkw : PK X kws tk)
    (hall : (backToKw pos (keywordEach kws X.env)).all (·.1.isSome) = true := by rfl) (hks : (backToKw pos (keywordEach kws X.env)).filterMap (·.1) = ks := by rfl) (hdb : (x == ("__debug__" : Str)) = false := by decide)
    (hpl : ((backTo pos (starEach [] X.env)).any (·.1) || (backToKw pos (keywordEach kws X.env)).any (·.1.isNone)) = false := by rfl) :
    PE X (.Call (.Name x p) [] kws pos) (tKw ks.length sp gV E tNil tk) := by
  obtain ⟨f, fd, g, F, hm, kp, b⟩ := c.ex
  exact pe_kw0 F (hr.mono hk) hg hm kp b hx hkw hall hks hdb hpl
end
/-- a module's name by its value -/
theorem pe_gl {X : Cx} {x : Str} {pos : Pos} {v : V} (hg : Gl X x) (h : ∃ u, X.mg x = some u ∧ RelV v u) (hdb : (x == ("__debug__" : Str)) = false := by decide) : PE X (.Name x pos) (tC v) := by
  obtain ⟨u, h1, h2⟩ := h
  exact pe_glob hg h1 h2 hdb
end SR
set_option Elab.async false
set_option linter.all false
set_option maxRecDepth 100000
set_option maxHeartbeats 4000000
namespace SR
open PySem PySem.Spec L2
/-- {elt for tg in iter if ..}, each item a whole number -/
def tScN (w : World) (wi : TI) (g : TG) (tt : TT) (te : TE) (vs : List Nat) : TE := fun σ H Q => wi σ H fun J H1 => ∀ D, H1 D = none →
  ∃ W : Nat → Nat → Hp → Prop, (∃ m, W 0 m (upd H1 D (SetO w D (fun _ => false) 0))) ∧ ∀ i m H2, W i m H2 →
    (J.stop i H2 ∧ Q (.ref D) H2) ∨ (J.go i H2 ∧ ∃ Nx : Hp → Prop, (∀ H', Nx H' → ∃ m', m' < m ∧ W (i + 1) m' H') ∧ ∀ x H', J.yld i H2 x H' → g x (wipe σ vs) H' fun σ2 H3 => wipe σ2 vs = wipe σ vs ∧ tt σ2 H3 fun b H4 =>
      if b = true then te σ2 H4 fun y H5 => rSAdd w (.ref D) [y] H5 fun _ H6 => Nx H6 else Nx H4)
section
variable {X : Cx}
/-- the places that a block's walk keeps to itself -/
def Apart (X : Cx) (fp : List Addr) (H : Hp) : Prop := ∀ b ∈ fp, H b = none
theorem apart_ok {s : Shared} {H3 : Hp} {scope : Scope} {ce : Env} {fp : List Addr} {σ : L2.St} {H : Hp} {s' : Shared} (I : L2.Inv (X.blk s H3 scope ce fp) [] σ H s') (h : Apart X fp H) : ∀ b ∈ fp, FpOk (X.blk s H3 scope ce fp) [] H b := by
  intro b hb
  have a := I.ok.exf b hb
  exact ⟨h b hb, a.1, I.ok.exfs b hb, Or.inl hb, fun x c e => a.2 x c e, fun p hp => nomatch hp⟩
theorem pe_scN {elt tg iter : Expr} {ifs : List Expr} {scope : Scope} {own : List (PySem.Str × Nat)} {pos : Pos} {wi : TI} {g : TG} {tt : TT} {te : TE} (hc : X.calm = true) (hN : X.N.Nodup) (hi : PI X tg iter wi) (ok : BlkOk X.N X.env.scope scope own)
    (hg : ∀ s H C cl fp, PG (X.blk s H scope (compEnvC scope cl C X.env) fp) tg g) (ht : ∀ s H C cl fp, PTs (X.blk s H scope (compEnvC scope cl C X.env) fp) ifs tt)
    (he : ∀ s H C cl fp, PE (X.blk s H scope (compEnvC scope cl C X.env) fp) elt te) (hs : ∀ x, foldedSetIterable iter X.env x = pure x := by intro _; rfl) :
    PE X (.SetComp elt [⟨tg, iter, ifs, 0⟩] scope pos) (tScN X.w wi g tt te (own.map (·.2))) := by
  constructor
  intro pins s σ H Q I h
  rw [PpSet.eval_SetComp]
  have cells : ∀ y ∈ scope.names, y.2 = .free → ∃ c, X.env.cells.lookup y.1 = some c := by
    intro y hy e
    cases ok.free y hy e with
    | inl k => exact I.ok.has _ (Or.inl k)
    | inr k => exact I.ok.has _ (Or.inr k)
  apply wpAny_comprehension_free rfl hs (closure_ok cells) ok.kind (fun y hy e => by rw [ok.uniq y hy, e])
  refine thn (hi.run pins s σ H _ I h) fun xv s1 hx => thn hx fun itv s2 h2 => ?_
  obtain ⟨it, fp, tn, J, H2, rfl, I2, T, run2, f2, q⟩ := h2
  have hfr := I2.hok.fresh (Nat.le_refl s2.heap.objs.size)
  obtain ⟨W, ⟨m0, w0⟩, turn⟩ := q _ hfr
  apply PpSet.newSet_ok
  -- the heap with the empty set
  have new := setO_new (P := X.prog) (H := upd H2 s2.heap.objs.size (SetO X.w s2.heap.objs.size (fun _ => false) 0)) (setR_fresh (h := s2.heap) X.w)
  have I3 : L2.Inv X pins σ (upd H2 s2.heap.objs.size (SetO X.w s2.heap.objs.size (fun _ => false) 0)) { s2 with heap := s2.heap.push ⟨.type "set", none, .set #[] 0 (.fresh 0 0 (!X.w.params.followText "set-order")), #[]⟩ } :=
    I2.laid (t' := s2.toks) (fun b o e => Heap.get?_push_of_some _ e) (Nat.le_refl _) new
  have run3 : tn 0 (s2.heap.push ⟨.type "set", none, .set #[] 0 (.fresh 0 0 (!X.w.params.followText "set-order")), #[]⟩) := T.keep _ _ _ run2 fun b _ o e => Heap.get?_push_of_some _ e
  have low : ∀ b ∈ fp, b < s2.heap.objs.size := fun b hb => let ⟨o, e, _⟩ := T.obj _ _ run2 b hb; Heap.lt_size e
  have f3 : ∀ b ∈ fp, FpOk X pins (upd H2 s2.heap.objs.size (SetO X.w s2.heap.objs.size (fun _ => false) 0)) b ∧ b < (s2.heap.push ⟨.type "set", none, .set #[] 0 (.fresh 0 0 (!X.w.params.followText "set-order")), #[]⟩).objs.size := by
    intro b hb
    have l := low b hb
    refine ⟨⟨(upd_ne (Nat.ne_of_lt l)).trans (f2 b hb).1, (f2 b hb).2⟩, ?_⟩
    rw [Heap.size_push]
    exact Nat.lt_succ_of_lt l
  clear new low f2 run2 hx h I2 I hi hfr q
  generalize upd H2 s2.heap.objs.size (SetO X.w s2.heap.objs.size (fun _ => false) 0) = H3 at I3 w0 f3
  generalize s2.heap.objs.size = D at turn
  generalize hs3 : ({ s2 with heap := s2.heap.push ⟨.type "set", none, .set #[] 0 (.fresh 0 0 (!X.w.params.followText "set-order")), #[]⟩ } : Shared) = s3 at I3 ⊢
  have e3 : s2.heap.push ⟨.type "set", none, .set #[] 0 (.fresh 0 0 (!X.w.params.followText "set-order")), #[]⟩ = s3.heap := by rw [← hs3]
  rw [e3] at run3 f3
  clear hs3 e3
  apply newEnv_comp
  have I4 := block_start I3 ok hN f3
  have run4 : tn 0 (pushCells (s3.heap.push { cls := .type "dict", data := .dict #[] }) scope.names) := T.keep _ _ _ run3 fun b _ o e => pushCells_keeps _ _ _ _ (Heap.get?_push_of_some _ e)
  have pg := hg s3 H3 s3.heap.objs.size (cellsFrom (s3.heap.objs.size + 1) scope.names (cloFrom X.env.cells scope.names [])) fp
  have pt := ht s3 H3 s3.heap.objs.size (cellsFrom (s3.heap.objs.size + 1) scope.names (cloFrom X.env.cells scope.names [])) fp
  have pe := he s3 H3 s3.heap.objs.size (cellsFrom (s3.heap.objs.size + 1) scope.names (cloFrom X.env.cells scope.names [])) fp
  show codeAny _ _ (.compStart _ 0 (.ref it) (.ref D) (compEnvC scope (cellsFrom (s3.heap.objs.size + 1) scope.names (cloFrom X.env.cells scope.names [])) s3.heap.objs.size X.env)) (compPost _ _ _ none _ (.ref D) s3.heap.objs.size) _
  have here : (compEnvC scope (cellsFrom (s3.heap.objs.size + 1) scope.names (cloFrom X.env.cells scope.names [])) s3.heap.objs.size X.env).locals = s3.heap.objs.size := rfl
  generalize compEnvC scope (cellsFrom (s3.heap.objs.size + 1) scope.names (cloFrom X.env.cells scope.names [])) s3.heap.objs.size X.env = ce at I4 pg pt pe here ⊢
  refine (fun loop => PpSet.codeAny_compStart_set loop (T.self X.A 0 _ _ _ run4 loop)) ?_
  replace run4 : tn 0 ({ s3 with heap := pushCells (s3.heap.push { cls := .type "dict", data := .dict #[] }) scope.names } : Shared).heap := run4
  generalize ({ s3 with heap := pushCells (s3.heap.push { cls := .type "dict", data := .dict #[] }) scope.names } : Shared) = s4 at I4 run4 ⊢
  refine PpSet.compLoopS_any (fun n s' => ∃ i H', L2.Inv (X.blk s3 H3 scope ce fp) [] (wipe σ (own.map (·.2))) H' s' ∧ tn i s'.heap ∧ Apart X fp H' ∧ W i n H') ?_ m0 ⟨0, H3, I4, run4, fun b hb => (f3 b hb).1.1, w0⟩
  rintro n s5 ⟨i, H5, I5, t5, a5, w5⟩
  cases turn i n H5 w5 with
  | inl over =>
    refine thnF (T.done (X.blk s3 H3 scope ce fp) rfl rfl rfl hc i [] s5 _ H5 (fun _ _ => False) I5 (apart_ok I5 a5) t5 over.1) ?_
    rintro r s6 ⟨rfl, I6⟩
    have I7 : L2.Inv X pins σ H5 s6 := I3.call' (ch := fp) I6.os I6.base I6.hok I6.bare fun b hb => let z := (f3 b hb).1.2; ⟨z.2.2.1, z.1, z.2.2.2.1, z.2.2.2.2⟩
    obtain ⟨m, ns, _⟩ := I6.loc
    have fr := I6.free
    change H5 ce.locals = none at fr
    change s6.heap.Ns ce.locals m at ns
    rw [here] at fr ns
    obtain ⟨c0, c1, c2, c3, c4, c5⟩ := I3.fpOk (Nat.le_refl _) fr
    exact ⟨m, ns, fun h2 sb => ⟨.ref D, H5, I7.turned (t' := s6.toks) (fun b o hb e => (sb.2 b hb).trans e) c0 c1 c3 c4 c5, rfl, over.2⟩⟩
  | inr more =>
    obtain ⟨go, Nx, hNx, step⟩ := more
    refine thnF (T.item (X.blk s3 H3 scope ce fp) rfl rfl rfl hc i [] s5 _ H5 (fun _ _ => False) I5 (apart_ok I5 a5) t5 go) ?_
    rintro r s6 ⟨u, rfl, h6⟩
    refine thnF h6 ?_
    rintro _ s7 ⟨x, H7, I7, r7, y7, t7, a7⟩
    refine thnF (pg.run _ s7 _ H7 x u _ (I7.pinned (apart_ok I7 a7) (T.obj _ _ t7)) r7 (step x H7 y7)) ?_
    rintro _ s8 ⟨σ8, H8, I8, hw, q8⟩
    refine thnF (pt.run _ s8 σ8 H8 _ I8 q8) ?_
    rintro b s9 ⟨H9, I9, q9⟩
    -- a turn's end
    have done : ∀ (s' : Shared) (H' : Hp), L2.Inv (X.blk s3 H3 scope ce fp) ([] ++ pinsAt fp s7.heap) σ8 H' s' → Nx H' →
        ∃ m, m < n ∧ ∃ i H', L2.Inv (X.blk s3 H3 scope ce fp) [] (wipe σ (own.map (·.2))) H' s' ∧ tn i s'.heap ∧ Apart X fp H' ∧ W i m H' := by
      intro s' H' I' nx
      obtain ⟨m', less, w'⟩ := hNx H' nx
      have kept : ∀ b ∈ fp, ∀ o, s7.heap.get? b = some o → s'.heap.get? b = some o ∧ H' b = none := by
        intro b hb o e
        have z := I'.pin (b, o) (List.mem_append_right _ (List.mem_append_right _ (mem_pinsAt hb e)))
        exact ⟨z.1, z.2.1⟩
      have ln : (wipe σ (own.map (·.2))).length = σ8.length := by rw [← hw, wipe_length]
      have low : L2.Inv (X.blk s3 H3 scope ce fp) [] (wipe σ (own.map (·.2))) H' s' := (I'.unpinned (pins := [])).weak ln fun j v e => by
        rw [← hw] at e
        exact (wipe_some e).1
      have ap : Apart X fp H' := fun b hb => let ⟨o, e, _⟩ := T.obj _ _ t7 b hb; (kept b hb o e).2
      exact ⟨m', less, i + 1, H', low, T.keep _ _ _ t7 (fun b hb o e => (kept b hb o e).1), ap, w'⟩
    cases b with
    | false =>
      rw [if_neg Bool.false_ne_true] at q9 ⊢
      exact done _ _ I9 q9
    | true =>
      rw [if_pos rfl] at q9 ⊢
      refine thnF (pe.run _ s9 σ8 H9 _ I9 q9) ?_
      rintro z s10 ⟨y, H10, I10, ry, q10⟩
      refine thnF (mt_sadd (X := X.blk s3 H3 scope ce fp) _ s10 σ8 H10 (.ref D) [y] (.ref D) [z] _ I10 rfl (.cons ry .nil) q10) ?_
      rintro _ s11 ⟨_, H11, I11, _, q11⟩
      exact done _ _ I11 q11
end
end SR
set_option Elab.async false
set_option linter.all false
set_option maxRecDepth 100000
set_option maxHeartbeats 4000000
namespace SR
open PySem PySem.Spec PyProof.Rows L2
/-- a walk for a set display -/
theorem scN_it {J : It} {n : Nat} {G : Hp → Prop} {Y : Nat → Hp → V → Hp → Prop} (wk : Walk J n G Y) {w : World} {g : TG} {tt : TT} {te : TE} {vs : List Nat} {σ : L2.St} {H1 : Hp} {D : Addr} {Qd : Hp → Prop} (Pv : Nat → Hp → Prop)
    (h0 : Pv 0 (upd H1 D (SetO w D (fun _ => false) 0))) (hG : ∀ i H, i ≤ n → Pv i H → G H)
    (hs : ∀ i x H H', i < n → Pv i H → Y i H x H' → g x (wipe σ vs) H' fun σ2 H3 => wipe σ2 vs = wipe σ vs ∧ tt σ2 H3 fun b H4 => if b = true then te σ2 H4 fun y H5 => rSAdd w (.ref D) [y] H5 fun _ H6 => Pv (i + 1) H6 else Pv (i + 1) H4)
    (hd : ∀ H, Pv n H → Qd H) : ∃ W : Nat → Nat → Hp → Prop, (∃ m, W 0 m (upd H1 D (SetO w D (fun _ => false) 0))) ∧ ∀ i m H2, W i m H2 →
      (J.stop i H2 ∧ Qd H2) ∨ (J.go i H2 ∧ ∃ Nx : Hp → Prop, (∀ H', Nx H' → ∃ m', m' < m ∧ W (i + 1) m' H') ∧ ∀ x H', J.yld i H2 x H' → g x (wipe σ vs) H' fun σ2 H3 => wipe σ2 vs = wipe σ vs ∧ tt σ2 H3 fun b H4 =>
        if b = true then te σ2 H4 fun y H5 => rSAdd w (.ref D) [y] H5 fun _ H6 => Nx H6 else Nx H4) := by
  refine ⟨fun i m H => i + m = n ∧ Pv i H, ⟨n, Nat.zero_add n, h0⟩, ?_⟩
  rintro i m H ⟨rfl, p⟩
  have gh := hG i H (Nat.le_add_right i m) p
  cases m with
  | zero => exact .inl ⟨wk.stops H gh, hd H p⟩
  | succ m =>
    have lt : i < i + (m + 1) := by omega
    exact .inr ⟨wk.goes i H lt gh, Pv (i + 1), fun H' p' => ⟨m, Nat.lt_succ_self m, by omega, p'⟩, fun x H' y => hs i x H H' lt p (wk.yields i H x H' lt gh y)⟩
section
variable {X : Cx}
theorem pi_or {tg l : Expr} {a b : TI} (ha : PI X tg l a) (hb : PI X tg l b) : PI X tg l (fun σ H R => a σ H R ∨ b σ H R) :=
  ⟨fun pins s σ H R I h => h.elim (ha.run pins s σ H R I) (hb.run pins s σ H R I)⟩
theorem cr_or {f : Value} {a b : List V → Hp → VK → Prop} (ha : CallR X f a) (hb : CallR X f b) : CallR X f (fun xs H Q => a xs H Q ∨ b xs H Q) :=
  fun pins s σ H xs us Q I r h => h.elim (ha pins s σ H xs us Q I r) (hb pins s σ H xs us Q I r)
/-- what is never come to -/
theorem ps_no {st : Stmt} : PS X st (fun _ _ _ => False) := ⟨fun _ _ _ _ _ _ h => h.elim⟩
/-- len of a set of whole numbers -/
theorem cr_lenSet : CallR X (.builtin "len") (fun xs H Q => ∃ a S n, xs = [V.ref a] ∧ H a = some (SetO X.w a S n) ∧ Q (.int n) H) := by
  intro pins s σ H xs us Q I r h
  obtain ⟨a, S, n, rfl, ha, q⟩ := h
  obtain ⟨u, rfl, ru⟩ := vals1 r
  cases ru
  obtain ⟨o, es, ep, t, ho, ex, hd, _, _, _, hb, hf, hn, _, _⟩ := setO_get I ha
  have fit : (scanBound : Int) < 2 ^ 63 := by unfold scanBound; decide
  refine call_len_set ho ex hd hf (by omega) ⟨.int n, H, I.tok _, ⟨_, by rw [hn]⟩, q⟩
/-- a tuple whose object has no dict of its own -/
def Bare (H : Hp) (a : Addr) (xs : List V) : Prop := ∃ o, H a = some (.frz o (.tup xs)) ∧ o.cls = .type "tuple" ∧ o.dict = none
theorem Bare.sq {K : PySem.W.Frag} {H : Hp} {a : Addr} {xs : List V} (h : Bare H a xs) : SqT K H a xs := let ⟨o, e, _⟩ := h; .inl (.inr ⟨o, e⟩)
/-- such a tuple of the written part -/
def BareK (K : PySem.W.Frag) (a : Addr) (xs : List V) : Prop := ∃ (o : Obj) (its : List Value) (n : Nat), K.lookup a = some o ∧ o.cls = .type "tuple" ∧ o.dict = none ∧ o.data = .seq its.toArray n ∧ xs.length ≤ sizeLine ∧ Vals xs its
theorem BareK.sq {K : PySem.W.Frag} {H : Hp} {a : Addr} {xs : List V} (h : BareK K a xs) : SqT K H a xs := by
  obtain ⟨o, its, n, h1, h2, _, h4, h5, h6⟩ := h
  refine .inr ⟨o, its.toArray, n, h1, h2, h4, ?_, h6⟩
  rw [List.size_toArray, ← h6.length]
  exact h5
def BareW (K : PySem.W.Frag) (H : Hp) (a : Addr) (xs : List V) : Prop := Bare H a xs ∨ BareK K a xs
theorem BareW.sq {K : PySem.W.Frag} {H : Hp} {a : Addr} {xs : List V} (h : BareW K H a xs) : SqT K H a xs := h.elim Bare.sq BareK.sq
/-- tuple(xs) of a list, the object known -/
theorem cr_tupB : CallR X (.type "tuple") (fun xs H Q => ∃ p ys, xs = [.ref p] ∧ SqL X.K H p ys ∧ ∀ l o, H l = none → o.cls = .type "tuple" → o.dict = none → Q (.ref l) (upd H l (.frz o (.tup ys)))) := by
  intro pins s σ H xs us Q I r h
  obtain ⟨p, ys, rfl, hq, q⟩ := h
  obtain ⟨u, rfl, rx⟩ := vals1 r
  cases rx
  obtain ⟨its, r2, pl, hz⟩ := I.list hq
  have hlen := r2.length
  refine call_tuple_list pl.isList (fun h' kp => ?_) (by simp only [List.size_toArray] <;> omega)
  have I1 : L2.Inv X pins σ H { s with heap := h' } := I.kept (t' := s.toks) kp
  have at_ : (h'.push { cls := .type "tuple", data := .seq its.toArray }).get? h'.objs.size = some { cls := .type "tuple", data := .seq its.toArray } := Heap.get?_push_size _ rfl
  have I2 : L2.Inv X pins σ (upd H h'.objs.size (.frz { cls := .type "tuple", data := .seq its.toArray } (.tup ys))) { s with heap := h'.push { cls := .type "tuple", data := .seq its.toArray } } :=
    I1.laid (t' := s.toks) (fun b o e => Heap.get?_push_of_some _ e) (Nat.le_refl _) ⟨at_, hz, its, r2, IsTup.new _ _⟩
  exact ⟨.ref h'.objs.size, _, I2, rfl, q _ _ (I1.hok.fresh (Nat.le_refl _)) rfl rfl⟩
/-- sorted of a tuple -/
theorem sorted_seq {prog : Program} {w : World} {A : Around} {E : Value → Shared → Prop} {s : Shared} {l : Addr} {vs : List Value} {ltv : Value → Value → Bool} {Q : Value → Shared → Prop} (O : SrtO.Swo ltv) (hl : IsTup s.heap l vs.toArray) (hz : vs.length ≤ sizeLine)
    (hS : 2 ≤ vs.length → ∀ (h1 : Heap) (a : Addr), h1.get? a = some (seqObj "list" vs.toArray 0) → (∀ b o, s.heap.get? b = some o → b ≠ a ∧ h1.get? b = some o) → SrtO.SortableO prog w A.in1.in1 { s with heap := h1 } a vs ltv)
    (h : ∀ (out : List Value) (h1 h' : Heap) (d : Addr), SrtO.Srtd ltv out → SrtO.Stb ltv out vs → (∀ b o, s.heap.get? b = some o → h1.get? b = some o) → (∀ b o, h1.get? b = some o → h'.get? b = some o) → h1.objs.size ≤ d → (∃ n, h'.get? d = some (seqObj "list" out.toArray n)) → Q (.ref d) { s with heap := h' }) :
    wpAny (model prog w) A (call (.builtin "sorted") [.ref l]) Q E s := by
  obtain ⟨o, ho, hcl, n, hd⟩ := hl
  apply Calls.call_function_entry kind_sorted plain_sorted entry_sorted (args_sorted1 _)
  unfold Builtin.«sorted»
  apply wpAny_bind (m := checkCount "sorted" 1 1 _)
  apply wpAny_pure
  apply wpAny_bind
  refine wpAny_collect_seq l (.inr rfl) ho hcl hd (fun h1 k1 => ?_) (by rw [List.size_toArray]; exact hz)
  rw [List.toList_toArray]
  apply wpAny_bind
  refine wpAny_newList ?_ hz
  have new : (h1.push (seqObj "list" vs.toArray 0)).get? h1.objs.size = some (seqObj "list" vs.toArray 0) := Heap.get?_push_size _ rfl
  have old : ∀ b o, s.heap.get? b = some o → b ≠ h1.objs.size ∧ (h1.push (seqObj "list" vs.toArray 0)).get? b = some o := fun b o e => ⟨Nat.ne_of_lt (Heap.lt_size (k1 b o e)), Heap.get?_push_of_some _ (k1 b o e)⟩
  show wpAny _ _ _ _ _ { s with heap := h1.push (seqObj "list" vs.toArray 0) }
  apply wpAny_bind
  refine wpAny_holding (wpAny_call_entry slot_list_sort ⟨_, new, rfl⟩ entry_list_sort (SrtO.list_sort_ord O new hz (fun h2 => hS h2 _ _ new old) fun out hs hb => ⟨_, rfl, ?_⟩) (args_list_sort _))
  refine wpAny_pure ⟨_, rfl, h out h1 _ _ hs hb k1 (fun b o e => ?_) (Nat.le_refl _) (sortedHeap_at new)⟩
  have lt := Heap.lt_size e
  rw [sortedHeap_old (Nat.ne_of_lt lt) (by rw [size_push']; exact Nat.lt_succ_of_lt lt)]
  exact Heap.get?_push_of_some _ e
/-- sorted of a tuple of pairs of whole numbers -/
theorem cr_sortedPT : CallR X (.builtin "sorted") (fun vs H Q => ∃ (a : Addr) (xs : List V) (k : V → Int × Int), vs = [V.ref a] ∧ SqT X.K H a xs ∧ (∀ x ∈ xs, ∃ t, x = V.ref t ∧ H t = some (.tup [.int (k x).1, .int (k x).2])) ∧
    ∀ ys p, SrtO.Srtd (ltP k) ys → SrtO.Stb (ltP k) ys xs → H p = none → Q (.ref p) (upd H p (.lst ys))) := by
  intro pins s σ H vs us Q I r h
  obtain ⟨a, xs, k, rfl, hs, hx, q⟩ := h
  obtain ⟨its, rv, hl, hz⟩ := I.tuple hs
  obtain ⟨u, rfl, ru⟩ := vals1 r
  cases ru
  obtain ⟨e1, e2⟩ := refs_back rv fun x m => let ⟨t, e, _⟩ := hx x m; ⟨t, e⟩
  have prs : ∀ v ∈ its, Srt.IsPair s.heap v (k (backV v)).1 (k (backV v)).2 := by
    intro v hv
    obtain ⟨t, rfl⟩ := e2 v hv
    have hm : V.ref t ∈ xs := by rw [e1]; exact List.mem_map.mpr ⟨_, hv, rfl⟩
    obtain ⟨t', e, ht⟩ := hx _ hm
    cases e
    obtain ⟨_, its2, r2, o, ho, hc, n, hd⟩ := I.hok _ _ ht
    obtain ⟨u1, u2, rfl, ⟨t1, rfl⟩, t2, rfl⟩ := vals2 r2
    exact ⟨t, o, t1, t2, n, rfl, ho, hc, hd⟩
  refine sorted_seq (SrtO.swo_lex fun u => k (backV u)) hl (by rw [← rv.length]; exact hz) (fun h2 h1 b hb kk => ?_) fun out h1 h' d o1 o2 k1 k2 far nw => ?_
  · refine SrtO.pairs_sortableO (s := { s with heap := h1 }) (by omega) (fun v hm => (prs v hm).keeps fun c o e _ => (kk c o e).2) fun o e => ?_
    cases Option.some.inj (e.symm.trans hb)
    intro c
    exact absurd (Value.type.inj c) (by decide)
  · have I1 : L2.Inv X pins σ H { s with heap := h1 } := I.kept (t' := s.toks) k1
    obtain ⟨n, hn⟩ := nw
    have rf : ∀ u ∈ out, ∃ a, u = Value.ref a := fun u hu => e2 u (o2.perm.mem_iff.mp hu)
    have st : SrtO.Stb (ltP k) (out.map backV) xs := by rw [e1]; exact SrtO.Stb.map (ltP_swo k) backV o2
    refine ⟨.ref d, upd H d (.lst (out.map backV)), I1.laid (t' := s.toks) k2 far ⟨?_, out, n, vals_back rf, hn⟩, rfl, q _ d (SrtO.srtd_map o1) st (I1.hok.fresh far)⟩
    rw [st.len]
    exact hz
theorem pairs2 {pins : List (Addr × Obj)} {σ : L2.St} {H : Hp} {s : Shared} (I : L2.Inv X pins σ H s) : ∀ {ps : List Addr} {kvs : List (Key × V)}, Paired (fun p kv => SqT X.K H p [kV kv.1, kv.2]) ps kvs →
    ∃ (prs : List (Key × Value)) (us : List (Value × Value)), KV kvs prs ∧ prs.length = ps.length ∧ us.length = ps.length ∧
      ∀ (j : Nat) (k v : Value), us[j]? = some (k, v) → ∃ b q, ps[j]? = some b ∧ IsTup s.heap b #[k, v] ∧ prs[j]? = some (q, v) ∧ (mixKind X.prog X.w).is q k = true := by
  intro ps
  induction ps with
  | nil =>
    intro kvs h
    cases h
    exact ⟨[], [], .nil, rfl, rfl, fun j k v e => nomatch e⟩
  | cons p ps ih =>
    intro kvs h
    cases h with
    | cons h t =>
      obtain ⟨prs, us, r, l1, l2, f⟩ := ih t
      obtain ⟨its, rv, ht, _⟩ := I.tuple h
      obtain ⟨u, y, rfl, ru, ry⟩ := vals2 rv
      refine ⟨(_, y) :: prs, (u, y) :: us, .cons ⟨rfl, ry⟩ r, congrArg (· + 1) l1, congrArg (· + 1) l2, fun j k v e => ?_⟩
      cases j with
      | zero =>
        cases (show (u, y) = (k, v) from Option.some.inj e)
        exact ⟨p, _, rfl, ht, rfl, kV_is ru⟩
      | succ j => exact f j k v e
/-- dict of a tuple of pairs -/
theorem cr_dictPT (hcalm : X.calm = true) : CallR X (.type "dict") (fun xs H Q => ∃ (a : Addr) (ps : List Addr) (kvs : List (Key × V)), xs = [V.ref a] ∧ BareW X.K H a (ps.map V.ref) ∧ Paired (fun p kv => SqT X.K H p [kV kv.1, kv.2]) ps kvs ∧
    ∀ p, H p = none → Q (.ref p) (upd H p (.dK (mergeK [] kvs)))) := by
  intro pins s σ H xs us Q I r h
  obtain ⟨a, ps, kvs, rfl, hbw, hp, q⟩ := h
  obtain ⟨u, rfl, ru⟩ := vals1 r
  cases ru
  have hbx : ∃ (o : Obj) (its : List Value) (n : Nat), s.heap.get? a = some o ∧ (ps.map V.ref).length ≤ sizeLine ∧ Vals (ps.map V.ref) its ∧ o.data = .seq its.toArray n ∧ o.cls = .type "tuple" ∧ o.dict = none := by
    rcases hbw with ⟨o, hb, hcl, hdn⟩ | ⟨o, its, n, h1, h2, h3, h4, h5, h6⟩
    · obtain ⟨ho, hz, its, rv, o2, ho2, _, n, hdat⟩ := I.hok _ _ hb
      cases Option.some.inj (ho.symm.trans ho2)
      exact ⟨o, its, n, ho, hz, rv, hdat, hcl, hdn⟩
    · exact ⟨o, its, n, I.kIn _ _ h1, h5, h6, h4, h2, h3⟩
  obtain ⟨o, its, n, ho, hz, rv, hdat, hcl, hdn⟩ := hbx
  have ei := refs_at rv
  subst ei
  rw [List.length_map] at hz
  obtain ⟨prs, us, rel, l1, l2, f⟩ := pairs2 I hp
  have hm : (s.heap.objs.size == sysModules) = false := beq_eq_false_iff_ne.mpr (Nat.ne_of_gt I.big)
  have hlen : (mergeK [] kvs).length ≤ sizeLine := by
    refine Nat.le_trans (length_mergeK kvs []) ?_
    rw [List.length_nil, Nat.zero_add, rel.length, l1]
    exact hz
  refine PySem.call_dict_pairs (knd := mixKind X.prog X.w) (kvs := prs) (PairArg.tuple a (ps.map Value.ref).toArray (fun j => (ps[j]?).getD 0) us) (I.ok.hd hcalm) ⟨⟨o, n, ho, hcl, hdn, hdat⟩, ?_, fun j k v e => ?_⟩ ⟨l1.trans l2.symm, fun j k v e => ?_⟩ (by rw [l2]; exact hz) fun h' tk hd k => ?_
  · rw [List.size_toArray, List.length_map, l2]
  · obtain ⟨b, q', e1, e2, _⟩ := f j k v e
    have at_ : (fun j => (ps[j]?).getD 0) j = b := by
      show (ps[j]?).getD 0 = b
      rw [e1]
      rfl
    rw [at_]
    refine ⟨?_, .inl e2⟩
    rw [List.getElem?_toArray, List.getElem?_map, e1]
    rfl
  · obtain ⟨b, q', _, _, e3, e4⟩ := f j k v e
    exact ⟨q', e3, e4⟩
  · exact ⟨.ref s.heap.objs.size, upd H s.heap.objs.size (.dK (mergeK [] kvs)), I.laid (t' := tk) (fun b o e => k b o (fun z => nomatch z) e) (Nat.le_refl _) (show ObjOk X.prog X.w _ _ _ (.dK (mergeK [] kvs)) from ⟨hlen, hm, merged [] prs, KV.merge rel .nil, hd⟩), rfl, q _ (I.hok.fresh (Nat.le_refl _))⟩
end
end SR
set_option Elab.async false
set_option linter.all false
set_option maxRecDepth 100000
set_option maxHeartbeats 4000000
namespace SR
open PySem L2
theorem same_new {H : Hp} {p : Addr} {o : HO} (h : H p = none) : Same H (upd H p o) := fun b u z => (upd_ne (ne_of_none z h)).trans z
/-- a value of any kind; where it is a tuple, what it holds -/
inductive Val2 (K : PySem.W.Frag) (H : Hp) : V → Option (List V) → Prop where
  | tup {a : Addr} {xs : List V} (h : SqT K H a xs) (hx : ∀ x ∈ xs, ∃ t, AnyT K H x t) : Val2 K H (.ref a) (some xs)
  | oth {v : V} {t : String} (h : AnyT K H v t) (ht : (t == "tuple") = false) : Val2 K H v none
theorem Val2.same {K : PySem.W.Frag} {H H' : Hp} {v : V} {o : Option (List V)} (e : Same H H') (h : Val2 K H v o) : Val2 K H' v o := by
  cases h with
  | tup h hx => exact .tup (SqT.same e h) fun x m => let ⟨t, z⟩ := hx x m; ⟨t, z.same e⟩
  | oth h ht => exact .oth (h.same e) ht
def pairO : Option (List V) → Bool
  | some [x, y] => isI x && isI y
  | _ => false
def holdO : Option (List V) → Bool
  | some [x, y] => btw 1 99 x && upto x y
  | _ => false
def spIsPair (K : PySem.W.Frag) : Sp := fun vs H Q _ => ∃ v o, vs = [v] ∧ Val2 K H v o ∧ Q (.bl (pairO o)) H
def t_is_pair (K : PySem.W.Frag) : TS := tSeq (tIfS (tOr (tNot (tB (tCB (rIsi K) (tCons (tVar 0) (tCons (tC (.ty "tuple")) tNil))))) (tTest (tOp rNe (tCB (qLen K) (tCons (tVar 0) (tNil))) (tC (.int 2)))))
  (tRet (tC (.bl false)))
  (tNext))
  (tRet (tAndV (tCall (spIsInt K) [] E0 (tCons (tOp (rIxT K) (tVar 0) (tC (.int 0))) (tNil))) (tCall (spIsInt K) [] E0 (tCons (tOp (rIxT K) (tVar 0) (tC (.int 1))) (tNil)))))
theorem pure_is_pair {K : PySem.W.Frag} (vs : List V) (H : Hp) (Q : VK) (E : XK) (h : spIsPair K vs H Q E) : t_is_pair K { nx := fun _ H' => Q .non H', rt := Q } (start ["value"] vs) H := by
  obtain ⟨v, o, rfl, hv, q⟩ := h
  cases hv with
  | oth h ht =>
    refine ⟨_, rfl, _, _, _, _, _, rfl, .ty _, h.ty, h.kit.2.2.1, _, rfl, ?_⟩
    rw [ht]
    exact iteT (iteT q)
  | @tup a xs h hx =>
    have hy : AnyT K H (.ref a) "tuple" := .tup h
    refine ⟨_, rfl, _, _, _, _, _, rfl, .ty _, hy.ty, hy.kit.2.2.1, _, rfl, iteF ⟨_, rfl, a, xs, rfl, .inr h, rfl, _, rfl, ?_⟩⟩
    by_cases hl : xs.length = 2
    · match xs, hl with
      | [x, y], _ =>
        refine iteNS rfl ?_
        obtain ⟨t1, k1⟩ := hx x (by simp)
        obtain ⟨t2, k2⟩ := hx y (by simp)
        refine ⟨_, rfl, a, _, 0, _, rfl, rfl, h, rfl, x, t1, rfl, k1, _, rfl, ?_⟩
        have q : Q (.bl (isI x && isI y)) H := q
        cases e : isI x with
        | true =>
          rw [e] at q
          exact iteT ⟨_, rfl, a, _, 1, _, rfl, rfl, h, rfl, y, t2, rfl, k2, q⟩
        | false =>
          rw [e] at q
          exact iteF q
    · have e : ¬ V.int (xs.length : Int) = V.int 2 := fun z => hl (by have := V.int.inj z; omega)
      have e2 : pairO (some xs) = false := by
        match xs, hl with
        | [], _ => rfl
        | [_], _ => rfl
        | [_, _], hl => exact absurd rfl hl
        | _ :: _ :: _ :: _, _ => rfl
      rw [decide_eq_false e]
      rw [e2] at q
      exact iteT q
end SR
set_option Elab.async false
set_option linter.all false
set_option maxRecDepth 100000
set_option maxHeartbeats 4000000
namespace SR
open PySem L2
structure Ent where
  c : Int
  u : Int
  i : Int
  n : Int
def Ent.ok (e : Ent) : Prop := (1 ≤ e.c ∧ e.c ≤ 99) ∧ 0 ≤ e.u ∧ e.u ≤ e.c
end SR
set_option Elab.async false
set_option linter.all false
set_option maxRecDepth 100000
set_option maxHeartbeats 4000000
namespace SR
open PySem L2
def EntAt (H : Hp) (p : Addr) (e : Ent) : Prop := ∃ h, H p = some (.tup [.ref h, .int e.i, .int e.n]) ∧ H h = some (.tup [.int e.c, .int e.u])
def LineAt (H : Hp) (r : Addr) (l : Ent × Ent × Ent) : Prop := ∃ p1 p2 p3, H r = some (.lst [.ref p1, .ref p2, .ref p3]) ∧ EntAt H p1 l.1 ∧ EntAt H p2 l.2.1 ∧ EntAt H p3 l.2.2
theorem EntAt.same {H H' : Hp} {p : Addr} {e : Ent} (s : Same H H') (h : EntAt H p e) : EntAt H' p e := let ⟨a, h1, h2⟩ := h; ⟨a, s _ _ h1, s _ _ h2⟩
theorem LineAt.same {H H' : Hp} {p : Addr} {e : Ent × Ent × Ent} (s : Same H H') (h : LineAt H p e) : LineAt H' p e := let ⟨a, b, c, h1, h2, h3, h4⟩ := h; ⟨a, b, c, s _ _ h1, h2.same s, h3.same s, h4.same s⟩
theorem EntAt.upd {H : Hp} {p r : Addr} {e : Ent} {xs ys : List V} (hr : H r = some (.lst xs)) (h : EntAt H p e) : EntAt (upd H r (.lst ys)) p e := by
  obtain ⟨a, h1, h2⟩ := h
  refine ⟨a, (upd_ne ?_).trans h1, (upd_ne ?_).trans h2⟩
  · exact ne_of h1 hr (by intro z; cases z)
  · exact ne_of h2 hr (by intro z; cases z)
theorem same_upd {H H' : Hp} {r : Addr} {o : HO} (s : Same H H') (h : H r = none) : Same H (upd H' r o) := fun b u z => (upd_ne (ne_of_none z h)).trans (s b u z)
def at2 (k : Int) (l : Ent × Ent × Ent) : Ent := if k = 0 then l.2.1 else l.2.2
/-- the two tuples of pairs -/
def prs (c u d x : Int) : PyData := .tuple [pr2 c u, pr2 d x]
theorem val2_pr {K : PySem.W.Frag} {H : Hp} {p : Addr} {c u : Int} (h : H p = some (.tup [.int c, .int u])) : Val2 K H (.ref p) (some [.int c, .int u]) := .tup (SqT.of h) fun x hx => by
  simp only [List.mem_cons, List.not_mem_nil, or_false] at hx
  rcases hx with rfl | rfl
  · exact ⟨_, .int _⟩
  · exact ⟨_, .int _⟩
end SR
set_option Elab.async false
set_option linter.all false
set_option maxRecDepth 100000
set_option maxHeartbeats 4000000
namespace SR
open PySem L2
inductive F2 {α β : Type} (R : α → β → Prop) : List α → List β → Prop where
  | nil : F2 R [] []
  | cons {x : α} {y : β} {xs : List α} {ys : List β} (h : R x y) (t : F2 R xs ys) : F2 R (x :: xs) (y :: ys)
end SR
set_option Elab.async false
set_option linter.all false
set_option maxRecDepth 100000
set_option maxHeartbeats 4000000
namespace SR
open PySem L2
/-- no holder -/
def Bad (K : PySem.W.Frag) (H : Hp) (v : V) : Prop := ∃ o, Val2 K H v o ∧ holdO o = false
def Bads (K : PySem.W.Frag) (H : Hp) (vs : List V) : Prop := ∀ v ∈ vs, Bad K H v
theorem Bads.same {K : PySem.W.Frag} {H H' : Hp} {vs : List V} (s : Same H H') (h : Bads K H vs) : Bads K H' vs := fun v m => let ⟨o, a, b⟩ := h v m; ⟨o, a.same s, b⟩
theorem Bads.cons {K : PySem.W.Frag} {H : Hp} {v : V} {vs : List V} (a : Bad K H v) (h : Bads K H vs) : Bads K H (v :: vs) := fun x m => by
  rcases List.mem_cons.mp m with rfl | m
  · exact a
  · exact h x m
theorem Bads.oth {K : PySem.W.Frag} {H : Hp} {v : V} {vs : List V} {t : String} (a : AnyT K H v t) (ht : (t == "tuple") = false) (h : Bads K H vs) : Bads K H (v :: vs) := h.cons ⟨none, .oth a ht, rfl⟩
def Anys (K : PySem.W.Frag) (H : Hp) (xs : List V) : Prop := ∀ x ∈ xs, ∃ t, AnyT K H x t
/-- what holds while odd values are made: the draws' state, what it kept, the odd values -/
structure Sk (K : PySem.W.Frag) (H0 : Hp) (d g c : Addr) (b : Nat) (vs : List V) (H : Hp) : Prop where
  st : StB H d g c b
  kp : Same H0 H
  bd : Bads K (hid d g H) vs
theorem hid_same_new {d g p : Addr} {H : Hp} {o : HO} (h : H p = none) : Same (hid d g H) (hid d g (upd H p o)) := Kp.hid (Kp.new h)
theorem Sk.new {K : PySem.W.Frag} {H0 H : Hp} {d g c p : Addr} {b : Nat} {vs : List V} {o : HO} (k : Sk K H0 d g c b vs H) (h : H p = none) : Sk K H0 d g c b vs (upd H p o) := ⟨k.st.new h, k.kp.trans (same_new h), k.bd.same (hid_same_new h)⟩
theorem Sk.tup {K : PySem.W.Frag} {H0 H : Hp} {d g c p : Addr} {b : Nat} {vs xs : List V} (k : Sk K H0 d g c b vs H) (h : H p = none) (hx : Anys K (hid d g H) xs) (hf : holdO (some xs) = false) : Sk K H0 d g c b (.ref p :: vs) (upd H p (.tup xs)) := by
  obtain ⟨p1, p2, _⟩ := k.st.off h
  exact ⟨k.st.new h, k.kp.trans (same_new h), (k.bd.same (hid_same_new h)).cons ⟨some xs, .tup (SqT.of (hid_new p1 p2)) fun x m => let ⟨t, z⟩ := hx x m; ⟨t, z.same (hid_same_new h)⟩, hf⟩⟩
theorem Sk.lst {K : PySem.W.Frag} {H0 H : Hp} {d g c p : Addr} {b : Nat} {vs xs : List V} (k : Sk K H0 d g c b vs H) (h : H p = none) : Sk K H0 d g c b (.ref p :: vs) (upd H p (.lst xs)) := by
  obtain ⟨p1, p2, _⟩ := k.st.off h
  exact ⟨k.st.new h, k.kp.trans (same_new h), (k.bd.same (hid_same_new h)).oth (.lst (SqL.of (hid_new p1 p2))) rfl⟩
theorem Sk.dct {K : PySem.W.Frag} {H0 H : Hp} {d g c p : Addr} {b : Nat} {vs : List V} (k : Sk K H0 d g c b vs H) (h : H p = none) : Sk K H0 d g c b (.ref p :: vs) (upd H p (.dK [])) := by
  obtain ⟨p1, p2, _⟩ := k.st.off h
  exact ⟨k.st.new h, k.kp.trans (same_new h), (k.bd.same (hid_same_new h)).oth (.dct (.inl (hid_new p1 p2))) rfl⟩
theorem Sk.oth {K : PySem.W.Frag} {H0 H : Hp} {d g c : Addr} {b : Nat} {v : V} {vs : List V} {t : String} (k : Sk K H0 d g c b vs H) (a : AnyT K (hid d g H) v t) (ht : (t == "tuple") = false) : Sk K H0 d g c b (v :: vs) H := ⟨k.st, k.kp, k.bd.oth a ht⟩
end SR
set_option Elab.async false
set_option linter.all false
set_option maxRecDepth 100000
set_option maxHeartbeats 4000000
set_option Elab.async false
set_option linter.all false
set_option maxRecDepth 100000
set_option maxHeartbeats 4000000
namespace SR
open PySem L2
/-- by keywords alone; their number apart -/
theorem pe_kK1 {X : Cx} {CX : CXT} {j k n : Nat} {x : Str} {ps ks : List Str} {sp : Sp} {gV : List V → List V → List V} {kws : List Keyword} {tk : TA} {p pos : Pos} {E : L2.St → XK} (c : KnK X.prog X.w X.K X.mg X.base CX k x ps sp 0 ks gV) (hr : Room j X.A) (hk : k ≤ j) (hg : Gl X x) (hx : ∀ σ, PassesAt CX X σ (E σ)) (hkw : PK X kws tk)
    (hn : ks.length = n := by rfl) (hall : (backToKw pos (keywordEach kws X.env)).all (·.1.isSome) = true := by rfl) (hks : (backToKw pos (keywordEach kws X.env)).filterMap (·.1) = ks := by rfl) (hdb : (x == ("__debug__" : Str)) = false := by decide)
    (hpl : ((backTo pos (starEach [] X.env)).any (·.1) || (backToKw pos (keywordEach kws X.env)).any (·.1.isNone)) = false := by rfl) :
    PE X (.Call (.Name x p) [] kws pos) (tKw n sp gV E tNil tk) := by
  subst hn
  exact pe_kK0 c hr hk hg hx hkw hall hks hdb hpl
end SR
set_option Elab.async false
set_option linter.all false
set_option maxRecDepth 100000
set_option maxHeartbeats 4000000
namespace SR
open PySem PySem.Spec PyProof.Rows L2
def qDictOf (K : PySem.W.Frag) : List V → Hp → VK → Prop := fun xs H Q => (∃ (a : Addr) (ps : List Addr) (kvs : List (Key × V)), xs = [.ref a] ∧ SqL K H a (ps.map V.ref) ∧ Paired (fun p kv => SqT K H p [kV kv.1, kv.2]) ps kvs ∧ ∀ p, H p = none → Q (.ref p) (upd H p (.dK (mergeK [] kvs)))) ∨
  ∃ (a : Addr) (ps : List Addr) (kvs : List (Key × V)), xs = [V.ref a] ∧ BareW K H a (ps.map V.ref) ∧ Paired (fun p kv => SqT K H p [kV kv.1, kv.2]) ps kvs ∧ ∀ p, H p = none → Q (.ref p) (upd H p (.dK (mergeK [] kvs)))
def qSorted (K : PySem.W.Frag) : List V → Hp → VK → Prop := fun vs H Q => rSortedPO K vs H Q ∨ ∃ (a : Addr) (xs : List V) (k : V → Int × Int), vs = [V.ref a] ∧ SqT K H a xs ∧ (∀ x ∈ xs, ∃ t, x = V.ref t ∧ H t = some (.tup [.int (k x).1, .int (k x).2])) ∧
    ∀ ys p, SrtO.Srtd (ltP k) ys → SrtO.Stb (ltP k) ys xs → H p = none → Q (.ref p) (upd H p (.lst ys))
def qTupOf (K : PySem.W.Frag) : List V → Hp → VK → Prop := fun xs H Q => ∃ p ys, xs = [.ref p] ∧ SqL K H p ys ∧ ∀ l o, H l = none → o.cls = .type "tuple" → o.dict = none → Q (.ref l) (upd H l (.frz o (.tup ys)))
def qLenSet (w : World) : List V → Hp → VK → Prop := fun xs H Q => ∃ a S n, xs = [V.ref a] ∧ H a = some (SetO w a S n) ∧ Q (.int n) H
def TupAt (H : Hp) (t : Addr) (p : Int × Int) : Prop := H t = some (.tup [.int p.1, .int p.2])
/-- a list, or a tuple whose object is known, of pairs of whole numbers -/
def PairsAt (K : PySem.W.Frag) (H : Hp) (a : Addr) (ps : List (Int × Int)) : Prop := ∃ ts : List Addr, (SqL K H a (ts.map V.ref) ∨ BareW K H a (ts.map V.ref)) ∧ Paired (TupAt H) ts ps
theorem Bare.same {H H' : Hp} {a : Addr} {xs : List V} (e : Same H H') (h : Bare H a xs) : Bare H' a xs := let ⟨o, h1, h2⟩ := h; ⟨o, e _ _ h1, h2⟩
theorem BareW.same {K : PySem.W.Frag} {H H' : Hp} {a : Addr} {xs : List V} (e : Same H H') (h : BareW K H a xs) : BareW K H' a xs := h.imp (Bare.same e) id
theorem paired_imp {α β : Type} {F G : α → β → Prop} (f : ∀ x y, F x y → G x y) {xs : List α} {ys : List β} (h : Paired F xs ys) : Paired G xs ys := L2.Paired.mapP h f
theorem PairsAt.same {K : PySem.W.Frag} {H H' : Hp} {a : Addr} {ps : List (Int × Int)} (e : Same H H') (h : PairsAt K H a ps) : PairsAt K H' a ps := by
  obtain ⟨ts, h1, h2⟩ := h
  exact ⟨ts, h1.imp (SqL.same e) (BareW.same e), paired_imp (fun _ _ z => e _ _ z) h2⟩
theorem paired_len {α β : Type} {F : α → β → Prop} {xs : List α} {ys : List β} (h : Paired F xs ys) : xs.length = ys.length := h.length
theorem paired_at {α β : Type} {F : α → β → Prop} : ∀ {xs : List α} {ys : List β}, Paired F xs ys → ∀ {i : Nat} {x : α}, xs[i]? = some x → ∃ y, ys[i]? = some y ∧ F x y
  | _, _, .nil, _, _, e => nomatch e
  | _, _, .cons h t, 0, _, e => ⟨_, rfl, Option.some.inj e ▸ h⟩
  | _, _, .cons h t, i + 1, _, e => paired_at t e
/-- [elt for .. in a], a pair after the other; the items change nothing -/
theorem lc_pairs {K : PySem.W.Frag} {te : TE} {g : TG} {telt : TE} {vs : List Nat} {σ : L2.St} {H : Hp} {a : Addr} {ps : List (Int × Int)} {Q : VK} (f : Int × Int → V) (hte : ∀ R : VK, R (.ref a) H → te σ H R) (hp : PairsAt K H a ps) (hl : ps.length ≤ 1000)
    (hs : ∀ t p H' (R : VK), Same H H' → p ∈ ps → TupAt H' t p → R (f p) H' → g (.ref t) (wipe σ vs) H' fun σ2 H2 => wipe σ2 vs = wipe σ vs ∧ telt σ2 H2 R)
    (hQ : ∀ D H', H D = none → Same H H' → H' D = some (.lst (ps.map f)) → Q (.ref D) H') :
    tLc (fun σ H R => iList K te σ H R ∨ iTup K te σ H R) g tYes telt vs σ H Q := by
  obtain ⟨ts, hsq, hts⟩ := hp
  have hlen : (ts.map V.ref).length = ps.length := by rw [List.length_map, paired_len hts]
  have step : ∀ (D : Addr), H D = none → ∀ i x H1 H2, i < (ts.map V.ref).length → (Same H H1 ∧ H1 D = some (.lst ((ps.take i).map f))) → YAt (ts.map V.ref) i H1 x H2 → g x (wipe σ vs) H2 fun σ2 H3 => wipe σ2 vs = wipe σ vs ∧ tYes σ2 H3 fun b H4 =>
      if b = true then telt σ2 H4 fun y H5 => ∃ acc, H5 D = some (.lst acc) ∧ acc.length < sizeLine ∧ (Same H (upd H5 D (.lst (acc ++ [y]))) ∧ upd H5 D (.lst (acc ++ [y])) D = some (.lst ((ps.take (i + 1)).map f))) else Same H H4 ∧ H4 D = some (.lst ((ps.take (i + 1)).map f)) := by
    rintro D hD i x H1 H2 hi ⟨s1, d1⟩ ⟨rfl, hx⟩
    rw [List.getElem?_map] at hx
    obtain ⟨t, ht, rfl⟩ := Option.map_eq_some_iff.mp hx
    obtain ⟨p, hpi, hat⟩ := paired_at hts ht
    refine hs t p H2 _ s1 (List.mem_of_getElem? hpi) (s1 _ _ hat) ⟨_, d1, ?_, same_upd s1 hD, ?_⟩
    · rw [List.length_map, List.length_take]
      exact Nat.lt_of_le_of_lt (Nat.le_trans (Nat.min_le_right _ _) hl) (by decide)
    · rw [upd_same, List.take_succ, hpi, List.map_append]
      rfl
  have fin : ∀ D, H D = none → ∀ H1, (Same H H1 ∧ H1 D = some (.lst ((ps.take (ts.map V.ref).length).map f))) → Q (.ref D) H1 := by
    rintro D hD H1 ⟨s1, d1⟩
    rw [hlen, List.take_length] at d1
    exact hQ D H1 hD s1 d1
  rcases hsq with hsq | hsq
  · refine .inl (hte _ ⟨a, rfl, ⟨_, hsq⟩, fun D hD => ?_⟩)
    exact lc_it (walk_list (K := K) (a := a) (xs := ts.map V.ref)) (fun i H1 => Same H H1 ∧ H1 D = some (.lst ((ps.take i).map f))) ⟨same_new hD, upd_same⟩ (fun i H1 _ h => SqL.same h.1 hsq) (step D hD) (fin D hD)
  · refine .inr (hte _ ⟨a, rfl, ⟨_, hsq.sq⟩, fun D hD => ?_⟩)
    exact lc_it (walk_tup (K := K) (a := a) (xs := ts.map V.ref)) (fun i H1 => Same H H1 ∧ H1 D = some (.lst ((ps.take i).map f))) ⟨same_new hD, upd_same⟩ (fun i H1 _ h => SqT.same h.1 hsq.sq) (step D hD) (fin D hD)
/-- {elt for .. in a}, whole numbers that differ -/
theorem sc_pairs {w : World} {K : PySem.W.Frag} {te : TE} {g : TG} {telt : TE} {vs : List Nat} {σ : L2.St} {H : Hp} {a : Addr} {ps : List (Int × Int)} {Q : VK} (f : Int × Int → Int) (hte : ∀ R : VK, R (.ref a) H → te σ H R) (hp : PairsAt K H a ps) (hl : ps.length ≤ 1000) (hd : (ps.map f).Nodup)
    (hs : ∀ t p H' (R : VK), Same H H' → p ∈ ps → TupAt H' t p → R (.int (f p)) H' → g (.ref t) (wipe σ vs) H' fun σ2 H2 => wipe σ2 vs = wipe σ vs ∧ telt σ2 H2 R)
    (hQ : ∀ D H' S, H D = none → Same H H' → H' D = some (SetO w D S ps.length) → Q (.ref D) H') :
    tScN w (fun σ H R => iList K te σ H R ∨ iTup K te σ H R) g tYes telt vs σ H Q := by
  obtain ⟨ts, hsq, hts⟩ := hp
  have hlen : (ts.map V.ref).length = ps.length := by rw [List.length_map, paired_len hts]
  have step : ∀ (D : Addr), H D = none → ∀ i x H1 H2, i < (ts.map V.ref).length → (Same H H1 ∧ ∃ S, H1 D = some (SetO w D S i) ∧ ∀ k, S k = true ↔ k ∈ (ps.take i).map f) → YAt (ts.map V.ref) i H1 x H2 → g x (wipe σ vs) H2 fun σ2 H3 => wipe σ2 vs = wipe σ vs ∧ tYes σ2 H3 fun b H4 =>
      if b = true then telt σ2 H4 fun y H5 => rSAdd w (.ref D) [y] H5 fun _ H6 => (Same H H6 ∧ ∃ S, H6 D = some (SetO w D S (i + 1)) ∧ ∀ k, S k = true ↔ k ∈ (ps.take (i + 1)).map f) else (Same H H4 ∧ ∃ S, H4 D = some (SetO w D S (i + 1)) ∧ ∀ k, S k = true ↔ k ∈ (ps.take (i + 1)).map f) := by
    rintro D hD i x H1 H2 hi ⟨s1, S, d1, m1⟩ ⟨rfl, hx⟩
    rw [List.getElem?_map] at hx
    obtain ⟨t, ht, rfl⟩ := Option.map_eq_some_iff.mp hx
    obtain ⟨p, hpi, hat⟩ := paired_at hts ht
    have tk : ps.take (i + 1) = ps.take i ++ [p] := by
      rw [List.take_succ, hpi]
      rfl
    have new : ¬ S (f p) = true := by
      intro z
      have hm := (m1 _).mp z
      have nd : ((ps.take (i + 1)).map f).Nodup := (List.Sublist.map f (List.take_sublist _ _)).nodup hd
      rw [tk, List.map_append, List.map_singleton] at nd
      exact (List.nodup_append.mp nd).2.2 _ hm _ (List.mem_singleton.mpr rfl) rfl
    refine hs t p H2 _ s1 (List.mem_of_getElem? hpi) (s1 _ _ hat) ⟨D, f p, S, i, rfl, rfl, d1, ?_, same_upd s1 hD, (fun j => S j || decide (j = f p)), ?_, fun k => ?_⟩
    · have : i < 1000 := by omega
      exact Nat.lt_of_lt_of_le (Nat.succ_lt_succ this) (by decide)
    · rw [upd_same, if_neg new]
    · rw [Bool.or_eq_true, m1 k, decide_eq_true_eq, tk, List.map_append, List.mem_append]
      exact or_congr Iff.rfl (by rw [List.map_singleton, List.mem_singleton])
  have fin : ∀ D, H D = none → ∀ H1, (Same H H1 ∧ ∃ S, H1 D = some (SetO w D S (ts.map V.ref).length) ∧ ∀ k, S k = true ↔ k ∈ (ps.take (ts.map V.ref).length).map f) → Q (.ref D) H1 := by
    rintro D hD H1 ⟨s1, S, d1, _⟩
    rw [hlen] at d1
    exact hQ D H1 S hD s1 d1
  have zero : ∀ k : Int, (false = true) ↔ k ∈ (ps.take 0).map f := fun k => ⟨(fun z => nomatch z), (fun z => nomatch z)⟩
  rcases hsq with hsq | hsq
  · refine .inl (hte _ ⟨a, rfl, ⟨_, hsq⟩, fun D hD => ?_⟩)
    exact scN_it (walk_list (K := K) (a := a) (xs := ts.map V.ref)) (fun i H1 => Same H H1 ∧ ∃ S, H1 D = some (SetO w D S i) ∧ ∀ k, S k = true ↔ k ∈ (ps.take i).map f) ⟨same_new hD, _, upd_same, zero⟩ (fun i H1 _ h => SqL.same h.1 hsq) (step D hD) (fin D hD)
  · refine .inr (hte _ ⟨a, rfl, ⟨_, hsq.sq⟩, fun D hD => ?_⟩)
    exact scN_it (walk_tup (K := K) (a := a) (xs := ts.map V.ref)) (fun i H1 => Same H H1 ∧ ∃ S, H1 D = some (SetO w D S i) ∧ ∀ k, S k = true ↔ k ∈ (ps.take i).map f) ⟨same_new hD, _, upd_same, zero⟩ (fun i H1 _ h => SqT.same h.1 hsq.sq) (step D hD) (fin D hD)
end SR
set_option Elab.async false
set_option linter.all false
set_option maxRecDepth 100000
set_option maxHeartbeats 4000000
namespace SR
open PySem PySem.Spec PyProof.Rows L2
@[irreducible] def xLc := @L2.tLc
theorem xLc_eq : @xLc = @L2.tLc := by
  unfold xLc
  rfl
@[irreducible] def xScN := @tScN
theorem xScN_eq : @xScN = @tScN := by
  unfold xScN
  rfl
theorem kit_seq {K : PySem.W.Frag} {H : Hp} {v : V} {t : String} (h : AnyT K H v t) (ht : t = "list" ∨ t = "tuple") : PySem.W.kitAny K (.type t) [.type "list", .type "tuple"] = some true := by
  obtain ⟨_, _, k1, k2, _⟩ := h.kit
  rcases ht with rfl | rfl
  · unfold PySem.W.kitAny
    rw [k2]
    rfl
  · unfold PySem.W.kitAny
    rw [k2]
    show PySem.W.kitAny K (.type "tuple") [.type "tuple"] = some true
    unfold PySem.W.kitAny
    rw [k1]
    rfl
theorem PairsAt.ty {K : PySem.W.Frag} {H : Hp} {a : Addr} {ps : List (Int × Int)} (h : PairsAt K H a ps) : ∃ t, AnyT K H (.ref a) t ∧ (t = "list" ∨ t = "tuple") := by
  obtain ⟨ts, h1 | h1, _⟩ := h
  · exact ⟨_, .lst h1, .inl rfl⟩
  · exact ⟨_, .tup h1.sq, .inr rfl⟩
theorem PairsAt.len {K : PySem.W.Frag} {H : Hp} {a : Addr} {ps : List (Int × Int)} (h : PairsAt K H a ps) : ∃ ys, (SqL K H a ys ∨ SqT K H a ys) ∧ ys.length = ps.length := by
  obtain ⟨ts, h1, h2⟩ := h
  exact ⟨_, h1.imp id BareW.sq, by rw [List.length_map, paired_len h2]⟩
theorem val2_tup {K : PySem.W.Frag} {H : Hp} {t : Addr} {p : Int × Int} (h : TupAt H t p) : Val2 K H (.ref t) (some [.int p.1, .int p.2]) := val2_pr h
def spArePairs (K : PySem.W.Frag) : Sp := fun vs H Q _ => ∃ a ps, vs = [.ref a] ∧ PairsAt K H a ps ∧ (ps.map Prod.fst).Nodup ∧ ps.length ≤ 1000 ∧ ∀ H', Same H H' → Q (.bl true) H'
def t_are_pairs (w : World) (K : PySem.W.Frag) : TS := tSeq (tIfS (tNot (tB (tCB (rIsiT K) (tCons (tVar 0) (tCons (tTup (tCons (tC (.ty "list")) (tCons (tC (.ty "tuple")) (tNil)))) tNil)))))
  (tRet (tC (.bl false)))
  (tNext))
  (tSeq (tIfS (tNot (tB (tCB (rAll K) (tCons (tLc ((fun σ H R => iList K (tVar 0) σ H R ∨ iTup K (tVar 0) σ H R)) (gName 1) (tYes) (tCall (spIsPair K) [] E0 (tCons (tVar 1) (tNil))) [1]) (tNil)))))
  (tRet (tC (.bl false)))
  (tNext))
  (tRet (tOp rEq (tCB (qLenSet w) (tCons (tScN w ((fun σ H R => iList K (tVar 0) σ H R ∨ iTup K (tVar 0) σ H R)) (gTup K 2 (gCons (gName 2) (gCons (gName 3) (gNil)))) (tYes) (tVar 2) [2, 3]) (tNil))) (tCB (qLen K) (tCons (tVar 0) (tNil))))))
theorem pure_are_pairs {w : World} {K : PySem.W.Frag} (vs : List V) (H : Hp) (Q : VK) (E : XK) (h : spArePairs K vs H Q E) : t_are_pairs w K { nx := fun _ H' => Q .non H', rt := Q } (start ["value", "part", "first", "_"] vs) H := by
  obtain ⟨a, ps, rfl, hp, hd, hl, q⟩ := h
  refine ⟨_, rfl, sz (by show 2 ≤ 1000; decide), fun T hT => ?_⟩
  have s1 := same_new (o := .tup [.ty "list", .ty "tuple"]) hT
  have p1 := hp.same s1
  obtain ⟨ty, any, hty⟩ := p1.ty
  refine ⟨_, T, _, _, [.type "list", .type "tuple"], true, rfl, upd_same, .cons (.ty _) (.cons (.ty _) .nil), any.ty, kit_seq any hty, _, rfl, iteF ?_⟩
  generalize upd H T (.tup [.ty "list", .ty "tuple"]) = H1 at s1 p1 ⊢
  try rw [← xLc_eq]
  try rw [← xScN_eq]
  show xLc (fun σ H R => iList K (tVar 0) σ H R ∨ iTup K (tVar 0) σ H R) (gName 1) tYes (tCall (spIsPair K) [] E0 (tCons (tVar 1) tNil)) [1] [some (.ref a), none, none, none] H1 _
  try rw [xLc_eq]
  try rw [xScN_eq]
  refine lc_pairs (K := K) (a := a) (ps := ps) (fun _ => .bl true) (fun R r => ⟨_, rfl, r⟩) p1 hl (fun t p H2 R s2 m2 at2 r => ?_) (fun D H2 hD s2 d2 => ?_)
  · exact ⟨rfl, _, rfl, _, _, rfl, val2_tup at2, r⟩
  have all : (ps.map fun _ => V.bl true) = (ps.map fun _ => true).map V.bl := by rw [List.map_map] <;> rfl
  rw [all] at d2
  have tr : (ps.map fun _ => true).all id = true := by
    rw [List.all_map]
    exact List.all_eq_true.mpr fun _ _ => rfl
  refine ⟨D, _, rfl, SqL.of d2, _, rfl, ?_⟩
  rw [tr]
  refine iteF ?_
  have p2 := p1.same s2
  try rw [← xLc_eq]
  try rw [← xScN_eq]
  show xScN w (fun σ H R => iList K (tVar 0) σ H R ∨ iTup K (tVar 0) σ H R) (gTup K 2 (gCons (gName 2) (gCons (gName 3) gNil))) tYes (tVar 2) [2, 3] [some (.ref a), none, none, none] H2 _
  try rw [xLc_eq]
  try rw [xScN_eq]
  refine sc_pairs (K := K) (a := a) (ps := ps) Prod.fst (fun R r => ⟨_, rfl, r⟩) p2 hl hd (fun t p H3 R s3 m3 at3 r => ?_) (fun D3 H3 S hD3 s3 d3 => ?_)
  · exact ⟨t, _, rfl, SqT.of at3, rfl, _, _, rfl, _, _, rfl, rfl, rfl, _, rfl, r⟩
  obtain ⟨ys, hys, ylen⟩ := (p2.same s3).len
  refine ⟨D3, S, _, rfl, d3, _, rfl, a, ys, rfl, hys, rfl, ?_⟩
  show Q (.bl (decide (V.int (ps.length : Int) = V.int (ys.length : Int)))) H3
  rw [ylen, decide_eq_true rfl]
  exact q H3 (s1.trans (s2.trans s3))
def spWideBox (K : PySem.W.Frag) : Sp := fun vs H Q _ => ∃ i c : Int, vs = [.int i, .int c] ∧ (-60 ≤ i ∧ i ≤ 60) ∧ (2 ≤ c ∧ c ≤ 9) ∧ Q (.bl true) H
def t_is_wide_box (K : PySem.W.Frag) : TS := tSeq (tIfS (tNot (tB (tCall (spBetween K) [] E0 (tCons (tVar 0) (tCons (tC (.int (-60))) (tCons (tC (.int 60)) (tNil)))))))
  (tRet (tC (.bl false)))
  (tNext))
  (tRet (tCall (spBetween K) [] E0 (tCons (tVar 1) (tCons (tC (.int 2)) (tCons (tC (.int 9)) (tNil))))))
theorem pure_wide_box {K : PySem.W.Frag} (vs : List V) (H : Hp) (Q : VK) (E : XK) (h : spWideBox K vs H Q E) : t_is_wide_box K { nx := fun _ H' => Q .non H', rt := Q } (start ["index", "capacity"] vs) H := by
  obtain ⟨i, c, rfl, hi, hc, q⟩ := h
  have b1 : btw (-60) 60 (.int i) = true := btw_iff.mpr ⟨i, rfl, hi⟩
  have b2 : btw 2 9 (.int c) = true := btw_iff.mpr ⟨c, rfl, hc⟩
  have q1 : isI (V.int i) = true := rfl
  refine ⟨_, rfl, .int i, _, _, _, rfl, .int i, fun _ => ⟨_, _, rfl, rfl, _, rfl, ?_⟩, fun z => nomatch z⟩
  rw [b1]
  refine iteF ⟨_, rfl, .int c, _, _, _, rfl, .int c, fun _ => ⟨_, _, rfl, rfl, ?_⟩, fun z => nomatch z⟩
  rw [b2]
  exact q
def cap (ks : List (Int × Int)) (i : Int) : Int := (ks.lookup i).getD 1
def sizeOk (p : Int × Int) : Prop := (-60 ≤ p.1 ∧ p.1 ≤ 60) ∧ 2 ≤ p.2 ∧ p.2 ≤ 9
def spAreCapacities (K : PySem.W.Frag) : Sp := fun vs H Q _ => ∃ a ps, vs = [.ref a] ∧ PairsAt K H a ps ∧ (ps.map Prod.fst).Nodup ∧ ps.length ≤ 6 ∧ (∀ p ∈ ps, sizeOk p) ∧ ∀ H', Same H H' → Q (.bl true) H'
def t_are_capacities (K : PySem.W.Frag) : TS := tSeq (tIfS (tOr (tNot (tB (tCall (spArePairs K) [] E0 (tCons (tVar 0) (tNil))))) (tTest (tOp qGt (tCB (qLen K) (tCons (tVar 0) (tNil))) (tC (.int 6)))))
  (tRet (tC (.bl false)))
  (tNext))
  (tRet (tCB (rAll K) (tCons (tLc ((fun σ H R => iList K (tVar 0) σ H R ∨ iTup K (tVar 0) σ H R)) (gTup K 2 (gCons (gName 1) (gCons (gName 2) (gNil)))) (tYes) (tCall (spWideBox K) [] E0 (tCons (tVar 1) (tCons (tVar 2) (tNil)))) [1, 2]) (tNil))))
theorem pure_are_capacities {K : PySem.W.Frag} (vs : List V) (H : Hp) (Q : VK) (E : XK) (h : spAreCapacities K vs H Q E) : t_are_capacities K { nx := fun _ H' => Q .non H', rt := Q } (start ["value", "index", "capacity"] vs) H := by
  obtain ⟨a, ps, rfl, hp, hd, hl, hs, q⟩ := h
  refine ⟨_, rfl, a, ps, rfl, hp, hd, by omega, fun H1 s1 => ⟨_, rfl, iteF ?_⟩⟩
  obtain ⟨ys, hys, ylen⟩ := (hp.same s1).len
  refine ⟨_, rfl, a, ys, rfl, hys, _, _, rfl, rfl, _, rfl, ?_⟩
  have no : ¬ (6 : Int) < (ys.length : Int) := by omega
  rw [decide_eq_false no]
  refine iteF ?_
  try rw [← xLc_eq]
  try rw [← xScN_eq]
  show xLc (fun σ H R => iList K (tVar 0) σ H R ∨ iTup K (tVar 0) σ H R) (gTup K 2 (gCons (gName 1) (gCons (gName 2) gNil))) tYes (tCall (spWideBox K) [] E0 (tCons (tVar 1) (tCons (tVar 2) tNil))) [1, 2] [some (.ref a), none, none] H1 _
  try rw [xLc_eq]
  try rw [xScN_eq]
  refine lc_pairs (K := K) (a := a) (ps := ps) (fun _ => .bl true) (fun R r => ⟨_, rfl, r⟩) (hp.same s1) (by omega) (fun t p H2 R s2 m2 at2 r => ?_) (fun D H2 hD s2 d2 => ?_)
  · exact ⟨t, _, rfl, SqT.of at2, rfl, _, _, rfl, _, _, rfl, rfl, rfl, _, rfl, _, rfl, p.1, p.2, rfl, (hs p m2).1, (hs p m2).2, r⟩
  have all : (ps.map fun _ => V.bl true) = (ps.map fun _ => true).map V.bl := by rw [List.map_map] <;> rfl
  rw [all] at d2
  have tr : (ps.map fun _ => true).all id = true := by
    rw [List.all_map]
    exact List.all_eq_true.mpr fun _ _ => rfl
  refine ⟨D, _, rfl, SqL.of d2, ?_⟩
  rw [tr]
  exact q H2 (s1.trans s2)
def kvsOf (ps : List (Int × Int)) : List (Key × V) := ps.map fun p => (.inl p.1, .int p.2)
theorem merge_new : ∀ (ps : List (Int × Int)) (acc : List (Key × V)), (ps.map Prod.fst).Nodup → (∀ p ∈ ps, (acc.any fun kv => decide (kv.1 = .inl p.1)) = false) → mergeK acc (kvsOf ps) = acc ++ kvsOf ps
  | [], acc, _, _ => (List.append_nil acc).symm
  | p :: ps, acc, nd, h => by
    have nd' := List.nodup_cons.mp nd
    show mergeK (putK acc (.inl p.1) (.int p.2)) (kvsOf ps) = _
    have e : putK acc (.inl p.1) (.int p.2) = acc ++ [(.inl p.1, .int p.2)] := by
      unfold putK
      rw [h p List.mem_cons_self]
      rfl
    rw [e, merge_new ps _ nd'.2 fun q hq => ?_, List.append_assoc]
    · rfl
    · rw [List.any_append, h q (List.mem_cons_of_mem _ hq)]
      show (decide ((Sum.inl p.1 : Key) = .inl q.1) || false) = false
      rw [Bool.or_false]
      refine decide_eq_false fun z => nd'.1 ?_
      rw [Sum.inl.inj z]
      exact List.mem_map_of_mem hq
theorem merge_pairs {ps : List (Int × Int)} (nd : (ps.map Prod.fst).Nodup) : mergeK [] (kvsOf ps) = kvsOf ps := merge_new ps [] nd fun _ _ => rfl
theorem val_pairs (i : Int) : ∀ ps : List (Int × Int), valV (kvsOf ps) (.inl i) = (ps.lookup i).map V.int
  | [] => rfl
  | p :: ps => by
    obtain ⟨j, n⟩ := p
    show valV ((.inl j, .int n) :: kvsOf ps) (.inl i) = _
    rw [List.lookup_cons]
    by_cases e : i = j
    · subst e
      rw [valV_pos rfl, beq_self_eq_true]
      rfl
    · rw [valV_neg (fun z => e (Sum.inl.inj z).symm), val_pairs i ps, beq_eq_false_iff_ne.mpr e]
theorem paired_kvs {K : PySem.W.Frag} {H : Hp} : ∀ {ts : List Addr} {ps : List (Int × Int)}, Paired (TupAt H) ts ps → Paired (fun p (kv : Key × V) => SqT K H p [kV kv.1, kv.2]) ts (kvsOf ps)
  | _, _, .nil => .nil
  | _, _, .cons h t => .cons (SqT.of h) (paired_kvs t)
theorem PairsAt.dict {K : PySem.W.Frag} {H : Hp} {a : Addr} {ps : List (Int × Int)} {Q : VK} (h : PairsAt K H a ps) (nd : (ps.map Prod.fst).Nodup) (q : ∀ p, H p = none → Q (.ref p) (upd H p (.dK (kvsOf ps)))) : qDictOf K [.ref a] H Q := by
  obtain ⟨ts, h1, h2⟩ := h
  have z : ∀ p, H p = none → Q (.ref p) (upd H p (.dK (mergeK [] (kvsOf ps)))) := by
    rw [merge_pairs nd]
    exact q
  cases h1 with
  | inl h1 => exact .inl ⟨a, ts, _, rfl, h1, paired_kvs h2, z⟩
  | inr h1 => exact .inr ⟨a, ts, _, rfl, h1, paired_kvs h2, z⟩
@[irreducible] def xDictOf := @qDictOf
theorem xDictOf_eq : @xDictOf = @qDictOf := by
  unfold xDictOf
  rfl
def spAreContents (K : PySem.W.Frag) : Sp := fun vs H Q _ => ∃ a b ps ks, vs = [.ref a, .ref b] ∧ PairsAt K H a ps ∧ PairsAt K H b ks ∧ (ps.map Prod.fst).Nodup ∧ (ks.map Prod.fst).Nodup ∧ ps.length ≤ 1000 ∧ (∀ p ∈ ps, 1 ≤ p.2 ∧ p.2 ≤ cap ks p.1) ∧ (ps.map Prod.snd).sum ≤ 40 ∧ ∀ H', Same H H' → Q (.bl true) H'
def t_are_contents (K : PySem.W.Frag) : TS := tSeq (tIfS (tNot (tB (tCall (spArePairs K) [] E0 (tCons (tVar 0) (tNil)))))
  (tRet (tC (.bl false)))
  (tNext))
  (tSeq (tAsg (tCB (qDictOf K) (tCons (tVar 1) (tNil))) (gName 2))
  (tSeq (tIfS (tNot (tB (tCB (rAll K) (tCons (tLc ((fun σ H R => iList K (tVar 0) σ H R ∨ iTup K (tVar 0) σ H R)) (gTup K 2 (gCons (gName 3) (gCons (gName 4) (gNil)))) (tYes) (tChain qLe qLe (tC (.int 1)) (tVar 4) (tDGet2 (tVar 2) (tVar 3) (tC (.int 1)))) [3, 4]) (tNil)))))
  (tRet (tC (.bl false)))
  (tNext))
  (tRet (tOp qLe (tCB (rSum K) (tCons (tLc ((fun σ H R => iList K (tVar 0) σ H R ∨ iTup K (tVar 0) σ H R)) (gTup K 2 (gCons (gName 5) (gCons (gName 4) (gNil)))) (tYes) (tVar 4) [4, 5]) (tNil))) (tC (.int 40))))))
theorem pure_are_contents {K : PySem.W.Frag} (vs : List V) (H : Hp) (Q : VK) (E : XK) (h : spAreContents K vs H Q E) : t_are_contents K { nx := fun _ H' => Q .non H', rt := Q } (start ["value", "capacities", "wide", "index", "count", "_"] vs) H := by
  obtain ⟨a, b, ps, ks, rfl, hp, hk, hd, hdk, hl, hc, hsum, q⟩ := h
  refine ⟨_, rfl, a, ps, rfl, hp, hd, hl, fun H1 s1 => ⟨_, rfl, iteF ⟨_, rfl, ?_⟩⟩⟩
  try rw [← xLc_eq]
  try rw [← xScN_eq]
  try rw [← xDictOf_eq]
  show xDictOf K [.ref b] H1 _
  try rw [xLc_eq]
  try rw [xScN_eq]
  try rw [xDictOf_eq]
  refine (hk.same s1).dict hdk fun W hW => ?_
  have s2 := same_new (o := .dK (kvsOf ks)) hW
  have dW : upd H1 W (.dK (kvsOf ks)) W = some (.dK (kvsOf ks)) := upd_same
  generalize upd H1 W (.dK (kvsOf ks)) = H2 at s2 dW ⊢
  have p2 := (hp.same s1).same s2
  try rw [← xLc_eq]
  try rw [← xScN_eq]
  try rw [← xDictOf_eq]
  show xLc (fun σ H R => iList K (tVar 0) σ H R ∨ iTup K (tVar 0) σ H R) (gTup K 2 (gCons (gName 3) (gCons (gName 4) gNil))) tYes (tChain qLe qLe (tC (.int 1)) (tVar 4) (tDGet2 (tVar 2) (tVar 3) (tC (.int 1)))) [3, 4] [some (.ref a), some (.ref b), some (.ref W), none, none, none] H2 _
  try rw [xLc_eq]
  try rw [xScN_eq]
  try rw [xDictOf_eq]
  refine lc_pairs (K := K) (a := a) (ps := ps) (fun _ => .bl true) (fun R r => ⟨_, rfl, r⟩) p2 hl (fun t p H3 R s3 m3 at3 r => ?_) (fun D H3 hD s3 d3 => ?_)
  · refine ⟨t, _, rfl, SqT.of at3, rfl, _, _, rfl, _, _, rfl, rfl, rfl, ?_⟩
    obtain ⟨h1, h2⟩ := hc p m3
    have dW3 := s3 _ _ dW
    have gv : (valV (kvsOf ks) (.inl p.1)).getD (.int 1) = .int (cap ks p.1) := by
      rw [val_pairs]
      unfold cap
      cases ks.lookup p.1 <;> rfl
    refine chain_le (i := 1) (j := p.2) (k := cap ks p.1) (fun R r => r) (fun R r => ⟨_, rfl, r⟩) (fun R r => ⟨_, rfl, W, rfl, .inl ⟨_, .inl dW3⟩, _, rfl, _, DGet.k (k := .inl p.1) dW3, (by rw [gv]; exact r)⟩) ?_
    rw [decide_eq_true h1, decide_eq_true h2]
    exact r
  have all : (ps.map fun _ => V.bl true) = (ps.map fun _ => true).map V.bl := by rw [List.map_map] <;> rfl
  rw [all] at d3
  have tr : (ps.map fun _ => true).all id = true := by
    rw [List.all_map]
    exact List.all_eq_true.mpr fun _ _ => rfl
  refine ⟨D, _, rfl, SqL.of d3, _, rfl, ?_⟩
  rw [tr]
  refine iteF ?_
  have p3 := p2.same s3
  try rw [← xLc_eq]
  try rw [← xScN_eq]
  try rw [← xDictOf_eq]
  show xLc (fun σ H R => iList K (tVar 0) σ H R ∨ iTup K (tVar 0) σ H R) (gTup K 2 (gCons (gName 5) (gCons (gName 4) gNil))) tYes (tVar 4) [4, 5] [some (.ref a), some (.ref b), some (.ref W), none, none, none] H3 _
  try rw [xLc_eq]
  try rw [xScN_eq]
  try rw [xDictOf_eq]
  refine lc_pairs (K := K) (a := a) (ps := ps) (fun p => .int p.2) (fun R r => ⟨_, rfl, r⟩) p3 hl (fun t p H4 R s4 m4 at4 r => ?_) (fun D4 H4 hD4 s4 d4 => ?_)
  · exact ⟨t, _, rfl, SqT.of at4, rfl, _, _, rfl, _, _, rfl, rfl, rfl, _, rfl, r⟩
  have e4 : (ps.map fun p => V.int p.2) = (ps.map Prod.snd).map V.int := by rw [List.map_map] <;> rfl
  rw [e4] at d4
  refine ⟨D4, _, rfl, SqL.of d4, _, _, rfl, rfl, ?_⟩
  show Q (.bl (decide ((ps.map Prod.snd).sum ≤ 40))) H4
  rw [decide_eq_true hsum]
  exact q H4 (s1.trans (s2.trans (s3.trans s4)))
end SR
set_option Elab.async false
set_option linter.all false
set_option maxRecDepth 100000
set_option maxHeartbeats 4000000
namespace SR
open PySem PySem.Spec PyProof.Rows L2
/-- the pair that stands at a reference -/
def pk (H : Hp) : V → Int × Int
  | .ref t => (match H t with
    | some (.tup [.int i, .int j]) => (i, j)
    | _ => (0, 0))
  | _ => (0, 0)
theorem pk_at {H : Hp} {t : Addr} {p : Int × Int} (h : TupAt H t p) : pk H (.ref t) = p := by
  unfold TupAt at h
  show (match H t with
    | some (.tup [.int i, .int j]) => (i, j)
    | _ => (0, 0)) = p
  rw [h]
theorem paired_mem {α β : Type} {F : α → β → Prop} : ∀ {xs : List α} {ys : List β}, Paired F xs ys → ∀ x ∈ xs, ∃ y ∈ ys, F x y
  | _, _, .nil, _, m => nomatch m
  | _, _, .cons h t, x, m => by
    rcases List.mem_cons.mp m with rfl | m
    · exact ⟨_, List.mem_cons_self, h⟩
    · obtain ⟨y, hy, f⟩ := paired_mem t x m
      exact ⟨y, List.mem_cons_of_mem _ hy, f⟩
theorem paired_map {H : Hp} : ∀ {ts : List Addr}, (∀ t ∈ ts, TupAt H t (pk H (.ref t))) → Paired (TupAt H) ts (ts.map fun t => pk H (.ref t))
  | [], _ => .nil
  | t :: ts, h => .cons (h t List.mem_cons_self) (paired_map fun u m => h u (List.mem_cons_of_mem _ m))
theorem paired_eq {H : Hp} : ∀ {ts : List Addr} {ps : List (Int × Int)}, Paired (TupAt H) ts ps → ps = ts.map fun t => pk H (.ref t)
  | _, _, .nil => rfl
  | _, _, .cons h t => by rw [List.map_cons, pk_at h, ← paired_eq t]
theorem all_refs : ∀ {ys : List V}, (∀ y ∈ ys, ∃ t, y = V.ref t) → ∃ ts : List Addr, ys = ts.map V.ref
  | [], _ => ⟨[], rfl⟩
  | y :: ys, h => by
    obtain ⟨t, rfl⟩ := h y List.mem_cons_self
    obtain ⟨ts, rfl⟩ := all_refs fun z m => h z (List.mem_cons_of_mem _ m)
    exact ⟨t :: ts, rfl⟩
/-- in the order of the first numbers -/
def Asc (ps : List (Int × Int)) : Prop := ps.Pairwise fun p q => p.1 < q.1
theorem asc_of {k : V → Int × Int} {ys : List V} (h : SrtO.Srtd (ltP k) ys) (nd : (ys.map fun y => (k y).1).Nodup) : Asc (ys.map k) := by
  unfold Asc
  rw [List.pairwise_map]
  have nd' : ys.Pairwise fun x y => (k x).1 ≠ (k y).1 := List.pairwise_map.mp nd
  refine (List.Pairwise.and h nd').imp fun {x y} z => ?_
  obtain ⟨z1, z2⟩ := z
  have := SrtO.lexB_no.mp z1
  omega
theorem sorted_out {H : Hp} {ts : List Addr} {ps : List (Int × Int)} (hp : Paired (TupAt H) ts ps) (nd : (ps.map Prod.fst).Nodup) {ys : List V} (h1 : SrtO.Srtd (ltP (pk H)) ys) (h2 : SrtO.Stb (ltP (pk H)) ys (ts.map V.ref)) :
    ∃ us qs, ys = us.map V.ref ∧ Paired (TupAt H) us qs ∧ qs.Perm ps ∧ Asc qs := by
  have rf : ∀ y ∈ ys, ∃ t ∈ ts, y = V.ref t := fun y m => by
    obtain ⟨t, ht, e⟩ := List.mem_map.mp (h2.perm.mem_iff.mp m)
    exact ⟨t, ht, e.symm⟩
  obtain ⟨us, rfl⟩ := all_refs fun y m => let ⟨t, _, e⟩ := rf y m; ⟨t, e⟩
  have ups : us.Perm ts := by
    have z := h2.perm.map (fun v => match v with | V.ref t => t | _ => 0)
    rw [List.map_map, List.map_map] at z
    exact (List.map_id us).symm ▸ (List.map_id ts) ▸ z
  have at_ : ∀ t ∈ us, TupAt H t (pk H (.ref t)) := fun t m => by
    obtain ⟨p, _, hat⟩ := paired_mem hp t (ups.mem_iff.mp m)
    rw [pk_at hat]
    exact hat
  have e := paired_eq hp
  have perm : (us.map fun t => pk H (.ref t)).Perm ps := by
    rw [e]
    exact ups.map _
  refine ⟨us, us.map fun t => pk H (.ref t), rfl, paired_map at_, perm, ?_⟩
  have nd2 : ((us.map V.ref).map fun y => (pk H y).1).Nodup := by
    have z := (perm.map Prod.fst).nodup_iff.mpr nd
    rw [List.map_map] at z ⊢
    exact z
  have z := asc_of h1 nd2
  rw [List.map_map] at z
  exact z
theorem PairsAt.sorted {K : PySem.W.Frag} {H : Hp} {a : Addr} {ps : List (Int × Int)} {Q : VK} (h : PairsAt K H a ps) (nd : (ps.map Prod.fst).Nodup)
    (q : ∀ l us qs, H l = none → Paired (TupAt H) us qs → qs.Perm ps → Asc qs → Q (.ref l) (upd H l (.lst (us.map V.ref)))) : qSorted K [.ref a] H Q := by
  obtain ⟨ts, h1, h2⟩ := h
  have it : ∀ x ∈ ts.map V.ref, ∃ t, x = V.ref t ∧ H t = some (.tup [.int (pk H x).1, .int (pk H x).2]) := fun x m => by
    obtain ⟨t, ht, rfl⟩ := List.mem_map.mp m
    obtain ⟨p, _, hat⟩ := paired_mem h2 t ht
    refine ⟨t, rfl, ?_⟩
    rw [pk_at hat]
    exact hat
  have out : ∀ ys p, SrtO.Srtd (ltP (pk H)) ys → SrtO.Stb (ltP (pk H)) ys (ts.map V.ref) → H p = none → Q (.ref p) (upd H p (.lst ys)) := fun ys p a1 a2 a3 => by
    obtain ⟨us, qs, rfl, b1, b2, b3⟩ := sorted_out h2 nd a1 a2
    exact q p us qs a3 b1 b2 b3
  cases h1 with
  | inl h1 => exact .inl ⟨a, _, pk H, rfl, h1, it, out⟩
  | inr h1 => exact .inr ⟨a, _, pk H, rfl, h1.sq, it, out⟩
/-- the fields of a row -/
def rowFs (c k d e : Addr) : List (Str × V) := [("_contents", .ref c), ("_capacities", .ref k), ("_count_at", .ref d), ("_capacity_at", .ref e)]
/-- at x there stands a row, of the items ps and the wide boxes ks, both ascending -/
def RowAt (K : PySem.W.Frag) (C : Addr) (H : Hp) (x : Addr) (ps ks : List (Int × Int)) : Prop := ∃ dx c k d e ps0 ks0, H x = some (.ins C dx (rowFs c k d e)) ∧ (∃ ts, Bare H c (ts.map V.ref) ∧ Paired (TupAt H) ts ps) ∧ (∃ ts, Bare H k (ts.map V.ref) ∧ Paired (TupAt H) ts ks) ∧
  H d = some (.dK (kvsOf ps0)) ∧ H e = some (.dK (kvsOf ks0)) ∧ ps.Perm ps0 ∧ ks.Perm ks0
/-- what a row may hold -/
structure RowOk (ps ks : List (Int × Int)) : Prop where
  nd : (ps.map Prod.fst).Nodup
  kd : (ks.map Prod.fst).Nodup
  kl : ks.length ≤ 6
  ko : ∀ p ∈ ks, sizeOk p
  po : ∀ p ∈ ps, 1 ≤ p.2 ∧ p.2 ≤ cap ks p.1
  sm : (ps.map Prod.snd).sum ≤ 40
theorem len_sum : ∀ {ps : List (Int × Int)}, (∀ p ∈ ps, 1 ≤ p.2) → (ps.length : Int) ≤ (ps.map Prod.snd).sum
  | [], _ => Int.le_refl _
  | p :: ps, h => by
    have h1 := h p List.mem_cons_self
    have h2 := len_sum fun q m => h q (List.mem_cons_of_mem _ m)
    rw [List.map_cons, List.sum_cons, List.length_cons]
    omega
theorem RowOk.len {ps ks : List (Int × Int)} (h : RowOk ps ks) : ps.length ≤ 40 := by
  have h1 := len_sum fun p m => (h.po p m).1
  have h2 := h.sm
  omega
/-- all but x and its dict stay -/
def SameBut (x : Addr) (H H' : Hp) : Prop := ∀ b o, b ≠ x → H b = some o → H' b = some o
structure RowC (K : PySem.W.Frag) (C : Addr) : Prop where
  cls : Cls K C
  n1 : NoAttr K C "_contents"
  n2 : NoAttr K C "_capacities"
  n3 : NoAttr K C "_count_at"
  n4 : NoAttr K C "_capacity_at"
def spRowInit (K : PySem.W.Frag) (C : Addr) : Sp := fun vs H Q _ => ∃ x a b dx ps ks, vs = [.ref x, .ref a, .ref b] ∧ H x = some (.ins C dx []) ∧ PairsAt K H a ps ∧ PairsAt K H b ks ∧ RowOk ps ks ∧
  ∀ H' qs ls, SameBut x H H' → RowAt K C H' x qs ls → qs.Perm ps → ls.Perm ks → Asc qs → Asc ls → Q .non H'
def t_Row_init (K : PySem.W.Frag) : TS := tSeq (tIfS (tNot (tB (tCall (spAreCapacities K) [] E0 (tCons (tVar 2) (tNil)))))
  ((fun _ _ _ => False))
  (tNext))
  (tSeq (tIfS (tNot (tB (tCall (spAreContents K) [] E0 (tCons (tVar 1) (tCons (tVar 2) (tNil))))))
  ((fun _ _ _ => False))
  (tNext))
  (tSeq (sFld K (tVar 0) (tCB (qTupOf K) (tCons (tCB (qSorted K) (tCons (tVar 1) (tNil))) (tNil))) "_contents")
  (tSeq (sFld K (tVar 0) (tCB (qTupOf K) (tCons (tCB (qSorted K) (tCons (tVar 2) (tNil))) (tNil))) "_capacities")
  (tSeq (sFld K (tVar 0) (tCB (qDictOf K) (tCons (tVar 1) (tNil))) "_count_at")
  (sFld K (tVar 0) (tCB (qDictOf K) (tCons (tVar 2) (tNil))) "_capacity_at")))))
def fs1 (c : Addr) : List (Str × V) := [("_contents", .ref c)]
def fs2 (c e : Addr) : List (Str × V) := [("_contents", .ref c), ("_capacities", .ref e)]
def fs3 (c e d : Addr) : List (Str × V) := [("_contents", .ref c), ("_capacities", .ref e), ("_count_at", .ref d)]
theorem put1 (c : Addr) : putF "_contents" (.ref c) [] = fs1 c := rfl
theorem putNe {f g : Str} {v x : V} {r : List (Str × V)} (h : ¬ g = f) : putF f v ((g, x) :: r) = (g, x) :: putF f v r := by
  rw [putF, if_neg h]
theorem put2 (c e : Addr) : putF "_capacities" (.ref e) (fs1 c) = fs2 c e := by
  unfold fs1 fs2
  rw [putNe (by decide)]
  rfl
theorem put3 (c e d : Addr) : putF "_count_at" (.ref d) (fs2 c e) = fs3 c e d := by
  unfold fs2 fs3
  rw [putNe (by decide), putNe (by decide)]
  rfl
theorem put4 (c e d g : Addr) : putF "_capacity_at" (.ref g) (fs3 c e d) = rowFs c e d g := by
  unfold fs3 rowFs
  rw [putNe (by decide), putNe (by decide), putNe (by decide)]
  rfl
@[irreducible] def xSorted := @qSorted
theorem xSorted_eq : @xSorted = @qSorted := by
  unfold xSorted
  rfl
def NoIns (o : HO) : Prop := ∀ C dx fs, o ≠ .ins C dx fs
theorem SameBut.keep {x : Addr} {H H' : Hp} (s : SameBut x H H') {C dx : Addr} {fs : List (Str × V)} (hx : H x = some (.ins C dx fs)) {b : Addr} {o : HO} (h : H b = some o) (ho : NoIns o) : H' b = some o := s b o (fun e => by
  rw [e, hx] at h
  exact ho _ _ _ (Option.some.inj h).symm) h
theorem Same.but {x : Addr} {H H' : Hp} (s : Same H H') : SameBut x H H' := fun b o _ h => s b o h
theorem SameBut.trans {x : Addr} {H H1 H2 : Hp} (s : SameBut x H H1) (t : SameBut x H1 H2) : SameBut x H H2 := fun b o e h => t b o e (s b o e h)
theorem but_upd {x : Addr} {H : Hp} {o : HO} : SameBut x H (upd H x o) := fun b u e h => (upd_ne e).trans h
theorem SameBut.tups {x : Addr} {H H' : Hp} (s : SameBut x H H') {C dx : Addr} {fs : List (Str × V)} (hx : H x = some (.ins C dx fs)) {ts : List Addr} {ps : List (Int × Int)} (h : Paired (TupAt H) ts ps) : Paired (TupAt H') ts ps :=
  paired_imp (fun t p z => s.keep (o := .tup [.int p.1, .int p.2]) hx z (fun _ _ _ e => nomatch e)) h
theorem SameBut.bare {x : Addr} {H H' : Hp} (s : SameBut x H H') {C dx : Addr} {fs : List (Str × V)} (hx : H x = some (.ins C dx fs)) {a : Addr} {xs : List V} (h : Bare H a xs) : Bare H' a xs :=
  let ⟨o, h1, h2⟩ := h; ⟨o, s.keep hx h1 (fun _ _ _ e => nomatch e), h2⟩
theorem SameBut.pairs {K : PySem.W.Frag} {x : Addr} {H H' : Hp} (s : SameBut x H H') {C dx : Addr} {fs : List (Str × V)} (hx : H x = some (.ins C dx fs)) {a : Addr} {ps : List (Int × Int)} (h : PairsAt K H a ps) : PairsAt K H' a ps := by
  obtain ⟨ts, h1, h2⟩ := h
  refine ⟨ts, ?_, s.tups hx h2⟩
  rcases h1 with ((h1 | ⟨ob, h1⟩) | h1) | h1
  · exact .inl (.inl (.inl (s.keep hx h1 fun _ _ _ e => nomatch e)))
  · exact .inl (.inl (.inr ⟨ob, s.keep hx h1 fun _ _ _ e => nomatch e⟩))
  · exact .inl (.inr h1)
  · exact .inr (h1.imp (s.bare hx) id)
theorem pure_row_init {K : PySem.W.Frag} {C : Addr} (R : RowC K C) (vs : List V) (H : Hp) (Q : VK) (E : XK) (h : spRowInit K C vs H Q E) : t_Row_init K { nx := fun _ H' => Q .non H', rt := Q } (start ["self", "contents", "capacities"] vs) H := by
  obtain ⟨x, a, b, dx, ps, ks, rfl, hx, hp, hk, ok, q⟩ := h
  refine ⟨_, rfl, b, ks, rfl, hk, ok.kd, ok.kl, ok.ko, fun H1 s1 => ⟨_, rfl, iteF ?_⟩⟩
  refine ⟨_, rfl, _, rfl, a, b, ps, ks, rfl, hp.same s1, hk.same s1, ok.nd, ok.kd, (by have := ok.len; omega), ok.po, ok.sm, fun H2 s2 => ⟨_, rfl, iteF ⟨_, rfl, ?_⟩⟩⟩
  replace hp := (hp.same s1).same s2
  replace hk := (hk.same s1).same s2
  replace hx := s2 _ _ (s1 _ _ hx)
  have t2 := s1.trans s2
  clear s1 s2
  try rw [← xDictOf_eq]
  try rw [← xSorted_eq]
  show xSorted K [.ref a] H2 _
  try rw [xDictOf_eq]
  try rw [xSorted_eq]
  refine hp.sorted ok.nd fun l1 us qs hl1 hus pm1 as1 => ?_
  refine ⟨l1, _, rfl, SqL.of upd_same, fun c o hc o1 o2 => ?_⟩
  have s3 := same_new (o := .lst (us.map V.ref)) hl1
  generalize upd H2 l1 (.lst (us.map V.ref)) = H3 at s3 hc ⊢
  have s4 := same_new (o := .frz o (.tup (us.map V.ref))) hc
  have bc : Bare (upd H3 c (.frz o (.tup (us.map V.ref)))) c (us.map V.ref) := ⟨o, upd_same, o1, o2⟩
  generalize upd H3 c (.frz o (.tup (us.map V.ref))) = H4 at s4 bc ⊢
  have s34 := s3.trans s4
  refine ⟨_, rfl, x, C, dx, _, rfl, s34 _ _ hx, R.cls, R.n1, (by show 0 < 1000; decide), ?_⟩
  have hx4 := s34 _ _ hx
  rw [put1]
  have u5 := but_upd (x := x) (H := H4) (o := .ins C dx (fs1 c))
  have hx5 : upd H4 x (.ins C dx (fs1 c)) x = some (.ins C dx (fs1 c)) := upd_same
  have k5 := u5.pairs hx4 (hk.same s34)
  have p5 := u5.pairs hx4 (hp.same s34)
  have bc5 := u5.bare hx4 bc
  have us5 := u5.tups hx4 (paired_imp (fun _ _ z => s34 _ _ z) hus)
  have t5 : SameBut x H (upd H4 x (.ins C dx (fs1 c))) := (Same.but (t2.trans s34)).trans u5
  clear u5 hp hk hx hx4 s34 s3 s4 t2 bc hus hc hl1
  try rw [← xDictOf_eq]
  try rw [← xSorted_eq]
  show tSeq _ _ _ _ (upd H4 x (.ins C dx (fs1 c)))
  try rw [xDictOf_eq]
  try rw [xSorted_eq]
  generalize upd H4 x (.ins C dx (fs1 c)) = H5 at hx5 k5 p5 bc5 us5 t5 ⊢
  -- the wide boxes
  refine ⟨_, rfl, ?_⟩
  try rw [← xDictOf_eq]
  try rw [← xSorted_eq]
  show xSorted K [.ref b] H5 _
  try rw [xDictOf_eq]
  try rw [xSorted_eq]
  refine k5.sorted ok.kd fun l2 ws rs hl2 hws pm2 as2 => ?_
  refine ⟨l2, _, rfl, SqL.of upd_same, fun e o' he o3 o4 => ?_⟩
  have s6 := same_new (o := .lst (ws.map V.ref)) hl2
  generalize upd H5 l2 (.lst (ws.map V.ref)) = H6 at s6 he ⊢
  have s7 := same_new (o := .frz o' (.tup (ws.map V.ref))) he
  have be : Bare (upd H6 e (.frz o' (.tup (ws.map V.ref)))) e (ws.map V.ref) := ⟨o', upd_same, o3, o4⟩
  generalize upd H6 e (.frz o' (.tup (ws.map V.ref))) = H7 at s7 be ⊢
  have s57 := s6.trans s7
  have hx7 := s57 _ _ hx5
  refine ⟨_, rfl, x, C, dx, _, rfl, hx7, R.cls, R.n2, (by show 1 < 1000; decide), ?_⟩
  rw [put2]
  have u8 := but_upd (x := x) (H := H7) (o := .ins C dx (fs2 c e))
  have hx8 : upd H7 x (.ins C dx (fs2 c e)) x = some (.ins C dx (fs2 c e)) := upd_same
  have k8 := u8.pairs hx7 (k5.same s57)
  have p8 := u8.pairs hx7 (p5.same s57)
  have bc8 := u8.bare hx7 (bc5.same s57)
  have be8 := u8.bare hx7 be
  have us8 := u8.tups hx7 (paired_imp (fun _ _ z => s57 _ _ z) us5)
  have ws8 := u8.tups hx7 (paired_imp (fun _ _ z => s57 _ _ z) hws)
  have t8 := (t5.trans (Same.but s57)).trans u8
  clear u8 k5 p5 hx5 hx7 s57 s6 s7 t5 bc5 us5 be hws he hl2
  try rw [← xDictOf_eq]
  try rw [← xSorted_eq]
  show tSeq _ _ _ _ (upd H7 x (.ins C dx (fs2 c e)))
  try rw [xDictOf_eq]
  try rw [xSorted_eq]
  generalize upd H7 x (.ins C dx (fs2 c e)) = H8 at hx8 k8 p8 bc8 be8 us8 ws8 t8 ⊢
  -- the dicts
  refine ⟨_, rfl, ?_⟩
  try rw [← xDictOf_eq]
  try rw [← xSorted_eq]
  show xDictOf K [.ref a] H8 _
  try rw [xDictOf_eq]
  try rw [xSorted_eq]
  refine p8.dict ok.nd fun d hd => ?_
  have s9 := same_new (o := .dK (kvsOf ps)) hd
  have d9 : upd H8 d (.dK (kvsOf ps)) d = some (.dK (kvsOf ps)) := upd_same
  generalize upd H8 d (.dK (kvsOf ps)) = H9 at s9 d9 ⊢
  have hx9 := s9 _ _ hx8
  refine ⟨_, rfl, x, C, dx, _, rfl, hx9, R.cls, R.n3, (by show 2 < 1000; decide), ?_⟩
  rw [put3]
  have u10 := but_upd (x := x) (H := H9) (o := .ins C dx (fs3 c e d))
  have hx10 : upd H9 x (.ins C dx (fs3 c e d)) x = some (.ins C dx (fs3 c e d)) := upd_same
  have k10 := u10.pairs hx9 (k8.same s9)
  have bc10 := u10.bare hx9 (bc8.same s9)
  have be10 := u10.bare hx9 (be8.same s9)
  have us10 := u10.tups hx9 (paired_imp (fun _ _ z => s9 _ _ z) us8)
  have ws10 := u10.tups hx9 (paired_imp (fun _ _ z => s9 _ _ z) ws8)
  have d10 := u10.keep hx9 d9 fun _ _ _ e => nomatch e
  have t10 := (t8.trans (Same.but s9)).trans u10
  clear u10 k8 p8 hx8 hx9 s9 t8 bc8 us8 be8 ws8 d9 hd
  try rw [← xDictOf_eq]
  try rw [← xSorted_eq]
  show sFld K (tVar 0) (tCB (xDictOf K) (tCons (tVar 2) tNil)) "_capacity_at" { nx := fun _ H' => Q .non H', rt := Q } [some (.ref x), some (.ref a), some (.ref b)] (upd H9 x (.ins C dx (fs3 c e d)))
  try rw [xDictOf_eq]
  try rw [xSorted_eq]
  generalize upd H9 x (.ins C dx (fs3 c e d)) = H10 at hx10 k10 bc10 be10 us10 ws10 t10 d10 ⊢
  refine ⟨_, rfl, ?_⟩
  try rw [← xDictOf_eq]
  try rw [← xSorted_eq]
  show xDictOf K [.ref b] H10 _
  try rw [xDictOf_eq]
  try rw [xSorted_eq]
  refine k10.dict ok.kd fun g hg => ?_
  have s11 := same_new (o := .dK (kvsOf ks)) hg
  have g11 : upd H10 g (.dK (kvsOf ks)) g = some (.dK (kvsOf ks)) := upd_same
  generalize upd H10 g (.dK (kvsOf ks)) = H11 at s11 g11 ⊢
  have hx11 := s11 _ _ hx10
  refine ⟨_, rfl, x, C, dx, _, rfl, hx11, R.cls, R.n4, (by show 3 < 1000; decide), ?_⟩
  rw [put4]
  have u12 := but_upd (x := x) (H := H11) (o := .ins C dx (rowFs c e d g))
  refine q _ qs rs ((t10.trans (Same.but s11)).trans u12) ⟨dx, c, e, d, g, ps, ks, upd_same, ⟨us, u12.bare hx11 (bc10.same s11), u12.tups hx11 (paired_imp (fun _ _ z => s11 _ _ z) us10)⟩, ⟨ws, u12.bare hx11 (be10.same s11), u12.tups hx11 (paired_imp (fun _ _ z => s11 _ _ z) ws10)⟩,
    u12.keep hx11 (s11 _ _ d10) (fun _ _ _ e => nomatch e), u12.keep hx11 g11 (fun _ _ _ e => nomatch e), pm1, pm2⟩ pm1 pm2 as1 as2
end SR
set_option Elab.async false
set_option linter.all false
set_option maxRecDepth 100000
set_option maxHeartbeats 4000000
namespace SR
open PySem PySem.Spec PyProof.Rows L2
theorem lookup_none {i : Int} : ∀ {ps : List (Int × Int)}, ps.lookup i = none ↔ i ∉ ps.map Prod.fst
  | [] => ⟨fun _ => List.not_mem_nil, fun _ => rfl⟩
  | (j, n) :: ps => by
    rw [List.lookup_cons, List.map_cons, List.mem_cons]
    by_cases e : i = j
    · subst e
      rw [beq_self_eq_true]
      exact ⟨(fun z => nomatch z), fun z => absurd (Or.inl rfl) z⟩
    · rw [beq_eq_false_iff_ne.mpr e]
      show ps.lookup i = none ↔ _
      rw [lookup_none]
      exact ⟨fun z => fun w => w.elim e z, fun z => fun w => z (.inr w)⟩
theorem lookup_some {i n : Int} : ∀ {ps : List (Int × Int)}, (ps.map Prod.fst).Nodup → (ps.lookup i = some n ↔ (i, n) ∈ ps)
  | [], _ => ⟨(fun z => nomatch z), (fun z => nomatch z)⟩
  | (j, m) :: ps, nd => by
    have nd' := List.nodup_cons.mp nd
    rw [List.lookup_cons, List.mem_cons]
    by_cases e : i = j
    · subst e
      rw [beq_self_eq_true]
      refine ⟨fun z => .inl (by cases z; rfl), fun z => ?_⟩
      rcases z with z | z
      · cases z
        rfl
      · exact absurd (List.mem_map_of_mem (f := Prod.fst) z) nd'.1
    · rw [beq_eq_false_iff_ne.mpr e]
      show ps.lookup i = some n ↔ _
      rw [lookup_some nd'.2]
      exact ⟨.inr, fun z => z.elim (fun w => absurd (congrArg Prod.fst w) e) id⟩
theorem lookup_perm {ps qs : List (Int × Int)} (h : ps.Perm qs) (nd : (ps.map Prod.fst).Nodup) (i : Int) : ps.lookup i = qs.lookup i := by
  have nq : (qs.map Prod.fst).Nodup := (h.map Prod.fst).nodup_iff.mp nd
  cases e : qs.lookup i with
  | none => exact lookup_none.mpr fun m => lookup_none.mp e ((h.map Prod.fst).mem_iff.mp m)
  | some n => exact (lookup_some nd).mpr (h.mem_iff.mpr ((lookup_some nq).mp e))
def cnt (ps : List (Int × Int)) (i : Int) : Int := (ps.lookup i).getD 0
theorem RowAt.same {K : PySem.W.Frag} {C : Addr} {H H' : Hp} {x : Addr} {ps ks : List (Int × Int)} (s : Same H H') (h : RowAt K C H x ps ks) : RowAt K C H' x ps ks := by
  obtain ⟨dx, c, k, d, e, ps0, ks0, h1, ⟨t1, h2, h3⟩, ⟨t2, h4, h5⟩, h6, h7, h8⟩ := h
  exact ⟨dx, c, k, d, e, ps0, ks0, s _ _ h1, ⟨t1, h2.same s, paired_imp (fun _ _ z => s _ _ z) h3⟩, ⟨t2, h4.same s, paired_imp (fun _ _ z => s _ _ z) h5⟩, s _ _ h6, s _ _ h7, h8⟩
/-- what a row gives: its items, its wide boxes -/
def PairsT (H : Hp) (c : Addr) (ps : List (Int × Int)) : Prop := ∃ ts, Bare H c (ts.map V.ref) ∧ Paired (TupAt H) ts ps
theorem PairsT.at {K : PySem.W.Frag} {H : Hp} {c : Addr} {ps : List (Int × Int)} (h : PairsT H c ps) : PairsAt K H c ps := let ⟨ts, h1, h2⟩ := h; ⟨ts, .inr (.inl h1), h2⟩
theorem PairsT.same {H H' : Hp} {c : Addr} {ps : List (Int × Int)} (s : Same H H') (h : PairsT H c ps) : PairsT H' c ps := let ⟨ts, h1, h2⟩ := h; ⟨ts, h1.same s, paired_imp (fun _ _ z => s _ _ z) h2⟩
def spContents (K : PySem.W.Frag) (C : Addr) : Sp := fun vs H Q _ => ∃ x ps ks, vs = [.ref x] ∧ RowAt K C H x ps ks ∧ ∀ c, PairsT H c ps → Q (.ref c) H
def spCapacities (K : PySem.W.Frag) (C : Addr) : Sp := fun vs H Q _ => ∃ x ps ks, vs = [.ref x] ∧ RowAt K C H x ps ks ∧ ∀ c, PairsT H c ks → Q (.ref c) H
def t_Row_contents (K : PySem.W.Frag) : TS := tRet (tFld K (tVar 0) "_contents")
def t_Row_capacities (K : PySem.W.Frag) : TS := tRet (tFld K (tVar 0) "_capacities")
theorem fl1 (c k d e : Addr) : List.lookup ("_contents" : Str) (rowFs c k d e) = some (V.ref c) := rfl
theorem lkNe {f g : Str} {x : V} {r : List (Str × V)} (h : ¬ f = g) : List.lookup f ((g, x) :: r) = List.lookup f r := by
  rw [List.lookup_cons, beq_eq_false_iff_ne.mpr h]
theorem lkEq {f : Str} {x : V} {r : List (Str × V)} : List.lookup f ((f, x) :: r) = some x := by
  rw [List.lookup_cons, beq_self_eq_true]
theorem fl2 (c k d e : Addr) : List.lookup ("_capacities" : Str) (rowFs c k d e) = some (V.ref k) := by
  unfold rowFs
  rw [lkNe (by decide), lkEq]
theorem pure_contents {K : PySem.W.Frag} {C : Addr} (R : RowC K C) (vs : List V) (H : Hp) (Q : VK) (E : XK) (h : spContents K C vs H Q E) : t_Row_contents K { nx := fun _ H' => Q .non H', rt := Q } (start ["self"] vs) H := by
  obtain ⟨x, ps, ks, rfl, ⟨dx, c, k, d, e, ps0, ks0, h1, h2, h3, h4⟩, q⟩ := h
  exact ⟨_, rfl, x, C, dx, _, _, rfl, h1, R.cls, R.n1, fl1 c k d e, q c h2⟩
theorem pure_capacities {K : PySem.W.Frag} {C : Addr} (R : RowC K C) (vs : List V) (H : Hp) (Q : VK) (E : XK) (h : spCapacities K C vs H Q E) : t_Row_capacities K { nx := fun _ H' => Q .non H', rt := Q } (start ["self"] vs) H := by
  obtain ⟨x, ps, ks, rfl, ⟨dx, c, k, d, e, ps0, ks0, h1, h2, h3, h4⟩, q⟩ := h
  exact ⟨_, rfl, x, C, dx, _, _, rfl, h1, R.cls, R.n2, fl2 c k d e, q k h3⟩
end SR
set_option Elab.async false
set_option linter.all false
set_option maxRecDepth 100000
set_option maxHeartbeats 4000000
namespace SR
open PySem PySem.Spec PyProof.Rows L2
def qSortedD : List V → Hp → VK → Prop := fun xs H Q => ∃ (a : Addr) (kvs : List (Key × V)) (ks : List Int), xs = [.ref a] ∧ Rd H a (.dK kvs) ∧ kvs.map (·.1) = ks.map Sum.inl ∧ ks.length < 64 ∧ ∀ (ys : List Int) (p : Addr), ys.Perm ks → ys.Pairwise (· ≤ ·) → H p = none → Q (.ref p) (upd H p (.lst (ys.map V.int)))
def qDictL (K : PySem.W.Frag) : List V → Hp → VK → Prop := fun xs H Q => ∃ (a : Addr) (ps : List Addr) (kvs : List (Key × V)), xs = [.ref a] ∧ SqL K H a (ps.map V.ref) ∧ Paired (fun p kv => SqT K H p [kV kv.1, kv.2]) ps kvs ∧ ∀ p, H p = none → Q (.ref p) (upd H p (.dK (mergeK [] kvs)))
theorem paired_snoc {α β : Type} {F : α → β → Prop} {x : α} {y : β} (h : F x y) : ∀ {xs : List α} {ys : List β}, Paired F xs ys → Paired F (xs ++ [x]) (ys ++ [y])
  | _, _, .nil => .cons h .nil
  | _, _, .cons z t => .cons z (paired_snoc h t)
theorem with_lookup {fs : List (Int × Int)} (nd : (fs.map Prod.fst).Nodup) : (fs.map Prod.fst).map (fun y => (y, (fs.lookup y).getD 0)) = fs := by
  rw [List.map_map]
  have : ∀ p ∈ fs, ((fun y => (y, (fs.lookup y).getD 0)) ∘ Prod.fst) p = p := fun p m => by
    show (p.1, (fs.lookup p.1).getD 0) = p
    rw [(lookup_some (n := p.2) nd).mpr m]
    rfl
  rw [List.map_congr_left this, List.map_id']
def t_sorted (K : PySem.W.Frag) (f p : Nat) : TE := tCB (qDictL K) (tCons (tLc (iList K (tCB qSortedD (tCons (tVar f) (tNil)))) (gName p) (tYes) (tTup (tCons (tVar p) (tCons (tDGet (tVar f) (tVar p)) (tNil)))) [p]) (tNil))
theorem sorted_dict {K : PySem.W.Frag} {f p : Nat} {F : Addr} {fs : List (Int × Int)} {σ : L2.St} {H : Hp} {Q : VK} (hF : H F = some (.dK (kvsOf fs))) (nd : (fs.map Prod.fst).Nodup) (hl : fs.length < 64)
    (h1 : σ[f]? = some (some (.ref F))) (h2 : ∀ y, ((wipe σ [p]).set p (some y))[f]? = some (some (.ref F))) (h3 : ∀ y, ((wipe σ [p]).set p (some y))[p]? = some (some y)) (h4 : ∀ y, wipe ((wipe σ [p]).set p (some y)) [p] = wipe σ [p])
    (q : ∀ r H' ps, H r = none → Same H H' → H' r = some (.dK (kvsOf ps)) → ps.Perm fs → Asc ps → Q (.ref r) H') : t_sorted K f p σ H Q := by
  have keys : (kvsOf fs).map (·.1) = (fs.map Prod.fst).map Sum.inl := by
    unfold kvsOf
    rw [List.map_map, List.map_map]
    rfl
  refine ⟨_, h1, F, _, _, rfl, .inl hF, keys, (by rw [List.length_map]; exact hl), fun ys l perm pw hlf => ?_⟩
  have s1 := same_new (o := .lst (ys.map V.int)) hlf
  have L1 : upd H l (.lst (ys.map V.int)) l = some (.lst (ys.map V.int)) := upd_same
  generalize upd H l (.lst (ys.map V.int)) = H1 at s1 L1 ⊢
  refine ⟨l, rfl, ⟨_, SqL.of L1⟩, fun D hD => ?_⟩
  have yl : ys.length = fs.length := by rw [perm.length_eq, List.length_map]
  have val : ∀ y ∈ ys, fs.lookup y = some ((fs.lookup y).getD 0) := fun y m => by
    have hm := perm.mem_iff.mp m
    cases e : fs.lookup y with
    | none => exact absurd hm (lookup_none.mp e)
    | some n => rfl
  have ndy : ys.Nodup := perm.nodup_iff.mpr nd
  have pps : (ys.map fun y => (y, (fs.lookup y).getD 0)).Perm fs := by
    have z := perm.map (fun y => (y, (fs.lookup y).getD 0))
    rw [with_lookup nd] at z
    exact z
  have asc : Asc (ys.map fun y => (y, (fs.lookup y).getD 0)) := by
    unfold Asc
    rw [List.pairwise_map]
    refine (List.Pairwise.and pw ndy).imp fun {x y} z => ?_
    have := z.1
    have := z.2
    omega
  refine lc_it (walk_list (K := K) (a := l) (xs := ys.map V.int)) (fun i H2 => Same H1 H2 ∧ ∃ ts, H2 D = some (.lst (ts.map V.ref)) ∧ ts.length = i ∧ Paired (TupAt H2) ts ((ys.map fun y => (y, (fs.lookup y).getD 0)).take i)) ⟨same_new hD, [], upd_same, rfl, .nil⟩ ?_ ?_ ?_
  · rintro i H2 _ ⟨s2, _⟩
    exact SqL.of (s2 _ _ L1)
  · rintro i x H2 H3 hi ⟨s2, ts, d2, tl, pr⟩ ⟨rfl, hx⟩
    rw [List.getElem?_map] at hx
    obtain ⟨y, hy, rfl⟩ := Option.map_eq_some_iff.mp hx
    have hv := val y (List.mem_of_getElem? hy)
    have hF3 := s2 _ _ (s1 _ _ hF)
    have gv : valV (kvsOf fs) (.inl y) = some (.int ((fs.lookup y).getD 0)) := by
      rw [val_pairs, hv]
      rfl
    refine ⟨h4 _, _, h3 _, _, h2 _, _, h3 _, F, _, rfl, (by rw [← gv]; exact DGet.k (k := .inl y) hF3), sz (by show 2 ≤ 1000; decide), fun t ht => ?_⟩
    have s3 := same_new (o := .tup [.int y, .int ((fs.lookup y).getD 0)]) ht
    have T3 : TupAt (upd H3 t (.tup [.int y, .int ((fs.lookup y).getD 0)])) t (y, (fs.lookup y).getD 0) := upd_same
    generalize upd H3 t (.tup [.int y, .int ((fs.lookup y).getD 0)]) = H4 at s3 T3 ⊢
    have d3 := s3 _ _ d2
    have li : i < ys.length := by
      rw [List.length_map] at hi
      exact hi
    have pr3 : Paired (TupAt (upd H4 D (.lst (ts.map V.ref ++ [.ref t])))) (ts ++ [t]) ((ys.map fun y => (y, (fs.lookup y).getD 0)).take (i + 1)) := by
      have tk : (ys.map fun y => (y, (fs.lookup y).getD 0)).take (i + 1) = (ys.map fun y => (y, (fs.lookup y).getD 0)).take i ++ [(y, (fs.lookup y).getD 0)] := by
        rw [List.take_succ, List.getElem?_map, hy]
        rfl
      rw [tk]
      have keep : ∀ {b : Addr} {p : Int × Int}, TupAt H4 b p → TupAt (upd H4 D (.lst (ts.map V.ref ++ [.ref t]))) b p := fun {b p} z => (upd_ne (ne_of z d3 (by intro e; cases e))).trans z
      exact paired_snoc (keep T3) (paired_imp (fun _ _ z => keep (s3 _ _ z)) pr)
    refine ⟨_, d3, ?_, same_upd (s2.trans s3) hD, ts ++ [t], ?_, ?_, pr3⟩
    · rw [List.length_map, tl]
      exact Nat.lt_of_lt_of_le (Nat.lt_of_lt_of_le li (by omega : ys.length ≤ 64)) (by decide)
    · rw [upd_same, List.map_append]
      rfl
    · rw [List.length_append, tl]
      rfl
  · rintro H2 ⟨s2, ts, d2, tl, pr⟩
    have all : (ys.map fun y => (y, (fs.lookup y).getD 0)).take (ys.map V.int).length = ys.map fun y => (y, (fs.lookup y).getD 0) := by
      rw [List.length_map]
      exact List.take_of_length_le (by rw [List.length_map]; exact Nat.le_refl _)
    rw [all] at pr
    refine ⟨D, ts, _, rfl, SqL.of d2, paired_kvs pr, fun r hr => ?_⟩
    have ndp : ((ys.map fun y => (y, (fs.lookup y).getD 0)).map Prod.fst).Nodup := (pps.map Prod.fst).nodup_iff.mpr nd
    rw [merge_pairs ndp]
    have s12 := s1.trans s2
    exact q r _ _ (Same.free s12 hr) (s12.trans (same_new hr)) upd_same pps asc
end SR
set_option Elab.async false
set_option linter.all false
set_option maxRecDepth 100000
set_option maxHeartbeats 4000000
namespace SR
open PySem PySem.Spec PyProof.Rows L2
def putI (fs : List (Int × Int)) (i n : Int) : List (Int × Int) := if i ∈ fs.map Prod.fst then fs.map (fun p => if p.1 = i then (p.1, n) else p) else fs ++ [(i, n)]
theorem any_pairs {i : Int} : ∀ fs : List (Int × Int), ((kvsOf fs).any fun kv => decide (kv.1 = (.inl i : Key))) = decide (i ∈ fs.map Prod.fst)
  | [] => rfl
  | (j, m) :: fs => by
    show (decide ((.inl j : Key) = .inl i) || (kvsOf fs).any _) = _
    rw [any_pairs fs, List.map_cons]
    by_cases e : j = i
    · subst e
      rw [decide_eq_true rfl, Bool.true_or, decide_eq_true List.mem_cons_self]
    · rw [decide_eq_false (fun z => e (Sum.inl.inj z)), Bool.false_or]
      refine decide_eq_decide.mpr ⟨fun z => List.mem_cons_of_mem _ z, fun z => ?_⟩
      rcases List.mem_cons.mp z with z | z
      · exact absurd z.symm e
      · exact z
theorem putK_pairs (fs : List (Int × Int)) (i n : Int) : putK (kvsOf fs) (.inl i) (.int n) = kvsOf (putI fs i n) := by
  unfold putK putI
  rw [any_pairs]
  by_cases h : i ∈ fs.map Prod.fst
  · rw [if_pos (decide_eq_true h), if_pos h]
    unfold kvsOf
    rw [List.map_map, List.map_map]
    refine List.map_congr_left fun p _ => ?_
    show (if (.inl p.1 : Key) = .inl i then _ else _) = _
    by_cases e : p.1 = i
    · rw [if_pos (congrArg Sum.inl e)]
      show _ = (Sum.inl (if p.1 = i then (p.1, n) else p).1, V.int (if p.1 = i then (p.1, n) else p).2)
      rw [if_pos e]
    · rw [if_neg (fun z => e (Sum.inl.inj z))]
      show _ = (Sum.inl (if p.1 = i then (p.1, n) else p).1, V.int (if p.1 = i then (p.1, n) else p).2)
      rw [if_neg e]
  · rw [if_neg (fun z => h (of_decide_eq_true z)), if_neg h]
    unfold kvsOf
    rw [List.map_append]
    rfl
theorem putI_all {P : Int × Int → Prop} {fs : List (Int × Int)} {i n : Int} (h : ∀ p ∈ fs, P p) (hn : P (i, n)) : ∀ p ∈ putI fs i n, P p := by
  unfold putI
  intro p m
  split at m
  · obtain ⟨q, hq, rfl⟩ := List.mem_map.mp m
    split
    · rename_i e
      rw [e]
      exact hn
    · exact h q hq
  · rcases List.mem_append.mp m with m | m
    · exact h p m
    · rw [List.mem_singleton.mp m]
      exact hn
theorem putI_fst {fs : List (Int × Int)} {i n : Int} : (putI fs i n).map Prod.fst = if i ∈ fs.map Prod.fst then fs.map Prod.fst else fs.map Prod.fst ++ [i] := by
  unfold putI
  split
  · rw [List.map_map]
    refine List.map_congr_left fun p _ => ?_
    show (if p.1 = i then (p.1, n) else p).1 = p.1
    split <;> rfl
  · rw [List.map_append]
    rfl
theorem putI_nd {fs : List (Int × Int)} {i n : Int} (h : (fs.map Prod.fst).Nodup) : ((putI fs i n).map Prod.fst).Nodup := by
  rw [putI_fst]
  split
  · exact h
  · rename_i z
    refine List.nodup_append.mpr ⟨h, List.pairwise_singleton _ _, fun a ha b hb e => ?_⟩
    rw [List.mem_singleton.mp hb] at e
    exact z (e ▸ ha)
theorem putI_len {fs : List (Int × Int)} {i n : Int} : (putI fs i n).length ≤ fs.length + 1 := by
  unfold putI
  split
  · rw [List.length_map]
    exact Nat.le_succ _
  · rw [List.length_append]
    exact Nat.le_refl _
theorem dput_pairs {H : Hp} {F : Addr} {fs : List (Int × Int)} {i n : Int} (h : H F = some (.dK (kvsOf fs))) (hl : fs.length < 1000) : DPut H F (.int i) (.int n) (upd H F (.dK (kvsOf (putI fs i n)))) := by
  refine .inl ⟨kvsOf fs, .inl i, h, rfl, ?_, by rw [putK_pairs]⟩
  unfold kvsOf
  rw [List.length_map]
  exact Nat.lt_trans hl (by decide)
/-- drawn sizes -/
def spSizes (K : PySem.W.Frag) : Sp := fun vs H Q _ => ∃ (d g c : Addr) (b : Nat) (n : Int), vs = [.ref d, .int n] ∧ StB H d g c (b + 25) ∧ 0 ≤ n ∧ n ≤ 6 ∧
  ∀ r H' ks, StB H' d g c b → Kp d g H H' → r ≠ d → r ≠ g → r ≠ c → H r = none → H' r = some (.dK (kvsOf ks)) → Asc ks → (∀ p ∈ ks, sizeOk p) → ks.length ≤ 6 → Q (.ref r) H'
def t_szTurn (K : PySem.W.Frag) : TS := sDPut (tVar 2) (tCall (spPick K) [] E0 (tCons (tVar 0) (tCons (tLst (tCons (tOp qSub (tCall spTake [] E0 (tCons (tVar 0) (tCons (tC (.int 12)) (tNil)))) (tC (.int 3))) (tCons (tOp qSub (tCall spTake [] E0 (tCons (tVar 0) (tCons (tC (.int 12)) (tNil)))) (tC (.int 3))) (tCons (tC (.int 60)) (tCons (tUn (rU fun i => .int (-i)) (tC (.int 60))) (tNil)))))) (tNil)))) (tOp qAdd (tC (.int 2)) (tCall spTake [] E0 (tCons (tVar 0) (tCons (tC (.int 8)) (tNil)))))
def t_sizes (K : PySem.W.Frag) : TS := tSeq (tAsg (tDNewK) (gName 2))
  (tSeq (tFor (iRng1 (tCons (tCall spTake [] E0 (tCons (tVar 0) (tCons (tOp qAdd (tVar 1) (tC (.int 1))) (tNil)))) (tNil))) (gName 3)
  (t_szTurn K))
  (tRet (t_sorted K 2 4)))
theorem sz_turn {K : PySem.W.Frag} {H : Hp} {d g c F : Addr} {b : Nat} {fs : List (Int × Int)} {w1 w3 w4 : Option V} {N N2 N3 : L2.St → Hp → Prop} {R : VK} (S : StB H d g c (b + 4)) (hF : H F = some (.dK (kvsOf fs))) (f1 : F ≠ d) (f2 : F ≠ g) (f3 : F ≠ c) (hl : fs.length < 100)
    (hN : ∀ H' i n, StB H' d g c b → (∀ x o, x ≠ F → x ≠ d → x ≠ g → H x = some o → H' x = some o) → H' F = some (.dK (kvsOf (putI fs i n))) → sizeOk (i, n) → N [some (.ref d), w1, some (.ref F), w3, w4] H') :
    t_szTurn K { nx := N, rt := R, bk := N2, ct := N3 } [some (.ref d), w1, some (.ref F), w3, w4] H := by
  refine ⟨_, rfl, d, g, c, b + 3, 8, rfl, S, by decide, by decide, fun n H1 n0 n1 S1 q1 => ⟨_, _, rfl, rfl, ?_⟩⟩
  refine ⟨_, rfl, _, rfl, _, rfl, d, g, c, b + 2, 12, rfl, S1, by decide, by decide, fun i H2 i0 i1 S2 q2 => ⟨_, _, rfl, rfl, ?_⟩⟩
  refine ⟨_, rfl, d, g, c, b + 1, 12, rfl, S2, by decide, by decide, fun j H3 j0 j1 S3 q3 => ⟨_, _, rfl, rfl, 60, rfl, sz (by show 4 ≤ 1000; decide), fun l hl => ?_⟩⟩
  obtain ⟨l1, l2, l3⟩ := S3.off hl
  refine ⟨d, g, c, b, l, _, rfl, S3.new hl, SqL.of upd_same, l1, l2, by show 0 < 4; decide, by show 4 < 1000; decide, fun v H4 hv S4 q4 => ?_⟩
  obtain ⟨k, rfl, k1, k2⟩ : ∃ k : Int, v = .int k ∧ -60 ≤ k ∧ k ≤ 60 := by
    simp only [List.mem_cons, List.not_mem_nil, or_false] at hv
    rcases hv with rfl | rfl | rfl | rfl
    · exact ⟨_, rfl, by omega, by omega⟩
    · exact ⟨_, rfl, by omega, by omega⟩
    · exact ⟨_, rfl, by decide, by decide⟩
    · exact ⟨_, rfl, by decide, by decide⟩
  clear hv
  have k4 : Kp d g H H4 := q1.trans (q2.trans (q3.trans ((Kp.new hl).trans q4)))
  have F4 := k4 _ _ f1 f2 hF
  refine ⟨F, _, rfl, dput_pairs F4 (by omega), ?_⟩
  refine hN _ k (2 + n) (S4.upd f1 f2 f3) (fun x o e0 e1 e2 hx => (upd_ne e0).trans (k4 _ _ e1 e2 hx)) upd_same ⟨⟨k1, k2⟩, by show 2 ≤ 2 + n; omega, by show 2 + n ≤ 9; omega⟩
theorem pure_sizes {K : PySem.W.Frag} (vs : List V) (H : Hp) (Q : VK) (E : XK) (h : spSizes K vs H Q E) : t_sizes K { nx := fun _ H' => Q .non H', rt := Q } (start ["state", "most", "found", "turn", "place"] vs) H := by
  obtain ⟨d, g, c, b, n, rfl, S, n0, n1, q⟩ := h
  intro F hF
  obtain ⟨f1, f2, f3⟩ := S.off hF
  have S1 := S.new (o := .dK []) hF
  have D1 : upd H F (.dK []) F = some (.dK (kvsOf [])) := upd_same
  have K1 : ∀ x o, x ≠ F → x ≠ d → x ≠ g → H x = some o → upd H F (.dK []) x = some o := fun x o e _ _ hx => (upd_ne e).trans hx
  generalize upd H F (.dK []) = H1 at S1 D1 K1 ⊢
  refine ⟨_, rfl, _, rfl, _, _, rfl, rfl, d, g, c, b + 24, n + 1, rfl, S1, by omega, by omega, fun t H2 t0 t1 S2 q2 => ⟨t, rfl, by omega, by omega, ?_⟩⟩
  refine for_range (lo := 0) (n := t.toNat) (fun i σ H3 => StB H3 d g c (b + 24 - 4 * i) ∧ (∃ fs, H3 F = some (.dK (kvsOf fs)) ∧ (fs.map Prod.fst).Nodup ∧ (∀ p ∈ fs, sizeOk p) ∧ fs.length ≤ i) ∧ (∀ x o, x ≠ F → x ≠ d → x ≠ g → H x = some o → H3 x = some o) ∧ ∃ w3 w4, σ = [some (.ref d), some (.int n), some (.ref F), w3, w4])
    ⟨S2, ⟨[], q2 _ _ f1 f2 D1, List.nodup_nil, (fun p m => nomatch m), Nat.le_refl _⟩, fun x o e0 e1 e2 hx => q2 _ _ e1 e2 (K1 x o e0 e1 e2 hx), _, _, rfl⟩ ?_ ?_
  · rintro i σ H3 hi ⟨S3, ⟨fs, D3, nd, ok, len⟩, K3, w3, w4, rfl⟩
    have hb : b + 24 - 4 * i = (b + 24 - 4 * (i + 1)) + 4 := by omega
    rw [hb] at S3
    show t_szTurn K _ [some (.ref d), some (.int n), some (.ref F), some (.int (0 + i)), w4] H3
    refine sz_turn S3 D3 f1 f2 f3 (by omega) fun H4 k m S4 K4 D4 ok4 => ⟨S4, ⟨_, D4, putI_nd nd, putI_all ok ok4, ?_⟩, fun x o e0 e1 e2 hx => K4 x o e0 e1 e2 (K3 x o e0 e1 e2 hx), _, _, rfl⟩
    have := putI_len (fs := fs) (i := k) (n := m)
    omega
  · rintro σ H3 ⟨S3, ⟨fs, D3, nd, ok, len⟩, K3, w3, w4, rfl⟩
    have lt : fs.length ≤ 6 := by omega
    refine sorted_dict D3 nd (by omega) rfl (fun y => rfl) (fun y => rfl) (fun y => rfl) fun r H4 ks hr s4 d4 pm asc => ?_
    have S4 := (StB.same s4 S3).mono (b' := b) (by omega)
    obtain ⟨r1, r2, r3⟩ := S3.off hr
    have hk : ∀ x o, x ≠ d → x ≠ g → H x = some o → H4 x = some o := fun x o e1 e2 hx => s4 _ _ (K3 x o (fun e => by rw [e, hF] at hx; cases hx) e1 e2 hx)
    have hr0 : H r = none := by
      cases e : H r with
      | none => rfl
      | some o =>
        have := K3 r o (fun z => by rw [z, hF] at e; cases e) r1 r2 e
        rw [hr] at this
        cases this
    exact q r H4 ks S4 hk r1 r2 r3 hr0 d4 asc (fun p m => ok p (pm.mem_iff.mp m)) (by rw [pm.length_eq]; exact lt)
end SR
set_option Elab.async false
set_option linter.all false
set_option maxRecDepth 100000
set_option maxHeartbeats 4000000
namespace SR
open PySem PySem.Spec PyProof.Rows L2
theorem cap_ok {ks : List (Int × Int)} (h : ∀ p ∈ ks, sizeOk p) (i : Int) : 1 ≤ cap ks i ∧ cap ks i ≤ 9 := by
  unfold cap
  cases e : ks.lookup i with
  | none => exact ⟨Int.le_refl _, by decide⟩
  | some n =>
    have m : ∃ p ∈ ks, p.2 = n := by
      clear h
      induction ks with
      | nil => cases e
      | cons p ks ih =>
        rw [List.lookup_cons] at e
        split at e
        · exact ⟨p, List.mem_cons_self, Option.some.inj e⟩
        · obtain ⟨q, hq, z⟩ := ih e
          exact ⟨q, List.mem_cons_of_mem _ hq, z⟩
    obtain ⟨p, hp, rfl⟩ := m
    have := h p hp
    exact ⟨Int.le_trans (by decide) this.2.1, this.2.2⟩
/-- what has been put into boxes: fs of n items, spare left -/
structure Bx (n : Int) (ks fs : List (Int × Int)) (spare : Int) : Prop where
  nd : (fs.map Prod.fst).Nodup
  po : ∀ p ∈ fs, 1 ≤ p.2 ∧ p.2 ≤ cap ks p.1
  sm : (fs.map Prod.snd).sum + spare = n
  sp : 0 ≤ spare
  bd : ∀ p ∈ fs, -(10 ^ 30) ≤ p.1 ∧ p.1 ≤ 10 ^ 30
theorem Bx.len {n spare : Int} {ks fs : List (Int × Int)} (h : Bx n ks fs spare) : (fs.length : Int) ≤ n - spare := by
  have h1 := len_sum fun p m => (h.po p m).1
  have h2 := h.sm
  omega
theorem putI_new {fs : List (Int × Int)} {i m : Int} (h : i ∉ fs.map Prod.fst) : putI fs i m = fs ++ [(i, m)] := if_neg h
theorem Bx.put {n spare i m : Int} {ks fs : List (Int × Int)} (h : Bx n ks fs spare) (new : i ∉ fs.map Prod.fst) (m1 : 1 ≤ m) (m2 : m ≤ spare) (m3 : m ≤ cap ks i) (bd : -(10 ^ 30) ≤ i ∧ i ≤ 10 ^ 30) : Bx n ks (putI fs i m) (spare - m) := by
  refine ⟨putI_nd h.nd, putI_all h.po ⟨m1, m3⟩, ?_, by omega, putI_all h.bd bd⟩
  have := h.sm
  rw [putI_new new, List.map_append, List.sum_append]
  show (fs.map Prod.snd).sum + (m + 0) + (spare - m) = n
  omega
def t_bxIn (K : PySem.W.Frag) : TS := (tSeq (tAsg (tCB qMin2 (tCons (tVar 5) (tCons (tOp qAdd (tC (.int 1)) (tCall spTake [] E0 (tCons (tVar 0) (tCons (tDGet2 (tVar 1) (tVar 3) (tC (.int 1))) (tNil))))) (tNil)))) (gName 8))
  (tSeq (tIfS (tTest (tOp qGt (tVar 8) (tC (.int 0))))
  (sDPut (tVar 4) (tVar 3) (tVar 8))
  (tNext))
  (tPar 5 3 (tCons (tOp qSub (tVar 5) (tVar 8)) (tCons (tOp qAdd (tVar 3) (tC (.int 1))) (tNil))))))
/-- what stays beside the boxes' dict F and the dict a -/
def KF (F a d g : Addr) (H H' : Hp) : Prop := ∀ x o, x ≠ F → x ≠ a → x ≠ d → x ≠ g → H x = some o → H' x = some o
theorem KF.trans {F a d g : Addr} {H H1 H2 : Hp} (x : KF F a d g H H1) (y : KF F a d g H1 H2) : KF F a d g H H2 := fun z o h1 h2 h3 h4 h => y z o h1 h2 h3 h4 (x z o h1 h2 h3 h4 h)
theorem Kp.kf {F a d g : Addr} {H H' : Hp} (k : Kp d g H H') : KF F a d g H H' := fun x o _ _ h1 h2 h => k x o h1 h2 h
theorem kf_upd {F a d g : Addr} {H : Hp} {o : HO} : KF F a d g H (upd H F o) := fun x _ h1 _ _ _ h => (upd_ne h1).trans h
theorem kf_updA {F a d g : Addr} {H : Hp} {o : HO} : KF F a d g H (upd H a o) := fun x _ _ h2 _ _ h => (upd_ne h2).trans h
theorem bx_in {K : PySem.W.Frag} {H : Hp} {d g c F a : Addr} {b : Nat} {n place spare : Int} {fs ks : List (Int × Int)} {w6 w7 w8 : Option V} {N N2 N3 : L2.St → Hp → Prop} {R : VK} (S : StB H d g c (b + 1)) (hF : H F = some (.dK (kvsOf fs))) (hA : H a = some (.dK (kvsOf ks)))
    (f1 : F ≠ d) (f2 : F ≠ g) (f3 : F ≠ c) (fa : F ≠ a) (a1 : a ≠ d) (a2 : a ≠ g) (hk : ∀ p ∈ ks, sizeOk p) (B : Bx n ks fs spare) (n40 : n ≤ 40) (lt : ∀ p ∈ fs, p.1 < place) (bd : -(10 ^ 30) ≤ place ∧ place ≤ 10 ^ 30)
    (hN : ∀ H' gs sp w, StB H' d g c b → KF F a d g H H' → H' F = some (.dK (kvsOf gs)) → H' a = some (.dK (kvsOf ks)) → Bx n ks gs sp → (∀ p ∈ gs, p.1 < place + 1) → N [some (.ref d), some (.ref a), some (.int n), some (.int (place + 1)), some (.ref F), some (.int sp), w6, w7, w] H') :
    t_bxIn K { nx := N, rt := R, bk := N2, ct := N3 } [some (.ref d), some (.ref a), some (.int n), some (.int place), some (.ref F), some (.int spare), w6, w7, w8] H := by
  obtain ⟨c1, c2⟩ := cap_ok hk place
  have gv : (valV (kvsOf ks) (.inl place)).getD (.int 1) = .int (cap ks place) := by
    rw [val_pairs]
    unfold cap
    cases ks.lookup place <;> rfl
  refine ⟨_, rfl, _, rfl, _, rfl, a, rfl, .inl ⟨_, .inl hA⟩, _, rfl, _, DGet.k (k := .inl place) hA, d, g, c, b, cap ks place, ?_, S, by omega, by omega, fun t H1 t0 t1 S1 q1 => ⟨_, _, rfl, rfl, _, _, rfl, ?_⟩⟩
  · rw [gv]
    rfl
  generalize hm : (if 1 + t < spare then 1 + t else spare) = m
  have m1 : m ≤ spare := by split at hm <;> omega
  have m2 : m ≤ cap ks place := by split at hm <;> omega
  have m0 : 0 ≤ m := by have := B.sp; split at hm <;> omega
  clear hm
  have F1 := q1 _ _ f1 f2 hF
  have A1 := q1 _ _ a1 a2 hA
  have new : place ∉ fs.map Prod.fst := fun z => by
    obtain ⟨p, hp, e⟩ := List.mem_map.mp z
    have := lt p hp
    omega
  refine ⟨_, rfl, _, _, rfl, rfl, _, rfl, ?_⟩
  by_cases pos : 0 < m
  · rw [decide_eq_true pos]
    have len := B.len
    have sp0 := B.sp
    refine iteT ⟨_, rfl, _, rfl, _, rfl, F, _, rfl, dput_pairs F1 (by omega), ?_⟩
    refine ⟨_, rfl, _, rfl, _, _, rfl, rfl, _, rfl, _, _, rfl, rfl, _, _, rfl, ?_⟩
    refine hN _ (putI fs place m) (spare - m) _ (S1.upd f1 f2 f3) (q1.kf.trans kf_upd) upd_same ((upd_ne (fun e => fa e.symm)).trans A1) (B.put new pos m1 m2 bd) (putI_all (fun p hp => ?_) ?_)
    · have := lt p hp
      omega
    · show place < place + 1
      omega
  · rw [decide_eq_false pos]
    have e0 : m = 0 := by omega
    subst e0
    refine iteF ⟨_, rfl, _, rfl, _, _, rfl, rfl, _, rfl, _, _, rfl, rfl, _, _, rfl, ?_⟩
    refine hN _ fs (spare - 0) _ S1 q1.kf F1 A1 (by rw [Int.sub_zero]; exact B) fun p hp => ?_
    have := lt p hp
    omega
end SR
set_option Elab.async false
set_option linter.all false
set_option maxRecDepth 100000
set_option maxHeartbeats 4000000
namespace SR
open PySem PySem.Spec PyProof.Rows L2
theorem e30 : (10 : Int) ^ 30 = 1000000000000000000000000000000 := by decide
theorem e29 : (10 : Int) ^ 29 = 100000000000000000000000000000 := by decide
theorem e28 : (10 : Int) ^ 28 = 10000000000000000000000000000 := by decide
def t_bxOut (K : PySem.W.Frag) : TS := (tSeq (tFor (iRng1 (tCons (tOp qAdd (tC (.int 1)) (tCall spTake [] E0 (tCons (tVar 0) (tCons (tC (.int 4)) (tNil))))) (tNil))) (gName 7) (t_bxIn K))
  (tAsg (tOp qAdd (tVar 3) (tCall (spPick K) [] E0 (tCons (tVar 0) (tCons (tLst (tCons (tC (.int 1)) (tCons (tC (.int 1)) (tCons (tC (.int 1)) (tCons (tC (.int 2)) (tCons (tC (.int 3)) (tCons (tC (.int 8)) (tCons (tOp qPow (tC (.int 10)) (tC (.int 28))) (tNil))))))))) (tNil))))) (gName 3)))
theorem bx_out {K : PySem.W.Frag} {H : Hp} {d g c F a : Addr} {b : Nat} {n place spare i : Int} {fs ks : List (Int × Int)} {w6 w7 w8 : Option V} {N N2 N3 : L2.St → Hp → Prop} {R : VK} (S : StB H d g c (b + 6)) (hF : H F = some (.dK (kvsOf fs))) (hA : H a = some (.dK (kvsOf ks)))
    (f1 : F ≠ d) (f2 : F ≠ g) (f3 : F ≠ c) (fa : F ≠ a) (a1 : a ≠ d) (a2 : a ≠ g) (hk : ∀ p ∈ ks, sizeOk p) (B : Bx n ks fs spare) (n40 : n ≤ 40) (lt : ∀ p ∈ fs, p.1 < place) (i0 : 0 ≤ i) (i5 : i ≤ 5) (bd : -(10 ^ 29) ≤ place ∧ place ≤ 10 ^ 29 + i * 20000000000000000000000000000)
    (hN : ∀ H' gs sp pl u7 u8, StB H' d g c b → KF F a d g H H' → H' F = some (.dK (kvsOf gs)) → H' a = some (.dK (kvsOf ks)) → Bx n ks gs sp → (∀ p ∈ gs, p.1 < pl) → (-(10 ^ 29) ≤ pl ∧ pl ≤ 10 ^ 29 + (i + 1) * 20000000000000000000000000000) → N [some (.ref d), some (.ref a), some (.int n), some (.int pl), some (.ref F), some (.int sp), w6, u7, u8] H') :
    t_bxOut K { nx := N, rt := R, bk := N2, ct := N3 } [some (.ref d), some (.ref a), some (.int n), some (.int place), some (.ref F), some (.int spare), w6, w7, w8] H := by
  refine ⟨_, rfl, d, g, c, b + 5, 4, rfl, S, by decide, by decide, fun t H1 t0 t1 S1 q1 => ⟨_, _, rfl, rfl, _, rfl, by omega, by omega, ?_⟩⟩
  have F1 := q1 _ _ f1 f2 hF
  have A1 := q1 _ _ a1 a2 hA
  have hj : (1 + t).toNat ≤ 4 := by omega
  generalize (1 + t).toNat = k at hj
  refine for_range (lo := 0) (n := k) (fun j σ H3 => StB H3 d g c (b + 5 - j) ∧ KF F a d g H H3 ∧ ∃ gs sp u7 u8, H3 F = some (.dK (kvsOf gs)) ∧ H3 a = some (.dK (kvsOf ks)) ∧ Bx n ks gs sp ∧ (∀ p ∈ gs, p.1 < place + (j : Int)) ∧ σ = [some (.ref d), some (.ref a), some (.int n), some (.int (place + (j : Int))), some (.ref F), some (.int sp), w6, u7, u8])
    ⟨S1, q1.kf, fs, spare, w7, w8, F1, A1, B, ?_, ?_⟩ ?_ ?_
  · intro p m
    have := lt p m
    omega
  · show _ = [some (V.ref d), some (V.ref a), some (V.int n), some (V.int (place + ((0 : Nat) : Int))), some (V.ref F), some (V.int spare), w6, w7, w8]
    rw [show place + ((0 : Nat) : Int) = place by omega]
  · rintro j σ H3 hj3 ⟨S3, K3, gs, sp, u7, u8, F3, A3, B3, lt3, rfl⟩
    have hb : b + 5 - j = (b + 5 - (j + 1)) + 1 := by omega
    rw [hb] at S3
    show t_bxIn K _ [some (.ref d), some (.ref a), some (.int n), some (.int (place + (j : Int))), some (.ref F), some (.int sp), w6, some (.int (0 + j)), u8] H3
    refine bx_in S3 F3 A3 f1 f2 f3 fa a1 a2 hk B3 n40 lt3 ?_ fun H4 hs sp4 w4 S4 K4 F4 A4 B4 lt4 => ⟨S4, K3.trans K4, hs, sp4, some (.int (0 + j)), w4, F4, A4, B4, ?_, ?_⟩
    · have := e29
      have := e30
      constructor <;> omega
    · intro p m
      have := lt4 p m
      omega
    · rw [show place + (j : Int) + 1 = place + ((j + 1 : Nat) : Int) by omega]
  · rintro σ H3 ⟨S3, K3, gs, sp, u7, u8, F3, A3, B3, lt3, rfl⟩
    refine ⟨_, rfl, _, rfl, 10, 28, rfl, rfl, ⟨by decide, by decide, by decide⟩, sz (by show 7 ≤ 1000; decide), fun l hl => ?_⟩
    obtain ⟨l1, l2, l3⟩ := S3.off hl
    have hb : StB H3 d g c (b + 1) := S3.mono (by omega)
    refine ⟨d, g, c, b, l, _, rfl, hb.new hl, SqL.of upd_same, l1, l2, by show 0 < 7; decide, by show 7 < 1000; decide, fun v H4 hv S4 q4 => ?_⟩
    have E28 : (10 : Int) ^ (28 : Int).toNat = 10000000000000000000000000000 := e28
    obtain ⟨m, rfl, m1, m2⟩ : ∃ m : Int, v = .int m ∧ 1 ≤ m ∧ m ≤ 10000000000000000000000000000 := by
      simp only [List.mem_cons, List.not_mem_nil, or_false] at hv
      rcases hv with rfl | rfl | rfl | rfl | rfl | rfl | rfl
      · exact ⟨1, rfl, by decide, by decide⟩
      · exact ⟨1, rfl, by decide, by decide⟩
      · exact ⟨1, rfl, by decide, by decide⟩
      · exact ⟨2, rfl, by decide, by decide⟩
      · exact ⟨3, rfl, by decide, by decide⟩
      · exact ⟨8, rfl, by decide, by decide⟩
      · exact ⟨_, rfl, by rw [E28]; decide, by rw [E28]; decide⟩
    clear hv
    have q34 : Kp d g H3 H4 := (Kp.new hl).trans q4
    refine ⟨_, _, rfl, rfl, hN H4 gs sp _ _ _ S4 (K3.trans q34.kf) (q34 _ _ f1 f2 F3) (q34 _ _ a1 a2 A3) B3 (fun p hp => ?_) ?_⟩
    · have := lt3 p hp
      omega
    · have := e29
      constructor <;> omega
def t_bxKey (K : PySem.W.Frag) : TS := (tSeq (tAsg (tCB qMin2 (tCons (tVar 5) (tCons (tCall spTake [] E0 (tCons (tVar 0) (tCons (tOp qAdd (tDGet (tVar 1) (tVar 3)) (tC (.int 1))) (tNil)))) (tNil)))) (gName 8))
  (tIfS (tAnd (tB (tDNotIn (tVar 3) (tVar 4))) (tTest (tOp qGt (tVar 8) (tC (.int 0)))))
  (tAsg (tTup (tCons (tVar 8) (tCons (tOp qSub (tVar 5) (tVar 8)) (tNil)))) (gTup K 2 (gCons (gSub (tVar 4) (tVar 3) rSetD) (gCons (gName 5) (gNil)))))
  (tNext)))
theorem bx_key {K : PySem.W.Frag} {H : Hp} {d g c F a : Addr} {b : Nat} {n place spare cp : Int} {od : Obj} {fs ks : List (Int × Int)} {w6 w7 w8 : Option V} {N N2 N3 : L2.St → Hp → Prop} {R : VK} (S : StB H d g c (b + 1)) (hF : H F = some (.dK (kvsOf fs))) (hA : H a = some (.frz od (.dK (kvsOf ks))))
    (f1 : F ≠ d) (f2 : F ≠ g) (f3 : F ≠ c) (fa : F ≠ a) (a1 : a ≠ d) (a2 : a ≠ g) (hk : ∀ p ∈ ks, sizeOk p) (hkd : (ks.map Prod.fst).Nodup) (hp : (place, cp) ∈ ks) (B : Bx n ks fs spare) (n40 : n ≤ 40)
    (hN : ∀ H' gs sp w, StB H' d g c b → KF F a d g H H' → H' F = some (.dK (kvsOf gs)) → H' a = some (.frz od (.dK (kvsOf ks))) → Bx n ks gs sp → N [some (.ref d), some (.ref a), some (.int n), some (.int place), some (.ref F), some (.int sp), w6, w7, w] H') :
    t_bxKey K { nx := N, rt := R, bk := N2, ct := N3 } [some (.ref d), some (.ref a), some (.int n), some (.int place), some (.ref F), some (.int spare), w6, w7, w8] H := by
  have ok := hk _ hp
  have lk := (lookup_some hkd).mpr hp
  have cpe : cap ks place = cp := by
    unfold cap
    rw [lk]
    rfl
  have gv : valV (kvsOf ks) (.inl place) = some (.int cp) := by
    rw [val_pairs, lk]
    rfl
  have o1 : 2 ≤ cp := ok.2.1
  have o2 : cp ≤ 9 := ok.2.2
  have o3 : -60 ≤ place := ok.1.1
  have o4 : place ≤ 60 := ok.1.2
  refine ⟨_, rfl, _, rfl, _, rfl, _, rfl, a, _, rfl, .inl ⟨_, .inl place, .inr ⟨od, hA⟩, rfl, gv.symm⟩, _, _, rfl, rfl, d, g, c, b, cp + 1, rfl, S, by omega, by omega, fun t H1 t0 t1 S1 q1 => ⟨_, _, rfl, ?_⟩⟩
  generalize hm : (if t < spare then t else spare) = m
  have m1 : m ≤ spare := by split at hm <;> omega
  have m2 : m ≤ cap ks place := by rw [cpe]; split at hm <;> omega
  have m0 : 0 ≤ m := by have := B.sp; split at hm <;> omega
  clear hm
  have F1 := q1 _ _ f1 f2 hF
  have A1 := q1 _ _ a1 a2 hA
  refine ⟨_, rfl, _, rfl, F, _, rfl, DGet.k (k := .inl place) F1, _, rfl, ?_⟩
  rw [val_pairs]
  cases e : fs.lookup place with
  | some z => exact iteF (iteF (hN _ fs spare _ S1 q1.kf F1 A1 B))
  | none =>
    have new := lookup_none.mp e
    refine iteT ⟨_, rfl, _, _, rfl, rfl, _, rfl, ?_⟩
    by_cases pos : 0 < m
    · rw [decide_eq_true pos]
      have len := B.len
      have sp0 := B.sp
      refine iteT ⟨_, rfl, _, rfl, _, rfl, _, _, rfl, rfl, sz (by show 2 ≤ 1000; decide), fun t2 ht2 => ?_⟩
      have s2 := same_new (o := .tup [.int m, .int (spare - m)]) ht2
      have S2 := S1.new (o := .tup [.int m, .int (spare - m)]) ht2
      have T2 : upd H1 t2 (.tup [.int m, .int (spare - m)]) t2 = some (.tup [.int m, .int (spare - m)]) := upd_same
      have K2 : KF F a d g H1 (upd H1 t2 (.tup [.int m, .int (spare - m)])) := fun x o _ _ _ _ h => s2 x o h
      generalize upd H1 t2 (.tup [.int m, .int (spare - m)]) = H2 at s2 S2 T2 K2 ⊢
      refine ⟨t2, _, rfl, SqT.of T2, rfl, _, _, rfl, ⟨_, rfl, _, rfl, F, _, rfl, dput_pairs (s2 _ _ F1) (by omega), _, _, rfl, rfl, ?_⟩⟩
      have bd : -(10 ^ 30) ≤ place ∧ place ≤ 10 ^ 30 := by
        have := e30
        constructor <;> omega
      exact hN _ (putI fs place m) (spare - m) _ (S2.upd f1 f2 f3) ((q1.kf.trans K2).trans kf_upd) upd_same ((upd_ne (fun e => fa e.symm)).trans (s2 _ _ A1)) (B.put new pos m1 m2 bd)
    · rw [decide_eq_false pos]
      exact iteF (hN _ fs spare _ S1 q1.kf F1 A1 B)
end SR
set_option Elab.async false
set_option linter.all false
set_option maxRecDepth 100000
set_option maxHeartbeats 4000000
namespace SR
open PySem PySem.Spec PyProof.Rows L2
theorem perm_sum {l m : List Int} (h : l.Perm m) : l.sum = m.sum := by
  induction h with
  | nil => rfl
  | cons x _ ih => rw [List.sum_cons, List.sum_cons, ih]
  | swap x y l =>
    rw [List.sum_cons, List.sum_cons, List.sum_cons, List.sum_cons]
    omega
  | trans _ _ h1 h2 => exact h1.trans h2
def spBoxes (K : PySem.W.Frag) : Sp := fun vs H Q _ => ∃ (d g c : Addr) (b : Nat) (a : Addr) (n : Int) (ks : List (Int × Int)), vs = [.ref d, .ref a, .int n] ∧ StB H d g c (b + 40) ∧ a ≠ d ∧ a ≠ g ∧ a ≠ c ∧ H a = some (.dK (kvsOf ks)) ∧ (ks.map Prod.fst).Nodup ∧ (∀ p ∈ ks, sizeOk p) ∧ ks.length ≤ 6 ∧ 0 ≤ n ∧ n ≤ 40 ∧
  ∀ r H' ps, StB H' d g c b → Kp d g H H' → r ≠ d → r ≠ g → r ≠ c → H r = none → H' r = some (.dK (kvsOf ps)) → Asc ps → (∀ p ∈ ps, 1 ≤ p.2 ∧ p.2 ≤ cap ks p.1) → (∀ p ∈ ps, -(10 ^ 30) ≤ p.1 ∧ p.1 ≤ 10 ^ 30) → (ps.map Prod.snd).sum ≤ n → Q (.ref r) H'
def t_boxes (K : PySem.W.Frag) : TS := tSeq (tAsg (tTup (tCons (tCall (spPick K) [] E0 (tCons (tVar 0) (tCons (tLst (tCons (tC (.int 0)) (tCons (tC (.int 0)) (tCons (tUn (rU fun i => .int (-i)) (tC (.int 2))) (tCons (tUn (rU fun i => .int (-i)) (tC (.int 9))) (tCons (tC (.int 30)) (tCons (tOp qPow (tC (.int 10)) (tC (.int 29))) (tCons (tUn (rU fun i => .int (-i)) (tOp qPow (tC (.int 10)) (tC (.int 29)))) (tNil))))))))) (tNil)))) (tCons (tDNewK) (tCons (tVar 2) (tNil))))) (gTup K 3 (gCons (gName 3) (gCons (gName 4) (gCons (gName 5) (gNil))))))
  (tSeq (tFor (iRng1 (tCons (tCall spTake [] E0 (tCons (tVar 0) (tCons (tC (.int 6)) (tNil)))) (tNil))) (gName 6) (t_bxOut K))
  (tSeq (tLock (tFor (iKeys (tVar 1)) (gName 3) (t_bxKey K)))
  (tRet (t_sorted K 4 3))))
theorem pure_boxes {K : PySem.W.Frag} (vs : List V) (H : Hp) (Q : VK) (E : XK) (h : spBoxes K vs H Q E) : t_boxes K { nx := fun _ H' => Q .non H', rt := Q } (start ["state", "sizes", "most", "place", "found", "spare", "turn", "step", "amount"] vs) H := by
  obtain ⟨d, g, c, b, a, n, ks, rfl, S, a1, a2, a3, hA, hkd, hk, hkl, n0, n40, q⟩ := h
  have E29 : (10 : Int) ^ (29 : Int).toNat = 100000000000000000000000000000 := e29
  refine ⟨_, rfl, 2, rfl, 9, rfl, 10, 29, rfl, rfl, ⟨by decide, by decide, by decide⟩, 10, 29, rfl, rfl, ⟨by decide, by decide, by decide⟩, _, rfl, sz (by show 7 ≤ 1000; decide), fun l hl => ?_⟩
  obtain ⟨l1, l2, l3⟩ := S.off hl
  refine ⟨d, g, c, b + 39, l, _, rfl, S.new hl, SqL.of upd_same, l1, l2, by show 0 < 7; decide, by show 7 < 1000; decide, fun v H1 hv S1 q1 => ?_⟩
  obtain ⟨pl, rfl, pl1, pl2⟩ : ∃ m : Int, v = .int m ∧ -100000000000000000000000000000 ≤ m ∧ m ≤ 100000000000000000000000000000 := by
    simp only [List.mem_cons, List.not_mem_nil, or_false] at hv
    rcases hv with rfl | rfl | rfl | rfl | rfl | rfl | rfl
    · exact ⟨0, rfl, by decide, by decide⟩
    · exact ⟨0, rfl, by decide, by decide⟩
    · exact ⟨_, rfl, by decide, by decide⟩
    · exact ⟨_, rfl, by decide, by decide⟩
    · exact ⟨30, rfl, by decide, by decide⟩
    · exact ⟨_, rfl, by rw [E29]; decide, by rw [E29]; decide⟩
    · exact ⟨_, rfl, by rw [E29]; decide, by rw [E29]; decide⟩
  clear hv
  have k1 : Kp d g H H1 := (Kp.new hl).trans q1
  intro F hF
  obtain ⟨f1, f2, f3⟩ := S1.off hF
  have A1 := k1 _ _ a1 a2 hA
  have fa : F ≠ a := fun e => by
    rw [e, A1] at hF
    cases hF
  have hF0 : H F = none := by
    cases e : H F with
    | none => rfl
    | some o =>
      have := k1 F o f1 f2 e
      rw [hF] at this
      cases this
  have S2 := S1.new (o := .dK []) hF
  have D2 : upd H1 F (.dK []) F = some (.dK (kvsOf [])) := upd_same
  have A2 : upd H1 F (.dK []) a = some (.dK (kvsOf ks)) := (upd_ne fa.symm).trans A1
  have K2 : KF F a d g H (upd H1 F (.dK [])) := k1.kf.trans kf_upd
  generalize upd H1 F (.dK []) = H2 at S2 D2 A2 K2 ⊢
  refine ⟨_, rfl, sz (by show 3 ≤ 1000; decide), fun t ht => ?_⟩
  have s3 := same_new (o := .tup [.int pl, .ref F, .int n]) ht
  have T3 : upd H2 t (.tup [.int pl, .ref F, .int n]) t = some (.tup [.int pl, .ref F, .int n]) := upd_same
  have S3 := S2.new (o := .tup [.int pl, .ref F, .int n]) ht
  generalize upd H2 t (.tup [.int pl, .ref F, .int n]) = H3 at s3 T3 S3 ⊢
  have K3 : KF F a d g H H3 := K2.trans fun x o _ _ _ _ h => s3 x o h
  refine ⟨t, _, rfl, SqT.of T3, rfl, _, _, rfl, _, _, rfl, _, _, rfl, rfl, ?_⟩
  refine ⟨_, rfl, d, g, c, b + 38, 6, rfl, S3, by decide, by decide, fun u H4 u0 u1 S4 q4 => ⟨u, rfl, by omega, by omega, ?_⟩⟩
  have B0 : Bx n ks [] n := ⟨List.nodup_nil, (fun p m => nomatch m), by show 0 + n = n; omega, n0, (fun p m => nomatch m)⟩
  have bd0 : -(10 ^ 29) ≤ pl ∧ pl ≤ 10 ^ 29 + (((0 : Nat) : Int)) * 20000000000000000000000000000 := by
    have := e29
    constructor <;> omega
  refine for_range (lo := 0) (n := u.toNat) (fun i σ H5 => StB H5 d g c (b + 38 - 6 * i) ∧ KF F a d g H H5 ∧ ∃ gs sp pl u6 u7 u8, H5 F = some (.dK (kvsOf gs)) ∧ H5 a = some (.dK (kvsOf ks)) ∧ Bx n ks gs sp ∧ (∀ p ∈ gs, p.1 < pl) ∧ (-(10 ^ 29) ≤ pl ∧ pl ≤ 10 ^ 29 + (i : Int) * 20000000000000000000000000000) ∧ σ = [some (.ref d), some (.ref a), some (.int n), some (.int pl), some (.ref F), some (.int sp), u6, u7, u8])
    ⟨S4, K3.trans q4.kf, [], n, pl, none, none, none, q4 _ _ f1 f2 (s3 _ _ D2), q4 _ _ a1 a2 (s3 _ _ A2), B0, (fun p m => nomatch m), bd0, rfl⟩ ?_ ?_
  · rintro i σ H5 hi ⟨S5, K5, gs, sp, pl5, u6, u7, u8, F5, A5, B5, lt5, bd5, rfl⟩
    have hb : b + 38 - 6 * i = (b + 38 - 6 * (i + 1)) + 6 := by omega
    rw [hb] at S5
    show t_bxOut K _ [some (.ref d), some (.ref a), some (.int n), some (.int pl5), some (.ref F), some (.int sp), some (.int (0 + i)), u7, u8] H5
    refine bx_out (i := (i : Int)) S5 F5 A5 f1 f2 f3 fa a1 a2 hk B5 n40 lt5 (by omega) (by omega) bd5 fun H6 hs sp6 pl6 v7 v8 S6 K6 F6 A6 B6 lt6 bd6 => ⟨S6, K5.trans K6, hs, sp6, pl6, some (.int (0 + i)), v7, v8, F6, A6, B6, lt6, ?_, rfl⟩
    rw [show ((i + 1 : Nat) : Int) = (i : Int) + 1 by omega]
    exact bd6
  · rintro σ H5 ⟨S5, K5, gs, sp, pl5, u6, u7, u8, F5, A5, B5, lt5, bd5, rfl⟩
    have S5' : StB H5 d g c (b + 6) := S5.mono (by omega)
    clear S5
    refine ⟨a, _, A5, trivial, fun od => ?_⟩
    have S6 := S5'.upd (o := .frz od (.dK (kvsOf ks))) a1 a2 a3
    have A6 : upd H5 a (.frz od (.dK (kvsOf ks))) a = some (.frz od (.dK (kvsOf ks))) := upd_same
    have F6 : upd H5 a (.frz od (.dK (kvsOf ks))) F = some (.dK (kvsOf gs)) := (upd_ne fa).trans F5
    have K6 : KF F a d g H (upd H5 a (.frz od (.dK (kvsOf ks)))) := K5.trans kf_updA
    generalize upd H5 a (.frz od (.dK (kvsOf ks))) = H6 at S6 A6 F6 K6 ⊢
    have kl : (kvsOf ks).length = ks.length := by unfold kvsOf; rw [List.length_map]
    refine ⟨_, rfl, a, od, rfl, .inl ⟨_, A6, ?_⟩⟩
    refine for_it (walk_keys (d := a) (o := od) (kvs := kvsOf ks)) (fun i σ H7 => StB H7 d g c (b + 6 - i) ∧ KF F a d g H H7 ∧ ∃ gs sp u3 u6 u7 u8, H7 F = some (.dK (kvsOf gs)) ∧ H7 a = some (.frz od (.dK (kvsOf ks))) ∧ Bx n ks gs sp ∧ σ = [some (.ref d), some (.ref a), some (.int n), u3, some (.ref F), some (.int sp), u6, u7, u8])
      ⟨S6, K6, gs, sp, some (.int pl5), u6, u7, u8, F6, A6, B5, rfl⟩ ?_ ?_ ?_
    · rintro i σ H7 _ ⟨_, _, gs7, sp7, u3, v6, v7, v8, F7, A7, _⟩
      exact A7
    · rintro i x σ H7 H8 hi ⟨S7, K7, gs7, sp7, u3, v6, v7, v8, F7, A7, B7, rfl⟩ ⟨rfl, k, v, hkv, rfl⟩
      obtain ⟨p, hp, e⟩ : ∃ p, ks[i]? = some p ∧ ((.inl p.1, .int p.2) : Key × V) = (k, v) := by
        unfold kvsOf at hkv
        rw [List.getElem?_map] at hkv
        obtain ⟨p, h1, h2⟩ := Option.map_eq_some_iff.mp hkv
        exact ⟨p, h1, h2⟩
      cases e
      have hb : b + 6 - i = (b + 6 - (i + 1)) + 1 := by omega
      rw [hb] at S7
      show t_bxKey K _ [some (.ref d), some (.ref a), some (.int n), some (.int p.1), some (.ref F), some (.int sp7), v6, v7, v8] H8
      refine bx_key (cp := p.2) S7 F7 A7 f1 f2 f3 fa a1 a2 hk hkd (List.mem_of_getElem? hp) B7 n40 fun H9 hs sp9 w9 S9 K9 F9 A9 B9 => ⟨S9, K7.trans K9, hs, sp9, some (.int p.1), v6, v7, w9, F9, A9, B9, rfl⟩
    · rintro σ H7 ⟨S7, K7, gs7, sp7, u3, v6, v7, v8, F7, A7, B7, rfl⟩
      refine ⟨A7, ?_⟩
      have S8 := S7.upd (o := .dK (kvsOf ks)) a1 a2 a3
      have A8 : upd H7 a (.dK (kvsOf ks)) a = some (.dK (kvsOf ks)) := upd_same
      have F8 : upd H7 a (.dK (kvsOf ks)) F = some (.dK (kvsOf gs7)) := (upd_ne fa).trans F7
      have K8 : KF F a d g H (upd H7 a (.dK (kvsOf ks))) := K7.trans kf_updA
      generalize upd H7 a (.dK (kvsOf ks)) = H8 at S8 A8 F8 K8 ⊢
      have len := B7.len
      have sp0 := B7.sp
      refine sorted_dict F8 B7.nd (by omega) rfl (fun y => rfl) (fun y => rfl) (fun y => rfl) fun r H9 ps hr s9 d9 pm asc => ?_
      obtain ⟨r1, r2, r3⟩ := S8.off hr
      have kp : Kp d g H H9 := fun x o e1 e2 hx => by
        refine s9 _ _ ?_
        by_cases ea : x = a
        · subst ea
          rw [hA] at hx
          cases hx
          exact A8
        · exact K8 x o (fun e => by rw [e, hF0] at hx; cases hx) ea e1 e2 hx
      have hr0 : H r = none := by
        cases e : H r with
        | none => rfl
        | some o =>
          have z : H8 r = some o := by
            by_cases ea : r = a
            · subst ea
              rw [A8] at hr
              cases hr
            · exact K8 r o (fun w => by rw [w, hF0] at e; cases e) ea r1 r2 e
          rw [hr] at z
          cases z
      refine q r H9 ps ((StB.same s9 S8).mono (by omega)) kp r1 r2 r3 hr0 d9 asc (fun p m => B7.po p (pm.mem_iff.mp m)) (fun p m => B7.bd p (pm.mem_iff.mp m)) ?_
      have sm := B7.sm
      have : (ps.map Prod.snd).sum = (gs7.map Prod.snd).sum := perm_sum (pm.map Prod.snd)
      omega
end SR
set_option Elab.async false
set_option linter.all false
set_option maxRecDepth 100000
set_option maxHeartbeats 4000000
namespace SR
open PySem PySem.Spec PyProof.Rows L2
theorem asc_eq : ∀ {ps qs : List (Int × Int)}, Asc ps → Asc qs → ps.Perm qs → ps = qs
  | [], qs, _, _, h => (List.nil_perm.mp h).symm
  | p :: ps, [], _, _, h => absurd (List.perm_nil.mp h) (by simp)
  | p :: ps, q :: qs, h1, h2, h => by
    have a := List.pairwise_cons.mp h1
    have b := List.pairwise_cons.mp h2
    have e : p = q := by
      rcases List.mem_cons.mp (h.mem_iff.mp List.mem_cons_self) with e | m
      · exact e
      · rcases List.mem_cons.mp (h.symm.mem_iff.mp (List.mem_cons_self (a := q) (l := qs))) with e | m2
        · exact e.symm
        · have := a.1 q m2
          have := b.1 p m
          omega
    subst e
    rw [asc_eq a.2 b.2 (List.perm_cons p |>.mp h)]
theorem RowOk.perm {ps ks qs ls : List (Int × Int)} (h : RowOk ps ks) (h1 : qs.Perm ps) (h2 : ls.Perm ks) : RowOk qs ls := by
  have ce : ∀ i, cap ls i = cap ks i := fun i => by
    unfold cap
    rw [lookup_perm h2.symm h.kd]
  exact ⟨(h1.map _).nodup_iff.mpr h.nd, (h2.map _).nodup_iff.mpr h.kd, by rw [h2.length_eq]; exact h.kl, fun p m => h.ko p (h2.mem_iff.mp m), fun p m => by rw [ce]; exact h.po p (h1.mem_iff.mp m), by rw [perm_sum (h1.map _)]; exact h.sm⟩
theorem asc_nd {ps : List (Int × Int)} (h : Asc ps) : (ps.map Prod.fst).Nodup := by
  unfold List.Nodup
  rw [List.pairwise_map]
  exact h.imp fun {a b} z e => by omega
/-- a new row -/
theorem make_row {K : PySem.W.Frag} {C : Addr} {H : Hp} {l1 l2 : Addr} {ps ks : List (Int × Int)} {Q : VK} {E : XK} (hp : PairsAt K H l1 ps) (hk : PairsAt K H l2 ks) (ok : RowOk ps ks)
    (q : ∀ x H' qs ls, H x = none → Same H H' → RowAt K C H' x qs ls → qs.Perm ps → ls.Perm ks → Asc qs → Asc ls → Q (.ref x) H') :
    ∀ x dx, H x = none → H dx = none → dx ≠ x → spRowInit K C [.ref x, .ref l1, .ref l2] (upd (upd H dx (.own x)) x (.ins C dx [])) (fun v H2 => v = .non ∧ Q (.ref x) H2) E := by
  intro x dx hx hd ne
  have hx2 : upd H dx (.own x) x = none := (upd_ne ne.symm).trans hx
  have s : Same H (upd (upd H dx (.own x)) x (.ins C dx [])) := (same_new hd).trans (same_new hx2)
  refine ⟨x, l1, l2, dx, ps, ks, rfl, upd_same, hp.same s, hk.same s, ok, fun H' qs ls sb row p1 p2 a1 a2 => ⟨rfl, q x H' qs ls hx (fun b o hb => ?_) row p1 p2 a1 a2⟩⟩
  exact sb b o (ne_of_none hb hx) (s b o hb)
def spMade (K : PySem.W.Frag) (C : Addr) : Sp := fun vs H Q _ => ∃ a b ps ks, vs = [.ref a, .ref b] ∧ H a = some (.dK (kvsOf ps)) ∧ H b = some (.dK (kvsOf ks)) ∧ RowOk ps ks ∧ Asc ps ∧ Asc ks ∧ ∀ x H', H x = none → Same H H' → RowAt K C H' x ps ks → Q (.ref x) H'
def t_made (K : PySem.W.Frag) (c_Row : Addr) : TS := tRet (tMake c_Row (spRowInit K c_Row) [] E0 (tCons (LiI.tListItems (tVar 0)) (tCons (LiI.tListItems (tVar 1)) (tNil))))
theorem items_pairs {K : PySem.W.Frag} {H : Hp} {p : Addr} {ts : List Addr} {ps : List (Int × Int)} (h1 : H p = some (.lst (ts.map V.ref))) (h2 : Paired (fun (t : Addr) (q : Key × V) => H t = some (.tup [kV q.1, q.2])) ts (kvsOf ps)) : PairsAt K H p ps := by
  refine ⟨ts, .inl (SqL.of h1), ?_⟩
  clear h1
  induction ps generalizing ts with
  | nil =>
    cases h2
    exact .nil
  | cons q ps ih =>
    cases h2 with
    | cons a b => exact .cons a (ih b)
theorem pure_made {K : PySem.W.Frag} {C : Addr} (vs : List V) (H : Hp) (Q : VK) (E : XK) (h : spMade K C vs H Q E) : t_made K C { nx := fun _ H' => Q .non H', rt := Q } (start ["boxes", "sizes"] vs) H := by
  obtain ⟨a, b, ps, ks, rfl, hA, hB, ok, ap, ak, q⟩ := h
  refine ⟨_, rfl, a, _, rfl, hA, fun H1 l1 t1 s1 n1 _ _ d1 p1 => ?_⟩
  refine ⟨_, rfl, b, _, rfl, s1 _ _ hB, fun H2 l2 t2 s2 n2 _ _ d2 p2 => ?_⟩
  have q1 : PairsAt K H2 l1 ps := (items_pairs d1 p1).same s2
  have q2 : PairsAt K H2 l2 ks := items_pairs d2 p2
  refine make_row q1 q2 ok fun x H' qs ls hx s row e1 e2 b1 b2 => ?_
  have z1 := asc_eq b1 ap e1
  have z2 := asc_eq b2 ak e2
  subst z1 z2
  exact q x H' (Same.free (Same.trans s1 s2) hx) (Same.trans s1 (Same.trans s2 s)) row
end SR
set_option Elab.async false
set_option linter.all false
set_option maxRecDepth 100000
set_option maxHeartbeats 4000000
namespace SR
open PySem PySem.Spec PyProof.Rows L2
/-- a property of the class, by its promise -/
structure Prp (P : Program) (w : World) (K : PySem.W.Frag) (mg : Str → Option Value) (base : Heap) (k : Nat) (C : Addr) (f : Str) (sp : Sp) : Prop where
  ex : ∃ (p g : Addr) (fd : FuncData) (ps : List Str), Cls K C ∧ PropOf K C f p g ∧ FnOk P w K mg base CX0 k g fd ps sp ∧ Binds K fd ps []
theorem pe_pr {X : Cx} {j k : Nat} {C : Addr} {f : Str} {sp : Sp} {e : Expr} {pos : Pos} {ta : TE} (c : Prp X.prog X.w X.K X.mg X.base k C f sp) (hr : Room j X.A) (hk : k + 1 ≤ j) (he : PE X e ta) (hab : attributeBase e f X.env (eval e X.env) = eval e X.env := by rfl) :
    PE X (.Attribute e f pos) (tProp C sp [] E0 ta) := by
  obtain ⟨p, g, fd, ps, c1, c2, F, b⟩ := c.ex
  exact pe_prop he c1 c2 F (hr.mono hk) b .nil pass0 hab
end SR
set_option Elab.async false
set_option linter.all false
set_option maxRecDepth 100000
set_option maxHeartbeats 4000000
namespace SR
open PySem PySem.Spec PyProof.Rows L2
abbrev Step := Int × Int × Int × Int × Int
def stepAt (cn cp : Int → Int) (most i l : Int) : Step := (i, l, cn i, stL most l (cp i) (cn i), stC most l (cp i) (cn i))
/-- from box i on, with the load l, until it is 0 -/
inductive Walks (cn cp : Int → Int) (most : Int) : Int → Int → List Step → Prop where
  | last {i l : Int} (h : stL most l (cp i) (cn i) = 0) : Walks cn cp most i l [stepAt cn cp most i l]
  | more {i l : Int} {r : List Step} (h : stL most l (cp i) (cn i) ≠ 0) (t : Walks cn cp most (i + 1) (stL most l (cp i) (cn i)) r) : Walks cn cp most i l (stepAt cn cp most i l :: r)
theorem held_none (c k d e : Addr) : List.lookup ("held" : Str) (rowFs c k d e) = none := by
  unfold rowFs
  rw [lkNe (by decide), lkNe (by decide), lkNe (by decide), lkNe (by decide)]
  rfl
theorem capacity_none (c k d e : Addr) : List.lookup ("capacity" : Str) (rowFs c k d e) = none := by
  unfold rowFs
  rw [lkNe (by decide), lkNe (by decide), lkNe (by decide), lkNe (by decide)]
  rfl
theorem RowAt.ins {K : PySem.W.Frag} {C : Addr} {H : Hp} {x : Addr} {ps ks : List (Int × Int)} (h : RowAt K C H x ps ks) : ∃ dx fs, H x = some (.ins C dx fs) ∧ List.lookup ("held" : Str) fs = none ∧ List.lookup ("capacity" : Str) fs = none := by
  obtain ⟨dx, c, k, d, e, _, _, h1, _⟩ := h
  exact ⟨dx, _, h1, held_none c k d e, capacity_none c k d e⟩
end SR
set_option Elab.async false
set_option linter.all false
set_option maxRecDepth 100000
set_option maxHeartbeats 4000000
set_option Elab.async false
set_option linter.all false
set_option maxRecDepth 100000
set_option maxHeartbeats 4000000
set_option Elab.async false
set_option linter.all false
set_option maxRecDepth 100000
set_option maxHeartbeats 4000000
set_option Elab.async false
set_option linter.all false
set_option maxRecDepth 100000
set_option maxHeartbeats 4000000
set_option Elab.async false
set_option linter.all false
set_option maxRecDepth 100000
set_option maxHeartbeats 4000000
set_option Elab.async false
set_option linter.all false
set_option maxRecDepth 100000
set_option maxHeartbeats 4000000
namespace SR
open PySem PySem.Spec PyProof.Rows L2
def rowD (ps : List (Int × Int)) : PyData := .tuple (ps.map fun p => pr2 p.1 p.2)
theorem dp_row {K : PySem.W.Frag} {H : Hp} {c : Addr} {ts : List Addr} {ps : List (Int × Int)} (h1 : SqT K H c (ts.map V.ref)) (h2 : Paired (TupAt H) ts ps) : Dp K H (.ref c) (rowD ps) := by
  refine .tup h1 ?_
  clear h1
  induction ps generalizing ts with
  | nil =>
    cases h2
    exact .nil
  | cons p ps ih =>
    cases h2 with
    | cons a b => exact .cons (dp_pr2 a) (ih b)
/-- numbers that can be shown -/
def Small (ps : List (Int × Int)) : Prop := ∀ p ∈ ps, p.1.natAbs < 2 ^ 1900 ∧ p.2.natAbs < 2 ^ 1900
theorem row_show {ps : List (Int × Int)} (h : Small ps) : (rowD ps).showable = true := by
  show PyData.showableAll (ps.map fun p => pr2 p.1 p.2) = true
  induction ps with
  | nil => rfl
  | cons p ps ih =>
    show ((pr2 p.1 p.2).showable && PyData.showableAll (ps.map fun p => pr2 p.1 p.2)) = true
    have a := h p List.mem_cons_self
    rw [pr2_show a.1 a.2, ih fun q m => h q (List.mem_cons_of_mem _ m)]
    rfl
theorem row_depth (ps : List (Int × Int)) : (rowD ps).depth ≤ 60 := by
  have : PyData.depthAll (ps.map fun p => pr2 p.1 p.2) ≤ 1 := by
    induction ps with
    | nil => exact Nat.zero_le _
    | cons p ps ih =>
      show max (pr2 p.1 p.2).depth (PyData.depthAll (ps.map fun p => pr2 p.1 p.2)) ≤ 1
      have : (pr2 p.1 p.2).depth ≤ 1 := by simp [pr2, PyData.depth, PyData.depthAll]
      omega
  simp only [rowD, PyData.depth]
  omega
theorem row_cost (ps : List (Int × Int)) : cost (rowD ps) ≤ ps.length * 4000 + 4 := by
  have : costAll (ps.map fun p => pr2 p.1 p.2) ≤ ps.length * 4000 := by
    induction ps with
    | nil => exact Nat.le_refl _
    | cons p ps ih =>
      show cost (pr2 p.1 p.2) + 2 + costAll (ps.map fun p => pr2 p.1 p.2) ≤ _
      have : cost (pr2 p.1 p.2) = 3850 := by simp [pr2, cost, costAll]
      rw [List.length_cons]
      omega
  show costAll _ + 4 ≤ _
  omega
end SR
set_option Elab.async false
set_option linter.all false
set_option maxRecDepth 100000
set_option maxHeartbeats 4000000
namespace L2
open PySem PySem.Spec PyProof.Rows
end L2
set_option Elab.async false
set_option linter.all false
set_option maxRecDepth 100000
set_option maxHeartbeats 4000000
namespace SR
open PySem PySem.Spec PyProof.Rows L2
/-- what the class of rows says beside its fields -/
structure RowK (K : PySem.W.Frag) (C : Addr) : Prop where
  kit : PySem.W.kitOne K (.ref C) (.ref C) = some true
  ha : PySem.W.findIn K (.ref C) "__class__" = some (some (.builtin "object.__class__"))
  hg : PySem.W.specialIn K (.builtin "object.__class__") "__get__" = some (some (.builtin "getset_descriptor.__get__"))
  ht : PySem.W.takesIn K (.builtin "object.__class__") = some true
  hm : PySem.W.mroIn K C (.type "object") = some true
  ne : PySem.W.findIn K (.ref C) "__ne__" = some (some (.builtin "object.__ne__"))
def rowKB (K : PySem.W.Frag) (C : Addr) : Bool := decide (PySem.W.kitOne K (.ref C) (.ref C) = some true) && (decide (PySem.W.findIn K (.ref C) "__class__" = some (some (.builtin "object.__class__"))) &&
  (decide (PySem.W.specialIn K (.builtin "object.__class__") "__get__" = some (some (.builtin "getset_descriptor.__get__"))) && (decide (PySem.W.takesIn K (.builtin "object.__class__") = some true) &&
  (decide (PySem.W.mroIn K C (.type "object") = some true) && decide (PySem.W.findIn K (.ref C) "__ne__" = some (some (.builtin "object.__ne__")))))))
theorem rowKB_ok {K : PySem.W.Frag} {C : Addr} (h : rowKB K C = true) : RowK K C := by
  unfold rowKB at h
  simp only [Bool.and_eq_true, decide_eq_true_eq] at h
  obtain ⟨h1, h2, h3, h4, h5, h6⟩ := h
  exact ⟨h1, h2, h3, h4, h5, h6⟩
theorem lay_prs : ∀ ps : List (Int × Int), PyData.canLayAll0 (ps.map fun p => pr2 p.1 p.2) = true
  | [] => rfl
  | p :: ps => by
    show (PyData.canLay0 (pr2 p.1 p.2) && PyData.canLayAll0 (ps.map fun p => pr2 p.1 p.2)) = true
    rw [lay_prs ps]
    rfl
theorem row_shaped (ps : List (Int × Int)) : SeqAt.shaped (rowD ps) = true := by
  refine shaped_tup (lay_prs ps) ?_
  have := row_depth ps
  simp only [rowD, PyData.depth] at this
  omega
/-- two rows of the same data -/
def RowEq (K : PySem.W.Frag) (C : Addr) (a b : Addr) (H : Hp) : Prop := ∃ ps ks, RowAt K C H a ps ks ∧ RowAt K C H b ps ks
abbrev spRowEq (K : PySem.W.Frag) (C : Addr) : Sp := spEq (RowEq K C)
def t_Row_eq (K : PySem.W.Frag) (c_Row : Addr) : TS := tRet (tAndV (tCB (rIsi K) (tCons (tVar 1) (tCons (tC (.ref c_Row)) tNil))) (tAndV (tOp (rEqD K) (tFld K (tVar 0) "_contents") (tFld K (tVar 1) "_contents")) (tOp (rEqD K) (tFld K (tVar 0) "_capacities") (tFld K (tVar 1) "_capacities"))))
theorem pairsT_dp {K : PySem.W.Frag} {H : Hp} {c : Addr} {ps : List (Int × Int)} (h : PairsT H c ps) : Dp K H (.ref c) (rowD ps) := let ⟨_, h1, h2⟩ := h; dp_row h1.sq h2
theorem pure_row_eq {K : PySem.W.Frag} {C : Addr} (R : RowC K C) (Z : RowK K C) (vs : List V) (H : Hp) (Q : VK) (E : XK) (h : spRowEq K C vs H Q E) : t_Row_eq K C { nx := fun _ H' => Q .non H', rt := Q } (start ["self", "other"] vs) H := by
  obtain ⟨a, b, rfl, ⟨ps, ks, ⟨dx, c, k, d, e, ps0, ks0, h1, h2, h3, _⟩, ⟨dy, c', k', d', e', _, _, g1, g2, g3, _⟩⟩, q⟩ := h
  refine ⟨_, rfl, .ref b, .ref C, .ref C, .ref C, true, rfl, .own C, .base (.ins g1 R.cls Z.ha Z.hg Z.ht Z.hm), Z.kit, ?_⟩
  refine ⟨_, rfl, iteT ⟨_, rfl, a, C, dx, _, _, rfl, h1, R.cls, R.n1, fl1 c k d e, _, rfl, b, C, dy, _, _, rfl, g1, R.cls, R.n1, fl1 c' k' d' e', ?_⟩⟩
  refine eq_same (pairsT_dp h2) (pairsT_dp g2) (row_shaped ps) ⟨_, rfl, iteT ⟨_, rfl, a, C, dx, _, _, rfl, h1, R.cls, R.n2, fl2 c k d e, _, rfl, b, C, dy, _, _, rfl, g1, R.cls, R.n2, fl2 c' k' d' e', ?_⟩⟩
  exact eq_same (pairsT_dp h3) (pairsT_dp g3) (row_shaped ks) (q H fun _ _ z => z)
/-- rows that are asked for == and != -/
structure EqM (P : Program) (w : World) (K : PySem.W.Frag) (mg : Str → Option Value) (base : Heap) (k : Nat) (C : Addr) : Prop where
  ex : ∃ (f : Addr) (fd : FuncData) (ps : List Str), FnOk P w K mg base CX0 k f fd ps (spRowEq K C) ∧ Meth K C "__eq__" f ∧ RowK K C ∧ Binds K fd ps []
theorem RowAt.at {K : PySem.W.Frag} {C : Addr} {H : Hp} {x : Addr} {ps ks : List (Int × Int)} (h : RowAt K C H x ps ks) : ∃ dx fs, H x = some (.ins C dx fs) := let ⟨dx, c, k, d, e, _, _, h1, _⟩ := h; ⟨dx, _, h1⟩
/-- x == y of equal rows -/
def rEqR (K : PySem.W.Frag) (C : Addr) : R2 := fun x y H Q => ∃ a b ps ks, x = .ref a ∧ y = .ref b ∧ RowAt K C H a ps ks ∧ RowAt K C H b ps ks ∧ ∀ H', Same H H' → Q (.bl true) H'
theorem op_eqR {X : Cx} {j k : Nat} {C : Addr} (c : EqM X.prog X.w X.K X.mg X.base k C) (hr : Room j X.A) (hk : k + 1 ≤ j) : OpR X (compareOp .Eq) (rEqR X.K C) := by
  obtain ⟨f, fd, ps, F, m, z, b⟩ := c.ex
  intro pins s σ H x y v u Q I rx ry hq
  obtain ⟨a, a', qs, ks, rfl, rfl, h1, h2, q⟩ := hq
  obtain ⟨dx, fs, e1⟩ := h1.at
  obtain ⟨dy, gs, e2⟩ := h2.at
  exact op_eqG (rcG_ins F m.at_ m.fn b pass0) (hr.mono (Nat.le_of_succ_le hk)) pins s σ H _ _ v u Q I rx ry ⟨⟨a, a', dx, dy, fs, gs, rfl, rfl, e1, e2, qs, ks, h1, h2⟩, q⟩
end SR
set_option Elab.async false
set_option linter.all false
set_option maxRecDepth 100000
set_option maxHeartbeats 4000000
namespace L2
open PySem PySem.Spec PyProof.Rows
end L2
set_option Elab.async false
set_option linter.all false
set_option maxRecDepth 100000
set_option maxHeartbeats 4000000
namespace SR
open PySem PySem.Spec PyProof.Rows L2
section
variable {ps : List (Int × Int)} {most : Int}
def ones (r : List Int) : List (Int × Int) := r.map fun y => (y, 1)
end
end SR
set_option Elab.async false
set_option linter.all false
set_option maxRecDepth 100000
set_option maxHeartbeats 4000000
set_option Elab.async false
set_option linter.all false
set_option maxRecDepth 100000
set_option maxHeartbeats 4000000
namespace SR
open PySem PySem.Spec PyProof.Rows L2
theorem ones_fst (L : List Int) : (ones L).map Prod.fst = L := by
  unfold ones
  rw [List.map_map]
  exact List.map_id' L
theorem ones_asc {L : List Int} (h : L.Pairwise (· < ·)) : Asc (ones L) := by
  unfold Asc ones
  rw [List.pairwise_map]
  exact h
end SR
set_option Elab.async false
set_option linter.all false
set_option maxRecDepth 100000
set_option maxHeartbeats 4000000
namespace SR
open PySem PySem.Spec PyProof.Rows L2
section
variable {K : PySem.W.Frag} {H : Hp} {F : Addr} {L : List Int} {x0 x1 x2 x4 x5 x6 x7 x8 x9 : Option V} {Q : VK}
def turned (L : List Int) : List Int := (L.map fun y => -y).reverse
end
end SR
set_option Elab.async false
set_option linter.all false
set_option maxRecDepth 100000
set_option maxHeartbeats 4000000
namespace SR
open PySem PySem.Spec PyProof.Rows L2
section
variable {K : PySem.W.Frag} {C B : Addr}
/-- what is no state of draws stays -/
theorem kp_at {H H' : Hp} {d g c a : Addr} {b : Nat} {o : HO} (S : StB H d g c b) (k : Kp d g H H') (h : H a = some o) (n1 : ∀ xs, o ≠ .lst xs) (n2 : ∀ r t, o ≠ .dK (stK g c r t)) : H' a = some o := by
  obtain ⟨r, t, gs, cs, h1, h2, _⟩ := S
  refine k _ _ (fun z => ?_) (fun z => ?_) h
  · rw [z, h1] at h
    exact n2 r t (Option.some.inj h).symm
  · rw [z, h2] at h
    exact n1 _ (Option.some.inj h).symm
theorem kvs_no {ps : List (Int × Int)} (g c : Addr) (r t : Int) : HO.dK (kvsOf ps) ≠ .dK (stK g c r t) := fun z => by
  cases ps with
  | nil => cases z
  | cons p ps => cases z
theorem kp_dict {H H' : Hp} {d g c a : Addr} {b : Nat} {ps : List (Int × Int)} (S : StB H d g c b) (k : Kp d g H H') (h : H a = some (.dK (kvsOf ps))) : H' a = some (.dK (kvsOf ps)) := kp_at S k h (fun _ z => nomatch z) fun r t => kvs_no g c r t
theorem RowAt.kp {K : PySem.W.Frag} {C : Addr} {H H' : Hp} {d g c x : Addr} {b : Nat} {ps ks : List (Int × Int)} (row : RowAt K C H x ps ks) (S : StB H d g c b) (k : Kp d g H H') : RowAt K C H' x ps ks := by
  obtain ⟨dx, c0, k0, d0, e, ps0, ks0, h1, ⟨t1, h2, h3⟩, ⟨t2, h4, h5⟩, h6, h7, h8⟩ := row
  have tp : ∀ {t : Addr} {p : Int × Int}, TupAt H t p → TupAt H' t p := fun {t p} z => kp_at (o := .tup [.int p.1, .int p.2]) S k z (fun _ z => nomatch z) fun _ _ z => nomatch z
  refine ⟨dx, c0, k0, d0, e, ps0, ks0, kp_at S k h1 (fun _ z => nomatch z) (fun _ _ z => nomatch z), ⟨t1, ?_, paired_imp (fun _ _ z => tp z) h3⟩, ⟨t2, ?_, paired_imp (fun _ _ z => tp z) h5⟩, kp_dict S k h6, kp_dict S k h7, h8⟩
  · obtain ⟨o, a1, a2⟩ := h2
    exact ⟨o, kp_at S k a1 (fun _ z => nomatch z) (fun _ _ z => nomatch z), a2⟩
  · obtain ⟨o, a1, a2⟩ := h4
    exact ⟨o, kp_at S k a1 (fun _ z => nomatch z) (fun _ _ z => nomatch z), a2⟩
end
end SR
set_option Elab.async false
set_option linter.all false
set_option maxRecDepth 100000
set_option maxHeartbeats 4000000
set_option Elab.async false
set_option linter.all false
set_option maxRecDepth 100000
set_option maxHeartbeats 1000000
namespace SR
open PySem PySem.Spec PyProof.Rows L2
section
variable {K : PySem.W.Frag} {H : Hp} {A : Addr} {ts : List Addr} {acc : List (Int × Int)} {x : Int} {x0 x3 : Option V} {xs : List (Option V)}
/-- found: a list of pairs at A -/
def Blk (H : Hp) (A : Addr) (acc : List (Int × Int)) : Prop := ∃ ts : List Addr, H A = some (.lst (ts.map V.ref)) ∧ Paired (TupAt H) ts acc
end
end SR
set_option Elab.async false
set_option linter.all false
set_option maxRecDepth 100000
set_option maxHeartbeats 1000000
namespace SR
open PySem PySem.Spec PyProof.Rows L2
theorem Blk.same {H H' : Hp} {A : Addr} {acc : List (Int × Int)} (b : Blk H A acc) (s : Same H H') : Blk H' A acc := by
  obtain ⟨ts, h, pr⟩ := b
  exact ⟨ts, s _ _ h, paired_imp (fun _ _ z => s _ _ z) pr⟩
theorem Blk.sq {K : PySem.W.Frag} {H : Hp} {A : Addr} {acc : List (Int × Int)} (b : Blk H A acc) : ∃ xs, SqL K H A xs ∧ (!xs.isEmpty) = (!acc.isEmpty) := by
  obtain ⟨ts, h, pr⟩ := b
  refine ⟨_, SqL.of h, ?_⟩
  cases pr <;> rfl
end SR
set_option Elab.async false
set_option linter.all false
set_option maxRecDepth 100000
set_option maxHeartbeats 4000000
namespace SR
open PySem PySem.Spec PyProof.Rows L2
/-- what the written part says of an error class D and of its __init__ at f: the def's cell cc, its code cda -/
structure SupC (P : Program) (K : PySem.W.Frag) (D f cc cda : Addr) (scope : Scope) (fld : Str) : Prop where
  T : OexC K D
  no : PySem.W.findIn K (.ref D) fld = some none
  al : PySem.W.ks_superIn K D D "__init__" = some (some (.builtin "ValueError.__init__"))
  sb : PySem.W.subIn K (.ref D) (.type "ValueError") = some true
  me : PySem.W.mroIn K D (.ref D) = some true
  tp : PySem.W.nsIn K cStatics "thirdparty.any" = some none
  file : ∃ oc od vs osl s tf, K.lookup cda = some ⟨oc, od, .fields vs, osl⟩ ∧ vs[2]? = some (.str s tf) ∧ ((P.main.file : Str) == s) = true
  cell : ∃ oc od osl, K.lookup cc = some ⟨oc, od, .cell (some (.ref D)), osl⟩
  top : (P.main.scope.names.lookup ("super" : Str)).isSome = false
end SR
set_option Elab.async false
set_option linter.all false
set_option maxRecDepth 100000
set_option maxHeartbeats 4000000
namespace SR
open PySem PySem.Spec PyProof.Rows L2
/-- the getter of the class C's property f -/
def gAt (K : PySem.W.Frag) (C f : Str) : Addr := match PySem.W.recIn K (He.ma K (He.ga K C) f) "property" with
  | some (.ref g :: _) => g
  | _ => 0
def defAt (K : PySem.W.Frag) (g : Addr) : He.FnW := match K.lookup g with
  | some o => (match o.data with
    | .func fd => some (fd.name, fd.qualname, fd.params, fd.body, fd.scope, fd.globals, fd.closure, fd.builtins)
    | _ => none)
  | none => none
/-- a property: its class, its name, its getter -/
structure PropD where
  cls : Str
  f : Str
  d : He.DefD
def PropD.ok (K : PySem.W.Frag) (p : PropD) : Bool :=
  decide (PySem.W.findIn K (.ref (He.ga K p.cls)) p.f = some (some (.ref (He.ma K (He.ga K p.cls) p.f)))) &&
  (decide (PySem.W.specialIn K (.ref (He.ma K (He.ga K p.cls) p.f)) "__get__" = some (some (.builtin "property.__get__"))) &&
  (decide (PySem.W.takesIn K (.ref (He.ma K (He.ga K p.cls) p.f)) = some true) &&
  ((match PySem.W.recIn K (He.ma K (He.ga K p.cls) p.f) "property" with
    | some (.ref _ :: _) => true
    | _ => false) &&
  (PySem.W.keepIn K (.ref (gAt K p.cls p.f)) && (match K.lookup (gAt K p.cls p.f) with
    | some o => (match o.data with
      | .func fd => PySem.W.codeIn K fd.code p.d.qual && (He.dflB K fd.defaults [] && He.kwdB K fd.kwdefaults [])
      | _ => false)
    | none => false)))))
theorem PropD.of {K : PySem.W.Frag} {p : PropD} (e : defAt K (gAt K p.cls p.f) = p.d.val) (h : p.ok K = true) :
    PropOf K (He.ga K p.cls) p.f (He.ma K (He.ga K p.cls) p.f) (gAt K p.cls p.f) ∧ ∃ fd, FunD K p.d.name p.d.qual p.d.params p.d.body p.d.scope [] [] (gAt K p.cls p.f) fd := by
  unfold PropD.ok at h
  simp only [Bool.and_eq_true, decide_eq_true_eq] at h
  obtain ⟨h1, h2, h3, h4, h5, h6⟩ := h
  refine ⟨⟨h1, h2, h3, ?_⟩, ?_⟩
  · clear h6 h5 e
    unfold gAt
    generalize PySem.W.recIn K (He.ma K (He.ga K p.cls) p.f) "property" = r at h4 ⊢
    match r, h4 with
    | some (.ref g :: rest), _ => exact ⟨rest, rfl⟩
  · generalize gAt K p.cls p.f = g at *
    unfold defAt at e
    cases q : K.lookup g with
    | none =>
      rw [q] at h6
      cases h6
    | some o =>
      rw [q] at h6 e
      obtain ⟨oc, od, dt, osl⟩ := o
      cases dt with
      | func fd =>
        have h7 : (PySem.W.codeIn K fd.code p.d.qual && (He.dflB K fd.defaults [] && He.kwdB K fd.kwdefaults [])) = true := h6
        have e7 : (some (fd.name, fd.qualname, fd.params, fd.body, fd.scope, fd.globals, fd.closure, fd.builtins) : He.FnW) = p.d.val := e
        rw [Bool.and_eq_true, Bool.and_eq_true] at h7
        obtain ⟨b1, b2, b3⟩ := h7
        rcases fd with ⟨a1, a2, a3, a4, a5, a6, a7, a8, a9, a10, a11, a12, a13, a14, a15⟩
        unfold He.DefD.val at e7
        injection e7 with e7
        injection e7 with e1 e7
        injection e7 with e2 e7
        injection e7 with e3 e7
        injection e7 with e4 e7
        injection e7 with e5 e7
        injection e7 with e6 e7
        injection e7 with e8 e9
        dsimp only at e1 e2 e3 e4 e5 e6 e8 e9
        subst e1 e2 e3 e4 e5 e6 e8 e9
        exact ⟨_, ⟨oc, od, a8, a9, a10, a11, a12, a13, a14, osl, rfl, q, b1, He.dflB_ok b2, He.kwdB_ok b3⟩, h5⟩
      | _ => cases h6
abbrev AlP : Type := He.AlX × List He.FnW × Bool
end SR
set_option Elab.async false
set_option linter.all false
set_option maxRecDepth 100000
set_option maxHeartbeats 4000000
namespace SR
open PySem PySem.Spec PyProof.Rows L2
/-- the class's own object -/
def oexB (K : PySem.W.Frag) (C : Addr) : Bool := match K.lookup C with
  | some ⟨.type "type", _, .cls cd, sl⟩ => (match cd.mro, sl.toList with
    | .ref D :: bm, [_, _, _, _, some (.builtin n), _] => decide (D = C) && (decide (n = "ValueError.__new__") && (!cd.hasDel && (cd.hasDict && PySem.HandSPX.refsVE bm)))
    | _, _ => false)
  | _ => false
theorem oexB_ok {K : PySem.W.Frag} {C : Addr} (q : oexB K C = true) : ∃ nm qn N bs bm sn sub ab col dd k0 k1 k2 k3 k5, K.lookup C = some (excClassObj nm qn C N bs bm true sn sub ab col dd k0 k1 k2 k3 k5 "ValueError.__new__") ∧ PySem.HandSPX.refsVE bm = true := by
  unfold oexB at q
  split at q
  · rename_i dd cd sl ho
    split at q
    · rename_i C' bm k0 k1 k2 k3 n k5 hm hs
      simp only [Bool.and_eq_true, decide_eq_true_eq, Bool.not_eq_true'] at q
      obtain ⟨rfl, rfl, hdel, hdic, ht⟩ := q
      obtain ⟨nm, bs, mro, ns, qn, hd, sn, sb, ab, col, dl⟩ := cd
      dsimp only at hm hdel hdic
      subst hm hdel hdic
      have hsl : sl = #[k0, k1, k2, k3, some (.builtin "ValueError.__new__"), k5] := by
        obtain ⟨l⟩ := sl
        simp only at hs
        rw [hs]
      subst hsl
      exact ⟨nm, qn, ns, bs, bm, sn, sb, ab, col, dd, k0, k1, k2, k3, k5, ho, ht⟩
    · cases q
  · cases q
/-- an error class with one field: its name, the field, the parameter's name; its __init__; the file of the text -/
structure SupD where
  cls : Str
  fld : Str
  arg : Str
  params : Arguments
  body : List Stmt
  scope : Scope
  file : Str
abbrev SupW : Type := Option (Str × Str × Arguments × FuncBody × Scope × Addr × Addr)
def supAt (K : PySem.W.Frag) (f : Addr) : SupW := match K.lookup f with
  | some ⟨_, _, .func fd, _⟩ => some (fd.name, fd.qualname, fd.params, fd.body, fd.scope, fd.globals, fd.builtins)
  | _ => none
def SupD.f (K : PySem.W.Frag) (p : SupD) : Addr := He.ma K (He.ga K p.cls) "__init__"
def SupD.val (p : SupD) : SupW := some ("__init__", p.cls ++ ".__init__", p.params, .stmts p.body, p.scope, mainGlobals, builtinsNs)
def cellB (K : PySem.W.Frag) (C : Addr) (cl : List (Str × Addr)) (cd : Value) (file qual : Str) : Bool := match cl, cd with
  | [(n, cc)], .ref cda => decide (n = "__class__") && (PySem.W.codeIn K cd qual && ((match K.lookup cc with
      | some ⟨_, _, .cell (some (.ref D)), _⟩ => decide (D = C)
      | _ => false) && (match K.lookup cda with
      | some ⟨_, _, .fields vs, _⟩ => (match vs[2]? with
        | some (Value.str s _) => file == s
        | _ => false)
      | _ => false)))
  | _, _ => false
def SupD.ok1 (K : PySem.W.Frag) (p : SupD) (C f : Addr) : Bool :=
  oexB K C && (decide (PySem.W.findIn K (.ref C) "__setattr__" = some (some (.builtin "object.__setattr__"))) && (decide (PySem.W.subIn K (.ref C) (.type "BaseException") = some true) && (decide (PySem.W.typeIn K (.ref C) = some (.type "type")) &&
  (PySem.W.keepIn K (.ref C) && (decide (PySem.W.findIn K (.ref C) p.fld = some none) && (decide (PySem.W.ks_superIn K C C "__init__" = some (some (.builtin "ValueError.__init__"))) && (decide (PySem.W.subIn K (.ref C) (.type "ValueError") = some true) &&
  (decide (PySem.W.mroIn K C (.ref C) = some true) && (decide (PySem.W.nsIn K cStatics "thirdparty.any" = some none) && (decide (PySem.W.findIn K (.ref C) "__init__" = some (some (.ref f))) && (decide (PySem.W.typeIn K (.ref f) = some (.type "function")) && xfB K C)))))))))))
def SupD.ok2 (K : PySem.W.Frag) (p : SupD) (C f : Addr) : Bool := match K.lookup f with
  | some ⟨_, _, .func fd, _⟩ => (match fd.defaults with
    | .none => cellB K C fd.closure fd.code p.file (p.cls ++ ".__init__")
    | _ => false)
  | _ => false
/-- what the facts give -/
structure SupOf (K : PySem.W.Frag) (p : SupD) (C f : Addr) : Prop where
  xf : XfC K C
  no : PySem.W.findIn K (.ref C) p.fld = some none
  ex : OexC K C ∧ PySem.W.findIn K (.ref C) "__init__" = some (some (.ref f)) ∧ PySem.W.typeIn K (.ref f) = some (.type "function") ∧
    ∃ oc od osl kV doc pm an ct cc cda, K.lookup f = some ⟨oc, od, .func (PySem.W.ksFn "__init__" (p.cls ++ ".__init__") p.params p.body p.scope .none kV doc pm an (.ref cda) ct cc), osl⟩ ∧ PySem.W.codeIn K (.ref cda) (p.cls ++ ".__init__") = true ∧
      ∀ (P : Program), P.main.file = p.file → (P.main.scope.names.lookup ("super" : Str)).isSome = false → SupC P K C f cc cda p.scope p.fld
theorem SupD.of {K : PySem.W.Frag} {p : SupD} {C f : Addr} (e : supAt K f = p.val) (h1 : p.ok1 K C f = true) (h2 : p.ok2 K C f = true) : SupOf K p C f := by
  unfold SupD.ok1 at h1
  simp only [Bool.and_eq_true, decide_eq_true_eq] at h1
  obtain ⟨a1, a2, a3, a4, a5, a6, a7, a8, a9, a10, a11, a12, a13⟩ := h1
  have T : OexC K C := ⟨oexB_ok a1, a2, a3, a4, a5⟩
  refine ⟨xfB_ok a13, a6, T, a11, a12, ?_⟩
  unfold SupD.ok2 at h2
  unfold supAt at e
  cases q : K.lookup f with
  | none =>
    rw [q] at h2
    cases h2
  | some o =>
    obtain ⟨oc, od, dt, osl⟩ := o
    rw [q] at h2 e
    cases dt with
    | func fd =>
      obtain ⟨n1, n2, n3, n4, n5, n6, n7, n8, n9, n10, n11, n12, n13, n14, n15⟩ := fd
      have e2 : (some (n1, n2, n3, n4, n5, n6, n15) : SupW) = some (("__init__" : Str), p.cls ++ ".__init__", p.params, FuncBody.stmts p.body, p.scope, mainGlobals, builtinsNs) := e
      simp only [Option.some.injEq, Prod.mk.injEq] at e2
      obtain ⟨b1, b2, b3, b4, b5, b6, b8⟩ := e2
      subst b1 b2 b3 b4 b5 b6 b8
      cases n8 with
      | none =>
        have h3 : cellB K C n7 n13 p.file (p.cls ++ ".__init__") = true := h2
        unfold cellB at h3
        split at h3
        · rename_i n cc cda
          simp only [Bool.and_eq_true, decide_eq_true_eq] at h3
          obtain ⟨rfl, c1, c2, c3⟩ := h3
          refine ⟨oc, od, osl, n9, n10, n11, n12, n14, cc, cda, rfl, c1, fun P hf ht => ⟨T, a6, a7, a8, a9, a10, ?_, ?_, ht⟩⟩
          · split at c3
            · rename_i x1 x2 vs x4 hcda
              split at c3
              · rename_i s tf hvs
                exact ⟨_, _, vs, _, s, tf, hcda, hvs, by rw [hf]; exact c3⟩
              · cases c3
            · cases c3
          · split at c2
            · rename_i x1 x2 D x4 hcc
              have z : D = C := of_decide_eq_true c2
              subst z
              exact ⟨_, _, _, hcc⟩
            · cases c2
        · cases h3
      | _ => cases h2
    | _ => cases h2
/-- an empty tuple of the written part -/
def emptyB (K : PySem.W.Frag) (a : Addr) : Bool := match K.lookup a with
  | some ⟨.type "tuple", none, .seq its _, _⟩ => its.isEmpty
  | _ => false
theorem emptyB_ok {K : PySem.W.Frag} {a : Addr} (h : emptyB K a = true) : BareK K a [] := by
  unfold emptyB at h
  split at h
  · rename_i its n sl hk
    have e : its = #[] := Array.isEmpty_iff.mp h
    subst e
    exact ⟨_, [], n, hk, rfl, rfl, rfl, Nat.zero_le _, .nil⟩
  · cases h
abbrev AlS : Type := AlP × List SupW × Bool
def frS (n : Nat) (g : Addr → Option Obj) : PySem.W.Frag := He.frT g (cStatics :: He.asD g n)
def obsS (n : Nat) (fa : List He.Fa) (fn : List He.DefD) (pr : List PropD) (su : List SupD) (ex : PySem.W.Frag → Bool) (g : Addr → Option Obj) : AlS :=
  (((He.obsT fa fn [] (frS n g), ex (frS n g)), pr.map fun p => defAt (frS n g) (gAt (frS n g) p.cls p.f), pr.all fun p => p.ok (frS n g)),
   su.map fun p => supAt (frS n g) (p.f (frS n g)), su.all fun p => p.ok1 (frS n g) (He.ga (frS n g) p.cls) (p.f (frS n g)) && p.ok2 (frS n g) (He.ga (frS n g) p.cls) (p.f (frS n g)))
def valS (fn : List He.DefD) (pr : List PropD) (su : List SupD) (w : World) : AlS := (((He.valT fn [] w, true), pr.map fun p => p.d.val, true), su.map fun p => p.val, true)
structure SaysS (fa : List He.Fa) (fn : List He.DefD) (pr : List PropD) (su : List SupD) (ex : PySem.W.Frag → Bool) (w : World) (K : PySem.W.Frag) : Prop where
  t : He.SaysT fa fn [] w K
  more : ex K = true
  p : ∀ p ∈ pr, PropOf K (He.ga K p.cls) p.f (He.ma K (He.ga K p.cls) p.f) (gAt K p.cls p.f) ∧ ∃ fd, FunD K p.d.name p.d.qual p.d.params p.d.body p.d.scope [] [] (gAt K p.cls p.f) fd
  s : ∀ p ∈ su, SupOf K p (He.ga K p.cls) (p.f K)
theorem saysS_of {n : Nat} {fa : List He.Fa} {fn : List He.DefD} {pr : List PropD} {su : List SupD} {ex : PySem.W.Frag → Bool} {w : World} {h : Heap} (e : obsS n fa fn pr su ex h.get? = valS fn pr su w) : SaysS fa fn pr su ex w (frS n h.get?) := by
  unfold obsS at e
  generalize frS n h.get? = K at e ⊢
  have e1 : He.obsT fa fn [] K = He.valT fn [] w := congrArg (fun z : AlS => z.1.1.1) e
  have e2 : ex K = true := congrArg (fun z : AlS => z.1.1.2) e
  have e3 : (pr.map fun p => defAt K (gAt K p.cls p.f)) = pr.map fun p => p.d.val := congrArg (fun z : AlS => z.1.2.1) e
  have e4 : (pr.all fun p => p.ok K) = true := congrArg (fun z : AlS => z.1.2.2) e
  have e5 : (su.map fun p => supAt K (p.f K)) = su.map fun p => p.val := congrArg (fun z : AlS => z.2.1) e
  have e6 : (su.all fun p => p.ok1 K (He.ga K p.cls) (p.f K) && p.ok2 K (He.ga K p.cls) (p.f K)) = true := congrArg (fun z : AlS => z.2.2) e
  refine ⟨e1, e2, fun p m => PropD.of (List.map_inj_left.mp e3 p m) (List.all_eq_true.mp e4 p m), fun p m => ?_⟩
  have z := List.all_eq_true.mp e6 p m
  rw [Bool.and_eq_true] at z
  exact SupD.of (List.map_inj_left.mp e5 p m) z.1 z.2
def hookS (n : Nat) (fa : List He.Fa) (fn : List He.DefD) (pr : List PropD) (su : List SupD) (ex : PySem.W.Frag → Bool) : PySem.W.Hook where
  α := AlS
  obs := fun s => obsS n fa fn pr su ex s.heap.get?
  val := fun w => valS fn pr su w
  says := fun w h => ∃ K : PySem.W.Frag, K.In h ∧ SaysS fa fn pr su ex w K
  of := fun _ _ e => ⟨_, He.frT_in, saysS_of e⟩
  keeps := fun _ _ _ ⟨K, hK, c⟩ k => ⟨K, PySem.W.Frag.In.keeps hK k, c⟩
theorem obsS_eq {n : Nat} {fa : List He.Fa} {fn : List He.DefD} {pr : List PropD} {su : List SupD} {ex : PySem.W.Frag → Bool} {g : Addr → Option Obj} {s : Shared} (h : ∀ a, g a = s.heap.get? a) : obsS n fa fn pr su ex g = (hookS n fa fn pr su ex).obs s := by
  have e : g = s.heap.get? := funext h
  subst e
  rfl
end SR
set_option Elab.async false
set_option linter.all false
set_option maxRecDepth 100000
set_option maxHeartbeats 4000000
set_option Elab.async false
set_option linter.all false
set_option maxRecDepth 100000
set_option maxHeartbeats 4000000
set_option Elab.async false
set_option linter.all false
set_option maxRecDepth 100000
set_option maxHeartbeats 1000000
namespace SR
open PySem PySem.Spec PyProof.Rows L2
/-- the boxes that stay and the offsets, of ascending places; g pairs are gone on their left -/
def cutL : List Int → Int → List Int × List Int
  | [], _ => ([], [])
  | x :: xs, g => if xs.head? = some (x + 1) then ((x - 2 * g) :: (cutL xs g).1, (cutL xs g).2) else ((cutL xs (g + 1)).1, (x - 2 * g) :: (cutL xs (g + 1)).2)
theorem cutL_len : ∀ (L : List Int) (g : Int), (cutL L g).1.length + (cutL L g).2.length = L.length
  | [], _ => rfl
  | x :: xs, g => by
    unfold cutL
    split
    · have := cutL_len xs g
      show ((cutL xs g).1.length + 1) + (cutL xs g).2.length = xs.length + 1
      omega
    · have := cutL_len xs (g + 1)
      show (cutL xs (g + 1)).1.length + ((cutL xs (g + 1)).2.length + 1) = xs.length + 1
      omega
end SR
set_option Elab.async false
set_option linter.all false
set_option maxRecDepth 100000
set_option maxHeartbeats 1000000
namespace SR
open PySem PySem.Spec PyProof.Rows L2
def But2 (A O : Addr) (H H' : Hp) : Prop := ∀ b o, b ≠ A → b ≠ O → H b = some o → H' b = some o
theorem But2.trans {A O : Addr} {H H1 H2 : Hp} (s : But2 A O H H1) (t : But2 A O H1 H2) : But2 A O H H2 := fun b o n1 n2 h => t b o n1 n2 (s b o n1 n2 h)
theorem yes_if {σ : L2.St} {H : Hp} {A B : Hp → Prop} (h : A H) : tYes σ H fun b H1 => if b = true then A H1 else B H1 := h
theorem none_back {H H' : Hp} (s : Same H H') {a : Addr} (h : H' a = none) : H a = none := by
  cases e : H a with
  | none => rfl
  | some o => exact absurd ((s _ _ e).symm.trans h) (fun z => nomatch z)
end SR
set_option Elab.async false
set_option linter.all false
set_option maxRecDepth 100000
set_option maxHeartbeats 4000000
namespace SR
open PySem PySem.Spec PyProof.Rows L2
section
variable {ps ks : List (Int × Int)} {most : Int}
/-- qs is ps after a sweep -/
def Sw (ks : List (Int × Int)) (most : Int) (ps qs : List (Int × Int)) : Prop := ∃ ld : Int → Int, (∃ lo, ∀ i, i ≤ lo → ld i = 0) ∧ (∃ hi, ∀ i, hi ≤ i → ld i = 0) ∧ ∀ i, 0 ≤ ld i ∧ ld i ≤ most ∧ cnt qs i = stC most (ld i) (cap ks i) (cnt ps i) ∧ ld (i + 1) = stL most (ld i) (cap ks i) (cnt ps i)
theorem cnt_eq {qs : List (Int × Int)} (a : Asc ps) (b : Asc qs) (pa : ∀ p ∈ ps, 1 ≤ p.2) (pb : ∀ p ∈ qs, 1 ≤ p.2) (h : ∀ i, cnt ps i = cnt qs i) : ps = qs := by
  have sub : ∀ {xs ys : List (Int × Int)}, Asc xs → Asc ys → (∀ p ∈ xs, 1 ≤ p.2) → (∀ i, cnt xs i = cnt ys i) → ∀ p ∈ xs, p ∈ ys := fun {xs ys} ax ay px e p m => by
    have z := e p.1
    unfold cnt at z
    rw [(lookup_some (n := p.2) (asc_nd ax)).mpr m] at z
    have := px p m
    cases q : ys.lookup p.1 with
    | none =>
      rw [q] at z
      have z2 : p.2 = 0 := z
      omega
    | some n =>
      rw [q] at z
      have z2 : p.2 = n := z
      have := (lookup_some (asc_nd ay)).mp q
      rw [← z2] at this
      exact this
  have nx : ps.Nodup := a.imp fun {x y} z e => by rw [e] at z; omega
  have ny : qs.Nodup := b.imp fun {x y} z e => by rw [e] at z; omega
  exact asc_eq a b ((List.perm_ext_iff_of_nodup nx ny).mpr fun p => ⟨sub a b pa h p, sub b a pb (fun i => (h i).symm) p⟩)
end
end SR
set_option Elab.async false
set_option linter.all false
set_option maxRecDepth 100000
set_option maxHeartbeats 4000000
namespace SR
open PySem PySem.Spec PyProof.Rows L2
/-- valid rows -/
structure Vd (ps ks : List (Int × Int)) : Prop where
  ok : RowOk ps ks
  ap : Asc ps
  ak : Asc ks
section
variable {ks ps qs rs qs' rs' : List (Int × Int)} {c d : Int}
theorem up_from {P : Int → Prop} (lo : Int) (h0 : P lo) (h : ∀ i, lo ≤ i → P i → P (i + 1)) : ∀ i, lo ≤ i → P i := by
  have key : ∀ n : Nat, P (lo + n) := by
    intro n
    induction n with
    | zero => simpa using h0
    | succ n ih =>
      have := h (lo + n) (by omega) ih
      rw [show lo + ((n + 1 : Nat) : Int) = lo + n + 1 by omega]
      exact this
  intro i hi
  have := key (i - lo).toNat
  rw [show lo + ((i - lo).toNat : Int) = i by omega] at this
  exact this
theorem down_from {P : Int → Prop} (hi : Int) (h0 : P hi) (h : ∀ i, i < hi → P (i + 1) → P i) : ∀ i, i ≤ hi → P i := by
  have key : ∀ n : Nat, P (hi - n) := by
    intro n
    induction n with
    | zero => simpa using h0
    | succ n ih =>
      refine h _ (by omega) ?_
      rw [show hi - ((n + 1 : Nat) : Int) + 1 = hi - n by omega]
      exact ih
  intro i le
  have := key (hi - i).toNat
  rw [show hi - ((hi - i).toNat : Int) = i by omega] at this
  exact this
end
/-- valid rows with these wide boxes -/
abbrev Rws (ks : List (Int × Int)) : Type := { ps : List (Int × Int) // Vd ps ks }
section
variable {ks : List (Int × Int)}
def total (ps : List (Int × Int)) : Int := (ps.map Prod.snd).sum
/-- one sweep, or one inverse sweep -/
def Tn (c : Int) (back : Bool) (p q : Rws ks) : Prop := if back = true then Sw ks c q.1 p.1 else Sw ks c p.1 q.1
open Classical in
/-- the row behind a sweep, or an inverse one -/
noncomputable def Fn (s : Int × Bool) (p : Rws ks) : Rws ks := if h : ∃ q, Tn s.1 s.2 p q then Classical.choose h else p
end
end SR
namespace SR
section
variable {ks : List (Int × Int)}
/-- the row behind some sweeps -/
noncomputable def FnL (some : List (Int × Bool)) (p : Rws ks) : Rws ks := some.foldl (fun p s => Fn s p) p
end
end SR
set_option Elab.async false
set_option linter.all false
set_option maxRecDepth 100000
set_option maxHeartbeats 4000000
set_option Elab.async false
set_option linter.all false
set_option maxRecDepth 100000
set_option maxHeartbeats 4000000
set_option Elab.async false
set_option linter.all false
set_option maxRecDepth 100000
set_option maxHeartbeats 4000000
set_option Elab.async false
set_option linter.all false
set_option maxRecDepth 100000
set_option maxHeartbeats 4000000
set_option Elab.async false
set_option linter.all false
set_option maxRecDepth 100000
set_option maxHeartbeats 4000000
namespace SR
open PySem PySem.Spec PyProof.Rows L2
/-- a tuple of plain values -/
def Flat (H : Hp) (t : Addr) : Prop := ∃ xs ds, H t = some (.tup xs) ∧ (∀ (K : PySem.W.Frag) (H' : Hp), DpAll K H' xs ds) ∧ PyData.canLayAll0 ds = true ∧ PyData.depthAll ds ≤ 10
theorem Flat.kp {H H' : Hp} {d g c t : Addr} {b : Nat} (f : Flat H t) (S : StB H d g c b) (k : Kp d g H H') : Flat H' t := let ⟨xs, ds, h1, h2⟩ := f; ⟨xs, ds, kp_at S k h1 (fun _ z => nomatch z) (fun _ _ z => nomatch z), h2⟩
theorem Flat.same {H H' : Hp} {t : Addr} (f : Flat H t) (s : Same H H') : Flat H' t := let ⟨xs, ds, h1, h2⟩ := f; ⟨xs, ds, s _ _ h1, h2⟩
end SR
set_option Elab.async false
set_option linter.all false
set_option maxRecDepth 100000
set_option maxHeartbeats 4000000
set_option Elab.async false
set_option linter.all false
set_option maxRecDepth 100000
set_option maxHeartbeats 4000000
set_option Elab.async false
set_option linter.all false
set_option maxRecDepth 100000
set_option maxHeartbeats 4000000
set_option Elab.async false
set_option linter.all false
set_option maxRecDepth 100000
set_option maxHeartbeats 4000000
set_option Elab.async false
set_option linter.all false
set_option maxRecDepth 100000
set_option maxHeartbeats 4000000
namespace L2
open PySem PySem.Spec PyProof.Rows
end L2
set_option Elab.async false
set_option linter.all false
set_option maxRecDepth 100000
set_option maxHeartbeats 1000000
set_option Elab.async false
set_option linter.all false
set_option maxRecDepth 100000
set_option maxHeartbeats 4000000
set_option Elab.async false
set_option linter.all false
set_option maxRecDepth 100000
set_option maxHeartbeats 2000000
set_option Elab.async false
set_option linter.all false
set_option maxRecDepth 100000
set_option maxHeartbeats 1000000
set_option Elab.async false
set_option linter.all false
set_option maxRecDepth 100000
set_option maxHeartbeats 1000000
namespace SR
open PySem PySem.Spec PyProof.Rows L2
def dropL (L : List Int) (p : Int) : List Int := L.filter fun y => decide (p ≤ y)
end SR
set_option Elab.async false
set_option linter.all false
set_option maxRecDepth 100000
set_option maxHeartbeats 1000000
namespace SR
open PySem PySem.Spec PyProof.Rows L2
abbrev qAddS : R2 := fun x y H Q => ∃ i j, x = V.str i ∧ y = V.str j ∧ i.length + j.length ≤ sizeLine ∧ Q (.str (i ++ j)) H
end SR
set_option Elab.async false
set_option linter.all false
set_option maxRecDepth 100000
set_option maxHeartbeats 1000000
namespace SR
open PySem PySem.Spec PyProof.Rows L2
section
variable {K : PySem.W.Frag} {H0 : Hp} {l F O : Addr} {L : List Int} {first : Int} {n : Nat}
/-- behind at signs of the word -/
structure Wlk (H0 : Hp) (F O : Addr) (L : List Int) (first : Int) (n : Nat) (at_ g : Nat) (f o : List Int) (H : Hp) : Prop where
  le : at_ ≤ n
  b : But2 F O H0 H
  hf : H F = some (.lst (f.map V.int))
  ho : H O = some (.lst (o.map V.int))
  e : (f ++ (cutL (dropL L (first + (at_ : Int))) (g : Int)).1, o ++ (cutL (dropL L (first + (at_ : Int))) (g : Int)).2) = cutL L 0
theorem Wlk.len {H : Hp} {at_ g : Nat} {f o : List Int} (w : Wlk H0 F O L first n at_ g f o H) : f.length + o.length ≤ L.length := by
  have h := cutL_len L 0
  have h1 : (cutL L 0).1 = f ++ (cutL (dropL L (first + (at_ : Int))) (g : Int)).1 := by rw [← w.e]
  have h2 : (cutL L 0).2 = o ++ (cutL (dropL L (first + (at_ : Int))) (g : Int)).2 := by rw [← w.e]
  rw [h1, h2, List.length_append, List.length_append] at h
  omega
end
end SR
set_option Elab.async false
set_option linter.all false
set_option maxRecDepth 100000
set_option maxHeartbeats 1000000
namespace SR
open PySem PySem.Spec PyProof.Rows L2
theorem cutL_cons (x : Int) (xs : List Int) (g : Int) : cutL (x :: xs) g = if xs.head? = some (x + 1) then ((x - 2 * g) :: (cutL xs g).1, (cutL xs g).2) else ((cutL xs (g + 1)).1, (x - 2 * g) :: (cutL xs (g + 1)).2) := rfl
end SR
set_option Elab.async false
set_option linter.all false
set_option maxRecDepth 100000
set_option maxHeartbeats 1000000
namespace SR
def pos : List Bool → Int → List Int
  | [], _ => []
  | true :: bs, p => p :: pos bs (p + 1)
  | false :: bs, p => pos bs (p + 1)
theorem pos_ge : ∀ (bs : List Bool) (p : Int), ∀ y ∈ pos bs p, p ≤ y
  | [], _ => fun _ m => nomatch m
  | true :: bs, p => fun y m => by
    rcases List.mem_cons.mp m with rfl | m
    · exact Int.le_refl _
    · have := pos_ge bs (p + 1) y m
      omega
  | false :: bs, p => fun y m => by
    have := pos_ge bs (p + 1) y m
    omega
theorem pos_asc : ∀ (bs : List Bool) (p : Int), (pos bs p).Pairwise (· < ·)
  | [], _ => .nil
  | true :: bs, p => .cons (fun y m => by have := pos_ge bs (p + 1) y m; omega) (pos_asc bs (p + 1))
  | false :: bs, p => pos_asc bs (p + 1)
theorem pos_false (k : Nat) : ∀ p : Int, pos (List.replicate k false) p = [] := by
  induction k with
  | zero => exact fun _ => rfl
  | succ k ih => exact fun p => ih (p + 1)
theorem pos_app (k : Nat) : ∀ (bs : List Bool) (p : Int), pos (bs ++ List.replicate k false) p = pos bs p
  | [], p => pos_false k p
  | true :: bs, p => congrArg (p :: ·) (pos_app k bs (p + 1))
  | false :: bs, p => pos_app k bs (p + 1)
theorem pos_pre (bs : List Bool) (k : Nat) : ∀ p : Int, pos (List.replicate k false ++ bs) p = pos bs (p + k) := by
  induction k with
  | zero => exact fun p => by simp
  | succ k ih =>
    intro p
    show pos (List.replicate k false ++ bs) (p + 1) = _
    rw [ih, show p + 1 + (k : Int) = p + ((k + 1 : Nat) : Int) by omega]
theorem pos_shift (a : Int) : ∀ (bs : List Bool) (p : Int), pos bs (p + a) = (pos bs p).map (· + a)
  | [], _ => rfl
  | true :: bs, p => by
    show (p + a) :: pos bs (p + a + 1) = (p + a) :: (pos bs (p + 1)).map (· + a)
    rw [← pos_shift a bs (p + 1), show p + a + 1 = p + 1 + a by omega]
  | false :: bs, p => by
    show pos bs (p + a + 1) = (pos bs (p + 1)).map (· + a)
    rw [← pos_shift a bs (p + 1), show p + a + 1 = p + 1 + a by omega]
theorem bw_app : ∀ (a b : List Lx), bw (a ++ b) = bw a ++ bw b
  | [], _ => rfl
  | .z :: a, b => congrArg (false :: ·) (bw_app a b)
  | .o :: a, b => congrArg (true :: ·) (bw_app a b)
  | .m :: a, b => congrArg (true :: false :: ·) (bw_app a b)
theorem bk_app : ∀ (a b : List Lx), bk (a ++ b) = bk a ++ bk b
  | [], _ => rfl
  | .z :: a, b => congrArg (false :: ·) (bk_app a b)
  | .o :: a, b => congrArg (true :: ·) (bk_app a b)
  | .m :: a, b => bk_app a b
theorem bw_zs (k : Nat) : bw (zs k) = List.replicate k false := by
  induction k with
  | zero => rfl
  | succ k ih => rw [zs_succ, List.replicate_succ, ← ih]; rfl
theorem hd_pos : ∀ (w : List Lx) (p : Int), hdB w = true → (pos (bw w) p).head? = some p
  | .o :: _, _, _ => rfl
  | .m :: _, _, _ => rfl
theorem hdB_app {w : List Lx} (v : List Lx) (h : hdB w = true) : hdB (w ++ v) = true := by
  cases w with
  | nil => cases h
  | cons l w => cases l <;> first | exact h | rfl
theorem gd_zs (k : Nat) : gdB (zs k) = true := by
  induction k with
  | zero => rfl
  | succ k ih => exact ih
theorem gd_app (k : Nat) : ∀ {w : List Lx}, gdB w = true → gdB (w ++ zs k) = true
  | [], _ => gd_zs k
  | .z :: w, h => gd_app k (w := w) h
  | .m :: w, h => gd_app k (w := w) h
  | .o :: w, h => by
    have h : (hdB w && gdB w) = true := h
    rw [Bool.and_eq_true] at h
    show (hdB (w ++ zs k) && gdB (w ++ zs k)) = true
    rw [hdB_app _ h.1, gd_app k h.2]
    rfl
theorem gd_pre (k : Nat) (w : List Lx) : gdB (zs k ++ w) = gdB w := by
  induction k with
  | zero => rfl
  | succ k ih => exact ih
/-- a cut of a word's places -/
theorem cut_word : ∀ (w : List Lx) (p g : Int), gdB w = true → cutL (pos (bw w) p) g = (pos (bk w) (p - 2 * g), marks w (p - 2 * g))
  | [], _, _, _ => rfl
  | .z :: w, p, g, h => by
    show cutL (pos (bw w) (p + 1)) g = (pos (bk w) (p - 2 * g + 1), marks w (p - 2 * g + 1))
    rw [cut_word w (p + 1) g h, show p + 1 - 2 * g = p - 2 * g + 1 by omega]
  | .o :: w, p, g, h => by
    have h : (hdB w && gdB w) = true := h
    rw [Bool.and_eq_true] at h
    show cutL (p :: pos (bw w) (p + 1)) g = ((p - 2 * g) :: pos (bk w) (p - 2 * g + 1), marks w (p - 2 * g + 1))
    rw [cutL_cons, if_pos (hd_pos w (p + 1) h.1), cut_word w (p + 1) g h.2, show p + 1 - 2 * g = p - 2 * g + 1 by omega]
  | .m :: w, p, g, h => by
    show cutL (p :: pos (bw w) (p + 1 + 1)) g = (pos (bk w) (p - 2 * g), (p - 2 * g) :: marks w (p - 2 * g))
    rw [cutL_cons, if_neg (fun z => ?_), cut_word w (p + 1 + 1) (g + 1) h, show p + 1 + 1 - 2 * (g + 1) = p - 2 * g by omega]
    have m := List.mem_of_mem_head? (Option.mem_def.mpr z)
    have := pos_ge _ _ _ m
    omega
/-- every row has a word -/
theorem word_ex : ∀ (L : List Int) (p : Int), L.Pairwise (· < ·) → (∀ y ∈ L, p ≤ y) → ∃ w, gdB w = true ∧ pos (bw w) p = L ∧ (L.head? = some p → hdB w = true)
  | [], p, _, _ => ⟨[], rfl, rfl, fun z => nomatch z⟩
  | x :: xs, p, a, h => by
    have px := h x List.mem_cons_self
    obtain ⟨a1, a2⟩ := List.pairwise_cons.mp a
    by_cases c : xs.head? = some (x + 1)
    · obtain ⟨w, g, e, hd⟩ := word_ex xs (x + 1) a2 fun y m => by have := a1 y m; omega
      refine ⟨zs (x - p).toNat ++ .o :: w, ?_, ?_, fun z => ?_⟩
      · rw [gd_pre]
        show (hdB w && gdB w) = true
        rw [hd c, g]
        rfl
      · rw [bw_app, bw_zs, pos_pre]
        show (p + ((x - p).toNat : Int)) :: pos (bw w) (p + ((x - p).toNat : Int) + 1) = _
        rw [show p + ((x - p).toNat : Int) = x by omega, e]
      · have : x = p := Option.some.inj z
        rw [show (x - p).toNat = 0 by omega]
        rfl
    · obtain ⟨w, g, e, hd⟩ := word_ex xs (x + 1 + 1) a2 fun y m => by
        have := a1 y m
        by_cases q : y = x + 1
        · subst q
          cases xs with
          | nil => cases m
          | cons z zs =>
            rcases List.mem_cons.mp m with q | q
            · exact absurd (by rw [q]; rfl) c
            · have h1 := (List.pairwise_cons.mp a2).1 _ q
              have h2 := a1 z List.mem_cons_self
              omega
        · omega
      refine ⟨zs (x - p).toNat ++ .m :: w, ?_, ?_, fun z => ?_⟩
      · rw [gd_pre]
        exact g
      · rw [bw_app, bw_zs, pos_pre]
        show (p + ((x - p).toNat : Int)) :: pos (bw w) (p + ((x - p).toNat : Int) + 1 + 1) = _
        rw [show p + ((x - p).toNat : Int) = x by omega, e]
      · have : x = p := Option.some.inj z
        rw [show (x - p).toNat = 0 by omega]
        rfl
/-- the places behind the runs -/
def rends : List Int → List Int
  | [] => []
  | x :: xs => if xs.head? = some (x + 1) then rends xs else (x + 1) :: rends xs
theorem rends_cons (x : Int) (xs : List Int) : rends (x :: xs) = if xs.head? = some (x + 1) then rends xs else (x + 1) :: rends xs := rfl
theorem ends_pos : ∀ (bs : List Bool) (n : Int), ends false bs n = rends (pos bs n) ∧ ends true bs n = rends ((n - 1) :: pos bs n)
  | [], n => ⟨rfl, by
    rw [rends_cons, if_neg (fun z => nomatch z), show n - 1 + 1 = n by omega]
    rfl⟩
  | true :: bs, n => by
    have h := (ends_pos bs (n + 1)).2
    rw [show n + 1 - 1 = n by omega] at h
    refine ⟨h, ?_⟩
    rw [rends_cons, if_pos (show (pos (true :: bs) n).head? = some (n - 1 + 1) by rw [show n - 1 + 1 = n by omega]; rfl)]
    exact h
  | false :: bs, n => by
    have h := (ends_pos bs (n + 1)).1
    refine ⟨h, ?_⟩
    rw [rends_cons, if_neg (fun z => ?_)]
    · rw [show n - 1 + 1 = n by omega]
      show n :: ends false bs (n + 1) = _
      rw [h]
      rfl
    · have m := List.mem_of_mem_head? (Option.mem_def.mpr z)
      have := pos_ge bs (n + 1) _ m
      omega
theorem marks_ge : ∀ (w : List Lx) (n : Int), ∀ y ∈ marks w n, n ≤ y
  | [], _ => fun _ m => nomatch m
  | .z :: w, n => fun y m => by have := marks_ge w (n + 1) y m; omega
  | .o :: w, n => fun y m => by have := marks_ge w (n + 1) y m; omega
  | .m :: w, n => fun y m => by
    rcases List.mem_cons.mp m with rfl | m
    · exact Int.le_refl _
    · exact marks_ge w n y m
theorem marks_up : ∀ (w : List Lx) (n : Int), (marks w n).Pairwise (· ≤ ·)
  | [], _ => .nil
  | .z :: w, n => marks_up w (n + 1)
  | .o :: w, n => marks_up w (n + 1)
  | .m :: w, n => .cons (marks_ge w n) (marks_up w n)
theorem marks_shift (a : Int) : ∀ (w : List Lx) (n : Int), marks w (n + a) = (marks w n).map (· + a)
  | [], _ => rfl
  | .z :: w, n => by
    show marks w (n + a + 1) = (marks w (n + 1)).map (· + a)
    rw [← marks_shift a w (n + 1), show n + a + 1 = n + 1 + a by omega]
  | .o :: w, n => by
    show marks w (n + a + 1) = (marks w (n + 1)).map (· + a)
    rw [← marks_shift a w (n + 1), show n + a + 1 = n + 1 + a by omega]
  | .m :: w, n => by
    show (n + a) :: marks w (n + a) = (n + a) :: (marks w n).map (· + a)
    rw [← marks_shift a w n]
theorem ends_tf (bs : List Bool) (N x : Int) : (ends true bs N).count x ≤ (if N == x then 1 else 0) + (ends false bs N).count x := by
  cases bs with
  | nil =>
    show ([N] : List Int).count x ≤ _ + ([] : List Int).count x
    rw [List.count_cons]
    omega
  | cons b bs =>
    cases b with
    | true =>
      show (ends true bs (N + 1)).count x ≤ _ + (ends true bs (N + 1)).count x
      omega
    | false =>
      show (N :: ends false bs (N + 1)).count x ≤ _ + (ends false bs (N + 1)).count x
      rw [List.count_cons]
      omega
/-- behind each run of the cut row a pair was removed -/
theorem ends_le : ∀ (w : List Lx), gdB w = true → ∀ N x : Int, (ends false (bk w) N).count x ≤ (marks w N).count x ∧ (hdB w = true → (ends true (bk w) N).count x ≤ (marks w N).count x)
  | [], _, N, x => ⟨Nat.le_refl _, fun z => nomatch z⟩
  | .z :: w, h, N, x => ⟨(ends_le w h (N + 1) x).1, fun z => nomatch z⟩
  | .o :: w, h, N, x => by
    have h : (hdB w && gdB w) = true := h
    rw [Bool.and_eq_true] at h
    have := (ends_le w h.2 (N + 1) x).2 h.1
    exact ⟨this, fun _ => this⟩
  | .m :: w, h, N, x => by
    have h1 := (ends_le w h N x).1
    have h2 := ends_tf (bk w) N x
    refine ⟨?_, fun _ => ?_⟩
    · show (ends false (bk w) N).count x ≤ (N :: marks w N).count x
      rw [List.count_cons]
      omega
    · show (ends true (bk w) N).count x ≤ (N :: marks w N).count x
      rw [List.count_cons]
      omega
/-- the list without the items of another one -/
def less (B E : List Int) : List Int := E.foldl List.erase B
theorem less_count (x : Int) : ∀ (E B : List Int), (less B E).count x = B.count x - E.count x
  | [], B => rfl
  | e :: E, B => by
    show (less (B.erase e) E).count x = _
    rw [less_count x E, List.count_erase, List.count_cons]
    omega
theorem less_sub : ∀ (E B : List Int), (less B E).Sublist B
  | [], B => List.Sublist.refl B
  | e :: E, B => (less_sub E (B.erase e)).trans List.erase_sublist
/-- the offsets of the trains of length 1 -/
def ofs (L : List Int) : List Int := less (cutL L 0).2 (rends (cutL L 0).1)
theorem up_eq : ∀ {a b : List Int}, a.Pairwise (· ≤ ·) → b.Pairwise (· ≤ ·) → (∀ x, a.count x = b.count x) → a = b
  | [], [], _, _, _ => rfl
  | [], y :: b, _, _, h => by
    have := h y
    rw [List.count_cons_self] at this
    cases this
  | x :: a, [], _, _, h => by
    have := h x
    rw [List.count_cons_self] at this
    cases this
  | x :: a, y :: b, ha, hb, h => by
    obtain ⟨a1, a2⟩ := List.pairwise_cons.mp ha
    obtain ⟨b1, b2⟩ := List.pairwise_cons.mp hb
    have mx : x ∈ y :: b := List.count_pos_iff.mp (by rw [← h x, List.count_cons_self]; exact Nat.succ_pos _)
    have my : y ∈ x :: a := List.count_pos_iff.mp (by rw [h y, List.count_cons_self]; exact Nat.succ_pos _)
    have e : x = y := by
      rcases List.mem_cons.mp mx with q | q
      · exact q
      · rcases List.mem_cons.mp my with r | r
        · exact r.symm
        · have h1 := b1 x q
          have h2 := a1 y r
          omega
    subst e
    rw [up_eq a2 b2 fun z => by
      have := h z
      rw [List.count_cons, List.count_cons] at this
      omega]
end SR
set_option Elab.async false
set_option linter.all false
set_option maxRecDepth 100000
set_option maxHeartbeats 1000000
namespace SR
open PySem PySem.Spec PyProof.Rows L2
def cB (L : List Int) (i : Int) : Int := if i ∈ L then 1 else 0
theorem cnt_ones (i : Int) : ∀ L : List Int, cnt (ones L) i = cB L i
  | [] => rfl
  | x :: L => by
    have ih := cnt_ones i L
    unfold cnt cB at ih ⊢
    show (List.lookup i ((x, 1) :: ones L)).getD 0 = _
    by_cases h : i = x
    · subst h
      rw [List.lookup_cons_self, if_pos List.mem_cons_self]
      rfl
    · have : (i == x) = false := by simpa using h
      rw [List.lookup_cons, this]
      show ((ones L).lookup i).getD 0 = _
      rw [ih]
      by_cases m : i ∈ L
      · rw [if_pos m, if_pos (List.mem_cons_of_mem _ m)]
      · rw [if_neg m, if_neg fun z => (List.mem_cons.mp z).elim h m]
/-- the load at the end -/
def fin (c : Nat) : Nat → List Bool → Nat
  | u, [] => u
  | u, true :: bs => if u < c then fin c (u + 1) bs else fin c u bs
  | u, false :: bs => fin c (u - 1) bs
theorem fin_falses {c : Nat} : ∀ (k u : Nat), u ≤ k → fin c u (List.replicate k false) = 0
  | 0, u, h => by
    show u = 0
    omega
  | k + 1, u, h => fin_falses k (u - 1) (by omega)
theorem fin_zero {c k : Nat} : ∀ (bs : List Bool) (u : Nat), u + bs.length ≤ k → fin c u (bs ++ List.replicate k false) = 0
  | [], u, h => fin_falses k u (by simpa using h)
  | true :: bs, u, h => by
    rw [List.length_cons] at h
    show (if u < c then fin c (u + 1) (bs ++ _) else fin c u (bs ++ _)) = 0
    split
    · exact fin_zero bs (u + 1) (by omega)
    · exact fin_zero bs u (by omega)
  | false :: bs, u, h => by
    rw [List.length_cons] at h
    exact fin_zero bs (u - 1) (by omega)
theorem len_sw {c : Nat} : ∀ (bs : List Bool) (u : Nat) (p : Int), (pos (swB c u bs) p).length + fin c u bs = (pos bs p).length + u
  | [], u, p => rfl
  | true :: bs, u, p => by
    by_cases h : u < c
    · rw [swB_t h]
      show (pos (swB c (u + 1) bs) (p + 1)).length + (if u < c then fin c (u + 1) bs else fin c u bs) = (pos bs (p + 1)).length + 1 + u
      rw [if_pos h]
      have := len_sw (c := c) bs (u + 1) (p + 1)
      omega
    · rw [swB_tf h]
      show (pos (swB c u bs) (p + 1)).length + 1 + (if u < c then fin c (u + 1) bs else fin c u bs) = (pos bs (p + 1)).length + 1 + u
      rw [if_neg h]
      have := len_sw (c := c) bs u (p + 1)
      omega
  | false :: bs, u, p => by
    by_cases h : 0 < u
    · rw [swB_f h]
      show (pos (swB c (u - 1) bs) (p + 1)).length + 1 + fin c (u - 1) bs = (pos bs (p + 1)).length + u
      have := len_sw (c := c) bs (u - 1) (p + 1)
      omega
    · obtain rfl : u = 0 := by omega
      rw [swB_z]
      exact len_sw bs 0 (p + 1)
def ldB (c : Nat) : Nat → List Bool → Int → Int → Int
  | u, [], _, _ => u
  | u, true :: bs, p, i => if i ≤ p then u else ldB c (if u < c then u + 1 else u) bs (p + 1) i
  | u, false :: bs, p, i => if i ≤ p then u else ldB c (u - 1) bs (p + 1) i
theorem ldB_le {c u : Nat} {bs : List Bool} {p i : Int} (h : i ≤ p) : ldB c u bs p i = u := by
  cases bs with
  | nil => rfl
  | cons b bs => cases b <;> exact if_pos h
theorem ldB_hi {c : Nat} : ∀ (bs : List Bool) (u : Nat) (p i : Int), fin c u bs = 0 → p + bs.length ≤ i → ldB c u bs p i = 0
  | [], u, p, i, h, _ => by
    have h : u = 0 := h
    subst h
    rfl
  | true :: bs, u, p, i, h, l => by
    rw [List.length_cons] at l
    show (if i ≤ p then (u : Int) else ldB c (if u < c then u + 1 else u) bs (p + 1) i) = 0
    rw [if_neg (by omega)]
    have h : (if u < c then fin c (u + 1) bs else fin c u bs) = 0 := h
    refine ldB_hi bs _ (p + 1) i ?_ (by omega)
    split
    · rename_i z
      rw [if_pos z] at h
      exact h
    · rename_i z
      rw [if_neg z] at h
      exact h
  | false :: bs, u, p, i, h, l => by
    rw [List.length_cons] at l
    show (if i ≤ p then (u : Int) else ldB c (u - 1) bs (p + 1) i) = 0
    rw [if_neg (by omega)]
    exact ldB_hi bs (u - 1) (p + 1) i h (by omega)
theorem cB_t (bs : List Bool) (p : Int) : cB (pos (true :: bs) p) p = 1 := if_pos List.mem_cons_self
theorem cB_f (bs : List Bool) (p : Int) : cB (pos (false :: bs) p) p = 0 := if_neg fun m => by
  have := pos_ge bs (p + 1) p m
  omega
theorem cB_n (b : Bool) (bs : List Bool) {p i : Int} (h : p < i) : cB (pos (b :: bs) p) i = cB (pos bs (p + 1)) i := by
  cases b with
  | false => rfl
  | true =>
    show cB (p :: pos bs (p + 1)) i = _
    unfold cB
    by_cases m : i ∈ pos bs (p + 1)
    · rw [if_pos m, if_pos (List.mem_cons_of_mem _ m)]
    · rw [if_neg m, if_neg fun z => (List.mem_cons.mp z).elim (fun e => by omega) m]
theorem sw_at {c : Nat} (c1 : 1 ≤ c) : ∀ (bs : List Bool) (u : Nat) (p : Int), u ≤ c → fin c u bs = 0 → ∀ i, p ≤ i →
    0 ≤ ldB c u bs p i ∧ ldB c u bs p i ≤ c ∧ cB (pos (swB c u bs) p) i = stC c (ldB c u bs p i) 1 (cB (pos bs p) i) ∧ ldB c u bs p (i + 1) = stL c (ldB c u bs p i) 1 (cB (pos bs p) i)
  | [], u, p, hu, h, i, hi => by
    have h : u = 0 := h
    subst h
    refine ⟨Int.le_refl _, ?_, ?_, ?_⟩
    · show (0 : Int) ≤ c
      omega
    · show (0 : Int) = 0 - min ((c : Int) - 0) 0 + min 0 (1 - 0)
      omega
    · show (0 : Int) = 0 + min ((c : Int) - 0) 0 - min 0 (1 - 0)
      omega
  | b :: bs, u, p, hu, h, i, hi => by
    obtain ⟨u', e1, e2, e3, e4, e5⟩ : ∃ u' : Nat, u' ≤ c ∧ fin c u' bs = 0 ∧ (∀ i, p < i → ldB c u (b :: bs) p i = ldB c u' bs (p + 1) i) ∧ (∃ b', swB c u (b :: bs) = b' :: swB c u' bs ∧ cB (pos (b' :: swB c u' bs) p) p = stC c u 1 (cB (pos (b :: bs) p) p)) ∧ (u' : Int) = stL c u 1 (cB (pos (b :: bs) p) p) := by
      cases b with
      | true =>
        have h : (if u < c then fin c (u + 1) bs else fin c u bs) = 0 := h
        rw [cB_t]
        by_cases z : u < c
        · rw [if_pos z] at h
          refine ⟨u + 1, by omega, h, fun i hi => ?_, ⟨false, swB_t z, ?_⟩, ?_⟩
          · show (if i ≤ p then (u : Int) else ldB c (if u < c then u + 1 else u) bs (p + 1) i) = _
            rw [if_neg (by omega), if_pos z]
          · rw [cB_f]
            unfold stC
            omega
          · unfold stL
            omega
        · rw [if_neg z] at h
          refine ⟨u, hu, h, fun i hi => ?_, ⟨true, swB_tf z, ?_⟩, ?_⟩
          · show (if i ≤ p then (u : Int) else ldB c (if u < c then u + 1 else u) bs (p + 1) i) = _
            rw [if_neg (by omega), if_neg z]
          · rw [cB_t]
            unfold stC
            omega
          · unfold stL
            omega
      | false =>
        have h : fin c (u - 1) bs = 0 := h
        rw [cB_f]
        refine ⟨u - 1, by omega, h, fun i hi => ?_, ?_, ?_⟩
        · show (if i ≤ p then (u : Int) else ldB c (u - 1) bs (p + 1) i) = _
          rw [if_neg (by omega)]
        · by_cases z : 0 < u
          · refine ⟨true, swB_f z, ?_⟩
            rw [cB_t]
            unfold stC
            omega
          · obtain rfl : u = 0 := by omega
            refine ⟨false, swB_z, ?_⟩
            rw [cB_f]
            unfold stC
            omega
        · unfold stL
          omega
    obtain ⟨b', e4, e6⟩ := e4
    rw [e4]
    by_cases z : i = p
    · subst z
      rw [ldB_le (Int.le_refl i), e3 (i + 1) (by omega), ldB_le (Int.le_refl _), e6, ← e5]
      exact ⟨by omega, by omega, rfl, rfl⟩
    · have lt : p < i := by omega
      rw [e3 i lt, e3 (i + 1) (by omega), cB_n b' _ lt, cB_n b _ lt]
      exact sw_at c1 bs u' (p + 1) e1 e2 i (by omega)
theorem sw_bits {c : Nat} (c1 : 1 ≤ c) {bs : List Bool} {p : Int} (h : fin c 0 bs = 0) : Sw [] c (ones (pos bs p)) (ones (pos (swB c 0 bs) p)) := by
  refine ⟨ldB c 0 bs p, ⟨p, fun i hi => ldB_le hi⟩, ⟨p + bs.length, fun i hi => ldB_hi bs 0 p i h hi⟩, fun i => ?_⟩
  rw [cnt_ones, cnt_ones]
  show 0 ≤ _ ∧ _ ∧ _ = stC c _ 1 _ ∧ _ = stL c _ 1 _
  by_cases z : p ≤ i
  · exact sw_at c1 bs 0 p (Nat.zero_le c) h i z
  · have n : ∀ bs : List Bool, cB (pos bs p) i = 0 := fun bs => if_neg fun m => z (pos_ge bs p i m)
    rw [ldB_le (by omega), ldB_le (by omega), n, n]
    refine ⟨by omega, by omega, ?_, ?_⟩
    · unfold stC
      omega
    · unfold stL
      omega
theorem swB_0 : ∀ bs : List Bool, swB 0 0 bs = bs
  | [] => rfl
  | true :: bs => by rw [swB_tf (Nat.lt_irrefl 0), swB_0 bs]
  | false :: bs => by rw [swB_z, swB_0 bs]
/-- L' is L after a sweep of a carrier of the capacity c, or L if there is none -/
structure TL (c : Nat) (L L' : List Int) : Prop where
  a : L.Pairwise (· < ·)
  b : L'.Pairwise (· < ·)
  none : c = 0 → L' = L
  sw : 1 ≤ c → Sw [] c (ones L) (ones L')
theorem sw_uni {c : Int} {ks ps qs qs' : List (Int × Int)} (a : Asc qs) (b : Asc qs') (o : ∀ p ∈ qs, 1 ≤ p.2) (o' : ∀ p ∈ qs', 1 ≤ p.2) (h : Sw ks c ps qs) (h' : Sw ks c ps qs') : qs = qs' := by
  obtain ⟨l, ⟨a0, ha⟩, _, st⟩ := h
  obtain ⟨l', ⟨a', ha'⟩, _, st'⟩ := h'
  have eq : ∀ i, l i = l' i := by
    intro i
    by_cases z : i ≤ min a0 a'
    · rw [ha i (by omega), ha' i (by omega)]
    · refine up_from (P := fun i => l i = l' i) (min a0 a') (by rw [ha _ (by omega), ha' _ (by omega)]) (fun j _ e => ?_) i (by omega)
      rw [(st j).2.2.2, (st' j).2.2.2, e]
  exact cnt_eq a b o o' fun i => by rw [(st i).2.2.1, (st' i).2.2.1, eq]
theorem ones_one (L : List Int) : ∀ p ∈ ones L, 1 ≤ p.2 := fun p m => by
  obtain ⟨y, _, rfl⟩ := List.mem_map.mp m
  exact Int.le_refl 1
theorem swL_one {c : Int} {L L' L'' : List Int} (a : L'.Pairwise (· < ·)) (b : L''.Pairwise (· < ·)) (h : Sw [] c (ones L) (ones L')) (h' : Sw [] c (ones L) (ones L'')) : L' = L'' := by
  have := sw_uni (ones_asc a) (ones_asc b) (ones_one _) (ones_one _) h h'
  rw [← ones_fst L', this, ones_fst]
theorem low_ex {L : List Int} (a : L.Pairwise (· < ·)) : ∃ p, ∀ y ∈ L, p ≤ y := by
  cases L with
  | nil => exact ⟨0, fun _ m => nomatch m⟩
  | cons x xs => exact ⟨x, fun y m => by
      rcases List.mem_cons.mp m with rfl | m
      · exact Int.le_refl _
      · exact Int.le_of_lt ((List.pairwise_cons.mp a).1 y m)⟩
theorem bk_len : ∀ w : List Lx, (bk w).length ≤ w.length
  | [] => Nat.le_refl _
  | .z :: w => Nat.succ_le_succ (bk_len w)
  | .o :: w => Nat.succ_le_succ (bk_len w)
  | .m :: w => Nat.le_succ_of_le (bk_len w)
theorem bw_len : ∀ w : List Lx, (bw w).length ≤ 2 * w.length
  | [] => Nat.le_refl _
  | .z :: w => by
    have := bw_len w
    show (bw w).length + 1 ≤ 2 * (w.length + 1)
    omega
  | .o :: w => by
    have := bw_len w
    show (bw w).length + 1 ≤ 2 * (w.length + 1)
    omega
  | .m :: w => by
    have := bw_len w
    show (bw w).length + 1 + 1 ≤ 2 * (w.length + 1)
    omega
theorem ofs_word {w : List Lx} {p : Int} (g : gdB w = true) : ofs (pos (bw w) p) = less (marks w p) (ends false (bk w) p) := by
  unfold ofs
  rw [cut_word w p 0 g, show p - 2 * 0 = p by omega, (ends_pos (bk w) p).1]
theorem up_map {l : List Int} (h : l.Pairwise (· ≤ ·)) (a : Int) : (l.map (· + a)).Pairwise (· ≤ ·) := List.pairwise_map.mpr (h.imp fun {x y} z => by omega)
theorem count_add (a x : Int) : ∀ l : List Int, (l.map (· + a)).count x = l.count (x - a)
  | [] => rfl
  | y :: l => by
    rw [List.map_cons, List.count_cons, List.count_cons, count_add a x l]
    by_cases h : y = x - a
    · subst h
      rw [show x - a + a = x by omega]
      simp
    · have h1 : ((y + a) == x) = false := by
        rw [beq_eq_false_iff_ne]
        omega
      have h2 : (y == x - a) = false := by simpa using h
      rw [h1, h2]
theorem rends_shift (a : Int) : ∀ M : List Int, rends (M.map (· + a)) = (rends M).map (· + a)
  | [] => rfl
  | y :: M => by
    rw [List.map_cons, rends_cons, rends_cons, rends_shift a M]
    have hh : ((M.map (· + a)).head? = some (y + a + 1)) ↔ (M.head? = some (y + 1)) := by
      rw [List.head?_map]
      cases M.head? with
      | none => exact ⟨(fun z => nomatch z), fun z => nomatch z⟩
      | some q =>
        show some (q + a) = some (y + a + 1) ↔ _
        constructor
        · intro z
          have := Option.some.inj z
          congr 1
          omega
        · intro z
          have := Option.some.inj z
          congr 1
          omega
    by_cases z : M.head? = some (y + 1)
    · rw [if_pos z, if_pos (hh.mpr z)]
    · rw [if_neg z, if_neg fun q => z (hh.mp q), List.map_cons, show y + a + 1 = y + 1 + a by omega]
theorem cut_TL {c : Nat} (c1 : 1 ≤ c) {L L' : List Int} (h : TL c L L') : ∃ K, TL (c - 1) (cutL L 0).1 K ∧ (cutL L' 0).1 = K.map (· + 1) ∧ ofs L' = (ofs L).map (· + 1) ∧ L'.length = L.length := by
  obtain ⟨p, hp⟩ := low_ex h.a
  obtain ⟨w, g, e, _⟩ := word_ex L p h.a hp
  have k1 : 0 + w.length + 1 ≤ 2 * w.length + 1 := by omega
  obtain ⟨out, r, mk⟩ := (sim c1 (2 * w.length + 1) w g).1 0 (Nat.zero_le c) (fun z => absurd z (Nat.lt_irrefl 0)) k1
  have d0 := dec0 c1
  rw [min0, d0] at r mk
  generalize hW : w ++ zs (2 * w.length + 1) = W at r mk
  have gW : gdB W = true := by rw [← hW]; exact gd_app _ g
  have eW : pos (bw W) p = L := by
    rw [← hW, bw_app, bw_zs, pos_app]
    exact e
  have fW : fin c 0 (bw W) = 0 := by
    rw [← hW, bw_app, bw_zs]
    exact fin_zero _ 0 (by have := bw_len w; omega)
  have fK : fin (c - 1) 0 (bk W) = 0 := by
    rw [← hW, bk_app, bk_zs]
    exact fin_zero _ 0 (by have := bk_len w; omega)
  have bits : bw out = swB c 0 (bw W) := r.bits
  have eL : L' = pos (bw out) p := by
    refine swL_one h.b (pos_asc _ _) (h.sw c1) ?_
    rw [bits, ← eW]
    exact sw_bits c1 fW
  have kp : pos (bk out) p = pos (swB (c - 1) 0 (bk W)) (p + 1) := by
    have h1 := pos_app 1 (bk out) p
    have h2 : bk out ++ List.replicate 1 false = false :: swB (c - 1) 0 (bk W) := r.kept
    rw [h2] at h1
    exact h1.symm
  have cL : cutL L 0 = (pos (bk W) p, marks W p) := by
    rw [← eW, cut_word W p 0 gW, show p - 2 * 0 = p by omega]
  have cL' : cutL L' 0 = (pos (bk out) p, marks out p) := by
    rw [eL, cut_word out p 0 r.gd, show p - 2 * 0 = p by omega]
  refine ⟨pos (swB (c - 1) 0 (bk W)) p, ⟨?_, pos_asc _ _, fun z => ?_, fun z => ?_⟩, ?_, ?_, ?_⟩
  · rw [cL]
    exact pos_asc _ _
  · rw [cL, z, swB_0]
  · rw [cL]
    exact sw_bits z fK
  · rw [cL', kp, pos_shift]
  · have o1 : ofs L' = less (marks out p) (ends false (bk out) p) := by rw [eL]; exact ofs_word r.gd
    have o2 : ofs L = less (marks W p) (ends false (bk W) p) := by rw [← eW]; exact ofs_word gW
    have e1 : ends false (bk out) p = ends false (swB (c - 1) 0 (bk W)) (p + 1) := by rw [(ends_pos _ _).1, kp, ← (ends_pos _ _).1]
    rw [o1, o2]
    refine up_eq ((marks_up out p).sublist (less_sub _ _)) (up_map ((marks_up W p).sublist (less_sub _ _)) 1) fun x => ?_
    have hc := mk (p + 1) x
    have hd : decide (0 < 0) = false := rfl
    rw [hd] at hc
    simp only [cond_false] at hc
    rw [show p + 1 - 1 = p by omega] at hc
    rw [less_count, e1]
    have cm : ((less (marks W p) (ends false (bk W) p)).map (· + 1)).count x = (less (marks W p) (ends false (bk W) p)).count (x - 1) := count_add 1 x _
    rw [cm, less_count]
    have m1 : (marks W (p + 1)).count x = (marks W p).count (x - 1) := by
      rw [marks_shift]
      exact count_add 1 x _
    have m2 : (ends false (bk W) (p + 1)).count x = (ends false (bk W) p).count (x - 1) := by
      rw [(ends_pos _ _).1, (ends_pos _ _).1, pos_shift]
      rw [rends_shift]
      exact count_add 1 x _
    rw [m1, m2] at hc
    have le1 := (ends_le W gW p (x - 1)).1
    have le2 := (ends_le out r.gd p x).1
    rw [e1] at le2
    omega
  · have := len_sw (c := c) (bw W) 0 p
    rw [fW, eW, ← bits, ← eL] at this
    omega
end SR
set_option Elab.async false
set_option linter.all false
set_option maxRecDepth 100000
set_option maxHeartbeats 1000000
namespace SR
open PySem PySem.Spec PyProof.Rows L2
/-- all indexes moved -/
def mv (k : Int) (ps : List (Int × Int)) : List (Int × Int) := ps.map fun p => (p.1 + k, p.2)
def lo (i : Int) (ps : List (Int × Int)) : List (Int × Int) := ps.filter fun p => decide (p.1 ≤ i)
def hi (i : Int) (ps : List (Int × Int)) : List (Int × Int) := ps.filter fun p => decide (i < p.1)
section
variable {idx c : Int} {cs ns rest : List (Int × Int)}
open Classical in
noncomputable def fn1 (back : Bool) (idx c : Int) (ns : List (Int × Int)) : List (Int × Int) := if v : Vd ns [(idx, c)] then (Fn (c, back) (⟨ns, v⟩ : Rws [(idx, c)])).1 else []
end
end SR
set_option Elab.async false
set_option linter.all false
set_option maxRecDepth 100000
set_option maxHeartbeats 1000000
namespace SR
open PySem PySem.Spec PyProof.Rows L2
/-- the wide box at idx is shifted out | in -/
noncomputable def outBox (idx c : Int) (cs : List (Int × Int)) : List (Int × Int) := mv 1 (fn1 true idx c (lo idx cs)) ++ hi idx cs
/-- the plain form, and the row with these boxes whose plain form it is -/
noncomputable def plainF (ks cs : List (Int × Int)) : List (Int × Int) := ks.foldl (fun cs k => outBox k.1 k.2 cs) cs
end SR
set_option Elab.async false
set_option linter.all false
set_option maxRecDepth 100000
set_option maxHeartbeats 2000000
set_option Elab.async false
set_option linter.all false
set_option maxRecDepth 100000
set_option maxHeartbeats 1000000
namespace SR
open PySem PySem.Spec PyProof.Rows L2
/-- what a box is shifted out by -/
structure Ldr (cs q : List (Int × Int)) (ld : Int → Int) (w c : Int) : Prop where
  bd : ∀ i, 0 ≤ ld i ∧ ld i ≤ c
  st : ∀ i, i < w → cnt cs i = stC c (ld i) 1 (cnt q i) ∧ ld (i + 1) = stL c (ld i) 1 (cnt q i)
  q1 : ∀ i, i < w → 0 ≤ cnt q i ∧ cnt q i ≤ 1
  top : ld w = cnt cs w
  cs0 : ∀ i, 0 ≤ cnt cs i
  out : ∀ i, cnt (outBox w c cs) i = if i ≤ w then cnt q (i - 1) else cnt cs i
  c1 : 1 ≤ c
structure Wk (cs q : List (Int × Int)) (ld : Int → Int) (w c B : Int) (n0 : Int) (fs : List (Int × Int)) (x pl : Int) : Prop where
  nd : (fs.map Prod.fst).Nodup
  le : pl ≤ w
  xe : x = ld pl
  up : ∀ i, w < i → cnt fs i = cnt cs i
  mid : ∀ i, pl < i → i ≤ w → cnt fs i = cnt q (i - 1)
  dn : ∀ i, i < pl → cnt fs i = cnt cs i
  z : cnt fs pl = 0
  j : pl ≤ B → B - pl + x ≤ c
  len : (fs.length : Int) ≤ n0 + (w - pl)
section
variable {cs q fs : List (Int × Int)} {ld : Int → Int} {w c B n0 x pl : Int}
theorem Wk.stop (L : Ldr cs q ld w c) (k : Wk cs q ld w c B n0 fs x pl) (x0 : x ≤ 0) (no : ∀ i, i < pl → cnt fs i ≤ 0) : (∀ i, cnt fs i = cnt (outBox w c cs) i) ∧ (∀ i, i ≤ B - c → cnt (outBox w c cs) i = 0) ∧ B - c ≤ pl := by
  have le := k.le
  have csz : ∀ i, i < pl → cnt cs i = 0 := fun i l => by
    have a := no i l
    rw [k.dn i l] at a
    have := L.cs0 i
    omega
  have xz : ld pl = 0 := by
    have := (L.bd pl).1
    have := k.xe
    omega
  have keep : ∀ i, i < w → ld i + cnt q i = cnt cs i + ld (i + 1) := fun i l => by
    obtain ⟨e1, e2⟩ := L.st i l
    rw [e1, e2]
    unfold stC stL
    omega
  have lz : ∀ i, i ≤ pl → ld i = 0 := by
    refine down_from (P := fun i => ld i = 0) pl xz fun i lt ih => ?_
    have a := keep i (by omega)
    have b := csz i lt
    have d := (L.bd i).1
    have e := (L.q1 i (by omega)).1
    omega
  have qz : ∀ i, i < pl → cnt q i = 0 := fun i l => by
    have a := keep i (by omega)
    have b := csz i l
    have d := lz i (by omega)
    have e := lz (i + 1) (by omega)
    omega
  have all : ∀ i, cnt fs i = cnt (outBox w c cs) i := fun i => by
    rw [L.out]
    by_cases l : i ≤ w
    · rw [if_pos l]
      by_cases l2 : pl < i
      · exact k.mid i l2 l
      · rw [qz (i - 1) (by omega)]
        by_cases e : i = pl
        · rw [e]
          exact k.z
        · rw [k.dn i (by omega)]
          exact csz i (by omega)
    · rw [if_neg l]
      exact k.up i (by omega)
  have c1 := L.c1
  have pb : B - c ≤ pl := by
    by_cases l : pl ≤ B
    · have := k.j l
      have := (L.bd pl).1
      have := k.xe
      omega
    · omega
  refine ⟨all, fun i l => ?_, pb⟩
  rw [L.out, if_pos (by omega)]
  exact qz _ (by omega)
end
end SR
set_option Elab.async false
set_option linter.all false
set_option maxRecDepth 100000
set_option maxHeartbeats 1000000
set_option Elab.async false
set_option linter.all false
set_option maxRecDepth 100000
set_option maxHeartbeats 1000000
set_option Elab.async false
set_option linter.all false
set_option maxRecDepth 100000
set_option maxHeartbeats 1000000
namespace SR
open PySem PySem.Spec PyProof.Rows L2
/-- the trains from the length k on, L what is left of the row -/
def tr : Nat → Int → List Int → List (Int × Int)
  | 0, _, _ => []
  | f + 1, k, L => if L = [] then [] else (ofs L).map (fun b => (k, b)) ++ tr f (k + 1) (cutL L 0).1
/-- the trains of a plain row -/
def trL (L : List Int) : List (Int × Int) := tr L.length 1 L
theorem TL.len {c : Nat} {L L' : List Int} (h : TL c L L') : L'.length = L.length := by
  cases c with
  | zero => rw [h.none rfl]
  | succ c =>
    obtain ⟨_, _, _, _, e⟩ := cut_TL (Nat.succ_pos c) h
    exact e
end SR
set_option Elab.async false
set_option linter.all false
set_option maxRecDepth 100000
set_option maxHeartbeats 1000000
namespace SR
open PySem PySem.Spec PyProof.Rows L2
/-- the places of the plain form -/
noncomputable def plL {ks : List (Int × Int)} (p : Rws ks) : List Int := (plainF ks p.1).map Prod.fst
/-- the trains of any row -/
noncomputable def trP {ks : List (Int × Int)} (p : Rws ks) : List (Int × Int) := trL (plL p)
end SR
set_option Elab.async false
set_option linter.all false
set_option maxRecDepth 100000
set_option maxHeartbeats 1000000
namespace SR
open PySem PySem.Spec PyProof.Rows L2
/-- a list of pairs -/
def PairsL (H : Hp) (D : Addr) (ps : List (Int × Int)) : Prop := ∃ us : List Addr, H D = some (.lst (us.map V.ref)) ∧ Paired (TupAt H) us ps
theorem PairsL.same {H H' : Hp} {D : Addr} {ps : List (Int × Int)} (s : Same H H') (h : PairsL H D ps) : PairsL H' D ps := let ⟨us, h1, h2⟩ := h; ⟨us, s _ _ h1, paired_imp (fun _ _ z => s _ _ z) h2⟩
theorem PairsL.at {K : PySem.W.Frag} {H : Hp} {D : Addr} {ps : List (Int × Int)} (h : PairsL H D ps) : PairsAt K H D ps := let ⟨us, h1, h2⟩ := h; ⟨us, .inl (SqL.of h1), h2⟩
theorem vd_len {ps ks : List (Int × Int)} (v : Vd ps ks) : ps.length ≤ 40 := by
  have a := len_sum (fun p m => (v.ok.po p m).1)
  have b := v.ok.sm
  omega
end SR
set_option Elab.async false
set_option linter.all false
set_option maxRecDepth 100000
set_option maxHeartbeats 4000000
set_option Elab.async false
set_option linter.all false
set_option maxRecDepth 100000
set_option maxHeartbeats 4000000
set_option Elab.async false
set_option linter.all false
set_option maxRecDepth 100000
set_option maxHeartbeats 1000000
namespace SR
open PySem PySem.Spec PyProof.Rows L2
section
variable {K : PySem.W.Frag} {B C : Addr} {N N2 N3 : L2.St → Hp → Prop} {R : VK}
/-- what is no list stays -/
theorem RowAt.lst {H H' : Hp} {O x : Addr} {xs : List V} {ps ks : List (Int × Int)} (row : RowAt K C H x ps ks) (hO : H O = some (.lst xs)) (k : SameBut O H H') : RowAt K C H' x ps ks := by
  have kp : ∀ {a : Addr} {o : HO}, H a = some o → (∀ ys, o ≠ .lst ys) → H' a = some o := fun {a o} h n => k _ _ (fun z => by
    rw [z, hO] at h
    exact n xs (Option.some.inj h).symm) h
  obtain ⟨dx, c0, k0, d0, e, ps0, ks0, h1, ⟨t1, h2, h3⟩, ⟨t2, h4, h5⟩, h6, h7, h8⟩ := row
  have tp : ∀ {t : Addr} {p : Int × Int}, TupAt H t p → TupAt H' t p := fun {t p} z => kp (o := .tup [.int p.1, .int p.2]) z (fun _ z => nomatch z)
  refine ⟨dx, c0, k0, d0, e, ps0, ks0, kp h1 (fun _ z => nomatch z), ⟨t1, ?_, paired_imp (fun _ _ z => tp z) h3⟩, ⟨t2, ?_, paired_imp (fun _ _ z => tp z) h5⟩, kp h6 (fun _ z => nomatch z), kp h7 (fun _ z => nomatch z), h8⟩
  · obtain ⟨o, a1, a2⟩ := h2
    exact ⟨o, kp a1 (fun _ z => nomatch z), a2⟩
  · obtain ⟨o, a1, a2⟩ := h4
    exact ⟨o, kp a1 (fun _ z => nomatch z), a2⟩
end
end SR
set_option Elab.async false
set_option linter.all false
set_option maxRecDepth 100000
set_option maxHeartbeats 1000000
set_option Elab.async false
set_option linter.all false
set_option maxRecDepth 100000
set_option maxHeartbeats 1000000
set_option Elab.async false
set_option linter.all false
set_option maxRecDepth 100000
set_option maxHeartbeats 1000000
set_option Elab.async false
set_option linter.all false
set_option maxRecDepth 100000
set_option maxHeartbeats 4000000
namespace SR
open PySem PySem.Spec PyProof.Rows L2
def wbB (p : Int × Int) : Bool := btw (-60) 60 (.int p.1) && btw 2 9 (.int p.2)
/-- no pairs at all, or the same first twice -/
inductive OddP (K : PySem.W.Frag) (H : Hp) : V → Prop where
  | kind {v : V} {t : String} (h : AnyT K H v t) (h1 : (t == "list") = false) (h2 : (t == "tuple") = false) : OddP K H v
  | elem {a : Addr} {x : V} {o : Option (List V)} (h : SqL K H a [x]) (hx : Val2 K H x o) (ho : pairO o = false) : OddP K H (.ref a)
  | dup {a t1 t2 : Addr} {i m n : Int} (h : SqL K H a [.ref t1, .ref t2]) (h1 : TupAt H t1 (i, m)) (h2 : TupAt H t2 (i, n)) : OddP K H (.ref a)
inductive OddC (K : PySem.W.Frag) (H : Hp) : V → Prop where
  | odd {v : V} (h : OddP K H v) : OddC K H v
  | size {a t : Addr} {p : Int × Int} (h : SqL K H a [.ref t]) (h1 : TupAt H t p) (h2 : wbB p = false) : OddC K H (.ref a)
theorem OddP.same {K : PySem.W.Frag} {H H' : Hp} {v : V} (s : Same H H') (h : OddP K H v) : OddP K H' v := by
  cases h with
  | kind h h1 h2 => exact .kind (h.same s) h1 h2
  | elem h hx ho => exact .elem (Same.seq s h) (hx.same s) ho
  | dup h h1 h2 => exact .dup (Same.seq s h) (s _ _ h1) (s _ _ h2)
theorem OddC.same {K : PySem.W.Frag} {H H' : Hp} {v : V} (s : Same H H') (h : OddC K H v) : OddC K H' v := by
  cases h with
  | odd h => exact .odd (h.same s)
  | size h h1 h2 => exact .size (Same.seq s h) (s _ _ h1) h2
theorem OddP.lst {K : PySem.W.Frag} {H : Hp} {v : V} (h : OddP K H v) : (∃ t, AnyT K H v t ∧ (t == "list") = false ∧ (t == "tuple") = false) ∨ ∃ (a : Addr) (xs : List V), v = V.ref a ∧ SqL K H a xs ∧ ((∃ x o, xs = [x] ∧ Val2 K H x o ∧ pairO o = false) ∨ ∃ (t1 t2 : Addr) (i m n : Int), xs = [V.ref t1, V.ref t2] ∧ TupAt H t1 (i, m) ∧ TupAt H t2 (i, n)) := by
  cases h with
  | kind h h1 h2 => exact .inl ⟨_, h, h1, h2⟩
  | elem h hx ho => exact .inr ⟨_, _, rfl, h, .inl ⟨_, _, rfl, hx, ho⟩⟩
  | dup h h1 h2 => exact .inr ⟨_, _, rfl, h, .inr ⟨_, _, _, _, _, rfl, h1, h2⟩⟩
end SR
set_option Elab.async false
set_option linter.all false
set_option maxRecDepth 100000
set_option maxHeartbeats 4000000
namespace SR
open PySem PySem.Spec PyProof.Rows L2
def CapsAt (K : PySem.W.Frag) (H : Hp) (v : V) (ls : List (Int × Int)) : Prop := ∃ a, v = .ref a ∧ PairsAt K H a ls ∧ (ls.map Prod.fst).Nodup ∧ ls.length ≤ 6 ∧ ∀ p ∈ ls, sizeOk p
theorem CapsAt.same {K : PySem.W.Frag} {H H' : Hp} {v : V} {ls : List (Int × Int)} (s : Same H H') (h : CapsAt K H v ls) : CapsAt K H' v ls := let ⟨a, h1, h2, h3⟩ := h; ⟨a, h1, h2.same s, h3⟩
end SR
set_option Elab.async false
set_option linter.all false
set_option maxRecDepth 100000
set_option maxHeartbeats 1000000
set_option Elab.async false
set_option linter.all false
set_option maxRecDepth 100000
set_option maxHeartbeats 1000000
set_option Elab.async false
set_option linter.all false
set_option maxRecDepth 100000
set_option maxHeartbeats 1000000
set_option Elab.async false
set_option linter.all false
set_option maxRecDepth 100000
set_option maxHeartbeats 4000000
namespace SR
open PySem PySem.Spec PyProof.Rows L2
section
variable {K : PySem.W.Frag} {C B : Addr} {ks : List (Int × Int)} {p : Rws ks}
/-- the rows on the way -/
inductive Way (K : PySem.W.Frag) (C : Addr) {ks : List (Int × Int)} (p : Rws ks) (H : Hp) : List Addr → List (Int × Bool) → Prop where
  | nil : Way K C p H [] []
  | snoc {ts : List Addr} {l : List (Int × Bool)} {t a : Addr} {s : Int × Bool} (w : Way K C p H ts l) (h : H t = some (.tup [.ref a, .int s.1, .bl s.2])) (row : RowAt K C H a (FnL l p).1 ks) (c : 1 ≤ s.1 ∧ s.1 ≤ 99) : Way K C p H (ts ++ [t]) (l ++ [s])
theorem Way.len {H : Hp} {ts : List Addr} {l : List (Int × Bool)} (w : Way K C p H ts l) : ts.length = l.length := by
  induction w with
  | nil => rfl
  | snoc _ _ _ _ ih => rw [List.length_append, List.length_append, ih]; rfl
theorem Way.same {H H' : Hp} {ts : List Addr} {l : List (Int × Bool)} (w : Way K C p H ts l) (s : Same H H') : Way K C p H' ts l := by
  induction w with
  | nil => exact .nil
  | snoc _ h row c ih => exact .snoc ih (s _ _ h) (row.same s) c
theorem Way.kp {H H' : Hp} {d g c : Addr} {b : Nat} {ts : List Addr} {l : List (Int × Bool)} (w : Way K C p H ts l) (S : StB H d g c b) (k : Kp d g H H') : Way K C p H' ts l := by
  induction w with
  | nil => exact .nil
  | snoc _ h row c ih => exact .snoc ih (kp_at S k h (fun _ z => nomatch z) fun _ _ z => nomatch z) (row.kp S k) c
end
end SR
set_option Elab.async false
set_option linter.all false
set_option maxRecDepth 100000
set_option maxHeartbeats 4000000
set_option Elab.async false
set_option linter.all false
set_option maxRecDepth 100000
set_option maxHeartbeats 4000000
namespace SR
open PySem PySem.Spec PyProof.Rows L2
theorem small_bd {qs : List (Int × Int)} (h : ∀ q ∈ qs, (-(10 ^ 31) ≤ q.1 ∧ q.1 ≤ 10 ^ 31) ∧ 0 ≤ q.2 ∧ q.2 ≤ 1000) : Small qs := fun q m => by
  have a := h q m
  have b : (10 : Int) ^ 31 = 10000000000000000000000000000000 := by decide
  have e : (2 : Nat) ^ 110 ≤ 2 ^ 1900 := Nat.pow_le_pow_right (by decide) (by decide)
  have e2 : (2 : Nat) ^ 110 = 1298074214633706907132624082305024 := by decide
  constructor <;> omega
theorem vd_small {ps ks : List (Int × Int)} (v : Vd ps ks) (bd : ∀ q ∈ ps, -(10 ^ 31) ≤ q.1 ∧ q.1 ≤ 10 ^ 31) : Small ps := small_bd fun q m => ⟨bd q m, by have := (v.ok.po q m); have := (cap_ok v.ok.ko q.1); omega⟩
theorem sizes_small {ps ks : List (Int × Int)} (v : Vd ps ks) : Small ks := small_bd fun q m => by
  have := v.ok.ko q m
  unfold sizeOk at this
  have b : (10 : Int) ^ 31 = 10000000000000000000000000000000 := by decide
  omega
end SR
set_option Elab.async false
set_option linter.all false
set_option maxRecDepth 100000
set_option maxHeartbeats 1000000
set_option Elab.async false
set_option linter.all false
set_option maxRecDepth 100000
set_option maxHeartbeats 1000000
set_option Elab.async false
set_option linter.all false
set_option maxRecDepth 100000
set_option maxHeartbeats 1000000
namespace SR
open PySem PySem.Spec PyProof.Rows L2
section
variable {σ : L2.St} {H : Hp} {Q : VK} {R : List V → Hp → Prop} {t ta : TA} {te : TE} {u v : V} {d g c : Addr} {b : Nat}
theorem Kp.of {H H1 H2 : Hp} (s : Same H H1) (k : Kp d g H1 H2) : Kp d g H H2 := fun x o e1 e2 h => k x o e1 e2 (s _ _ h)
end
end SR
set_option Elab.async false
set_option linter.all false
set_option maxRecDepth 100000
set_option maxHeartbeats 1000000
namespace SR
open PySem PySem.Spec PyProof.Rows L2
structure X12 (K : PySem.W.Frag) (C : Addr) (H : Hp) (d g c : Addr) (b : Nat) (Z1 Z2 F1 F2 xf xm : Addr) (sz ot bx it : List (Int × Int)) : Prop where
  S : StB H d g c b
  z1 : H Z1 = some (.dK (kvsOf sz))
  z2 : H Z2 = some (.dK (kvsOf ot))
  f1 : H F1 = some (.dK (kvsOf bx))
  f2 : H F2 = some (.dK (kvsOf it))
  rf : RowAt K C H xf bx []
  rm : RowAt K C H xm it ot
theorem X12.same {K : PySem.W.Frag} {C : Addr} {H H' : Hp} {d g c : Addr} {b : Nat} {Z1 Z2 F1 F2 xf xm : Addr} {sz ot bx it : List (Int × Int)} (s : Same H H') (X : X12 K C H d g c b Z1 Z2 F1 F2 xf xm sz ot bx it) : X12 K C H' d g c b Z1 Z2 F1 F2 xf xm sz ot bx it :=
  ⟨StB.same s X.S, s _ _ X.z1, s _ _ X.z2, s _ _ X.f1, s _ _ X.f2, X.rf.same s, X.rm.same s⟩
theorem X12.kp {K : PySem.W.Frag} {C : Addr} {H H' : Hp} {d g c : Addr} {b b' : Nat} {Z1 Z2 F1 F2 xf xm : Addr} {sz ot bx it : List (Int × Int)} (k : Kp d g H H') (S : StB H' d g c b') (X : X12 K C H d g c b Z1 Z2 F1 F2 xf xm sz ot bx it) : X12 K C H' d g c b' Z1 Z2 F1 F2 xf xm sz ot bx it :=
  ⟨S, kp_dict X.S k X.z1, kp_dict X.S k X.z2, kp_dict X.S k X.f1, kp_dict X.S k X.f2, X.rf.kp X.S k, X.rm.kp X.S k⟩
end SR
set_option Elab.async false
set_option linter.all false
set_option maxRecDepth 100000
set_option maxHeartbeats 1000000
set_option Elab.async false
set_option linter.all false
set_option maxRecDepth 100000
set_option maxHeartbeats 2000000
namespace SR
open PySem PySem.Spec PyProof.Rows L2
section
variable {α : Type} {K : PySem.W.Frag} {te : TE} {g : TG} {tt : TT} {telt : TE} {vs : List Nat} {σ : L2.St} {H : Hp} {a : Addr} {xs : List V} {ys : List α} {Q : VK}
/-- what is asked of a turn; the item's value is f y -/
def TurnV (g : TG) (tt : TT) (telt : TE) (vs : List Nat) (σ : L2.St) (H : Hp) (G : Hp → V → α → Prop) (ys : List α) (P : α → Bool) (f : α → V) : Prop :=
  ∀ x y H' (Rt : VK) (Rf : Hp → Prop), Same H H' → G H' x y → y ∈ ys → (P y = true → ∀ H4, Same H' H4 → Rt (f y) H4) → (P y = false → ∀ H4, Same H' H4 → Rf H4) →
    g x (wipe σ vs) H' fun σ2 H2 => wipe σ2 vs = wipe σ vs ∧ tt σ2 H2 fun b H3 => if b = true then telt σ2 H3 Rt else Rf H3
theorem stepV {G : Hp → V → α → Prop} {P : α → Bool} {f : α → V} (rel : ∀ (i : Nat) (x : V), xs[i]? = some x → ∃ y, ys[i]? = some y ∧ G H x y) (hl : ys.length ≤ 5000) (hG : ∀ H' x y, Same H H' → G H x y → G H' x y) (turn : TurnV g tt telt vs σ H G ys P f) {D : Addr} (hD : H D = none) :
    ∀ i x H1 H2, i < xs.length → (Same H H1 ∧ H1 D = some (.lst (((ys.take i).filter P).map f))) → YAt xs i H1 x H2 → g x (wipe σ vs) H2 fun σ2 H3 => wipe σ2 vs = wipe σ vs ∧ tt σ2 H3 fun b H4 =>
      if b = true then telt σ2 H4 fun y H5 => ∃ acc, H5 D = some (.lst acc) ∧ acc.length < sizeLine ∧ (Same H (upd H5 D (.lst (acc ++ [y]))) ∧ upd H5 D (.lst (acc ++ [y])) D = some (.lst (((ys.take (i + 1)).filter P).map f))) else Same H H4 ∧ H4 D = some (.lst (((ys.take (i + 1)).filter P).map f)) := by
  rintro i x H1 H2 hi ⟨s1, d1⟩ ⟨rfl, hx⟩
  obtain ⟨y, hy, gy⟩ := rel i x hx
  have tk : ys.take (i + 1) = ys.take i ++ [y] := by
    rw [List.take_succ, hy]
    rfl
  refine turn x y H2 _ _ s1 (hG _ _ _ s1 gy) (List.mem_of_getElem? hy) (fun py H4 s4 => ⟨_, s4 _ _ d1, ?_, same_upd (s1.trans s4) hD, ?_⟩) fun py H4 s4 => ⟨s1.trans s4, ?_⟩
  · rw [List.length_map]
    have := List.length_filter_le P (ys.take i)
    rw [List.length_take] at this
    exact Nat.lt_of_le_of_lt (show _ ≤ 5000 by have := Nat.min_le_right i ys.length; omega) (by decide)
  · rw [upd_same, tk, List.filter_append, List.filter_cons_of_pos py, List.map_append]
    rfl
  · rw [tk, List.filter_append, List.filter_cons_of_neg (by rw [py]; exact Bool.false_ne_true)]
    rw [List.filter_nil, List.append_nil]
    exact s4 _ _ d1
theorem lcV {G : Hp → V → α → Prop} (P : α → Bool) (f : α → V) (hte : ∀ R : VK, R (.ref a) H → te σ H R) (hs : SqL K H a xs) (rel : ∀ (i : Nat) (x : V), xs[i]? = some x → ∃ y, ys[i]? = some y ∧ G H x y) (len : xs.length = ys.length) (hl : ys.length ≤ 5000) (hG : ∀ H' x y, Same H H' → G H x y → G H' x y)
    (turn : TurnV g tt telt vs σ H G ys P f) (q : ∀ D H', H D = none → Same H H' → H' D = some (.lst ((ys.filter P).map f)) → Q (.ref D) H') : tLc (iList K te) g tt telt vs σ H Q := by
  refine hte _ ⟨a, rfl, ⟨_, hs⟩, fun D hD => ?_⟩
  refine lc_it (walk_list (K := K) (a := a) (xs := xs)) (fun i H1 => Same H H1 ∧ H1 D = some (.lst (((ys.take i).filter P).map f))) ⟨same_new hD, upd_same⟩ (fun i H1 _ h => SqL.same h.1 hs) (stepV rel hl hG turn hD) fun H1 h => ?_
  have d1 := h.2
  rw [len, List.take_length] at d1
  exact q D H1 hD h.1 d1
/-- the same, the list being what a call gives -/
theorem lcV_c {Cc : Addr → Hp → Prop} {H0 : Hp} (P : α → Bool) (f : α → V) (hte : ∀ R : VK, (∀ a H, Cc a H → R (.ref a) H) → te σ H0 R)
    (go : ∀ a H, Cc a H → ∃ (xs : List V) (G : Hp → V → α → Prop), SqL K H a xs ∧ (∀ (i : Nat) (x : V), xs[i]? = some x → ∃ y, ys[i]? = some y ∧ G H x y) ∧ xs.length = ys.length ∧ (∀ H' x y, Same H H' → G H x y → G H' x y) ∧ TurnV g tt telt vs σ H G ys P f ∧ ∀ D H', H D = none → Same H H' → H' D = some (.lst ((ys.filter P).map f)) → Q (.ref D) H')
    (hl : ys.length ≤ 5000) : tLc (iList K te) g tt telt vs σ H0 Q := by
  refine hte _ fun a H hc => ?_
  obtain ⟨xs, G, h1, h2, h3, h4, h5, h6⟩ := go a H hc
  exact lcV (te := fun _ H' R => R (.ref a) H') P f (fun R r => r) h1 h2 h3 hl h4 h5 h6
theorem cons1_go {te : TE} {R : List V → Hp → Prop} (h : te σ H fun v H1 => R [v] H1) : tCons te tNil σ H R := h
/-- what is known of the pairs of a list, item by item -/
theorem pairs_rel {ts : List Addr} {ps : List (Int × Int)} (pr : Paired (TupAt H) ts ps) : ∀ (i : Nat) (x : V), (ts.map V.ref)[i]? = some x → ∃ p, ps[i]? = some p ∧ ∃ t, x = .ref t ∧ TupAt H t p := fun i x hx => by
  rw [List.getElem?_map] at hx
  obtain ⟨t, ht, rfl⟩ := Option.map_eq_some_iff.mp hx
  obtain ⟨p, hp, hat⟩ := paired_at pr ht
  exact ⟨p, hp, t, rfl, hat⟩
def GT (H : Hp) (x : V) (p : Int × Int) : Prop := ∃ t, x = .ref t ∧ TupAt H t p
theorem GT.same {H H' : Hp} {x : V} {p : Int × Int} (s : Same H H') (h : GT H x p) : GT H' x p := let ⟨t, e, z⟩ := h; ⟨t, e, s _ _ z⟩
theorem all_true (l : List α) : l.filter (fun _ => true) = l := List.filter_eq_self.mpr fun _ _ => rfl
end
end SR
set_option Elab.async false
set_option linter.all false
set_option maxRecDepth 100000
set_option maxHeartbeats 2000000
set_option Elab.async false
set_option linter.all false
set_option maxRecDepth 100000
set_option maxHeartbeats 2000000
namespace SR
open PySem PySem.Spec PyProof.Rows L2
section
variable {K : PySem.W.Frag} {σ : L2.St} {H : Hp} {Q : VK} {D : Ends}
theorem op_go {r : R2} {ta tb : TE} (h : ta σ H fun x H1 => tb σ H1 fun y H2 => r x y H2 Q) : tOp r ta tb σ H Q := h
theorem make_go {C : Addr} {sp : Sp} {dvs : List V} {E : XK} {t : TA} (h : t σ H fun vs H1 => ∀ x dx, H1 x = none → H1 dx = none → dx ≠ x → sp (.ref x :: (vs ++ dvs)) (upd (upd H1 dx (.own x)) x (.ins C dx [])) (fun v H2 => v = .non ∧ Q (.ref x) H2) E) : tMake C sp dvs E t σ H Q := h
end
theorem PairsAt.rel {K : PySem.W.Frag} {H : Hp} {a : Addr} {ps : List (Int × Int)} (h : PairsAt K H a ps) : ∃ xs : List V, (SqL K H a xs ∨ SqT K H a xs) ∧ (∀ (i : Nat) (x : V), xs[i]? = some x → ∃ p, ps[i]? = some p ∧ GT H x p) ∧ xs.length = ps.length := by
  obtain ⟨ts, h1, h2⟩ := h
  exact ⟨_, h1.imp id BareW.sq, pairs_rel h2, by rw [List.length_map, paired_len h2]⟩
theorem all_map {α : Type} (l : List α) (f : α → Bool) (h : ∀ x ∈ l, f x = true) : (l.map f).all id = true := by
  rw [List.all_map]
  exact List.all_eq_true.mpr h
end SR
set_option Elab.async false
set_option linter.all false
set_option maxRecDepth 100000
set_option maxHeartbeats 2000000
namespace SR
open PySem PySem.Spec PyProof.Rows L2
theorem pe_mk0 {X : Cx} {x : Str} {C : Addr} {sp : Sp} {dvs : List V} {j k : Nat} {p pos : Pos} (c : C8.Mak X.prog X.w X.K X.mg X.base k x C sp dvs) (hr : Room j X.A) (hk : k + 1 ≤ j) (hg : Gl X x) (hdb : (x == ("__debug__" : Str)) = false := by decide) : PE X (.Call (.Name x p) [] [] pos) (tMake C sp dvs E0 tNil) := by
  obtain ⟨f, fd, ps, ds, M, F, hm, b, d⟩ := c.ex
  exact pe_make0 M F (hr.mono hk) hg hm b d pass0 hdb
/-- a def with defaults, called with all its arguments -/
theorem bindsFull {K : PySem.W.Frag} {x qual : Str} {params : Arguments} {body : List Stmt} {scope : Scope} {dvs : List V} {kws : List (Str × V)} {f : Addr} {fd : FuncData} {ps : List Str} (F : FunD K x qual params body scope dvs kws f fd) (hd : dvs ≠ [])
    (h : ∀ (T : Addr) (kV doc pm : Value) (an : Option Addr) (cdv ct : Value) (us its : List Value), us.length = ps.length → its.length = dvs.length →
      ∃ k, bindArgs (PySem.W.fnOf x qual params body scope (.ref T) kV doc pm an cdv ct) ⟨us, []⟩ = seqItems? (.ref T) >>= k ∧ k (some its.toArray) = pure (ps.zip (us ++ its.drop dvs.length))) : Binds K fd ps [] := by
  obtain ⟨ds, v, b⟩ := FunD.binds1 F ps.length dvs.length hd (by omega) h
  rw [List.drop_length] at v
  cases v
  exact b
theorem nil0_go {σ : L2.St} {H : Hp} {R : List V → Hp → Prop} (h : R [] H) : tNil σ H R := h
end SR
set_option Elab.async false
set_option linter.all false
set_option maxRecDepth 100000
set_option maxHeartbeats 4000000
set_option Elab.async false
set_option linter.all false
set_option maxRecDepth 100000
set_option maxHeartbeats 4000000
set_option Elab.async false
set_option linter.all false
set_option maxRecDepth 100000
set_option maxHeartbeats 2000000
set_option Elab.async false
set_option linter.all false
set_option maxRecDepth 100000
set_option maxHeartbeats 1000000
set_option Elab.async false
set_option linter.all false
set_option maxRecDepth 100000
set_option maxHeartbeats 1000000
namespace SR
open PySem PySem.Spec PyProof.Rows L2
/-- a method that may raise -/
structure MetX (P : Program) (w : World) (K : PySem.W.Frag) (mg : Str → Option Value) (base : Heap) (CX : CXT) (k : Nat) (C : Addr) (m : Str) (sp : Sp) (dvs : List V) : Prop where
  ex : ∃ (f : Addr) (fd : FuncData) (ps : List Str) (ds : List Value), Cls K C ∧ Meth K C m f ∧ FnOk P w K mg base CX k f fd ps sp ∧ Binds K fd ps ds ∧ Vals dvs ds
theorem MetX.weak {P : Program} {w : World} {K : PySem.W.Frag} {mg : Str → Option Value} {base : Heap} {CX : CXT} {k : Nat} {C : Addr} {m : Str} {sp sp' : Sp} {dvs : List V} (c : MetX P w K mg base CX k C m sp dvs) (h : ∀ vs H Q E, sp' vs H Q E → sp vs H Q E) : MetX P w K mg base CX k C m sp' dvs := by
  obtain ⟨f, fd, ps, ds, h1, h2, F, h4, h5⟩ := c.ex
  exact ⟨f, fd, ps, ds, h1, h2, F.imp h, h4, h5⟩
end SR
set_option Elab.async false
set_option linter.all false
set_option maxRecDepth 100000
set_option maxHeartbeats 1000000
set_option Elab.async false
set_option linter.all false
set_option maxRecDepth 100000
set_option maxHeartbeats 2000000
set_option Elab.async false
set_option linter.all false
set_option maxRecDepth 100000
set_option maxHeartbeats 2000000
set_option Elab.async false
set_option linter.all false
set_option maxRecDepth 100000
set_option maxHeartbeats 2000000
set_option Elab.async false
set_option linter.all false
set_option maxRecDepth 100000
set_option maxHeartbeats 1000000
namespace SR
open PySem PySem.Spec PyProof.Rows L2
section
variable {K : PySem.W.Frag} {C : Addr} {N N2 N3 : L2.St → Hp → Prop} {R : VK}
/-- what the boxes are while they are drawn -/
structure B11 (ks qs : List (Int × Int)) : Prop where
  nd : (qs.map Prod.fst).Nodup
  ok : ∀ p ∈ qs, 1 ≤ p.2 ∧ p.2 ≤ cap ks p.1
  bd : ∀ p ∈ qs, -60 ≤ p.1 ∧ p.1 ≤ 100
  sm : total qs ≤ 40
theorem B11.len {ks qs : List (Int × Int)} (b : B11 ks qs) : qs.length ≤ 40 := by
  have h := len_sum fun p m => (b.ok p m).1
  have s := b.sm
  unfold total at s
  omega
end
end SR
set_option Elab.async false
set_option linter.all false
set_option maxRecDepth 100000
set_option maxHeartbeats 2000000
namespace SR
open PySem PySem.Spec PyProof.Rows L2 LiI
/-- no index of a wide box that can be shifted -/
def OddI (K : PySem.W.Frag) (H : Hp) (ks : List (Int × Int)) (v : V) : Prop := ∃ t, AnyT K H v t ∧ (isI v = false ∨ ∃ i, v = .int i ∧ (cap ks i = 1 ∨ i = -60))
theorem OddI.same {K : PySem.W.Frag} {H H' : Hp} {ks : List (Int × Int)} {v : V} (s : Same H H') (h : OddI K H ks v) : OddI K H' ks v := let ⟨t, a, b⟩ := h; ⟨t, a.same s, b⟩
end SR
set_option Elab.async false
set_option linter.all false
set_option maxRecDepth 100000
set_option maxHeartbeats 2000000
set_option Elab.async false
set_option linter.all false
set_option maxRecDepth 100000
set_option maxHeartbeats 2000000
set_option Elab.async false
set_option linter.all false
set_option maxRecDepth 100000
set_option maxHeartbeats 2000000
namespace SR
open PySem PySem.Spec PyProof.Rows L2 LiI
/-- a dict that is no field of the row may be locked and unlocked -/
theorem RowAt.off {K : PySem.W.Frag} {C : Addr} {H H' : Hp} {x Z : Addr} {ps ks : List (Int × Int)} (row : RowAt K C H x ps ks) (nz : ∀ dx c k d e, H x = some (.ins C dx (rowFs c k d e)) → Z ≠ d ∧ Z ≠ e) (hz : (∃ kvs, H Z = some (.dK kvs)) ∨ ∃ o kvs, H Z = some (.frz o (.dK kvs))) (k : ∀ b o, b ≠ Z → H b = some o → H' b = some o) : RowAt K C H' x ps ks := by
  obtain ⟨dx, c0, k0, d, e, ps0, ks0, h1, ⟨t1, h2, h3⟩, ⟨t2, h4, h5⟩, h6, h7, h8⟩ := row
  obtain ⟨n1, n2⟩ := nz _ _ _ _ _ h1
  have kp : ∀ {a : Addr} {o : HO}, H a = some o → (∀ kvs, o ≠ .dK kvs) → (∀ o' kvs, o ≠ .frz o' (.dK kvs)) → H' a = some o := fun {a o} h m1 m2 => k _ _ (fun z => by
    rw [z] at h
    rcases hz with ⟨kvs, g⟩ | ⟨o', kvs, g⟩
    · rw [g] at h
      exact m1 _ (Option.some.inj h).symm
    · rw [g] at h
      exact m2 _ _ (Option.some.inj h).symm) h
  have tp : ∀ {t : Addr} {p : Int × Int}, TupAt H t p → TupAt H' t p := fun {t p} z => kp (o := .tup [.int p.1, .int p.2]) z (fun _ z => nomatch z) fun _ _ z => nomatch z
  refine ⟨dx, c0, k0, d, e, ps0, ks0, kp h1 (fun _ z => nomatch z) (fun _ _ z => nomatch z), ⟨t1, ?_, paired_imp (fun _ _ z => tp z) h3⟩, ⟨t2, ?_, paired_imp (fun _ _ z => tp z) h5⟩, k _ _ (Ne.symm n1) h6, k _ _ (Ne.symm n2) h7, h8⟩
  · obtain ⟨o, a1, a2⟩ := h2
    exact ⟨o, kp a1 (fun _ z => nomatch z) (fun _ _ z => by cases z), a2⟩
  · obtain ⟨o, a1, a2⟩ := h4
    exact ⟨o, kp a1 (fun _ z => nomatch z) (fun _ _ z => by cases z), a2⟩
end SR
set_option Elab.async false
set_option linter.all false
set_option maxRecDepth 100000
set_option maxHeartbeats 2000000
namespace SR
open PySem PySem.Spec PyProof.Rows L2
theorem lcVt_c {α : Type} {K : PySem.W.Frag} {te : TE} {g : TG} {tt : TT} {telt : TE} {vs : List Nat} {σ : L2.St} {ys : List α} {Q : VK} {Cc : Addr → Hp → Prop} {H0 : Hp} (P : α → Bool) (f : α → V) (hte : ∀ R : VK, (∀ a H, Cc a H → R (.ref a) H) → te σ H0 R)
    (go : ∀ a H, Cc a H → ∃ (xs : List V) (G : Hp → V → α → Prop), SqT K H a xs ∧ (∀ (i : Nat) (x : V), xs[i]? = some x → ∃ y, ys[i]? = some y ∧ G H x y) ∧ xs.length = ys.length ∧ (∀ H' x y, Same H H' → G H x y → G H' x y) ∧ TurnV g tt telt vs σ H G ys P f ∧ ∀ D H', H D = none → Same H H' → H' D = some (.lst ((ys.filter P).map f)) → Q (.ref D) H')
    (hl : ys.length ≤ 5000) : tLc (iTup K te) g tt telt vs σ H0 Q := by
  refine hte _ fun a H hc => ?_
  obtain ⟨xs, G, h1, h2, h3, h4, h5, h6⟩ := go a H hc
  refine ⟨a, rfl, ⟨_, h1⟩, fun D hD => ?_⟩
  refine lc_it (walk_tup (K := K) (a := a) (xs := xs)) (fun i H1 => Same H H1 ∧ H1 D = some (.lst (((ys.take i).filter P).map f))) ⟨same_new hD, upd_same⟩ (fun i H1 _ h => SqT.same h.1 h1) (stepV h2 hl h4 h5 hD) fun H1 h => ?_
  have d1 := h.2
  rw [h3, List.take_length] at d1
  exact h6 D H1 hD h.1 d1
/-- what the steps keep -/
structure I19 (K : PySem.W.Frag) (C : Addr) (H : Hp) (d g c : Addr) (b : Nat) (m : Int) (ts : List (Int × Int)) (D y7 y8 y9 : Addr) {ks : List (Int × Int)} (p : Rws ks) : Prop where
  S : StB H d g c b
  r7 : RowAt K C H y7 p.1 ks
  r8 : RowAt K C H y8 (Fn (m, false) p).1 ks
  r9 : RowAt K C H y9 (Fn (m, true) p).1 ks
  du : PairsL H D ts
  d1 : D ≠ d
  d2 : D ≠ g
  e : trP p = ts
  m1 : 1 ≤ m
  m2 : m ≤ 99
section
variable {K : PySem.W.Frag} {C B I : Addr} {ks : List (Int × Int)} {N N2 N3 : L2.St → Hp → Prop} {R : VK} {H : Hp} {d g c D y7 y8 y9 : Addr} {b : Nat} {m : Int} {ts : List (Int × Int)} {p : Rws ks}
theorem I19.same {H' : Hp} (s : Same H H') (J : I19 K C H d g c b m ts D y7 y8 y9 p) : I19 K C H' d g c b m ts D y7 y8 y9 p :=
  ⟨StB.same s J.S, J.r7.same s, J.r8.same s, J.r9.same s, J.du.same s, J.d1, J.d2, J.e, J.m1, J.m2⟩
theorem pairs_kp {H H' : Hp} {d g c D : Addr} {b : Nat} {ps : List (Int × Int)} (h : PairsL H D ps) (S : StB H d g c b) (k : Kp d g H H') (n1 : D ≠ d) (n2 : D ≠ g) : PairsL H' D ps := by
  obtain ⟨us, h1, h2⟩ := h
  exact ⟨us, k _ _ n1 n2 h1, paired_imp (fun t p z => kp_at (o := .tup [.int p.1, .int p.2]) S k z (fun _ z => nomatch z) fun _ _ z => nomatch z) h2⟩
theorem I19.kp {H' : Hp} {b' : Nat} (k : Kp d g H H') (S : StB H' d g c b') (J : I19 K C H d g c b m ts D y7 y8 y9 p) : I19 K C H' d g c b' m ts D y7 y8 y9 p :=
  ⟨S, J.r7.kp J.S k, J.r8.kp J.S k, J.r9.kp J.S k, pairs_kp J.du J.S k J.d1 J.d2, J.d1, J.d2, J.e, J.m1, J.m2⟩
end
end SR
set_option Elab.async false
set_option linter.all false
set_option maxRecDepth 100000
set_option maxHeartbeats 2000000
set_option Elab.async false
set_option linter.all false
set_option maxRecDepth 100000
set_option maxHeartbeats 2000000
set_option Elab.async false
set_option linter.all false
set_option maxRecDepth 100000
set_option maxHeartbeats 2000000
namespace SR
open PySem PySem.Spec PyProof.Rows L2
/-- the dict at W is none of the row's own -/
def Nw (C : Addr) (H : Hp) (W x : Addr) : Prop := ∃ dx c k d e, H x = some (.ins C dx (rowFs c k d e)) ∧ W ≠ d ∧ W ≠ e
theorem Nw.all {C W x : Addr} {H : Hp} (h : Nw C H W x) : ∀ dx c k d e, H x = some (.ins C dx (rowFs c k d e)) → W ≠ d ∧ W ≠ e := fun dx c k d e h1 => by
  obtain ⟨dx', c', k', d', e', h2, n1, n2⟩ := h
  rw [h1] at h2
  have z := Option.some.inj h2
  have fe : rowFs c k d e = rowFs c' k' d' e' := by
    injection z
  unfold rowFs at fe
  injection fe with _ fe
  injection fe with _ fe
  injection fe with f3 fe
  injection fe with f4 _
  have e3 : d = d' := V.ref.inj (congrArg Prod.snd f3)
  have e4 : e = e' := V.ref.inj (congrArg Prod.snd f4)
  subst e3 e4
  exact ⟨n1, n2⟩
theorem Nw.same {C W x : Addr} {H H' : Hp} (s : Same H H') (h : Nw C H W x) : Nw C H' W x := let ⟨dx, c, k, d, e, h1, n⟩ := h; ⟨dx, c, k, d, e, s _ _ h1, n⟩
theorem Nw.kp {C W x d g c : Addr} {b : Nat} {H H' : Hp} (S : StB H d g c b) (k : Kp d g H H') (h : Nw C H W x) : Nw C H' W x := let ⟨dx, c, k', d, e, h1, n⟩ := h; ⟨dx, c, k', d, e, kp_at S k h1 (fun _ z => nomatch z) (fun _ _ z => nomatch z), n⟩
theorem Nw.put {C W x : Addr} {H H' : Hp} {kvs : List (Key × V)} (hW : H W = some (.dK kvs)) (k : ∀ a o, a ≠ W → H a = some o → H' a = some o) (h : Nw C H W x) : Nw C H' W x := by
  obtain ⟨dx, c, k', d, e, h1, n⟩ := h
  exact ⟨dx, c, k', d, e, k _ _ (fun z => by rw [z, hW] at h1; cases h1) h1, n⟩
theorem Nw.new {K : PySem.W.Frag} {C W x : Addr} {H : Hp} {ps ks : List (Int × Int)} (row : RowAt K C H x ps ks) (hW : H W = none) : Nw C H W x := by
  obtain ⟨dx, c, k, d, e, _, _, h1, _, _, h6, h7, _⟩ := row
  exact ⟨dx, c, k, d, e, h1, (fun z => by rw [← z, hW] at h6; cases h6), fun z => by rw [← z, hW] at h7; cases h7⟩
theorem seq_go2 {σ : L2.St} {H : Hp} {D : Ends} {a b : TS} (h : a { D with nx := b D } σ H) : tSeq a b D σ H := h
theorem asg_go2 {σ : L2.St} {H : Hp} {D : Ends} {te : TE} {g : TG} (h : te σ H fun x H1 => g x σ H1 D.nx) : tAsg te g D σ H := h
theorem rd_get {H : Hp} {F : Addr} {fs : List (Int × Int)} {i m : Int} (h : Rd H F (.dK (kvsOf fs))) (nd : (fs.map Prod.fst).Nodup) (mem : (i, m) ∈ fs) : DGet H F (.int i) (some (.int m)) := .inl ⟨kvsOf fs, .inl i, h, rfl, by
  rw [val_pairs, (lookup_some (n := m) nd).mpr mem]
  rfl⟩
end SR
set_option Elab.async false
set_option linter.all false
set_option maxRecDepth 100000
set_option maxHeartbeats 2000000
namespace SR
open PySem PySem.Spec PyProof.Rows L2
structure J02 (K : PySem.W.Frag) (C : Addr) (H : Hp) (d g c : Addr) (b : Nat) (ps ks : List (Int × Int)) (x F Z : Addr) : Prop where
  S : StB H d g c b
  row : RowAt K C H x ps ks
  f : H F = some (.dK (kvsOf ps))
  z : H Z = some (.dK (kvsOf ks))
section
variable {K : PySem.W.Frag} {C : Addr} {N N2 N3 : L2.St → Hp → Prop} {R : VK} {H : Hp} {d g c x F Z : Addr} {b : Nat} {ps ks : List (Int × Int)}
theorem J02.same {H' : Hp} (s : Same H H') (J : J02 K C H d g c b ps ks x F Z) : J02 K C H' d g c b ps ks x F Z := ⟨StB.same s J.S, J.row.same s, s _ _ J.f, s _ _ J.z⟩
theorem J02.kp {H' : Hp} {b' : Nat} (k : Kp d g H H') (S : StB H' d g c b') (J : J02 K C H d g c b ps ks x F Z) : J02 K C H' d g c b' ps ks x F Z := ⟨S, J.row.kp J.S k, kp_dict J.S k J.f, kp_dict J.S k J.z⟩
end
end SR
set_option Elab.async false
set_option linter.all false
set_option maxRecDepth 100000
set_option maxHeartbeats 4000000
namespace SR
open PySem PySem.Spec PyProof.Rows L2
/-- what has been put into boxes: fs of n items, spare left -/
structure By (n : Int) (ks fs : List (Int × Int)) (spare : Int) : Prop where
  nd : (fs.map Prod.fst).Nodup
  po : ∀ p ∈ fs, 1 ≤ p.2 ∧ p.2 ≤ cap ks p.1
  sm : (fs.map Prod.snd).sum + spare = n
  sp : 0 ≤ spare
  bd : ∀ p ∈ fs, -(10 ^ 30) ≤ p.1 ∧ p.1 ≤ 10 ^ 30
  fr : ∀ p ∈ fs, p.1 < 100 ∨ 149 < p.1
theorem By.len {n spare : Int} {ks fs : List (Int × Int)} (h : By n ks fs spare) : (fs.length : Int) ≤ n - spare := by
  have h1 := len_sum fun p m => (h.po p m).1
  have h2 := h.sm
  omega
theorem By.put {n spare i m : Int} {ks fs : List (Int × Int)} (h : By n ks fs spare) (new : i ∉ fs.map Prod.fst) (m1 : 1 ≤ m) (m2 : m ≤ spare) (m3 : m ≤ cap ks i) (bd : -(10 ^ 30) ≤ i ∧ i ≤ 10 ^ 30) (fr : i < 100 ∨ 149 < i) : By n ks (putI fs i m) (spare - m) := by
  refine ⟨putI_nd h.nd, putI_all h.po ⟨m1, m3⟩, ?_, by omega, putI_all h.bd bd, putI_all h.fr fr⟩
  have := h.sm
  rw [putI_new new, List.map_append, List.sum_append]
  show (fs.map Prod.snd).sum + (m + 0) + (spare - m) = n
  omega
end SR
set_option Elab.async false
set_option linter.all false
set_option maxRecDepth 100000
set_option maxHeartbeats 2000000
namespace SR
open PySem PySem.Spec PyProof.Rows L2
def spRowLike02 (K : PySem.W.Frag) : Sp := fun vs H Q _ => ∃ (a b : Addr) (ps ks : List (Int × Int)), vs = [.ref a, .ref b] ∧ PairsAt K H a ps ∧ PairsAt K H b ks ∧ RowOk ps ks ∧ ∀ H', Same H H' → Q (.bl true) H'
def t_rowlike02 (K : PySem.W.Frag) : TS := tRet (tAndV (tCall (spAreCapacities K) [] E0 (tCons (tVar 1) (tNil))) (tCall (spAreContents K) [] E0 (tCons (tVar 0) (tCons (tVar 1) (tNil)))))
theorem pure_rowlike02 {K : PySem.W.Frag} (vs : List V) (H : Hp) (Q : VK) (E : XK) (h : spRowLike02 K vs H Q E) : t_rowlike02 K { nx := fun _ H' => Q .non H', rt := Q } (start ["contents", "capacities"] vs) H := by
  obtain ⟨a, b, ps, ks, rfl, pa, pb, ok, q⟩ := h
  have pl := ok.len
  exact ⟨_, rfl, b, ks, rfl, pb, ok.kd, ok.kl, ok.ko, fun H1 s1 => ⟨_, rfl, iteT ⟨_, rfl, _, rfl, a, b, ps, ks, rfl, pa.same s1, pb.same s1, ok.nd, ok.kd, by omega, ok.po, ok.sm, fun H2 s2 => q H2 (s1.trans s2)⟩⟩⟩
def Sm (H : Hp) (a : Addr) (ps : List (Int × Int)) (l : Bool) : Prop := ∃ us : List Addr, (if l = true then H a = some (.lst (us.map V.ref)) else Bare H a (us.map V.ref)) ∧ Paired (TupAt H) us ps
/-- all stays but dicts -/
def Dk (H H' : Hp) : Prop := ∀ x o, (∀ kvs, o ≠ .dK kvs) → H x = some o → H' x = some o
theorem Sm.kp {H H' : Hp} {d g c a : Addr} {b : Nat} {ps : List (Int × Int)} {l : Bool} (S : StB H d g c b) (k : Kp d g H H') (n1 : a ≠ d) (n2 : a ≠ g) (h : Sm H a ps l) : Sm H' a ps l := by
  obtain ⟨us, h1, h2⟩ := h
  refine ⟨us, ?_, paired_imp (fun t p z => kp_at (o := .tup [.int p.1, .int p.2]) S k z (fun _ z => nomatch z) fun _ _ z => nomatch z) h2⟩
  cases l with
  | true => exact k _ _ n1 n2 h1
  | false =>
    obtain ⟨o, a1, a2⟩ := h1
    exact ⟨o, kp_at S k a1 (fun _ z => nomatch z) (fun _ _ z => by cases z), a2⟩
theorem Sm.at {K : PySem.W.Frag} {H : Hp} {a : Addr} {ps : List (Int × Int)} {l : Bool} (h : Sm H a ps l) : PairsAt K H a ps := by
  obtain ⟨us, h1, h2⟩ := h
  refine ⟨us, ?_, h2⟩
  cases l with
  | true => exact .inl (SqL.of h1)
  | false => exact .inr (.inl h1)
theorem Dk.upd {H : Hp} {F : Addr} {kvs : List (Key × V)} {o : HO} (h : H F = some (.dK kvs)) : Dk H (L2.upd H F o) := fun x o' n h' => (upd_ne fun z => by
  rw [z, h] at h'
  exact n kvs (Option.some.inj h').symm).trans h'
theorem Dk.trans {H H1 H2 : Hp} (x : Dk H H1) (y : Dk H1 H2) : Dk H H2 := fun a o n h => y a o n (x a o n h)
/-- a turn's boxes and wide boxes -/
structure T02 (H : Hp) (d g c : Addr) (b : Nat) (ps ks : List (Int × Int)) (F Z : Addr) : Prop where
  S : StB H d g c b
  f : H F = some (.dK (kvsOf ps))
  z : H Z = some (.dK (kvsOf ks))
  v : Vd ps ks
  bd : ∀ p ∈ ps, -(10 ^ 30) ≤ p.1 ∧ p.1 ≤ 10 ^ 30
  far : ∀ p ∈ ps, p.1 < 100 ∨ 149 < p.1
  fz : F ≠ Z
  f1 : F ≠ d
  f2 : F ≠ g
  f3 : F ≠ c
  z1 : Z ≠ d
  z2 : Z ≠ g
  z3 : Z ≠ c
section
variable {K : PySem.W.Frag} {C : Addr} {N N2 N3 : L2.St → Hp → Prop} {R : VK} {H : Hp} {d g c F Z x : Addr} {b : Nat} {ps ks xs ls : List (Int × Int)}
theorem T02.same {H' : Hp} (s : Same H H') (J : T02 H d g c b ps ks F Z) : T02 H' d g c b ps ks F Z := ⟨StB.same s J.S, s _ _ J.f, s _ _ J.z, J.v, J.bd, J.far, J.fz, J.f1, J.f2, J.f3, J.z1, J.z2, J.z3⟩
theorem T02.kp {H' : Hp} {b' : Nat} (k : Kp d g H H') (S : StB H' d g c b') (J : T02 H d g c b ps ks F Z) : T02 H' d g c b' ps ks F Z := ⟨S, kp_dict J.S k J.f, kp_dict J.S k J.z, J.v, J.bd, J.far, J.fz, J.f1, J.f2, J.f3, J.z1, J.z2, J.z3⟩
theorem ret_go2 {te : TE} {σ : L2.St} {D : Ends} (h : te σ H D.rt) : tRet te D σ H := h
theorem and_go2 {ta tb : TE} {σ : L2.St} {Q : VK} (h : ta σ H fun x H1 => ∃ c, x = .bl c ∧ if c = true then tb σ H1 Q else Q (.bl false) H1) : tAndV ta tb σ H Q := h
end
end SR
set_option Elab.async false
set_option linter.all false
set_option maxRecDepth 100000
set_option maxHeartbeats 2000000
namespace SR
open PySem PySem.Spec PyProof.Rows L2 SX
def rLenS : List V → Hp → VK → Prop := fun xs H Q => ∃ z, xs = [.str z] ∧ z.length ≤ sizeLine ∧ Q (.int z.length) H
def rRemP : V → List V → Hp → VK → Prop := fun x xs H Q => ∃ a b, x = .str a ∧ xs = [.str b] ∧ a.length ≤ sizeLine ∧ Q (.str (Txt.removeprefix a b)) H
def rSplitS : V → List V → Hp → VK → Prop := fun x xs H Q => ∃ a b, x = .str a ∧ xs = [.str b] ∧ (b.length == 0) = false ∧ a.length + 2 ≤ sizeLine ∧ rNewStrs (Txt.split a b) H Q
def rJoinS (K : PySem.W.Frag) : V → List V → Hp → VK → Prop := fun x xs H Q => ∃ a p, ∃ ys : List Str, x = .str a ∧ xs = [.ref p] ∧ (SqL K H p (ys.map V.str) ∨ SqT K H p (ys.map V.str)) ∧
    (ys.map (·.length)).sum + ys.length * a.length ≤ 16777216 ∧ Q (.str (Txt.join a ys)) H
def rIntS : List V → Hp → VK → Prop := fun xs H Q => ∃ a n, xs = [.str a] ∧ PySem.intText? a = some n ∧ a.length ≤ 640 ∧ Q (.int n) H
def rStrI : List V → Hp → VK → Prop := fun xs H Q => ∃ i, xs = [.int i] ∧ i.natAbs.log2 < 1920 ∧ Q (.str (toString i)) H
def rLeS : R2 := fun x y H Q => ∃ i j, x = .str i ∧ y = .str j ∧ Q (.bl (!decide (j.cps.toList < i.cps.toList))) H
def tJoin (ts : List TE) : TE := fun σ H Q => tJs ts Str.empty σ H fun out H1 => Q (.str out) H1
/-- a word of at most 31 digits -/
def spIntIn : Sp := fun vs H Q _ => ∃ i : Int, vs = [.str (S (intL i)), .int 31] ∧ Sml31 i ∧ ∀ H', Same H H' → Q (.int i) H'
def t_intin (K : PySem.W.Frag) : TS := tSeq (tAsg (tBM K "str" rRemP (tVar 0) (tCons (tC (.str "-")) (tNil))) (gName 2))
  (tSeq (tIfS (tOr (tNot (tTest (tChain qLe qLe (tC (.int 1)) (tCB rLenS (tCons (tVar 2) (tNil))) (tVar 1)))) (tNot (tB (tCB (rAll K) (tCons (tLc (iStr (tVar 2)) (gName 3) (tYes) (tChain rLeS rLeS (tC (.str "0")) (tVar 3) (tC (.str "9"))) [3]) (tNil))))))
  (tRet (tC .non))
  (tNext))
  (tSeq (tIfS (tAnd (tTest (tOp rEq (tOp rIxS (tVar 2) (tC (.int 0))) (tC (.str "0")))) (tTest (tOp rNe (tVar 0) (tC (.str "0")))))
  (tRet (tC .non))
  (tNext))
  (tRet (tCB rIntS (tCons (tVar 0) (tNil))))))
theorem pure_intin {K : PySem.W.Frag} (vs : List V) (H : Hp) (Q : VK) (E : XK) (h : spIntIn vs H Q E) : t_intin K { nx := fun _ H' => Q .non H', rt := Q } (start ["word", "most_digits", "digits", "digit"] vs) H := by
  obtain ⟨i, rfl, si, q⟩ := h
  have l1 := numL_small si
  have l0 := numL_pos i.natAbs
  have l2 := intL_small si
  have nd := TL.numL_digits i.natAbs
  have hs : ∀ n, n ≤ 40 → n ≤ sizeLine := fun n h => Nat.le_trans h (by decide)
  refine seq_go2 (asg_go2 ⟨_, rfl, rfl, _, _, rfl, rfl, hs _ (by rw [S_len]; omega), ?_⟩)
  show gName 2 (.str (Txt.removeprefix (S (intL i)) (S [45]))) _ _ _
  rw [rem_int]
  generalize hd : TL.numL i.natAbs = ds at l1 l0 nd ⊢
  refine seq_go2 ?_
  refine ⟨_, rfl, S ds, rfl, hs _ (by rw [S_len]; omega), _, _, rfl, rfl, _, rfl, ?_⟩
  rw [S_len, decide_eq_true (show (1 : Int) ≤ (ds.length : Int) by omega)]
  refine iteT ⟨_, rfl, _, _, rfl, rfl, _, rfl, ?_⟩
  rw [decide_eq_true (show (ds.length : Int) ≤ 31 by omega)]
  refine iteF ?_
  refine ⟨_, rfl, S ds, rfl, fun D hD => ?_⟩
  refine lc_it (walk_str (z := S ds)) (fun k H1 => Same H H1 ∧ H1 D = some (.lst ((List.replicate k true).map V.bl))) ⟨same_new hD, upd_same⟩ (fun _ _ _ _ => trivial) ?_ ?_
  · rintro k x H1 H2 hk ⟨s1, d1⟩ ⟨rfl, c, hc, rfl⟩
    have hk' : k < ds.length := by
      have e : (S ds).cps.size = ds.length := S_len ds
      omega
    have hcd : 48 ≤ c ∧ c ≤ 57 := by
      refine nd c ?_
      have e : ds[k]? = some c := by
        have := hc
        rw [← Array.getElem?_toList] at this
        exact this
      exact List.mem_of_getElem? e
    refine ⟨rfl, yes_if ⟨_, rfl, _, _, rfl, rfl, _, rfl, ?_⟩⟩
    rw [show (!decide ((⟨#[c]⟩ : Str).cps.toList < (Str.ofString "0").cps.toList)) = true from le48 hcd.1]
    refine iteT ⟨_, _, rfl, rfl, ?_⟩
    rw [show (!decide ((Str.ofString "9").cps.toList < (⟨#[c]⟩ : Str).cps.toList)) = true from le57 hcd.2]
    refine ⟨_, d1, hs _ (by rw [List.length_map, List.length_replicate]; omega), same_upd s1 hD, ?_⟩
    rw [upd_same, List.replicate_succ', List.map_append]
    rfl
  · rintro H1 ⟨s1, d1⟩
    refine ⟨D, _, rfl, SqL.of d1, true, ?_, ?_⟩
    · rw [show (List.replicate (S ds).cps.size true).all id = true from List.all_eq_true.mpr fun x hx => List.eq_of_mem_replicate hx]
    · refine iteF ?_
      have hh : ∃ c r, ds = c :: r := by
        cases ds with
        | nil => exact absurd l0 (by simp)
        | cons c r => exact ⟨c, r, rfl⟩
      obtain ⟨c, r, ec⟩ := hh
      have fin : tRet (tCB rIntS (tCons (tVar 0) (tNil))) { nx := fun x H' => Q V.non H', rt := Q } [some (.str (S (intL i))), some (.int 31), some (.str (S ds)), none] H1 := by
        refine ⟨_, rfl, _, _, rfl, int_back si, by rw [S_len]; omega, q H1 s1⟩
      have hat : atI (S ds).cps.toList 0 = some c := by
        subst ec
        show (ixN (c :: r).length 0).bind _ = _
        unfold ixN
        rw [if_pos (by omega), if_pos (by rw [List.length_cons]; omega)]
        rfl
      refine seq_go2 ⟨_, rfl, S ds, 0, c, rfl, rfl, hs _ (by rw [S_len]; omega), hat, rfl, _, rfl, ?_⟩
      by_cases hz : c = 48
      · have hw : S (intL i) = Str.ofString "0" := zero_word (by rw [hd, ec, hz]; rfl)
        rw [show decide (V.str { cps := #[c] } = V.str (Str.ofString "0")) = true from decide_eq_true (by rw [hz]; rfl)]
        refine iteT ⟨_, rfl, rfl, _, rfl, ?_⟩
        rw [show decide (V.str (S (intL i)) = V.str (Str.ofString "0")) = true from decide_eq_true (by rw [hw])]
        exact iteF fin
      · rw [show decide (V.str { cps := #[c] } = V.str (Str.ofString "0")) = false from decide_eq_false (fun z => hz (by
          have z1 := V.str.inj z
          have z2 : [c] = [48] := congrArg (fun x : Str => x.cps.toList) z1
          exact List.head_eq_of_cons_eq z2))]
        exact iteF (iteF fin)
theorem small_log {i : Int} (h : Sml31 i) : i.natAbs.log2 < 1920 := by
  by_cases h0 : i.natAbs = 0
  · rw [h0]; decide
  · exact (Nat.log2_lt h0).mpr (Nat.lt_of_lt_of_le h (Nat.le_trans (show 10 ^ 31 ≤ 2 ^ 104 by decide) (Nat.pow_le_pow_right (by decide) (by decide))))
def Sml (ps : List (Int × Int)) : Prop := ∀ p ∈ ps, Sml31 p.1 ∧ Sml31 p.2
def spRowText (K : PySem.W.Frag) (C : Addr) : Sp := fun vs H Q _ => ∃ x ps ks, vs = [.ref x] ∧ RowAt K C H x ps ks ∧ ps.length ≤ 1000 ∧ ks.length ≤ 1000 ∧ Sml ps ∧ Sml ks ∧ ∀ H', Same H H' → Q (.str (S (rowL ps ks))) H'
/-- the line of a pair, by an f-string -/
theorem join_line {w : List Nat} (hw : w.length ≤ 4) {p : Int × Int} (h1 : Sml31 p.1) (h2 : Sml31 p.2) {σ : L2.St} {H : Hp} {Q : VK} {wd : Str} (ew : wd = S (w ++ [32])) {i j : Nat} (v1 : σ[i]? = some (some (.int p.1))) (v2 : σ[j]? = some (some (.int p.2)))
    (q : Q (.str (S (lineL w p ++ [10]))) H) : tJoin ((tC (.str wd)) :: (tFmt (tVar i)) :: (tC (.str (Str.ofString " "))) :: (tFmt (tVar j)) :: (tC (.str (Str.ofString "\n"))) :: []) σ H Q := by
  subst ew
  have i1 := intL_small h1
  have i2 := intL_small h2
  have hs : ∀ n, n ≤ 100 → n ≤ sizeLine := fun n h => Nat.le_trans h (by decide)
  have e0 : Str.empty ++ S (w ++ [32]) = S (w ++ [32]) := S_cat [] _
  have e1 : Str.ofString " " = S [32] := rfl
  have e2 : Str.ofString "\n" = S [10] := rfl
  refine ⟨_, rfl, ?_, ?_⟩
  · rw [e0, S_len, List.length_append]
    exact hs _ (by show w.length + 1 ≤ 100; omega)
  rw [e0]
  refine ⟨_, v1, .inr ⟨_, rfl, small_log h1, _, rfl, ?_, ?_⟩⟩
  · rw [intL_S, S_cat, S_len, List.length_append, List.length_append]
    exact hs _ (by show w.length + 1 + _ ≤ 100; omega)
  rw [intL_S, S_cat, e1]
  refine ⟨_, rfl, ?_, ?_⟩
  · rw [S_cat, S_len, List.length_append, List.length_append, List.length_append]
    exact hs _ (by show w.length + 1 + _ + 1 ≤ 100; omega)
  rw [S_cat]
  refine ⟨_, v2, .inr ⟨_, rfl, small_log h2, _, rfl, ?_, ?_⟩⟩
  · rw [intL_S, S_cat, S_len, List.length_append, List.length_append, List.length_append, List.length_append]
    exact hs _ (by show w.length + 1 + _ + 1 + _ ≤ 100; omega)
  rw [intL_S, S_cat, e2]
  refine ⟨_, rfl, ?_, ?_⟩
  · rw [S_cat, S_len, List.length_append, List.length_append, List.length_append, List.length_append, List.length_append]
    exact hs _ (by show w.length + 1 + _ + 1 + _ + 1 ≤ 100; omega)
  rw [S_cat]
  have e : w ++ [32] ++ intL p.1 ++ [32] ++ intL p.2 ++ [10] = lineL w p ++ [10] := by
    unfold lineL
    simp [List.append_assoc]
  show Q (.str _) H
  rw [e]
  exact q
theorem flt_true {α : Type} : ∀ l : List α, l.filter (fun _ => true) = l
  | [] => rfl
  | x :: l => by rw [List.filter_cons, if_pos rfl, flt_true l]
theorem joinL_flat : ∀ ls : List (List Nat), TL.joinL [] ls = ls.flatten
  | [] => rfl
  | [x] => by simp [TL.joinL]
  | x :: y :: ls => by
    rw [List.flatten_cons, ← joinL_flat (y :: ls)]
    rfl
theorem sum_le71 : ∀ {ls : List Str}, (∀ l ∈ ls, l.length ≤ 71) → (ls.map (·.length)).sum ≤ ls.length * 71
  | [], _ => by simp
  | l :: ls, h => by
    have ih := sum_le71 (ls := ls) fun x hx => h x (List.mem_cons_of_mem _ hx)
    have := h l (List.mem_cons_self ..)
    rw [List.map_cons, List.sum_cons, List.length_cons]
    omega
theorem rowL_join (ps ks : List (Int × Int)) : Txt.join (Str.ofString "") (ks.map (fun p => S (lineL wideW p ++ [10])) ++ ps.map (fun p => S (lineL boxW p ++ [10]))) = S (rowL ps ks) := by
  have e : ks.map (fun p => S (lineL wideW p ++ [10])) ++ ps.map (fun p => S (lineL boxW p ++ [10])) = (((rowLs ps ks).map (· ++ [10]))).map S := by
    unfold rowLs
    simp [List.map_map, Function.comp_def]
  rw [e]
  show Txt.join (S []) _ = _
  rw [join_S, joinL_flat]
  rfl
def t_rowtext (K : PySem.W.Frag) (c_Row : Addr) : TS := tSeq (tAsg (tLc (iTup K (tProp c_Row (spCapacities K c_Row) [] E0 (tVar 0))) (gTup K 2 (gCons (gName 2) (gCons (gName 3) (gNil)))) (tYes) (tJoin ((tC (.str "wide ")) :: (tFmt (tVar 2)) :: (tC (.str " ")) :: (tFmt (tVar 3)) :: (tC (.str "\n")) :: [])) [2, 3]) (gName 1))
  (tRet (tBM K "str" (rJoinS K) (tC (.str "")) (tCons (tOp rCat (tVar 1) (tLc (iTup K (tProp c_Row (spContents K c_Row) [] E0 (tVar 0))) (gTup K 2 (gCons (gName 2) (gCons (gName 4) (gNil)))) (tYes) (tJoin ((tC (.str "box ")) :: (tFmt (tVar 2)) :: (tC (.str " ")) :: (tFmt (tVar 4)) :: (tC (.str "\n")) :: [])) [2, 4])) (tNil))))
theorem pure_rowtext {K : PySem.W.Frag} {C : Addr} (vs : List V) (H : Hp) (Q : VK) (E : XK) (h : spRowText K C vs H Q E) : t_rowtext K C { nx := fun _ H' => Q .non H', rt := Q } (start ["row", "lines", "index", "capacity", "count"] vs) H := by
  obtain ⟨x, ps, ks, rfl, row, pl, kl, sp, sk, q⟩ := h
  obtain ⟨dx, fs, hx⟩ := row.at
  refine seq_go2 (asg_go2 (lcVt_c (Cc := fun c H1 => H1 = H ∧ PairsT H c ks) (ys := ks) (fun _ => true) (fun p => V.str (S (lineL wideW p ++ [10]))) (fun R r => ⟨_, rfl, x, dx, fs, rfl, hx, x, ps, ks, rfl, row, fun c hc => r c H ⟨rfl, hc⟩⟩) (fun c H1 z => ?_) (by omega)))
  obtain ⟨rfl, us, bc, pr⟩ := z
  refine ⟨_, GT, bc.sq, pairs_rel pr, by rw [List.length_map, paired_len pr], fun _ _ _ s z => z.same s, ?_, fun W H2 hW s2 w2 => ?_⟩
  · rintro v t H' Rt Rf s' ⟨u, rfl, hat⟩ mm rt rf
    exact ⟨u, _, rfl, SqT.of hat, rfl, _, _, rfl, _, _, rfl, rfl, rfl, yes_if (join_line (w := wideW) (by decide) (sk t mm).1 (sk t mm).2 rfl rfl rfl (rt rfl H' fun _ _ h => h))⟩
  rw [flt_true] at w2
  refine ⟨rfl, ?_⟩
  refine ⟨_, rfl, ?_⟩
  have row2 := row.same s2
  obtain ⟨dx2, fs2, hx2⟩ := row2.at
  refine lcVt_c (Cc := fun c H1 => H1 = H2 ∧ PairsT H2 c ps) (ys := ps) (fun _ => true) (fun p => V.str (S (lineL boxW p ++ [10]))) (fun R r => ⟨_, rfl, x, dx2, fs2, rfl, hx2, x, ps, ks, rfl, row2, fun c hc => r c H2 ⟨rfl, hc⟩⟩) (fun c H3 z => ?_) (by omega)
  obtain ⟨rfl, us', bc', pr'⟩ := z
  refine ⟨_, GT, bc'.sq, pairs_rel pr', by rw [List.length_map, paired_len pr'], fun _ _ _ s z => z.same s, ?_, fun W' H4 hW' s4 w4 => ?_⟩
  · rintro v t H' Rt Rf s' ⟨u, rfl, hat⟩ mm rt rf
    exact ⟨u, _, rfl, SqT.of hat, rfl, _, _, rfl, _, _, rfl, rfl, rfl, yes_if (join_line (w := boxW) (by decide) (sp t mm).1 (sp t mm).2 rfl rfl rfl (rt rfl H' fun _ _ h => h))⟩
  rw [flt_true] at w4
  refine ⟨W, W', _, _, rfl, rfl, s4 _ _ w2, w4, ?_, fun p hp => ?_⟩
  · rw [List.length_map, List.length_map]
    exact Nat.le_trans (show _ ≤ 2000 by omega) (by decide)
  refine ⟨_, p, ks.map (fun p => S (lineL wideW p ++ [10])) ++ ps.map (fun p => S (lineL boxW p ++ [10])), rfl, rfl, .inl (SqL.of (upd_same.trans ?_)), ?_, ?_⟩
  · rw [List.map_append, List.map_map, List.map_map]
    rfl
  · have h1 := sum_le71 (ls := ks.map (fun p => S (lineL wideW p ++ [10])) ++ ps.map (fun p => S (lineL boxW p ++ [10]))) (fun l hl => by
      rcases List.mem_append.mp hl with hl | hl
      · obtain ⟨t, mt, rfl⟩ := List.mem_map.mp hl
        have := lineL_len (w := wideW) (by decide) (sk t mt).1 (sk t mt).2
        rw [S_len, List.length_append]
        show _ + 1 ≤ 71
        omega
      · obtain ⟨t, mt, rfl⟩ := List.mem_map.mp hl
        have := lineL_len (w := boxW) (by decide) (sp t mt).1 (sp t mt).2
        rw [S_len, List.length_append]
        show _ + 1 ≤ 71
        omega)
    have h2 : (ks.map (fun p => S (lineL wideW p ++ [10])) ++ ps.map (fun p => S (lineL boxW p ++ [10]))).length = ks.length + ps.length := by
      rw [List.length_append, List.length_map, List.length_map]
    rw [h2] at h1 ⊢
    show _ + _ * 0 ≤ _
    omega
  · rw [rowL_join]
    exact q _ ((s2.trans s4).trans (same_new hp))
end SR
set_option Elab.async false
set_option linter.all false
set_option maxRecDepth 100000
set_option maxHeartbeats 2000000
namespace SR
open PySem PySem.Spec PyProof.Rows L2 SX
def spPairIn (K : PySem.W.Frag) : Sp := fun vs H Q _ => ∃ (a : Addr) (i j : Int), vs = [.ref a] ∧ H a = some (.lst [.str (S (intL i)), .str (S (intL j))]) ∧ Sml31 i ∧ Sml31 j ∧ ∀ t H', H t = none → Same H H' → TupAt H' t (i, j) → Q (.ref t) H'
def t_pairin (K : PySem.W.Frag) : TS := tSeq (tAsg (tLc (iList K (tVar 0)) (gName 3) (tYes) (tCall spIntIn [.int 31] E0 (tCons (tVar 3) (tNil))) [3]) (gUnl K 2 (gCons (gName 1) (gCons (gName 2) (gNil)))))
  (tSeq (tIfS (tOr (tTest (tOp qIsN (tVar 1) (tC .non))) (tTest (tOp qIsN (tVar 2) (tC .non))))
  (tRet (tC .non))
  (tNext))
  (tRet (tTup (tCons (tVar 1) (tCons (tVar 2) (tNil))))))
def GSi (_ : Hp) (x : V) (y : Int) : Prop := x = .str (S (intL y))
theorem pure_pairin {K : PySem.W.Frag} (vs : List V) (H : Hp) (Q : VK) (E : XK) (h : spPairIn K vs H Q E) : t_pairin K { nx := fun _ H' => Q .non H', rt := Q } (start ["words", "first", "second", "word"] vs) H := by
  obtain ⟨a, i, j, rfl, hA, si, sj, q⟩ := h
  refine seq_go2 (asg_go2 (lcV (ys := [i, j]) (G := GSi) (fun _ => true) V.int (fun R r => ⟨_, rfl, r⟩) (SqL.of hA) (fun n x hx => ?_) rfl (show 2 ≤ 5000 by decide) (fun _ _ _ _ z => z) ?_ fun D H1 hD s1 d1 => ?_))
  · match n, hx with
    | 0, hx => exact ⟨i, rfl, (Option.some.inj hx).symm⟩
    | 1, hx => exact ⟨j, rfl, (Option.some.inj hx).symm⟩
    | n + 2, hx => exact absurd hx (by simp)
  · rintro x y H' Rt Rf s' rfl my rt rf
    refine ⟨rfl, yes_if ⟨_, rfl, y, rfl, ?_, fun H4 s4 => rt rfl H4 s4⟩⟩
    rcases List.mem_cons.mp my with rfl | my
    · exact si
    · rw [List.mem_singleton.mp my]; exact sj
  rw [all_true] at d1
  refine ⟨D, _, rfl, SqL.of d1, rfl, _, _, rfl, _, _, rfl, rfl, ?_⟩
  refine seq_go2 ⟨_, rfl, rfl, _, rfl, ?_⟩
  rw [show decide (V.int i = V.non) = false from decide_eq_false (by simp)]
  refine iteF ⟨_, rfl, rfl, _, rfl, ?_⟩
  rw [show decide (V.int j = V.non) = false from decide_eq_false (by simp)]
  refine iteF ⟨_, rfl, _, rfl, (show 2 ≤ sizeLine by decide), fun p hp => q p _ (none_back s1 hp) (s1.trans (same_new hp)) upd_same⟩
def t_withline (K : PySem.W.Frag) : TS := tSeq (tAsg (tBM K "str" rSplitS (tVar 2) (tCons (tC (.str " ")) (tNil))) (gName 3))
  (tSeq (tIfS (tOr (tTest (tOp rNe (tCB (qLen K) (tCons (tVar 3) (tNil))) (tC (.int 3)))) (tTest (tOp (rIn K true) (tOp (rIxL K) (tVar 3) (tC (.int 0))) (tTup (tCons (tC (.str "wide")) (tCons (tC (.str "box")) (tNil)))))))
  (tRet (tC .non))
  (tNext))
  (tSeq (tAsg (tCall (spPairIn K) [] E0 (tCons (tSl (rSlL K) (tVar 3) (tPart (tC (.int 1))) (tNoPart)) (tNil))) (gName 4))
  (tSeq (tIfS (tOr (tTest (tOp qIsN (tVar 4) (tC .non))) (tAnd (tTest (tOp rEq (tOp (rIxL K) (tVar 3) (tC (.int 0))) (tC (.str "wide")))) ((fun σ H Q => tVar 0 σ H fun x H1 => ∃ k, TruV K x H1 k ∧ Q k H1))))
  (tRet (tC .non))
  (tNext))
  (tSeq (tAsg (tIf (tTest (tOp rEq (tOp (rIxL K) (tVar 3) (tC (.int 0))) (tC (.str "wide")))) (tVar 1) (tVar 0)) (gName 5))
  (tSeq (tIfS (tAnd ((fun σ H Q => tVar 5 σ H fun x H1 => ∃ k, TruV K x H1 k ∧ Q k H1)) (tTest (tOp qLe (tOp (rIxT K) (tVar 4) (tC (.int 0))) (tOp (rIxT K) (tOp (rIxL K) (tVar 5) (tUn (rU fun i => .int (-i)) (tC (.int 1)))) (tC (.int 0))))))
  (tRet (tC .non))
  (tNext))
  (tSeq (tIfS (tTest (tOp rEq (tOp (rIxL K) (tVar 3) (tC (.int 0))) (tC (.str "wide"))))
  (tAsg (tOp rCat (tVar 1) (tLst (tCons (tVar 4) (tNil)))) (gName 1))
  (tAsg (tOp rCat (tVar 0) (tLst (tCons (tVar 4) (tNil)))) (gName 0)))
  (tSeq (tIfS (tNot (tB (tCall (spRowLike02 K) [] E0 (tCons (tVar 0) (tCons (tVar 1) (tNil))))))
  (tRet (tC .non))
  (tNext))
  (tRet (tTup (tCons (tVar 0) (tCons (tVar 1) (tNil))))))))))))
/-- the line of a wide box, or of a box, behind those that are there -/
def spWithLine (K : PySem.W.Frag) : Sp := fun vs H Q _ => ∃ (a b : Addr) (w : List Nat) (p : Int × Int) (ps ks ps' ks' : List (Int × Int)), vs = [.ref a, .ref b, .str (S (lineL w p))] ∧ PairsL H a ps ∧ PairsL H b ks ∧ Sml31 p.1 ∧ Sml31 p.2 ∧
  RowOk ps' ks' ∧ ((w = wideW ∧ ps = [] ∧ ps' = [] ∧ ks' = ks ++ [p] ∧ ∀ x ∈ ks, x.1 < p.1) ∨ (w = boxW ∧ ks' = ks ∧ ps' = ps ++ [p] ∧ ∀ x ∈ ps, x.1 < p.1)) ∧
  ∀ t a' b' H', H t = none → Same H H' → H' t = some (.tup [.ref a', .ref b']) → PairsL H' a' ps' → PairsL H' b' ks' → Q (.ref t) H'
theorem pl_at {K : PySem.W.Frag} {H : Hp} {a : Addr} {ps : List (Int × Int)} (h : PairsL H a ps) : PairsAt K H a ps := let ⟨us, h1, h2⟩ := h; ⟨us, .inl (SqL.of h1), h2⟩
theorem pl_same {H H' : Hp} {a : Addr} {ps : List (Int × Int)} (s : Same H H') (h : PairsL H a ps) : PairsL H' a ps := let ⟨us, h1, h2⟩ := h; ⟨us, s _ _ h1, paired_imp (fun _ _ z => s _ _ z) h2⟩
theorem pl_add {H H' : Hp} {a' t : Addr} {ps : List (Int × Int)} {p : Int × Int} {us : List Addr} (s : Same H H') (h2 : Paired (TupAt H) us ps) (ht : TupAt H t p) (h' : H' a' = some (.lst (us.map V.ref ++ [.ref t]))) : PairsL H' a' (ps ++ [p]) :=
  ⟨us ++ [t], by rw [h', List.map_append]; rfl, by
    have g := paired_imp (fun _ _ z => s _ _ z) h2
    exact paired_snoc (F := TupAt H') (s _ _ ht) g⟩
def t_wlEnd (K : PySem.W.Frag) : TS := tSeq (tIfS (tNot (tB (tCall (spRowLike02 K) [] E0 (tCons (tVar 0) (tCons (tVar 1) (tNil))))))
  (tRet (tC .non))
  (tNext))
  (tRet (tTup (tCons (tVar 0) (tCons (tVar 1) (tNil)))))
theorem told_ok {K : PySem.W.Frag} {σ : L2.St} {H : Hp} {Q : Bool → Hp → Prop} {B t : Addr} {us : List Addr} {qs : List (Int × Int)} {p : Int × Int} (v5 : σ[5]? = some (some (.ref B))) (v4 : σ[4]? = some (some (.ref t))) (hB : H B = some (.lst (us.map V.ref))) (pr : Paired (TupAt H) us qs)
    (ht : TupAt H t p) (lt : ∀ x ∈ qs, x.1 < p.1) (q : Q false H) : tAnd ((fun σ H Q => tVar 5 σ H fun x H1 => ∃ k, TruV K x H1 k ∧ Q k H1)) (tTest (tOp qLe (tOp (rIxT K) (tVar 4) (tC (.int 0))) (tOp (rIxT K) (tOp (rIxL K) (tVar 5) (tUn (rU fun i => .int (-i)) (tC (.int 1)))) (tC (.int 0))))) σ H Q := by
  rcases List.eq_nil_or_concat us with e | ⟨us', u, e⟩
  · subst e
    exact ⟨_, v5, false, .inl ⟨[], SqL.of hB, rfl⟩, iteF q⟩
  · rw [List.concat_eq_append] at e
    subst e
    have hm : u ∈ us' ++ [u] := List.mem_append_right _ (List.mem_singleton.mpr rfl)
    obtain ⟨n, hn, hu⟩ := List.mem_iff_getElem.mp hm
    obtain ⟨x, hx, tx⟩ := paired_at pr (show (us' ++ [u])[n]? = some u by rw [List.getElem?_eq_getElem hn, hu])
    have lx := lt x (List.mem_of_getElem? hx)
    refine ⟨_, v5, true, .inl ⟨_, SqL.of hB, by simp⟩, iteT ?_⟩
    refine ⟨_, v4, t, _, 0, _, rfl, rfl, SqT.of ht, rfl, _, v5, 1, rfl, B, _, -1, V.ref u, rfl, rfl, SqL.of hB, by rw [List.map_append]; exact atI_last _ _, u, _, 0, _, rfl, rfl, SqT.of tx, rfl, _, _, rfl, rfl, _, rfl, ?_⟩
    rw [show decide (p.1 ≤ x.1) = false from decide_eq_false (by omega)]
    exact q
theorem pure_withline {K : PySem.W.Frag} (vs : List V) (H : Hp) (Q : VK) (E : XK) (h : spWithLine K vs H Q E) : t_withline K { nx := fun _ H' => Q .non H', rt := Q } (start ["contents", "capacities", "line", "words", "pair", "told"] vs) H := by
  obtain ⟨a, b, w, p, ps, ks, ps', ks', rfl, pa, pb, s1, s2, ok, cs, q⟩ := h
  have hs : ∀ n, n ≤ 100 → n ≤ sizeLine := fun n h => Nat.le_trans h (by decide)
  have hw4 : w.length ≤ 4 := by rcases cs with ⟨rfl, _⟩ | ⟨rfl, _⟩ <;> decide
  have hw32 : 32 ∉ w := by rcases cs with ⟨rfl, _⟩ | ⟨rfl, _⟩ <;> decide
  have ll := lineL_len hw4 s1 s2
  refine seq_go2 (asg_go2 ⟨_, rfl, rfl, _, _, rfl, rfl, rfl, hs _ (by rw [S_len]; omega), fun W hW => ?_⟩)
  rw [show Str.ofString " " = S [32] from rfl, lineL_split hw32]
  have sW := same_new (o := .lst ([S w, S (intL p.1), S (intL p.2)].map V.str)) hW
  have W1 : upd H W (.lst ([S w, S (intL p.1), S (intL p.2)].map V.str)) W = some (.lst [.str (S w), .str (S (intL p.1)), .str (S (intL p.2))]) := upd_same
  generalize upd H W (.lst ([S w, S (intL p.1), S (intL p.2)].map V.str)) = H1 at sW W1 ⊢
  refine seq_go2 ⟨_, rfl, W, _, rfl, .inl (SqL.of W1), rfl, _, rfl, ?_⟩
  rw [show (!decide (V.int (([V.str (S w), V.str (S (intL p.1)), V.str (S (intL p.2))] : List V).length : Int) = V.int 3)) = false from rfl]
  refine iteF ⟨_, rfl, W, _, 0, V.str (S w), rfl, rfl, SqL.of W1, rfl, hs 2 (by decide), fun T hT => ?_⟩
  have sT := same_new (o := .tup [V.str (Str.ofString "wide"), V.str (Str.ofString "box")]) hT
  have T1 : upd H1 T (.tup [V.str (Str.ofString "wide"), V.str (Str.ofString "box")]) T = some (.tup [V.str (Str.ofString "wide"), V.str (Str.ofString "box")]) := upd_same
  generalize upd H1 T (.tup [V.str (Str.ofString "wide"), V.str (Str.ofString "box")]) = H2 at sT T1 ⊢
  have hin : inV (V.str (S w)) [V.str (Str.ofString "wide"), V.str (Str.ofString "box")] = true := by
    rcases cs with ⟨rfl, _⟩ | ⟨rfl, _⟩
    · rfl
    · rfl
  refine ⟨T, _, rfl, .inr (SqT.of T1), rfl, rfl, _, rfl, ?_⟩
  rw [hin]
  have W2 := sT _ _ W1
  refine iteF ⟨_, rfl, 1, rfl, W, _, rfl, SqL.of W2, fun P hP => ?_⟩
  have sP := same_new (o := .lst (cutV [.str (S w), .str (S (intL p.1)), .str (S (intL p.2))] (some 1) none)) hP
  refine ⟨P, p.1, p.2, rfl, upd_same, s1, s2, fun t H3 ht s3 hT3 => ?_⟩
  have s03 : Same H H3 := sW.trans (sT.trans (sP.trans s3))
  have W3 := s3 _ _ (sP _ _ W2)
  have ht0 : H t = none := none_back (sW.trans (sT.trans sP)) ht
  have pa3 := pl_same s03 pa
  have pb3 := pl_same s03 pb
  refine ⟨_, rfl, rfl, _, rfl, ?_⟩
  rw [show decide (V.ref t = V.non) = false from decide_eq_false (by simp)]
  refine iteF ⟨_, rfl, W, _, 0, V.str (S w), rfl, rfl, SqL.of W3, rfl, rfl, _, rfl, ?_⟩
  have fin : ∀ (a' b' : Addr) (H5 : Hp) (y5 : Option V), Same H3 H5 → PairsL H5 a' ps' → PairsL H5 b' ks' →
      t_wlEnd K { nx := fun x H' => Q V.non H', rt := Q } [some (.ref a'), some (.ref b'), some (.str (S (lineL w p))), some (.ref W), some (.ref t), y5] H5 := by
    intro a' b' H5 y5 s5 pa5 pb5
    refine seq_go2 ⟨_, rfl, _, rfl, a', b', ps', ks', rfl, pl_at pa5, pl_at pb5, ok, fun H6 s6 => ⟨_, rfl, ?_⟩⟩
    refine iteF ⟨_, rfl, _, rfl, hs 2 (by decide), fun r hr => ?_⟩
    have s06 := s03.trans (s5.trans s6)
    have sr := same_new (o := .tup [V.ref a', V.ref b']) hr
    exact q r a' b' _ (none_back s06 hr) (s06.trans sr) upd_same (pl_same (s6.trans sr) pa5) (pl_same (s6.trans sr) pb5)
  rcases cs with ⟨rfl, rfl, rfl, rfl, lt⟩ | ⟨rfl, rfl, rfl, lt⟩
  · rw [show decide (V.str (S wideW) = V.str (Str.ofString "wide")) = true from rfl]
    obtain ⟨ua, ha3, pra⟩ := pa3
    obtain ⟨ub, hb3, prb⟩ := pb3
    have ua0 : ua = [] := by
      have := paired_len pra
      exact List.length_eq_zero_iff.mp this
    subst ua0
    refine iteT ⟨_, rfl, false, .inl ⟨[], SqL.of ha3, rfl⟩, ?_⟩
    refine iteF ⟨_, rfl, W, _, 0, V.str (S wideW), rfl, rfl, SqL.of W3, rfl, rfl, _, rfl, ?_⟩
    rw [show decide (V.str (S wideW) = V.str (Str.ofString "wide")) = true from rfl]
    refine iteT ⟨_, rfl, ?_⟩
    refine told_ok (K := K) rfl rfl hb3 prb hT3 lt ?_
    refine iteF ⟨_, rfl, W, _, 0, V.str (S wideW), rfl, rfl, SqL.of W3, rfl, rfl, _, rfl, ?_⟩
    rw [show decide (V.str (S wideW) = V.str (Str.ofString "wide")) = true from rfl]
    refine iteT ⟨_, rfl, _, rfl, hs 1 (by decide), fun L hL => ?_⟩
    have sL := same_new (o := .lst [V.ref t]) hL
    have L1 : upd H3 L (.lst [V.ref t]) L = some (.lst [V.ref t]) := upd_same
    generalize upd H3 L (.lst [V.ref t]) = H4 at sL L1 ⊢
    have kl := ok.kl
    rw [List.length_append] at kl
    have ul := paired_len prb
    refine ⟨b, L, _, _, rfl, rfl, sL _ _ hb3, L1, ?_, fun b' hb' => ?_⟩
    · rw [List.length_map]
      exact hs _ (by show _ + 1 ≤ 100; have : ([p] : List (Int × Int)).length = 1 := rfl; omega)
    have s4 := sL.trans (same_new (o := .lst (ub.map V.ref ++ [.ref t])) hb')
    exact fin a b' _ _ s4 (pl_same s4 ⟨[], ha3, pra⟩) (pl_add s4 prb hT3 upd_same)
  · rw [show decide (V.str (S boxW) = V.str (Str.ofString "wide")) = false from rfl]
    obtain ⟨ua, ha3, pra⟩ := pa3
    refine iteF (iteF ⟨_, rfl, W, _, 0, V.str (S boxW), rfl, rfl, SqL.of W3, rfl, rfl, _, rfl, ?_⟩)
    rw [show decide (V.str (S boxW) = V.str (Str.ofString "wide")) = false from rfl]
    refine iteF ⟨_, rfl, ?_⟩
    refine told_ok (K := K) rfl rfl ha3 pra hT3 lt ?_
    refine iteF ⟨_, rfl, W, _, 0, V.str (S boxW), rfl, rfl, SqL.of W3, rfl, rfl, _, rfl, ?_⟩
    rw [show decide (V.str (S boxW) = V.str (Str.ofString "wide")) = false from rfl]
    refine iteF ⟨_, rfl, _, rfl, hs 1 (by decide), fun L hL => ?_⟩
    have sL := same_new (o := .lst [V.ref t]) hL
    have L1 : upd H3 L (.lst [V.ref t]) L = some (.lst [V.ref t]) := upd_same
    generalize upd H3 L (.lst [V.ref t]) = H4 at sL L1 ⊢
    have kl := ok.len
    have ul := paired_len pra
    rw [List.length_append] at kl
    refine ⟨a, L, _, _, rfl, rfl, sL _ _ ha3, L1, ?_, fun a' ha' => ?_⟩
    · rw [List.length_map]
      exact hs _ (by show _ + 1 ≤ 100; have : ([p] : List (Int × Int)).length = 1 := rfl; omega)
    have s4 := sL.trans (same_new (o := .lst (ua.map V.ref ++ [.ref t])) ha')
    exact fin a' b _ _ s4 (pl_add s4 pra hT3 upd_same) (pl_same s4 pb3)
end SR
set_option Elab.async false
set_option linter.all false
set_option maxRecDepth 100000
set_option maxHeartbeats 2000000
namespace SR
open PySem PySem.Spec PyProof.Rows L2 SX
theorem asc_take {qs : List (Int × Int)} (h : Asc qs) {j : Nat} {p : Int × Int} (e : qs[j]? = some p) : ∀ x ∈ qs.take j, x.1 < p.1 := by
  intro x hx
  have hj : j < qs.length := (List.getElem?_eq_some_iff.mp e).1
  have e2 : qs = qs.take j ++ p :: qs.drop (j + 1) := by
    have := List.getElem?_eq_some_iff.mp e
    obtain ⟨h1, h2⟩ := this
    rw [← h2, List.getElem_cons_drop, List.take_append_drop]
  unfold Asc at h
  rw [e2, List.pairwise_append] at h
  exact h.2.2 x hx p (List.mem_cons_self ..)
theorem take_snoc {α : Type} {qs : List α} {j : Nat} {p : α} (e : qs[j]? = some p) : qs.take (j + 1) = qs.take j ++ [p] := by
  rw [List.take_succ, e]
  rfl
theorem ok_nil {ps ks : List (Int × Int)} (h : RowOk ps ks) (i : Nat) : RowOk [] (ks.take i) where
  nd := List.nodup_nil
  kd := by rw [List.map_take]; exact h.kd.sublist (List.take_sublist _ _)
  kl := by
    have := h.kl
    rw [List.length_take]
    omega
  ko := fun p hp => h.ko p (List.mem_of_mem_take hp)
  po := fun p hp => absurd hp (by simp)
  sm := by decide
theorem sum_take : ∀ {ps : List (Int × Int)} (j : Nat), (∀ p ∈ ps, 1 ≤ p.2) → ((ps.take j).map Prod.snd).sum ≤ (ps.map Prod.snd).sum
  | [], j, _ => by simp
  | p :: ps, 0, h => by
    have h1 := len_sum h
    rw [List.take_zero]
    show (0 : Int) ≤ _
    have : (0 : Int) ≤ ((p :: ps).length : Int) := Int.natCast_nonneg _
    omega
  | p :: ps, j + 1, h => by
    have ih := sum_take (ps := ps) j fun q hq => h q (List.mem_cons_of_mem _ hq)
    rw [List.take_succ_cons, List.map_cons, List.map_cons, List.sum_cons, List.sum_cons]
    omega
theorem ok_take {ps ks : List (Int × Int)} (h : RowOk ps ks) (j : Nat) : RowOk (ps.take j) ks where
  nd := by rw [List.map_take]; exact h.nd.sublist (List.take_sublist _ _)
  kd := h.kd
  kl := h.kl
  ko := h.ko
  po := fun p hp => h.po p (List.mem_of_mem_take hp)
  sm := Int.le_trans (sum_take j fun p hp => (h.po p hp).1) h.sm
def spParseRow (K : PySem.W.Frag) (C : Addr) : Sp := fun vs H Q _ => ∃ ps ks, vs = [.str (S (rowL ps ks))] ∧ RowOk ps ks ∧ Asc ps ∧ Asc ks ∧ Sml ps ∧ Sml ks ∧ ∀ x H', H x = none → Same H H' → RowAt K C H' x ps ks → Q (.ref x) H'
def t_prTurn (K : PySem.W.Frag) : TS := tSeq (tAsg (tCall (spWithLine K) [] E0 (tCons (tOp (rIxT K) (tVar 3) (tC (.int 0))) (tCons (tOp (rIxT K) (tVar 3) (tC (.int 1))) (tCons (tVar 5) (tNil))))) (gName 3))
  (tIfS (tTest (tOp qIsN (tVar 3) (tC .non)))
  ((fun _ _ _ => False))
  (tNext))
def t_parserow (K : PySem.W.Frag) (c_Row : Addr) : TS := tSeq (tIfS (tNot (tB (tCB (rIsi K) (tCons (tVar 0) (tCons (tC (.ty "str")) tNil)))))
  ((fun _ _ _ => False))
  (tNext))
  (tSeq (tAsg (tBM K "str" rSplitS (tVar 0) (tCons (tC (.str "\n")) (tNil))) (gStar K (gName 1) (gName 2)))
  (tSeq (tAsg (tTup (tCons (tLst (tNil)) (tCons (tLst (tNil)) (tNil)))) (gName 3))
  (tSeq (tFor (iEnum K (tCons (tVar 1) (tNil))) (gTup K 2 (gCons (gName 4) (gCons (gName 5) (gNil))))
  (t_prTurn K))
  (tSeq (tIfS (tTest (tOp rNe (tVar 2) (tC (.str ""))))
  ((fun _ _ _ => False))
  (tNext))
  (tRet (tMake c_Row (spRowInit K c_Row) [] E0 (tCons (tOp (rIxT K) (tVar 3) (tC (.int 0))) (tCons (tOp (rIxT K) (tVar 3) (tC (.int 1))) (tNil)))))))))
/-- one line read -/
theorem turn_pr {K : PySem.W.Frag} {H : Hp} {a b T : Addr} {i : Nat} {ps ks : List (Int × Int)} {l : List Nat} {y0 y1 y2 y4 : Option V} {D : Ends} (ok : RowOk ps ks) (ap : Asc ps) (ak : Asc ks) (sp : Sml ps) (sk : Sml ks) (hT : H T = some (.tup [.ref a, .ref b])) (pa : PairsL H a (ps.take (i - ks.length))) (pb : PairsL H b (ks.take i)) (hl : (rowLs ps ks)[i]? = some l)
    (q : ∀ T' a' b' H', Same H H' → H' T' = some (.tup [.ref a', .ref b']) → PairsL H' a' (ps.take (i + 1 - ks.length)) → PairsL H' b' (ks.take (i + 1)) → D.nx [y0, y1, y2, some (.ref T'), y4, some (.str (S l))] H') :
    t_prTurn K D [y0, y1, y2, some (.ref T), y4, some (.str (S l))] H := by
  have fin : ∀ T' a' b' H', H T' = none → Same H H' → H' T' = some (.tup [.ref a', .ref b']) → PairsL H' a' (ps.take (i + 1 - ks.length)) → PairsL H' b' (ks.take (i + 1)) →
      (tIfS (tTest (tOp qIsN (tVar 3) (tC .non))) ((fun _ _ _ => False)) (tNext)) D [y0, y1, y2, some (.ref T'), y4, some (.str (S l))] H' := by
    intro T' a' b' H' _ s h1 h2 h3
    refine ⟨_, rfl, rfl, _, rfl, ?_⟩
    rw [show decide (V.ref T' = V.non) = false from decide_eq_false (by simp)]
    exact iteF (q T' a' b' H' s h1 h2 h3)
  unfold rowLs at hl
  by_cases hi : i < ks.length
  · rw [List.getElem?_append_left (by rw [List.length_map]; exact hi), List.getElem?_map] at hl
    obtain ⟨p, hp, rfl⟩ := Option.map_eq_some_iff.mp hl
    have mp := List.mem_of_getElem? hp
    rw [show i - ks.length = 0 by omega, List.take_zero] at pa
    rw [show i + 1 - ks.length = 0 by omega, List.take_zero] at fin
    refine ⟨_, rfl, T, _, 0, _, rfl, rfl, SqT.of hT, rfl, _, rfl, T, _, 1, _, rfl, rfl, SqT.of hT, rfl, _, rfl, ?_⟩
    exact ⟨a, b, wideW, p, [], ks.take i, [], ks.take (i + 1), rfl, pa, pb, (sk p mp).1, (sk p mp).2, ok_nil ok _, .inl ⟨rfl, rfl, rfl, take_snoc hp, asc_take ak hp⟩, fin⟩
  · rw [List.getElem?_append_right (by rw [List.length_map]; omega), List.length_map, List.getElem?_map] at hl
    obtain ⟨p, hp, rfl⟩ := Option.map_eq_some_iff.mp hl
    have mp := List.mem_of_getElem? hp
    rw [List.take_of_length_le (by omega : ks.length ≤ i)] at pb
    rw [List.take_of_length_le (by omega : ks.length ≤ i + 1), show i + 1 - ks.length = i - ks.length + 1 by omega] at fin
    refine ⟨_, rfl, T, _, 0, _, rfl, rfl, SqT.of hT, rfl, _, rfl, T, _, 1, _, rfl, rfl, SqT.of hT, rfl, _, rfl, ?_⟩
    exact ⟨a, b, boxW, p, ps.take (i - ks.length), ks, ps.take (i - ks.length + 1), ks, rfl, pa, pb, (sp p mp).1, (sp p mp).2, ok_take ok _, .inr ⟨rfl, rfl, take_snoc hp, asc_take ap hp⟩, fin⟩
theorem len_flat71 : ∀ {ls : List (List Nat)}, (∀ l ∈ ls, l.length ≤ 71) → ls.flatten.length ≤ ls.length * 71
  | [], _ => by simp
  | l :: ls, h => by
    have ih := len_flat71 (ls := ls) fun x hx => h x (List.mem_cons_of_mem _ hx)
    have := h l (List.mem_cons_self ..)
    rw [List.flatten_cons, List.length_append, List.length_cons]
    omega
theorem rowL_len {ps ks : List (Int × Int)} (ok : RowOk ps ks) (sp : Sml ps) (sk : Sml ks) : (rowL ps ks).length ≤ 46 * 71 := by
  have h1 := len_flat71 (ls := (rowLs ps ks).map (· ++ [10])) (fun l hl => by
    obtain ⟨m, hm, rfl⟩ := List.mem_map.mp hl
    rw [List.length_append]
    show _ + 1 ≤ 71
    unfold rowLs at hm
    rcases List.mem_append.mp hm with hm | hm
    · obtain ⟨t, mt, rfl⟩ := List.mem_map.mp hm
      have := lineL_len (w := wideW) (by decide) (sk t mt).1 (sk t mt).2
      omega
    · obtain ⟨t, mt, rfl⟩ := List.mem_map.mp hm
      have := lineL_len (w := boxW) (by decide) (sp t mt).1 (sp t mt).2
      omega)
  have h2 : ((rowLs ps ks).map (· ++ [10])).length = ks.length + ps.length := by
    unfold rowLs
    rw [List.length_map, List.length_append, List.length_map, List.length_map]
  rw [h2] at h1
  have := ok.len
  have := ok.kl
  unfold rowL
  omega
theorem rowLs_len (ps ks : List (Int × Int)) : (rowLs ps ks).length = ks.length + ps.length := by
  unfold rowLs
  rw [List.length_append, List.length_map, List.length_map]
theorem pure_parserow {K : PySem.W.Frag} {C : Addr} (vs : List V) (H : Hp) (Q : VK) (E : XK) (h : spParseRow K C vs H Q E) : t_parserow K C { nx := fun _ H' => Q .non H', rt := Q } (start ["text", "lines", "last", "so_far", "k", "line"] vs) H := by
  obtain ⟨ps, ks, rfl, ok, ap, ak, sp, sk, q⟩ := h
  have hl := rowL_len ok sp sk
  have hs : ∀ n, n ≤ 5000 → n ≤ sizeLine := fun n h => Nat.le_trans h (by decide)
  refine seq_go2 ⟨_, rfl, _, _, _, _, _, rfl, .ty _, (AnyT.str (K := K) (H := H) (S (rowL ps ks))).ty, kit_ty (r := true) (by rfl), _, rfl, iteF ?_⟩
  refine ⟨_, rfl, rfl, _, _, rfl, rfl, rfl, hs _ (by rw [S_len]; omega), fun W hW => ?_⟩
  rw [show Str.ofString "\n" = S [10] from rfl, rowL_split]
  have eW : (((rowLs ps ks).map S ++ [S []]).map V.str) = (rowLs ps ks).map (fun l => V.str (S l)) ++ [V.str (S [])] := by
    rw [List.map_append, List.map_map]
    rfl
  rw [eW]
  have sW := same_new (o := .lst ((rowLs ps ks).map (fun l => V.str (S l)) ++ [V.str (S [])])) hW
  have W1 : upd H W (.lst ((rowLs ps ks).map (fun l => V.str (S l)) ++ [V.str (S [])])) W = some (.lst ((rowLs ps ks).map (fun l => V.str (S l)) ++ [V.str (S [])])) := upd_same
  generalize upd H W (.lst ((rowLs ps ks).map (fun l => V.str (S l)) ++ [V.str (S [])])) = H1 at sW W1 ⊢
  refine ⟨W, _, _, rfl, SqL.of W1, fun L hL => ?_⟩
  have sL := same_new (o := .lst ((rowLs ps ks).map fun l => V.str (S l))) hL
  have L1 : upd H1 L (.lst ((rowLs ps ks).map fun l => V.str (S l))) L = some (.lst ((rowLs ps ks).map fun l => V.str (S l))) := upd_same
  generalize upd H1 L (.lst ((rowLs ps ks).map fun l => V.str (S l))) = H2 at sL L1 ⊢
  refine ⟨hs 0 (by decide), fun a ha => ⟨hs 0 (by decide), fun b hb => ⟨hs 2 (by decide), fun T hT => ?_⟩⟩⟩
  have sa := same_new (o := .lst []) ha
  have sb := same_new (o := .lst []) hb
  have sT := same_new (o := .tup [V.ref a, V.ref b]) hT
  have A3 : PairsL (upd (upd (upd H2 a (.lst [])) b (.lst [])) T (.tup [V.ref a, V.ref b])) a (ps.take (0 - ks.length)) := ⟨[], sT _ _ (sb _ _ upd_same), by rw [Nat.zero_sub]; exact .nil⟩
  have B3 : PairsL (upd (upd (upd H2 a (.lst [])) b (.lst [])) T (.tup [V.ref a, V.ref b])) b (ks.take 0) := ⟨[], sT _ _ upd_same, .nil⟩
  have T3 : upd (upd (upd H2 a (.lst [])) b (.lst [])) T (.tup [V.ref a, V.ref b]) T = some (.tup [V.ref a, V.ref b]) := upd_same
  have s23 : Same H2 (upd (upd (upd H2 a (.lst [])) b (.lst [])) T (.tup [V.ref a, V.ref b])) := sa.trans (sb.trans sT)
  generalize upd (upd (upd H2 a (.lst [])) b (.lst [])) T (.tup [V.ref a, V.ref b]) = H3 at A3 B3 T3 s23 ⊢
  have s03 : Same H H3 := sW.trans (sL.trans s23)
  have L3 := s23 _ _ L1
  have xl : ((rowLs ps ks).map fun l => V.str (S l)).length = ks.length + ps.length := by rw [List.length_map, rowLs_len]
  refine ⟨_, rfl, L, _, rfl, SqL.of L3, ?_⟩
  refine for_it (walk_enum (K := K) (a := L) (xs := (rowLs ps ks).map fun l => V.str (S l))) (fun i σ H4 => Same H3 H4 ∧ ∃ T a b y4 y5, σ = [some (.str (S (rowL ps ks))), some (.ref L), some (.str (S [])), some (.ref T), y4, y5] ∧ H4 T = some (.tup [V.ref a, V.ref b]) ∧ PairsL H4 a (ps.take (i - ks.length)) ∧ PairsL H4 b (ks.take i))
    ⟨fun _ _ h => h, T, a, b, _, _, rfl, T3, A3, B3⟩ ?_ ?_ ?_
  · rintro i σ H4 _ ⟨s4, _⟩
    exact SqL.of (s4 _ _ L3)
  · rintro i v σ H4 H5 hi ⟨s4, T, a, b, y4, y5, rfl, T4, A4, B4⟩ ⟨N, v1, v2, rfl, hN, rfl, e1, e2⟩
    obtain rfl := Option.some.inj (show some (V.int ((i : Nat) : Int)) = some v1 from e1)
    rw [xl] at hi
    have e2' : ((rowLs ps ks).map fun l => V.str (S l))[i]? = some v2 := e2
    rw [List.getElem?_map] at e2'
    obtain ⟨l, hl', rfl⟩ := Option.map_eq_some_iff.mp e2'
    have s5 := same_new (o := .tup [.int ((i : Nat) : Int), V.str (S l)]) hN
    have N5 : upd H4 N (.tup [.int ((i : Nat) : Int), V.str (S l)]) N = some (.tup [.int ((i : Nat) : Int), V.str (S l)]) := upd_same
    generalize upd H4 N (.tup [.int ((i : Nat) : Int), V.str (S l)]) = H5 at s5 N5 ⊢
    refine ⟨N, _, rfl, SqT.of N5, rfl, _, _, rfl, _, _, rfl, rfl, ?_⟩
    exact turn_pr ok ap ak sp sk (s5 _ _ T4) (pl_same s5 A4) (pl_same s5 B4) hl' fun T' a' b' H' s' t1 t2 t3 => ⟨s4.trans (s5.trans s'), T', a', b', _, _, rfl, t1, t2, t3⟩
  · rintro σ H4 ⟨s4, T, a, b, y4, y5, rfl, T4, A4, B4⟩
    rw [xl] at A4 B4
    rw [show ks.length + ps.length - ks.length = ps.length by omega, List.take_of_length_le (Nat.le_refl _)] at A4
    rw [List.take_of_length_le (show ks.length ≤ ks.length + ps.length by omega)] at B4
    refine ⟨_, rfl, rfl, _, rfl, ?_⟩
    rw [show (!decide (V.str (S []) = V.str (Str.ofString ""))) = false from rfl]
    refine iteF ⟨_, rfl, T, _, 0, _, rfl, rfl, SqT.of T4, rfl, _, rfl, T, _, 1, _, rfl, rfl, SqT.of T4, rfl, ?_⟩
    refine make_row (pl_at A4) (pl_at B4) ok fun x H' qs ls hx s row e1 e2 b1 b2 => ?_
    have z1 := asc_eq b1 ap e1
    have z2 := asc_eq b2 ak e2
    subst z1 z2
    have s := s03.trans (s4.trans s)
    exact q x H' (none_back (s03.trans s4) hx) s row
end SR
set_option Elab.async false
set_option linter.all false
set_option maxRecDepth 100000
set_option maxHeartbeats 2000000
namespace SR
open PySem PySem.Spec PyProof.Rows L2 SX
theorem kv_pairs {H : Hp} {ts : List Addr} {ps : List (Int × Int)} (h2 : Paired (fun (t : Addr) (q : Key × V) => H t = some (.tup [kV q.1, q.2])) ts (kvsOf ps)) : Paired (TupAt H) ts ps := by
  induction ps generalizing ts with
  | nil =>
    cases h2
    exact .nil
  | cons q ps ih =>
    cases h2 with
    | cons a b => exact .cons a (ih b)
def spShown62 (K : PySem.W.Frag) (C : Addr) : Sp := fun vs H Q _ => ∃ x a b ps ks, vs = [.ref x, .ref a, .ref b] ∧ RowAt K C H x ps ks ∧ H a = some (.dK (kvsOf ps)) ∧ H b = some (.dK (kvsOf ks)) ∧ ps.length < 64 ∧ ks.length < 64 ∧ Small ps ∧ Small ks ∧ ∀ H', Same H H' → Q (.bl true) H'
def t_shown62 (K : PySem.W.Frag) (c_Row : Addr) : TS := tSeq (tIfS (tTest (tOp rNe (tCB (rRepr K) (tCons (tProp c_Row (spContents K c_Row) [] E0 (tVar 0)) (tNil))) (tCB (rRepr K) (tCons (tCB (qTupOf K) (tCons (LiI.tListItems (tVar 1)) (tNil))) (tNil)))))
  (tRet (tC (.bl false)))
  (tNext))
  (tRet (tOp rEq (tCB (rRepr K) (tCons (tProp c_Row (spCapacities K c_Row) [] E0 (tVar 0)) (tNil))) (tCB (rRepr K) (tCons (tCB (qTupOf K) (tCons (LiI.tListItems (tVar 2)) (tNil))) (tNil)))))
theorem pure_shown62 {K : PySem.W.Frag} {C : Addr} (vs : List V) (H : Hp) (Q : VK) (E : XK) (h : spShown62 K C vs H Q E) : t_shown62 K C { nx := fun _ H' => Q .non H', rt := Q } (start ["shelf", "boxes", "sizes"] vs) H := by
  obtain ⟨x, a, b, ps, ks, rfl, row, hA, hB, lp, lk, sp, sk, q⟩ := h
  obtain ⟨dx, fs, hx, _, _⟩ := row.ins
  refine ⟨_, rfl, x, dx, fs, rfl, hx, x, ps, ks, rfl, row, fun c hc => ?_⟩
  obtain ⟨tc, bc, pc⟩ := hc
  have d1 := dp_row (K := K) bc.sq pc
  have w1 := row_show sp
  have w2 := row_cost ps
  refine ⟨_, _, rfl, d1, w1, row_depth ps, repr_fit w1 d1 (by omega), ?_⟩
  refine ⟨_, rfl, a, _, rfl, hA, fun H1 r ts s1 n1 _ _ r1 p1 => ?_⟩
  have pr := kv_pairs p1
  refine ⟨r, _, rfl, SqL.of r1, fun l o hl o1 o2 => ?_⟩
  have s2 := same_new (o := .frz o (.tup (ts.map V.ref))) hl
  have L2' : Bare (upd H1 l (.frz o (.tup (ts.map V.ref)))) l (ts.map V.ref) := ⟨o, upd_same, o1, o2⟩
  generalize upd H1 l (.frz o (.tup (ts.map V.ref))) = H2 at s2 L2' ⊢
  have d2 := dp_row (K := K) L2'.sq (paired_imp (fun _ _ z => s2 _ _ z) pr)
  refine ⟨_, _, rfl, d2, w1, row_depth _, repr_fit w1 d2 (by omega), rfl, _, rfl, iteNS rfl ?_⟩
  have s02 : Same H H2 := Same.trans s1 s2
  have row2 := row.same s02
  refine ⟨_, rfl, x, dx, fs, rfl, s02 _ _ hx, x, _, ks, rfl, row2, fun c2 hc2 => ?_⟩
  obtain ⟨tc2, bc2, pc2⟩ := hc2
  have d3 := dp_row (K := K) bc2.sq pc2
  have w3 := row_show sk
  have w4 := row_cost ks
  refine ⟨_, _, rfl, d3, w3, row_depth ks, repr_fit w3 d3 (by omega), ?_⟩
  refine ⟨_, rfl, b, _, rfl, s02 _ _ hB, fun H3 r3 ts3 s3 n3 _ _ r3' p3 => ?_⟩
  have pr3 := kv_pairs p3
  refine ⟨r3, _, rfl, SqL.of r3', fun l4 o4 hl4 o5 o6 => ?_⟩
  have s4 := same_new (o := .frz o4 (.tup (ts3.map V.ref))) hl4
  have L4 : Bare (upd H3 l4 (.frz o4 (.tup (ts3.map V.ref)))) l4 (ts3.map V.ref) := ⟨o4, upd_same, o5, o6⟩
  generalize upd H3 l4 (.frz o4 (.tup (ts3.map V.ref))) = H4 at s4 L4 ⊢
  have d4 := dp_row (K := K) L4.sq (paired_imp (fun _ _ z => s4 _ _ z) pr3)
  refine ⟨_, _, rfl, d4, w3, row_depth _, repr_fit w3 d4 (by omega), rfl, ?_⟩
  show Q (.bl (decide (_ = _))) H4
  rw [decide_eq_true rfl]
  exact q H4 (Same.trans s02 (Same.trans s3 s4))
theorem lines_lc {K : PySem.W.Frag} {f p : Nat} {F : Addr} {fs : List (Int × Int)} {σ : L2.St} {H : Hp} {Q : VK} {w : List Nat} {wd : Str} (ew : wd = S (w ++ [32])) (hw : w.length ≤ 4) (hF : H F = some (.dK (kvsOf fs))) (af : Asc fs) (hl : fs.length < 64) (sm : Sml fs)
    (h1 : σ[f]? = some (some (.ref F))) (h2 : ∀ y, ((wipe σ [p]).set p (some y))[f]? = some (some (.ref F))) (h3 : ∀ y, ((wipe σ [p]).set p (some y))[p]? = some (some y)) (h4 : ∀ y, wipe ((wipe σ [p]).set p (some y)) [p] = wipe σ [p])
    (q : ∀ D H', H D = none → Same H H' → H' D = some (.lst (fs.map fun t => V.str (S (lineL w t)))) → Q (.ref D) H') :
    tLc (iList K (tCB qSortedD (tCons (tVar f) (tNil)))) (gName p) (tYes) (tOp qAddS (tOp qAddS (tOp qAddS (tC (.str wd)) (tCB rStrI (tCons (tVar p) (tNil)))) (tC (.str (Str.ofString " ")))) (tCB rStrI (tCons (tDGet (tVar f) (tVar p)) (tNil)))) [p] σ H Q := by
  have nd := asc_nd af
  have keys : (kvsOf fs).map (·.1) = (fs.map Prod.fst).map Sum.inl := by
    unfold kvsOf
    rw [List.map_map, List.map_map]
    rfl
  subst ew
  refine lcV_c (ys := fs) (Cc := fun l H1 => Same H H1 ∧ H1 l = some (.lst ((fs.map Prod.fst).map V.int))) (fun _ => true) (fun t => V.str (S (lineL w t))) (fun R r => ?_) (fun l H1 hc => ?_) (by omega)
  · refine ⟨_, h1, F, _, _, rfl, .inl hF, keys, (by rw [List.length_map]; exact hl), fun ys l perm pw hlf => ?_⟩
    have e : ys = fs.map Prod.fst := by
      have ndy : ys.Nodup := perm.nodup_iff.mpr nd
      have ndl := with_lookup nd
      have pps : (ys.map fun y => (y, (fs.lookup y).getD 0)).Perm fs := by
        have z := perm.map (fun y => (y, (fs.lookup y).getD 0))
        rw [with_lookup nd] at z
        exact z
      have asc : Asc (ys.map fun y => (y, (fs.lookup y).getD 0)) := by
        unfold Asc
        rw [List.pairwise_map]
        refine (List.Pairwise.and pw ndy).imp fun {x y} z => ?_
        have := z.1
        have := z.2
        omega
      have e2 := congrArg (List.map Prod.fst) (asc_eq asc af pps)
      rw [List.map_map] at e2
      rw [← e2]
      exact (List.map_id' ys).symm
    subst e
    exact r l _ ⟨same_new hlf, upd_same⟩
  · obtain ⟨s1, l1⟩ := hc
    have hF1 := s1 _ _ hF
    refine ⟨_, fun _ x t => x = .int t.1, SqL.of l1, fun i x hx => ?_, by rw [List.length_map, List.length_map], fun _ _ _ _ z => z, ?_, fun D H2 hD s2 d2 => ?_⟩
    · rw [List.map_map, List.getElem?_map] at hx
      obtain ⟨t, ht, rfl⟩ := Option.map_eq_some_iff.mp hx
      exact ⟨t, ht, rfl⟩
    · rintro x t H' Rt Rf s' rfl mt rt rf
      obtain ⟨m1, m2⟩ := sm t mt
      have i1 := intL_small m1
      have i2 := intL_small m2
      have hs : ∀ n, n ≤ 100 → n ≤ sizeLine := fun n h => Nat.le_trans h (by decide)
      refine ⟨h4 _, yes_if ⟨_, h3 _, t.1, rfl, small_log m1, _, _, rfl, rfl, ?_, ?_⟩⟩
      · rw [intL_S, S_len, S_len, List.length_append]
        exact hs _ (by show w.length + 1 + _ ≤ 100; omega)
      rw [intL_S, S_cat, show Str.ofString " " = S [32] from rfl]
      refine ⟨_, _, rfl, rfl, ?_, ?_⟩
      · rw [S_len, S_len, List.length_append, List.length_append]
        exact hs _ (by show w.length + 1 + _ + 1 ≤ 100; omega)
      rw [S_cat]
      refine ⟨_, h2 _, _, h3 _, F, _, rfl, rd_get (.inl (s' _ _ hF1)) nd mt, t.2, rfl, small_log m2, _, _, rfl, rfl, ?_, ?_⟩
      · rw [intL_S, S_len, S_len, List.length_append, List.length_append, List.length_append]
        exact hs _ (by show w.length + 1 + _ + 1 + _ ≤ 100; omega)
      rw [intL_S, S_cat]
      have e : w ++ [32] ++ intL t.1 ++ [32] ++ intL t.2 = lineL w t := by
        unfold lineL
        simp [List.append_assoc]
      rw [e]
      exact rt rfl _ fun _ _ z => z
    · rw [all_true] at d2
      exact q D H2 (none_back s1 hD) (s1.trans s2) d2
def spLines62 (K : PySem.W.Frag) : Sp := fun vs H Q _ => ∃ a b ps ks, vs = [.ref a, .ref b] ∧ H a = some (.dK (kvsOf ps)) ∧ H b = some (.dK (kvsOf ks)) ∧ Asc ps ∧ Asc ks ∧ ps.length < 64 ∧ ks.length < 64 ∧ Sml ps ∧ Sml ks ∧ ∀ D H', H D = none → Same H H' → H' D = some (.lst ((rowLs ps ks).map fun l => V.str (S l))) → Q (.ref D) H'
def t_lines62 (K : PySem.W.Frag) : TS := tSeq (tAsg (tLc (iList K (tCB qSortedD (tCons (tVar 1) (tNil)))) (gName 3) (tYes) (tOp qAddS (tOp qAddS (tOp qAddS (tC (.str "wide ")) (tCB rStrI (tCons (tVar 3) (tNil)))) (tC (.str " "))) (tCB rStrI (tCons (tDGet (tVar 1) (tVar 3)) (tNil)))) [3]) (gName 2))
  (tRet (tOp rCat (tVar 2) (tLc (iList K (tCB qSortedD (tCons (tVar 0) (tNil)))) (gName 3) (tYes) (tOp qAddS (tOp qAddS (tOp qAddS (tC (.str "box ")) (tCB rStrI (tCons (tVar 3) (tNil)))) (tC (.str " "))) (tCB rStrI (tCons (tDGet (tVar 0) (tVar 3)) (tNil)))) [3])))
theorem pure_lines62 {K : PySem.W.Frag} (vs : List V) (H : Hp) (Q : VK) (E : XK) (h : spLines62 K vs H Q E) : t_lines62 K { nx := fun _ H' => Q .non H', rt := Q } (start ["boxes", "sizes", "found", "place"] vs) H := by
  obtain ⟨a, b, ps, ks, rfl, hA, hB, ap, ak, lp, lk, sp, sk, q⟩ := h
  refine seq_go2 (asg_go2 (lines_lc (w := wideW) rfl (by decide) hB ak lk sk rfl (fun _ => rfl) (fun _ => rfl) (fun _ => rfl) fun W H1 hW s1 w1 => ?_))
  refine ⟨_, rfl, lines_lc (w := boxW) rfl (by decide) (s1 _ _ hA) ap lp sp rfl (fun _ => rfl) (fun _ => rfl) (fun _ => rfl) fun W' H2 hW' s2 w2 => ?_⟩
  refine ⟨W, W', _, _, rfl, rfl, s2 _ _ w1, w2, ?_, fun D hD => ?_⟩
  · rw [List.length_map, List.length_map]
    exact Nat.le_trans (show _ ≤ 200 by omega) (by decide)
  refine q D _ (none_back (s1.trans s2) hD) ((s1.trans s2).trans (same_new hD)) (upd_same.trans ?_)
  unfold rowLs
  rw [List.map_append, List.map_map, List.map_map]
  rfl
end SR
set_option Elab.async false
set_option linter.all false
set_option maxRecDepth 100000
set_option maxHeartbeats 1000000
namespace SR
open PySem PySem.Spec PyProof.Rows L2
def mk : List Lx → Int
  | [] => 0
  | .z :: w => mk w
  | .o :: w => mk w
  | .m :: w => 1 + mk w
end SR
set_option Elab.async false
set_option linter.all false
set_option maxRecDepth 100000
set_option maxHeartbeats 1000000
namespace SR
open PySem PySem.Spec PyProof.Rows L2
def rs (F : Int → Int) : Int → Nat → Int
  | _, 0 => 0
  | a, n + 1 => F a + rs F (a + 1) n
end SR
set_option Elab.async false
set_option linter.all false
set_option maxRecDepth 100000
set_option maxHeartbeats 1000000
set_option Elab.async false
set_option linter.all false
set_option maxRecDepth 100000
set_option maxHeartbeats 1000000
set_option Elab.async false
set_option linter.all false
set_option maxRecDepth 100000
set_option maxHeartbeats 1000000
set_option Elab.async false
set_option linter.all false
set_option maxRecDepth 100000
set_option maxHeartbeats 1000000
set_option Elab.async false
set_option linter.all false
set_option maxRecDepth 100000
set_option maxHeartbeats 1000000
set_option Elab.async false
set_option linter.all false
set_option maxRecDepth 100000
set_option maxHeartbeats 2000000
set_option Elab.async false
set_option linter.all false
set_option maxRecDepth 100000
set_option maxHeartbeats 2000000
namespace SR
open PySem PySem.Spec PyProof.Rows L2
/-- what is known of a turn, its boxes drawn -/
structure B14 (qs ps ks : List (Int × Int)) (far : Int) : Prop where
  v : Vd ps ks
  pm : qs.Perm ps
  bd : ∀ p ∈ ps, -60 ≤ p.1 ∧ p.1 ≤ 250
  fk : far = 0 ∨ ks = []
  f1 : -(10 ^ 29) ≤ far
  f2 : far ≤ 10 ^ 29
section
variable {qs ps ks : List (Int × Int)} {far : Int}
theorem B14.nd (B : B14 qs ps ks far) : (qs.map Prod.fst).Nodup := (B.pm.map _).nodup_iff.mpr B.v.ok.nd
theorem B14.len (B : B14 qs ps ks far) : ps.length ≤ 40 := vd_len B.v
end
structure J14 (H : Hp) (d g c : Addr) (b : Nat) (qs ps ks : List (Int × Int)) (far : Int) (F Z : Addr) : Prop where
  S : StB H d g c b
  f : H F = some (.dK (kvsOf qs))
  z : H Z = some (.dK (kvsOf ks))
  B : B14 qs ps ks far
section
variable {K : PySem.W.Frag} {C : Addr} {N N2 N3 : L2.St → Hp → Prop} {R : VK} {H : Hp} {d g c F Z : Addr} {b : Nat} {qs ps ks : List (Int × Int)} {far : Int}
theorem J14.same {H' : Hp} (s : Same H H') (J : J14 H d g c b qs ps ks far F Z) : J14 H' d g c b qs ps ks far F Z := ⟨StB.same s J.S, s _ _ J.f, s _ _ J.z, J.B⟩
/-- what is known of the dict while it is filled -/
structure U14 (ks us : List (Int × Int)) (i : Nat) : Prop where
  nd : (us.map Prod.fst).Nodup
  ok : ∀ p ∈ us, 1 ≤ p.2 ∧ p.2 ≤ cap ks p.1
  bd : ∀ p ∈ us, -60 ≤ p.1 ∧ p.1 ≤ 60
  sm : total us ≤ 20 + 9 * (i : Int)
theorem U14.len {us : List (Int × Int)} {i : Nat} (u : U14 ks us i) : (us.length : Int) ≤ 20 + 9 * (i : Int) := by
  have h := len_sum fun p m => (u.ok p m).1
  have s := u.sm
  unfold total at s
  omega
end
end SR
set_option Elab.async false
set_option linter.all false
set_option maxRecDepth 100000
set_option maxHeartbeats 2000000
namespace SR
open PySem PySem.Spec PyProof.Rows L2 SX
def spShelf62 (K : PySem.W.Frag) : Sp := fun vs H Q _ => ∃ (d g c : Addr) (b : Nat), vs = [.ref d] ∧ StB H d g c (b + 66) ∧ ∀ T A B H' ps ks, StB H' d g c b → Kp d g H H' → H' T = some (.tup [.ref A, .ref B]) → H' A = some (.dK (kvsOf ps)) → H' B = some (.dK (kvsOf ks)) → RowOk ps ks → Asc ps → Asc ks → (∀ p ∈ ps, -(10 ^ 30) ≤ p.1 ∧ p.1 ≤ 10 ^ 30) → Q (.ref T) H'
def t_shelf62 (K : PySem.W.Frag) : TS := tSeq (tAsg (tCall (spSizes K) [] E0 (tCons (tVar 0) (tCons (tC (.int 6)) (tNil)))) (gName 1))
  (tRet (tTup (tCons (tCall (spBoxes K) [] E0 (tCons (tVar 0) (tCons (tVar 1) (tCons (tOp qAdd (tC (.int 1)) (tCall spTake [] E0 (tCons (tVar 0) (tCons (tC (.int 40)) (tNil))))) (tNil))))) (tCons (tVar 1) (tNil)))))
theorem pure_shelf62 {K : PySem.W.Frag} (vs : List V) (H : Hp) (Q : VK) (E : XK) (h : spShelf62 K vs H Q E) : t_shelf62 K { nx := fun _ H' => Q .non H', rt := Q } (start ["state", "sizes"] vs) H := by
  obtain ⟨d, g, c, b, rfl, S, q⟩ := h
  refine seq_go2 (asg_go2 ⟨_, rfl, d, g, c, b + 41, 6, rfl, S, by decide, by decide, fun B H1 ks S1 q1 b1 b2 b3 hB B1 ak ko kl => ?_⟩)
  refine ⟨_, rfl, _, rfl, _, rfl, d, g, c, b + 40, 40, rfl, S1, by decide, by decide, fun i H2 i0 i1 S2 q2 => ?_⟩
  refine ⟨_, _, rfl, rfl, ?_⟩
  have B2 := q2 _ _ b1 b2 B1
  refine ⟨d, g, c, b, B, 1 + i, ks, rfl, S2, b1, b2, b3, B2, asc_nd ak, ko, kl, by omega, by omega, fun A H3 ps S3 q3 a1 a2 a3 hA A3 ap po bd sm => ?_⟩
  have B3 := q3 _ _ b1 b2 B2
  refine ⟨_, rfl, (show 2 ≤ sizeLine by decide), fun T hT => ?_⟩
  have s := same_new (o := .tup [.ref A, .ref B]) hT
  have k : Kp d g H (upd H3 T (.tup [.ref A, .ref B])) := q1.trans (q2.trans (q3.trans (Kp.new hT)))
  exact q T A B _ ps ks (S3.new hT) k upd_same (s _ _ A3) (s _ _ B3) ⟨asc_nd ap, asc_nd ak, kl, ko, po, by omega⟩ ap ak bd
abbrev gkw_row_text {α : Type} (_ zs : List α) : List α := zs
theorem gkw_row_text_rel {vs zs : List V} {us ws : List Value} (_ : Vals vs us) (r : Vals zs ws) : Vals (gkw_row_text vs zs) (gkw_row_text us ws) := r
abbrev gkw_parse_row {α : Type} (_ zs : List α) : List α := zs
theorem gkw_parse_row_rel {vs zs : List V} {us ws : List Value} (_ : Vals vs us) (r : Vals zs ws) : Vals (gkw_parse_row vs zs) (gkw_parse_row us ws) := r
def spRight62 (K : PySem.W.Frag) (C : Addr) : Sp := fun vs H Q _ => ∃ a b ps ks, vs = [.ref a, .ref b] ∧ H a = some (.dK (kvsOf ps)) ∧ H b = some (.dK (kvsOf ks)) ∧ RowOk ps ks ∧ Asc ps ∧ Asc ks ∧ (∀ p ∈ ps, -(10 ^ 30) ≤ p.1 ∧ p.1 ≤ 10 ^ 30) ∧ ∀ H', Same H H' → Q (.bl true) H'
theorem e31 : (10 : Nat) ^ 31 = 10000000000000000000000000000000 := by decide
theorem e30t : (10 : Int) ^ 30 = 1000000000000000000000000000000 := by decide
theorem sml_ps {ps ks : List (Int × Int)} (ok : RowOk ps ks) (bd : ∀ p ∈ ps, -(10 ^ 30) ≤ p.1 ∧ p.1 ≤ 10 ^ 30) : Sml ps := fun p m => by
  have h1 := bd p m
  have h2 := ok.po p m
  have h3 := cap_ok ok.ko p.1
  have h4 := e31
  have h5 := e30t
  unfold Sml31
  constructor <;> omega
theorem sml_ks {ps ks : List (Int × Int)} (ok : RowOk ps ks) : Sml ks := fun p m => by
  have h1 := ok.ko p m
  unfold sizeOk at h1
  have h4 := e31
  unfold Sml31
  constructor <;> omega
def t_join62 (K : PySem.W.Frag) : TE := tBM K "str" (rJoinS K) (tC (.str "")) (tCons (tLc (iList K (tCall (spLines62 K) [] E0 (tCons (tVar 0) (tCons (tVar 1) (tNil))))) (gName 4) (tYes) (tOp qAddS (tVar 4) (tC (.str "\n"))) [4]) (tNil))
def t_end62 (K : PySem.W.Frag) (c_Row : Addr) : TS := tRet (tAndV (tCall (spShown62 K c_Row) [] E0 (tCons (tVar 5) (tCons (tVar 0) (tCons (tVar 1) (tNil))))) (tAndV (tOp (rEqR K c_Row) (tVar 5) (tVar 2)) (tAndV (tOp (rEqR K c_Row) (tKw 1 (spParseRow K c_Row) gkw_parse_row (fun _ => E0) tNil (tCons (tVar 3) (tNil))) (tVar 2)) (tOp rEq (tCall (spRowText K c_Row) [] E0 (tCons (tVar 5) (tNil))) (tVar 3)))))
def t_right62 (K : PySem.W.Frag) (c_Row : Addr) : TS := tSeq (tAsg (tCall (spMade K c_Row) [] E0 (tCons (tVar 0) (tCons (tVar 1) (tNil)))) (gName 2))
  (tSeq (tAsg (t_join62 K) (gName 3))
  (tSeq (tIfS (tOr (tTest (tOp rNe (tCall (spRowText K c_Row) [] E0 (tCons (tVar 2) (tNil))) (tVar 3))) (tTest (tOp rNe (tKw 1 (spRowText K c_Row) gkw_row_text (fun _ => E0) tNil (tCons (tVar 2) (tNil))) (tVar 3))))
  (tRet (tC (.bl false)))
  (tNext))
  (tSeq (tAsg (tCall (spParseRow K c_Row) [] E0 (tCons (tVar 3) (tNil))) (gName 5))
  (t_end62 K c_Row))))
theorem rowLs_mem {ps ks : List (Int × Int)} (sp : Sml ps) (sk : Sml ks) : ∀ l ∈ rowLs ps ks, l.length ≤ 70 := fun l hm => by
  unfold rowLs at hm
  rcases List.mem_append.mp hm with hm | hm
  · obtain ⟨t, mt, rfl⟩ := List.mem_map.mp hm
    exact lineL_len (w := wideW) (by decide) (sk t mt).1 (sk t mt).2
  · obtain ⟨t, mt, rfl⟩ := List.mem_map.mp hm
    exact lineL_len (w := boxW) (by decide) (sp t mt).1 (sp t mt).2
theorem join62 {K : PySem.W.Frag} {H : Hp} {a b : Addr} {ps ks : List (Int × Int)} {x2 x3 x5 : Option V} {Q : VK} (hA : H a = some (.dK (kvsOf ps))) (hB : H b = some (.dK (kvsOf ks))) (ok : RowOk ps ks) (ap : Asc ps) (ak : Asc ks) (sp : Sml ps) (sk : Sml ks)
    (q : ∀ H', Same H H' → Q (.str (S (rowL ps ks))) H') : t_join62 K [some (.ref a), some (.ref b), x2, x3, none, x5] H Q := by
  have l1 := ok.len
  have l2 := ok.kl
  have ll := rowLs_len ps ks
  refine ⟨rfl, cons1_go (lcV_c (ys := rowLs ps ks) (Cc := fun l H1 => Same H H1 ∧ H1 l = some (.lst ((rowLs ps ks).map fun l => V.str (S l)))) (fun _ => true) (fun l => V.str (S (l ++ [10]))) (fun R r => ?_) (fun l H1 hc => ?_) (by omega))⟩
  · exact ⟨_, rfl, _, rfl, a, b, ps, ks, rfl, hA, hB, ap, ak, by omega, by omega, sp, sk, fun D H2 hD s2 d2 => r D H2 ⟨s2, d2⟩⟩
  obtain ⟨s1, l1'⟩ := hc
  refine ⟨_, fun _ x t => x = .str (S t), SqL.of l1', fun i x hx => ?_, by rw [List.length_map], fun _ _ _ _ z => z, ?_, fun D H2 hD s2 d2 => ?_⟩
  · rw [List.getElem?_map] at hx
    obtain ⟨t, ht, rfl⟩ := Option.map_eq_some_iff.mp hx
    exact ⟨t, ht, rfl⟩
  · rintro x t H' Rt Rf s' rfl mt rt rf
    have h70 := rowLs_mem sp sk t mt
    refine ⟨rfl, yes_if ⟨_, rfl, _, _, rfl, rfl, ?_, ?_⟩⟩
    · rw [show Str.ofString "\n" = S [10] from rfl, S_len, S_len]
      exact Nat.le_trans (show t.length + 1 ≤ 100 by omega) (by decide)
    · rw [show Str.ofString "\n" = S [10] from rfl, S_cat]
      exact rt rfl _ fun _ _ z => z
  rw [all_true] at d2
  refine ⟨_, D, (rowLs ps ks).map (fun l => S (l ++ [10])), rfl, rfl, .inl (SqL.of (d2.trans ?_)), ?_, ?_⟩
  · rw [List.map_map]
    rfl
  · have h1 := sum_le71 (ls := (rowLs ps ks).map (fun l => S (l ++ [10]))) (fun l hl => by
      obtain ⟨t, mt, rfl⟩ := List.mem_map.mp hl
      have := rowLs_mem sp sk t mt
      rw [S_len, List.length_append]
      show _ + 1 ≤ 71
      omega)
    have h2 : ((rowLs ps ks).map (fun l => S (l ++ [10]))).length = ks.length + ps.length := by rw [List.length_map, ll]
    rw [h2] at h1 ⊢
    show _ + _ * 0 ≤ _
    omega
  · have e : Txt.join (Str.ofString "") ((rowLs ps ks).map (fun l => S (l ++ [10]))) = S (rowL ps ks) := by
      have e1 : (rowLs ps ks).map (fun l => S (l ++ [10])) = ((rowLs ps ks).map (· ++ [10])).map S := by
        rw [List.map_map]
        rfl
      rw [e1]
      show Txt.join (S []) _ = _
      rw [join_S, joinL_flat]
      rfl
    rw [e]
    exact q _ (s1.trans s2)
theorem end62 {K : PySem.W.Frag} {C : Addr} {H : Hp} {a b x y : Addr} {ps ks : List (Int × Int)} {x4 : Option V} {N : L2.St → Hp → Prop} {Q : VK} (hA : H a = some (.dK (kvsOf ps))) (hB : H b = some (.dK (kvsOf ks))) (ok : RowOk ps ks) (ap : Asc ps) (ak : Asc ks) (sp : Sml ps) (sk : Sml ks) (tp : Small ps) (tk : Small ks)
    (rx : RowAt K C H x ps ks) (ry : RowAt K C H y ps ks) (q : ∀ H', Same H H' → Q (.bl true) H') : t_end62 K C { nx := N, rt := Q } [some (.ref a), some (.ref b), some (.ref x), some (.str (S (rowL ps ks))), x4, some (.ref y)] H := by
  have l1 := ok.len
  have l2 := ok.kl
  refine ⟨_, rfl, _, rfl, _, rfl, y, a, b, ps, ks, rfl, ry, hA, hB, by omega, by omega, tp, tk, fun H7 s7 => ⟨true, rfl, iteT ?_⟩⟩
  refine ⟨_, rfl, _, rfl, y, x, ps, ks, rfl, rfl, ry.same s7, rx.same s7, fun H8 s8 => ⟨true, rfl, iteT ?_⟩⟩
  have s78 := Same.trans s7 s8
  refine ⟨_, rfl, rfl, ps, ks, rfl, ok, ap, ak, sp, sk, fun z H9 hz s9 rz => ?_⟩
  have s79 := Same.trans s78 s9
  refine ⟨_, rfl, z, x, ps, ks, rfl, rfl, rz, rx.same s79, fun H10 s10 => ⟨true, rfl, iteT ?_⟩⟩
  have s710 := Same.trans s79 s10
  refine ⟨_, rfl, y, ps, ks, rfl, ry.same s710, by omega, by omega, sp, sk, fun H11 s11 => ⟨_, rfl, rfl, ?_⟩⟩
  rw [decide_eq_true rfl]
  exact q _ (Same.trans s710 s11)
@[irreducible] def xEnd62 := @t_end62
theorem xEnd62_eq : @xEnd62 = @t_end62 := by
  unfold xEnd62
  rfl
@[irreducible] def xJoin62 := @t_join62
theorem xJoin62_eq : @xJoin62 = @t_join62 := by
  unfold xJoin62
  rfl
theorem pure_right62 {K : PySem.W.Frag} {C : Addr} (vs : List V) (H : Hp) (Q : VK) (E : XK) (h : spRight62 K C vs H Q E) : t_right62 K C { nx := fun _ H' => Q .non H', rt := Q } (start ["boxes", "sizes", "shelf", "due", "line", "back"] vs) H := by
  obtain ⟨a, b, ps, ks, rfl, hA, hB, ok, ap, ak, bd, q⟩ := h
  have sp := sml_ps ok bd
  have sk := sml_ks ok
  have tp : Small ps := vd_small ⟨ok, ap, ak⟩ fun p m => by
    have := bd p m
    have b1 := e30t
    have b2 : (10 : Int) ^ 31 = 10000000000000000000000000000000 := by decide
    omega
  have tk : Small ks := sizes_small ⟨ok, ap, ak⟩
  have l1 := ok.len
  have l2 := ok.kl
  unfold t_right62
  rw [← xJoin62_eq, ← xEnd62_eq]
  refine ⟨_, rfl, _, rfl, a, b, ps, ks, rfl, hA, hB, ok, ap, ak, fun x H1 hx s1 row => ?_⟩
  show xJoin62 K [some (.ref a), some (.ref b), some (.ref x), none, none, none] H1 _
  rw [xJoin62_eq]
  refine join62 (s1 _ _ hA) (s1 _ _ hB) ok ap ak sp sk fun H3 s3 => ?_
  have row3 := row.same s3
  refine ⟨_, rfl, x, ps, ks, rfl, row3, by omega, by omega, sp, sk, fun H4 s4 => ⟨_, rfl, rfl, _, rfl, ?_⟩⟩
  rw [show (!decide (V.str (S (rowL ps ks)) = V.str (S (rowL ps ks)))) = false by rw [decide_eq_true rfl]; rfl]
  refine iteF ⟨_, rfl, rfl, x, ps, ks, rfl, row3.same s4, by omega, by omega, sp, sk, fun H5 s5 => ⟨_, rfl, rfl, _, rfl, ?_⟩⟩
  rw [show (!decide (V.str (S (rowL ps ks)) = V.str (S (rowL ps ks)))) = false by rw [decide_eq_true rfl]; rfl]
  refine iteF ⟨_, rfl, ps, ks, rfl, ok, ap, ak, sp, sk, fun y H6 hy s6 ry => ?_⟩
  show xEnd62 K C _ [some (.ref a), some (.ref b), some (.ref x), some (.str (S (rowL ps ks))), none, some (.ref y)] H6
  rw [xEnd62_eq]
  have s36 := Same.trans s4 (Same.trans s5 s6)
  have s16 := Same.trans s3 s36
  have s06 := Same.trans s1 s16
  exact end62 (s06 _ _ hA) (s06 _ _ hB) ok ap ak sp sk tp tk (row3.same s36) ry fun H' s' => q H' (Same.trans s06 s')
end SR
set_option Elab.async false
set_option linter.all false
set_option maxRecDepth 100000
set_option maxHeartbeats 2000000
namespace SR
open PySem PySem.Spec PyProof.Rows L2 SX
def t_turn62 (K : PySem.W.Frag) (C : Addr) : TS := (tSeq (tAsg (tCall (spShelf62 K) [] E0 (tCons (tVar 1) (tNil))) (gTup K 2 (gCons (gName 3) (gCons (gName 4) (gNil)))))
  (tIfS (tOr (tNot (tB (tCall (spRight62 K C) [] E0 (tCons (tVar 3) (tCons (tVar 4) (tNil)))))) (tNot (tB (tCall (spRight62 K C) [] E0 (tCons (tDNewK) (tCons (tVar 4) (tNil)))))))
  (tRet (tC (.bl false)))
  (tNext)))
def t_fin62 (K : PySem.W.Frag) (a00 a0 C : Addr) : TS := (tRet (tAndV (tOp rEq (tCall (spRowText K C) [] E0 (tCons (tMake C (spRowInit K C) [.ref a00, .ref a0] E0 tNil) (tNil))) (tC (.str ""))) (tAndV (tOp (rEqR K C) (tCall (spParseRow K C) [] E0 (tCons (tC (.str "")) (tNil))) (tMake C (spRowInit K C) [.ref a00, .ref a0] E0 tNil)) (tCall (spRight62 K C) [] E0 (tCons (tDNewK) (tCons (tDNewK) (tNil)))))))
def t_law62 (K : PySem.W.Frag) (a00 a0 C : Addr) : TS := tSeq (tAsg (tCall (spBegun K) [] E0 (tCons (tVar 0) (tNil))) (gName 1))
  (tSeq (tFor (iRng1 (tCons (tOp qAdd (tC (.int 6)) (tCB qMin2 (tCons (tC (.int 20)) (tCons (tCB (qLen K) (tCons (tVar 0) (tNil))) (tNil))))) (tNil))) (gName 2)
  (t_turn62 K C))
  (t_fin62 K a00 a0 C))
@[irreducible] def xTurn62 := @t_turn62
theorem xTurn62_eq : @xTurn62 = @t_turn62 := by
  unfold xTurn62
  rfl
@[irreducible] def xFin62 := @t_fin62
theorem xFin62_eq : @xFin62 = @t_fin62 := by
  unfold xFin62
  rfl
theorem ok_empty {ps ks : List (Int × Int)} (ok : RowOk ps ks) : RowOk [] ks where
  nd := .nil
  kd := ok.kd
  kl := ok.kl
  ko := ok.ko
  po := fun p m => nomatch m
  sm := by decide
theorem ok_00 : RowOk [] [] where
  nd := .nil
  kd := .nil
  kl := by decide
  ko := fun p m => nomatch m
  po := fun p m => nomatch m
  sm := by decide
theorem turn62 {K : PySem.W.Frag} {C : Addr} {H : Hp} {d g c : Addr} {b : Nat} {x0 x2 x3 x4 : Option V} {N N2 N3 : L2.St → Hp → Prop} {R : VK} (S : StB H d g c (b + 66))
    (hN : ∀ y3 y4 H', StB H' d g c b → N [x0, some (.ref d), x2, y3, y4] H') : t_turn62 K C { nx := N, rt := R, bk := N2, ct := N3 } [x0, some (.ref d), x2, x3, x4] H := by
  refine ⟨_, rfl, d, g, c, b, rfl, S, fun T A B H1 ps ks S1 q1 T1 A1 B1 ok ap ak bd => ?_⟩
  refine ⟨T, _, rfl, SqT.of T1, rfl, _, _, rfl, _, _, rfl, rfl, ?_⟩
  refine ⟨_, rfl, _, rfl, A, B, ps, ks, rfl, A1, B1, ok, ap, ak, bd, fun H2 s2 => ⟨_, rfl, iteF ?_⟩⟩
  refine fun P hP => ⟨_, rfl, P, B, [], ks, rfl, upd_same, same_new hP _ _ (s2 _ _ B1), ok_empty ok, .nil, ak, (fun p m => nomatch m), fun H3 s3 => ⟨_, rfl, iteF ?_⟩⟩
  exact hN _ _ H3 (StB.same (Same.trans s2 (Same.trans (same_new hP) s3)) S1)
theorem mk62 {K : PySem.W.Frag} {C a00 a0 : Addr} {σ : L2.St} {H : Hp} {Rt : VK} (hE0 : BareK K a00 []) (hE : BareK K a0 []) (r : ∀ x H', Same H H' → RowAt K C H' x [] [] → Rt (.ref x) H') : tMake C (spRowInit K C) [.ref a00, .ref a0] E0 tNil σ H Rt := by
  have e1 : PairsAt K H a00 [] := ⟨[], .inr (.inr hE0), .nil⟩
  have e2 : PairsAt K H a0 [] := ⟨[], .inr (.inr hE), .nil⟩
  refine make_go (nil0_go ?_)
  refine make_row (C := C) (E := E0) (Q := Rt) e1 e2 ok_00 fun x H2 qs ls hx s2 row p1 p2 _ _ => ?_
  have eq1 : qs = [] := List.Perm.eq_nil p1
  have eq2 : ls = [] := List.Perm.eq_nil p2
  subst eq1 eq2
  exact r x H2 s2 row
theorem tc_go62 {sp : Sp} {dvs : List V} {E : XK} {t : TA} {σ : L2.St} {H : Hp} {Q : VK} (h : t σ H fun vs H1 => sp (vs ++ dvs) H1 Q E) : tCall sp dvs E t σ H Q := h
theorem sml_nil : Sml [] := fun p m => nomatch m
theorem fin62 {K : PySem.W.Frag} {C a00 a0 : Addr} {σ : L2.St} {H : Hp} {N N2 N3 : L2.St → Hp → Prop} {Q : VK} (hE0 : BareK K a00 []) (hE : BareK K a0 []) (q : ∀ H', Q (.bl true) H') : t_fin62 K a00 a0 C { nx := N, rt := Q, bk := N2, ct := N3 } σ H := by
  refine ret_go2 (and_go2 (op_go (tc_go62 (cons1_go (mk62 hE0 hE fun x H1 s1 rx => ?_)))))
  refine ⟨x, [], [], rfl, rx, by decide, by decide, sml_nil, sml_nil, fun H2 s2 => ⟨rfl, _, rfl, ?_⟩⟩
  rw [show decide (V.str (S (rowL [] [])) = V.str (Str.ofString "")) = true from rfl]
  refine iteT (and_go2 (op_go ?_))
  refine ⟨[], [], rfl, ok_00, .nil, .nil, sml_nil, sml_nil, fun y H3 hy s3 ry => ?_⟩
  refine mk62 hE0 hE fun z H4 s4 rz => ?_
  refine ⟨y, z, [], [], rfl, rfl, ry.same s4, rz, fun H5 s5 => ⟨true, rfl, iteT ?_⟩⟩
  refine fun P hP P' hP' => ⟨P, P', [], [], rfl, same_new hP' _ _ upd_same, upd_same, ok_00, .nil, .nil, (fun p m => nomatch m), fun H' _ => q H'⟩
theorem pure_law62 {K : PySem.W.Frag} {C a00 a0 : Addr} (hE0 : BareK K a00 []) (hE : BareK K a0 []) (vs : List V) (H : Hp) (Q : VK) (E : XK) (h : spLaw K vs H Q E) : t_law62 K a00 a0 C { nx := fun _ H' => Q .non H', rt := Q } (start ["script", "state", "turn", "boxes", "sizes"] vs) H := by
  obtain ⟨a, ns, rfl, hL, hlen, k⟩ := h
  unfold t_law62
  rw [← xTurn62_eq, ← xFin62_eq]
  refine ⟨_, rfl, a, ns, rfl, hL, hlen, fun d g c H1 S1 e1 _ _ _ => ?_⟩
  have hL1 : SqL K H1 a (ns.map V.int) := Same.seq e1 hL
  refine ⟨_, rfl, a, _, rfl, .inl hL1, _, _, rfl, _, _, rfl, rfl, _, rfl, ?_, ?_, ?_⟩
  · split <;> omega
  · split <;> omega
  have hn : (6 + (if ((ns.map V.int).length : Int) < 20 then ((ns.map V.int).length : Int) else 20)).toNat ≤ 26 := by
    split <;> omega
  generalize (6 + (if ((ns.map V.int).length : Int) < 20 then ((ns.map V.int).length : Int) else 20)).toNat = n at hn ⊢
  refine for_range (lo := 0) (n := n) (fun i σ H2 => StB H2 d g c (5000 - 66 * i) ∧ ∃ x2 x3 x4, σ = [some (.ref a), some (.ref d), x2, x3, x4]) ⟨S1.mono (by decide), _, _, _, rfl⟩ ?_ ?_
  · rintro i σ H2 hi ⟨S2, x2, x3, x4, rfl⟩
    have e : 5000 - 66 * i = (5000 - 66 * (i + 1)) + 66 := by omega
    rw [e] at S2
    show xTurn62 K C _ [some (.ref a), some (.ref d), some (.int (0 + i)), x3, x4] H2
    rw [xTurn62_eq]
    exact turn62 S2 fun y3 y4 H' S' => ⟨S', _, _, _, rfl⟩
  · rintro σ H2 _
    rw [xFin62_eq]
    exact fin62 hE0 hE k
end SR
set_option Elab.async false
set_option linter.all false
set_option maxRecDepth 100000
set_option maxHeartbeats 2000000
namespace SR
open PySem PySem.Spec PyProof.Rows L2
/-- a def that is called without its last arguments -/
structure KnDf (P : Program) (w : World) (K : PySem.W.Frag) (mg : Str → Option Value) (base : Heap) (CX : CXT) (k : Nat) (x : Str) (ps : List Str) (sp : Sp) (dvs : List V) : Prop where
  ex : ∃ f fd ds, FnOk P w K mg base CX k f fd ps sp ∧ mg x = some (.ref f) ∧ PySem.W.keepIn K (.ref f) = true ∧ L2.Binds K fd ps ds ∧ Vals dvs ds
theorem pe_kDf {X : Cx} {CX : CXT} {k j : Nat} {ps : List Str} {sp : Sp} {dvs : List V} {E : XK} {x : Str} {p pos : Pos} {e : Expr} {es : List Expr} {t : TA} (c : KnDf X.prog X.w X.K X.mg X.base CX k x ps sp dvs) (hr : Room j X.A) (hk : k ≤ j) (hg : Gl X x) (hx : Passes CX X E) (ha : PA X (e :: es) t) (hdb : (x == ("__debug__" : Str)) = false := by decide)
    (he : starEach (e :: es) X.env = (false, eval e X.env) :: starEach es X.env := by rfl) (hpl : (backTo pos (starEach es X.env)).any (·.1) = false := by rfl) : PE X (.Call (.Name x p) (e :: es) [] pos) (tCall sp dvs E t) := by
  obtain ⟨f, fd, ds, F, hm, kp, b, dv⟩ := c.ex
  exact pe_call F (hr.mono hk) hg hm kp b dv hx ha hdb he hpl
end SR
set_option Elab.async false
set_option linter.all false
set_option maxRecDepth 100000
set_option maxHeartbeats 8000000
namespace SR
open PySem PySem.Spec PyProof.Rows L2
def topS (i : Nat) : Stmt := PySem.Challenge.pw_scooprow_k62_rows_written_and_read.main.body.getD i (.Pass ⟨0, 0, 0, 0⟩)
abbrev s_is_integer : Stmt := topS 13
abbrev s_is_between : Stmt := topS 14
abbrev s_is_pair : Stmt := topS 15
abbrev s_are_pairs : Stmt := topS 16
abbrev s_is_wide_box : Stmt := topS 17
abbrev s_are_capacities : Stmt := topS 18
abbrev s_are_contents : Stmt := topS 19
abbrev s_is_row_like : Stmt := topS 20
abbrev s_Row_init : Stmt := inClass (topS 21) 0
abbrev s_Row_contents : Stmt := inClass (topS 21) 1
abbrev s_Row_capacities : Stmt := inClass (topS 21) 2
abbrev s_Row_eq : Stmt := inClass (topS 21) 7
abbrev s_integer_in : Stmt := topS 24
abbrev s_row_text : Stmt := topS 25
abbrev s_pair_in : Stmt := topS 26
abbrev s_with_line : Stmt := topS 27
abbrev s_parse_row : Stmt := topS 28
abbrev s_begun : Stmt := topS 30
abbrev s_mixed : Stmt := topS 31
abbrev s_take : Stmt := topS 32
abbrev s_pick : Stmt := topS 33
abbrev s_sizes : Stmt := topS 34
abbrev s_boxes : Stmt := topS 35
abbrev s_made : Stmt := topS 36
abbrev s_shown : Stmt := topS 37
abbrev s_shelf : Stmt := topS 38
abbrev s_lines : Stmt := topS 39
abbrev s_right : Stmt := topS 40
abbrev s_law : Stmt := topS 41
theorem sc_is_integer : FnScope ["value"] ["value"] (defScope s_is_integer) := ⟨rfl, rfl, rfl, by decide +kernel, rfl, by decide +kernel, by decide +kernel⟩
theorem sc_is_between : FnScope ["value", "low", "high"] ["value", "low", "high"] (defScope s_is_between) := ⟨rfl, rfl, rfl, by decide +kernel, rfl, by decide +kernel, by decide +kernel⟩
theorem sc_is_pair : FnScope ["value"] ["value"] (defScope s_is_pair) := ⟨rfl, rfl, rfl, by decide +kernel, rfl, by decide +kernel, by decide +kernel⟩
theorem sc_are_pairs : FnScope ["value", "part", "first", "_"] ["value"] (defScope s_are_pairs) := ⟨rfl, rfl, rfl, by decide +kernel, rfl, by decide +kernel, by decide +kernel⟩
theorem sc_is_wide_box : FnScope ["index", "capacity"] ["index", "capacity"] (defScope s_is_wide_box) := ⟨rfl, rfl, rfl, by decide +kernel, rfl, by decide +kernel, by decide +kernel⟩
theorem sc_are_capacities : FnScope ["value", "index", "capacity"] ["value"] (defScope s_are_capacities) := ⟨rfl, rfl, rfl, by decide +kernel, rfl, by decide +kernel, by decide +kernel⟩
theorem sc_are_contents : FnScope ["value", "capacities", "wide", "index", "count", "_"] ["value", "capacities"] (defScope s_are_contents) := ⟨rfl, rfl, rfl, by decide +kernel, rfl, by decide +kernel, by decide +kernel⟩
theorem sc_is_row_like : FnScope ["contents", "capacities"] ["contents", "capacities"] (defScope s_is_row_like) := ⟨rfl, rfl, rfl, by decide +kernel, rfl, by decide +kernel, by decide +kernel⟩
theorem sc_Row_init : FnScope ["self", "contents", "capacities"] ["self", "contents", "capacities"] (defScope s_Row_init) := ⟨rfl, rfl, rfl, by decide +kernel, rfl, by decide +kernel, by decide +kernel⟩
theorem sc_Row_contents : FnScope ["self"] ["self"] (defScope s_Row_contents) := ⟨rfl, rfl, rfl, by decide +kernel, rfl, by decide +kernel, by decide +kernel⟩
theorem sc_Row_capacities : FnScope ["self"] ["self"] (defScope s_Row_capacities) := ⟨rfl, rfl, rfl, by decide +kernel, rfl, by decide +kernel, by decide +kernel⟩
theorem sc_Row_eq : FnScope ["self", "other"] ["self", "other"] (defScope s_Row_eq) := ⟨rfl, rfl, rfl, by decide +kernel, rfl, by decide +kernel, by decide +kernel⟩
theorem sc_integer_in : FnScope ["word", "most_digits", "digits", "digit"] ["word", "most_digits"] (defScope s_integer_in) := ⟨rfl, rfl, rfl, by decide +kernel, rfl, by decide +kernel, by decide +kernel⟩
theorem sc_row_text : FnScope ["row", "lines", "index", "capacity", "count"] ["row"] (defScope s_row_text) := ⟨rfl, rfl, rfl, by decide +kernel, rfl, by decide +kernel, by decide +kernel⟩
theorem sc_pair_in : FnScope ["words", "first", "second", "word"] ["words"] (defScope s_pair_in) := ⟨rfl, rfl, rfl, by decide +kernel, rfl, by decide +kernel, by decide +kernel⟩
theorem sc_with_line : FnScope ["contents", "capacities", "line", "words", "pair", "told"] ["contents", "capacities", "line"] (defScope s_with_line) := ⟨rfl, rfl, rfl, by decide +kernel, rfl, by decide +kernel, by decide +kernel⟩
theorem sc_parse_row : FnScope ["text", "lines", "last", "so_far", "k", "line"] ["text"] (defScope s_parse_row) := ⟨rfl, rfl, rfl, by decide +kernel, rfl, by decide +kernel, by decide +kernel⟩
theorem sc_begun : FnScope ["script", "wide", "cell"] ["script"] (defScope s_begun) := ⟨rfl, rfl, rfl, by decide +kernel, rfl, by decide +kernel, by decide +kernel⟩
theorem sc_mixed : FnScope ["state", "turn", "found", "prime", "blend", "cell"] ["state"] (defScope s_mixed) := ⟨rfl, rfl, rfl, by decide +kernel, rfl, by decide +kernel, by decide +kernel⟩
theorem sc_take : FnScope ["state", "size", "found"] ["state", "size"] (defScope s_take) := ⟨rfl, rfl, rfl, by decide +kernel, rfl, by decide +kernel, by decide +kernel⟩
theorem sc_pick : FnScope ["state", "some"] ["state", "some"] (defScope s_pick) := ⟨rfl, rfl, rfl, by decide +kernel, rfl, by decide +kernel, by decide +kernel⟩
theorem sc_sizes : FnScope ["state", "most", "found", "turn", "place"] ["state", "most"] (defScope s_sizes) := ⟨rfl, rfl, rfl, by decide +kernel, rfl, by decide +kernel, by decide +kernel⟩
theorem sc_boxes : FnScope ["state", "sizes", "most", "place", "found", "left", "turn", "step", "count"] ["state", "sizes", "most"] (defScope s_boxes) := ⟨rfl, rfl, rfl, by decide +kernel, rfl, by decide +kernel, by decide +kernel⟩
theorem sc_made : FnScope ["boxes", "sizes"] ["boxes", "sizes"] (defScope s_made) := ⟨rfl, rfl, rfl, by decide +kernel, rfl, by decide +kernel, by decide +kernel⟩
theorem sc_shown : FnScope ["shelf", "boxes", "sizes"] ["shelf", "boxes", "sizes"] (defScope s_shown) := ⟨rfl, rfl, rfl, by decide +kernel, rfl, by decide +kernel, by decide +kernel⟩
theorem sc_shelf : FnScope ["state", "sizes"] ["state"] (defScope s_shelf) := ⟨rfl, rfl, rfl, by decide +kernel, rfl, by decide +kernel, by decide +kernel⟩
theorem sc_lines : FnScope ["boxes", "sizes", "found", "place"] ["boxes", "sizes"] (defScope s_lines) := ⟨rfl, rfl, rfl, by decide +kernel, rfl, by decide +kernel, by decide +kernel⟩
theorem sc_right : FnScope ["boxes", "sizes", "shelf", "due", "line", "back"] ["boxes", "sizes"] (defScope s_right) := ⟨rfl, rfl, rfl, by decide +kernel, rfl, by decide +kernel, by decide +kernel⟩
theorem sc_law : FnScope ["script", "state", "turn", "boxes", "sizes"] ["script"] (defScope s_law) := ⟨rfl, rfl, rfl, by decide +kernel, rfl, by decide +kernel, by decide +kernel⟩
structure Tx (K : PySem.W.Frag) (mg : Str → Option Value) (c_Row : Addr) : Prop where
  n_isinstance : mg "isinstance" = none
  n_int : mg "int" = none
  n_bool : mg "bool" = none
  n_list : mg "list" = none
  n_tuple : mg "tuple" = none
  n_all : mg "all" = none
  n_len : mg "len" = none
  n_dict : mg "dict" = none
  n_sum : mg "sum" = none
  n_sorted : mg "sorted" = none
  n_range : mg "range" = none
  n_min : mg "min" = none
  n_max : mg "max" = none
  n_repr : mg "repr" = none
  n_enumerate : mg "enumerate" = none
  n_str : mg "str" = none
  c_FIRST_WIDE_INDEX : ∃ u, mg "FIRST_WIDE_INDEX" = some u ∧ RelV (.int (-60)) u
  c_LAST_WIDE_INDEX : ∃ u, mg "LAST_WIDE_INDEX" = some u ∧ RelV (.int (60)) u
  c_LEAST_WIDE_CAPACITY : ∃ u, mg "LEAST_WIDE_CAPACITY" = some u ∧ RelV (.int (2)) u
  c_GREATEST_WIDE_CAPACITY : ∃ u, mg "GREATEST_WIDE_CAPACITY" = some u ∧ RelV (.int (9)) u
  c_MOST_WIDE_BOXES : ∃ u, mg "MOST_WIDE_BOXES" = some u ∧ RelV (.int (6)) u
  c_MOST_ITEMS : ∃ u, mg "MOST_ITEMS" = some u ∧ RelV (.int (40)) u
  g_Row : mg "Row" = some (.ref c_Row)
section
variable {P : Program} {w : World} {K : PySem.W.Frag} {mg : Str → Option Value} {base : Heap} {c_Row : Addr}
theorem dfn_is_integer (T : Tx K mg c_Row) {f : Addr} {fd : FuncData} (F : FunD K "is_integer" "is_integer" (defArgs s_is_integer) (defBody s_is_integer) (defScope s_is_integer) [] [] f fd) :
    FnOk P w K mg base CX0 1 f fd ["value"] (spIsInt K) := by
  have D : ∀ (cdv : Value) (A : Around) (outer : List Env) (s : Shared) (H : Hp) (vs : List V) (Q : VK) (E : XK), Room 0 (A.deeper (envOfC "is_integer" (defScope s_is_integer) s.heap.objs.size f cdv)) → (spIsInt K) vs H Q E →
      ∃ t, PSs (cxOf CX0 P w K mg base ["value"] "is_integer" (defScope s_is_integer) f cdv A outer s H E) (defBody s_is_integer) t ∧ t { nx := fun _ H' => Q .non H', rt := Q } (start ["value"] vs) H := by
    intro cdv A outer s H vs Q E hr h
    refine ⟨t_is_integer K, PSs.nox ?_, pure_is_integer vs H Q E h⟩
    exact pss_one (ps_ret (pe_and (pe_callB call_isi (by rfl) T.n_isinstance PyProof.Rows.boot_isinstance (pa_cons (pv 0) (pa_cons (pe_bltn (v := .ty "int") (by rfl) T.n_int (by decide +kernel) rfl) pa_nil))) (pe_one (pe_not (pe_callB call_isi (by rfl) T.n_isinstance PyProof.Rows.boot_isinstance (pa_cons (pv 0) (pa_cons (pe_bltn (v := .ty "bool") (by rfl) T.n_bool (by decide +kernel) rfl) pa_nil)))))))
  exact F.ok sc_is_integer (fun vs H Q E h => by
    repeat (first | (obtain ⟨rfl, _⟩ := h; rfl) | obtain ⟨_, h⟩ := h)) D
theorem dfn_is_between (T : Tx K mg c_Row) (C_is_integer : Kn P w K mg base CX0 1 "is_integer" ["value"] (spIsInt K)) {f : Addr} {fd : FuncData} (F : FunD K "is_between" "is_between" (defArgs s_is_between) (defBody s_is_between) (defScope s_is_between) [] [] f fd) :
    FnOk P w K mg base CX0 2 f fd ["value", "low", "high"] (spBetween K) := by
  have D : ∀ (cdv : Value) (A : Around) (outer : List Env) (s : Shared) (H : Hp) (vs : List V) (Q : VK) (E : XK), Room 1 (A.deeper (envOfC "is_between" (defScope s_is_between) s.heap.objs.size f cdv)) → (spBetween K) vs H Q E →
      ∃ t, PSs (cxOf CX0 P w K mg base ["value", "low", "high"] "is_between" (defScope s_is_between) f cdv A outer s H E) (defBody s_is_between) t ∧ t { nx := fun _ H' => Q .non H', rt := Q } (start ["value", "low", "high"] vs) H := by
    intro cdv A outer s H vs Q E hr h
    refine ⟨t_is_between K, PSs.nox ?_, pure_is_between vs H Q E h⟩
    exact pss_one (ps_ret (pe_and (pe_k C_is_integer hr (by decide) rfl pass0 (pa_cons (pv 0) (pa_nil))) (pe_one (pe_chain op_le op_le (pv 1) (pv 0) (pv 2)))))
  exact F.ok sc_is_between (fun vs H Q E h => by
    repeat (first | (obtain ⟨rfl, _⟩ := h; rfl) | obtain ⟨_, h⟩ := h)) D
theorem dfn_is_pair (T : Tx K mg c_Row) (C_is_integer : Kn P w K mg base CX0 1 "is_integer" ["value"] (spIsInt K)) {f : Addr} {fd : FuncData} (F : FunD K "is_pair" "is_pair" (defArgs s_is_pair) (defBody s_is_pair) (defScope s_is_pair) [] [] f fd) :
    FnOk P w K mg base CX0 2 f fd ["value"] (spIsPair K) := by
  have D : ∀ (cdv : Value) (A : Around) (outer : List Env) (s : Shared) (H : Hp) (vs : List V) (Q : VK) (E : XK), Room 1 (A.deeper (envOfC "is_pair" (defScope s_is_pair) s.heap.objs.size f cdv)) → (spIsPair K) vs H Q E →
      ∃ t, PSs (cxOf CX0 P w K mg base ["value"] "is_pair" (defScope s_is_pair) f cdv A outer s H E) (defBody s_is_pair) t ∧ t { nx := fun _ H' => Q .non H', rt := Q } (start ["value"] vs) H := by
    intro cdv A outer s H vs Q E hr h
    refine ⟨t_is_pair K, PSs.nox ?_, pure_is_pair vs H Q E h⟩
    exact pss_cons (ps_if (PW.pt (pw_or (pt_not (pt_val (pe_callB call_isi (by rfl) T.n_isinstance PyProof.Rows.boot_isinstance (pa_cons (pv 0) (pa_cons (pe_bltn (v := .ty "tuple") (by rfl) T.n_tuple (by decide +kernel) rfl) pa_nil))))) (pw_or1 (pt_cmpR op_ne (pe_callB call_len_seq (by rfl) T.n_len PySem.boot_len (pa_cons (pv 0) (pa_nil))) (pe_int) (nomark _)))))
      (pss_one (ps_ret (pe_bl)))
      (pss_nil))
      (pss_one (ps_ret (pe_and (pe_k C_is_integer hr (by decide) rfl pass0 (pa_cons (pe_ix ix_tup (pv 0) (pe_int) (fun _ _ => rfl)) (pa_nil))) (pe_one (pe_k C_is_integer hr (by decide) rfl pass0 (pa_cons (pe_ix ix_tup (pv 0) (pe_int) (fun _ _ => rfl)) (pa_nil)))))))
  exact F.ok sc_is_pair (fun vs H Q E h => by
    repeat (first | (obtain ⟨rfl, _⟩ := h; rfl) | obtain ⟨_, h⟩ := h)) D
theorem dfn_are_pairs (T : Tx K mg c_Row) (C_is_pair : Kn P w K mg base CX0 2 "is_pair" ["value"] (spIsPair K)) {f : Addr} {fd : FuncData} (F : FunD K "are_pairs" "are_pairs" (defArgs s_are_pairs) (defBody s_are_pairs) (defScope s_are_pairs) [] [] f fd) :
    FnOk P w K mg base CX0 3 f fd ["value"] (spArePairs K) := by
  have D : ∀ (cdv : Value) (A : Around) (outer : List Env) (s : Shared) (H : Hp) (vs : List V) (Q : VK) (E : XK), Room 2 (A.deeper (envOfC "are_pairs" (defScope s_are_pairs) s.heap.objs.size f cdv)) → (spArePairs K) vs H Q E →
      ∃ t, PSs (cxOf CX0 P w K mg base ["value", "part", "first", "_"] "are_pairs" (defScope s_are_pairs) f cdv A outer s H E) (defBody s_are_pairs) t ∧ t { nx := fun _ H' => Q .non H', rt := Q } (start ["value", "part", "first", "_"] vs) H := by
    intro cdv A outer s H vs Q E hr h
    refine ⟨t_are_pairs w K, PSs.nox ?_, pure_are_pairs vs H Q E h⟩
    exact pss_cons (ps_if (pt_not (pt_val (pe_callB call_isiT (by rfl) T.n_isinstance PyProof.Rows.boot_isinstance (pa_cons (pv 0) (pa_cons (pe_tup (pa_cons (pe_bltn (v := .ty "list") (by rfl) T.n_list (by decide +kernel) rfl) (pa_cons (pe_bltn (v := .ty "tuple") (by rfl) T.n_tuple (by decide +kernel) rfl) (pa_nil)))) pa_nil)))))
      (pss_one (ps_ret (pe_bl)))
      (pss_nil))
      (pss_cons (ps_if (pt_not (pt_val (pe_callB (cr_all rfl) (by rfl) T.n_all (by decide +kernel) (pa_cons (pe_lc (own := [("part", 1)]) (g := gName 1) (tt := tYes) rfl sc_are_pairs.nd (pi_or (pi_list (pv 0)) (pi_tup (pv 0))) (blkOk_by (own := [("part", 1)]) (N := ["value", "part", "first", "_"]) (sc := defScope s_are_pairs) (by decide +kernel)) (fun _ _ _ _ _ => pg_name (i := 1) sc_are_pairs.nd rfl (Or.inl rfl)) (fun _ _ _ _ _ => pts_nil) (fun _ _ _ _ _ => pe_k C_is_pair hr (by decide) rfl pass0 (pa_cons (pv 1) (pa_nil)))) (pa_nil)))))
      (pss_one (ps_ret (pe_bl)))
      (pss_nil))
      (pss_one (ps_ret (pe_cmpR op_eq (pe_callB cr_lenSet (by rfl) T.n_len PySem.boot_len (pa_cons (pe_scN (own := [("first", 2), ("_", 3)]) (g := gTup K 2 (gCons (gName 2) (gCons (gName 3) (gNil)))) (tt := tYes) rfl sc_are_pairs.nd (pi_or (pi_list (pv 0)) (pi_tup (pv 0))) (blkOk_by (own := [("first", 2), ("_", 3)]) (N := ["value", "part", "first", "_"]) (sc := defScope s_are_pairs) (by decide +kernel)) (fun _ _ _ _ _ => pg_tup rfl (pgs_cons (pg_name (i := 2) sc_are_pairs.nd rfl (Or.inl rfl)) (pgs_cons (pg_name (i := 3) sc_are_pairs.nd rfl (Or.inl rfl)) (pgs_nil)))) (fun _ _ _ _ _ => pts_nil) (fun _ _ _ _ _ => pv 2)) (pa_nil))) (pe_callB call_len_seq (by rfl) T.n_len PySem.boot_len (pa_cons (pv 0) (pa_nil))) (nomark _)))))
  exact F.ok sc_are_pairs (fun vs H Q E h => by
    repeat (first | (obtain ⟨rfl, _⟩ := h; rfl) | obtain ⟨_, h⟩ := h)) D
theorem dfn_is_wide_box (T : Tx K mg c_Row) (C_is_between : Kn P w K mg base CX0 2 "is_between" ["value", "low", "high"] (spBetween K)) {f : Addr} {fd : FuncData} (F : FunD K "_is_wide_box" "_is_wide_box" (defArgs s_is_wide_box) (defBody s_is_wide_box) (defScope s_is_wide_box) [] [] f fd) :
    FnOk P w K mg base CX0 3 f fd ["index", "capacity"] (spWideBox K) := by
  have D : ∀ (cdv : Value) (A : Around) (outer : List Env) (s : Shared) (H : Hp) (vs : List V) (Q : VK) (E : XK), Room 2 (A.deeper (envOfC "_is_wide_box" (defScope s_is_wide_box) s.heap.objs.size f cdv)) → (spWideBox K) vs H Q E →
      ∃ t, PSs (cxOf CX0 P w K mg base ["index", "capacity"] "_is_wide_box" (defScope s_is_wide_box) f cdv A outer s H E) (defBody s_is_wide_box) t ∧ t { nx := fun _ H' => Q .non H', rt := Q } (start ["index", "capacity"] vs) H := by
    intro cdv A outer s H vs Q E hr h
    refine ⟨t_is_wide_box K, PSs.nox ?_, pure_wide_box vs H Q E h⟩
    exact pss_cons (ps_if (pt_not (pt_val (pe_k C_is_between hr (by decide) rfl pass0 (pa_cons (pv 0) (pa_cons (pe_gl (by rfl) T.c_FIRST_WIDE_INDEX) (pa_cons (pe_gl (by rfl) T.c_LAST_WIDE_INDEX) (pa_nil)))))))
      (pss_one (ps_ret (pe_bl)))
      (pss_nil))
      (pss_one (ps_ret (pe_k C_is_between hr (by decide) rfl pass0 (pa_cons (pv 1) (pa_cons (pe_gl (by rfl) T.c_LEAST_WIDE_CAPACITY) (pa_cons (pe_gl (by rfl) T.c_GREATEST_WIDE_CAPACITY) (pa_nil)))))))
  exact F.ok sc_is_wide_box (fun vs H Q E h => by
    repeat (first | (obtain ⟨rfl, _⟩ := h; rfl) | obtain ⟨_, h⟩ := h)) D
theorem dfn_are_capacities (T : Tx K mg c_Row) (C_are_pairs : Kn P w K mg base CX0 3 "are_pairs" ["value"] (spArePairs K)) (C_is_wide_box : Kn P w K mg base CX0 3 "_is_wide_box" ["index", "capacity"] (spWideBox K)) {f : Addr} {fd : FuncData} (F : FunD K "_are_capacities" "_are_capacities" (defArgs s_are_capacities) (defBody s_are_capacities) (defScope s_are_capacities) [] [] f fd) :
    FnOk P w K mg base CX0 4 f fd ["value"] (spAreCapacities K) := by
  have D : ∀ (cdv : Value) (A : Around) (outer : List Env) (s : Shared) (H : Hp) (vs : List V) (Q : VK) (E : XK), Room 3 (A.deeper (envOfC "_are_capacities" (defScope s_are_capacities) s.heap.objs.size f cdv)) → (spAreCapacities K) vs H Q E →
      ∃ t, PSs (cxOf CX0 P w K mg base ["value", "index", "capacity"] "_are_capacities" (defScope s_are_capacities) f cdv A outer s H E) (defBody s_are_capacities) t ∧ t { nx := fun _ H' => Q .non H', rt := Q } (start ["value", "index", "capacity"] vs) H := by
    intro cdv A outer s H vs Q E hr h
    refine ⟨t_are_capacities K, PSs.nox ?_, pure_are_capacities vs H Q E h⟩
    exact pss_cons (ps_if (PW.pt (pw_or (pt_not (pt_val (pe_k C_are_pairs hr (by decide) rfl pass0 (pa_cons (pv 0) (pa_nil))))) (pw_or1 (pt_cmpR op_gt (pe_callB call_len_seq (by rfl) T.n_len PySem.boot_len (pa_cons (pv 0) (pa_nil))) (pe_gl (by rfl) T.c_MOST_WIDE_BOXES) (nomark _)))))
      (pss_one (ps_ret (pe_bl)))
      (pss_nil))
      (pss_one (ps_ret (pe_callB (cr_all rfl) (by rfl) T.n_all (by decide +kernel) (pa_cons (pe_lc (own := [("index", 1), ("capacity", 2)]) (g := gTup K 2 (gCons (gName 1) (gCons (gName 2) (gNil)))) (tt := tYes) rfl sc_are_capacities.nd (pi_or (pi_list (pv 0)) (pi_tup (pv 0))) (blkOk_by (own := [("index", 1), ("capacity", 2)]) (N := ["value", "index", "capacity"]) (sc := defScope s_are_capacities) (by decide +kernel)) (fun _ _ _ _ _ => pg_tup rfl (pgs_cons (pg_name (i := 1) sc_are_capacities.nd rfl (Or.inl rfl)) (pgs_cons (pg_name (i := 2) sc_are_capacities.nd rfl (Or.inl rfl)) (pgs_nil)))) (fun _ _ _ _ _ => pts_nil) (fun _ _ _ _ _ => pe_k C_is_wide_box hr (by decide) rfl pass0 (pa_cons (pv 1) (pa_cons (pv 2) (pa_nil))))) (pa_nil)))))
  exact F.ok sc_are_capacities (fun vs H Q E h => by
    repeat (first | (obtain ⟨rfl, _⟩ := h; rfl) | obtain ⟨_, h⟩ := h)) D
theorem dfn_are_contents (T : Tx K mg c_Row) (C_are_pairs : Kn P w K mg base CX0 3 "are_pairs" ["value"] (spArePairs K)) {f : Addr} {fd : FuncData} (F : FunD K "_are_contents" "_are_contents" (defArgs s_are_contents) (defBody s_are_contents) (defScope s_are_contents) [] [] f fd) :
    FnOk P w K mg base CX0 4 f fd ["value", "capacities"] (spAreContents K) := by
  have D : ∀ (cdv : Value) (A : Around) (outer : List Env) (s : Shared) (H : Hp) (vs : List V) (Q : VK) (E : XK), Room 3 (A.deeper (envOfC "_are_contents" (defScope s_are_contents) s.heap.objs.size f cdv)) → (spAreContents K) vs H Q E →
      ∃ t, PSs (cxOf CX0 P w K mg base ["value", "capacities", "wide", "index", "count", "_"] "_are_contents" (defScope s_are_contents) f cdv A outer s H E) (defBody s_are_contents) t ∧ t { nx := fun _ H' => Q .non H', rt := Q } (start ["value", "capacities", "wide", "index", "count", "_"] vs) H := by
    intro cdv A outer s H vs Q E hr h
    refine ⟨t_are_contents K, PSs.nox ?_, pure_are_contents vs H Q E h⟩
    exact pss_cons (ps_if (pt_not (pt_val (pe_k C_are_pairs hr (by decide) rfl pass0 (pa_cons (pv 0) (pa_nil)))))
      (pss_one (ps_ret (pe_bl)))
      (pss_nil))
      (pss_cons (ps_set (i := 2) sc_are_contents.nd rfl (Or.inr rfl) (pe_callTy (cr_or (call_dictP rfl) (cr_dictPT rfl)) (by rfl) T.n_dict (by decide +kernel) (pa_cons (pv 1) (pa_nil))))
      (pss_cons (ps_if (pt_not (pt_val (pe_callB (cr_all rfl) (by rfl) T.n_all (by decide +kernel) (pa_cons (pe_lc (own := [("index", 3), ("count", 4)]) (g := gTup K 2 (gCons (gName 3) (gCons (gName 4) (gNil)))) (tt := tYes) rfl sc_are_contents.nd (pi_or (pi_list (pv 0)) (pi_tup (pv 0))) (blkOk_by (own := [("index", 3), ("count", 4)]) (N := ["value", "capacities", "wide", "index", "count", "_"]) (sc := defScope s_are_contents) (by decide +kernel)) (fun _ _ _ _ _ => pg_tup rfl (pgs_cons (pg_name (i := 3) sc_are_contents.nd rfl (Or.inl rfl)) (pgs_cons (pg_name (i := 4) sc_are_contents.nd rfl (Or.inl rfl)) (pgs_nil)))) (fun _ _ _ _ _ => pts_nil) (fun _ _ _ _ _ => pe_chain op_le op_le (pe_int) (pv 4) (pe_dget2 (hu_of hr) (pv 2) (pv 3) (pe_int) ⟨rfl, rfl, rfl, rfl⟩))) (pa_nil)))))
      (pss_one (ps_ret (pe_bl)))
      (pss_nil))
      (pss_one (ps_ret (pe_cmpR op_le (pe_callB (cr_sum rfl) (by rfl) T.n_sum (by decide +kernel) (pa_cons (pe_lc (own := [("count", 4), ("_", 5)]) (g := gTup K 2 (gCons (gName 5) (gCons (gName 4) (gNil)))) (tt := tYes) rfl sc_are_contents.nd (pi_or (pi_list (pv 0)) (pi_tup (pv 0))) (blkOk_by (own := [("count", 4), ("_", 5)]) (N := ["value", "capacities", "wide", "index", "count", "_"]) (sc := defScope s_are_contents) (by decide +kernel)) (fun _ _ _ _ _ => pg_tup rfl (pgs_cons (pg_name (i := 5) sc_are_contents.nd rfl (Or.inl rfl)) (pgs_cons (pg_name (i := 4) sc_are_contents.nd rfl (Or.inl rfl)) (pgs_nil)))) (fun _ _ _ _ _ => pts_nil) (fun _ _ _ _ _ => pv 4)) (pa_nil))) (pe_gl (by rfl) T.c_MOST_ITEMS) (nomark _))))))
  exact F.ok sc_are_contents (fun vs H Q E h => by
    repeat (first | (obtain ⟨rfl, _⟩ := h; rfl) | obtain ⟨_, h⟩ := h)) D
theorem dfn_is_row_like (T : Tx K mg c_Row) (C_are_capacities : Kn P w K mg base CX0 4 "_are_capacities" ["value"] (spAreCapacities K)) (C_are_contents : Kn P w K mg base CX0 4 "_are_contents" ["value", "capacities"] (spAreContents K)) {f : Addr} {fd : FuncData} (F : FunD K "is_row_like" "is_row_like" (defArgs s_is_row_like) (defBody s_is_row_like) (defScope s_is_row_like) [] [] f fd) :
    FnOk P w K mg base CX0 5 f fd ["contents", "capacities"] (spRowLike02 K) := by
  have D : ∀ (cdv : Value) (A : Around) (outer : List Env) (s : Shared) (H : Hp) (vs : List V) (Q : VK) (E : XK), Room 4 (A.deeper (envOfC "is_row_like" (defScope s_is_row_like) s.heap.objs.size f cdv)) → (spRowLike02 K) vs H Q E →
      ∃ t, PSs (cxOf CX0 P w K mg base ["contents", "capacities"] "is_row_like" (defScope s_is_row_like) f cdv A outer s H E) (defBody s_is_row_like) t ∧ t { nx := fun _ H' => Q .non H', rt := Q } (start ["contents", "capacities"] vs) H := by
    intro cdv A outer s H vs Q E hr h
    refine ⟨t_rowlike02 K, PSs.nox ?_, pure_rowlike02 vs H Q E h⟩
    exact pss_one (ps_ret (pe_and (pe_k C_are_capacities hr (by decide) rfl pass0 (pa_cons (pv 1) (pa_nil))) (pe_one (pe_k C_are_contents hr (by decide) rfl pass0 (pa_cons (pv 0) (pa_cons (pv 1) (pa_nil)))))))
  exact F.ok sc_is_row_like (fun vs H Q E h => by
    repeat (first | (obtain ⟨rfl, _⟩ := h; rfl) | obtain ⟨_, h⟩ := h)) D
theorem dfn_Row_init (T : Tx K mg c_Row) (C_are_capacities : Kn P w K mg base CX0 4 "_are_capacities" ["value"] (spAreCapacities K)) (C_are_contents : Kn P w K mg base CX0 4 "_are_contents" ["value", "capacities"] (spAreContents K)) (R_Row : RowC K c_Row) {f : Addr} {fd : FuncData} {dv : List V} (F : FunD K "__init__" "Row.__init__" (defArgs s_Row_init) (defBody s_Row_init) (defScope s_Row_init) dv [] f fd) :
    FnOk P w K mg base CX0 5 f fd ["self", "contents", "capacities"] (spRowInit K c_Row) := by
  have D : ∀ (cdv : Value) (A : Around) (outer : List Env) (s : Shared) (H : Hp) (vs : List V) (Q : VK) (E : XK), Room 4 (A.deeper (envOfC "Row.__init__" (defScope s_Row_init) s.heap.objs.size f cdv)) → (spRowInit K c_Row) vs H Q E →
      ∃ t, PSs (cxOf CX0 P w K mg base ["self", "contents", "capacities"] "Row.__init__" (defScope s_Row_init) f cdv A outer s H E) (defBody s_Row_init) t ∧ t { nx := fun _ H' => Q .non H', rt := Q } (start ["self", "contents", "capacities"] vs) H := by
    intro cdv A outer s H vs Q E hr h
    refine ⟨t_Row_init K, PSs.nox ?_, pure_row_init R_Row vs H Q E h⟩
    exact pss_cons (ps_if (pt_not (pt_val (pe_k C_are_capacities hr (by decide) rfl pass0 (pa_cons (pv 2) (pa_nil)))))
      (pss_one (ps_no))
      (pss_nil))
      (pss_cons (ps_if (pt_not (pt_val (pe_k C_are_contents hr (by decide) rfl pass0 (pa_cons (pv 1) (pa_cons (pv 2) (pa_nil))))))
      (pss_one (ps_no))
      (pss_nil))
      (pss_cons (ps_fld (pv 0) (pe_callTy cr_tupB (by rfl) T.n_tuple (by decide +kernel) (pa_cons (pe_callB (cr_or cr_sortedPO cr_sortedPT) (by rfl) T.n_sorted (by decide +kernel) (pa_cons (pv 1) (pa_nil))) (pa_nil))) rfl)
      (pss_cons (ps_fld (pv 0) (pe_callTy cr_tupB (by rfl) T.n_tuple (by decide +kernel) (pa_cons (pe_callB (cr_or cr_sortedPO cr_sortedPT) (by rfl) T.n_sorted (by decide +kernel) (pa_cons (pv 2) (pa_nil))) (pa_nil))) rfl)
      (pss_cons (ps_fld (pv 0) (pe_callTy (cr_or (call_dictP rfl) (cr_dictPT rfl)) (by rfl) T.n_dict (by decide +kernel) (pa_cons (pv 1) (pa_nil))) rfl)
      (pss_one (ps_fld (pv 0) (pe_callTy (cr_or (call_dictP rfl) (cr_dictPT rfl)) (by rfl) T.n_dict (by decide +kernel) (pa_cons (pv 2) (pa_nil))) rfl))))))
  exact F.ok sc_Row_init (fun vs H Q E h => by
    repeat (first | (obtain ⟨rfl, _⟩ := h; rfl) | obtain ⟨_, h⟩ := h)) D
theorem dfn_Row_contents (T : Tx K mg c_Row) (R_Row : RowC K c_Row) {f : Addr} {fd : FuncData} {dv : List V} (F : FunD K "contents" "Row.contents" (defArgs s_Row_contents) (defBody s_Row_contents) (defScope s_Row_contents) dv [] f fd) :
    FnOk P w K mg base CX0 1 f fd ["self"] (spContents K c_Row) := by
  have D : ∀ (cdv : Value) (A : Around) (outer : List Env) (s : Shared) (H : Hp) (vs : List V) (Q : VK) (E : XK), Room 0 (A.deeper (envOfC "Row.contents" (defScope s_Row_contents) s.heap.objs.size f cdv)) → (spContents K c_Row) vs H Q E →
      ∃ t, PSs (cxOf CX0 P w K mg base ["self"] "Row.contents" (defScope s_Row_contents) f cdv A outer s H E) (defBody s_Row_contents) t ∧ t { nx := fun _ H' => Q .non H', rt := Q } (start ["self"] vs) H := by
    intro cdv A outer s H vs Q E hr h
    refine ⟨t_Row_contents K, PSs.nox ?_, pure_contents R_Row vs H Q E h⟩
    exact pss_one (ps_ret (pe_fld (pv 0) rfl))
  exact F.ok sc_Row_contents (fun vs H Q E h => by
    repeat (first | (obtain ⟨rfl, _⟩ := h; rfl) | obtain ⟨_, h⟩ := h)) D
theorem dfn_Row_capacities (T : Tx K mg c_Row) (R_Row : RowC K c_Row) {f : Addr} {fd : FuncData} {dv : List V} (F : FunD K "capacities" "Row.capacities" (defArgs s_Row_capacities) (defBody s_Row_capacities) (defScope s_Row_capacities) dv [] f fd) :
    FnOk P w K mg base CX0 1 f fd ["self"] (spCapacities K c_Row) := by
  have D : ∀ (cdv : Value) (A : Around) (outer : List Env) (s : Shared) (H : Hp) (vs : List V) (Q : VK) (E : XK), Room 0 (A.deeper (envOfC "Row.capacities" (defScope s_Row_capacities) s.heap.objs.size f cdv)) → (spCapacities K c_Row) vs H Q E →
      ∃ t, PSs (cxOf CX0 P w K mg base ["self"] "Row.capacities" (defScope s_Row_capacities) f cdv A outer s H E) (defBody s_Row_capacities) t ∧ t { nx := fun _ H' => Q .non H', rt := Q } (start ["self"] vs) H := by
    intro cdv A outer s H vs Q E hr h
    refine ⟨t_Row_capacities K, PSs.nox ?_, pure_capacities R_Row vs H Q E h⟩
    exact pss_one (ps_ret (pe_fld (pv 0) rfl))
  exact F.ok sc_Row_capacities (fun vs H Q E h => by
    repeat (first | (obtain ⟨rfl, _⟩ := h; rfl) | obtain ⟨_, h⟩ := h)) D
theorem dfn_Row_eq (T : Tx K mg c_Row) (R_Row : RowC K c_Row) (Z_Row : RowK K c_Row) {f : Addr} {fd : FuncData} {dv : List V} (F : FunD K "__eq__" "Row.__eq__" (defArgs s_Row_eq) (defBody s_Row_eq) (defScope s_Row_eq) dv [] f fd) :
    FnOk P w K mg base CX0 1 f fd ["self", "other"] (spRowEq K c_Row) := by
  have D : ∀ (cdv : Value) (A : Around) (outer : List Env) (s : Shared) (H : Hp) (vs : List V) (Q : VK) (E : XK), Room 0 (A.deeper (envOfC "Row.__eq__" (defScope s_Row_eq) s.heap.objs.size f cdv)) → (spRowEq K c_Row) vs H Q E →
      ∃ t, PSs (cxOf CX0 P w K mg base ["self", "other"] "Row.__eq__" (defScope s_Row_eq) f cdv A outer s H E) (defBody s_Row_eq) t ∧ t { nx := fun _ H' => Q .non H', rt := Q } (start ["self", "other"] vs) H := by
    intro cdv A outer s H vs Q E hr h
    refine ⟨t_Row_eq K c_Row, PSs.nox ?_, pure_row_eq R_Row Z_Row vs H Q E h⟩
    exact pss_one (ps_ret (pe_and (pe_callB call_isi (by rfl) T.n_isinstance PyProof.Rows.boot_isinstance (pa_cons (pv 1) (pa_cons (pe_gl (by rfl) ⟨_, T.g_Row, rfl⟩) pa_nil))) (pe_and (pe_cmpR (op_eqD hr.units) (pe_fld (pv 0) rfl) (pe_fld (pv 1) rfl) (nomark _)) (pe_one (pe_cmpR (op_eqD hr.units) (pe_fld (pv 0) rfl) (pe_fld (pv 1) rfl) (nomark _))))))
  exact F.ok sc_Row_eq (fun vs H Q E h => by
    repeat (first | (obtain ⟨rfl, _⟩ := h; rfl) | obtain ⟨_, h⟩ := h)) D
theorem dfn_integer_in (T : Tx K mg c_Row) {f : Addr} {fd : FuncData} {dv : List V} (F : FunD K "integer_in" "integer_in" (defArgs s_integer_in) (defBody s_integer_in) (defScope s_integer_in) dv [] f fd) :
    FnOk P w K mg base CX0 1 f fd ["word", "most_digits"] spIntIn := by
  have D : ∀ (cdv : Value) (A : Around) (outer : List Env) (s : Shared) (H : Hp) (vs : List V) (Q : VK) (E : XK), Room 0 (A.deeper (envOfC "integer_in" (defScope s_integer_in) s.heap.objs.size f cdv)) → spIntIn vs H Q E →
      ∃ t, PSs (cxOf CX0 P w K mg base ["word", "most_digits", "digits", "digit"] "integer_in" (defScope s_integer_in) f cdv A outer s H E) (defBody s_integer_in) t ∧ t { nx := fun _ H' => Q .non H', rt := Q } (start ["word", "most_digits", "digits", "digit"] vs) H := by
    intro cdv A outer s H vs Q E hr h
    refine ⟨t_intin K, PSs.nox ?_, pure_intin vs H Q E h⟩
    exact pss_cons (ps_set (i := 2) sc_integer_in.nd rfl (Or.inl rfl) (pe_bm PySem.F.plainAttrs_str PySem.F.slot_str_removeprefix PySem.F.type_str_removeprefix mt_removeprefix (pv 0) (pa_cons (pe_str) (pa_nil))))
      (pss_cons (ps_if (PW.pt (pw_or (pt_not (pt_chain op_le op_le (pe_int) (pe_callB call_len_str (by rfl) T.n_len PySem.boot_len (pa_cons (pv 2) (pa_nil))) (pv 1))) (pw_or1 (pt_not (pt_val (pe_callB (cr_all rfl) (by rfl) T.n_all (by decide +kernel) (pa_cons (pe_lc (own := [("digit", 3)]) (g := gName 3) (tt := tYes) rfl sc_integer_in.nd (pi_str (pv 2)) (blkOk_by (own := [("digit", 3)]) (N := ["word", "most_digits", "digits", "digit"]) (sc := defScope s_integer_in) (by decide +kernel)) (fun _ _ _ _ _ => pg_name (i := 3) sc_integer_in.nd rfl (Or.inl rfl)) (fun _ _ _ _ _ => pts_nil) (fun _ _ _ _ _ => pe_chain op_le_str op_le_str (pe_str) (pv 3) (pe_str))) (pa_nil))))))))
      (pss_one (ps_ret (pe_non)))
      (pss_nil))
      (pss_cons (ps_if (PW.pt (pw_and (pt_cmpR op_eq (pe_ix ix_str (pv 2) (pe_int) (fun _ _ => rfl)) (pe_str) (nomark _)) (pw_and1 (pt_cmpR op_ne (pv 0) (pe_str) (nomark _)))))
      (pss_one (ps_ret (pe_non)))
      (pss_nil))
      (pss_one (ps_ret (pe_callTy call_int_str (by rfl) T.n_int (by decide +kernel) (pa_cons (pv 0) (pa_nil)))))))
  exact F.ok sc_integer_in (fun vs H Q E h => by
    repeat (first | (obtain ⟨rfl, _⟩ := h; rfl) | obtain ⟨_, h⟩ := h)) D
theorem dfn_row_text (T : Tx K mg c_Row) (C_contents : Prp P w K mg base 1 c_Row "contents" (spContents K c_Row)) (C_capacities : Prp P w K mg base 1 c_Row "capacities" (spCapacities K c_Row)) {f : Addr} {fd : FuncData} (F : FunD K "row_text" "row_text" (defArgs s_row_text) (defBody s_row_text) (defScope s_row_text) [] [] f fd) :
    FnOk P w K mg base CX0 3 f fd ["row"] (spRowText K c_Row) := by
  have D : ∀ (cdv : Value) (A : Around) (outer : List Env) (s : Shared) (H : Hp) (vs : List V) (Q : VK) (E : XK), Room 2 (A.deeper (envOfC "row_text" (defScope s_row_text) s.heap.objs.size f cdv)) → (spRowText K c_Row) vs H Q E →
      ∃ t, PSs (cxOf CX0 P w K mg base ["row", "lines", "index", "capacity", "count"] "row_text" (defScope s_row_text) f cdv A outer s H E) (defBody s_row_text) t ∧ t { nx := fun _ H' => Q .non H', rt := Q } (start ["row", "lines", "index", "capacity", "count"] vs) H := by
    intro cdv A outer s H vs Q E hr h
    refine ⟨t_rowtext K c_Row, PSs.nox ?_, pure_rowtext vs H Q E h⟩
    exact pss_cons (ps_setLc (i := 1) (own := [("index", 2), ("capacity", 3)]) (g := gTup K 2 (gCons (gName 2) (gCons (gName 3) (gNil)))) (tt := tYes) rfl sc_row_text.nd rfl rfl (sw_true rfl rfl rfl (by decide +kernel)) (pi_tup (pe_pr C_capacities hr (by decide) (pv 0))) (blkOk_by (own := [("index", 2), ("capacity", 3)]) (N := ["row", "lines", "index", "capacity", "count"]) (sc := defScope s_row_text) (by decide +kernel)) (fun _ _ _ _ _ => pg_tup rfl (pgs_cons (pg_name (i := 2) sc_row_text.nd rfl (Or.inl rfl)) (pgs_cons (pg_name (i := 3) sc_row_text.nd rfl (Or.inl rfl)) (pgs_nil)))) (fun _ _ _ _ _ => pts_nil) (fun _ _ _ _ _ => pe_joined (.cons (pe_str) (.cons (pe_fmt (pv 2)) (.cons (pe_str) (.cons (pe_fmt (pv 3)) (.cons (pe_str) (.nil))))))))
      (pss_one (ps_ret (pe_bm PySem.F.plainAttrs_str PySem.F.slot_str_join PySem.F.type_str_join mt_join (pe_str) (pa_cons (pe_op op_cat (pv 1) (pe_lc (own := [("index", 2), ("count", 4)]) (g := gTup K 2 (gCons (gName 2) (gCons (gName 4) (gNil)))) (tt := tYes) rfl sc_row_text.nd (pi_tup (pe_pr C_contents hr (by decide) (pv 0))) (blkOk_by (own := [("index", 2), ("count", 4)]) (N := ["row", "lines", "index", "capacity", "count"]) (sc := defScope s_row_text) (by decide +kernel)) (fun _ _ _ _ _ => pg_tup rfl (pgs_cons (pg_name (i := 2) sc_row_text.nd rfl (Or.inl rfl)) (pgs_cons (pg_name (i := 4) sc_row_text.nd rfl (Or.inl rfl)) (pgs_nil)))) (fun _ _ _ _ _ => pts_nil) (fun _ _ _ _ _ => pe_joined (.cons (pe_str) (.cons (pe_fmt (pv 2)) (.cons (pe_str) (.cons (pe_fmt (pv 4)) (.cons (pe_str) (.nil))))))))) (pa_nil)))))
  exact F.ok sc_row_text (fun vs H Q E h => by
    repeat (first | (obtain ⟨rfl, _⟩ := h; rfl) | obtain ⟨_, h⟩ := h)) D
theorem dfn_pair_in (T : Tx K mg c_Row) (C_integer_in : Kn P w K mg base CX0 1 "integer_in" ["word", "most_digits"] spIntIn) (C_integer_in1 : KnDf P w K mg base CX0 1 "integer_in" ["word", "most_digits"] spIntIn [.int 31]) {f : Addr} {fd : FuncData} (F : FunD K "_pair_in" "_pair_in" (defArgs s_pair_in) (defBody s_pair_in) (defScope s_pair_in) [] [] f fd) :
    FnOk P w K mg base CX0 2 f fd ["words"] (spPairIn K) := by
  have D : ∀ (cdv : Value) (A : Around) (outer : List Env) (s : Shared) (H : Hp) (vs : List V) (Q : VK) (E : XK), Room 1 (A.deeper (envOfC "_pair_in" (defScope s_pair_in) s.heap.objs.size f cdv)) → (spPairIn K) vs H Q E →
      ∃ t, PSs (cxOf CX0 P w K mg base ["words", "first", "second", "word"] "_pair_in" (defScope s_pair_in) f cdv A outer s H E) (defBody s_pair_in) t ∧ t { nx := fun _ H' => Q .non H', rt := Q } (start ["words", "first", "second", "word"] vs) H := by
    intro cdv A outer s H vs Q E hr h
    refine ⟨t_pairin K, PSs.nox ?_, pure_pairin vs H Q E h⟩
    exact pss_cons (ps_asg (pe_lc (own := [("word", 3)]) (g := gName 3) (tt := tYes) rfl sc_pair_in.nd (pi_list (pv 0)) (blkOk_by (own := [("word", 3)]) (N := ["words", "first", "second", "word"]) (sc := defScope s_pair_in) (by decide +kernel)) (fun _ _ _ _ _ => pg_name (i := 3) sc_pair_in.nd rfl (Or.inl rfl)) (fun _ _ _ _ _ => pts_nil) (fun _ _ _ _ _ => pe_kDf C_integer_in1 hr (by decide) rfl pass0 (pa_cons (pv 3) (pa_nil)))) (pg_unl rfl (pgs_cons (pg_name (i := 1) sc_pair_in.nd rfl (Or.inl rfl)) (pgs_cons (pg_name (i := 2) sc_pair_in.nd rfl (Or.inl rfl)) (pgs_nil)))))
      (pss_cons (ps_if (PW.pt (pw_or (pt_cmpR op_isN (pv 1) (pe_non) (nomark _)) (pw_or1 (pt_cmpR op_isN (pv 2) (pe_non) (nomark _)))))
      (pss_one (ps_ret (pe_non)))
      (pss_nil))
      (pss_one (ps_ret (pe_tup (pa_cons (pv 1) (pa_cons (pv 2) (pa_nil)))))))
  exact F.ok sc_pair_in (fun vs H Q E h => by
    repeat (first | (obtain ⟨rfl, _⟩ := h; rfl) | obtain ⟨_, h⟩ := h)) D
theorem dfn_with_line (T : Tx K mg c_Row) (C_pair_in : Kn P w K mg base CX0 2 "_pair_in" ["words"] (spPairIn K)) (C_is_row_like : Kn P w K mg base CX0 5 "is_row_like" ["contents", "capacities"] (spRowLike02 K)) {f : Addr} {fd : FuncData} (F : FunD K "_with_line" "_with_line" (defArgs s_with_line) (defBody s_with_line) (defScope s_with_line) [] [] f fd) :
    FnOk P w K mg base CX0 6 f fd ["contents", "capacities", "line"] (spWithLine K) := by
  have D : ∀ (cdv : Value) (A : Around) (outer : List Env) (s : Shared) (H : Hp) (vs : List V) (Q : VK) (E : XK), Room 5 (A.deeper (envOfC "_with_line" (defScope s_with_line) s.heap.objs.size f cdv)) → (spWithLine K) vs H Q E →
      ∃ t, PSs (cxOf CX0 P w K mg base ["contents", "capacities", "line", "words", "pair", "told"] "_with_line" (defScope s_with_line) f cdv A outer s H E) (defBody s_with_line) t ∧ t { nx := fun _ H' => Q .non H', rt := Q } (start ["contents", "capacities", "line", "words", "pair", "told"] vs) H := by
    intro cdv A outer s H vs Q E hr h
    refine ⟨t_withline K, PSs.nox ?_, pure_withline vs H Q E h⟩
    exact pss_cons (ps_set (i := 3) sc_with_line.nd rfl (Or.inl rfl) (pe_bm PySem.F.plainAttrs_str PySem.F.slot_str_split PySem.F.type_str_split mt_split (pv 2) (pa_cons (pe_str) (pa_nil))))
      (pss_cons (ps_if (PW.pt (pw_or (pt_cmpR op_ne (pe_callB call_len_seq (by rfl) T.n_len PySem.boot_len (pa_cons (pv 3) (pa_nil))) (pe_int) (nomark _)) (pw_or1 (pt_cmpR op_notIn_seq (pe_ix ix_list (pv 3) (pe_int) (fun _ _ => rfl)) (pe_tup (pa_cons (pe_str) (pa_cons (pe_str) (pa_nil)))) (by rfl)))))
      (pss_one (ps_ret (pe_non)))
      (pss_nil))
      (pss_cons (ps_set (i := 4) sc_with_line.nd rfl (Or.inl rfl) (pe_k C_pair_in hr (by decide) rfl pass0 (pa_cons (pe_slice sl_list (pv 3) (po_some (pe_int)) (po_none)) (pa_nil))))
      (pss_cons (ps_if (PW.pt (pw_or (pt_cmpR op_isN (pv 4) (pe_non) (nomark _)) (pw_or1 (PW.pt (pw_and (pt_cmpR op_eq (pe_ix ix_list (pv 3) (pe_int) (fun _ _ => rfl)) (pe_str) (nomark _)) (pw_and1 (pt_truth (pv 0) (fun _ => rfl))))))))
      (pss_one (ps_ret (pe_non)))
      (pss_nil))
      (pss_cons (ps_set (i := 5) sc_with_line.nd rfl (Or.inl rfl) (pe_ifExp (pt_cmpR op_eq (pe_ix ix_list (pv 3) (pe_int) (fun _ _ => rfl)) (pe_str) (nomark _)) (pv 1) (pv 0)))
      (pss_cons (ps_if (PW.pt (pw_and (pt_truth (pv 5) (fun _ => rfl)) (pw_and1 (pt_cmpR op_le (pe_ix ix_tup (pv 4) (pe_int) (fun _ _ => rfl)) (pe_ix ix_tup (pe_ix ix_list (pv 5) (pe_un un_neg (pe_int)) (fun _ _ => rfl)) (pe_int) (fun _ _ => rfl)) (nomark _)))))
      (pss_one (ps_ret (pe_non)))
      (pss_nil))
      (pss_cons (ps_if (pt_cmpR op_eq (pe_ix ix_list (pv 3) (pe_int) (fun _ _ => rfl)) (pe_str) (nomark _))
      (pss_one (ps_set (i := 1) sc_with_line.nd rfl (Or.inl rfl) (pe_op op_cat (pv 1) (pe_lst (pa_cons (pv 4) (pa_nil))))))
      (pss_one (ps_set (i := 0) sc_with_line.nd rfl (Or.inl rfl) (pe_op op_cat (pv 0) (pe_lst (pa_cons (pv 4) (pa_nil)))))))
      (pss_cons (ps_if (pt_not (pt_val (pe_k C_is_row_like hr (by decide) rfl pass0 (pa_cons (pv 0) (pa_cons (pv 1) (pa_nil))))))
      (pss_one (ps_ret (pe_non)))
      (pss_nil))
      (pss_one (ps_ret (pe_tup (pa_cons (pv 0) (pa_cons (pv 1) (pa_nil)))))))))))))
  exact F.ok sc_with_line (fun vs H Q E h => by
    repeat (first | (obtain ⟨rfl, _⟩ := h; rfl) | obtain ⟨_, h⟩ := h)) D
theorem dfn_parse_row (T : Tx K mg c_Row) (C_with_line : Kn P w K mg base CX0 6 "_with_line" ["contents", "capacities", "line"] (spWithLine K)) (C_Row : C8.Mak P w K mg base 5 "Row" c_Row (spRowInit K c_Row) []) {f : Addr} {fd : FuncData} (F : FunD K "parse_row" "parse_row" (defArgs s_parse_row) (defBody s_parse_row) (defScope s_parse_row) [] [] f fd) :
    FnOk P w K mg base CX0 7 f fd ["text"] (spParseRow K c_Row) := by
  have D : ∀ (cdv : Value) (A : Around) (outer : List Env) (s : Shared) (H : Hp) (vs : List V) (Q : VK) (E : XK), Room 6 (A.deeper (envOfC "parse_row" (defScope s_parse_row) s.heap.objs.size f cdv)) → (spParseRow K c_Row) vs H Q E →
      ∃ t, PSs (cxOf CX0 P w K mg base ["text", "lines", "last", "so_far", "k", "line"] "parse_row" (defScope s_parse_row) f cdv A outer s H E) (defBody s_parse_row) t ∧ t { nx := fun _ H' => Q .non H', rt := Q } (start ["text", "lines", "last", "so_far", "k", "line"] vs) H := by
    intro cdv A outer s H vs Q E hr h
    refine ⟨t_parserow K c_Row, PSs.nox ?_, pure_parserow vs H Q E h⟩
    exact pss_cons (ps_if (pt_not (pt_val (pe_callB call_isi (by rfl) T.n_isinstance PyProof.Rows.boot_isinstance (pa_cons (pv 0) (pa_cons (pe_bltn (v := .ty "str") (by rfl) T.n_str (by decide +kernel) rfl) pa_nil)))))
      (pss_one (ps_no))
      (pss_nil))
      (pss_cons (ps_asg (pe_bm PySem.F.plainAttrs_str PySem.F.slot_str_split PySem.F.type_str_split mt_split (pv 0) (pa_cons (pe_str) (pa_nil))) (pg_star rfl (pg_name (i := 1) sc_parse_row.nd rfl (Or.inl rfl)) (pg_name (i := 2) sc_parse_row.nd rfl (Or.inl rfl))))
      (pss_cons (ps_set (i := 3) sc_parse_row.nd rfl (Or.inl rfl) (pe_tup (pa_cons (pe_lst (pa_nil)) (pa_cons (pe_lst (pa_nil)) (pa_nil)))))
      (pss_cons (ps_for PassesOwn.never rfl (pi_enum (by rfl) T.n_enumerate (pa_cons (pv 1) (pa_nil))) (pg_tup rfl (pgs_cons (pg_name (i := 4) sc_parse_row.nd rfl (Or.inl rfl)) (pgs_cons (pg_name (i := 5) sc_parse_row.nd rfl (Or.inl rfl)) (pgs_nil))))
      (pss_cons (ps_set (i := 3) sc_parse_row.nd rfl (Or.inl rfl) (pe_k C_with_line hr (by decide) rfl pass0 (pa_cons (pe_ix ix_tup (pv 3) (pe_int) (fun _ _ => rfl)) (pa_cons (pe_ix ix_tup (pv 3) (pe_int) (fun _ _ => rfl)) (pa_cons (pv 5) (pa_nil))))))
      (pss_one (ps_if (pt_cmpR op_isN (pv 3) (pe_non) (nomark _))
      (pss_one (ps_no))
      (pss_nil)))))
      (pss_cons (ps_if (pt_cmpR op_ne (pv 2) (pe_str) (nomark _))
      (pss_one (ps_no))
      (pss_nil))
      (pss_one (ps_ret (C8.pe_mk C_Row hr (by decide) (by rfl) (pa_cons (pe_ix ix_tup (pv 3) (pe_int) (fun _ _ => rfl)) (pa_cons (pe_ix ix_tup (pv 3) (pe_int) (fun _ _ => rfl)) (pa_nil))))))))))
  exact F.ok sc_parse_row (fun vs H Q E h => by
    repeat (first | (obtain ⟨rfl, _⟩ := h; rfl) | obtain ⟨_, h⟩ := h)) D
theorem dfn_begun (T : Tx K mg c_Row) {f : Addr} {fd : FuncData} (F : FunD K "_law_begun" "_law_begun" (defArgs s_begun) (defBody s_begun) (defScope s_begun) [] [] f fd) :
    FnOk P w K mg base CX0 1 f fd ["script"] (spBegun K) := by
  have D : ∀ (cdv : Value) (A : Around) (outer : List Env) (s : Shared) (H : Hp) (vs : List V) (Q : VK) (E : XK), Room 0 (A.deeper (envOfC "_law_begun" (defScope s_begun) s.heap.objs.size f cdv)) → (spBegun K) vs H Q E →
      ∃ t, PSs (cxOf CX0 P w K mg base ["script", "wide", "cell"] "_law_begun" (defScope s_begun) f cdv A outer s H E) (defBody s_begun) t ∧ t { nx := fun _ H' => Q .non H', rt := Q } (start ["script", "wide", "cell"] vs) H := by
    intro cdv A outer s H vs Q E hr h
    refine ⟨t_begun K, PSs.nox ?_, pure_begun vs H Q E h⟩
    exact pss_cons (ps_setLc (i := 1) (own := [("cell", 2)]) (g := gName 2) (tt := tTest (tOp qGe (tVar 2) (tOp qPow (tC (.int 10)) (tC (.int 18))))) rfl sc_begun.nd rfl rfl (sw_true rfl rfl rfl (by decide +kernel)) (pi_list (pv 0)) (blkOk_by (own := [("cell", 2)]) (N := ["script", "wide", "cell"]) (sc := defScope s_begun) (by decide +kernel)) (fun _ _ _ _ _ => pg_name (i := 2) sc_begun.nd rfl (Or.inl rfl)) (fun _ _ _ _ _ => pts_one (pt_cmpR op_ge (pv 2) (pe_op op_pow (pe_int) (pe_int)) (nomark _))) (fun _ _ _ _ _ => pe_op op_sub (pv 2) (pe_op op_pow (pe_int) (pe_int))))
      (pss_one (ps_ret (pe_disp (pps_cons (pe_str) (pv 1) (pps_cons (pe_str) (pe_callTy call_list_of (by rfl) T.n_list (by decide +kernel) (pa_cons (pv 0) (pa_nil))) (pps_cons (pe_str) (pe_int) (pps_cons (pe_str) (pe_int) (pps_nil))))) (by rfl) (by rfl) (fun z => by cases z) (by decide))))
  exact F.ok sc_begun (fun vs H Q E h => by
    repeat (first | (obtain ⟨rfl, _⟩ := h; rfl) | obtain ⟨_, h⟩ := h)) D
theorem dfn_mixed (T : Tx K mg c_Row) {f : Addr} {fd : FuncData} (F : FunD K "_law_mixed" "_law_mixed" (defArgs s_mixed) (defBody s_mixed) (defScope s_mixed) [] [] f fd) :
    FnOk P w K mg base CX0 1 f fd ["state"] spMixed := by
  have D : ∀ (cdv : Value) (A : Around) (outer : List Env) (s : Shared) (H : Hp) (vs : List V) (Q : VK) (E : XK), Room 0 (A.deeper (envOfC "_law_mixed" (defScope s_mixed) s.heap.objs.size f cdv)) → spMixed vs H Q E →
      ∃ t, PSs (cxOf CX0 P w K mg base ["state", "turn", "found", "prime", "blend", "cell"] "_law_mixed" (defScope s_mixed) f cdv A outer s H E) (defBody s_mixed) t ∧ t { nx := fun _ H' => Q .non H', rt := Q } (start ["state", "turn", "found", "prime", "blend", "cell"] vs) H := by
    intro cdv A outer s H vs Q E hr h
    refine ⟨t_mixed K, PSs.nox ?_, pure_mixed vs H Q E h⟩
    exact pss_cons (ps_set (i := 1) sc_mixed.nd rfl (Or.inl rfl) (pe_op op_add (pe_dget (hu_of hr) (pv 0) (pe_str) (fun _ _ => rfl)) (pe_int)))
      (pss_cons (ps_dput (hu_of hr) (pv 0) (pe_str) (pv 1) rfl)
      (pss_cons (ps_set (i := 2) sc_mixed.nd rfl (Or.inl rfl) (pe_int))
      (pss_cons (ps_for PassesOwn.never rfl (pi_list (pe_lst (pa_cons (pe_int) (pa_cons (pe_int) (pa_cons (pe_int) (pa_cons (pe_int) (pa_cons (pe_int) (pa_cons (pe_int) (pa_nil))))))))) (pg_name (i := 3) sc_mixed.nd rfl (Or.inl rfl))
      (pss_cons (ps_set (i := 4) sc_mixed.nd rfl (Or.inl rfl) (pe_op op_add (pe_op op_mul (pe_int) (pv 1)) (pe_op op_fdivN (pv 3) (pe_int))))
      (pss_cons (ps_for PassesOwn.never rfl (pi_list (pe_dget (hu_of hr) (pv 0) (pe_str) (fun _ _ => rfl))) (pg_name (i := 5) sc_mixed.nd rfl (Or.inl rfl))
      (pss_one (ps_set (i := 4) sc_mixed.nd rfl (Or.inl rfl) (pe_op op_modN (pe_callTy call_int1 (by rfl) T.n_int (by decide +kernel) (pa_cons (pe_op op_add (pe_op op_mul (pv 4) (pe_int)) (pv 5)) (pa_nil))) (pv 3)))))
      (pss_one (ps_set (i := 2) sc_mixed.nd rfl (Or.inl rfl) (pe_op op_add (pe_op op_mul (pv 2) (pe_int)) (pe_op op_modN (pe_callTy call_int1 (by rfl) T.n_int (by decide +kernel) (pa_cons (pe_op op_pow (pv 4) (pe_int)) (pa_nil))) (pv 3))))))))
      (pss_one (ps_ret (pv 2))))))
  exact F.ok sc_mixed (fun vs H Q E h => by
    repeat (first | (obtain ⟨rfl, _⟩ := h; rfl) | obtain ⟨_, h⟩ := h)) D
theorem dfn_take (T : Tx K mg c_Row) (C_mixed : Kn P w K mg base CX0 1 "_law_mixed" ["state"] spMixed) {f : Addr} {fd : FuncData} (F : FunD K "_law_take" "_law_take" (defArgs s_take) (defBody s_take) (defScope s_take) [] [] f fd) :
    FnOk P w K mg base CX0 2 f fd ["state", "size"] spTake := by
  have D : ∀ (cdv : Value) (A : Around) (outer : List Env) (s : Shared) (H : Hp) (vs : List V) (Q : VK) (E : XK), Room 1 (A.deeper (envOfC "_law_take" (defScope s_take) s.heap.objs.size f cdv)) → spTake vs H Q E →
      ∃ t, PSs (cxOf CX0 P w K mg base ["state", "size", "found"] "_law_take" (defScope s_take) f cdv A outer s H E) (defBody s_take) t ∧ t { nx := fun _ H' => Q .non H', rt := Q } (start ["state", "size", "found"] vs) H := by
    intro cdv A outer s H vs Q E hr h
    refine ⟨t_take K, PSs.nox ?_, pure_take vs H Q E h⟩
    exact pss_cons (ps_if (PW.pt (pw_and (pt_cmpR op_eq (pe_dget (hu_of hr) (pv 0) (pe_str) (fun _ _ => rfl)) (pe_int) (nomark _)) (pw_and1 (pt_cmpR (op_neD hr.units) (pe_dget (hu_of hr) (pv 0) (pe_str) (fun _ _ => rfl)) (pe_lst (pa_nil)) (nomark _)))))
      (pss_one (ps_dput (hu_of hr) (pv 0) (pe_str) (pe_bm PySem.F.plainAttrs_list PySem.F.slot_list_pop PySem.F.type_list_pop mt_popAt (pe_dget (hu_of hr) (pv 0) (pe_str) (fun _ _ => rfl)) (pa_cons (pe_int) (pa_nil))) rfl))
      (pss_one (ps_if (pt_cmpR op_eq (pe_dget (hu_of hr) (pv 0) (pe_str) (fun _ _ => rfl)) (pe_int) (nomark _))
      (pss_one (ps_dput (hu_of hr) (pv 0) (pe_str) (pe_k C_mixed hr (by decide) rfl pass0 (pa_cons (pv 0) (pa_nil))) rfl))
      (pss_nil))))
      (pss_cons (ps_set (i := 2) sc_take.nd rfl (Or.inl rfl) (pe_op op_modN (pe_callTy call_int1 (by rfl) T.n_int (by decide +kernel) (pa_cons (pe_dget (hu_of hr) (pv 0) (pe_str) (fun _ _ => rfl)) (pa_nil))) (pv 1)))
      (pss_cons (ps_dput (hu_of hr) (pv 0) (pe_str) (pe_op op_fdivN (pe_dget (hu_of hr) (pv 0) (pe_str) (fun _ _ => rfl)) (pv 1)) rfl)
      (pss_one (ps_ret (pv 2)))))
  exact F.ok sc_take (fun vs H Q E h => by
    repeat (first | (obtain ⟨rfl, _⟩ := h; rfl) | obtain ⟨_, h⟩ := h)) D
theorem dfn_pick (T : Tx K mg c_Row) (C_take : Kn P w K mg base CX0 2 "_law_take" ["state", "size"] spTake) {f : Addr} {fd : FuncData} (F : FunD K "_law_pick" "_law_pick" (defArgs s_pick) (defBody s_pick) (defScope s_pick) [] [] f fd) :
    FnOk P w K mg base CX0 3 f fd ["state", "some"] (spPick K) := by
  have D : ∀ (cdv : Value) (A : Around) (outer : List Env) (s : Shared) (H : Hp) (vs : List V) (Q : VK) (E : XK), Room 2 (A.deeper (envOfC "_law_pick" (defScope s_pick) s.heap.objs.size f cdv)) → (spPick K) vs H Q E →
      ∃ t, PSs (cxOf CX0 P w K mg base ["state", "some"] "_law_pick" (defScope s_pick) f cdv A outer s H E) (defBody s_pick) t ∧ t { nx := fun _ H' => Q .non H', rt := Q } (start ["state", "some"] vs) H := by
    intro cdv A outer s H vs Q E hr h
    refine ⟨t_pick K, PSs.nox ?_, pure_pick vs H Q E h⟩
    exact pss_one (ps_ret (pe_ix ix_list (pv 1) (pe_k C_take hr (by decide) rfl pass0 (pa_cons (pv 0) (pa_cons (pe_callB call_len_seq (by rfl) T.n_len PySem.boot_len (pa_cons (pv 1) (pa_nil))) (pa_nil)))) (fun _ _ => rfl)))
  exact F.ok sc_pick (fun vs H Q E h => by
    repeat (first | (obtain ⟨rfl, _⟩ := h; rfl) | obtain ⟨_, h⟩ := h)) D
theorem dfn_sizes (T : Tx K mg c_Row) (C_take : Kn P w K mg base CX0 2 "_law_take" ["state", "size"] spTake) (C_pick : Kn P w K mg base CX0 3 "_law_pick" ["state", "some"] (spPick K)) {f : Addr} {fd : FuncData} (F : FunD K "_law_sizes" "_law_sizes" (defArgs s_sizes) (defBody s_sizes) (defScope s_sizes) [] [] f fd) :
    FnOk P w K mg base CX0 4 f fd ["state", "most"] (spSizes K) := by
  have D : ∀ (cdv : Value) (A : Around) (outer : List Env) (s : Shared) (H : Hp) (vs : List V) (Q : VK) (E : XK), Room 3 (A.deeper (envOfC "_law_sizes" (defScope s_sizes) s.heap.objs.size f cdv)) → (spSizes K) vs H Q E →
      ∃ t, PSs (cxOf CX0 P w K mg base ["state", "most", "found", "turn", "place"] "_law_sizes" (defScope s_sizes) f cdv A outer s H E) (defBody s_sizes) t ∧ t { nx := fun _ H' => Q .non H', rt := Q } (start ["state", "most", "found", "turn", "place"] vs) H := by
    intro cdv A outer s H vs Q E hr h
    refine ⟨t_sizes K, PSs.nox ?_, pure_sizes vs H Q E h⟩
    exact pss_cons (ps_set (i := 2) sc_sizes.nd rfl (Or.inr rfl) (pe_dnewK))
      (pss_cons (ps_for PassesOwn.never rfl (pi_range1 rfl T.n_range (pa_cons (pe_k C_take hr (by decide) rfl pass0 (pa_cons (pv 0) (pa_cons (pe_op op_add (pv 1) (pe_int)) (pa_nil)))) (pa_nil))) (pg_name (i := 3) sc_sizes.nd rfl (Or.inl rfl))
      (pss_one (ps_dput (hu_of hr) (pv 2) (pe_k C_pick hr (by decide) rfl pass0 (pa_cons (pv 0) (pa_cons (pe_lst (pa_cons (pe_op op_sub (pe_k C_take hr (by decide) rfl pass0 (pa_cons (pv 0) (pa_cons (pe_int) (pa_nil)))) (pe_int)) (pa_cons (pe_op op_sub (pe_k C_take hr (by decide) rfl pass0 (pa_cons (pv 0) (pa_cons (pe_int) (pa_nil)))) (pe_int)) (pa_cons (pe_int) (pa_cons (pe_un un_neg (pe_int)) (pa_nil)))))) (pa_nil)))) (pe_op op_add (pe_int) (pe_k C_take hr (by decide) rfl pass0 (pa_cons (pv 0) (pa_cons (pe_int) (pa_nil))))) rfl)))
      (pss_one (ps_ret (pe_callTy (call_dictP rfl) (by rfl) T.n_dict (by decide +kernel) (pa_cons (pe_lc (own := [("place", 4)]) (g := gName 4) (tt := tYes) rfl sc_sizes.nd (pi_list (pe_callB (call_sortedDI rfl) (by rfl) T.n_sorted (by decide +kernel) (pa_cons (pv 2) (pa_nil)))) (blkOk_by (own := [("place", 4)]) (N := ["state", "most", "found", "turn", "place"]) (sc := defScope s_sizes) (by decide +kernel)) (fun _ _ _ _ _ => pg_name (i := 4) sc_sizes.nd rfl (Or.inl rfl)) (fun _ _ _ _ _ => pts_nil) (fun _ _ _ _ _ => pe_tup (pa_cons (pv 4) (pa_cons (pe_dget (hu_of hr) (pv 2) (pv 4) (fun _ _ => rfl)) (pa_nil))))) (pa_nil))))))
  exact F.ok sc_sizes (fun vs H Q E h => by
    repeat (first | (obtain ⟨rfl, _⟩ := h; rfl) | obtain ⟨_, h⟩ := h)) D
theorem dfn_boxes (T : Tx K mg c_Row) (C_take : Kn P w K mg base CX0 2 "_law_take" ["state", "size"] spTake) (C_pick : Kn P w K mg base CX0 3 "_law_pick" ["state", "some"] (spPick K)) {f : Addr} {fd : FuncData} (F : FunD K "_law_boxes" "_law_boxes" (defArgs s_boxes) (defBody s_boxes) (defScope s_boxes) [] [] f fd) :
    FnOk P w K mg base CX0 4 f fd ["state", "sizes", "most"] (spBoxes K) := by
  have D : ∀ (cdv : Value) (A : Around) (outer : List Env) (s : Shared) (H : Hp) (vs : List V) (Q : VK) (E : XK), Room 3 (A.deeper (envOfC "_law_boxes" (defScope s_boxes) s.heap.objs.size f cdv)) → (spBoxes K) vs H Q E →
      ∃ t, PSs (cxOf CX0 P w K mg base ["state", "sizes", "most", "place", "found", "left", "turn", "step", "count"] "_law_boxes" (defScope s_boxes) f cdv A outer s H E) (defBody s_boxes) t ∧ t { nx := fun _ H' => Q .non H', rt := Q } (start ["state", "sizes", "most", "place", "found", "left", "turn", "step", "count"] vs) H := by
    intro cdv A outer s H vs Q E hr h
    refine ⟨t_boxes K, PSs.nox ?_, pure_boxes vs H Q E h⟩
    exact pss_cons (ps_asg (pe_tup (pa_cons (pe_k C_pick hr (by decide) rfl pass0 (pa_cons (pv 0) (pa_cons (pe_lst (pa_cons (pe_int) (pa_cons (pe_int) (pa_cons (pe_un un_neg (pe_int)) (pa_cons (pe_un un_neg (pe_int)) (pa_cons (pe_int) (pa_cons (pe_op op_pow (pe_int) (pe_int)) (pa_cons (pe_un un_neg (pe_op op_pow (pe_int) (pe_int))) (pa_nil))))))))) (pa_nil)))) (pa_cons (pe_dnewK) (pa_cons (pv 2) (pa_nil))))) (pg_tup rfl (pgs_cons (pg_name (i := 3) sc_boxes.nd rfl (Or.inl rfl)) (pgs_cons (pg_name (i := 4) sc_boxes.nd rfl (Or.inr rfl)) (pgs_cons (pg_name (i := 5) sc_boxes.nd rfl (Or.inl rfl)) (pgs_nil))))))
      (pss_cons (ps_for PassesOwn.never rfl (pi_range1 rfl T.n_range (pa_cons (pe_k C_take hr (by decide) rfl pass0 (pa_cons (pv 0) (pa_cons (pe_int) (pa_nil)))) (pa_nil))) (pg_name (i := 6) sc_boxes.nd rfl (Or.inl rfl))
      (pss_cons (ps_for PassesOwn.never rfl (pi_range1 rfl T.n_range (pa_cons (pe_op op_add (pe_int) (pe_k C_take hr (by decide) rfl pass0 (pa_cons (pv 0) (pa_cons (pe_int) (pa_nil))))) (pa_nil))) (pg_name (i := 7) sc_boxes.nd rfl (Or.inl rfl))
      (pss_cons (ps_set (i := 8) sc_boxes.nd rfl (Or.inl rfl) (pe_callB (call_min2 rfl) (by rfl) T.n_min (by decide +kernel) (pa_cons (pv 5) (pa_cons (pe_op op_add (pe_int) (pe_k C_take hr (by decide) rfl pass0 (pa_cons (pv 0) (pa_cons (pe_dget2 (hu_of hr) (pv 1) (pv 3) (pe_int) ⟨rfl, rfl, rfl, rfl⟩) (pa_nil))))) (pa_nil)))))
      (pss_cons (ps_if (pt_cmpR op_gt (pv 8) (pe_int) (nomark _))
      (pss_one (ps_dput (hu_of hr) (pv 4) (pv 3) (pv 8) rfl))
      (pss_nil))
      (pss_one (ps_par (by rfl) sc_boxes.nd rfl rfl (by decide) rfl rfl (pa_cons (pe_op op_sub (pv 5) (pv 8)) (pa_cons (pe_op op_add (pv 3) (pe_int)) (pa_nil))) (by rfl))))))
      (pss_one (ps_set (i := 3) sc_boxes.nd rfl (Or.inl rfl) (pe_op op_add (pv 3) (pe_k C_pick hr (by decide) rfl pass0 (pa_cons (pv 0) (pa_cons (pe_lst (pa_cons (pe_int) (pa_cons (pe_int) (pa_cons (pe_int) (pa_cons (pe_int) (pa_cons (pe_int) (pa_cons (pe_int) (pa_cons (pe_op op_pow (pe_int) (pe_int)) (pa_nil))))))))) (pa_nil)))))))))
      (pss_cons (ps_lock (ps_for PassesOwn.never rfl (pi_keys (pv 1)) (pg_name (i := 3) sc_boxes.nd rfl (Or.inl rfl))
      (pss_cons (ps_set (i := 8) sc_boxes.nd rfl (Or.inl rfl) (pe_callB (call_min2 rfl) (by rfl) T.n_min (by decide +kernel) (pa_cons (pv 5) (pa_cons (pe_k C_take hr (by decide) rfl pass0 (pa_cons (pv 0) (pa_cons (pe_op op_add (pe_dget (hu_of hr) (pv 1) (pv 3) (fun _ _ => rfl)) (pe_int)) (pa_nil)))) (pa_nil)))))
      (pss_one (ps_if (PW.pt (pw_and (pt_cmp (pc_dnotin (hu_of hr) (pv 3) (pv 4))) (pw_and1 (pt_cmpR op_gt (pv 8) (pe_int) (nomark _)))))
      (pss_one (ps_asg (pe_tup (pa_cons (pv 8) (pa_cons (pe_op op_sub (pv 5) (pv 8)) (pa_nil)))) (pg_tup rfl (pgs_cons (pg_sub (pv 4) (pv 3) (set_dict (hu_of hr))) (pgs_cons (pg_name (i := 5) sc_boxes.nd rfl (Or.inl rfl)) (pgs_nil))))))
      (pss_nil))))))
      (pss_one (ps_ret (pe_callTy (call_dictP rfl) (by rfl) T.n_dict (by decide +kernel) (pa_cons (pe_lc (own := [("place", 3)]) (g := gName 3) (tt := tYes) rfl sc_boxes.nd (pi_list (pe_callB (call_sortedDI rfl) (by rfl) T.n_sorted (by decide +kernel) (pa_cons (pv 4) (pa_nil)))) (blkOk_by (own := [("place", 3)]) (N := ["state", "sizes", "most", "place", "found", "left", "turn", "step", "count"]) (sc := defScope s_boxes) (by decide +kernel)) (fun _ _ _ _ _ => pg_name (i := 3) sc_boxes.nd rfl (Or.inl rfl)) (fun _ _ _ _ _ => pts_nil) (fun _ _ _ _ _ => pe_tup (pa_cons (pv 3) (pa_cons (pe_dget (hu_of hr) (pv 4) (pv 3) (fun _ _ => rfl)) (pa_nil))))) (pa_nil)))))))
  exact F.ok sc_boxes (fun vs H Q E h => by
    repeat (first | (obtain ⟨rfl, _⟩ := h; rfl) | obtain ⟨_, h⟩ := h)) D
theorem dfn_made (T : Tx K mg c_Row) (C_Row : C8.Mak P w K mg base 5 "Row" c_Row (spRowInit K c_Row) []) {f : Addr} {fd : FuncData} (F : FunD K "_law_made" "_law_made" (defArgs s_made) (defBody s_made) (defScope s_made) [] [] f fd) :
    FnOk P w K mg base CX0 7 f fd ["boxes", "sizes"] (spMade K c_Row) := by
  have D : ∀ (cdv : Value) (A : Around) (outer : List Env) (s : Shared) (H : Hp) (vs : List V) (Q : VK) (E : XK), Room 6 (A.deeper (envOfC "_law_made" (defScope s_made) s.heap.objs.size f cdv)) → (spMade K c_Row) vs H Q E →
      ∃ t, PSs (cxOf CX0 P w K mg base ["boxes", "sizes"] "_law_made" (defScope s_made) f cdv A outer s H E) (defBody s_made) t ∧ t { nx := fun _ H' => Q .non H', rt := Q } (start ["boxes", "sizes"] vs) H := by
    intro cdv A outer s H vs Q E hr h
    refine ⟨t_made K c_Row, PSs.nox ?_, pure_made vs H Q E h⟩
    exact pss_one (ps_ret (C8.pe_mk C_Row hr (by decide) (by rfl) (pa_cons (LiI.pe_listItems rfl (pv 0) (by rfl) T.n_list (by decide +kernel)) (pa_cons (LiI.pe_listItems rfl (pv 1) (by rfl) T.n_list (by decide +kernel)) (pa_nil)))))
  exact F.ok sc_made (fun vs H Q E h => by
    repeat (first | (obtain ⟨rfl, _⟩ := h; rfl) | obtain ⟨_, h⟩ := h)) D
theorem dfn_shown (T : Tx K mg c_Row) (C_contents : Prp P w K mg base 1 c_Row "contents" (spContents K c_Row)) (C_capacities : Prp P w K mg base 1 c_Row "capacities" (spCapacities K c_Row)) {f : Addr} {fd : FuncData} (F : FunD K "_law_shown" "_law_shown" (defArgs s_shown) (defBody s_shown) (defScope s_shown) [] [] f fd) :
    FnG P w K mg base CX0 3 f fd ["shelf", "boxes", "sizes"] (spShown62 K c_Row) := by
  have D : ∀ (cdv : Value) (A : Around) (outer : List Env) (s : Shared) (H : Hp) (vs : List V) (Q : VK) (E : XK), Gs A → Room 2 (A.deeper (envOfC "_law_shown" (defScope s_shown) s.heap.objs.size f cdv)) → (spShown62 K c_Row) vs H Q E →
      ∃ t, PSs (cxOf CX0 P w K mg base ["shelf", "boxes", "sizes"] "_law_shown" (defScope s_shown) f cdv A outer s H E) (defBody s_shown) t ∧ t { nx := fun _ H' => Q .non H', rt := Q } (start ["shelf", "boxes", "sizes"] vs) H := by
    intro cdv A outer s H vs Q E hgs hr h
    refine ⟨t_shown62 K c_Row, PSs.nox ?_, pure_shown62 vs H Q E h⟩
    exact pss_cons (ps_if (pt_cmpR op_ne (pe_callB (call_reprD hgs hr.units) (by rfl) T.n_repr (by decide +kernel) (pa_cons (pe_pr C_contents hr (by decide) (pv 0)) (pa_nil))) (pe_callB (call_reprD hgs hr.units) (by rfl) T.n_repr (by decide +kernel) (pa_cons (pe_callTy cr_tupB (by rfl) T.n_tuple (by decide +kernel) (pa_cons (LiI.pe_listItems rfl (pv 1) (by rfl) T.n_list (by decide +kernel)) (pa_nil))) (pa_nil))) (nomark _))
      (pss_one (ps_ret (pe_bl)))
      (pss_nil))
      (pss_one (ps_ret (pe_cmpR op_eq (pe_callB (call_reprD hgs hr.units) (by rfl) T.n_repr (by decide +kernel) (pa_cons (pe_pr C_capacities hr (by decide) (pv 0)) (pa_nil))) (pe_callB (call_reprD hgs hr.units) (by rfl) T.n_repr (by decide +kernel) (pa_cons (pe_callTy cr_tupB (by rfl) T.n_tuple (by decide +kernel) (pa_cons (LiI.pe_listItems rfl (pv 2) (by rfl) T.n_list (by decide +kernel)) (pa_nil))) (pa_nil))) (nomark _))))
  exact okG F sc_shown (fun vs H Q E h => by
    repeat (first | (obtain ⟨rfl, _⟩ := h; rfl) | obtain ⟨_, h⟩ := h)) D
theorem dfn_shelf (T : Tx K mg c_Row) (C_take : Kn P w K mg base CX0 2 "_law_take" ["state", "size"] spTake) (C_sizes : Kn P w K mg base CX0 4 "_law_sizes" ["state", "most"] (spSizes K)) (C_boxes : Kn P w K mg base CX0 4 "_law_boxes" ["state", "sizes", "most"] (spBoxes K)) {f : Addr} {fd : FuncData} (F : FunD K "_law_shelf" "_law_shelf" (defArgs s_shelf) (defBody s_shelf) (defScope s_shelf) [] [] f fd) :
    FnOk P w K mg base CX0 5 f fd ["state"] (spShelf62 K) := by
  have D : ∀ (cdv : Value) (A : Around) (outer : List Env) (s : Shared) (H : Hp) (vs : List V) (Q : VK) (E : XK), Room 4 (A.deeper (envOfC "_law_shelf" (defScope s_shelf) s.heap.objs.size f cdv)) → (spShelf62 K) vs H Q E →
      ∃ t, PSs (cxOf CX0 P w K mg base ["state", "sizes"] "_law_shelf" (defScope s_shelf) f cdv A outer s H E) (defBody s_shelf) t ∧ t { nx := fun _ H' => Q .non H', rt := Q } (start ["state", "sizes"] vs) H := by
    intro cdv A outer s H vs Q E hr h
    refine ⟨t_shelf62 K, PSs.nox ?_, pure_shelf62 vs H Q E h⟩
    exact pss_cons (ps_set (i := 1) sc_shelf.nd rfl (Or.inl rfl) (pe_k C_sizes hr (by decide) rfl pass0 (pa_cons (pv 0) (pa_cons (pe_int) (pa_nil)))))
      (pss_one (ps_ret (pe_tup (pa_cons (pe_k C_boxes hr (by decide) rfl pass0 (pa_cons (pv 0) (pa_cons (pv 1) (pa_cons (pe_op op_add (pe_int) (pe_k C_take hr (by decide) rfl pass0 (pa_cons (pv 0) (pa_cons (pe_int) (pa_nil))))) (pa_nil))))) (pa_cons (pv 1) (pa_nil))))))
  exact F.ok sc_shelf (fun vs H Q E h => by
    repeat (first | (obtain ⟨rfl, _⟩ := h; rfl) | obtain ⟨_, h⟩ := h)) D
theorem dfn_lines (T : Tx K mg c_Row) {f : Addr} {fd : FuncData} (F : FunD K "_law_lines" "_law_lines" (defArgs s_lines) (defBody s_lines) (defScope s_lines) [] [] f fd) :
    FnOk P w K mg base CX0 1 f fd ["boxes", "sizes"] (spLines62 K) := by
  have D : ∀ (cdv : Value) (A : Around) (outer : List Env) (s : Shared) (H : Hp) (vs : List V) (Q : VK) (E : XK), Room 0 (A.deeper (envOfC "_law_lines" (defScope s_lines) s.heap.objs.size f cdv)) → (spLines62 K) vs H Q E →
      ∃ t, PSs (cxOf CX0 P w K mg base ["boxes", "sizes", "found", "place"] "_law_lines" (defScope s_lines) f cdv A outer s H E) (defBody s_lines) t ∧ t { nx := fun _ H' => Q .non H', rt := Q } (start ["boxes", "sizes", "found", "place"] vs) H := by
    intro cdv A outer s H vs Q E hr h
    refine ⟨t_lines62 K, PSs.nox ?_, pure_lines62 vs H Q E h⟩
    exact pss_cons (ps_setLc (i := 2) (own := [("place", 3)]) (g := gName 3) (tt := tYes) rfl sc_lines.nd rfl rfl (sw_true rfl rfl rfl (by decide +kernel)) (pi_list (pe_callB (call_sortedDI rfl) (by rfl) T.n_sorted (by decide +kernel) (pa_cons (pv 1) (pa_nil)))) (blkOk_by (own := [("place", 3)]) (N := ["boxes", "sizes", "found", "place"]) (sc := defScope s_lines) (by decide +kernel)) (fun _ _ _ _ _ => pg_name (i := 3) sc_lines.nd rfl (Or.inl rfl)) (fun _ _ _ _ _ => pts_nil) (fun _ _ _ _ _ => pe_op op_add_str (pe_op op_add_str (pe_op op_add_str (pe_str) (pe_callTy call_str_int (by rfl) T.n_str (by decide +kernel) (pa_cons (pv 3) (pa_nil)))) (pe_str)) (pe_callTy call_str_int (by rfl) T.n_str (by decide +kernel) (pa_cons (pe_dget (hu_of hr) (pv 1) (pv 3) (fun _ _ => rfl)) (pa_nil)))))
      (pss_one (ps_ret (pe_op op_cat (pv 2) (pe_lc (own := [("place", 3)]) (g := gName 3) (tt := tYes) rfl sc_lines.nd (pi_list (pe_callB (call_sortedDI rfl) (by rfl) T.n_sorted (by decide +kernel) (pa_cons (pv 0) (pa_nil)))) (blkOk_by (own := [("place", 3)]) (N := ["boxes", "sizes", "found", "place"]) (sc := defScope s_lines) (by decide +kernel)) (fun _ _ _ _ _ => pg_name (i := 3) sc_lines.nd rfl (Or.inl rfl)) (fun _ _ _ _ _ => pts_nil) (fun _ _ _ _ _ => pe_op op_add_str (pe_op op_add_str (pe_op op_add_str (pe_str) (pe_callTy call_str_int (by rfl) T.n_str (by decide +kernel) (pa_cons (pv 3) (pa_nil)))) (pe_str)) (pe_callTy call_str_int (by rfl) T.n_str (by decide +kernel) (pa_cons (pe_dget (hu_of hr) (pv 0) (pv 3) (fun _ _ => rfl)) (pa_nil))))))))
  exact F.ok sc_lines (fun vs H Q E h => by
    repeat (first | (obtain ⟨rfl, _⟩ := h; rfl) | obtain ⟨_, h⟩ := h)) D
theorem dfn_right (T : Tx K mg c_Row) (C_made : Kn P w K mg base CX0 7 "_law_made" ["boxes", "sizes"] (spMade K c_Row)) (C_lines : Kn P w K mg base CX0 1 "_law_lines" ["boxes", "sizes"] (spLines62 K)) (C_shown : KnG P w K mg base CX0 3 "_law_shown" ["shelf", "boxes", "sizes"] (spShown62 K c_Row)) (C_row_text : Kn P w K mg base CX0 3 "row_text" ["row"] (spRowText K c_Row)) (C_parse_row : Kn P w K mg base CX0 7 "parse_row" ["text"] (spParseRow K c_Row)) (C_row_text_kw : KnK P w K mg base CX0 3 "row_text" ["row"] (spRowText K c_Row) 0 ["row"] (fun vs zs => gkw_row_text vs zs)) (C_parse_row_kw : KnK P w K mg base CX0 7 "parse_row" ["text"] (spParseRow K c_Row) 0 ["text"] (fun vs zs => gkw_parse_row vs zs)) (C_eq : EqM P w K mg base 1 c_Row) {f : Addr} {fd : FuncData} (F : FunD K "_law_right" "_law_right" (defArgs s_right) (defBody s_right) (defScope s_right) [] [] f fd) :
    FnG P w K mg base CX0 20 f fd ["boxes", "sizes"] (spRight62 K c_Row) := by
  have D : ∀ (cdv : Value) (A : Around) (outer : List Env) (s : Shared) (H : Hp) (vs : List V) (Q : VK) (E : XK), Gs A → Room 19 (A.deeper (envOfC "_law_right" (defScope s_right) s.heap.objs.size f cdv)) → (spRight62 K c_Row) vs H Q E →
      ∃ t, PSs (cxOf CX0 P w K mg base ["boxes", "sizes", "shelf", "due", "line", "back"] "_law_right" (defScope s_right) f cdv A outer s H E) (defBody s_right) t ∧ t { nx := fun _ H' => Q .non H', rt := Q } (start ["boxes", "sizes", "shelf", "due", "line", "back"] vs) H := by
    intro cdv A outer s H vs Q E hgs hr h
    refine ⟨t_right62 K c_Row, PSs.nox ?_, pure_right62 vs H Q E h⟩
    exact pss_cons (ps_set (i := 2) sc_right.nd rfl (Or.inl rfl) (pe_k C_made hr (by decide) rfl pass0 (pa_cons (pv 0) (pa_cons (pv 1) (pa_nil)))))
      (pss_cons (ps_set (i := 3) sc_right.nd rfl (Or.inl rfl) (pe_bm PySem.F.plainAttrs_str PySem.F.slot_str_join PySem.F.type_str_join mt_join (pe_str) (pa_cons (pe_lc (own := [("line", 4)]) (g := gName 4) (tt := tYes) rfl sc_right.nd (pi_list (pe_k C_lines hr (by decide) rfl pass0 (pa_cons (pv 0) (pa_cons (pv 1) (pa_nil))))) (blkOk_by (own := [("line", 4)]) (N := ["boxes", "sizes", "shelf", "due", "line", "back"]) (sc := defScope s_right) (by decide +kernel)) (fun _ _ _ _ _ => pg_name (i := 4) sc_right.nd rfl (Or.inl rfl)) (fun _ _ _ _ _ => pts_nil) (fun _ _ _ _ _ => pe_op op_add_str (pv 4) (pe_str))) (pa_nil))))
      (pss_cons (ps_if (PW.pt (pw_or (pt_cmpR op_ne (pe_k C_row_text hr (by decide) rfl pass0 (pa_cons (pv 2) (pa_nil))) (pv 3) (nomark _)) (pw_or1 (pt_cmpR op_ne (pe_kK1 C_row_text_kw hr (by decide) (by exact rfl) (fun σ pins H s e s2 => pass0 pins σ H s e s2) (pk_cons (pv 2) (pk_nil))) (pv 3) (nomark _)))))
      (pss_one (ps_ret (pe_bl)))
      (pss_nil))
      (pss_cons (ps_set (i := 5) sc_right.nd rfl (Or.inl rfl) (pe_k C_parse_row hr (by decide) rfl pass0 (pa_cons (pv 3) (pa_nil))))
      (pss_one (ps_ret (pe_and (pe_kG C_shown hgs hr (by decide) rfl pass0 (pa_cons (pv 5) (pa_cons (pv 0) (pa_cons (pv 1) (pa_nil))))) (pe_and (pe_cmpR (op_eqR C_eq hr (by decide)) (pv 5) (pv 2) (nomark _)) (pe_and (pe_cmpR (op_eqR C_eq hr (by decide)) (pe_kK1 C_parse_row_kw hr (by decide) (by exact rfl) (fun σ pins H s e s2 => pass0 pins σ H s e s2) (pk_cons (pv 3) (pk_nil))) (pv 2) (nomark _)) (pe_one (pe_cmpR op_eq (pe_k C_row_text hr (by decide) rfl pass0 (pa_cons (pv 5) (pa_nil))) (pv 3) (nomark _)))))))))))
  exact okG F sc_right (fun vs H Q E h => by
    repeat (first | (obtain ⟨rfl, _⟩ := h; rfl) | obtain ⟨_, h⟩ := h)) D
theorem dfn_law (T : Tx K mg c_Row) (C_begun : Kn P w K mg base CX0 1 "_law_begun" ["script"] (spBegun K)) (C_shelf : Kn P w K mg base CX0 5 "_law_shelf" ["state"] (spShelf62 K)) (C_right : KnG P w K mg base CX0 20 "_law_right" ["boxes", "sizes"] (spRight62 K c_Row)) (C_row_text : Kn P w K mg base CX0 3 "row_text" ["row"] (spRowText K c_Row)) (C_parse_row : Kn P w K mg base CX0 7 "parse_row" ["text"] (spParseRow K c_Row)) (C_eq : EqM P w K mg base 1 c_Row) {a00 a0 : Addr} (C_Row0 : C8.Mak P w K mg base 5 "Row" c_Row (spRowInit K c_Row) [.ref a00, .ref a0]) (hE0 : BareK K a00 []) (hE : BareK K a0 []) {f : Addr} {fd : FuncData} (F : FunD K "law" "law" (defArgs s_law) (defBody s_law) (defScope s_law) [] [] f fd) :
    FnG P w K mg base CX0 24 f fd ["script"] (spLaw K) := by
  have D : ∀ (cdv : Value) (A : Around) (outer : List Env) (s : Shared) (H : Hp) (vs : List V) (Q : VK) (E : XK), Gs A → Room 23 (A.deeper (envOfC "law" (defScope s_law) s.heap.objs.size f cdv)) → (spLaw K) vs H Q E →
      ∃ t, PSs (cxOf CX0 P w K mg base ["script", "state", "turn", "boxes", "sizes"] "law" (defScope s_law) f cdv A outer s H E) (defBody s_law) t ∧ t { nx := fun _ H' => Q .non H', rt := Q } (start ["script", "state", "turn", "boxes", "sizes"] vs) H := by
    intro cdv A outer s H vs Q E hgs hr h
    refine ⟨t_law62 K a00 a0 c_Row, PSs.nox ?_, pure_law62 hE0 hE vs H Q E h⟩
    exact pss_cons (ps_set (i := 1) sc_law.nd rfl (Or.inl rfl) (pe_k C_begun hr (by decide) rfl pass0 (pa_cons (pv 0) (pa_nil))))
      (pss_cons (ps_for PassesOwn.never rfl (pi_range1 rfl T.n_range (pa_cons (pe_op op_add (pe_int) (pe_callB (call_min2 rfl) (by rfl) T.n_min (by decide +kernel) (pa_cons (pe_int) (pa_cons (pe_callB call_len_seq (by rfl) T.n_len PySem.boot_len (pa_cons (pv 0) (pa_nil))) (pa_nil))))) (pa_nil))) (pg_name (i := 2) sc_law.nd rfl (Or.inl rfl))
      (pss_cons (ps_asg (pe_k C_shelf hr (by decide) rfl pass0 (pa_cons (pv 1) (pa_nil))) (pg_tup rfl (pgs_cons (pg_name (i := 3) sc_law.nd rfl (Or.inl rfl)) (pgs_cons (pg_name (i := 4) sc_law.nd rfl (Or.inl rfl)) (pgs_nil)))))
      (pss_one (ps_if (PW.pt (pw_or (pt_not (pt_val (pe_kG C_right hgs hr (by decide) rfl pass0 (pa_cons (pv 3) (pa_cons (pv 4) (pa_nil)))))) (pw_or1 (pt_not (pt_val (pe_kG C_right hgs hr (by decide) rfl pass0 (pa_cons (pe_dnewK) (pa_cons (pv 4) (pa_nil)))))))))
      (pss_one (ps_ret (pe_bl)))
      (pss_nil)))))
      (pss_one (ps_ret (pe_and (pe_cmpR op_eq (pe_k C_row_text hr (by decide) rfl pass0 (pa_cons (pe_mk0 C_Row0 hr (by decide) (by rfl)) (pa_nil))) (pe_str) (nomark _)) (pe_and (pe_cmpR (op_eqR C_eq hr (by decide)) (pe_k C_parse_row hr (by decide) rfl pass0 (pa_cons (pe_str) (pa_nil))) (pe_mk0 C_Row0 hr (by decide) (by rfl)) (nomark _)) (pe_one (pe_kG C_right hgs hr (by decide) rfl pass0 (pa_cons (pe_dnewK) (pa_cons (pe_dnewK) (pa_nil))))))))))
  exact okG F sc_law (fun vs H Q E h => by
    repeat (first | (obtain ⟨rfl, _⟩ := h; rfl) | obtain ⟨_, h⟩ := h)) D
end
def supDs : List SupD := []
def d_is_integer : He.DefD := ⟨("is_integer", none), "is_integer", "is_integer", defArgs s_is_integer, defBody s_is_integer, defScope s_is_integer, [], []⟩
def d_is_between : He.DefD := ⟨("is_between", none), "is_between", "is_between", defArgs s_is_between, defBody s_is_between, defScope s_is_between, [], []⟩
def d_is_pair : He.DefD := ⟨("is_pair", none), "is_pair", "is_pair", defArgs s_is_pair, defBody s_is_pair, defScope s_is_pair, [], []⟩
def d_are_pairs : He.DefD := ⟨("are_pairs", none), "are_pairs", "are_pairs", defArgs s_are_pairs, defBody s_are_pairs, defScope s_are_pairs, [], []⟩
def d_is_wide_box : He.DefD := ⟨("_is_wide_box", none), "_is_wide_box", "_is_wide_box", defArgs s_is_wide_box, defBody s_is_wide_box, defScope s_is_wide_box, [], []⟩
def d_are_capacities : He.DefD := ⟨("_are_capacities", none), "_are_capacities", "_are_capacities", defArgs s_are_capacities, defBody s_are_capacities, defScope s_are_capacities, [], []⟩
def d_are_contents : He.DefD := ⟨("_are_contents", none), "_are_contents", "_are_contents", defArgs s_are_contents, defBody s_are_contents, defScope s_are_contents, [], []⟩
def d_is_row_like : He.DefD := ⟨("is_row_like", none), "is_row_like", "is_row_like", defArgs s_is_row_like, defBody s_is_row_like, defScope s_is_row_like, [], []⟩
def d_Row_init : He.DefD := ⟨("Row", some "__init__"), "__init__", "Row.__init__", defArgs s_Row_init, defBody s_Row_init, defScope s_Row_init, [.adr (He.dflAt ("Row", some "__init__") 0), .adr (He.dflAt ("Row", some "__init__") 1)], []⟩
def d_Row_contents : He.DefD := ⟨("Row", some "contents"), "contents", "Row.contents", defArgs s_Row_contents, defBody s_Row_contents, defScope s_Row_contents, [], []⟩
def d_Row_capacities : He.DefD := ⟨("Row", some "capacities"), "capacities", "Row.capacities", defArgs s_Row_capacities, defBody s_Row_capacities, defScope s_Row_capacities, [], []⟩
def d_Row_eq : He.DefD := ⟨("Row", some "__eq__"), "__eq__", "Row.__eq__", defArgs s_Row_eq, defBody s_Row_eq, defScope s_Row_eq, [], []⟩
def d_integer_in : He.DefD := ⟨("integer_in", none), "integer_in", "integer_in", defArgs s_integer_in, defBody s_integer_in, defScope s_integer_in, [.int 31], []⟩
def d_row_text : He.DefD := ⟨("row_text", none), "row_text", "row_text", defArgs s_row_text, defBody s_row_text, defScope s_row_text, [], []⟩
def d_pair_in : He.DefD := ⟨("_pair_in", none), "_pair_in", "_pair_in", defArgs s_pair_in, defBody s_pair_in, defScope s_pair_in, [], []⟩
def d_with_line : He.DefD := ⟨("_with_line", none), "_with_line", "_with_line", defArgs s_with_line, defBody s_with_line, defScope s_with_line, [], []⟩
def d_parse_row : He.DefD := ⟨("parse_row", none), "parse_row", "parse_row", defArgs s_parse_row, defBody s_parse_row, defScope s_parse_row, [], []⟩
def d_begun : He.DefD := ⟨("_law_begun", none), "_law_begun", "_law_begun", defArgs s_begun, defBody s_begun, defScope s_begun, [], []⟩
def d_mixed : He.DefD := ⟨("_law_mixed", none), "_law_mixed", "_law_mixed", defArgs s_mixed, defBody s_mixed, defScope s_mixed, [], []⟩
def d_take : He.DefD := ⟨("_law_take", none), "_law_take", "_law_take", defArgs s_take, defBody s_take, defScope s_take, [], []⟩
def d_pick : He.DefD := ⟨("_law_pick", none), "_law_pick", "_law_pick", defArgs s_pick, defBody s_pick, defScope s_pick, [], []⟩
def d_sizes : He.DefD := ⟨("_law_sizes", none), "_law_sizes", "_law_sizes", defArgs s_sizes, defBody s_sizes, defScope s_sizes, [], []⟩
def d_boxes : He.DefD := ⟨("_law_boxes", none), "_law_boxes", "_law_boxes", defArgs s_boxes, defBody s_boxes, defScope s_boxes, [], []⟩
def d_made : He.DefD := ⟨("_law_made", none), "_law_made", "_law_made", defArgs s_made, defBody s_made, defScope s_made, [], []⟩
def d_shown : He.DefD := ⟨("_law_shown", none), "_law_shown", "_law_shown", defArgs s_shown, defBody s_shown, defScope s_shown, [], []⟩
def d_shelf : He.DefD := ⟨("_law_shelf", none), "_law_shelf", "_law_shelf", defArgs s_shelf, defBody s_shelf, defScope s_shelf, [], []⟩
def d_lines : He.DefD := ⟨("_law_lines", none), "_law_lines", "_law_lines", defArgs s_lines, defBody s_lines, defScope s_lines, [], []⟩
def d_right : He.DefD := ⟨("_law_right", none), "_law_right", "_law_right", defArgs s_right, defBody s_right, defScope s_right, [], []⟩
def d_law : He.DefD := ⟨("law", none), "law", "law", defArgs s_law, defBody s_law, defScope s_law, [], []⟩
def fns : List He.DefD := [d_is_integer, d_is_between, d_is_pair, d_are_pairs, d_is_wide_box, d_are_capacities, d_are_contents, d_is_row_like, d_Row_init, d_Row_eq, d_integer_in, d_row_text, d_pair_in, d_with_line, d_parse_row, d_begun, d_mixed, d_take, d_pick, d_sizes, d_boxes, d_made, d_shown, d_shelf, d_lines, d_right, d_law]
def propDs : List PropD := [⟨"Row", "contents", d_Row_contents⟩, ⟨"Row", "capacities", d_Row_capacities⟩]
def fas : List He.Fa := [.glo "is_integer", .glo "is_between", .glo "is_pair", .glo "are_pairs", .glo "_is_wide_box", .glo "_are_capacities", .glo "_are_contents", .glo "is_row_like", .glo "integer_in", .glo "row_text", .glo "_pair_in", .glo "_with_line", .glo "parse_row", .glo "_law_begun", .glo "_law_mixed", .glo "_law_take", .glo "_law_pick", .glo "_law_sizes", .glo "_law_boxes", .glo "_law_made", .glo "_law_shown", .glo "_law_shelf", .glo "_law_lines", .glo "_law_right", .glo "law", .glo "Row", .free "isinstance", .free "int", .free "bool", .free "list", .free "tuple", .free "all", .free "len", .free "dict", .free "sum", .free "sorted", .free "range", .free "min", .free "max", .free "repr", .free "enumerate", .free "str", .int "FIRST_WIDE_INDEX" (-60), .int "LAST_WIDE_INDEX" (60), .int "LEAST_WIDE_CAPACITY" (2), .int "GREATEST_WIDE_CAPACITY" (9), .int "MOST_WIDE_BOXES" (6), .int "MOST_ITEMS" (40), .cls "Row", .noat "Row" "_contents", .noat "Row" "_capacities", .noat "Row" "_count_at", .noat "Row" "_capacity_at", .mkr "Row", .meth "Row" "__eq__"]
def more (K : PySem.W.Frag) : Bool := (rowKB K (He.ga K "Row")) && (emptyB K (He.dflAt ("Row", some "__init__") 1 K)) && (emptyB K (He.dflAt ("Row", some "__init__") 0 K))
abbrev Rw : PySem.W.OpenRow := PySem.W.OpenLaw.row PySem.Challenge.rw_scooprow_k62_rows_written_and_read
abbrev hk : PySem.W.Hook := hookS 6 fas fns propDs supDs more
def ob (s : PySem.W.SharedT) : AlS := obsS 6 fas fns propDs supDs more (HandSHeadRun.getT s)
theorem ob_eq (s : PySem.W.SharedT) : ob s = hk.obs s.abs := obsS_eq (HandSHeadRun.getT_eq s)
def others0 : List Str := ["_wall", "ScoopError", "BadRow", "BadIndex", "BadText", "MOST_ITEMS", "MOST_WIDE_BOXES", "FIRST_WIDE_INDEX", "LAST_WIDE_INDEX", "LEAST_WIDE_CAPACITY", "GREATEST_WIDE_CAPACITY", "is_integer", "is_between", "is_pair", "are_pairs", "_is_wide_box", "_are_capacities", "_are_contents", "is_row_like", "Row", "MOST_DIGITS", "integer_in", "row_text", "_pair_in", "_with_line", "parse_row", "_law_begun", "_law_mixed", "_law_take", "_law_pick"]
def others1 : List Str := ["_law_sizes", "_law_boxes", "_law_made", "_law_shown", "_law_shelf", "_law_lines", "_law_right"]
def others : List Str := others0 ++ others1
theorem run (w : World) : HandSHeadRun.RunEq Rw (PySem.W.view Rw.prog [41]) hk ob 4000 others w := by
  intro os
  kernel_rfl
theorem facts {P : Program} {w : World} {K : PySem.W.Frag} {h : Heap} {mg : Str → Option Value} {f : Addr} (X : K.In h) (G : h.Ns mainGlobals mg) (hfa : mg ("law" : Str) = some (.ref f)) (c : SaysS fas fns propDs supDs more w K) (hPf : P.main.file = "/claim/cut.py") (hPt : (P.main.scope.names.lookup ("super" : Str)).isSome = false) :
    ∃ fd : FuncData, (∀ (s : Shared) (v : Value), BindsTo s fd ⟨[v], []⟩ [("script", v)]) ∧ ∀ base : Heap, K.In base → base.Ns mainGlobals mg → FnG P w K mg base CX0 24 f fd ["script"] (spLaw K) := by
  have c1 := c.t.d
  have cm := c.more
  unfold more at cm
  simp only [Bool.and_eq_true] at cm
  obtain ⟨⟨m_Z_Row, m_hE⟩, m_hE0⟩ := cm
  have Z_Row := rowKB_ok m_Z_Row
  have hE := emptyB_ok m_hE
  have hE0 := emptyB_ok m_hE0
  have T : Tx K mg (He.ga K "Row") := ⟨He.free_ok X G (c1.fact 26 (f := .free "isinstance") rfl),
    He.free_ok X G (c1.fact 27 (f := .free "int") rfl),
    He.free_ok X G (c1.fact 28 (f := .free "bool") rfl),
    He.free_ok X G (c1.fact 29 (f := .free "list") rfl),
    He.free_ok X G (c1.fact 30 (f := .free "tuple") rfl),
    He.free_ok X G (c1.fact 31 (f := .free "all") rfl),
    He.free_ok X G (c1.fact 32 (f := .free "len") rfl),
    He.free_ok X G (c1.fact 33 (f := .free "dict") rfl),
    He.free_ok X G (c1.fact 34 (f := .free "sum") rfl),
    He.free_ok X G (c1.fact 35 (f := .free "sorted") rfl),
    He.free_ok X G (c1.fact 36 (f := .free "range") rfl),
    He.free_ok X G (c1.fact 37 (f := .free "min") rfl),
    He.free_ok X G (c1.fact 38 (f := .free "max") rfl),
    He.free_ok X G (c1.fact 39 (f := .free "repr") rfl),
    He.free_ok X G (c1.fact 40 (f := .free "enumerate") rfl),
    He.free_ok X G (c1.fact 41 (f := .free "str") rfl),
    (let ⟨t, e⟩ := He.int_ok X G (c1.fact 42 (f := .int "FIRST_WIDE_INDEX" (-60)) rfl); ⟨_, e, ⟨t, rfl⟩⟩),
    (let ⟨t, e⟩ := He.int_ok X G (c1.fact 43 (f := .int "LAST_WIDE_INDEX" (60)) rfl); ⟨_, e, ⟨t, rfl⟩⟩),
    (let ⟨t, e⟩ := He.int_ok X G (c1.fact 44 (f := .int "LEAST_WIDE_CAPACITY" (2)) rfl); ⟨_, e, ⟨t, rfl⟩⟩),
    (let ⟨t, e⟩ := He.int_ok X G (c1.fact 45 (f := .int "GREATEST_WIDE_CAPACITY" (9)) rfl); ⟨_, e, ⟨t, rfl⟩⟩),
    (let ⟨t, e⟩ := He.int_ok X G (c1.fact 46 (f := .int "MOST_WIDE_BOXES" (6)) rfl); ⟨_, e, ⟨t, rfl⟩⟩),
    (let ⟨t, e⟩ := He.int_ok X G (c1.fact 47 (f := .int "MOST_ITEMS" (40)) rfl); ⟨_, e, ⟨t, rfl⟩⟩),
    He.glo_ok X G (c1.fact 25 (f := .glo "Row") rfl)⟩
  have L_Row := He.cls_ok (c1.fact 48 (f := .cls "Row") rfl)
  have R_Row : RowC K (He.ga K "Row") := ⟨L_Row, He.noat_ok (c1.fact 49 (f := .noat "Row" "_contents") rfl), He.noat_ok (c1.fact 50 (f := .noat "Row" "_capacities") rfl), He.noat_ok (c1.fact 51 (f := .noat "Row" "_count_at") rfl), He.noat_ok (c1.fact 52 (f := .noat "Row" "_capacity_at") rfl)⟩
  obtain ⟨fd_is_integer, F_is_integer⟩ := c1.def_ 0 (d := d_is_integer) rfl
  obtain ⟨fd_is_between, F_is_between⟩ := c1.def_ 1 (d := d_is_between) rfl
  obtain ⟨fd_is_pair, F_is_pair⟩ := c1.def_ 2 (d := d_is_pair) rfl
  obtain ⟨fd_are_pairs, F_are_pairs⟩ := c1.def_ 3 (d := d_are_pairs) rfl
  obtain ⟨fd_is_wide_box, F_is_wide_box⟩ := c1.def_ 4 (d := d_is_wide_box) rfl
  obtain ⟨fd_are_capacities, F_are_capacities⟩ := c1.def_ 5 (d := d_are_capacities) rfl
  obtain ⟨fd_are_contents, F_are_contents⟩ := c1.def_ 6 (d := d_are_contents) rfl
  obtain ⟨fd_is_row_like, F_is_row_like⟩ := c1.def_ 7 (d := d_is_row_like) rfl
  obtain ⟨fd_Row_init, F_Row_init⟩ := c1.def_ 8 (d := d_Row_init) rfl
  obtain ⟨fd_Row_eq, F_Row_eq⟩ := c1.def_ 9 (d := d_Row_eq) rfl
  obtain ⟨fd_integer_in, F_integer_in⟩ := c1.def_ 10 (d := d_integer_in) rfl
  obtain ⟨fd_row_text, F_row_text⟩ := c1.def_ 11 (d := d_row_text) rfl
  obtain ⟨fd_pair_in, F_pair_in⟩ := c1.def_ 12 (d := d_pair_in) rfl
  obtain ⟨fd_with_line, F_with_line⟩ := c1.def_ 13 (d := d_with_line) rfl
  obtain ⟨fd_parse_row, F_parse_row⟩ := c1.def_ 14 (d := d_parse_row) rfl
  obtain ⟨fd_begun, F_begun⟩ := c1.def_ 15 (d := d_begun) rfl
  obtain ⟨fd_mixed, F_mixed⟩ := c1.def_ 16 (d := d_mixed) rfl
  obtain ⟨fd_take, F_take⟩ := c1.def_ 17 (d := d_take) rfl
  obtain ⟨fd_pick, F_pick⟩ := c1.def_ 18 (d := d_pick) rfl
  obtain ⟨fd_sizes, F_sizes⟩ := c1.def_ 19 (d := d_sizes) rfl
  obtain ⟨fd_boxes, F_boxes⟩ := c1.def_ 20 (d := d_boxes) rfl
  obtain ⟨fd_made, F_made⟩ := c1.def_ 21 (d := d_made) rfl
  obtain ⟨fd_shown, F_shown⟩ := c1.def_ 22 (d := d_shown) rfl
  obtain ⟨fd_shelf, F_shelf⟩ := c1.def_ 23 (d := d_shelf) rfl
  obtain ⟨fd_lines, F_lines⟩ := c1.def_ 24 (d := d_lines) rfl
  obtain ⟨fd_right, F_right⟩ := c1.def_ 25 (d := d_right) rfl
  obtain ⟨fd_law, F_law⟩ := c1.def_ 26 (d := d_law) rfl
  obtain ⟨po_Row_contents, fd_Row_contents, F_Row_contents⟩ := c.p ⟨"Row", "contents", d_Row_contents⟩ (List.mem_of_getElem? (l := propDs) (i := 0) rfl)
  obtain ⟨po_Row_capacities, fd_Row_capacities, F_Row_capacities⟩ := c.p ⟨"Row", "capacities", d_Row_capacities⟩ (List.mem_of_getElem? (l := propDs) (i := 1) rfl)
  have e := hfa.symm.trans (He.glo_ok X G (c1.fact 24 (f := .glo "law") rfl))
  cases e
  have b := FunD.bindsA (ps := ["script"]) F_law fun _ _ _ _ _ _ us hl => match us, hl with | [_], _ => rfl
  refine ⟨fd_law, fun s v => b s [v] rfl, fun base _ _ => ?_⟩

  have G_is_integer := dfn_is_integer (P := P) (w := w) (base := base) T F_is_integer
  have C_is_integer : Kn P w K mg base CX0 1 "is_integer" ["value"] _ := ⟨_, _, G_is_integer, (He.glo_ok X G (c1.fact 0 (f := .glo "is_integer") rfl)), F_is_integer.kp, (FunD.bindsN F_is_integer fun _ _ _ _ _ _ us hl => match us, hl with | [_], _ => rfl)⟩
  have G_is_between := dfn_is_between (P := P) (w := w) (base := base) T C_is_integer F_is_between
  have C_is_between : Kn P w K mg base CX0 2 "is_between" ["value", "low", "high"] _ := ⟨_, _, G_is_between, (He.glo_ok X G (c1.fact 1 (f := .glo "is_between") rfl)), F_is_between.kp, (FunD.bindsN F_is_between fun _ _ _ _ _ _ us hl => match us, hl with | [_, _, _], _ => rfl)⟩
  have G_is_pair := dfn_is_pair (P := P) (w := w) (base := base) T C_is_integer F_is_pair
  have C_is_pair : Kn P w K mg base CX0 2 "is_pair" ["value"] _ := ⟨_, _, G_is_pair, (He.glo_ok X G (c1.fact 2 (f := .glo "is_pair") rfl)), F_is_pair.kp, (FunD.bindsN F_is_pair fun _ _ _ _ _ _ us hl => match us, hl with | [_], _ => rfl)⟩
  have G_are_pairs := dfn_are_pairs (P := P) (w := w) (base := base) T C_is_pair F_are_pairs
  have C_are_pairs : Kn P w K mg base CX0 3 "are_pairs" ["value"] _ := ⟨_, _, G_are_pairs, (He.glo_ok X G (c1.fact 3 (f := .glo "are_pairs") rfl)), F_are_pairs.kp, (FunD.bindsN F_are_pairs fun _ _ _ _ _ _ us hl => match us, hl with | [_], _ => rfl)⟩
  have G_is_wide_box := dfn_is_wide_box (P := P) (w := w) (base := base) T C_is_between F_is_wide_box
  have C_is_wide_box : Kn P w K mg base CX0 3 "_is_wide_box" ["index", "capacity"] _ := ⟨_, _, G_is_wide_box, (He.glo_ok X G (c1.fact 4 (f := .glo "_is_wide_box") rfl)), F_is_wide_box.kp, (FunD.bindsN F_is_wide_box fun _ _ _ _ _ _ us hl => match us, hl with | [_, _], _ => rfl)⟩
  have G_are_capacities := dfn_are_capacities (P := P) (w := w) (base := base) T C_are_pairs C_is_wide_box F_are_capacities
  have C_are_capacities : Kn P w K mg base CX0 4 "_are_capacities" ["value"] _ := ⟨_, _, G_are_capacities, (He.glo_ok X G (c1.fact 5 (f := .glo "_are_capacities") rfl)), F_are_capacities.kp, (FunD.bindsN F_are_capacities fun _ _ _ _ _ _ us hl => match us, hl with | [_], _ => rfl)⟩
  have G_are_contents := dfn_are_contents (P := P) (w := w) (base := base) T C_are_pairs F_are_contents
  have C_are_contents : Kn P w K mg base CX0 4 "_are_contents" ["value", "capacities"] _ := ⟨_, _, G_are_contents, (He.glo_ok X G (c1.fact 6 (f := .glo "_are_contents") rfl)), F_are_contents.kp, (FunD.bindsN F_are_contents fun _ _ _ _ _ _ us hl => match us, hl with | [_, _], _ => rfl)⟩
  have G_is_row_like := dfn_is_row_like (P := P) (w := w) (base := base) T C_are_capacities C_are_contents F_is_row_like
  have C_is_row_like : Kn P w K mg base CX0 5 "is_row_like" ["contents", "capacities"] _ := ⟨_, _, G_is_row_like, (He.glo_ok X G (c1.fact 7 (f := .glo "is_row_like") rfl)), F_is_row_like.kp, (FunD.bindsN F_is_row_like fun _ _ _ _ _ _ us hl => match us, hl with | [_, _], _ => rfl)⟩
  have G_Row_init := dfn_Row_init (P := P) (w := w) (base := base) T C_are_capacities C_are_contents R_Row F_Row_init
  obtain ⟨ds_Row, dv_Row, db_Row⟩ := FunD.binds1 (ps := ["self", "contents", "capacities"]) F_Row_init 3 2 (List.cons_ne_nil _ _) rfl fun _ _ _ _ _ _ _ us its h1 h2 => match us, its, h1, h2 with | [_, _, _], [_, _], _, _ => ⟨_, rfl, rfl⟩
  have C_Row : C8.Mak P w K mg base 5 "Row" (He.ga K "Row") _ [] := ⟨_, _, _, ds_Row, He.mkr_ok (c1.fact 53 (f := .mkr "Row") rfl), G_Row_init, He.glo_ok X G (c1.fact 25 (f := .glo "Row") rfl), db_Row, dv_Row⟩
  obtain ⟨ds_Row1, dv_Row1, db_Row1⟩ := FunD.binds1 (ps := ["self", "contents", "capacities"]) F_Row_init 2 1 (List.cons_ne_nil _ _) rfl fun _ _ _ _ _ _ _ us its h1 h2 => match us, its, h1, h2 with | [_, _], [_, _], _, _ => ⟨_, rfl, rfl⟩
  have C_Row1 : C8.Mak P w K mg base 5 "Row" (He.ga K "Row") _ [.ref (He.dflAt ("Row", some "__init__") 1 K)] := ⟨_, _, _, ds_Row1, He.mkr_ok (c1.fact 53 (f := .mkr "Row") rfl), G_Row_init, He.glo_ok X G (c1.fact 25 (f := .glo "Row") rfl), db_Row1, dv_Row1⟩
  obtain ⟨ds_Row0, dv_Row0, db_Row0⟩ := FunD.binds1 (ps := ["self", "contents", "capacities"]) F_Row_init 1 0 (List.cons_ne_nil _ _) rfl fun _ _ _ _ _ _ _ us its h1 h2 => match us, its, h1, h2 with | [_], [_, _], _, _ => ⟨_, rfl, rfl⟩
  have C_Row0 : C8.Mak P w K mg base 5 "Row" (He.ga K "Row") _ [.ref (He.dflAt ("Row", some "__init__") 0 K), .ref (He.dflAt ("Row", some "__init__") 1 K)] := ⟨_, _, _, ds_Row0, He.mkr_ok (c1.fact 53 (f := .mkr "Row") rfl), G_Row_init, He.glo_ok X G (c1.fact 25 (f := .glo "Row") rfl), db_Row0, dv_Row0⟩
  have G_Row_contents := dfn_Row_contents (P := P) (w := w) (base := base) T R_Row F_Row_contents
  have C_contents : Prp P w K mg base 1 (He.ga K "Row") "contents" _ := ⟨_, _, _, _, L_Row, po_Row_contents, G_Row_contents, (FunD.bindsN F_Row_contents fun _ _ _ _ _ _ us hl => match us, hl with | [_], _ => rfl)⟩
  have G_Row_capacities := dfn_Row_capacities (P := P) (w := w) (base := base) T R_Row F_Row_capacities
  have C_capacities : Prp P w K mg base 1 (He.ga K "Row") "capacities" _ := ⟨_, _, _, _, L_Row, po_Row_capacities, G_Row_capacities, (FunD.bindsN F_Row_capacities fun _ _ _ _ _ _ us hl => match us, hl with | [_], _ => rfl)⟩
  have G_Row_eq := dfn_Row_eq (P := P) (w := w) (base := base) T R_Row Z_Row F_Row_eq
  have C_eq : EqM P w K mg base 1 (He.ga K "Row") := ⟨_, _, _, G_Row_eq, He.meth_ok (c1.fact 54 (f := .meth "Row" "__eq__") rfl), Z_Row, (FunD.bindsN F_Row_eq fun _ _ _ _ _ _ us hl => match us, hl with | [_, _], _ => rfl)⟩
  have G_integer_in := dfn_integer_in (P := P) (w := w) (base := base) T F_integer_in
  have C_integer_in : Kn P w K mg base CX0 1 "integer_in" ["word", "most_digits"] _ := ⟨_, _, G_integer_in, (He.glo_ok X G (c1.fact 8 (f := .glo "integer_in") rfl)), F_integer_in.kp, (bindsFull (ps := ["word", "most_digits"]) F_integer_in (List.cons_ne_nil _ _) fun _ _ _ _ _ _ _ us its h1 h2 => match us, its, h1, h2 with | [_, _], [_], _, _ => ⟨_, rfl, rfl⟩)⟩
  obtain ⟨ds_ii, dv_ii, db_ii⟩ := FunD.binds1 (ps := ["word", "most_digits"]) F_integer_in 1 0 (List.cons_ne_nil _ _) rfl fun _ _ _ _ _ _ _ us its h1 h2 => match us, its, h1, h2 with | [_], [_], _, _ => ⟨_, rfl, rfl⟩
  have C_integer_in1 : KnDf P w K mg base CX0 1 "integer_in" ["word", "most_digits"] _ [.int 31] := ⟨_, _, ds_ii, G_integer_in, (He.glo_ok X G (c1.fact 8 (f := .glo "integer_in") rfl)), F_integer_in.kp, db_ii, dv_ii⟩
  have G_row_text := dfn_row_text (P := P) (w := w) (base := base) T C_contents C_capacities F_row_text
  have C_row_text : Kn P w K mg base CX0 3 "row_text" ["row"] _ := ⟨_, _, G_row_text, (He.glo_ok X G (c1.fact 9 (f := .glo "row_text") rfl)), F_row_text.kp, (FunD.bindsN F_row_text fun _ _ _ _ _ _ us hl => match us, hl with | [_], _ => rfl)⟩
  have C_row_text_kw : KnK P w K mg base CX0 3 "row_text" ["row"] _ 0 ["row"] (fun vs zs => gkw_row_text vs zs) :=
    ⟨_, _, _, G_row_text, (He.glo_ok X G (c1.fact 9 (f := .glo "row_text") rfl)), F_row_text.kp, kb_of F_row_text 0 ["row"] (fun us ws => gkw_row_text us ws) gkw_row_text_rel (fun _ _ _ _ _ _ us ws h1 h2 => match us, ws, h1, h2 with | [], [_], _, _ => rfl)⟩
  have G_pair_in := dfn_pair_in (P := P) (w := w) (base := base) T C_integer_in C_integer_in1 F_pair_in
  have C_pair_in : Kn P w K mg base CX0 2 "_pair_in" ["words"] _ := ⟨_, _, G_pair_in, (He.glo_ok X G (c1.fact 10 (f := .glo "_pair_in") rfl)), F_pair_in.kp, (FunD.bindsN F_pair_in fun _ _ _ _ _ _ us hl => match us, hl with | [_], _ => rfl)⟩
  have G_with_line := dfn_with_line (P := P) (w := w) (base := base) T C_pair_in C_is_row_like F_with_line
  have C_with_line : Kn P w K mg base CX0 6 "_with_line" ["contents", "capacities", "line"] _ := ⟨_, _, G_with_line, (He.glo_ok X G (c1.fact 11 (f := .glo "_with_line") rfl)), F_with_line.kp, (FunD.bindsN F_with_line fun _ _ _ _ _ _ us hl => match us, hl with | [_, _, _], _ => rfl)⟩
  have G_parse_row := dfn_parse_row (P := P) (w := w) (base := base) T C_with_line C_Row F_parse_row
  have C_parse_row : Kn P w K mg base CX0 7 "parse_row" ["text"] _ := ⟨_, _, G_parse_row, (He.glo_ok X G (c1.fact 12 (f := .glo "parse_row") rfl)), F_parse_row.kp, (FunD.bindsN F_parse_row fun _ _ _ _ _ _ us hl => match us, hl with | [_], _ => rfl)⟩
  have C_parse_row_kw : KnK P w K mg base CX0 7 "parse_row" ["text"] _ 0 ["text"] (fun vs zs => gkw_parse_row vs zs) :=
    ⟨_, _, _, G_parse_row, (He.glo_ok X G (c1.fact 12 (f := .glo "parse_row") rfl)), F_parse_row.kp, kb_of F_parse_row 0 ["text"] (fun us ws => gkw_parse_row us ws) gkw_parse_row_rel (fun _ _ _ _ _ _ us ws h1 h2 => match us, ws, h1, h2 with | [], [_], _, _ => rfl)⟩
  have G_begun := dfn_begun (P := P) (w := w) (base := base) T F_begun
  have C_begun : Kn P w K mg base CX0 1 "_law_begun" ["script"] _ := ⟨_, _, G_begun, (He.glo_ok X G (c1.fact 13 (f := .glo "_law_begun") rfl)), F_begun.kp, (FunD.bindsN F_begun fun _ _ _ _ _ _ us hl => match us, hl with | [_], _ => rfl)⟩
  have G_mixed := dfn_mixed (P := P) (w := w) (base := base) T F_mixed
  have C_mixed : Kn P w K mg base CX0 1 "_law_mixed" ["state"] _ := ⟨_, _, G_mixed, (He.glo_ok X G (c1.fact 14 (f := .glo "_law_mixed") rfl)), F_mixed.kp, (FunD.bindsN F_mixed fun _ _ _ _ _ _ us hl => match us, hl with | [_], _ => rfl)⟩
  have G_take := dfn_take (P := P) (w := w) (base := base) T C_mixed F_take
  have C_take : Kn P w K mg base CX0 2 "_law_take" ["state", "size"] _ := ⟨_, _, G_take, (He.glo_ok X G (c1.fact 15 (f := .glo "_law_take") rfl)), F_take.kp, (FunD.bindsN F_take fun _ _ _ _ _ _ us hl => match us, hl with | [_, _], _ => rfl)⟩
  have G_pick := dfn_pick (P := P) (w := w) (base := base) T C_take F_pick
  have C_pick : Kn P w K mg base CX0 3 "_law_pick" ["state", "some"] _ := ⟨_, _, G_pick, (He.glo_ok X G (c1.fact 16 (f := .glo "_law_pick") rfl)), F_pick.kp, (FunD.bindsN F_pick fun _ _ _ _ _ _ us hl => match us, hl with | [_, _], _ => rfl)⟩
  have G_sizes := dfn_sizes (P := P) (w := w) (base := base) T C_take C_pick F_sizes
  have C_sizes : Kn P w K mg base CX0 4 "_law_sizes" ["state", "most"] _ := ⟨_, _, G_sizes, (He.glo_ok X G (c1.fact 17 (f := .glo "_law_sizes") rfl)), F_sizes.kp, (FunD.bindsN F_sizes fun _ _ _ _ _ _ us hl => match us, hl with | [_, _], _ => rfl)⟩
  have G_boxes := dfn_boxes (P := P) (w := w) (base := base) T C_take C_pick F_boxes
  have C_boxes : Kn P w K mg base CX0 4 "_law_boxes" ["state", "sizes", "most"] _ := ⟨_, _, G_boxes, (He.glo_ok X G (c1.fact 18 (f := .glo "_law_boxes") rfl)), F_boxes.kp, (FunD.bindsN F_boxes fun _ _ _ _ _ _ us hl => match us, hl with | [_, _, _], _ => rfl)⟩
  have G_made := dfn_made (P := P) (w := w) (base := base) T C_Row F_made
  have C_made : Kn P w K mg base CX0 7 "_law_made" ["boxes", "sizes"] _ := ⟨_, _, G_made, (He.glo_ok X G (c1.fact 19 (f := .glo "_law_made") rfl)), F_made.kp, (FunD.bindsN F_made fun _ _ _ _ _ _ us hl => match us, hl with | [_, _], _ => rfl)⟩
  have G_shown := dfn_shown (P := P) (w := w) (base := base) T C_contents C_capacities F_shown
  have C_shown : KnG P w K mg base CX0 3 "_law_shown" ["shelf", "boxes", "sizes"] _ := ⟨_, _, G_shown, (He.glo_ok X G (c1.fact 20 (f := .glo "_law_shown") rfl)), F_shown.kp, (FunD.bindsN F_shown fun _ _ _ _ _ _ us hl => match us, hl with | [_, _, _], _ => rfl)⟩
  have G_shelf := dfn_shelf (P := P) (w := w) (base := base) T C_take C_sizes C_boxes F_shelf
  have C_shelf : Kn P w K mg base CX0 5 "_law_shelf" ["state"] _ := ⟨_, _, G_shelf, (He.glo_ok X G (c1.fact 21 (f := .glo "_law_shelf") rfl)), F_shelf.kp, (FunD.bindsN F_shelf fun _ _ _ _ _ _ us hl => match us, hl with | [_], _ => rfl)⟩
  have G_lines := dfn_lines (P := P) (w := w) (base := base) T F_lines
  have C_lines : Kn P w K mg base CX0 1 "_law_lines" ["boxes", "sizes"] _ := ⟨_, _, G_lines, (He.glo_ok X G (c1.fact 22 (f := .glo "_law_lines") rfl)), F_lines.kp, (FunD.bindsN F_lines fun _ _ _ _ _ _ us hl => match us, hl with | [_, _], _ => rfl)⟩
  have G_right := dfn_right (P := P) (w := w) (base := base) T C_made C_lines C_shown C_row_text C_parse_row C_row_text_kw C_parse_row_kw C_eq F_right
  have C_right : KnG P w K mg base CX0 20 "_law_right" ["boxes", "sizes"] _ := ⟨_, _, G_right, (He.glo_ok X G (c1.fact 23 (f := .glo "_law_right") rfl)), F_right.kp, (FunD.bindsN F_right fun _ _ _ _ _ _ us hl => match us, hl with | [_, _], _ => rfl)⟩
  exact dfn_law (P := P) (w := w) (base := base) T C_begun C_shelf C_right C_row_text C_parse_row C_eq C_Row0 hE0 hE F_law
end SR
open PySem PySem.W PySem.Calls PyProof.Rows
set_option maxRecDepth 100000 in
set_option maxHeartbeats 0 in
theorem PySem.Challenge.cw_scooprow_k62_rows_written_and_read_holds : PySem.Challenge.rw_scooprow_k62_rows_written_and_read.Holds := by
  w_on; o_law
  refine HandSHeadRun.head_any (r := OpenLaw.row PySem.Challenge.rw_scooprow_k62_rows_written_and_read) (q := view (OpenLaw.row PySem.Challenge.rw_scooprow_k62_rows_written_and_read).prog [41]) (H := SR.hk) (ob := SR.ob) (M := 4000) (loose := SR.others) (d := HandSHeadRun.topDef (OpenLaw.row PySem.Challenge.rw_scooprow_k62_rows_written_and_read).prog 41) (kwd := []) SR.ob_eq
    (by kernel_rfl) (fun s => by kernel_rfl) SR.run (by kernel_rfl) (by kernel_rfl) (by kernel_rfl) (by rfl) (by first | assumption | decide +kernel) (by decide +kernel) ⟨rfl, rfl, rfl, rfl, rfl, by decide +kernel⟩ ?hw ?hc
  case hw => w_witness2
  case hc =>
    refine SR.walk_ofG (l := PySem.Challenge.rw_scooprow_k62_rows_written_and_read) (n := 63) (k := 24) (x := "script") (CX := L2.CX0) rfl (by decide) (by kernel_rfl) ⟨rfl, by decide, by decide⟩ ?F (fun _ _ _ _ z => z)
    intro w mg fa h Y G hmg0
    obtain ⟨K, KX, c⟩ := Y
    have hmg : mg ("law" : PySem.Str) = some (.ref fa) := by
      have e : (HandSHeadRun.topDef (OpenLaw.row PySem.Challenge.rw_scooprow_k62_rows_written_and_read).prog 41).name = ("law" : PySem.Str) := by kernel_rfl
      rw [← e]
      exact hmg0
    obtain ⟨fd, hb, hF⟩ := SR.facts (P := (PySem.Challenge.rw_scooprow_k62_rows_written_and_read).prog) (w := w) KX G hmg c rfl rfl
    exact ⟨K, fd, (SR.spLaw K), KX, hb, fun H a ns hl _ hS => ⟨a, ns, rfl, hS, hl, fun _ => rfl⟩, hF⟩
