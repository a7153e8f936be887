import PyProof.Rows.All
import Wide.All
import OpenK.AllK
import Wide.FinOn
import HandS.ForMost
import HandS.Base
import HandS.Call
import HandS.List
import HandS.Comp
import HandS.Ends
import HandS.Dict
import HandS.Iter
import HandS.Text
import HandS.Words
import HandS.WordsList
import HandS.WordsDict
import HandS.ForExc
import HandS.Defaults
import HandS.HeadEnd
import HandS.IsInst
import HandS.ExcIs
import PyProof.ReprRoads
import PyProof.CallFns
import HandS.ExcField
import HandS.CallSlots
import HandS.Codes
import HandS.HeadHook2
import HandS.HeadHook4
import HandS.Head0
import HandS.Head1
import HandS.Head2
import HandS.SetBool
import HandS.Strs
import HandS.Sort
import HandS.SortRule
import HandS.Conv
import HandS.Zip
import HandS.Walk
import KE.KDictPairs
import HandS.Style
import HandS.Small
import HandS.More
import HandS.ListItems
import HandS.Property
import HandS.OwnEq
import PyProof.InstNe
import PyProof.NeKinds
import HandS.SortInts
import HandS.Flow
import HandS.Exc
import HandS.ExcInit
import KE.KSuper
import KE.KExcSuper
import HandS.ExcValue
import HandS.DictComp
import KE.KItemsList
import KE.KDictList
import HandS.SortKw
import HandS.SetFor
import HandS.Remove
import HandS.Lambda
import HandS.EndTab
import HandS.EndBits
import HandS.Finally
import PyProof.TupleOfGen
import PySem.Challenge.RW_scooprow_k15_whole_rows_of_trains
set_option Elab.async false
set_option linter.all false
set_option maxRecDepth 100000
set_option maxHeartbeats 1000000
namespace SR
inductive Lx
  | z | o | m
def bw : List Lx → List Bool
  | [] => []
  | .z :: w => false :: bw w
  | .o :: w => true :: bw w
  | .m :: w => true :: false :: bw w
def bk : List Lx → List Bool
  | [] => []
  | .z :: w => false :: bk w
  | .o :: w => true :: bk w
  | .m :: w => bk w
def swB (c : Nat) : Nat → List Bool → List Bool
  | _, [] => []
  | u, true :: bs => if u < c then false :: swB c (u + 1) bs else true :: swB c u bs
  | u, false :: bs => if 0 < u then true :: swB c (u - 1) bs else false :: swB c 0 bs
def ends : Bool → List Bool → Int → List Int
  | true, [], n => [n]
  | false, [], _ => []
  | _, true :: bs, n => ends true bs (n + 1)
  | true, false :: bs, n => n :: ends false bs (n + 1)
  | false, false :: bs, n => ends false bs (n + 1)
def marks : List Lx → Int → List Int
  | [], _ => []
  | .z :: w, n => marks w (n + 1)
  | .o :: w, n => marks w (n + 1)
  | .m :: w, n => n :: marks w n
/-- the word does not begin with an empty box, nor is it over -/
def hdB : List Lx → Bool
  | [] => false
  | .z :: _ => false
  | _ => true
def gdB : List Lx → Bool
  | [] => true
  | .o :: w => hdB w && gdB w
  | _ :: w => gdB w
def zs (k : Nat) : List Lx := List.replicate k .z
theorem zs_succ (k : Nat) : zs (k + 1) = .z :: zs k := rfl
theorem bk_zs (k : Nat) : bk (zs k) = List.replicate k false := by
  induction k with
  | zero => rfl
  | succ k ih => rw [zs_succ, List.replicate_succ, ← ih]; rfl
/-- what becomes of a word in a sweep, from a state on: pend, a full box not yet told; mem, the letters of the cut row not yet told -/
structure Res (c : Nat) (pend : Bool) (u u' : Nat) (mem : List Bool) (w out : List Lx) : Prop where
  gd : gdB out = true
  hd : pend = true → hdB out = true
  bits : bw out = bif pend then true :: swB c u (bw w) else swB c u (bw w)
  kept : bk out ++ [false] = mem ++ swB (c - 1) u' (bk w)
/-- the removed pairs -/
def Mks (d : Int) (owed : Bool) (e f : Bool) (c u' : Nat) (w out : List Lx) : Prop :=
  ∀ (N x : Int), (marks out (N - d)).count x + (ends e (bk w) N).count x = (bif owed then if N == x then 1 else 0 else 0) + (marks w N).count x + (ends f (swB (c - 1) u' (bk w)) N).count x
theorem swB_t {c u : Nat} {bs : List Bool} (h : u < c) : swB c u (true :: bs) = false :: swB c (u + 1) bs := by
  show (if u < c then _ else _) = _
  rw [if_pos h]
theorem swB_tf {c u : Nat} {bs : List Bool} (h : ¬u < c) : swB c u (true :: bs) = true :: swB c u bs := by
  show (if u < c then _ else _) = _
  rw [if_neg h]
theorem swB_f {c u : Nat} {bs : List Bool} (h : 0 < u) : swB c u (false :: bs) = true :: swB c (u - 1) bs := by
  show (if 0 < u then _ else _) = _
  rw [if_pos h]
theorem swB_z {c : Nat} {bs : List Bool} : swB c 0 (false :: bs) = false :: swB c 0 bs := by
  show (if 0 < 0 then _ else _) = _
  rw [if_neg (Nat.lt_irrefl 0)]
section
variable {c : Nat}
def SA (c u : Nat) (w : List Lx) : Prop := ∃ out, Res c false u (min u (c - 1)) [decide (u = c)] w out ∧ Mks 1 false (decide (0 < u)) (decide (u = c)) c (min u (c - 1)) w out
def SB1 (c u : Nat) (e f : Bool) (w : List Lx) : Prop := ∃ out, Res c true u u [] w out ∧ Mks 0 true e f c u w out
def SB2 (c u : Nat) (w : List Lx) : Prop := ∃ out, Res c true u u [] w out ∧ Mks 0 false false true c u w out
def SC (c : Nat) (w : List Lx) : Prop := ∃ out, Res c true c (c - 1) [true, true] w out ∧ Mks 2 false true true c (c - 1) w out
/-- only empty boxes ahead -/
theorem sA_zs (c1 : 1 ≤ c) (k : Nat) : SA c 0 (zs k) := by
  have d0 : decide (0 = c) = false := decide_eq_false (by omega)
  induction k with
  | zero =>
    refine ⟨[], ⟨rfl, (fun z => nomatch z), rfl, ?_⟩, ?_⟩
    · rw [d0]
      rfl
    · rw [d0]
      exact fun N x => rfl
  | succ k ih =>
    obtain ⟨out, r, mk⟩ := ih
    have m0 : min 0 (c - 1) = 0 := by omega
    rw [m0] at r mk
    rw [d0] at r mk
    unfold SA
    rw [m0, d0]
    refine ⟨.z :: out, ⟨r.gd, (fun z => nomatch z), ?_, ?_⟩, fun N x => ?_⟩
    · show false :: bw out = swB c 0 (false :: bw (zs k))
      rw [swB_z, r.bits]
      rfl
    · show false :: (bk out ++ [false]) = [false] ++ swB (c - 1) 0 (false :: bk (zs k))
      rw [swB_z, r.kept]
      rfl
    · have := mk (N + 1) x
      rw [Int.add_sub_cancel] at this
      show (marks out (N - 1 + 1)).count x + (ends false (bk (zs k)) (N + 1)).count x = 0 + (marks (zs k) (N + 1)).count x + (ends false (swB (c - 1) 0 (false :: bk (zs k))) N).count x
      rw [Int.sub_add_cancel, swB_z]
      exact this
theorem sB2_zs (c1 : 1 ≤ c) : ∀ (u k : Nat), u + 1 ≤ k → SB2 c u (zs k)
  | 0, k + 1, _ => by
    obtain ⟨out, r, mk⟩ := sA_zs c1 k
    have d0 : decide (0 = c) = false := decide_eq_false (by omega)
    have m0 : min 0 (c - 1) = 0 := by omega
    rw [m0, d0] at r mk
    refine ⟨.m :: out, ⟨r.gd, fun _ => rfl, ?_, ?_⟩, fun N x => ?_⟩
    · show true :: false :: bw out = true :: swB c 0 (false :: bw (zs k))
      rw [swB_z, r.bits]
      rfl
    · show bk out ++ [false] = swB (c - 1) 0 (false :: bk (zs k))
      rw [swB_z, r.kept]
      rfl
    · have := mk (N + 1) x
      rw [Int.add_sub_cancel] at this
      show ((N - 0) :: marks out (N - 0)).count x + (ends false (bk (zs k)) (N + 1)).count x = 0 + (marks (zs k) (N + 1)).count x + (ends true (swB (c - 1) 0 (false :: bk (zs k))) N).count x
      rw [swB_z, Int.sub_zero]
      show _ = _ + (N :: ends false (swB (c - 1) 0 (bk (zs k))) (N + 1)).count x
      rw [List.count_cons, List.count_cons]
      have e1 : (ends (decide (0 < 0)) (bk (zs k)) (N + 1)) = ends false (bk (zs k)) (N + 1) := rfl
      rw [e1] at this
      simp only [cond_false] at this
      omega
  | u + 1, k + 1, h => by
    obtain ⟨out, r, mk⟩ := sB2_zs c1 u k (by omega)
    refine ⟨.o :: out, ⟨?_, fun _ => rfl, ?_, ?_⟩, fun N x => ?_⟩
    · show (hdB out && gdB out) = true
      rw [r.hd rfl, r.gd]
      rfl
    · show true :: bw out = true :: swB c (u + 1) (false :: bw (zs k))
      rw [swB_f (Nat.succ_pos u), r.bits]
      rfl
    · show true :: (bk out ++ [false]) = swB (c - 1) (u + 1) (false :: bk (zs k))
      rw [swB_f (Nat.succ_pos u), r.kept]
      rfl
    · have := mk (N + 1) x
      show (marks out (N - 0 + 1)).count x + (ends false (bk (zs k)) (N + 1)).count x = 0 + (marks (zs k) (N + 1)).count x + (ends true (swB (c - 1) (u + 1) (false :: bk (zs k))) N).count x
      rw [swB_f (Nat.succ_pos u)]
      show _ = _ + (ends true (swB (c - 1) u (bk (zs k))) (N + 1)).count x
      rw [Int.sub_zero] at this ⊢
      exact this
/-- one step of state B, over an empty box: the carrier has items -/
theorem sB1_zs (c1 : 1 ≤ c) (u k : Nat) (h : u + 1 ≤ k) (e f : Bool) (ok : (u = 0 ∧ e = f) ∨ (0 < u ∧ e = true)) : SB1 c u e f (zs k) := by
  obtain ⟨k, rfl⟩ : ∃ j, k = j + 1 := ⟨k - 1, by omega⟩
  rcases ok with ⟨rfl, rfl⟩ | ⟨u0, rfl⟩
  · obtain ⟨out, r, mk⟩ := sA_zs c1 k
    have d0 : decide (0 = c) = false := decide_eq_false (by omega)
    have m0 : min 0 (c - 1) = 0 := by omega
    rw [m0, d0] at r mk
    refine ⟨.m :: out, ⟨r.gd, fun _ => rfl, ?_, ?_⟩, fun N x => ?_⟩
    · show true :: false :: bw out = true :: swB c 0 (false :: bw (zs k))
      rw [swB_z, r.bits]
      rfl
    · show bk out ++ [false] = swB (c - 1) 0 (false :: bk (zs k))
      rw [swB_z, r.kept]
      rfl
    · have := mk (N + 1) x
      rw [Int.add_sub_cancel] at this
      show ((N - 0) :: marks out (N - 0)).count x + (ends e (false :: bk (zs k)) N).count x = (if N == x then 1 else 0) + (marks (zs k) (N + 1)).count x + (ends e (swB (c - 1) 0 (false :: bk (zs k))) N).count x
      rw [swB_z, Int.sub_zero]
      have e1 : (ends (decide (0 < 0)) (bk (zs k)) (N + 1)) = ends false (bk (zs k)) (N + 1) := rfl
      rw [e1] at this
      simp only [cond_false] at this
      rw [List.count_cons]
      cases e with
      | true =>
        show _ + (N :: ends false (bk (zs k)) (N + 1)).count x = _ + (N :: ends false (swB (c - 1) 0 (bk (zs k))) (N + 1)).count x
        rw [List.count_cons, List.count_cons]
        omega
      | false =>
        show _ + (ends false (bk (zs k)) (N + 1)).count x = _ + (ends false (swB (c - 1) 0 (bk (zs k))) (N + 1)).count x
        omega
  · obtain ⟨u, rfl⟩ : ∃ j, u = j + 1 := ⟨u - 1, by omega⟩
    obtain ⟨out, r, mk⟩ := sB2_zs c1 u k (by omega)
    refine ⟨.o :: out, ⟨?_, fun _ => rfl, ?_, ?_⟩, fun N x => ?_⟩
    · show (hdB out && gdB out) = true
      rw [r.hd rfl, r.gd]
      rfl
    · show true :: bw out = true :: swB c (u + 1) (false :: bw (zs k))
      rw [swB_f (Nat.succ_pos u), r.bits]
      rfl
    · show true :: (bk out ++ [false]) = swB (c - 1) (u + 1) (false :: bk (zs k))
      rw [swB_f (Nat.succ_pos u), r.kept]
      rfl
    · have := mk (N + 1) x
      show (marks out (N - 0 + 1)).count x + (N :: ends false (bk (zs k)) (N + 1)).count x = (if N == x then 1 else 0) + (marks (zs k) (N + 1)).count x + (ends f (swB (c - 1) (u + 1) (false :: bk (zs k))) N).count x
      rw [swB_f (Nat.succ_pos u), List.count_cons]
      show _ = _ + (ends f (true :: swB (c - 1) u (bk (zs k))) N).count x
      have e2 : ends f (true :: swB (c - 1) u (bk (zs k))) N = ends true (swB (c - 1) u (bk (zs k))) (N + 1) := by cases f <;> rfl
      rw [e2, Int.sub_zero]
      rw [Int.sub_zero] at this
      simp only [cond_false] at this
      omega
end
end SR
set_option Elab.async false
set_option linter.all false
set_option maxRecDepth 100000
set_option maxHeartbeats 1000000
namespace SR
section
variable {c u : Nat} {w : List Lx} {e f : Bool}
theorem dec0 (c1 : 1 ≤ c) : decide (0 = c) = false := decide_eq_false (by omega)
theorem min0 : min 0 (c - 1) = 0 := by omega
theorem endsT (q : Bool) (bs : List Bool) (n : Int) : ends q (true :: bs) n = ends true bs (n + 1) := by cases q <;> rfl
theorem A_z (c1 : 1 ≤ c) (h : SA c 0 w) : SA c 0 (.z :: w) := by
  obtain ⟨out, r, mk⟩ := h
  have d0 := dec0 c1
  rw [min0] at r mk
  rw [d0] at r mk
  unfold SA
  rw [min0, d0]
  refine ⟨.z :: out, ⟨r.gd, (fun z => nomatch z), ?_, ?_⟩, fun N x => ?_⟩
  · show false :: bw out = swB c 0 (false :: bw w)
    rw [swB_z, r.bits]
    rfl
  · show false :: (bk out ++ [false]) = [false] ++ swB (c - 1) 0 (false :: bk w)
    rw [swB_z, r.kept]
    rfl
  · have := mk (N + 1) x
    rw [Int.add_sub_cancel] at this
    show (marks out (N - 1 + 1)).count x + (ends false (bk w) (N + 1)).count x = 0 + (marks w (N + 1)).count x + (ends false (swB (c - 1) 0 (false :: bk w)) N).count x
    rw [Int.sub_add_cancel, swB_z]
    exact this
theorem B2_z0 (c1 : 1 ≤ c) (h : SA c 0 w) : SB2 c 0 (.z :: w) := by
  obtain ⟨out, r, mk⟩ := h
  have d0 := dec0 c1
  rw [min0, d0] at r mk
  refine ⟨.m :: out, ⟨r.gd, fun _ => rfl, ?_, ?_⟩, fun N x => ?_⟩
  · show true :: false :: bw out = true :: swB c 0 (false :: bw w)
    rw [swB_z, r.bits]
    rfl
  · show bk out ++ [false] = swB (c - 1) 0 (false :: bk w)
    rw [swB_z, r.kept]
    rfl
  · have := mk (N + 1) x
    rw [Int.add_sub_cancel] at this
    show ((N - 0) :: marks out (N - 0)).count x + (ends false (bk w) (N + 1)).count x = 0 + (marks w (N + 1)).count x + (ends true (swB (c - 1) 0 (false :: bk w)) N).count x
    rw [swB_z, Int.sub_zero]
    show _ = _ + (N :: ends false (swB (c - 1) 0 (bk w)) (N + 1)).count x
    rw [List.count_cons, List.count_cons]
    have e1 : (ends (decide (0 < 0)) (bk w) (N + 1)) = ends false (bk w) (N + 1) := rfl
    rw [e1] at this
    simp only [cond_false] at this
    omega
theorem B1_z0 (c1 : 1 ≤ c) (h : SA c 0 w) : SB1 c 0 e e (.z :: w) := by
  obtain ⟨out, r, mk⟩ := h
  have d0 := dec0 c1
  rw [min0, d0] at r mk
  refine ⟨.m :: out, ⟨r.gd, fun _ => rfl, ?_, ?_⟩, fun N x => ?_⟩
  · show true :: false :: bw out = true :: swB c 0 (false :: bw w)
    rw [swB_z, r.bits]
    rfl
  · show bk out ++ [false] = swB (c - 1) 0 (false :: bk w)
    rw [swB_z, r.kept]
    rfl
  · have := mk (N + 1) x
    rw [Int.add_sub_cancel] at this
    show ((N - 0) :: marks out (N - 0)).count x + (ends e (false :: bk w) N).count x = (if N == x then 1 else 0) + (marks w (N + 1)).count x + (ends e (swB (c - 1) 0 (false :: bk w)) N).count x
    rw [swB_z, Int.sub_zero]
    have e1 : (ends (decide (0 < 0)) (bk w) (N + 1)) = ends false (bk w) (N + 1) := rfl
    rw [e1] at this
    simp only [cond_false] at this
    rw [List.count_cons]
    cases e with
    | true =>
      show _ + (N :: ends false (bk w) (N + 1)).count x = _ + (N :: ends false (swB (c - 1) 0 (bk w)) (N + 1)).count x
      rw [List.count_cons, List.count_cons]
      omega
    | false =>
      show _ + (ends false (bk w) (N + 1)).count x = _ + (ends false (swB (c - 1) 0 (bk w)) (N + 1)).count x
      omega
theorem B2_z (h : SB2 c u w) : SB2 c (u + 1) (.z :: w) := by
  obtain ⟨out, r, mk⟩ := h
  refine ⟨.o :: out, ⟨?_, fun _ => rfl, ?_, ?_⟩, fun N x => ?_⟩
  · show (hdB out && gdB out) = true
    rw [r.hd rfl, r.gd]
    rfl
  · show true :: bw out = true :: swB c (u + 1) (false :: bw w)
    rw [swB_f (Nat.succ_pos u), r.bits]
    rfl
  · show true :: (bk out ++ [false]) = swB (c - 1) (u + 1) (false :: bk w)
    rw [swB_f (Nat.succ_pos u), r.kept]
    rfl
  · have := mk (N + 1) x
    show (marks out (N - 0 + 1)).count x + (ends false (bk w) (N + 1)).count x = 0 + (marks w (N + 1)).count x + (ends true (swB (c - 1) (u + 1) (false :: bk w)) N).count x
    rw [swB_f (Nat.succ_pos u)]
    show _ = _ + (ends true (swB (c - 1) u (bk w)) (N + 1)).count x
    rw [Int.sub_zero] at this ⊢
    exact this
theorem B1_z (h : SB2 c u w) : SB1 c (u + 1) true f (.z :: w) := by
  obtain ⟨out, r, mk⟩ := h
  refine ⟨.o :: out, ⟨?_, fun _ => rfl, ?_, ?_⟩, fun N x => ?_⟩
  · show (hdB out && gdB out) = true
    rw [r.hd rfl, r.gd]
    rfl
  · show true :: bw out = true :: swB c (u + 1) (false :: bw w)
    rw [swB_f (Nat.succ_pos u), r.bits]
    rfl
  · show true :: (bk out ++ [false]) = swB (c - 1) (u + 1) (false :: bk w)
    rw [swB_f (Nat.succ_pos u), r.kept]
    rfl
  · have := mk (N + 1) x
    show (marks out (N - 0 + 1)).count x + (N :: ends false (bk w) (N + 1)).count x = (if N == x then 1 else 0) + (marks w (N + 1)).count x + (ends f (swB (c - 1) (u + 1) (false :: bk w)) N).count x
    rw [swB_f (Nat.succ_pos u), List.count_cons]
    show _ = _ + (ends f (true :: swB (c - 1) u (bk w)) N).count x
    rw [endsT, Int.sub_zero]
    rw [Int.sub_zero] at this
    simp only [cond_false] at this
    omega
theorem A_o (h1 : u < c) (h : SA c (u + 1) w) : SA c u (.o :: w) := by
  obtain ⟨out, r, mk⟩ := h
  have d1 : decide (u = c) = false := decide_eq_false (by omega)
  have m1 : min u (c - 1) = u := by omega
  have key : decide (u + 1 = c) :: swB (c - 1) (min (u + 1) (c - 1)) (bk w) = swB (c - 1) u (true :: bk w) := by
    by_cases z : u < c - 1
    · rw [swB_t z, decide_eq_false (by omega), show min (u + 1) (c - 1) = u + 1 by omega]
    · rw [swB_tf z, decide_eq_true (by omega), show min (u + 1) (c - 1) = u by omega]
  unfold SA
  rw [d1, m1]
  refine ⟨.z :: out, ⟨r.gd, (fun z => nomatch z), ?_, ?_⟩, fun N x => ?_⟩
  · show false :: bw out = swB c u (true :: bw w)
    rw [swB_t h1, r.bits]
    rfl
  · show false :: (bk out ++ [false]) = [false] ++ swB (c - 1) u (true :: bk w)
    rw [← key, r.kept]
    rfl
  · have := mk (N + 1) x
    rw [Int.add_sub_cancel] at this
    show (marks out (N - 1 + 1)).count x + (ends (decide (0 < u)) (true :: bk w) N).count x = 0 + (marks w (N + 1)).count x + (ends false (swB (c - 1) u (true :: bk w)) N).count x
    rw [Int.sub_add_cancel, endsT, ← key]
    have t : decide (0 < u + 1) = true := decide_eq_true (Nat.succ_pos u)
    rw [t] at this
    have e2 : ends false (decide (u + 1 = c) :: swB (c - 1) (min (u + 1) (c - 1)) (bk w)) N = ends (decide (u + 1 = c)) (swB (c - 1) (min (u + 1) (c - 1)) (bk w)) (N + 1) := by
      cases decide (u + 1 = c) <;> rfl
    rw [e2]
    exact this
theorem A_oc (c1 : 1 ≤ c) (h : SC c w) : SA c c (.o :: w) := by
  obtain ⟨out, r, mk⟩ := h
  have d1 : decide (c = c) = true := decide_eq_true rfl
  have m1 : min c (c - 1) = c - 1 := by omega
  have t : decide (0 < c) = true := decide_eq_true c1
  unfold SA
  rw [d1, m1, t]
  refine ⟨out, ⟨r.gd, (fun z => nomatch z), ?_, ?_⟩, fun N x => ?_⟩
  · show bw out = swB c c (true :: bw w)
    rw [swB_tf (Nat.lt_irrefl c), r.bits]
    rfl
  · show bk out ++ [false] = [true] ++ swB (c - 1) (c - 1) (true :: bk w)
    rw [swB_tf (Nat.lt_irrefl _), r.kept]
    rfl
  · have := mk (N + 1) x
    show (marks out (N - 1)).count x + (ends true (true :: bk w) N).count x = 0 + (marks w (N + 1)).count x + (ends true (swB (c - 1) (c - 1) (true :: bk w)) N).count x
    rw [swB_tf (Nat.lt_irrefl _), endsT, endsT]
    have e1 : N + 1 - 2 = N - 1 := by omega
    rw [e1] at this
    exact this
theorem A_m (h1 : u < c) (h : SB1 c u (decide (0 < u)) false w) : SA c u (.m :: w) := by
  obtain ⟨out, r, mk⟩ := h
  have d1 : decide (u = c) = false := decide_eq_false (by omega)
  have m1 : min u (c - 1) = u := by omega
  unfold SA
  rw [d1, m1]
  refine ⟨.z :: out, ⟨r.gd, (fun z => nomatch z), ?_, ?_⟩, fun N x => ?_⟩
  · show false :: bw out = swB c u (true :: false :: bw w)
    rw [swB_t h1, swB_f (Nat.succ_pos u), r.bits]
    rfl
  · show false :: (bk out ++ [false]) = [false] ++ swB (c - 1) u (bk w)
    rw [r.kept]
    rfl
  · have := mk N x
    show (marks out (N - 1 + 1)).count x + (ends (decide (0 < u)) (bk w) N).count x = 0 + (N :: marks w N).count x + (ends false (swB (c - 1) u (bk w)) N).count x
    rw [Int.sub_add_cancel, List.count_cons]
    rw [Int.sub_zero] at this
    simp only [cond_true] at this
    omega
theorem A_mc (c1 : 1 ≤ c) (h : SB1 c (c - 1) true true w) : SA c c (.m :: w) := by
  obtain ⟨out, r, mk⟩ := h
  have d1 : decide (c = c) = true := decide_eq_true rfl
  have m1 : min c (c - 1) = c - 1 := by omega
  have t : decide (0 < c) = true := decide_eq_true c1
  unfold SA
  rw [d1, m1, t]
  refine ⟨.o :: out, ⟨?_, (fun z => nomatch z), ?_, ?_⟩, fun N x => ?_⟩
  · show (hdB out && gdB out) = true
    rw [r.hd rfl, r.gd]
    rfl
  · show true :: bw out = swB c c (true :: false :: bw w)
    rw [swB_tf (Nat.lt_irrefl c), swB_f c1, r.bits]
    rfl
  · show true :: (bk out ++ [false]) = [true] ++ swB (c - 1) (c - 1) (bk w)
    rw [r.kept]
    rfl
  · have := mk N x
    show (marks out (N - 1 + 1)).count x + (ends true (bk w) N).count x = 0 + (N :: marks w N).count x + (ends true (swB (c - 1) (c - 1) (bk w)) N).count x
    rw [Int.sub_add_cancel, List.count_cons]
    rw [Int.sub_zero] at this
    simp only [cond_true] at this
    omega
theorem aft (h1 : u < c) (h : SA c (u + 1) w) : ∃ out, Res c false (u + 1) (min (u + 1) (c - 1)) [decide (u + 1 = c)] w out ∧ Mks 1 false true (decide (u + 1 = c)) c (min (u + 1) (c - 1)) w out ∧
    decide (u + 1 = c) :: swB (c - 1) (min (u + 1) (c - 1)) (bk w) = swB (c - 1) u (true :: bk w) := by
  obtain ⟨out, r, mk⟩ := h
  have t : decide (0 < u + 1) = true := decide_eq_true (Nat.succ_pos u)
  rw [t] at mk
  refine ⟨out, r, mk, ?_⟩
  by_cases z : u < c - 1
  · rw [swB_t z, decide_eq_false (by omega), show min (u + 1) (c - 1) = u + 1 by omega]
  · rw [swB_tf z, decide_eq_true (by omega), show min (u + 1) (c - 1) = u by omega]
theorem B1_o (h1 : u < c) (hf : f = true → u = c - 1) (h : SA c (u + 1) w) : SB1 c u e f (.o :: w) := by
  obtain ⟨out, r, mk, key⟩ := aft h1 h
  refine ⟨.m :: out, ⟨r.gd, fun _ => rfl, ?_, ?_⟩, fun N x => ?_⟩
  · show true :: false :: bw out = true :: swB c u (true :: bw w)
    rw [swB_t h1, r.bits]
    rfl
  · show bk out ++ [false] = swB (c - 1) u (true :: bk w)
    rw [← key, r.kept]
    rfl
  · have := mk (N + 1) x
    rw [Int.add_sub_cancel] at this
    show ((N - 0) :: marks out (N - 0)).count x + (ends e (true :: bk w) N).count x = (if N == x then 1 else 0) + (marks w (N + 1)).count x + (ends f (swB (c - 1) u (true :: bk w)) N).count x
    have e2 : ends f (decide (u + 1 = c) :: swB (c - 1) (min (u + 1) (c - 1)) (bk w)) N = ends (decide (u + 1 = c)) (swB (c - 1) (min (u + 1) (c - 1)) (bk w)) (N + 1) := by
      cases f with
      | true =>
        rw [decide_eq_true (show u + 1 = c by have := hf rfl; omega)]
        rfl
      | false => cases decide (u + 1 = c) <;> rfl
    rw [Int.sub_zero, endsT, ← key, e2, List.count_cons]
    simp only [cond_false] at this
    omega
theorem B2_o (h1 : u + 1 < c) (h : SA c (u + 1) w) : SB2 c u (.o :: w) := by
  obtain ⟨out, r, mk, key⟩ := aft (by omega) h
  have d : decide (u + 1 = c) = false := decide_eq_false (by omega)
  refine ⟨.m :: out, ⟨r.gd, fun _ => rfl, ?_, ?_⟩, fun N x => ?_⟩
  · show true :: false :: bw out = true :: swB c u (true :: bw w)
    rw [swB_t (by omega), r.bits]
    rfl
  · show bk out ++ [false] = swB (c - 1) u (true :: bk w)
    rw [← key, r.kept]
    rfl
  · have := mk (N + 1) x
    rw [Int.add_sub_cancel] at this
    show ((N - 0) :: marks out (N - 0)).count x + (ends false (true :: bk w) N).count x = 0 + (marks w (N + 1)).count x + (ends true (swB (c - 1) u (true :: bk w)) N).count x
    rw [Int.sub_zero, endsT, ← key]
    rw [d] at this ⊢
    show _ = _ + (N :: ends false (swB (c - 1) (min (u + 1) (c - 1)) (bk w)) (N + 1)).count x
    rw [List.count_cons, List.count_cons]
    simp only [cond_false] at this
    omega
theorem B1_m (h1 : u < c) (h : SB1 c u e f w) : SB1 c u e f (.m :: w) := by
  obtain ⟨out, r, mk⟩ := h
  refine ⟨.m :: out, ⟨r.gd, fun _ => rfl, ?_, ?_⟩, fun N x => ?_⟩
  · show true :: false :: bw out = true :: swB c u (true :: false :: bw w)
    rw [swB_t h1, swB_f (Nat.succ_pos u), r.bits]
    rfl
  · show bk out ++ [false] = swB (c - 1) u (bk w)
    rw [r.kept]
    rfl
  · have := mk N x
    show ((N - 0) :: marks out (N - 0)).count x + (ends e (bk w) N).count x = (if N == x then 1 else 0) + (N :: marks w N).count x + (ends f (swB (c - 1) u (bk w)) N).count x
    rw [Int.sub_zero, List.count_cons, List.count_cons]
    rw [Int.sub_zero] at this
    simp only [cond_true] at this
    omega
theorem B2_m (h1 : u < c) (h : SB2 c u w) : SB2 c u (.m :: w) := by
  obtain ⟨out, r, mk⟩ := h
  refine ⟨.m :: out, ⟨r.gd, fun _ => rfl, ?_, ?_⟩, fun N x => ?_⟩
  · show true :: false :: bw out = true :: swB c u (true :: false :: bw w)
    rw [swB_t h1, swB_f (Nat.succ_pos u), r.bits]
    rfl
  · show bk out ++ [false] = swB (c - 1) u (bk w)
    rw [r.kept]
    rfl
  · have := mk N x
    show ((N - 0) :: marks out (N - 0)).count x + (ends false (bk w) N).count x = 0 + (N :: marks w N).count x + (ends true (swB (c - 1) u (bk w)) N).count x
    rw [Int.sub_zero, List.count_cons, List.count_cons]
    rw [Int.sub_zero] at this
    simp only [cond_false] at this
    omega
theorem C_o (h : SC c w) : SC c (.o :: w) := by
  obtain ⟨out, r, mk⟩ := h
  refine ⟨.o :: out, ⟨?_, fun _ => rfl, ?_, ?_⟩, fun N x => ?_⟩
  · show (hdB out && gdB out) = true
    rw [r.hd rfl, r.gd]
    rfl
  · show true :: bw out = true :: swB c c (true :: bw w)
    rw [swB_tf (Nat.lt_irrefl c), r.bits]
    rfl
  · show true :: (bk out ++ [false]) = [true, true] ++ swB (c - 1) (c - 1) (true :: bk w)
    rw [swB_tf (Nat.lt_irrefl _), r.kept]
    rfl
  · have := mk (N + 1) x
    show (marks out (N - 2 + 1)).count x + (ends true (true :: bk w) N).count x = 0 + (marks w (N + 1)).count x + (ends true (swB (c - 1) (c - 1) (true :: bk w)) N).count x
    rw [swB_tf (Nat.lt_irrefl _), endsT, endsT]
    have e1 : N + 1 - 2 = N - 2 + 1 := by omega
    rw [e1] at this
    exact this
theorem C_m (c1 : 1 ≤ c) (h : SB1 c (c - 1) true true w) : SC c (.m :: w) := by
  obtain ⟨out, r, mk⟩ := h
  refine ⟨.o :: .o :: out, ⟨?_, fun _ => rfl, ?_, ?_⟩, fun N x => ?_⟩
  · show (true && (hdB out && gdB out)) = true
    rw [r.hd rfl, r.gd]
    rfl
  · show true :: true :: bw out = true :: swB c c (true :: false :: bw w)
    rw [swB_tf (Nat.lt_irrefl c), swB_f c1, r.bits]
    rfl
  · show true :: true :: (bk out ++ [false]) = [true, true] ++ swB (c - 1) (c - 1) (bk w)
    rw [r.kept]
    rfl
  · have := mk N x
    show (marks out (N - 2 + 1 + 1)).count x + (ends true (bk w) N).count x = 0 + (N :: marks w N).count x + (ends true (swB (c - 1) (c - 1) (bk w)) N).count x
    have e1 : N - 2 + 1 + 1 = N := by omega
    rw [e1, List.count_cons]
    rw [Int.sub_zero] at this
    simp only [cond_true] at this
    omega
/-- every state, over a word with enough empty boxes behind it -/
theorem sim (c1 : 1 ≤ c) (k : Nat) : ∀ (w : List Lx), gdB w = true →
    (∀ u, u ≤ c → (0 < u → hdB w = true) → u + w.length + 1 ≤ k → SA c u (w ++ zs k)) ∧
    (∀ u e f, u < c → ((u = 0 ∧ e = f) ∨ (0 < u ∧ e = true)) → (f = true → u = c - 1) → u + w.length + 1 ≤ k → SB1 c u e f (w ++ zs k)) ∧
    (∀ u, u + 1 < c → u + w.length + 1 ≤ k → SB2 c u (w ++ zs k)) ∧
    (hdB w = true → c + w.length + 1 ≤ k → SC c (w ++ zs k)) := by
  intro w
  induction w with
  | nil =>
    intro _
    refine ⟨fun u _ h _ => ?_, fun u e f h1 ok hf hk => sB1_zs c1 u k (by simpa using hk) e f ok, fun u _ hk => sB2_zs c1 u k (by simpa using hk), fun h => nomatch h⟩
    obtain rfl : u = 0 := by
      rcases Nat.eq_zero_or_pos u with z | z
      · exact z
      · cases h z
    exact sA_zs c1 k
  | cons l w ih =>
    intro g
    cases l with
    | z =>
      obtain ⟨ia, ib, ib2, ic⟩ := ih g
      refine ⟨fun u h1 h2 hk => ?_, fun u e f h1 ok hf hk => ?_, fun u h1 hk => ?_, fun h => nomatch h⟩
      · obtain rfl : u = 0 := by
          rcases Nat.eq_zero_or_pos u with z | z
          · exact z
          · cases h2 z
        exact A_z c1 (ia 0 (by omega) (fun z => absurd z (Nat.lt_irrefl 0)) (by rw [List.length_cons] at hk; omega))
      · rw [List.length_cons] at hk
        rcases ok with ⟨rfl, rfl⟩ | ⟨u0, rfl⟩
        · exact B1_z0 c1 (ia 0 (by omega) (fun z => absurd z (Nat.lt_irrefl 0)) (by omega))
        · obtain ⟨u, rfl⟩ : ∃ j, u = j + 1 := ⟨u - 1, by omega⟩
          exact B1_z (ib2 u (by omega) (by omega))
      · rw [List.length_cons] at hk
        cases u with
        | zero => exact B2_z0 c1 (ia 0 (by omega) (fun z => absurd z (Nat.lt_irrefl 0)) (by omega))
        | succ u => exact B2_z (ib2 u (by omega) (by omega))
    | o =>
      have g2 : (hdB w && gdB w) = true := g
      rw [Bool.and_eq_true] at g2
      obtain ⟨ia, ib, ib2, ic⟩ := ih g2.2
      refine ⟨fun u h1 h2 hk => ?_, fun u e f h1 ok hf hk => ?_, fun u h1 hk => ?_, fun h hk => ?_⟩
      · rw [List.length_cons] at hk
        by_cases z : u < c
        · exact A_o z (ia (u + 1) (by omega) (fun _ => g2.1) (by omega))
        · obtain rfl : u = c := by omega
          exact A_oc c1 (ic g2.1 (by omega))
      · rw [List.length_cons] at hk
        exact B1_o h1 hf (ia (u + 1) (by omega) (fun _ => g2.1) (by omega))
      · rw [List.length_cons] at hk
        exact B2_o h1 (ia (u + 1) (by omega) (fun _ => g2.1) (by omega))
      · rw [List.length_cons] at hk
        exact C_o (ic g2.1 (by omega))
    | m =>
      obtain ⟨ia, ib, ib2, ic⟩ := ih g
      refine ⟨fun u h1 h2 hk => ?_, fun u e f h1 ok hf hk => ?_, fun u h1 hk => ?_, fun h hk => ?_⟩
      · rw [List.length_cons] at hk
        by_cases z : u < c
        · refine A_m z (ib u _ false z ?_ (fun q => nomatch q) (by omega))
          rcases Nat.eq_zero_or_pos u with q | q
          · exact .inl ⟨q, decide_eq_false (by omega)⟩
          · exact .inr ⟨q, decide_eq_true q⟩
        · obtain rfl : u = c := by omega
          refine A_mc c1 (ib (u - 1) true true (by omega) ?_ (fun _ => rfl) (by omega))
          rcases Nat.eq_zero_or_pos (u - 1) with q | q
          · exact .inl ⟨q, rfl⟩
          · exact .inr ⟨q, rfl⟩
      · rw [List.length_cons] at hk
        exact B1_m h1 (ib u e f h1 ok hf (by omega))
      · rw [List.length_cons] at hk
        exact B2_m (by omega) (ib2 u h1 (by omega))
      · rw [List.length_cons] at hk
        refine C_m c1 (ib (c - 1) true true (by omega) ?_ (fun _ => rfl) (by omega))
        rcases Nat.eq_zero_or_pos (c - 1) with q | q
        · exact .inl ⟨q, rfl⟩
        · exact .inr ⟨q, rfl⟩
end
end SR
set_option Elab.async false
set_option linter.all false
set_option maxRecDepth 100000
set_option maxHeartbeats 4000000
namespace SR
open PySem L2
abbrev qAdd : R2 := rI0 fun i j => .int (i + j)
abbrev qSub : R2 := rI0 fun i j => .int (i - j)
abbrev qMul : R2 := rI CMul fun i j => .int (i * j)
abbrev qFd : R2 := rI CDivN fun i j => .int (i.fdiv j)
abbrev qMod : R2 := rI (fun _ j => j ≠ 0) fun i j => .int (i.fmod j)
abbrev qPow : R2 := rI CPow fun i j => .int (i ^ j.toNat)
abbrev qLt : R2 := rI0 fun i j => .bl (decide (i < j))
abbrev qLe : R2 := rI0 fun i j => .bl (decide (i ≤ j))
abbrev qGt : R2 := rI0 fun i j => .bl (decide (j < i))
abbrev qGe : R2 := rI0 fun i j => .bl (decide (j ≤ i))
abbrev qInt1 : List V → Hp → VK → Prop := fun xs H Q => (∃ i, xs = [.int i] ∧ Q (.int i) H) ∨ ∃ k, xs = [.bl k] ∧ Q (.int (if k then 1 else 0)) H
abbrev qListOf (K : PySem.W.Frag) : List V → Hp → VK → Prop := fun xs H Q => ∃ p ys, xs = [.ref p] ∧ (SqL K H p ys ∨ SqT K H p ys) ∧ ∀ l, H l = none → Q (.ref l) (upd H l (.lst ys))
abbrev qLen (K : PySem.W.Frag) : List V → Hp → VK → Prop := fun xs H Q => ∃ p ys, xs = [.ref p] ∧ (SqL K H p ys ∨ SqT K H p ys) ∧ Q (.int ys.length) H
abbrev qMin2 : List V → Hp → VK → Prop := fun xs H Q => ∃ i j, xs = [.int i, .int j] ∧ Q (.int (if j < i then j else i)) H
def stK (g c : Addr) (r t : Int) : List (Key × V) := [(.inr "great", .ref g), (.inr "cells", .ref c), (.inr "rest", .int r), (.inr "turn", .int t)]
def St0 (H : Hp) (d g c : Addr) (b : Nat) (r t : Int) (gs cs : List Int) : Prop :=
  H d = some (.dK (stK g c r t)) ∧ H g = some (.lst (gs.map V.int)) ∧ H c = some (.lst (cs.map V.int)) ∧ g ≠ c ∧ 0 ≤ t ∧ t + b ≤ 2 ^ 40
def StB (H : Hp) (d g c : Addr) (b : Nat) : Prop := ∃ r t gs cs, St0 H d g c b r t gs cs
/-- all but the state's dict and its great cells stay -/
def Kp (d g : Addr) (H H' : Hp) : Prop := ∀ a o, a ≠ d → a ≠ g → H a = some o → H' a = some o
theorem Kp.refl {d g : Addr} (H : Hp) : Kp d g H H := fun _ _ _ _ h => h
theorem Kp.trans {d g : Addr} {H H1 H2 : Hp} (x : Kp d g H H1) (y : Kp d g H1 H2) : Kp d g H H2 := fun a o h1 h2 h => y a o h1 h2 (x a o h1 h2 h)
theorem Kp.new {d g : Addr} {H : Hp} {p : Addr} {o : HO} (h : H p = none) : Kp d g H (upd H p o) := fun a u _ _ e => by
  rw [upd_ne (ne_of_none e h)]
  exact e
theorem StB.mono {H : Hp} {d g c : Addr} {b b' : Nat} (h : StB H d g c b) (e : b' ≤ b) : StB H d g c b' := by
  obtain ⟨r, t, gs, cs, h1, h2, h3, h4, h5, h6⟩ := h
  exact ⟨r, t, gs, cs, h1, h2, h3, h4, h5, by omega⟩
theorem St0.dg {H : Hp} {d g c : Addr} {b : Nat} {r t : Int} {gs cs : List Int} (h : St0 H d g c b r t gs cs) : d ≠ g := ne_of h.1 h.2.1 (by intro z; cases z)
theorem St0.dc {H : Hp} {d g c : Addr} {b : Nat} {r t : Int} {gs cs : List Int} (h : St0 H d g c b r t gs cs) : d ≠ c := ne_of h.1 h.2.2.1 (by intro z; cases z)
/-- a new object leaves the state -/
theorem StB.new {H : Hp} {d g c : Addr} {b : Nat} (h : StB H d g c b) {p : Addr} {o : HO} (hp : H p = none) : StB (upd H p o) d g c b := by
  obtain ⟨r, t, gs, cs, h1, h2, h3, h4, h5⟩ := h
  exact ⟨r, t, gs, cs, by rw [upd_ne (ne_of_none h1 hp)]; exact h1, by rw [upd_ne (ne_of_none h2 hp)]; exact h2, by rw [upd_ne (ne_of_none h3 hp)]; exact h3, h4, h5⟩
/-- an object that is none of the state's is changed -/
theorem StB.upd {H : Hp} {d g c : Addr} {b : Nat} (h : StB H d g c b) {p : Addr} {o : HO} (h1 : p ≠ d) (h2 : p ≠ g) (h3 : p ≠ c) : StB (upd H p o) d g c b := by
  obtain ⟨r, t, gs, cs, e1, e2, e3, e4⟩ := h
  exact ⟨r, t, gs, cs, by rw [upd_ne h1.symm]; exact e1, by rw [upd_ne h2.symm]; exact e2, by rw [upd_ne h3.symm]; exact e3, e4⟩
def spMixed : Sp := fun vs H Q _ => ∃ (d g c : Addr) (b : Nat), vs = [.ref d] ∧ ∃ r t gs cs, St0 H d g c (b + 1) r t gs cs ∧
  ∀ (i : Int) H', St0 H' d g c b r (t + 1) gs cs → Kp d g H H' → Q (.int i) H'
def spTake : Sp := fun vs H Q _ => ∃ (d g c : Addr) (b : Nat) (n : Int), vs = [.ref d, .int n] ∧ StB H d g c (b + 1) ∧ 0 < n ∧ n < 2 ^ 29 ∧
  ∀ (i : Int) H', 0 ≤ i → i < n → StB H' d g c b → Kp d g H H' → Q (.int i) H'
def spPick (K : PySem.W.Frag) : Sp := fun vs H Q _ => ∃ (d g c : Addr) (b : Nat) (a : Addr) (xs : List V), vs = [.ref d, .ref a] ∧ StB H d g c (b + 1) ∧ SqL K H a xs ∧ a ≠ d ∧ a ≠ g ∧ 0 < xs.length ∧ xs.length < 1000 ∧
  ∀ v H', v ∈ xs → StB H' d g c b → Kp d g H H' → Q v H'
def spBegun (K : PySem.W.Frag) : Sp := fun vs H Q _ => ∃ (a : Addr) (ns : List Int), vs = [.ref a] ∧ SqL K H a (ns.map V.int) ∧ ns.length ≤ 63 ∧
  ∀ d g c H', StB H' d g c (2 ^ 39) → (∀ x o, H x = some o → H' x = some o) → H d = none → H g = none → H c = none → Q (.ref d) H'
theorem kstr {x y : Str} (h : x ≠ y) : ¬ (Sum.inr x : Key) = Sum.inr y := fun e => h (Sum.inr.inj e)
end SR
set_option Elab.async false
set_option linter.all false
set_option maxRecDepth 100000
set_option maxHeartbeats 4000000
namespace SR
open PySem L2
section
variable {H : Hp} {d g c : Addr} {r t : Int} {K : PySem.W.Frag}
theorem get_great (h : H d = some (.dK (stK g c r t))) : DGet H d (.str "great") (some (.ref g)) := .inl ⟨_, .inr "great", .inl h, rfl, by rw [stK, valV_pos rfl]⟩
theorem get_cells (h : H d = some (.dK (stK g c r t))) : DGet H d (.str "cells") (some (.ref c)) := .inl ⟨_, .inr "cells", .inl h, rfl, by rw [stK, valV_neg (kstr (by decide +kernel)), valV_pos rfl]⟩
theorem get_rest (h : H d = some (.dK (stK g c r t))) : DGet H d (.str "rest") (some (.int r)) := .inl ⟨_, .inr "rest", .inl h, rfl, by rw [stK, valV_neg (kstr (by decide +kernel)), valV_neg (kstr (by decide +kernel)), valV_pos rfl]⟩
theorem get_turn (h : H d = some (.dK (stK g c r t))) : DGet H d (.str "turn") (some (.int t)) := .inl ⟨_, .inr "turn", .inl h, rfl, by rw [stK, valV_neg (kstr (by decide +kernel)), valV_neg (kstr (by decide +kernel)), valV_neg (kstr (by decide +kernel)), valV_pos rfl]⟩
theorem putK_rest (y : Int) : putK (stK g c r t) (.inr "rest") (.int y) = stK g c y t := by
  have n1 : ¬ ("great" : Str) = "rest" := by decide +kernel
  have n2 : ¬ ("cells" : Str) = "rest" := by decide +kernel
  have n3 : ¬ ("turn" : Str) = "rest" := by decide +kernel
  simp [putK, stK, n1, n2, n3]
theorem putK_turn (y : Int) : putK (stK g c r t) (.inr "turn") (.int y) = stK g c r y := by
  have n1 : ¬ ("great" : Str) = "turn" := by decide +kernel
  have n2 : ¬ ("cells" : Str) = "turn" := by decide +kernel
  have n3 : ¬ ("rest" : Str) = "turn" := by decide +kernel
  simp [putK, stK, n1, n2, n3]
theorem put_rest (y : Int) (h : H d = some (.dK (stK g c r t))) : DPut H d (.str "rest") (.int y) (upd H d (.dK (stK g c y t))) :=
  .inl ⟨_, .inr "rest", h, rfl, small1000 (by show 4 ≤ 1000; decide), by rw [putK_rest]⟩
theorem put_turn (y : Int) (h : H d = some (.dK (stK g c r t))) : DPut H d (.str "turn") (.int y) (upd H d (.dK (stK g c r y))) :=
  .inl ⟨_, .inr "turn", h, rfl, small1000 (by show 4 ≤ 1000; decide), by rw [putK_turn]⟩
/-- the state with another rest, another turn -/
theorem St0.rest {b : Nat} {gs cs : List Int} (h : St0 H d g c b r t gs cs) (y : Int) : St0 (upd H d (.dK (stK g c y t))) d g c b y t gs cs :=
  ⟨upd_same, by rw [upd_ne h.dg.symm]; exact h.2.1, by rw [upd_ne h.dc.symm]; exact h.2.2.1, h.2.2.2⟩
theorem St0.turn {b : Nat} {gs cs : List Int} (h : St0 H d g c (b + 1) r t gs cs) : St0 (upd H d (.dK (stK g c r (t + 1)))) d g c b r (t + 1) gs cs :=
  ⟨upd_same, by rw [upd_ne h.dg.symm]; exact h.2.1, by rw [upd_ne h.dc.symm]; exact h.2.2.1, h.2.2.2.1, by have := h.2.2.2.2; omega, by have := h.2.2.2.2; omega⟩
theorem St0.pop {b : Nat} {x : Int} {gs cs : List Int} (h : St0 H d g c b r t (x :: gs) cs) : St0 (upd H g (.lst (gs.map V.int))) d g c b r t gs cs :=
  ⟨by rw [upd_ne h.dg]; exact h.1, upd_same, by rw [upd_ne h.2.2.2.1.symm]; exact h.2.2.1, h.2.2.2⟩
theorem St0.new {b : Nat} {gs cs : List Int} (h : St0 H d g c b r t gs cs) {p : Addr} {o : HO} (hp : H p = none) : St0 (upd H p o) d g c b r t gs cs :=
  ⟨by rw [upd_ne (ne_of_none h.1 hp)]; exact h.1, by rw [upd_ne (ne_of_none h.2.1 hp)]; exact h.2.1, by rw [upd_ne (ne_of_none h.2.2.1 hp)]; exact h.2.2.1, h.2.2.2⟩
theorem Kp.own {o : HO} : Kp d g H (upd H d o) := fun a u h1 _ e => by rw [upd_ne h1]; exact e
theorem Kp.ownG {o : HO} : Kp d g H (upd H g o) := fun a u _ h2 e => by rw [upd_ne h2]; exact e
end
def primes : List Int := [2147483629, 2147483587, 2147483579, 2147483563, 2147483549, 2147483543]
theorem primes_mem {i : Nat} {x : V} (h : (primes.map V.int)[i]? = some x) : ∃ p : Int, x = .int p ∧ 2147483543 ≤ p ∧ p ≤ 2147483629 := by
  have hx := List.mem_of_getElem? h
  obtain ⟨p, hp, rfl⟩ := List.mem_map.mp hx
  refine ⟨p, rfl, ?_⟩
  simp [primes] at hp
  omega
theorem ints_at {ns : List Int} {i : Nat} {x : V} (h : (ns.map V.int)[i]? = some x) : ∃ z, ns[i]? = some z ∧ x = .int z := by
  rw [List.getElem?_map] at h
  cases e : ns[i]? with
  | none => rw [e] at h; cases h
  | some z => rw [e] at h; exact ⟨z, rfl, (Option.some.inj h).symm⟩
def t_mixed (K : PySem.W.Frag) : TS := tSeq (tAsg (tOp qAdd (tDGet (tVar 0) (tC (.str "turn"))) (tC (.int 1))) (gName 1))
  (tSeq (sDPut (tVar 0) (tC (.str "turn")) (tVar 1))
  (tSeq (tAsg (tC (.int 0)) (gName 2))
  (tSeq (tFor (iList K (tLst (tCons (tC (.int 2147483629)) (tCons (tC (.int 2147483587)) (tCons (tC (.int 2147483579)) (tCons (tC (.int 2147483563)) (tCons (tC (.int 2147483549)) (tCons (tC (.int 2147483543)) (tNil))))))))) (gName 3)
  (tSeq (tAsg (tOp qAdd (tOp qMul (tC (.int 130363)) (tVar 1)) (tOp qFd (tVar 3) (tC (.int 13)))) (gName 4))
  (tSeq (tFor (iList K (tDGet (tVar 0) (tC (.str "cells")))) (gName 5)
  (tAsg (tOp qMod (tCB qInt1 (tCons (tOp qAdd (tOp qMul (tVar 4) (tC (.int 48271))) (tVar 5)) (tNil))) (tVar 3)) (gName 4)))
  (tAsg (tOp qAdd (tOp qMul (tVar 2) (tC (.int 2147483647))) (tOp qMod (tCB qInt1 (tCons (tOp qPow (tVar 4) (tC (.int 5))) (tNil))) (tVar 3))) (gName 2)))))
  (tRet (tVar 2)))))
theorem pure_mixed {K : PySem.W.Frag} (vs : List V) (H : Hp) (Q : VK) (E : XK) (h : spMixed vs H Q E) : t_mixed K { nx := fun _ H' => Q .non H', rt := Q } (start ["state", "turn", "found", "prime", "blend", "cell"] vs) H := by
  obtain ⟨d, g, c, b, rfl, r, t, gs, cs, S, k⟩ := h
  -- turn = state["turn"] + 1
  refine ⟨_, rfl, d, _, rfl, get_turn S.1, _, _, rfl, rfl, ?_⟩
  -- state["turn"] = turn
  refine ⟨_, rfl, _, rfl, d, _, rfl, put_turn (t + 1) S.1, ?_⟩
  have S1 := S.turn
  have kp1 : Kp d g H (upd H d (.dK (stK g c r (t + 1)))) := Kp.own
  generalize upd H d (.dK (stK g c r (t + 1))) = H1 at S1 kp1 ⊢
  -- found = 0; for prime in [..]
  refine ⟨by show 6 ≤ sizeLine; exact Nat.le_of_lt (small1000 (by decide)), fun l hl => ⟨l, rfl, ⟨_, SqL.of upd_same⟩, ?_⟩⟩
  have S2 := S1.new (o := .lst (primes.map V.int)) hl
  have kp2 : Kp d g H (upd H1 l (.lst (primes.map V.int))) := kp1.trans (Kp.new hl)
  have hL : upd H1 l (.lst (primes.map V.int)) l = some (.lst (primes.map V.int)) := upd_same
  have ht := S2.2.2.2.2
  refine for_list (K := K) (a := l) (xs := primes.map V.int) (fun i σ H2 => H2 = upd H1 l (.lst (primes.map V.int)) ∧ ∃ (f : Int) (v3 v4 v5 : Option V), σ = [some (.ref d), some (.int (t + 1)), some (.int f), v3, v4, v5])
    ⟨rfl, 0, none, none, none, rfl⟩ (fun i σ H2 _ e => e.1 ▸ SqL.of hL) ?_ ?_
  · rintro i x σ H2 hi ⟨rfl, f, v3, v4, v5, rfl⟩
    obtain ⟨p, rfl, hp1, hp2⟩ := primes_mem hi
    generalize upd H1 l (.lst (primes.map V.int)) = H3 at S2 kp2 hL
    -- blend = 130363 * turn + prime // 13
    refine ⟨_, rfl, 130363, t + 1, rfl, rfl, .inl ⟨by decide, by decide⟩, _, rfl, _, _, rfl, rfl, ⟨by decide, by decide⟩, _, _, rfl, rfl, ?_⟩
    -- for cell in state["cells"]
    refine ⟨_, rfl, d, _, rfl, get_cells S2.1, c, rfl, ⟨_, SqL.of S2.2.2.1⟩, ?_⟩
    refine for_list (K := K) (a := c) (xs := cs.map V.int) (fun j σ H4 => H4 = H3 ∧ ∃ (bl : Int) (w5 : Option V), σ = [some (.ref d), some (.int (t + 1)), some (.int f), some (.int p), some (.int bl), w5] ∧ bl.natAbs < 2 ^ 64)
      ⟨rfl, _, v5, rfl, ?_⟩ (fun j σ H4 _ e => e.1 ▸ SqL.of S2.2.2.1) ?_ ?_
    · have : p.fdiv 13 = p / 13 := Int.fdiv_eq_ediv_of_nonneg _ (by decide)
      rw [this]; omega
    · rintro j x σ H4 hj ⟨rfl, bl, w5, rfl, hb⟩
      obtain ⟨z, _, rfl⟩ := ints_at hj
      refine ⟨_, rfl, bl, 48271, rfl, rfl, .inr ⟨by decide, by decide⟩, _, rfl, _, _, rfl, rfl, .inl ⟨_, rfl, _, rfl, _, p, rfl, rfl, by omega, ?_⟩⟩
      refine ⟨rfl, _, _, rfl, ?_⟩
      have h0 : 0 ≤ (bl * 48271 + z).fmod p := Int.fmod_nonneg_of_pos _ (by omega)
      have h1 : (bl * 48271 + z).fmod p < p := Int.fmod_lt_of_pos _ (by omega)
      omega
    · rintro σ H4 ⟨rfl, bl, w5, rfl, hb⟩
      -- found = found * 2147483647 + int(blend ** 5) % prime
      refine ⟨_, rfl, f, 2147483647, rfl, rfl, .inr ⟨by decide, by decide⟩, _, rfl, bl, 5, rfl, rfl, ⟨by decide, by decide, hb⟩, .inl ⟨_, rfl, _, rfl, _, p, rfl, rfl, by omega, _, _, rfl, rfl, ?_⟩⟩
      exact ⟨rfl, _, _, _, _, rfl⟩
  · rintro σ H2 ⟨rfl, f, v3, v4, v5, rfl⟩
    exact ⟨_, rfl, k f _ S2 kp2⟩
end SR
set_option Elab.async false
set_option linter.all false
set_option maxRecDepth 100000
set_option maxHeartbeats 4000000
namespace SR
open PySem L2
theorem SqL.same {K : PySem.W.Frag} {H H' : Hp} {a : Addr} {xs : List V} (e : Same H H') (h : SqL K H a xs) : SqL K H' a xs := Same.seq e h
theorem SqT.same {K : PySem.W.Frag} {H H' : Hp} {a : Addr} {xs : List V} (e : Same H H') (h : SqT K H a xs) : SqT K H' a xs := by
  rcases h with (h | ⟨o, h⟩) | h
  · exact .inl (.inl (e _ _ h))
  · exact .inl (.inr ⟨o, e _ _ h⟩)
  · exact .inr h
mutual
theorem Dp.same {K : PySem.W.Frag} {H H' : Hp} (e : Same H H') : ∀ (d : PyData) (v : V), Dp K H v d → Dp K H' v d
  | .none, _, h => by cases h; exact .non
  | .bool _, _, h => by cases h; exact .bl _
  | .int _, _, h => by cases h; exact .int _
  | .str _, _, h => by cases h; exact .str _
  | .list ds, _, h => by
    cases h with
    | lst h1 h2 => exact .lst (SqL.same e h1) (DpAll.same e ds _ h2)
  | .tuple ds, _, h => by
    cases h with
    | tup h1 h2 => exact .tup (SqT.same e h1) (DpAll.same e ds _ h2)
  | .dict _, _, h => nomatch h
theorem DpAll.same {K : PySem.W.Frag} {H H' : Hp} (e : Same H H') : ∀ (ds : List PyData) (vs : List V), DpAll K H vs ds → DpAll K H' vs ds
  | [], _, h => by cases h; exact .nil
  | d :: ds, _, h => by
    cases h with
    | cons h1 h2 => exact .cons (Dp.same e d _ h1) (DpAll.same e ds _ h2)
end
theorem dp_ints {K : PySem.W.Frag} {H : Hp} : ∀ ns : List Int, DpAll K H (ns.map V.int) (ns.map PyData.int)
  | [] => .nil
  | n :: ns => .cons (.int n) (dp_ints ns)
theorem lay_ints : ∀ ns : List Int, PyData.canLayAll0 (ns.map PyData.int) = true
  | [] => rfl
  | n :: ns => by
    show (PyData.canLay0 (PyData.int n) && PyData.canLayAll0 (ns.map PyData.int)) = true
    rw [lay_ints ns] <;> rfl
theorem depth_ints : ∀ ns : List Int, PyData.depthAll (ns.map PyData.int) = 0
  | [] => rfl
  | n :: ns => by
    show max (PyData.depth (PyData.int n)) (PyData.depthAll (ns.map PyData.int)) = 0
    rw [depth_ints ns]
    simp [PyData.depth]
theorem shaped_list {ds : List PyData} (h : PyData.canLayAll0 ds = true) (h2 : PyData.depthAll ds ≤ 60) : SeqAt.shaped (.list ds) = true := by
  have e1 : PyData.canLay0 (.list ds) = true := h
  have e2 : PyData.depth (.list ds) ≤ 64 := by simp only [PyData.depth]; omega
  unfold SeqAt.shaped
  rw [e1, decide_eq_true e2] <;> rfl
theorem shaped_tup {ds : List PyData} (h : PyData.canLayAll0 ds = true) (h2 : PyData.depthAll ds ≤ 60) : SeqAt.shaped (.tuple ds) = true := by
  have e1 : PyData.canLay0 (.tuple ds) = true := h
  have e2 : PyData.depth (.tuple ds) ≤ 64 := by simp only [PyData.depth]; omega
  unfold SeqAt.shaped
  rw [e1, decide_eq_true e2] <;> rfl
theorem shaped_ints (ns : List Int) : SeqAt.shaped (.list (ns.map PyData.int)) = true := shaped_list (lay_ints ns) (by rw [depth_ints]; decide)
def hid (d g : Addr) (H : Hp) : Hp := fun a => if a = d ∨ a = g then none else H a
theorem hid_some {d g : Addr} {H : Hp} {a : Addr} {o : HO} (h : hid d g H a = some o) : H a = some o ∧ a ≠ d ∧ a ≠ g := by
  unfold hid at h
  by_cases e : a = d ∨ a = g
  · rw [if_pos e] at h; cases h
  · rw [if_neg e] at h
    exact ⟨h, fun z => e (.inl z), fun z => e (.inr z)⟩
theorem hid_of {d g : Addr} {H : Hp} {a : Addr} {o : HO} (h : H a = some o) (h1 : a ≠ d) (h2 : a ≠ g) : hid d g H a = some o := by
  unfold hid
  rw [if_neg (fun e => e.elim h1 h2)]
  exact h
theorem Kp.hid {d g : Addr} {H H' : Hp} (k : Kp d g H H') : Same (hid d g H) (hid d g H') := fun a o h => by
  obtain ⟨h0, h1, h2⟩ := hid_some h
  exact hid_of (k a o h1 h2 h0) h1 h2
theorem Kp.of_same {d g : Addr} {H H' : Hp} (k : Same H H') : Kp d g H H' := fun a o _ _ h => k a o h
def t_take (K : PySem.W.Frag) : TS := tSeq (tIfS (tAnd (tTest (tOp rEq (tDGet (tVar 0) (tC (.str "rest"))) (tC (.int 0)))) (tTest (tOp (rNeD K) (tDGet (tVar 0) (tC (.str "great"))) (tLst (tNil)))))
  (sDPut (tVar 0) (tC (.str "rest")) (tBM K "list" rPopAt (tDGet (tVar 0) (tC (.str "great"))) (tCons (tC (.int 0)) (tNil))))
  (tIfS (tTest (tOp rEq (tDGet (tVar 0) (tC (.str "rest"))) (tC (.int 0))))
  (sDPut (tVar 0) (tC (.str "rest")) (tCall spMixed [] E0 (tCons (tVar 0) (tNil))))
  (tNext)))
  (tSeq (tAsg (tOp qMod (tCB qInt1 (tCons (tDGet (tVar 0) (tC (.str "rest"))) (tNil))) (tVar 1)) (gName 2))
  (tSeq (sDPut (tVar 0) (tC (.str "rest")) (tOp qFd (tDGet (tVar 0) (tC (.str "rest"))) (tVar 1)))
  (tRet (tVar 2))))
theorem pure_take {K : PySem.W.Frag} (vs : List V) (H : Hp) (Q : VK) (E : XK) (h : spTake vs H Q E) : t_take K { nx := fun _ H' => Q .non H', rt := Q } (start ["state", "size", "found"] vs) H := by
  obtain ⟨d, g, c, b, n, rfl, ⟨r, t, gs, cs, S⟩, hn0, hn1, k⟩ := h
  -- behind the if
  have fin : ∀ (H1 : Hp) (r1 t1 : Int) (gs1 : List Int), St0 H1 d g c b r1 t1 gs1 cs → Kp d g H H1 →
      (tSeq (tAsg (tOp qMod (tCB qInt1 (tCons (tDGet (tVar 0) (tC (.str "rest"))) (tNil))) (tVar 1)) (gName 2))
        (tSeq (sDPut (tVar 0) (tC (.str "rest")) (tOp qFd (tDGet (tVar 0) (tC (.str "rest"))) (tVar 1))) (tRet (tVar 2)))) { nx := fun _ H' => Q .non H', rt := Q } [some (.ref d), some (.int n), none] H1 := by
    intro H1 r1 t1 gs1 S1 kp
    refine ⟨_, rfl, d, _, rfl, get_rest S1.1, .inl ⟨_, rfl, _, rfl, r1, n, rfl, rfl, by omega, ?_⟩⟩
    refine ⟨_, rfl, d, _, rfl, get_rest S1.1, _, rfl, r1, n, rfl, rfl, ⟨by omega, by omega⟩, _, rfl, d, _, rfl, put_rest _ S1.1, _, rfl, ?_⟩
    exact k _ _ (Int.fmod_nonneg_of_pos _ hn0) (Int.fmod_lt_of_pos _ hn0) ⟨_, _, _, _, S1.rest _⟩ (kp.trans Kp.own)
  have S' : St0 H d g c b r t gs cs := ⟨S.1, S.2.1, S.2.2.1, S.2.2.2.1, S.2.2.2.2.1, by have := S.2.2.2.2.2; omega⟩
  refine ⟨_, rfl, d, _, rfl, get_rest S.1, rfl, _, rfl, ?_⟩
  by_cases e : r = 0
  · subst e
    rw [decide_eq_true (rfl : V.int 0 = V.int 0)]
    refine iteT ⟨_, rfl, d, _, rfl, get_great S.1, by show 0 ≤ sizeLine; exact Nat.zero_le _, fun p hp => ⟨.list (gs.map PyData.int), .list [], ?_, ?_, shaped_ints gs, shaped_ints [], _, rfl, ?_⟩⟩
    · exact .lst (SqL.of (by rw [upd_ne (ne_of_none S.2.1 hp)]; exact S.2.1)) (dp_ints gs)
    · exact .lst (SqL.of upd_same) .nil
    have S2 := S'.new (o := .lst []) hp
    have S2b := S.new (o := .lst []) hp
    have kp2 : Kp d g H (upd H p (.lst [])) := Kp.new hp
    cases gs with
    | nil =>
      -- great is empty: the state is mixed
      rw [show (!PyData.eqv (.list (([] : List Int).map PyData.int)) (.list [])) = false from rfl]
      refine iteF ⟨_, rfl, d, _, rfl, get_rest S2.1, rfl, _, rfl, ?_⟩
      rw [decide_eq_true (rfl : V.int 0 = V.int 0)]
      refine iteT ⟨_, rfl, d, g, c, b, rfl, _, _, _, _, S2b, fun i H3 S3 kp3 => ⟨_, rfl, d, _, rfl, put_rest i S3.1, ?_⟩⟩
      exact fin _ _ _ _ (S3.rest i) ((kp2.trans kp3).trans Kp.own)
    | cons x gs =>
      rw [show (!PyData.eqv (.list ((x :: gs).map PyData.int)) (.list [])) = true from rfl]
      refine iteT ⟨_, rfl, d, _, rfl, get_great S2.1, .inl ⟨rfl, _, .inl (.inl S2.2.1)⟩, g, _, 0, 0, .int x, rfl, rfl, S2.2.1, by decide, by decide, ?_, rfl, ?_⟩
      · simp [seqIndex?]
      have S3 := S2.pop
      refine ⟨_, rfl, d, _, rfl, put_rest x S3.1, ?_⟩
      exact fin _ _ _ _ (S3.rest x) ((kp2.trans Kp.ownG).trans Kp.own)
  · have e1 : ¬ V.int r = V.int 0 := fun z => e (by injection z)
    rw [decide_eq_false e1]
    refine iteF ⟨_, rfl, d, _, rfl, get_rest S.1, rfl, _, rfl, ?_⟩
    rw [decide_eq_false e1]
    exact iteF (fin _ _ _ _ S' (Kp.refl H))
def t_pick (K : PySem.W.Frag) : TS := tRet (tOp (rIxL K) (tVar 1) (tCall spTake [] E0 (tCons (tVar 0) (tCons (tCB (qLen K) (tCons (tVar 1) (tNil))) (tNil)))))
theorem SqL.kp {K : PySem.W.Frag} {d g a : Addr} {H H' : Hp} {xs : List V} (k : Kp d g H H') (h : SqL K H a xs) (h1 : a ≠ d) (h2 : a ≠ g) : SqL K H' a xs := by
  rcases h with (h | ⟨o, h⟩) | h
  · exact .inl (.inl (k _ _ h1 h2 h))
  · exact .inl (.inr ⟨o, k _ _ h1 h2 h⟩)
  · exact .inr h
theorem pure_pick {K : PySem.W.Frag} (vs : List V) (H : Hp) (Q : VK) (E : XK) (h : spPick K vs H Q E) : t_pick K { nx := fun _ H' => Q .non H', rt := Q } (start ["state", "some"] vs) H := by
  obtain ⟨d, g, c, b, a, xs, rfl, S, hL, h1, h2, h3, h4, k⟩ := h
  refine ⟨_, rfl, _, rfl, _, rfl, _, xs, rfl, .inl hL, d, g, c, b, xs.length, rfl, S, by omega, by omega, fun i H1 hi0 hi1 S1 kp => ?_⟩
  obtain ⟨j, rfl⟩ : ∃ j : Nat, i = (j : Int) := ⟨i.toNat, by omega⟩
  have hj : j < xs.length := by omega
  exact ⟨a, xs, j, xs[j], rfl, rfl, SqL.kp kp hL h1 h2, atI_nat (List.getElem?_eq_getElem hj), k _ _ (List.getElem_mem hj) S1 kp⟩
def t_begun (K : PySem.W.Frag) : TS := tSeq (tAsg (tLc (iList K (tVar 0)) (gName 2) (tTest (tOp qGe (tVar 2) (tOp qPow (tC (.int 10)) (tC (.int 18))))) (tOp qSub (tVar 2) (tOp qPow (tC (.int 10)) (tC (.int 18)))) [2]) (gName 1))
  (tRet (tDisp ((tC (.str "great"), tVar 1) :: (tC (.str "cells"), tCB (qListOf K) (tCons (tVar 0) (tNil))) :: (tC (.str "rest"), tC (.int 0)) :: (tC (.str "turn"), tC (.int 0)) :: [])))
theorem merge_st {g c : Addr} : mergeK [] [((.inr "great" : Key), V.ref g), (.inr "cells", .ref c), (.inr "rest", .int 0), (.inr "turn", .int 0)] = stK g c 0 0 := by
  have n1 : ¬ ("great" : Str) = "cells" := by decide +kernel
  have n2 : ¬ ("great" : Str) = "rest" := by decide +kernel
  have n3 : ¬ ("cells" : Str) = "rest" := by decide +kernel
  have n4 : ¬ ("great" : Str) = "turn" := by decide +kernel
  have n5 : ¬ ("cells" : Str) = "turn" := by decide +kernel
  have n6 : ¬ ("rest" : Str) = "turn" := by decide +kernel
  simp [mergeK, putK, stK, n1, n2, n3, n4, n5, n6]
theorem pure_begun {K : PySem.W.Frag} (vs : List V) (H : Hp) (Q : VK) (E : XK) (h : spBegun K vs H Q E) : t_begun K { nx := fun _ H' => Q .non H', rt := Q } (start ["script", "wide", "cell"] vs) H := by
  obtain ⟨a, ns, rfl, hL, hlen, k⟩ := h
  refine ⟨_, rfl, a, rfl, ⟨_, hL⟩, fun D hD => lc_list (K := K) (a := a) (xs := ns.map V.int) (fun i H2 => ∃ zs : List Int, H2 D = some (.lst (zs.map V.int)) ∧ zs.length ≤ i ∧ Same H H2)
    ⟨[], upd_same, Nat.le_refl _, fun b o e => by rw [upd_ne (ne_of_none e hD)]; exact e⟩ (fun i H2 _ ⟨_, _, _, s⟩ => Same.seq s hL) ?_ ?_⟩
  · rintro i x H2 hi ⟨zs, h1, h2, s⟩
    have hil := (List.getElem?_eq_some_iff.mp hi).1
    rw [List.length_map] at hil
    obtain ⟨z, _, rfl⟩ := ints_at hi
    refine ⟨rfl, _, rfl, 10, 18, rfl, rfl, ⟨by decide, by decide, by decide⟩, z, _, rfl, rfl, _, rfl, ?_⟩
    refine ite2 (fun _ => ?_) (fun _ => ⟨zs, h1, by omega, s⟩)
    refine ⟨_, rfl, 10, 18, rfl, rfl, ⟨by decide, by decide, by decide⟩, z, _, rfl, rfl, _, h1, small1000 (by rw [List.length_map]; omega), ?_⟩
    refine ⟨zs ++ [z - 10 ^ (18 : Int).toNat], by rw [upd_same, List.map_append]; rfl, by rw [List.length_append, List.length_singleton]; omega, fun b o e => ?_⟩
    rw [upd_ne (ne_of_none e hD)]
    exact s b o e
  · rintro H2 ⟨zs, h1, h2, s⟩
    -- return {..}
    refine fun p hp => ?_
    have npD : p ≠ D := fun e => by rw [e] at hp; rw [h1] at hp; cases hp
    refine ⟨_, rfl, _, rfl, a, _, rfl, .inl (Same.seq (fun b o e => by rw [upd_ne (ne_of_none e hp)]; exact e) (Same.seq s hL)), fun l hl => ?_⟩
    have nlp : p ≠ l := fun e => by rw [← e, upd_same] at hl; cases hl
    have hl2 : H2 l = none := by rw [upd_ne nlp.symm] at hl; exact hl
    have nlD : D ≠ l := ne_of_none h1 hl2
    refine ⟨by rw [upd_ne nlp, upd_same], [((.inr "great" : Key), V.ref D), (.inr "cells", .ref l), (.inr "rest", .int 0), (.inr "turn", .int 0)], rfl, by show 4 ≤ 15; decide, ?_⟩
    rw [merge_st]
    refine k p D l _ ⟨0, 0, zs, ns, upd_same, ?_, ?_, nlD, by decide, by decide⟩ (fun x o e => ?_) ?_ hD ?_
    · rw [upd_ne npD.symm, upd_ne nlD, upd_ne npD.symm]; exact h1
    · rw [upd_ne nlp.symm, upd_same]
    · have e2 := s x o e
      rw [upd_ne (ne_of_none e2 hp), upd_ne (ne_of_none e2 hl2), upd_ne (ne_of_none e2 hp)]
      exact e2
    · exact Same.free s hp
    · exact Same.free s hl2
end SR
set_option Elab.async false
set_option linter.all false
set_option maxRecDepth 100000
set_option maxHeartbeats 4000000
namespace SR
open PySem PySem.Spec PyProof.Rows L2
abbrev Gs (A : Around) : Prop := A.guards = some []
/-- as FnOk, but promised only under Gs -/
structure FnG (P : Program) (w : World) (K : PySem.W.Frag) (mg : Str → Option Value) (base : Heap) (CX : CXT) (k : Nat) (f : Addr) (fd : FuncData) (ps : List Str) (sp : Sp) : Prop where
  size : ∀ vs H Q E, sp vs H Q E → vs.length = ps.length
  goes : ∀ (A : Around) (out : List Env) (s : Shared) (H : Hp) (gv : Args) (us : List Value) (vs : List V) (Q : VK) (E : XK), Gs A → Room k A → Env0 P w K mg base A out s H → BindsTo s fd gv (ps.zip us) → Vals vs us → sp vs H Q E →
    codeAny (model P w) A (.call (.ref f) gv) (CR CX out P w H s Q E) s
section
variable {X : Cx} {CX : CXT} {k : Nat} {f : Addr} {fd : FuncData} {ps : List Str} {sp : Sp} {dvs : List V} {ds : List Value} {E : XK} {x : Str} {p pos : Pos} {e : Expr} {es : List Expr} {t : TA}
theorem FnG.at (F : FnG X.prog X.w X.K X.mg X.base CX k f fd ps sp) (hgs : Gs X.A) {pins : List (Addr × Obj)} {σ : L2.St} {H : Hp} {s : Shared} {Q : VK} {us : List Value} {vs : List V} (hr : Room k X.A) (hb : Binds X.K fd ps ds) (hd : Vals dvs ds) (hx : Passes CX X E)
    (I : Inv X pins σ H s) (r : Vals vs us) (h : sp (vs ++ dvs) H Q E) : wpAny (model X.prog X.w) X.A (call (.ref f) us) (EP X pins σ Q) X.xe s := by
  have both : Vals (vs ++ dvs) (us ++ ds) := r.append hd
  have lens : (us ++ ds).length = ps.length := both.length.symm.trans (F.size _ _ _ _ h)
  refine wpAny_call (codeAny_mono (F.goes _ _ s H _ _ _ Q E hgs hr I.env0 (hb s us I.kIn lens) both h) fun out s2 hq => ?_)
  match out, hq with
  | .error e, hq => exact hx _ _ _ _ e s2 I hq
  | .ok (.ret u), hq => exact I.after hq
end
section
variable {P : Program} {w : World} {K : PySem.W.Frag} {mg : Str → Option Value} {base : Heap} {x qual : Str} {params : Arguments} {body : List Stmt} {scope : Scope} {dvs : List V} {kws : List (Str × V)} {f : Addr} {fd : FuncData}
/-- a def's body under Gs: by FnOk of the very def, whose context is given -/
theorem okG {CX : CXT} {N ps : List Str} {k : Nat} {sp : Sp} (F : FunD K x qual params body scope dvs kws f fd) (S : FnScope N ps scope) (len : ∀ vs H Q E, sp vs H Q E → vs.length = ps.length)
    (hbody : ∀ (cdv : Value) (A : Around) (outer : List Env) (s : Shared) (H : Hp) (vs : List V) (Q : VK) (E : XK), Gs A → Room k (A.deeper (envOfC qual scope s.heap.objs.size f cdv)) → sp vs H Q E →
      ∃ t, PSs (cxOf CX P w K mg base N qual scope f cdv A outer s H E) body t ∧ t { nx := fun _ H' => Q .non H', rt := Q } (start N vs) H) : FnG P w K mg base CX (k + 1) f fd ps sp := by
  refine ⟨len, fun A out s H gv us vs Q E hgs hr e0 hb hv hs => ?_⟩
  obtain ⟨oc, od, dV, kV, doc, pm, an, cdv, ct, osl, rfl, lk, hcd, _, _⟩ := F.ex
  have hl := len _ _ _ _ hs
  have old : ∀ b o, base.get? b = some o → s.heap.get? b = some o := fun b o z => (e0.bs b o z).1
  have KX : K.In s.heap := e0.mod.kin.keeps old
  refine codeAny_call_function hr.depth (KX _ _ lk) rfl S.co S.gen rfl (PySem.W.codeRec_of KX hcd) (hb _ _ _ _ ?_)
  have params_known : ∀ y ∈ ps.zip us, scope.names.lookup y.1 = some .local ∨ (scope.names.lookup y.1 = some .cell ∧ ((cellsFrom (s.heap.objs.size + 1) scope.names []).lookup y.1).isSome = true) := by
    rintro ⟨n, v⟩ hy
    exact (S.par n (List.of_mem_zip hy).1).imp id fun q => ⟨q, PySem.W.cellsFrom_some _ _ _ (.inl q)⟩
  refine wpAny_newFunctionEnv_cells S.kind params_known fun env he s1 z => ?_
  subst he
  refine ⟨(e0.mod.nolimit.keeps old).keeps z.toInCall.keep, codeAny_func ?_⟩
  obtain ⟨t, ht, hq⟩ := hbody cdv A out s H vs Q E hgs (hr.deeper _) hs
  refine wpAny_mono (ht.run [] s1 (start N vs) H _ (inv_start S hr.hd e0 hl hv z) hq) (fun fl s' hf => ?_) fun _ _ hf => hf
  match fl, hf with
  | .ret u, ⟨v, _, H', J, rv, q⟩ => exact ⟨v, H', J.os, J.bare, J.base, J.hok, rv, q⟩
  | .next, ⟨_, H', J, q⟩ => exact ⟨.non, H', J.os, J.bare, J.base, J.hok, rfl, q⟩
  | .brk, ⟨_, _, _, q⟩ => exact q.elim
  | .cont, ⟨_, _, _, q⟩ => exact q.elim
end
def dRepr : PyData → Str
  | .none => "None"
  | .bool b => if b then "True" else "False"
  | .int i => toString i
  | .str x => reprText x
  | d => d.shown
section
variable {X : Cx}
/-- repr(x), x data that can be shown -/
def rRepr (K : PySem.W.Frag) : List V → Hp → VK → Prop := fun xs H Q => ∃ x d, xs = [x] ∧ Dp K H x d ∧ d.showable = true ∧ d.depth ≤ 60 ∧ (dRepr d).length ≤ sizeLine ∧ Q (.str (dRepr d)) H
mutual
theorem dp_nodict {K : PySem.W.Frag} {H : Hp} : ∀ (d : PyData) (v : V), Dp K H v d → d.hasDict = false
  | .none, _, _ => rfl
  | .bool _, _, _ => rfl
  | .int _, _, _ => rfl
  | .str _, _, _ => rfl
  | .list ds, _, h => by
    cases h with
    | lst _ h2 => exact dp_nodicts ds _ h2
  | .tuple ds, _, h => by
    cases h with
    | tup _ h2 => exact dp_nodicts ds _ h2
  | .dict _, _, h => nomatch h
theorem dp_nodicts {K : PySem.W.Frag} {H : Hp} : ∀ (ds : List PyData) (vs : List V), DpAll K H vs ds → PyData.hasDictAll ds = false
  | [], _, _ => rfl
  | d :: ds, _, h => by
    cases h with
    | cons h1 h2 =>
      show (PyData.hasDict d || PyData.hasDictAll ds) = false
      rw [dp_nodict d _ h1, dp_nodicts ds _ h2] <;> rfl
end
theorem call_reprD (hgs : Gs X.A) (hu : X.A.units + 64 < cLine) : CallR X (.builtin "repr") (rRepr X.K) := by
  intro pins s σ H xs us Q I r h
  obtain ⟨x, d, rfl, hd, hsh, hdep, hz, q⟩ := h
  obtain ⟨u, rfl, ru⟩ := vals1 r
  cases hd with
  | non => cases (show u = Value.none from ru); exact PySem.P.repr_of_none ⟨.str _, H, I.tok _, ⟨_, rfl⟩, q⟩
  | bl b => cases (show u = Value.bool b from ru); exact PySem.P.repr_of_bool ⟨.str _, H, I.tok _, ⟨_, rfl⟩, q⟩
  | int i =>
    obtain ⟨t, rfl⟩ := (show ∃ t, u = Value.int i t from ru)
    exact PySem.P.repr_of_int (of_decide_eq_true hsh) ⟨.str _, H, I.tok _, ⟨_, rfl⟩, q⟩
  | str y =>
    obtain ⟨t, rfl⟩ := (show ∃ t, u = Value.str y t from ru)
    exact PySem.P.repr_of_str ⟨.str _, H, I.tok _, ⟨_, rfl⟩, q⟩ hz
  | @lst a xs ds h1 h2 =>
    have hd : Dp X.K H (.ref a) (.list ds) := .lst h1 h2
    obtain ⟨as, rd⟩ := Dp.reads I _ _ _ hd ru
    cases (show u = Value.ref a from ru)
    exact repr_of_reads' rd hsh (fun z => by rw [dp_nodict _ _ hd] at z; cases z) hgs (by omega) (fun _ _ z => z) (fun h' u' tk hk => ⟨.str _, H, I.kept hk, ⟨_, rfl⟩, q⟩) hz
  | @tup a xs ds h1 h2 =>
    have hd : Dp X.K H (.ref a) (.tuple ds) := .tup h1 h2
    obtain ⟨as, rd⟩ := Dp.reads I _ _ _ hd ru
    cases (show u = Value.ref a from ru)
    exact repr_of_reads' rd hsh (fun z => by rw [dp_nodict _ _ hd] at z; cases z) hgs (by omega) (fun _ _ z => z) (fun h' u' tk hk => ⟨.str _, H, I.kept hk, ⟨_, rfl⟩, q⟩) hz
end
theorem law_callG {P : Program} {w : World} {K : PySem.W.Frag} {mg mb : Str → Option Value} {CX : CXT} {k : Nat} {fa a : Addr} {fd : FuncData} {x : Str} {sp : Sp} {s : Shared} {vs : List Value} {ns : List Int}
    (KX : K.In s.heap) (hns : s.heap.Ns mainGlobals mg) (hb : s.heap.Ns builtinsNs mb) (hbb : ∀ x : Str, x ≠ "__name__" → mb x = bootBuiltins x) (hlim : s.heap.NoLimit) (hg : s.gens = #[])
    (ha : s.heap.get? a = some { cls := .type "list", data := .seq vs.toArray }) (hi : IntsAre vs ns) (hl : ns.length ≤ sizeLine) (hr : Room k callerA)
    (F : ∀ base : Heap, K.In base → base.Ns mainGlobals mg → FnG P w K mg base CX k fa fd [x] sp) (hbind : ∀ (s : Shared) (u : Value), BindsTo s fd ⟨[u], []⟩ [(x, u)])
    (hsp : ∀ H : Hp, Only H → SqL K H a (ns.map V.int) → sp [.ref a] H (fun v _ => v = .bl true) fun _ _ _ => False)
    (hCX : ∀ H e s', CX [] H s (fun _ _ _ => False) e s' → False) :
    codeAny (model P w) callerA (.call (.ref fa) ⟨[.ref a], []⟩) (fun r s' => r = .ok (.ret (.bool true)) ∧ OldK s.heap s'.heap ∧ s'.os = s.os ∧ AllBare s'.gens) s := by
  have rv := vals_ints hi
  -- H tracks the script at most; what it does not track is the base
  have run_at : ∀ H : Hp, Only H → SqL K H a (ns.map V.int) → HOk P w H s.heap → (∀ b, H b ≠ none → b = a ∧ K.lookup a = none) →
      codeAny (model P w) callerA (.call (.ref fa) ⟨[.ref a], []⟩) (fun r s' => r = .ok (.ret (.bool true)) ∧ OldK s.heap s'.heap ∧ s'.os = s.os ∧ AllBare s'.gens) s := by
    intro H hO hS hok hA
    have untr : ∀ {b : Addr} {o : Obj}, s.heap.get? b = some o → (b = a → False) → (hidT s.heap H).get? b = some o := fun {b o} z n => hidT_get z (by
      by_cases q : H b = none
      · exact q
      · exact (n (hA b q).1).elim)
    have ns_ : ∀ {b : Addr} {m : Str → Option Value}, s.heap.Ns b m → (hidT s.heap H).Ns b m := by
      rintro b m ⟨o, es, ep, z, dz, rest⟩
      refine ⟨o, es, ep, untr z (fun q => ?_), dz, rest⟩
      rw [q, ha] at z
      cases z
      cases dz
    have KB : K.In (hidT s.heap H) := fun b o z => by
      by_cases q : H b = none
      · exact hidT_get (KX b o z) q
      · obtain ⟨q1, q2⟩ := hA b q
        rw [q1, q2] at z
        cases z
    obtain ⟨mc, l1, l2⟩ := hlim
    have e0 : Env0 P w K mg (hidT s.heap H) callerA [] s H :=
      ⟨rfl, ⟨KB, ns_ hns, ⟨mb, ns_ hb, hbb⟩, ⟨mc, ns_ l1, l2⟩⟩, fun b o z => of_hidT z, Nat.le_of_eq (hidT_size _ _), trivial, fun b z => (List.not_mem_nil z).elim, hok, .of_eq hg⟩
    refine codeAny_mono ((F _ KB (ns_ hns)).goes callerA [] s H ⟨[.ref a], []⟩ [.ref a] [.ref a] _ _ rfl hr e0 (hbind s (.ref a)) (.cons rfl .nil) (hsp H hO hS)) fun r s' h => ?_
    match r, h with
    | .error e, h => exact (hCX H e s' h).elim
    | .ok (.ret u), ⟨v, H', os, bare, un, hok', rel, isT⟩ =>
      cases (show v = V.bl true from isT)
      cases (show u = Value.bool true from rel)
      refine ⟨rfl, OldK.of_keep fun b o z => ?_, os, bare⟩
      rcases hO b with q | ⟨ob, xs, q⟩
      · exact un.keep b o z q (List.not_mem_nil) (List.not_mem_nil)
      · have z1 := (hok b _ q).1
        have z2 := (hok' b _ (un.frzs b ob _ q)).1
        exact z2.trans (z1.symm.trans z)
  have lenV := hi.length
  by_cases hk : K.lookup a = none
  · refine run_at (fun b => if b = a then some (.frz { cls := .type "list", data := .seq vs.toArray } (.lst (ns.map V.int))) else none) (fun b => ?_) (.inl (.inr ⟨_, if_pos rfl⟩)) (fun b u z => ?_) (fun b z => ?_)
    · by_cases q : b = a
      · exact .inr ⟨_, _, if_pos q⟩
      · exact .inl (if_neg q)
    · by_cases q : b = a
      · subst q
        cases (if_pos rfl).symm.trans z
        exact ⟨ha, by rw [List.length_map]; exact hl, vs, _, rv, ha⟩
      · cases (if_neg q).symm.trans z
    · by_cases q : b = a
      · exact ⟨q, hk⟩
      · exact (z (if_neg q)).elim
  · obtain ⟨o, ho⟩ := Option.ne_none_iff_exists'.mp hk
    cases ha.symm.trans (KX a o ho)
    exact run_at (fun _ => none) (fun _ => .inl rfl) (.inr ⟨_, vs.toArray, _, ho, rfl, rfl, rfl, by rw [List.size_toArray, lenV]; exact hl, by simpa using rv⟩) (fun b u z => nomatch (show (none : Option HO) = some u from z)) fun b z => absurd rfl z
theorem walk_ofG {l : PySem.W.OpenLaw} {n k : Nat} {q : Program} {loose : List Str} {XP : (Str → Option Value) → Heap → Prop} {YP : World → Heap → Prop} {d : DefRec} {CX : CXT} {x : Str}
    (hn : l.most = some n) (hn2 : n ≤ sizeLine) (hdf : d.params.defaults = []) (hr : Room k callerA)
    (F : ∀ (w : World) (mg : Str → Option Value) (fa : Addr) (h : Heap), YP w h → h.Ns mainGlobals mg → mg d.name = some (.ref fa) →
      ∃ (K : PySem.W.Frag) (fd : FuncData) (sp : Sp), K.In h ∧ (∀ (s : Shared) (u : Value), BindsTo s fd ⟨[u], []⟩ [(x, u)]) ∧
        (∀ (H : Hp) (a : Addr) (ns : List Int), ns.length ≤ n → Only H → SqL K H a (ns.map V.int) → sp [.ref a] H (fun v _ => v = .bl true) fun _ _ _ => False) ∧
        ∀ base : Heap, K.In base → base.Ns mainGlobals mg → FnG l.prog w K mg base CX k fa fd [x] sp)
    (hCX : ∀ (H : Hp) (s : Shared) (e : Value) (s' : Shared), CX [] H s (fun _ _ _ => False) e s' → False) :
    PySem.W.WalkO q loose XP YP l.row.toRowW d [] (fun f vs => PySem.call f vs) :=
  Att.attach_call hn hdf fun w s₀ s₁ mg mb fa o pm cd doc a vs ns G Y ho hd hcd hmg hobj hints hlen hg => by
    obtain ⟨K, fd, sp, KX, hb, hsp, hF⟩ := F w mg fa _ Y G.T.g hmg
    exact law_callG KX G.T.g G.T.b G.T.builtins G.T.nolimit hg hobj hints (Nat.le_trans hlen hn2) hr hF hb (fun H hO hS => hsp H a ns hlen hO hS) fun H e s' => hCX H s₁ e s'
end SR
set_option Elab.async false
set_option linter.all false
set_option maxRecDepth 100000
set_option maxHeartbeats 4000000
namespace SR
open PySem PySem.Spec PyProof.Rows L2
/-- X, with one more object known -/
abbrev keepX (X : Cx) (pn : List (Addr × Obj)) : Cx := { X with pn := pn }
section
variable {X : Cx} {pins : List (Addr × Obj)} {σ : L2.St} {H : Hp} {s : Shared}
theorem ok_keep {X : Cx} (ok : X.Ok) (pn : List (Addr × Obj)) : (keepX X pn).Ok :=
  ⟨ok.mod, ok.kind, ok.glob, ok.blt, ok.above, ok.inj, ok.has, ok.cab, ok.hd, ok.frames, ok.stk, ok.exf, ok.bs, ok.bsz, ok.noex, ok.exfs, ok.funs, ok.frf⟩
theorem inv_keep {a : Addr} {q : List (Addr × Obj)} (I : Inv (X.suite a q) [] σ H s) (ok : X.Ok) : Inv (keepX X q) [] σ H s :=
  ⟨ok_keep ok _, I.os, I.bare, I.base, I.loc, I.cell, I.free, I.freeC, I.pin, I.hok, I.len⟩
end
section
variable {X : Cx} {CX : CXT} {k m : Nat} {f : Addr} {fd : FuncData} {ps ks : List Str} {sp : Sp} {E : L2.St → XK} {x : Str} {p pos : Pos} {e : Expr} {es : List Expr} {kws : List Keyword} {t tk : TA} {g : List Value → List Value → List Value} {gV : List V → List V → List V}
theorem run_kw (F : FnOk X.prog X.w X.K X.mg X.base CX k f fd ps sp) (hr : Room k X.A) (hb : KBn X.K fd ps m ks g gV) {pins : List (Addr × Obj)} {σ : L2.St} {H : Hp} {s : Shared} {Q : VK} {us ws : List Value} {vs zs : List V} (hx : PassesAt CX X σ (E σ))
    (I : Inv X pins σ H s) (r : Vals vs us) (rz : Vals zs ws) (l1 : vs.length = m) (l2 : zs.length = ks.length) (h : sp (gV vs zs) H Q (E σ)) : wpAny (model X.prog X.w) X.A (call (.ref f) us (ks.zip ws)) (EP X pins σ Q) X.xe s := by
  refine wpAny_call (codeAny_mono (F.run _ _ s H _ _ _ Q _ hr I.env0 (hb.to s us ws I.kIn (r.length.symm.trans l1) (rz.length.symm.trans l2)) (hb.rel r rz) h) fun out s2 hq => ?_)
  match out, hq with
  | .error e, hq => exact hx _ _ _ e s2 I hq
  | .ok (.ret u), hq => exact I.after hq
/-- f(k = v, ..) | f(e, .., k = v, ..); n: how many keywords -/
def tKw (n : Nat) (sp : Sp) (gV : List V → List V → List V) (E : L2.St → XK) (t tk : TA) : TE := fun σ H Q => t σ H fun vs H1 => tk σ H1 fun zs H2 => zs.length = n ∧ sp (gV vs zs) H2 Q (E σ)
theorem pe_kw0 (F : FnOk X.prog X.w X.K X.mg X.base CX k f fd ps sp) (hr : Room k X.A) (hg : Gl X x) (hm : X.mg x = some (.ref f)) (hk : PySem.W.keepIn X.K (.ref f) = true) (hb : KBn X.K fd ps 0 ks g gV) (hx : ∀ σ, PassesAt CX X σ (E σ)) (hkw : PK X kws tk)
    (hall : (backToKw pos (keywordEach kws X.env)).all (·.1.isSome) = true := by rfl) (hks : (backToKw pos (keywordEach kws X.env)).filterMap (·.1) = ks := by rfl) (hdb : (x == ("__debug__" : Str)) = false := by decide)
    (hpl : ((backTo pos (starEach [] X.env)).any (·.1) || (backToKw pos (keywordEach kws X.env)).any (·.1.isNone)) = false := by rfl) :
    PE X (.Call (.Name x p) [] kws pos) (tKw ks.length sp gV E tNil tk) := by
  refine ⟨fun pins s σ H Q I h => wpAny_Call_Name_kw (ld_glob I hg hm (PySem.W.callWith_KW0 (h₀ := X.base) I.ok.mod.kin hk hall ?_ hpl) hdb)⟩
  refine thn (hkw.run pos pins s σ H _ I h) fun ws s2 ⟨zs, H2, I2, rz, l2, q2⟩ => ⟨I2.kIn, ?_⟩
  rw [hks]
  exact run_kw (us := []) (vs := []) F hr hb (hx σ) I2 .nil rz rfl l2 q2
end
section
variable {X : Cx}
def rSumT (K : PySem.W.Frag) : List V → Hp → VK → Prop := fun vs H Q => ∃ (a : Addr) (ns : List Int), vs = [V.ref a] ∧ SqT K H a (ns.map V.int) ∧ Q (.int ns.sum) H
theorem cr_sumT (hc : X.calm = true) : CallR X (.builtin "sum") (rSumT X.K) := by
  intro pins s σ H vs us Q I r h
  obtain ⟨a, ns, rfl, hs, q⟩ := h
  obtain ⟨its, rv, ht, _⟩ := I.tuple hs
  rw [Vals.ref1 r]
  have hi := rv.ints
  obtain ⟨xs, e⟩ := hi.allInts.items
  have hn : numsOf (intItems xs).toList = ns := by rw [← e]; exact hi.numsOf
  rw [nums_intItems] at hn
  rw [e] at ht
  have ht' : s.heap.IsTuple a (intItems xs) := ht
  have hlt : a < s.heap.objs.size := by obtain ⟨_, z, _⟩ := ht; exact Heap.lt_size z
  refine PySem.call_sum_walkG (wpAny_pyIter_tuple ht' ?_)
  refine ⟨_, _, _, _, _, _, numAt xs, rfl, Walks.tuple (A := X.A.in1) (I.ok.hd hc) _ a (Nat.ne_of_lt hlt) (intItems xs), ⟨⟨_, Heap.get?_push_size _ rfl, rfl, rfl⟩, ht'.push _⟩, fun b hb => ?_, fun _ _ => intItems_at, fun h' tk t' hk => ?_⟩
  · show b < (s.heap.push _).objs.size
    rw [Heap.size_push]
    rcases List.mem_cons.mp hb with rfl | hb
    · exact Nat.lt_succ_self _
    · cases List.mem_singleton.mp hb
      exact Nat.lt_succ_of_lt hlt
  · refine ⟨.int ns.sum, H, I.kept fun b o z => ?_, ⟨t', ?_⟩, q⟩
    · exact hk b o (fun hm => absurd (Heap.lt_size z) ((List.mem_singleton.mp hm) ▸ Nat.lt_irrefl _)) (Heap.get?_push_of_some _ z)
    · have e2 : (intItems xs).size = xs.size := by simp [intItems]
      rw [e2, preSum_eq, List.take_of_length_le (by simp), hn]
end
end SR
set_option Elab.async false
set_option linter.all false
set_option maxRecDepth 100000
set_option maxHeartbeats 4000000
namespace SR
open PySem L2
/-- a value of any kind, with its class -/
inductive AnyT (K : PySem.W.Frag) (H : Hp) : V → String → Prop where
  | non : AnyT K H .non "NoneType"
  | bl (b : Bool) : AnyT K H (.bl b) "bool"
  | int (i : Int) : AnyT K H (.int i) "int"
  | str (x : Str) : AnyT K H (.str x) "str"
  | lst {a : Addr} {xs : List V} (h : SqL K H a xs) : AnyT K H (.ref a) "list"
  | tup {a : Addr} {xs : List V} (h : SqT K H a xs) : AnyT K H (.ref a) "tuple"
  | dct {a : Addr} {kvs : List (Key × V)} (h : Rd H a (.dK kvs)) : AnyT K H (.ref a) "dict"
theorem AnyT.ty {K : PySem.W.Frag} {H : Hp} {v : V} {t : String} (h : AnyT K H v t) : TyX K H v (.type t) := by
  cases h with
  | non => exact .base .non
  | bl b => exact .base (.bl b)
  | int i => exact .base (.int i)
  | str x => exact .base (.str x)
  | lst h =>
    rcases h with (h | ⟨o, h⟩) | ⟨o, its, n, hk, hc, _⟩
    · exact .base (.lst h)
    · exact .base (.frz h)
    · exact .kList hk hc
  | tup h =>
    rcases h with (h | ⟨o, h⟩) | ⟨o, its, n, hk, hc, _⟩
    · exact .base (.tup h)
    · exact .fTuple h
    · exact .kTuple hk hc
  | dct h =>
    rcases h with h | ⟨o, h⟩
    · exact .base (.dK h)
    · exact .fDict h
theorem AnyT.same {K : PySem.W.Frag} {H H' : Hp} {v : V} {t : String} (e : Same H H') (h : AnyT K H v t) : AnyT K H' v t := by
  cases h with
  | non => exact .non
  | bl b => exact .bl b
  | int i => exact .int i
  | str x => exact .str x
  | lst h => exact .lst (SqL.same e h)
  | tup h => exact .tup (SqT.same e h)
  | dct h =>
    rcases h with h | ⟨o, h⟩
    · exact .dct (.inl (e _ _ h))
    · exact .dct (.inr ⟨o, e _ _ h⟩)
def isI : V → Bool
  | .int _ => true
  | _ => false
/-- which class a value's class is, asked of a built-in one -/
theorem AnyT.kit {K : PySem.W.Frag} {H : Hp} {v : V} {t : String} (h : AnyT K H v t) :
    PySem.W.kitOne K (.type t) (.type "int") = some (isI v || t == "bool") ∧ PySem.W.kitOne K (.type t) (.type "bool") = some (t == "bool") ∧
    PySem.W.kitOne K (.type t) (.type "tuple") = some (t == "tuple") ∧ PySem.W.kitOne K (.type t) (.type "list") = some (t == "list") ∧ PySem.W.kitOne K (.type t) (.type "str") = some (t == "str") ∧ PySem.W.kitOne K (.type t) (.type "dict") = some (t == "dict") := by
  cases h with
  | non => exact ⟨kit_ty (show kitB "NoneType" "int" = some false by decide +kernel), kit_ty (by decide +kernel), kit_ty (by decide +kernel), kit_ty (by decide +kernel), kit_ty (by decide +kernel), kit_ty (by decide +kernel)⟩
  | bl b => exact ⟨kit_ty (show kitB "bool" "int" = some true by decide +kernel), kit_ty (by decide +kernel), kit_ty (by decide +kernel), kit_ty (by decide +kernel), kit_ty (by decide +kernel), kit_ty (by decide +kernel)⟩
  | int i => exact ⟨kit_ty (show kitB "int" "int" = some true by decide +kernel), kit_ty (by decide +kernel), kit_ty (by decide +kernel), kit_ty (by decide +kernel), kit_ty (by decide +kernel), kit_ty (by decide +kernel)⟩
  | str x => exact ⟨kit_ty (show kitB "str" "int" = some false by decide +kernel), kit_ty (by decide +kernel), kit_ty (by decide +kernel), kit_ty (by decide +kernel), kit_ty (by decide +kernel), kit_ty (by decide +kernel)⟩
  | lst h => exact ⟨kit_ty (show kitB "list" "int" = some false by decide +kernel), kit_ty (by decide +kernel), kit_ty (by decide +kernel), kit_ty (by decide +kernel), kit_ty (by decide +kernel), kit_ty (by decide +kernel)⟩
  | tup h => exact ⟨kit_ty (show kitB "tuple" "int" = some false by decide +kernel), kit_ty (by decide +kernel), kit_ty (by decide +kernel), kit_ty (by decide +kernel), kit_ty (by decide +kernel), kit_ty (by decide +kernel)⟩
  | dct h => exact ⟨kit_ty (show kitB "dict" "int" = some false by decide +kernel), kit_ty (by decide +kernel), kit_ty (by decide +kernel), kit_ty (by decide +kernel), kit_ty (by decide +kernel), kit_ty (by decide +kernel)⟩
theorem AnyT.notB {K : PySem.W.Frag} {H : Hp} {v : V} {t : String} (h : AnyT K H v t) (hi : isI v = true) : (t == "bool") = false := by
  cases h <;> first | rfl | (cases hi)
def spIsInt (K : PySem.W.Frag) : Sp := fun vs H Q _ => ∃ v t, vs = [v] ∧ AnyT K H v t ∧ Q (.bl (isI v)) H
def t_is_integer (K : PySem.W.Frag) : TS := tRet (tAndV (tCB (rIsi K) (tCons (tVar 0) (tCons (tC (.ty "int")) tNil))) (tNotV (tCB (rIsi K) (tCons (tVar 0) (tCons (tC (.ty "bool")) tNil)))))
theorem pure_is_integer {K : PySem.W.Frag} (vs : List V) (H : Hp) (Q : VK) (E : XK) (h : spIsInt K vs H Q E) : t_is_integer K { nx := fun _ H' => Q .non H', rt := Q } (start ["value"] vs) H := by
  obtain ⟨v, t, rfl, hv, q⟩ := h
  obtain ⟨k1, k2, _⟩ := hv.kit
  refine ⟨_, rfl, _, _, _, _, _, rfl, .ty _, hv.ty, k1, _, rfl, ?_⟩
  cases hi : isI v with
  | true =>
    refine iteT ⟨_, rfl, _, _, _, _, _, rfl, .ty _, hv.ty, k2, _, rfl, ?_⟩
    rw [hv.notB hi]
    rw [hi] at q
    exact q
  | false =>
    rw [hi] at q
    cases hb : t == "bool" with
    | true =>
      refine iteT ⟨_, rfl, _, _, _, _, _, rfl, .ty _, hv.ty, k2, _, rfl, ?_⟩
      rw [hb]
      exact q
    | false => exact iteF q
/-- an integer from lo to hi -/
def btw (lo hi : Int) : V → Bool
  | .int i => decide (lo ≤ i) && decide (i ≤ hi)
  | _ => false
def spBetween (K : PySem.W.Frag) : Sp := fun vs H Q _ => ∃ v t lo hi, vs = [v, lo, hi] ∧ AnyT K H v t ∧ (isI v = true → ∃ i j, lo = .int i ∧ hi = .int j ∧ Q (.bl (btw i j v)) H) ∧ (isI v = false → Q (.bl false) H)
def t_is_between (K : PySem.W.Frag) : TS := tRet (tAndV (tCall (spIsInt K) [] E0 (tCons (tVar 0) (tNil))) (tChain qLe qLe (tVar 1) (tVar 0) (tVar 2)))
theorem pure_is_between {K : PySem.W.Frag} (vs : List V) (H : Hp) (Q : VK) (E : XK) (h : spBetween K vs H Q E) : t_is_between K { nx := fun _ H' => Q .non H', rt := Q } (start ["value", "low", "high"] vs) H := by
  obtain ⟨v, t, lo, hi, rfl, hv, q, q'⟩ := h
  refine ⟨_, rfl, v, t, rfl, hv, _, rfl, ?_⟩
  cases e : isI v with
  | false => exact iteF (q' e)
  | true =>
    obtain ⟨i, j, rfl, rfl, q2⟩ := q e
    cases v with
    | int z =>
      refine iteT ⟨_, rfl, _, rfl, i, z, rfl, rfl, _, rfl, ?_⟩
      have q2 : Q (.bl (decide (i ≤ z) && decide (z ≤ j))) H := q2
      by_cases h1 : i ≤ z
      · rw [decide_eq_true h1] at q2 ⊢
        exact iteT ⟨_, rfl, z, j, rfl, rfl, q2⟩
      · rw [decide_eq_false h1] at q2 ⊢
        exact iteF q2
    | _ => cases e
def spCapacity (K : PySem.W.Frag) : Sp := fun vs H Q _ => ∃ v t, vs = [v] ∧ AnyT K H v t ∧ Q (.bl (btw 1 99 v)) H
def t_is_capacity (K : PySem.W.Frag) : TS := tRet (tCall (spBetween K) [] E0 (tCons (tVar 0) (tCons (tC (.int 1)) (tCons (tC (.int 99)) (tNil)))))
theorem btw_not {v : V} (h : isI v = false) (i j : Int) : btw i j v = false := by
  cases v <;> first | rfl | (cases h)
theorem pure_is_capacity {K : PySem.W.Frag} (vs : List V) (H : Hp) (Q : VK) (E : XK) (h : spCapacity K vs H Q E) : t_is_capacity K { nx := fun _ H' => Q .non H', rt := Q } (start ["value"] vs) H := by
  obtain ⟨v, t, rfl, hv, q⟩ := h
  exact ⟨_, rfl, v, t, _, _, rfl, hv, fun _ => ⟨1, 99, rfl, rfl, q⟩, fun e => by rw [btw_not e] at q; exact q⟩
end SR
set_option Elab.async false
set_option linter.all false
set_option maxRecDepth 100000
set_option maxHeartbeats 4000000
namespace SR
open PySem L2
/-- the way out of a def that raises: an error of the class, without a dict of its own -/
def tOut (C : Value) (E : XK) : TS := fun _ _ H => E C none H
/-- what a carrier of capacity c with load u leaves of a box of capacity d with x items: the count, the load -/
def stC (c u d x : Int) : Int := x - min (c - u) x + min u (d - x)
def stL (c u d x : Int) : Int := u + min (c - u) x - min u (d - x)
def okN (c u d x : Int) : Prop := (1 ≤ c ∧ c ≤ 99) ∧ (0 ≤ u ∧ u ≤ c) ∧ (1 ≤ d ∧ d ≤ 99) ∧ (0 ≤ x ∧ x ≤ d)
instance (c u d x : Int) : Decidable (okN c u d x) := by unfold okN; exact inferInstance
/-- an integer from 0 to what w is -/
def upto (w v : V) : Bool := match w with
  | .int c => btw 0 c v
  | _ => false
def okV (v1 v2 v3 v4 : V) : Bool := (btw 1 99 v1 && upto v1 v2) && (btw 1 99 v3 && upto v3 v4)
theorem min_if (i j : Int) : (if j < i then j else i) = min i j := by
  rw [Int.min_def]
  by_cases h : j < i
  · rw [if_pos h, if_neg (by omega)]
  · rw [if_neg h, if_pos (by omega)]
theorem btw_iff {lo hi : Int} {v : V} : btw lo hi v = true ↔ ∃ i, v = .int i ∧ lo ≤ i ∧ i ≤ hi := by
  cases v with
  | int i =>
    show (decide (lo ≤ i) && decide (i ≤ hi)) = true ↔ _
    rw [Bool.and_eq_true, decide_eq_true_iff, decide_eq_true_iff]
    exact ⟨fun h => ⟨i, rfl, h⟩, fun ⟨j, e, h⟩ => by cases e; exact h⟩
  | _ => exact Iff.intro (fun h => nomatch h) (fun ⟨j, e, _⟩ => nomatch e)
def spPassed (K : PySem.W.Frag) (C : Addr) : Sp := fun vs H Q E => ∃ v1 v2 v3 v4 t1 t2 t3 t4, vs = [v1, v2, v3, v4] ∧ AnyT K H v1 t1 ∧ AnyT K H v2 t2 ∧ AnyT K H v3 t3 ∧ AnyT K H v4 t4 ∧
  (okV v1 v2 v3 v4 = false → E (.ref C) none H) ∧
  ∀ c u d x, v1 = .int c → v2 = .int u → v3 = .int d → v4 = .int x → okN c u d x → ∀ p H', H p = none → Same H H' → H' p = some (.tup [.int (stC c u d x), .int (stL c u d x)]) → Q (.ref p) H'
/-- what a carrier takes and gives -/
def spHandled : Sp := fun vs H Q _ => ∃ c u d x, vs = [.int c, .int u, .int d, .int x] ∧ ∀ p, H p = none → Q (.ref p) (upd H p (.tup [.int (min (c - u) x), .int (min u (d - x))]))
def t_handled : TS := tRet (tTup (tCons (tCB qMin2 (tCons (tOp qSub (tVar 0) (tVar 1)) (tCons (tVar 3) (tNil)))) (tCons (tCB qMin2 (tCons (tVar 1) (tCons (tOp qSub (tVar 2) (tVar 3)) (tNil)))) (tNil))))
theorem pure_handled (vs : List V) (H : Hp) (Q : VK) (E : XK) (h : spHandled vs H Q E) : t_handled { nx := fun _ H' => Q .non H', rt := Q } (start ["capacity", "load", "box_capacity", "count"] vs) H := by
  obtain ⟨c, u, d, x, rfl, kQ⟩ := h
  refine ⟨_, rfl, _, rfl, c, u, rfl, rfl, _, rfl, _, _, rfl, _, rfl, _, rfl, _, rfl, d, x, rfl, rfl, _, _, rfl, (by show 2 ≤ sizeLine; exact Nat.le_of_lt (small1000 (by decide))), fun p hp => ?_⟩
  have q := kQ p hp
  rw [min_if, min_if]
  exact q
def t_passed (K : PySem.W.Frag) (c_BadNumber : Addr) (E : XK) : TS := tSeq (tIfS (tOr (tNot (tB (tCall (spCapacity K) [] E0 (tCons (tVar 0) (tNil))))) (tNot (tB (tCall (spBetween K) [] E0 (tCons (tVar 1) (tCons (tC (.int 0)) (tCons (tVar 0) (tNil))))))))
  (tOut (.ref c_BadNumber) E)
  (tNext))
  (tSeq (tIfS (tOr (tNot (tB (tCall (spCapacity K) [] E0 (tCons (tVar 2) (tNil))))) (tNot (tB (tCall (spBetween K) [] E0 (tCons (tVar 3) (tCons (tC (.int 0)) (tCons (tVar 2) (tNil))))))))
  (tOut (.ref c_BadNumber) E)
  (tNext))
  (tSeq (tAsg (tCall spHandled [] E0 (tCons (tVar 0) (tCons (tVar 1) (tCons (tVar 2) (tCons (tVar 3) (tNil)))))) (gTup K 2 (gCons (gName 4) (gCons (gName 5) (gNil)))))
  (tRet (tTup (tCons (tOp qAdd (tOp qSub (tVar 3) (tVar 4)) (tVar 5)) (tCons (tOp qSub (tOp qAdd (tVar 1) (tVar 4)) (tVar 5)) (tNil)))))))
theorem okV_no1 {v1 v2 v3 v4 : V} (h : btw 1 99 v1 = false) : okV v1 v2 v3 v4 = false := by
  unfold okV
  rw [h] <;> rfl
theorem okV_no2 {c : Int} {v2 v3 v4 : V} (h : btw 0 c v2 = false) : okV (.int c) v2 v3 v4 = false := by
  show ((btw 1 99 (.int c) && btw 0 c v2) && _) = false
  rw [h, Bool.and_false, Bool.false_and]
theorem okV_no3 {v1 v2 v3 v4 : V} (h : btw 1 99 v3 = false) : okV v1 v2 v3 v4 = false := by
  unfold okV
  rw [h, Bool.false_and, Bool.and_false]
theorem okV_no4 {d : Int} {v1 v2 v4 : V} (h : btw 0 d v4 = false) : okV v1 v2 (.int d) v4 = false := by
  show (_ && (btw 1 99 (.int d) && btw 0 d v4)) = false
  rw [h, Bool.and_false, Bool.and_false]
theorem okV_yes {v1 v2 v3 v4 : V} : okV v1 v2 v3 v4 = true ↔ ∃ c u d x, v1 = .int c ∧ v2 = .int u ∧ v3 = .int d ∧ v4 = .int x ∧ okN c u d x := by
  constructor
  · intro h
    unfold okV at h
    rw [Bool.and_eq_true, Bool.and_eq_true, Bool.and_eq_true] at h
    obtain ⟨⟨h1, h2⟩, h3, h4⟩ := h
    obtain ⟨c, rfl, c1⟩ := btw_iff.mp h1
    obtain ⟨d, rfl, d1⟩ := btw_iff.mp h3
    obtain ⟨u, rfl, u1⟩ := btw_iff.mp (show btw 0 c v2 = true from h2)
    obtain ⟨x, rfl, x1⟩ := btw_iff.mp (show btw 0 d v4 = true from h4)
    exact ⟨c, u, d, x, rfl, rfl, rfl, rfl, c1, u1, d1, x1⟩
  · rintro ⟨c, u, d, x, rfl, rfl, rfl, rfl, c1, u1, d1, x1⟩
    show ((btw 1 99 (.int c) && btw 0 c (.int u)) && (btw 1 99 (.int d) && btw 0 d (.int x))) = true
    rw [btw_iff.mpr ⟨c, rfl, c1⟩, btw_iff.mpr ⟨u, rfl, u1⟩, btw_iff.mpr ⟨d, rfl, d1⟩, btw_iff.mpr ⟨x, rfl, x1⟩] <;> rfl
theorem pure_passed {K : PySem.W.Frag} {C : Addr} (vs : List V) (H : Hp) (Q : VK) (E : XK) (h : spPassed K C vs H Q E) : t_passed K C E { nx := fun _ H' => Q .non H', rt := Q } (start ["capacity", "load", "box_capacity", "count", "up", "down"] vs) H := by
  obtain ⟨v1, v2, v3, v4, t1, t2, t3, t4, rfl, h1, h2, h3, h4, kE, kQ⟩ := h
  refine ⟨_, rfl, v1, t1, rfl, h1, _, rfl, ?_⟩
  cases b1 : btw 1 99 v1 with
  | false => exact iteT (iteT (kE (okV_no1 b1)))
  | true =>
  obtain ⟨c, rfl, c1, c2⟩ := btw_iff.mp b1
  have k2 : ∀ (b : Bool), btw 0 c v2 = b → _ := fun b e => e
  refine iteF ⟨_, rfl, _, rfl, v2, t2, _, _, rfl, h2, fun _ => ⟨0, c, rfl, rfl, _, rfl, ?_⟩, fun e => ⟨_, rfl, iteT (kE (okV_no2 (btw_not e 0 c)))⟩⟩
  cases b2 : btw 0 c v2 with
  | false => exact iteT (kE (okV_no2 b2))
  | true =>
  obtain ⟨u, rfl, u1, u2⟩ := btw_iff.mp b2
  refine iteF ⟨_, rfl, v3, t3, rfl, h3, _, rfl, ?_⟩
  cases b3 : btw 1 99 v3 with
  | false => exact iteT (iteT (kE (okV_no3 b3)))
  | true =>
  obtain ⟨d, rfl, d1, d2⟩ := btw_iff.mp b3
  refine iteF ⟨_, rfl, _, rfl, v4, t4, _, _, rfl, h4, fun _ => ⟨0, d, rfl, rfl, _, rfl, ?_⟩, fun e => ⟨_, rfl, iteT (kE (okV_no4 (btw_not e 0 d)))⟩⟩
  cases b4 : btw 0 d v4 with
  | false => exact iteT (kE (okV_no4 b4))
  | true =>
  obtain ⟨x, rfl, x1, x2⟩ := btw_iff.mp b4
  refine iteF ⟨_, rfl, _, rfl, _, rfl, _, rfl, c, u, d, x, rfl, fun p0 hp0 => ?_⟩
  have s0 := (fun b o z => (upd_ne (ne_of_none z hp0)).trans z : Same H (upd H p0 (.tup [.int (min (c - u) x), .int (min u (d - x))])))
  have T0 : upd H p0 (.tup [.int (min (c - u) x), .int (min u (d - x))]) p0 = some (.tup [.int (min (c - u) x), .int (min u (d - x))]) := upd_same
  generalize upd H p0 (.tup [.int (min (c - u) x), .int (min u (d - x))]) = H0 at s0 T0 ⊢
  refine ⟨p0, _, rfl, SqT.of T0, rfl, _, _, rfl, _, _, rfl, rfl, ?_⟩
  refine ⟨_, rfl, _, rfl, _, _, rfl, rfl, _, rfl, _, _, rfl, rfl, _, rfl, _, rfl, _, _, rfl, rfl, _, rfl, _, _, rfl, rfl, (by show 2 ≤ sizeLine; exact Nat.le_of_lt (small1000 (by decide))), fun p hp => ?_⟩
  exact kQ c u d x rfl rfl rfl rfl ⟨⟨c1, c2⟩, ⟨u1, u2⟩, ⟨d1, d2⟩, ⟨x1, x2⟩⟩ p _ (Same.free s0 hp) (fun b o z => (upd_ne (ne_of_none (s0 b o z) hp)).trans (s0 b o z)) upd_same
end SR
set_option Elab.async false
set_option linter.all false
set_option maxRecDepth 100000
set_option maxHeartbeats 4000000
namespace SR
open PySem L2
theorem StB.d {H : Hp} {d g c : Addr} {b : Nat} (S : StB H d g c b) : ∃ o, H d = some o := let ⟨_, _, _, _, h, _⟩ := S; ⟨_, h⟩
theorem StB.g {H : Hp} {d g c : Addr} {b : Nat} (S : StB H d g c b) : ∃ o, H g = some o := let ⟨_, _, _, _, _, h, _⟩ := S; ⟨_, h⟩
theorem StB.c {H : Hp} {d g c : Addr} {b : Nat} (S : StB H d g c b) : ∃ o, H c = some o := let ⟨_, _, _, _, _, _, h, _⟩ := S; ⟨_, h⟩
/-- a new address is none of the state's -/
theorem StB.off {H : Hp} {d g c p : Addr} {b : Nat} (S : StB H d g c b) (h : H p = none) : p ≠ d ∧ p ≠ g ∧ p ≠ c := by
  obtain ⟨_, h1⟩ := S.d
  obtain ⟨_, h2⟩ := S.g
  obtain ⟨_, h3⟩ := S.c
  exact ⟨(ne_of_none h1 h).symm, (ne_of_none h2 h).symm, (ne_of_none h3 h).symm⟩
theorem hid_new {d g p : Addr} {H : Hp} {o : HO} (h1 : p ≠ d) (h2 : p ≠ g) : hid d g (upd H p o) p = some o := hid_of upd_same h1 h2
theorem sz {n : Nat} (h : n ≤ 1000) : n ≤ sizeLine := Nat.le_of_lt (small1000 h)
abbrev qIsN : R2 := fun x y H Q => y = .non ∧ Q (.bl (decide (x = .non))) H
/-- a <= b <= c as a value -/
theorem chain_le {σ : L2.St} {H : Hp} {Q : VK} {ta tb tc : TE} {i j k : Int} (ha : ∀ Q' : VK, Q' (.int i) H → ta σ H Q') (hb : ∀ Q' : VK, Q' (.int j) H → tb σ H Q') (hc : ∀ Q' : VK, Q' (.int k) H → tc σ H Q') (q : Q (.bl (decide (i ≤ j) && decide (j ≤ k))) H) : tChain qLe qLe ta tb tc σ H Q := by
  refine ha _ (hb _ ⟨i, j, rfl, rfl, _, rfl, ?_⟩)
  by_cases h : i ≤ j
  · rw [decide_eq_true h] at q ⊢
    exact iteT (hc _ ⟨j, k, rfl, rfl, q⟩)
  · rw [decide_eq_false h] at q ⊢
    exact iteF q
end SR
set_option Elab.async false
set_option linter.all false
set_option maxRecDepth 100000
set_option maxHeartbeats 4000000
set_option Elab.async false
set_option linter.all false
set_option maxRecDepth 100000
set_option maxHeartbeats 4000000
namespace SR
open PySem L2
mutual
def cost : PyData → Nat
  | .none => 4
  | .bool _ => 5
  | .int _ => 1921
  | .str x => (reprText x).length
  | .list xs => costAll xs + 4
  | .tuple xs => costAll xs + 4
  | .dict _ => 0
def costAll : List PyData → Nat
  | [] => 0
  | x :: xs => cost x + 2 + costAll xs
end
theorem listText_len (ts : List Str) : (listText ts).length ≤ piled ts + 2 := by
  cases ts with
  | nil => decide
  | cons t r =>
    have h := textFrom_length_pos r 1 (("[" : Str) ++ (if (0 : Nat) > 0 then ", " else "" : String) ++ t) (Nat.succ_pos 0)
    have e : ((("[" : Str) ++ (if (0 : Nat) > 0 then ", " else "" : String) ++ t)).length = 1 + t.length := by
      simp only [strLen_append] <;> rfl
    have e2 : (listText (t :: r)).length = (textFrom 1 (("[" : Str) ++ (if (0 : Nat) > 0 then ", " else "" : String) ++ t) r).length + 1 := by
      show (textFrom 1 (("[" : Str) ++ (if (0 : Nat) > 0 then ", " else "" : String) ++ t) r ++ "]").length = _
      simp only [strLen_append] <;> rfl
    rw [e2, h, e, piled_cons]
    omega
theorem tupleText_len (ts : List Str) : (tupleText ts).length ≤ piled ts + 4 := by
  unfold tupleText
  rw [strLen_append, strLen_append]
  have e1 : ((("(" : String) : Str)).length = 1 := rfl
  have e3 : (((if ts.length == 1 then ",)" else ")" : String) : Str)).length ≤ 2 := by split <;> decide
  by_cases h : ts = []
  · subst h
    have e4 : (Str.join ", " []).length = 0 := rfl
    omega
  · have := join_length_add ts h
    omega
mutual
theorem shown_cost : ∀ d : PyData, d.showable = true → d.hasDict = false → d.shown.length ≤ cost d
  | .none, _, _ => by show (("None" : String) : Str).length ≤ 4; decide
  | .bool b, _, _ => by cases b <;> (simp only [PyData.shown, cost]; decide)
  | .int i, h, _ => by
    have e := int_text_length_le (k := 1920) (by decide) (of_decide_eq_true h)
    show (Str.ofString (toString i)).length ≤ 1921
    rw [ofString_length]
    exact e
  | .str x, _, _ => Nat.le_refl _
  | .list xs, h, hd => by
    have q := shownAll_cost xs h hd
    have := listText_len (PyData.shownAll xs)
    show (listText (PyData.shownAll xs)).length ≤ costAll xs + 4
    omega
  | .tuple xs, h, hd => by
    have q := shownAll_cost xs h hd
    have := tupleText_len (PyData.shownAll xs)
    show (tupleText (PyData.shownAll xs)).length ≤ costAll xs + 4
    omega
  | .dict _, _, hd => nomatch hd
theorem shownAll_cost : ∀ ds : List PyData, PyData.showableAll ds = true → PyData.hasDictAll ds = false → piled (PyData.shownAll ds) ≤ costAll ds
  | [], _, _ => Nat.le_refl _
  | d :: ds, h, hd => by
    have h' : (PyData.showable d && PyData.showableAll ds) = true := h
    have hd' : (PyData.hasDict d || PyData.hasDictAll ds) = false := hd
    rw [Bool.and_eq_true] at h'
    rw [Bool.or_eq_false_iff] at hd'
    have q1 := shown_cost d h'.1 hd'.1
    have q2 := shownAll_cost ds h'.2 hd'.2
    show piled (PyData.shown d :: PyData.shownAll ds) ≤ cost d + 2 + costAll ds
    rw [piled_cons]
    omega
end
theorem dRepr_cost {d : PyData} (h : d.showable = true) (hd : d.hasDict = false) : (dRepr d).length ≤ cost d := by
  cases d with
  | dict _ => cases hd
  | _ => exact shown_cost _ h hd
theorem show_int {i : Int} (h : i.natAbs < 2 ^ 1900) : (PyData.int i).showable = true := by
  show decide (i.natAbs.log2 < 1920) = true
  refine decide_eq_true ?_
  by_cases e : i.natAbs = 0
  · rw [e]; decide
  · exact Nat.lt_of_lt_of_le ((Nat.log2_lt e).mpr h) (by decide)
theorem repr_fit {K : PySem.W.Frag} {H : Hp} {x : V} {d : PyData} (hs : d.showable = true) (hx : Dp K H x d) (hc : cost d ≤ 1000000) : (dRepr d).length ≤ sizeLine :=
  Nat.le_trans (dRepr_cost hs (dp_nodict _ _ hx)) (Nat.le_trans hc (by decide))
theorem eqv_same {d : PyData} (hs : SeqAt.shaped d = true) : PyData.eqv d d = true := SeqAt.eqv_refl d (by
  unfold SeqAt.shaped at hs
  rw [Bool.and_eq_true] at hs
  exact hs.1)
theorem eq_same {K : PySem.W.Frag} {H : Hp} {x y : V} {d : PyData} {Q : VK} (hx : Dp K H x d) (hy : Dp K H y d) (hs : SeqAt.shaped d = true) (q : Q (.bl true) H) : rEqD K x y H Q := by
  refine ⟨d, d, hx, hy, hs, hs, ?_⟩
  have e : PyData.eqv d d = true := SeqAt.eqv_refl d (by
    unfold SeqAt.shaped at hs
    rw [Bool.and_eq_true] at hs
    exact hs.1)
  rw [e]
  exact q
end SR
set_option Elab.async false
set_option linter.all false
set_option maxRecDepth 100000
set_option maxHeartbeats 4000000
namespace SR
open PySem L2
section
variable {K : PySem.W.Frag} {B : Addr}
theorem StB.same {H H' : Hp} {d g c : Addr} {b : Nat} (e : Same H H') (S : StB H d g c b) : StB H' d g c b := by
  obtain ⟨r, t, gs, cs, h1, h2, h3, h4⟩ := S
  exact ⟨r, t, gs, cs, e _ _ h1, e _ _ h2, e _ _ h3, h4⟩
/-- the list of four, as the rest of a turn finds it -/
structure Four (K : PySem.W.Frag) (H : Hp) (d g c s : Addr) (v1 v2 v3 v4 : V) : Prop where
  at_ : H s = some (.lst [v1, v2, v3, v4])
  nd : s ≠ d
  ng : s ≠ g
  nc : s ≠ c
  k1 : ∃ t, AnyT K (hid d g H) v1 t
  k2 : ∃ t, AnyT K (hid d g H) v2 t
  k3 : ∃ t, AnyT K (hid d g H) v3 t
  k4 : ∃ t, AnyT K (hid d g H) v4 t
theorem Four.kp {H H' : Hp} {d g c s : Addr} {v1 v2 v3 v4 : V} (F : Four K H d g c s v1 v2 v3 v4) (k : Kp d g H H') : Four K H' d g c s v1 v2 v3 v4 :=
  ⟨k _ _ F.nd F.ng F.at_, F.nd, F.ng, F.nc, let ⟨t, h⟩ := F.k1; ⟨t, h.same k.hid⟩, let ⟨t, h⟩ := F.k2; ⟨t, h.same k.hid⟩, let ⟨t, h⟩ := F.k3; ⟨t, h.same k.hid⟩, let ⟨t, h⟩ := F.k4; ⟨t, h.same k.hid⟩⟩
def pr2 (i j : Int) : PyData := .tuple [.int i, .int j]
theorem dp_pr2 {H : Hp} {p : Addr} {i j : Int} (h : H p = some (.tup [.int i, .int j])) : Dp K H (.ref p) (pr2 i j) := .tup (SqT.of h) (.cons (.int i) (.cons (.int j) .nil))
theorem pr2_show {i j : Int} (h1 : i.natAbs < 2 ^ 1900) (h2 : j.natAbs < 2 ^ 1900) : (pr2 i j).showable = true := by
  show (PyData.showable (.int i) && (PyData.showable (.int j) && true)) = true
  rw [show_int h1, show_int h2] <;> rfl
def spLaw (K : PySem.W.Frag) : Sp := fun vs H Q _ => ∃ (a : Addr) (ns : List Int), vs = [.ref a] ∧ SqL K H a (ns.map V.int) ∧ ns.length ≤ 63 ∧ ∀ H', Q (.bl true) H'
end
end SR
set_option Elab.async false
set_option linter.all false
set_option maxRecDepth 100000
set_option maxHeartbeats 4000000
namespace SR
open PySem PySem.Spec PyProof.Rows L2
structure Kn (P : Program) (w : World) (K : PySem.W.Frag) (mg : Str → Option Value) (base : Heap) (CX : CXT) (k : Nat) (x : Str) (ps : List Str) (sp : Sp) : Prop where
  ex : ∃ f fd, FnOk P w K mg base CX k f fd ps sp ∧ mg x = some (.ref f) ∧ PySem.W.keepIn K (.ref f) = true ∧ L2.Binds K fd ps []
/-- with keywords: m positional values, then those named ks -/
structure KnK (P : Program) (w : World) (K : PySem.W.Frag) (mg : Str → Option Value) (base : Heap) (CX : CXT) (k : Nat) (x : Str) (ps : List Str) (sp : Sp) (m : Nat) (ks : List Str) (gV : List V → List V → List V) : Prop where
  ex : ∃ f fd g, FnOk P w K mg base CX k f fd ps sp ∧ mg x = some (.ref f) ∧ PySem.W.keepIn K (.ref f) = true ∧ KBn K fd ps m ks g gV
section
variable {X : Cx} {CX : CXT} {k j : Nat} {ps ks : List Str} {sp : Sp} {E : XK} {x : Str} {p pos : Pos} {e : Expr} {es : List Expr} {t tk : TA} {kws : List Keyword} {gV : List V → List V → List V}
theorem pe_k (c : Kn X.prog X.w X.K X.mg X.base CX k x ps sp) (hr : Room j X.A) (hk : k ≤ j) (hg : Gl X x) (hx : Passes CX X E) (ha : PA X (e :: es) t) (hdb : (x == ("__debug__" : Str)) = false := by decide)
    (he : starEach (e :: es) X.env = (false, eval e X.env) :: starEach es X.env := by rfl) (hpl : (backTo pos (starEach es X.env)).any (·.1) = false := by rfl) : PE X (.Call (.Name x p) (e :: es) [] pos) (tCall sp [] E t) := by
  obtain ⟨f, fd, F, hm, kp, b⟩ := c.ex
  exact pe_call F (hr.mono hk) hg hm kp b .nil hx ha hdb he hpl
/-- in a try's body -/
theorem pe_kS {E : L2.St → XK} (c : Kn X.prog X.w X.K X.mg X.base CX k x ps sp) (hr : Room j X.A) (hk : k ≤ j) (hg : Gl X x) (hx : ∀ σ, PassesAt CX X σ (E σ)) (ha : PA X (e :: es) t) (hdb : (x == ("__debug__" : Str)) = false := by decide)
    (he : starEach (e :: es) X.env = (false, eval e X.env) :: starEach es X.env := by rfl) (hpl : (backTo pos (starEach es X.env)).any (·.1) = false := by rfl) : PE X (.Call (.Name x p) (e :: es) [] pos) (tCallS sp E t) := by
  obtain ⟨f, fd, F, hm, kp, b⟩ := c.ex
  exact pe_callS F (hr.mono hk) hg hm kp b hx ha hdb he hpl
theorem pe_kK0 {E : L2.St → XK} (c : KnK X.prog X.w X.K X.mg X.base CX k x ps sp 0 ks gV) (hr : Room j X.A) (hk : k ≤ j) (hg : Gl X x) (hx : ∀ σ, PassesAt CX X σ (E σ)) (hkw : PK X kws tk)
    (hall : (backToKw pos (keywordEach kws X.env)).all (·.1.isSome) = true := by rfl) (hks : (backToKw pos (keywordEach kws X.env)).filterMap (·.1) = ks := by rfl) (hdb : (x == ("__debug__" : Str)) = false := by decide)
    (hpl : ((backTo pos (starEach [] X.env)).any (·.1) || (backToKw pos (keywordEach kws X.env)).any (·.1.isNone)) = false := by rfl) :
    PE X (.Call (.Name x p) [] kws pos) (tKw ks.length sp gV E tNil tk) := by
  obtain ⟨f, fd, g, F, hm, kp, b⟩ := c.ex
  exact pe_kw0 F (hr.mono hk) hg hm kp b hx hkw hall hks hdb hpl
end
/-- a module's name by its value -/
theorem pe_gl {X : Cx} {x : Str} {pos : Pos} {v : V} (hg : Gl X x) (h : ∃ u, X.mg x = some u ∧ RelV v u) (hdb : (x == ("__debug__" : Str)) = false := by decide) : PE X (.Name x pos) (tC v) := by
  obtain ⟨u, h1, h2⟩ := h
  exact pe_glob hg h1 h2 hdb
def excB (K : PySem.W.Frag) (D : Addr) : Bool :=
  decide (PySem.W.findIn K (.ref D) "__getattribute__" = some (some (.builtin "BaseException.__getattribute__"))) && (decide (PySem.W.findIn K (.ref D) "__getattr__" = some none) && (decide (PySem.W.subIn K (.ref D) (.type "BaseException") = some true) && (PySem.W.hasDictIn K D &&
  (decide (PySem.W.findIn K (.ref D) "__class__" = some (some (.builtin "object.__class__"))) && (decide (PySem.W.specialIn K (.builtin "object.__class__") "__get__" = some (some (.builtin "getset_descriptor.__get__"))) && (decide (PySem.W.takesIn K (.builtin "object.__class__") = some true) && decide (PySem.W.mroIn K D (.type "object") = some true)))))))
theorem excB_ok {K : PySem.W.Frag} {D : Addr} (h : excB K D = true) : ExcC K D := by
  unfold excB at h
  simp only [Bool.and_eq_true, decide_eq_true_eq] at h
  obtain ⟨h1, h2, h3, h4, h5, h6, h7, h8⟩ := h
  exact ⟨h1, h2, h3, h4, h5, h6, h7, h8⟩
def kitIs (K : PySem.W.Frag) (t c : Value) (b : Bool) : Bool := decide (PySem.W.kitOne K t c = some b)
theorem kitIs_ok {K : PySem.W.Frag} {t c : Value} {b : Bool} (h : kitIs K t c b = true) : PySem.W.kitOne K t c = some b := of_decide_eq_true h
end SR
set_option Elab.async false
set_option linter.all false
set_option maxRecDepth 100000
set_option maxHeartbeats 4000000
namespace SR
open PySem PySem.Spec L2
/-- {elt for tg in iter if ..}, each item a whole number -/
def tScN (w : World) (wi : TI) (g : TG) (tt : TT) (te : TE) (vs : List Nat) : TE := fun σ H Q => wi σ H fun J H1 => ∀ D, H1 D = none →
  ∃ W : Nat → Nat → Hp → Prop, (∃ m, W 0 m (upd H1 D (SetO w D (fun _ => false) 0))) ∧ ∀ i m H2, W i m H2 →
    (J.stop i H2 ∧ Q (.ref D) H2) ∨ (J.go i H2 ∧ ∃ Nx : Hp → Prop, (∀ H', Nx H' → ∃ m', m' < m ∧ W (i + 1) m' H') ∧ ∀ x H', J.yld i H2 x H' → g x (wipe σ vs) H' fun σ2 H3 => wipe σ2 vs = wipe σ vs ∧ tt σ2 H3 fun b H4 =>
      if b = true then te σ2 H4 fun y H5 => rSAdd w (.ref D) [y] H5 fun _ H6 => Nx H6 else Nx H4)
section
variable {X : Cx}
/-- the places that a block's walk keeps to itself -/
def Apart (X : Cx) (fp : List Addr) (H : Hp) : Prop := ∀ b ∈ fp, H b = none
theorem apart_ok {s : Shared} {H3 : Hp} {scope : Scope} {ce : Env} {fp : List Addr} {σ : L2.St} {H : Hp} {s' : Shared} (I : L2.Inv (X.blk s H3 scope ce fp) [] σ H s') (h : Apart X fp H) : ∀ b ∈ fp, FpOk (X.blk s H3 scope ce fp) [] H b := by
  intro b hb
  have a := I.ok.exf b hb
  exact ⟨h b hb, a.1, I.ok.exfs b hb, Or.inl hb, fun x c e => a.2 x c e, fun p hp => nomatch hp⟩
theorem pe_scN {elt tg iter : Expr} {ifs : List Expr} {scope : Scope} {own : List (PySem.Str × Nat)} {pos : Pos} {wi : TI} {g : TG} {tt : TT} {te : TE} (hc : X.calm = true) (hN : X.N.Nodup) (hi : PI X tg iter wi) (ok : BlkOk X.N X.env.scope scope own)
    (hg : ∀ s H C cl fp, PG (X.blk s H scope (compEnvC scope cl C X.env) fp) tg g) (ht : ∀ s H C cl fp, PTs (X.blk s H scope (compEnvC scope cl C X.env) fp) ifs tt)
    (he : ∀ s H C cl fp, PE (X.blk s H scope (compEnvC scope cl C X.env) fp) elt te) (hs : ∀ x, foldedSetIterable iter X.env x = pure x := by intro _; rfl) :
    PE X (.SetComp elt [⟨tg, iter, ifs, 0⟩] scope pos) (tScN X.w wi g tt te (own.map (·.2))) := by
  constructor
  intro pins s σ H Q I h
  rw [PpSet.eval_SetComp]
  have cells : ∀ y ∈ scope.names, y.2 = .free → ∃ c, X.env.cells.lookup y.1 = some c := by
    intro y hy e
    cases ok.free y hy e with
    | inl k => exact I.ok.has _ (Or.inl k)
    | inr k => exact I.ok.has _ (Or.inr k)
  apply wpAny_comprehension_free rfl hs (closure_ok cells) ok.kind (fun y hy e => by rw [ok.uniq y hy, e])
  refine thn (hi.run pins s σ H _ I h) fun xv s1 hx => thn hx fun itv s2 h2 => ?_
  obtain ⟨it, fp, tn, J, H2, rfl, I2, T, run2, f2, q⟩ := h2
  have hfr := I2.hok.fresh (Nat.le_refl s2.heap.objs.size)
  obtain ⟨W, ⟨m0, w0⟩, turn⟩ := q _ hfr
  apply PpSet.newSet_ok
  -- the heap with the empty set
  have new := setO_new (P := X.prog) (H := upd H2 s2.heap.objs.size (SetO X.w s2.heap.objs.size (fun _ => false) 0)) (setR_fresh (h := s2.heap) X.w)
  have I3 : L2.Inv X pins σ (upd H2 s2.heap.objs.size (SetO X.w s2.heap.objs.size (fun _ => false) 0)) { s2 with heap := s2.heap.push ⟨.type "set", none, .set #[] 0 (.fresh 0 0 (!X.w.params.followText "set-order")), #[]⟩ } :=
    I2.laid (t' := s2.toks) (fun b o e => Heap.get?_push_of_some _ e) (Nat.le_refl _) new
  have run3 : tn 0 (s2.heap.push ⟨.type "set", none, .set #[] 0 (.fresh 0 0 (!X.w.params.followText "set-order")), #[]⟩) := T.keep _ _ _ run2 fun b _ o e => Heap.get?_push_of_some _ e
  have low : ∀ b ∈ fp, b < s2.heap.objs.size := fun b hb => let ⟨o, e, _⟩ := T.obj _ _ run2 b hb; Heap.lt_size e
  have f3 : ∀ b ∈ fp, FpOk X pins (upd H2 s2.heap.objs.size (SetO X.w s2.heap.objs.size (fun _ => false) 0)) b ∧ b < (s2.heap.push ⟨.type "set", none, .set #[] 0 (.fresh 0 0 (!X.w.params.followText "set-order")), #[]⟩).objs.size := by
    intro b hb
    have l := low b hb
    refine ⟨⟨(upd_ne (Nat.ne_of_lt l)).trans (f2 b hb).1, (f2 b hb).2⟩, ?_⟩
    rw [Heap.size_push]
    exact Nat.lt_succ_of_lt l
  clear new low f2 run2 hx h I2 I hi hfr q
  generalize upd H2 s2.heap.objs.size (SetO X.w s2.heap.objs.size (fun _ => false) 0) = H3 at I3 w0 f3
  generalize s2.heap.objs.size = D at turn
  generalize hs3 : ({ s2 with heap := s2.heap.push ⟨.type "set", none, .set #[] 0 (.fresh 0 0 (!X.w.params.followText "set-order")), #[]⟩ } : Shared) = s3 at I3 ⊢
  have e3 : s2.heap.push ⟨.type "set", none, .set #[] 0 (.fresh 0 0 (!X.w.params.followText "set-order")), #[]⟩ = s3.heap := by rw [← hs3]
  rw [e3] at run3 f3
  clear hs3 e3
  apply newEnv_comp
  have I4 := block_start I3 ok hN f3
  have run4 : tn 0 (pushCells (s3.heap.push { cls := .type "dict", data := .dict #[] }) scope.names) := T.keep _ _ _ run3 fun b _ o e => pushCells_keeps _ _ _ _ (Heap.get?_push_of_some _ e)
  have pg := hg s3 H3 s3.heap.objs.size (cellsFrom (s3.heap.objs.size + 1) scope.names (cloFrom X.env.cells scope.names [])) fp
  have pt := ht s3 H3 s3.heap.objs.size (cellsFrom (s3.heap.objs.size + 1) scope.names (cloFrom X.env.cells scope.names [])) fp
  have pe := he s3 H3 s3.heap.objs.size (cellsFrom (s3.heap.objs.size + 1) scope.names (cloFrom X.env.cells scope.names [])) fp
  show codeAny _ _ (.compStart _ 0 (.ref it) (.ref D) (compEnvC scope (cellsFrom (s3.heap.objs.size + 1) scope.names (cloFrom X.env.cells scope.names [])) s3.heap.objs.size X.env)) (compPost _ _ _ none _ (.ref D) s3.heap.objs.size) _
  have here : (compEnvC scope (cellsFrom (s3.heap.objs.size + 1) scope.names (cloFrom X.env.cells scope.names [])) s3.heap.objs.size X.env).locals = s3.heap.objs.size := rfl
  generalize compEnvC scope (cellsFrom (s3.heap.objs.size + 1) scope.names (cloFrom X.env.cells scope.names [])) s3.heap.objs.size X.env = ce at I4 pg pt pe here ⊢
  refine (fun loop => PpSet.codeAny_compStart_set loop (T.self X.A 0 _ _ _ run4 loop)) ?_
  replace run4 : tn 0 ({ s3 with heap := pushCells (s3.heap.push { cls := .type "dict", data := .dict #[] }) scope.names } : Shared).heap := run4
  generalize ({ s3 with heap := pushCells (s3.heap.push { cls := .type "dict", data := .dict #[] }) scope.names } : Shared) = s4 at I4 run4 ⊢
  refine PpSet.compLoopS_any (fun n s' => ∃ i H', L2.Inv (X.blk s3 H3 scope ce fp) [] (wipe σ (own.map (·.2))) H' s' ∧ tn i s'.heap ∧ Apart X fp H' ∧ W i n H') ?_ m0 ⟨0, H3, I4, run4, fun b hb => (f3 b hb).1.1, w0⟩
  rintro n s5 ⟨i, H5, I5, t5, a5, w5⟩
  cases turn i n H5 w5 with
  | inl over =>
    refine thnF (T.done (X.blk s3 H3 scope ce fp) rfl rfl rfl hc i [] s5 _ H5 (fun _ _ => False) I5 (apart_ok I5 a5) t5 over.1) ?_
    rintro r s6 ⟨rfl, I6⟩
    have I7 : L2.Inv X pins σ H5 s6 := I3.call' (ch := fp) I6.os I6.base I6.hok I6.bare fun b hb => let z := (f3 b hb).1.2; ⟨z.2.2.1, z.1, z.2.2.2.1, z.2.2.2.2⟩
    obtain ⟨m, ns, _⟩ := I6.loc
    have fr := I6.free
    change H5 ce.locals = none at fr
    change s6.heap.Ns ce.locals m at ns
    rw [here] at fr ns
    obtain ⟨c0, c1, c2, c3, c4, c5⟩ := I3.fpOk (Nat.le_refl _) fr
    exact ⟨m, ns, fun h2 sb => ⟨.ref D, H5, I7.turned (t' := s6.toks) (fun b o hb e => (sb.2 b hb).trans e) c0 c1 c3 c4 c5, rfl, over.2⟩⟩
  | inr more =>
    obtain ⟨go, Nx, hNx, step⟩ := more
    refine thnF (T.item (X.blk s3 H3 scope ce fp) rfl rfl rfl hc i [] s5 _ H5 (fun _ _ => False) I5 (apart_ok I5 a5) t5 go) ?_
    rintro r s6 ⟨u, rfl, h6⟩
    refine thnF h6 ?_
    rintro _ s7 ⟨x, H7, I7, r7, y7, t7, a7⟩
    refine thnF (pg.run _ s7 _ H7 x u _ (I7.pinned (apart_ok I7 a7) (T.obj _ _ t7)) r7 (step x H7 y7)) ?_
    rintro _ s8 ⟨σ8, H8, I8, hw, q8⟩
    refine thnF (pt.run _ s8 σ8 H8 _ I8 q8) ?_
    rintro b s9 ⟨H9, I9, q9⟩
    -- a turn's end
    have done : ∀ (s' : Shared) (H' : Hp), L2.Inv (X.blk s3 H3 scope ce fp) ([] ++ pinsAt fp s7.heap) σ8 H' s' → Nx H' →
        ∃ m, m < n ∧ ∃ i H', L2.Inv (X.blk s3 H3 scope ce fp) [] (wipe σ (own.map (·.2))) H' s' ∧ tn i s'.heap ∧ Apart X fp H' ∧ W i m H' := by
      intro s' H' I' nx
      obtain ⟨m', less, w'⟩ := hNx H' nx
      have kept : ∀ b ∈ fp, ∀ o, s7.heap.get? b = some o → s'.heap.get? b = some o ∧ H' b = none := by
        intro b hb o e
        have z := I'.pin (b, o) (List.mem_append_right _ (List.mem_append_right _ (mem_pinsAt hb e)))
        exact ⟨z.1, z.2.1⟩
      have ln : (wipe σ (own.map (·.2))).length = σ8.length := by rw [← hw, wipe_length]
      have low : L2.Inv (X.blk s3 H3 scope ce fp) [] (wipe σ (own.map (·.2))) H' s' := (I'.unpinned (pins := [])).weak ln fun j v e => by
        rw [← hw] at e
        exact (wipe_some e).1
      have ap : Apart X fp H' := fun b hb => let ⟨o, e, _⟩ := T.obj _ _ t7 b hb; (kept b hb o e).2
      exact ⟨m', less, i + 1, H', low, T.keep _ _ _ t7 (fun b hb o e => (kept b hb o e).1), ap, w'⟩
    cases b with
    | false =>
      rw [if_neg Bool.false_ne_true] at q9 ⊢
      exact done _ _ I9 q9
    | true =>
      rw [if_pos rfl] at q9 ⊢
      refine thnF (pe.run _ s9 σ8 H9 _ I9 q9) ?_
      rintro z s10 ⟨y, H10, I10, ry, q10⟩
      refine thnF (mt_sadd (X := X.blk s3 H3 scope ce fp) _ s10 σ8 H10 (.ref D) [y] (.ref D) [z] _ I10 rfl (.cons ry .nil) q10) ?_
      rintro _ s11 ⟨_, H11, I11, _, q11⟩
      exact done _ _ I11 q11
end
end SR
set_option Elab.async false
set_option linter.all false
set_option maxRecDepth 100000
set_option maxHeartbeats 4000000
namespace SR
open PySem PySem.Spec PyProof.Rows L2
/-- a walk for a set display -/
theorem scN_it {J : It} {n : Nat} {G : Hp → Prop} {Y : Nat → Hp → V → Hp → Prop} (wk : Walk J n G Y) {w : World} {g : TG} {tt : TT} {te : TE} {vs : List Nat} {σ : L2.St} {H1 : Hp} {D : Addr} {Qd : Hp → Prop} (Pv : Nat → Hp → Prop)
    (h0 : Pv 0 (upd H1 D (SetO w D (fun _ => false) 0))) (hG : ∀ i H, i ≤ n → Pv i H → G H)
    (hs : ∀ i x H H', i < n → Pv i H → Y i H x H' → g x (wipe σ vs) H' fun σ2 H3 => wipe σ2 vs = wipe σ vs ∧ tt σ2 H3 fun b H4 => if b = true then te σ2 H4 fun y H5 => rSAdd w (.ref D) [y] H5 fun _ H6 => Pv (i + 1) H6 else Pv (i + 1) H4)
    (hd : ∀ H, Pv n H → Qd H) : ∃ W : Nat → Nat → Hp → Prop, (∃ m, W 0 m (upd H1 D (SetO w D (fun _ => false) 0))) ∧ ∀ i m H2, W i m H2 →
      (J.stop i H2 ∧ Qd H2) ∨ (J.go i H2 ∧ ∃ Nx : Hp → Prop, (∀ H', Nx H' → ∃ m', m' < m ∧ W (i + 1) m' H') ∧ ∀ x H', J.yld i H2 x H' → g x (wipe σ vs) H' fun σ2 H3 => wipe σ2 vs = wipe σ vs ∧ tt σ2 H3 fun b H4 =>
        if b = true then te σ2 H4 fun y H5 => rSAdd w (.ref D) [y] H5 fun _ H6 => Nx H6 else Nx H4) := by
  refine ⟨fun i m H => i + m = n ∧ Pv i H, ⟨n, Nat.zero_add n, h0⟩, ?_⟩
  rintro i m H ⟨rfl, p⟩
  have gh := hG i H (Nat.le_add_right i m) p
  cases m with
  | zero => exact .inl ⟨wk.stops H gh, hd H p⟩
  | succ m =>
    have lt : i < i + (m + 1) := by omega
    exact .inr ⟨wk.goes i H lt gh, Pv (i + 1), fun H' p' => ⟨m, Nat.lt_succ_self m, by omega, p'⟩, fun x H' y => hs i x H H' lt p (wk.yields i H x H' lt gh y)⟩
section
variable {X : Cx}
theorem pi_or {tg l : Expr} {a b : TI} (ha : PI X tg l a) (hb : PI X tg l b) : PI X tg l (fun σ H R => a σ H R ∨ b σ H R) :=
  ⟨fun pins s σ H R I h => h.elim (ha.run pins s σ H R I) (hb.run pins s σ H R I)⟩
theorem cr_or {f : Value} {a b : List V → Hp → VK → Prop} (ha : CallR X f a) (hb : CallR X f b) : CallR X f (fun xs H Q => a xs H Q ∨ b xs H Q) :=
  fun pins s σ H xs us Q I r h => h.elim (ha pins s σ H xs us Q I r) (hb pins s σ H xs us Q I r)
/-- what is never come to -/
theorem ps_no {st : Stmt} : PS X st (fun _ _ _ => False) := ⟨fun _ _ _ _ _ _ h => h.elim⟩
/-- len of a set of whole numbers -/
theorem cr_lenSet : CallR X (.builtin "len") (fun xs H Q => ∃ a S n, xs = [V.ref a] ∧ H a = some (SetO X.w a S n) ∧ Q (.int n) H) := by
  intro pins s σ H xs us Q I r h
  obtain ⟨a, S, n, rfl, ha, q⟩ := h
  obtain ⟨u, rfl, ru⟩ := vals1 r
  cases ru
  obtain ⟨o, es, ep, t, ho, ex, hd, _, _, _, hb, hf, hn, _, _⟩ := setO_get I ha
  have fit : (scanBound : Int) < 2 ^ 63 := by unfold scanBound; decide
  refine call_len_set ho ex hd hf (by omega) ⟨.int n, H, I.tok _, ⟨_, by rw [hn]⟩, q⟩
/-- a tuple whose object has no dict of its own -/
def Bare (H : Hp) (a : Addr) (xs : List V) : Prop := ∃ o, H a = some (.frz o (.tup xs)) ∧ o.cls = .type "tuple" ∧ o.dict = none
theorem Bare.sq {K : PySem.W.Frag} {H : Hp} {a : Addr} {xs : List V} (h : Bare H a xs) : SqT K H a xs := let ⟨o, e, _⟩ := h; .inl (.inr ⟨o, e⟩)
/-- such a tuple of the written part -/
def BareK (K : PySem.W.Frag) (a : Addr) (xs : List V) : Prop := ∃ (o : Obj) (its : List Value) (n : Nat), K.lookup a = some o ∧ o.cls = .type "tuple" ∧ o.dict = none ∧ o.data = .seq its.toArray n ∧ xs.length ≤ sizeLine ∧ Vals xs its
theorem BareK.sq {K : PySem.W.Frag} {H : Hp} {a : Addr} {xs : List V} (h : BareK K a xs) : SqT K H a xs := by
  obtain ⟨o, its, n, h1, h2, _, h4, h5, h6⟩ := h
  refine .inr ⟨o, its.toArray, n, h1, h2, h4, ?_, h6⟩
  rw [List.size_toArray, ← h6.length]
  exact h5
def BareW (K : PySem.W.Frag) (H : Hp) (a : Addr) (xs : List V) : Prop := Bare H a xs ∨ BareK K a xs
theorem BareW.sq {K : PySem.W.Frag} {H : Hp} {a : Addr} {xs : List V} (h : BareW K H a xs) : SqT K H a xs := h.elim Bare.sq BareK.sq
/-- tuple(xs) of a list, the object known -/
theorem cr_tupB : CallR X (.type "tuple") (fun xs H Q => ∃ p ys, xs = [.ref p] ∧ SqL X.K H p ys ∧ ∀ l o, H l = none → o.cls = .type "tuple" → o.dict = none → Q (.ref l) (upd H l (.frz o (.tup ys)))) := by
  intro pins s σ H xs us Q I r h
  obtain ⟨p, ys, rfl, hq, q⟩ := h
  obtain ⟨u, rfl, rx⟩ := vals1 r
  cases rx
  obtain ⟨its, r2, pl, hz⟩ := I.list hq
  have hlen := r2.length
  refine call_tuple_list pl.isList (fun h' kp => ?_) (by simp only [List.size_toArray] <;> omega)
  have I1 : L2.Inv X pins σ H { s with heap := h' } := I.kept (t' := s.toks) kp
  have at_ : (h'.push { cls := .type "tuple", data := .seq its.toArray }).get? h'.objs.size = some { cls := .type "tuple", data := .seq its.toArray } := Heap.get?_push_size _ rfl
  have I2 : L2.Inv X pins σ (upd H h'.objs.size (.frz { cls := .type "tuple", data := .seq its.toArray } (.tup ys))) { s with heap := h'.push { cls := .type "tuple", data := .seq its.toArray } } :=
    I1.laid (t' := s.toks) (fun b o e => Heap.get?_push_of_some _ e) (Nat.le_refl _) ⟨at_, hz, its, r2, IsTup.new _ _⟩
  exact ⟨.ref h'.objs.size, _, I2, rfl, q _ _ (I1.hok.fresh (Nat.le_refl _)) rfl rfl⟩
/-- sorted of a tuple -/
theorem sorted_seq {prog : Program} {w : World} {A : Around} {E : Value → Shared → Prop} {s : Shared} {l : Addr} {vs : List Value} {ltv : Value → Value → Bool} {Q : Value → Shared → Prop} (O : SrtO.Swo ltv) (hl : IsTup s.heap l vs.toArray) (hz : vs.length ≤ sizeLine)
    (hS : 2 ≤ vs.length → ∀ (h1 : Heap) (a : Addr), h1.get? a = some (seqObj "list" vs.toArray 0) → (∀ b o, s.heap.get? b = some o → b ≠ a ∧ h1.get? b = some o) → SrtO.SortableO prog w A.in1.in1 { s with heap := h1 } a vs ltv)
    (h : ∀ (out : List Value) (h1 h' : Heap) (d : Addr), SrtO.Srtd ltv out → SrtO.Stb ltv out vs → (∀ b o, s.heap.get? b = some o → h1.get? b = some o) → (∀ b o, h1.get? b = some o → h'.get? b = some o) → h1.objs.size ≤ d → (∃ n, h'.get? d = some (seqObj "list" out.toArray n)) → Q (.ref d) { s with heap := h' }) :
    wpAny (model prog w) A (call (.builtin "sorted") [.ref l]) Q E s := by
  obtain ⟨o, ho, hcl, n, hd⟩ := hl
  apply Calls.call_function_entry kind_sorted plain_sorted entry_sorted (args_sorted1 _)
  unfold Builtin.«sorted»
  apply wpAny_bind (m := checkCount "sorted" 1 1 _)
  apply wpAny_pure
  apply wpAny_bind
  refine wpAny_collect_seq l (.inr rfl) ho hcl hd (fun h1 k1 => ?_) (by rw [List.size_toArray]; exact hz)
  rw [List.toList_toArray]
  apply wpAny_bind
  refine wpAny_newList ?_ hz
  have new : (h1.push (seqObj "list" vs.toArray 0)).get? h1.objs.size = some (seqObj "list" vs.toArray 0) := Heap.get?_push_size _ rfl
  have old : ∀ b o, s.heap.get? b = some o → b ≠ h1.objs.size ∧ (h1.push (seqObj "list" vs.toArray 0)).get? b = some o := fun b o e => ⟨Nat.ne_of_lt (Heap.lt_size (k1 b o e)), Heap.get?_push_of_some _ (k1 b o e)⟩
  show wpAny _ _ _ _ _ { s with heap := h1.push (seqObj "list" vs.toArray 0) }
  apply wpAny_bind
  refine wpAny_holding (wpAny_call_entry slot_list_sort ⟨_, new, rfl⟩ entry_list_sort (SrtO.list_sort_ord O new hz (fun h2 => hS h2 _ _ new old) fun out hs hb => ⟨_, rfl, ?_⟩) (args_list_sort _))
  refine wpAny_pure ⟨_, rfl, h out h1 _ _ hs hb k1 (fun b o e => ?_) (Nat.le_refl _) (sortedHeap_at new)⟩
  have lt := Heap.lt_size e
  rw [sortedHeap_old (Nat.ne_of_lt lt) (by rw [size_push']; exact Nat.lt_succ_of_lt lt)]
  exact Heap.get?_push_of_some _ e
/-- sorted of a tuple of pairs of whole numbers -/
theorem cr_sortedPT : CallR X (.builtin "sorted") (fun vs H Q => ∃ (a : Addr) (xs : List V) (k : V → Int × Int), vs = [V.ref a] ∧ SqT X.K H a xs ∧ (∀ x ∈ xs, ∃ t, x = V.ref t ∧ H t = some (.tup [.int (k x).1, .int (k x).2])) ∧
    ∀ ys p, SrtO.Srtd (ltP k) ys → SrtO.Stb (ltP k) ys xs → H p = none → Q (.ref p) (upd H p (.lst ys))) := by
  intro pins s σ H vs us Q I r h
  obtain ⟨a, xs, k, rfl, hs, hx, q⟩ := h
  obtain ⟨its, rv, hl, hz⟩ := I.tuple hs
  obtain ⟨u, rfl, ru⟩ := vals1 r
  cases ru
  obtain ⟨e1, e2⟩ := refs_back rv fun x m => let ⟨t, e, _⟩ := hx x m; ⟨t, e⟩
  have prs : ∀ v ∈ its, Srt.IsPair s.heap v (k (backV v)).1 (k (backV v)).2 := by
    intro v hv
    obtain ⟨t, rfl⟩ := e2 v hv
    have hm : V.ref t ∈ xs := by rw [e1]; exact List.mem_map.mpr ⟨_, hv, rfl⟩
    obtain ⟨t', e, ht⟩ := hx _ hm
    cases e
    obtain ⟨_, its2, r2, o, ho, hc, n, hd⟩ := I.hok _ _ ht
    obtain ⟨u1, u2, rfl, ⟨t1, rfl⟩, t2, rfl⟩ := vals2 r2
    exact ⟨t, o, t1, t2, n, rfl, ho, hc, hd⟩
  refine sorted_seq (SrtO.swo_lex fun u => k (backV u)) hl (by rw [← rv.length]; exact hz) (fun h2 h1 b hb kk => ?_) fun out h1 h' d o1 o2 k1 k2 far nw => ?_
  · refine SrtO.pairs_sortableO (s := { s with heap := h1 }) (by omega) (fun v hm => (prs v hm).keeps fun c o e _ => (kk c o e).2) fun o e => ?_
    cases Option.some.inj (e.symm.trans hb)
    intro c
    exact absurd (Value.type.inj c) (by decide)
  · have I1 : L2.Inv X pins σ H { s with heap := h1 } := I.kept (t' := s.toks) k1
    obtain ⟨n, hn⟩ := nw
    have rf : ∀ u ∈ out, ∃ a, u = Value.ref a := fun u hu => e2 u (o2.perm.mem_iff.mp hu)
    have st : SrtO.Stb (ltP k) (out.map backV) xs := by rw [e1]; exact SrtO.Stb.map (ltP_swo k) backV o2
    refine ⟨.ref d, upd H d (.lst (out.map backV)), I1.laid (t' := s.toks) k2 far ⟨?_, out, n, vals_back rf, hn⟩, rfl, q _ d (SrtO.srtd_map o1) st (I1.hok.fresh far)⟩
    rw [st.len]
    exact hz
theorem pairs2 {pins : List (Addr × Obj)} {σ : L2.St} {H : Hp} {s : Shared} (I : L2.Inv X pins σ H s) : ∀ {ps : List Addr} {kvs : List (Key × V)}, Paired (fun p kv => SqT X.K H p [kV kv.1, kv.2]) ps kvs →
    ∃ (prs : List (Key × Value)) (us : List (Value × Value)), KV kvs prs ∧ prs.length = ps.length ∧ us.length = ps.length ∧
      ∀ (j : Nat) (k v : Value), us[j]? = some (k, v) → ∃ b q, ps[j]? = some b ∧ IsTup s.heap b #[k, v] ∧ prs[j]? = some (q, v) ∧ (mixKind X.prog X.w).is q k = true := by
  intro ps
  induction ps with
  | nil =>
    intro kvs h
    cases h
    exact ⟨[], [], .nil, rfl, rfl, fun j k v e => nomatch e⟩
  | cons p ps ih =>
    intro kvs h
    cases h with
    | cons h t =>
      obtain ⟨prs, us, r, l1, l2, f⟩ := ih t
      obtain ⟨its, rv, ht, _⟩ := I.tuple h
      obtain ⟨u, y, rfl, ru, ry⟩ := vals2 rv
      refine ⟨(_, y) :: prs, (u, y) :: us, .cons ⟨rfl, ry⟩ r, congrArg (· + 1) l1, congrArg (· + 1) l2, fun j k v e => ?_⟩
      cases j with
      | zero =>
        cases (show (u, y) = (k, v) from Option.some.inj e)
        exact ⟨p, _, rfl, ht, rfl, kV_is ru⟩
      | succ j => exact f j k v e
/-- dict of a tuple of pairs -/
theorem cr_dictPT (hcalm : X.calm = true) : CallR X (.type "dict") (fun xs H Q => ∃ (a : Addr) (ps : List Addr) (kvs : List (Key × V)), xs = [V.ref a] ∧ BareW X.K H a (ps.map V.ref) ∧ Paired (fun p kv => SqT X.K H p [kV kv.1, kv.2]) ps kvs ∧
    ∀ p, H p = none → Q (.ref p) (upd H p (.dK (mergeK [] kvs)))) := by
  intro pins s σ H xs us Q I r h
  obtain ⟨a, ps, kvs, rfl, hbw, hp, q⟩ := h
  obtain ⟨u, rfl, ru⟩ := vals1 r
  cases ru
  have hbx : ∃ (o : Obj) (its : List Value) (n : Nat), s.heap.get? a = some o ∧ (ps.map V.ref).length ≤ sizeLine ∧ Vals (ps.map V.ref) its ∧ o.data = .seq its.toArray n ∧ o.cls = .type "tuple" ∧ o.dict = none := by
    rcases hbw with ⟨o, hb, hcl, hdn⟩ | ⟨o, its, n, h1, h2, h3, h4, h5, h6⟩
    · obtain ⟨ho, hz, its, rv, o2, ho2, _, n, hdat⟩ := I.hok _ _ hb
      cases Option.some.inj (ho.symm.trans ho2)
      exact ⟨o, its, n, ho, hz, rv, hdat, hcl, hdn⟩
    · exact ⟨o, its, n, I.kIn _ _ h1, h5, h6, h4, h2, h3⟩
  obtain ⟨o, its, n, ho, hz, rv, hdat, hcl, hdn⟩ := hbx
  have ei := refs_at rv
  subst ei
  rw [List.length_map] at hz
  obtain ⟨prs, us, rel, l1, l2, f⟩ := pairs2 I hp
  have hm : (s.heap.objs.size == sysModules) = false := beq_eq_false_iff_ne.mpr (Nat.ne_of_gt I.big)
  have hlen : (mergeK [] kvs).length ≤ sizeLine := by
    refine Nat.le_trans (length_mergeK kvs []) ?_
    rw [List.length_nil, Nat.zero_add, rel.length, l1]
    exact hz
  refine PySem.call_dict_pairs (knd := mixKind X.prog X.w) (kvs := prs) (PairArg.tuple a (ps.map Value.ref).toArray (fun j => (ps[j]?).getD 0) us) (I.ok.hd hcalm) ⟨⟨o, n, ho, hcl, hdn, hdat⟩, ?_, fun j k v e => ?_⟩ ⟨l1.trans l2.symm, fun j k v e => ?_⟩ (by rw [l2]; exact hz) fun h' tk hd k => ?_
  · rw [List.size_toArray, List.length_map, l2]
  · obtain ⟨b, q', e1, e2, _⟩ := f j k v e
    have at_ : (fun j => (ps[j]?).getD 0) j = b := by
      show (ps[j]?).getD 0 = b
      rw [e1]
      rfl
    rw [at_]
    refine ⟨?_, .inl e2⟩
    rw [List.getElem?_toArray, List.getElem?_map, e1]
    rfl
  · obtain ⟨b, q', _, _, e3, e4⟩ := f j k v e
    exact ⟨q', e3, e4⟩
  · exact ⟨.ref s.heap.objs.size, upd H s.heap.objs.size (.dK (mergeK [] kvs)), I.laid (t' := tk) (fun b o e => k b o (fun z => nomatch z) e) (Nat.le_refl _) (show ObjOk X.prog X.w _ _ _ (.dK (mergeK [] kvs)) from ⟨hlen, hm, merged [] prs, KV.merge rel .nil, hd⟩), rfl, q _ (I.hok.fresh (Nat.le_refl _))⟩
end
end SR
set_option Elab.async false
set_option linter.all false
set_option maxRecDepth 100000
set_option maxHeartbeats 4000000
namespace SR
open PySem L2
theorem same_new {H : Hp} {p : Addr} {o : HO} (h : H p = none) : Same H (upd H p o) := fun b u z => (upd_ne (ne_of_none z h)).trans z
/-- a value of any kind; where it is a tuple, what it holds -/
inductive Val2 (K : PySem.W.Frag) (H : Hp) : V → Option (List V) → Prop where
  | tup {a : Addr} {xs : List V} (h : SqT K H a xs) (hx : ∀ x ∈ xs, ∃ t, AnyT K H x t) : Val2 K H (.ref a) (some xs)
  | oth {v : V} {t : String} (h : AnyT K H v t) (ht : (t == "tuple") = false) : Val2 K H v none
theorem Val2.same {K : PySem.W.Frag} {H H' : Hp} {v : V} {o : Option (List V)} (e : Same H H') (h : Val2 K H v o) : Val2 K H' v o := by
  cases h with
  | tup h hx => exact .tup (SqT.same e h) fun x m => let ⟨t, z⟩ := hx x m; ⟨t, z.same e⟩
  | oth h ht => exact .oth (h.same e) ht
def pairO : Option (List V) → Bool
  | some [x, y] => isI x && isI y
  | _ => false
def holdO : Option (List V) → Bool
  | some [x, y] => btw 1 99 x && upto x y
  | _ => false
def spIsPair (K : PySem.W.Frag) : Sp := fun vs H Q _ => ∃ v o, vs = [v] ∧ Val2 K H v o ∧ Q (.bl (pairO o)) H
def t_is_pair (K : PySem.W.Frag) : TS := tSeq (tIfS (tOr (tNot (tB (tCB (rIsi K) (tCons (tVar 0) (tCons (tC (.ty "tuple")) tNil))))) (tTest (tOp rNe (tCB (qLen K) (tCons (tVar 0) (tNil))) (tC (.int 2)))))
  (tRet (tC (.bl false)))
  (tNext))
  (tRet (tAndV (tCall (spIsInt K) [] E0 (tCons (tOp (rIxT K) (tVar 0) (tC (.int 0))) (tNil))) (tCall (spIsInt K) [] E0 (tCons (tOp (rIxT K) (tVar 0) (tC (.int 1))) (tNil)))))
theorem pure_is_pair {K : PySem.W.Frag} (vs : List V) (H : Hp) (Q : VK) (E : XK) (h : spIsPair K vs H Q E) : t_is_pair K { nx := fun _ H' => Q .non H', rt := Q } (start ["value"] vs) H := by
  obtain ⟨v, o, rfl, hv, q⟩ := h
  cases hv with
  | oth h ht =>
    refine ⟨_, rfl, _, _, _, _, _, rfl, .ty _, h.ty, h.kit.2.2.1, _, rfl, ?_⟩
    rw [ht]
    exact iteT (iteT q)
  | @tup a xs h hx =>
    have hy : AnyT K H (.ref a) "tuple" := .tup h
    refine ⟨_, rfl, _, _, _, _, _, rfl, .ty _, hy.ty, hy.kit.2.2.1, _, rfl, iteF ⟨_, rfl, a, xs, rfl, .inr h, rfl, _, rfl, ?_⟩⟩
    by_cases hl : xs.length = 2
    · match xs, hl with
      | [x, y], _ =>
        refine iteNS rfl ?_
        obtain ⟨t1, k1⟩ := hx x (by simp)
        obtain ⟨t2, k2⟩ := hx y (by simp)
        refine ⟨_, rfl, a, _, 0, _, rfl, rfl, h, rfl, x, t1, rfl, k1, _, rfl, ?_⟩
        have q : Q (.bl (isI x && isI y)) H := q
        cases e : isI x with
        | true =>
          rw [e] at q
          exact iteT ⟨_, rfl, a, _, 1, _, rfl, rfl, h, rfl, y, t2, rfl, k2, q⟩
        | false =>
          rw [e] at q
          exact iteF q
    · have e : ¬ V.int (xs.length : Int) = V.int 2 := fun z => hl (by have := V.int.inj z; omega)
      have e2 : pairO (some xs) = false := by
        match xs, hl with
        | [], _ => rfl
        | [_], _ => rfl
        | [_, _], hl => exact absurd rfl hl
        | _ :: _ :: _ :: _, _ => rfl
      rw [decide_eq_false e]
      rw [e2] at q
      exact iteT q
end SR
set_option Elab.async false
set_option linter.all false
set_option maxRecDepth 100000
set_option maxHeartbeats 4000000
namespace SR
open PySem L2
structure Ent where
  c : Int
  u : Int
  i : Int
  n : Int
def Ent.ok (e : Ent) : Prop := (1 ≤ e.c ∧ e.c ≤ 99) ∧ 0 ≤ e.u ∧ e.u ≤ e.c
end SR
set_option Elab.async false
set_option linter.all false
set_option maxRecDepth 100000
set_option maxHeartbeats 4000000
namespace SR
open PySem L2
def EntAt (H : Hp) (p : Addr) (e : Ent) : Prop := ∃ h, H p = some (.tup [.ref h, .int e.i, .int e.n]) ∧ H h = some (.tup [.int e.c, .int e.u])
def LineAt (H : Hp) (r : Addr) (l : Ent × Ent × Ent) : Prop := ∃ p1 p2 p3, H r = some (.lst [.ref p1, .ref p2, .ref p3]) ∧ EntAt H p1 l.1 ∧ EntAt H p2 l.2.1 ∧ EntAt H p3 l.2.2
theorem EntAt.same {H H' : Hp} {p : Addr} {e : Ent} (s : Same H H') (h : EntAt H p e) : EntAt H' p e := let ⟨a, h1, h2⟩ := h; ⟨a, s _ _ h1, s _ _ h2⟩
theorem LineAt.same {H H' : Hp} {p : Addr} {e : Ent × Ent × Ent} (s : Same H H') (h : LineAt H p e) : LineAt H' p e := let ⟨a, b, c, h1, h2, h3, h4⟩ := h; ⟨a, b, c, s _ _ h1, h2.same s, h3.same s, h4.same s⟩
theorem EntAt.upd {H : Hp} {p r : Addr} {e : Ent} {xs ys : List V} (hr : H r = some (.lst xs)) (h : EntAt H p e) : EntAt (upd H r (.lst ys)) p e := by
  obtain ⟨a, h1, h2⟩ := h
  refine ⟨a, (upd_ne ?_).trans h1, (upd_ne ?_).trans h2⟩
  · exact ne_of h1 hr (by intro z; cases z)
  · exact ne_of h2 hr (by intro z; cases z)
theorem same_upd {H H' : Hp} {r : Addr} {o : HO} (s : Same H H') (h : H r = none) : Same H (upd H' r o) := fun b u z => (upd_ne (ne_of_none z h)).trans (s b u z)
def okL (l : Ent × Ent × Ent) : Prop := l.1.ok ∧ l.2.1.ok ∧ l.2.2.ok
/-- the two entries at the places k and k + 1 -/
def at1 (k : Int) (l : Ent × Ent × Ent) : Ent := if k = 0 then l.1 else l.2.1
def at2 (k : Int) (l : Ent × Ent × Ent) : Ent := if k = 0 then l.2.1 else l.2.2
/-- the two tuples of pairs -/
def prs (c u d x : Int) : PyData := .tuple [pr2 c u, pr2 d x]
theorem val2_pr {K : PySem.W.Frag} {H : Hp} {p : Addr} {c u : Int} (h : H p = some (.tup [.int c, .int u])) : Val2 K H (.ref p) (some [.int c, .int u]) := .tup (SqT.of h) fun x hx => by
  simp only [List.mem_cons, List.not_mem_nil, or_false] at hx
  rcases hx with rfl | rfl
  · exact ⟨_, .int _⟩
  · exact ⟨_, .int _⟩
end SR
set_option Elab.async false
set_option linter.all false
set_option maxRecDepth 100000
set_option maxHeartbeats 4000000
namespace SR
open PySem L2
inductive F2 {α β : Type} (R : α → β → Prop) : List α → List β → Prop where
  | nil : F2 R [] []
  | cons {x : α} {y : β} {xs : List α} {ys : List β} (h : R x y) (t : F2 R xs ys) : F2 R (x :: xs) (y :: ys)
end SR
set_option Elab.async false
set_option linter.all false
set_option maxRecDepth 100000
set_option maxHeartbeats 4000000
namespace SR
open PySem L2
/-- no holder -/
def Bad (K : PySem.W.Frag) (H : Hp) (v : V) : Prop := ∃ o, Val2 K H v o ∧ holdO o = false
def Bads (K : PySem.W.Frag) (H : Hp) (vs : List V) : Prop := ∀ v ∈ vs, Bad K H v
theorem Bads.same {K : PySem.W.Frag} {H H' : Hp} {vs : List V} (s : Same H H') (h : Bads K H vs) : Bads K H' vs := fun v m => let ⟨o, a, b⟩ := h v m; ⟨o, a.same s, b⟩
theorem Bads.cons {K : PySem.W.Frag} {H : Hp} {v : V} {vs : List V} (a : Bad K H v) (h : Bads K H vs) : Bads K H (v :: vs) := fun x m => by
  rcases List.mem_cons.mp m with rfl | m
  · exact a
  · exact h x m
theorem Bads.oth {K : PySem.W.Frag} {H : Hp} {v : V} {vs : List V} {t : String} (a : AnyT K H v t) (ht : (t == "tuple") = false) (h : Bads K H vs) : Bads K H (v :: vs) := h.cons ⟨none, .oth a ht, rfl⟩
def Anys (K : PySem.W.Frag) (H : Hp) (xs : List V) : Prop := ∀ x ∈ xs, ∃ t, AnyT K H x t
/-- what holds while odd values are made: the draws' state, what it kept, the odd values -/
structure Sk (K : PySem.W.Frag) (H0 : Hp) (d g c : Addr) (b : Nat) (vs : List V) (H : Hp) : Prop where
  st : StB H d g c b
  kp : Same H0 H
  bd : Bads K (hid d g H) vs
theorem hid_same_new {d g p : Addr} {H : Hp} {o : HO} (h : H p = none) : Same (hid d g H) (hid d g (upd H p o)) := Kp.hid (Kp.new h)
theorem Sk.new {K : PySem.W.Frag} {H0 H : Hp} {d g c p : Addr} {b : Nat} {vs : List V} {o : HO} (k : Sk K H0 d g c b vs H) (h : H p = none) : Sk K H0 d g c b vs (upd H p o) := ⟨k.st.new h, k.kp.trans (same_new h), k.bd.same (hid_same_new h)⟩
theorem Sk.tup {K : PySem.W.Frag} {H0 H : Hp} {d g c p : Addr} {b : Nat} {vs xs : List V} (k : Sk K H0 d g c b vs H) (h : H p = none) (hx : Anys K (hid d g H) xs) (hf : holdO (some xs) = false) : Sk K H0 d g c b (.ref p :: vs) (upd H p (.tup xs)) := by
  obtain ⟨p1, p2, _⟩ := k.st.off h
  exact ⟨k.st.new h, k.kp.trans (same_new h), (k.bd.same (hid_same_new h)).cons ⟨some xs, .tup (SqT.of (hid_new p1 p2)) fun x m => let ⟨t, z⟩ := hx x m; ⟨t, z.same (hid_same_new h)⟩, hf⟩⟩
theorem Sk.lst {K : PySem.W.Frag} {H0 H : Hp} {d g c p : Addr} {b : Nat} {vs xs : List V} (k : Sk K H0 d g c b vs H) (h : H p = none) : Sk K H0 d g c b (.ref p :: vs) (upd H p (.lst xs)) := by
  obtain ⟨p1, p2, _⟩ := k.st.off h
  exact ⟨k.st.new h, k.kp.trans (same_new h), (k.bd.same (hid_same_new h)).oth (.lst (SqL.of (hid_new p1 p2))) rfl⟩
theorem Sk.dct {K : PySem.W.Frag} {H0 H : Hp} {d g c p : Addr} {b : Nat} {vs : List V} (k : Sk K H0 d g c b vs H) (h : H p = none) : Sk K H0 d g c b (.ref p :: vs) (upd H p (.dK [])) := by
  obtain ⟨p1, p2, _⟩ := k.st.off h
  exact ⟨k.st.new h, k.kp.trans (same_new h), (k.bd.same (hid_same_new h)).oth (.dct (.inl (hid_new p1 p2))) rfl⟩
theorem Sk.oth {K : PySem.W.Frag} {H0 H : Hp} {d g c : Addr} {b : Nat} {v : V} {vs : List V} {t : String} (k : Sk K H0 d g c b vs H) (a : AnyT K (hid d g H) v t) (ht : (t == "tuple") = false) : Sk K H0 d g c b (v :: vs) H := ⟨k.st, k.kp, k.bd.oth a ht⟩
end SR
set_option Elab.async false
set_option linter.all false
set_option maxRecDepth 100000
set_option maxHeartbeats 4000000
set_option Elab.async false
set_option linter.all false
set_option maxRecDepth 100000
set_option maxHeartbeats 4000000
namespace SR
open PySem L2
/-- by keywords alone; their number apart -/
theorem pe_kK1 {X : Cx} {CX : CXT} {j k n : Nat} {x : Str} {ps ks : List Str} {sp : Sp} {gV : List V → List V → List V} {kws : List Keyword} {tk : TA} {p pos : Pos} {E : L2.St → XK} (c : KnK X.prog X.w X.K X.mg X.base CX k x ps sp 0 ks gV) (hr : Room j X.A) (hk : k ≤ j) (hg : Gl X x) (hx : ∀ σ, PassesAt CX X σ (E σ)) (hkw : PK X kws tk)
    (hn : ks.length = n := by rfl) (hall : (backToKw pos (keywordEach kws X.env)).all (·.1.isSome) = true := by rfl) (hks : (backToKw pos (keywordEach kws X.env)).filterMap (·.1) = ks := by rfl) (hdb : (x == ("__debug__" : Str)) = false := by decide)
    (hpl : ((backTo pos (starEach [] X.env)).any (·.1) || (backToKw pos (keywordEach kws X.env)).any (·.1.isNone)) = false := by rfl) :
    PE X (.Call (.Name x p) [] kws pos) (tKw n sp gV E tNil tk) := by
  subst hn
  exact pe_kK0 c hr hk hg hx hkw hall hks hdb hpl
end SR
set_option Elab.async false
set_option linter.all false
set_option maxRecDepth 100000
set_option maxHeartbeats 4000000
namespace SR
open PySem PySem.Spec PyProof.Rows L2
def qDictOf (K : PySem.W.Frag) : List V → Hp → VK → Prop := fun xs H Q => (∃ (a : Addr) (ps : List Addr) (kvs : List (Key × V)), xs = [.ref a] ∧ SqL K H a (ps.map V.ref) ∧ Paired (fun p kv => SqT K H p [kV kv.1, kv.2]) ps kvs ∧ ∀ p, H p = none → Q (.ref p) (upd H p (.dK (mergeK [] kvs)))) ∨
  ∃ (a : Addr) (ps : List Addr) (kvs : List (Key × V)), xs = [V.ref a] ∧ BareW K H a (ps.map V.ref) ∧ Paired (fun p kv => SqT K H p [kV kv.1, kv.2]) ps kvs ∧ ∀ p, H p = none → Q (.ref p) (upd H p (.dK (mergeK [] kvs)))
def qSorted (K : PySem.W.Frag) : List V → Hp → VK → Prop := fun vs H Q => rSortedPO K vs H Q ∨ ∃ (a : Addr) (xs : List V) (k : V → Int × Int), vs = [V.ref a] ∧ SqT K H a xs ∧ (∀ x ∈ xs, ∃ t, x = V.ref t ∧ H t = some (.tup [.int (k x).1, .int (k x).2])) ∧
    ∀ ys p, SrtO.Srtd (ltP k) ys → SrtO.Stb (ltP k) ys xs → H p = none → Q (.ref p) (upd H p (.lst ys))
def qTupOf (K : PySem.W.Frag) : List V → Hp → VK → Prop := fun xs H Q => ∃ p ys, xs = [.ref p] ∧ SqL K H p ys ∧ ∀ l o, H l = none → o.cls = .type "tuple" → o.dict = none → Q (.ref l) (upd H l (.frz o (.tup ys)))
def qLenSet (w : World) : List V → Hp → VK → Prop := fun xs H Q => ∃ a S n, xs = [V.ref a] ∧ H a = some (SetO w a S n) ∧ Q (.int n) H
def TupAt (H : Hp) (t : Addr) (p : Int × Int) : Prop := H t = some (.tup [.int p.1, .int p.2])
/-- a list, or a tuple whose object is known, of pairs of whole numbers -/
def PairsAt (K : PySem.W.Frag) (H : Hp) (a : Addr) (ps : List (Int × Int)) : Prop := ∃ ts : List Addr, (SqL K H a (ts.map V.ref) ∨ BareW K H a (ts.map V.ref)) ∧ Paired (TupAt H) ts ps
theorem Bare.same {H H' : Hp} {a : Addr} {xs : List V} (e : Same H H') (h : Bare H a xs) : Bare H' a xs := let ⟨o, h1, h2⟩ := h; ⟨o, e _ _ h1, h2⟩
theorem BareW.same {K : PySem.W.Frag} {H H' : Hp} {a : Addr} {xs : List V} (e : Same H H') (h : BareW K H a xs) : BareW K H' a xs := h.imp (Bare.same e) id
theorem paired_imp {α β : Type} {F G : α → β → Prop} (f : ∀ x y, F x y → G x y) {xs : List α} {ys : List β} (h : Paired F xs ys) : Paired G xs ys := L2.Paired.mapP h f
theorem PairsAt.same {K : PySem.W.Frag} {H H' : Hp} {a : Addr} {ps : List (Int × Int)} (e : Same H H') (h : PairsAt K H a ps) : PairsAt K H' a ps := by
  obtain ⟨ts, h1, h2⟩ := h
  exact ⟨ts, h1.imp (SqL.same e) (BareW.same e), paired_imp (fun _ _ z => e _ _ z) h2⟩
theorem paired_len {α β : Type} {F : α → β → Prop} {xs : List α} {ys : List β} (h : Paired F xs ys) : xs.length = ys.length := h.length
theorem paired_at {α β : Type} {F : α → β → Prop} : ∀ {xs : List α} {ys : List β}, Paired F xs ys → ∀ {i : Nat} {x : α}, xs[i]? = some x → ∃ y, ys[i]? = some y ∧ F x y
  | _, _, .nil, _, _, e => nomatch e
  | _, _, .cons h t, 0, _, e => ⟨_, rfl, Option.some.inj e ▸ h⟩
  | _, _, .cons h t, i + 1, _, e => paired_at t e
/-- [elt for .. in a], a pair after the other; the items change nothing -/
theorem lc_pairs {K : PySem.W.Frag} {te : TE} {g : TG} {telt : TE} {vs : List Nat} {σ : L2.St} {H : Hp} {a : Addr} {ps : List (Int × Int)} {Q : VK} (f : Int × Int → V) (hte : ∀ R : VK, R (.ref a) H → te σ H R) (hp : PairsAt K H a ps) (hl : ps.length ≤ 1000)
    (hs : ∀ t p H' (R : VK), Same H H' → p ∈ ps → TupAt H' t p → R (f p) H' → g (.ref t) (wipe σ vs) H' fun σ2 H2 => wipe σ2 vs = wipe σ vs ∧ telt σ2 H2 R)
    (hQ : ∀ D H', H D = none → Same H H' → H' D = some (.lst (ps.map f)) → Q (.ref D) H') :
    tLc (fun σ H R => iList K te σ H R ∨ iTup K te σ H R) g tYes telt vs σ H Q := by
  obtain ⟨ts, hsq, hts⟩ := hp
  have hlen : (ts.map V.ref).length = ps.length := by rw [List.length_map, paired_len hts]
  have step : ∀ (D : Addr), H D = none → ∀ i x H1 H2, i < (ts.map V.ref).length → (Same H H1 ∧ H1 D = some (.lst ((ps.take i).map f))) → YAt (ts.map V.ref) i H1 x H2 → g x (wipe σ vs) H2 fun σ2 H3 => wipe σ2 vs = wipe σ vs ∧ tYes σ2 H3 fun b H4 =>
      if b = true then telt σ2 H4 fun y H5 => ∃ acc, H5 D = some (.lst acc) ∧ acc.length < sizeLine ∧ (Same H (upd H5 D (.lst (acc ++ [y]))) ∧ upd H5 D (.lst (acc ++ [y])) D = some (.lst ((ps.take (i + 1)).map f))) else Same H H4 ∧ H4 D = some (.lst ((ps.take (i + 1)).map f)) := by
    rintro D hD i x H1 H2 hi ⟨s1, d1⟩ ⟨rfl, hx⟩
    rw [List.getElem?_map] at hx
    obtain ⟨t, ht, rfl⟩ := Option.map_eq_some_iff.mp hx
    obtain ⟨p, hpi, hat⟩ := paired_at hts ht
    refine hs t p H2 _ s1 (List.mem_of_getElem? hpi) (s1 _ _ hat) ⟨_, d1, ?_, same_upd s1 hD, ?_⟩
    · rw [List.length_map, List.length_take]
      exact Nat.lt_of_le_of_lt (Nat.le_trans (Nat.min_le_right _ _) hl) (by decide)
    · rw [upd_same, List.take_succ, hpi, List.map_append]
      rfl
  have fin : ∀ D, H D = none → ∀ H1, (Same H H1 ∧ H1 D = some (.lst ((ps.take (ts.map V.ref).length).map f))) → Q (.ref D) H1 := by
    rintro D hD H1 ⟨s1, d1⟩
    rw [hlen, List.take_length] at d1
    exact hQ D H1 hD s1 d1
  rcases hsq with hsq | hsq
  · refine .inl (hte _ ⟨a, rfl, ⟨_, hsq⟩, fun D hD => ?_⟩)
    exact lc_it (walk_list (K := K) (a := a) (xs := ts.map V.ref)) (fun i H1 => Same H H1 ∧ H1 D = some (.lst ((ps.take i).map f))) ⟨same_new hD, upd_same⟩ (fun i H1 _ h => SqL.same h.1 hsq) (step D hD) (fin D hD)
  · refine .inr (hte _ ⟨a, rfl, ⟨_, hsq.sq⟩, fun D hD => ?_⟩)
    exact lc_it (walk_tup (K := K) (a := a) (xs := ts.map V.ref)) (fun i H1 => Same H H1 ∧ H1 D = some (.lst ((ps.take i).map f))) ⟨same_new hD, upd_same⟩ (fun i H1 _ h => SqT.same h.1 hsq.sq) (step D hD) (fin D hD)
/-- {elt for .. in a}, whole numbers that differ -/
theorem sc_pairs {w : World} {K : PySem.W.Frag} {te : TE} {g : TG} {telt : TE} {vs : List Nat} {σ : L2.St} {H : Hp} {a : Addr} {ps : List (Int × Int)} {Q : VK} (f : Int × Int → Int) (hte : ∀ R : VK, R (.ref a) H → te σ H R) (hp : PairsAt K H a ps) (hl : ps.length ≤ 1000) (hd : (ps.map f).Nodup)
    (hs : ∀ t p H' (R : VK), Same H H' → p ∈ ps → TupAt H' t p → R (.int (f p)) H' → g (.ref t) (wipe σ vs) H' fun σ2 H2 => wipe σ2 vs = wipe σ vs ∧ telt σ2 H2 R)
    (hQ : ∀ D H' S, H D = none → Same H H' → H' D = some (SetO w D S ps.length) → Q (.ref D) H') :
    tScN w (fun σ H R => iList K te σ H R ∨ iTup K te σ H R) g tYes telt vs σ H Q := by
  obtain ⟨ts, hsq, hts⟩ := hp
  have hlen : (ts.map V.ref).length = ps.length := by rw [List.length_map, paired_len hts]
  have step : ∀ (D : Addr), H D = none → ∀ i x H1 H2, i < (ts.map V.ref).length → (Same H H1 ∧ ∃ S, H1 D = some (SetO w D S i) ∧ ∀ k, S k = true ↔ k ∈ (ps.take i).map f) → YAt (ts.map V.ref) i H1 x H2 → g x (wipe σ vs) H2 fun σ2 H3 => wipe σ2 vs = wipe σ vs ∧ tYes σ2 H3 fun b H4 =>
      if b = true then telt σ2 H4 fun y H5 => rSAdd w (.ref D) [y] H5 fun _ H6 => (Same H H6 ∧ ∃ S, H6 D = some (SetO w D S (i + 1)) ∧ ∀ k, S k = true ↔ k ∈ (ps.take (i + 1)).map f) else (Same H H4 ∧ ∃ S, H4 D = some (SetO w D S (i + 1)) ∧ ∀ k, S k = true ↔ k ∈ (ps.take (i + 1)).map f) := by
    rintro D hD i x H1 H2 hi ⟨s1, S, d1, m1⟩ ⟨rfl, hx⟩
    rw [List.getElem?_map] at hx
    obtain ⟨t, ht, rfl⟩ := Option.map_eq_some_iff.mp hx
    obtain ⟨p, hpi, hat⟩ := paired_at hts ht
    have tk : ps.take (i + 1) = ps.take i ++ [p] := by
      rw [List.take_succ, hpi]
      rfl
    have new : ¬ S (f p) = true := by
      intro z
      have hm := (m1 _).mp z
      have nd : ((ps.take (i + 1)).map f).Nodup := (List.Sublist.map f (List.take_sublist _ _)).nodup hd
      rw [tk, List.map_append, List.map_singleton] at nd
      exact (List.nodup_append.mp nd).2.2 _ hm _ (List.mem_singleton.mpr rfl) rfl
    refine hs t p H2 _ s1 (List.mem_of_getElem? hpi) (s1 _ _ hat) ⟨D, f p, S, i, rfl, rfl, d1, ?_, same_upd s1 hD, (fun j => S j || decide (j = f p)), ?_, fun k => ?_⟩
    · have : i < 1000 := by omega
      exact Nat.lt_of_lt_of_le (Nat.succ_lt_succ this) (by decide)
    · rw [upd_same, if_neg new]
    · rw [Bool.or_eq_true, m1 k, decide_eq_true_eq, tk, List.map_append, List.mem_append]
      exact or_congr Iff.rfl (by rw [List.map_singleton, List.mem_singleton])
  have fin : ∀ D, H D = none → ∀ H1, (Same H H1 ∧ ∃ S, H1 D = some (SetO w D S (ts.map V.ref).length) ∧ ∀ k, S k = true ↔ k ∈ (ps.take (ts.map V.ref).length).map f) → Q (.ref D) H1 := by
    rintro D hD H1 ⟨s1, S, d1, _⟩
    rw [hlen] at d1
    exact hQ D H1 S hD s1 d1
  have zero : ∀ k : Int, (false = true) ↔ k ∈ (ps.take 0).map f := fun k => ⟨(fun z => nomatch z), (fun z => nomatch z)⟩
  rcases hsq with hsq | hsq
  · refine .inl (hte _ ⟨a, rfl, ⟨_, hsq⟩, fun D hD => ?_⟩)
    exact scN_it (walk_list (K := K) (a := a) (xs := ts.map V.ref)) (fun i H1 => Same H H1 ∧ ∃ S, H1 D = some (SetO w D S i) ∧ ∀ k, S k = true ↔ k ∈ (ps.take i).map f) ⟨same_new hD, _, upd_same, zero⟩ (fun i H1 _ h => SqL.same h.1 hsq) (step D hD) (fin D hD)
  · refine .inr (hte _ ⟨a, rfl, ⟨_, hsq.sq⟩, fun D hD => ?_⟩)
    exact scN_it (walk_tup (K := K) (a := a) (xs := ts.map V.ref)) (fun i H1 => Same H H1 ∧ ∃ S, H1 D = some (SetO w D S i) ∧ ∀ k, S k = true ↔ k ∈ (ps.take i).map f) ⟨same_new hD, _, upd_same, zero⟩ (fun i H1 _ h => SqT.same h.1 hsq.sq) (step D hD) (fin D hD)
end SR
set_option Elab.async false
set_option linter.all false
set_option maxRecDepth 100000
set_option maxHeartbeats 4000000
namespace SR
open PySem PySem.Spec PyProof.Rows L2
@[irreducible] def xLc := @L2.tLc
theorem xLc_eq : @xLc = @L2.tLc := by
  unfold xLc
  rfl
@[irreducible] def xScN := @tScN
theorem xScN_eq : @xScN = @tScN := by
  unfold xScN
  rfl
theorem kit_seq {K : PySem.W.Frag} {H : Hp} {v : V} {t : String} (h : AnyT K H v t) (ht : t = "list" ∨ t = "tuple") : PySem.W.kitAny K (.type t) [.type "list", .type "tuple"] = some true := by
  obtain ⟨_, _, k1, k2, _⟩ := h.kit
  rcases ht with rfl | rfl
  · unfold PySem.W.kitAny
    rw [k2]
    rfl
  · unfold PySem.W.kitAny
    rw [k2]
    show PySem.W.kitAny K (.type "tuple") [.type "tuple"] = some true
    unfold PySem.W.kitAny
    rw [k1]
    rfl
theorem PairsAt.ty {K : PySem.W.Frag} {H : Hp} {a : Addr} {ps : List (Int × Int)} (h : PairsAt K H a ps) : ∃ t, AnyT K H (.ref a) t ∧ (t = "list" ∨ t = "tuple") := by
  obtain ⟨ts, h1 | h1, _⟩ := h
  · exact ⟨_, .lst h1, .inl rfl⟩
  · exact ⟨_, .tup h1.sq, .inr rfl⟩
theorem PairsAt.len {K : PySem.W.Frag} {H : Hp} {a : Addr} {ps : List (Int × Int)} (h : PairsAt K H a ps) : ∃ ys, (SqL K H a ys ∨ SqT K H a ys) ∧ ys.length = ps.length := by
  obtain ⟨ts, h1, h2⟩ := h
  exact ⟨_, h1.imp id BareW.sq, by rw [List.length_map, paired_len h2]⟩
theorem val2_tup {K : PySem.W.Frag} {H : Hp} {t : Addr} {p : Int × Int} (h : TupAt H t p) : Val2 K H (.ref t) (some [.int p.1, .int p.2]) := val2_pr h
def spArePairs (K : PySem.W.Frag) : Sp := fun vs H Q _ => ∃ a ps, vs = [.ref a] ∧ PairsAt K H a ps ∧ (ps.map Prod.fst).Nodup ∧ ps.length ≤ 1000 ∧ ∀ H', Same H H' → Q (.bl true) H'
def t_are_pairs (w : World) (K : PySem.W.Frag) : TS := tSeq (tIfS (tNot (tB (tCB (rIsiT K) (tCons (tVar 0) (tCons (tTup (tCons (tC (.ty "list")) (tCons (tC (.ty "tuple")) (tNil)))) tNil)))))
  (tRet (tC (.bl false)))
  (tNext))
  (tSeq (tIfS (tNot (tB (tCB (rAll K) (tCons (tLc ((fun σ H R => iList K (tVar 0) σ H R ∨ iTup K (tVar 0) σ H R)) (gName 1) (tYes) (tCall (spIsPair K) [] E0 (tCons (tVar 1) (tNil))) [1]) (tNil)))))
  (tRet (tC (.bl false)))
  (tNext))
  (tRet (tOp rEq (tCB (qLenSet w) (tCons (tScN w ((fun σ H R => iList K (tVar 0) σ H R ∨ iTup K (tVar 0) σ H R)) (gTup K 2 (gCons (gName 2) (gCons (gName 3) (gNil)))) (tYes) (tVar 2) [2, 3]) (tNil))) (tCB (qLen K) (tCons (tVar 0) (tNil))))))
theorem pure_are_pairs {w : World} {K : PySem.W.Frag} (vs : List V) (H : Hp) (Q : VK) (E : XK) (h : spArePairs K vs H Q E) : t_are_pairs w K { nx := fun _ H' => Q .non H', rt := Q } (start ["value", "part", "first", "_"] vs) H := by
  obtain ⟨a, ps, rfl, hp, hd, hl, q⟩ := h
  refine ⟨_, rfl, sz (by show 2 ≤ 1000; decide), fun T hT => ?_⟩
  have s1 := same_new (o := .tup [.ty "list", .ty "tuple"]) hT
  have p1 := hp.same s1
  obtain ⟨ty, any, hty⟩ := p1.ty
  refine ⟨_, T, _, _, [.type "list", .type "tuple"], true, rfl, upd_same, .cons (.ty _) (.cons (.ty _) .nil), any.ty, kit_seq any hty, _, rfl, iteF ?_⟩
  generalize upd H T (.tup [.ty "list", .ty "tuple"]) = H1 at s1 p1 ⊢
  try rw [← xLc_eq]
  try rw [← xScN_eq]
  show xLc (fun σ H R => iList K (tVar 0) σ H R ∨ iTup K (tVar 0) σ H R) (gName 1) tYes (tCall (spIsPair K) [] E0 (tCons (tVar 1) tNil)) [1] [some (.ref a), none, none, none] H1 _
  try rw [xLc_eq]
  try rw [xScN_eq]
  refine lc_pairs (K := K) (a := a) (ps := ps) (fun _ => .bl true) (fun R r => ⟨_, rfl, r⟩) p1 hl (fun t p H2 R s2 m2 at2 r => ?_) (fun D H2 hD s2 d2 => ?_)
  · exact ⟨rfl, _, rfl, _, _, rfl, val2_tup at2, r⟩
  have all : (ps.map fun _ => V.bl true) = (ps.map fun _ => true).map V.bl := by rw [List.map_map] <;> rfl
  rw [all] at d2
  have tr : (ps.map fun _ => true).all id = true := by
    rw [List.all_map]
    exact List.all_eq_true.mpr fun _ _ => rfl
  refine ⟨D, _, rfl, SqL.of d2, _, rfl, ?_⟩
  rw [tr]
  refine iteF ?_
  have p2 := p1.same s2
  try rw [← xLc_eq]
  try rw [← xScN_eq]
  show xScN w (fun σ H R => iList K (tVar 0) σ H R ∨ iTup K (tVar 0) σ H R) (gTup K 2 (gCons (gName 2) (gCons (gName 3) gNil))) tYes (tVar 2) [2, 3] [some (.ref a), none, none, none] H2 _
  try rw [xLc_eq]
  try rw [xScN_eq]
  refine sc_pairs (K := K) (a := a) (ps := ps) Prod.fst (fun R r => ⟨_, rfl, r⟩) p2 hl hd (fun t p H3 R s3 m3 at3 r => ?_) (fun D3 H3 S hD3 s3 d3 => ?_)
  · exact ⟨t, _, rfl, SqT.of at3, rfl, _, _, rfl, _, _, rfl, rfl, rfl, _, rfl, r⟩
  obtain ⟨ys, hys, ylen⟩ := (p2.same s3).len
  refine ⟨D3, S, _, rfl, d3, _, rfl, a, ys, rfl, hys, rfl, ?_⟩
  show Q (.bl (decide (V.int (ps.length : Int) = V.int (ys.length : Int)))) H3
  rw [ylen, decide_eq_true rfl]
  exact q H3 (s1.trans (s2.trans s3))
def t_is_wide_box (K : PySem.W.Frag) : TS := tSeq (tIfS (tNot (tB (tCall (spBetween K) [] E0 (tCons (tVar 0) (tCons (tC (.int (-60))) (tCons (tC (.int 60)) (tNil)))))))
  (tRet (tC (.bl false)))
  (tNext))
  (tRet (tCall (spBetween K) [] E0 (tCons (tVar 1) (tCons (tC (.int 2)) (tCons (tC (.int 9)) (tNil))))))
def cap (ks : List (Int × Int)) (i : Int) : Int := (ks.lookup i).getD 1
def sizeOk (p : Int × Int) : Prop := (-60 ≤ p.1 ∧ p.1 ≤ 60) ∧ 2 ≤ p.2 ∧ p.2 ≤ 9
def spAreCapacities (K : PySem.W.Frag) : Sp := fun vs H Q _ => ∃ a ps, vs = [.ref a] ∧ PairsAt K H a ps ∧ (ps.map Prod.fst).Nodup ∧ ps.length ≤ 6 ∧ (∀ p ∈ ps, sizeOk p) ∧ ∀ H', Same H H' → Q (.bl true) H'
def kvsOf (ps : List (Int × Int)) : List (Key × V) := ps.map fun p => (.inl p.1, .int p.2)
theorem merge_new : ∀ (ps : List (Int × Int)) (acc : List (Key × V)), (ps.map Prod.fst).Nodup → (∀ p ∈ ps, (acc.any fun kv => decide (kv.1 = .inl p.1)) = false) → mergeK acc (kvsOf ps) = acc ++ kvsOf ps
  | [], acc, _, _ => (List.append_nil acc).symm
  | p :: ps, acc, nd, h => by
    have nd' := List.nodup_cons.mp nd
    show mergeK (putK acc (.inl p.1) (.int p.2)) (kvsOf ps) = _
    have e : putK acc (.inl p.1) (.int p.2) = acc ++ [(.inl p.1, .int p.2)] := by
      unfold putK
      rw [h p List.mem_cons_self]
      rfl
    rw [e, merge_new ps _ nd'.2 fun q hq => ?_, List.append_assoc]
    · rfl
    · rw [List.any_append, h q (List.mem_cons_of_mem _ hq)]
      show (decide ((Sum.inl p.1 : Key) = .inl q.1) || false) = false
      rw [Bool.or_false]
      refine decide_eq_false fun z => nd'.1 ?_
      rw [Sum.inl.inj z]
      exact List.mem_map_of_mem hq
theorem merge_pairs {ps : List (Int × Int)} (nd : (ps.map Prod.fst).Nodup) : mergeK [] (kvsOf ps) = kvsOf ps := merge_new ps [] nd fun _ _ => rfl
theorem val_pairs (i : Int) : ∀ ps : List (Int × Int), valV (kvsOf ps) (.inl i) = (ps.lookup i).map V.int
  | [] => rfl
  | p :: ps => by
    obtain ⟨j, n⟩ := p
    show valV ((.inl j, .int n) :: kvsOf ps) (.inl i) = _
    rw [List.lookup_cons]
    by_cases e : i = j
    · subst e
      rw [valV_pos rfl, beq_self_eq_true]
      rfl
    · rw [valV_neg (fun z => e (Sum.inl.inj z).symm), val_pairs i ps, beq_eq_false_iff_ne.mpr e]
theorem paired_kvs {K : PySem.W.Frag} {H : Hp} : ∀ {ts : List Addr} {ps : List (Int × Int)}, Paired (TupAt H) ts ps → Paired (fun p (kv : Key × V) => SqT K H p [kV kv.1, kv.2]) ts (kvsOf ps)
  | _, _, .nil => .nil
  | _, _, .cons h t => .cons (SqT.of h) (paired_kvs t)
theorem PairsAt.dict {K : PySem.W.Frag} {H : Hp} {a : Addr} {ps : List (Int × Int)} {Q : VK} (h : PairsAt K H a ps) (nd : (ps.map Prod.fst).Nodup) (q : ∀ p, H p = none → Q (.ref p) (upd H p (.dK (kvsOf ps)))) : qDictOf K [.ref a] H Q := by
  obtain ⟨ts, h1, h2⟩ := h
  have z : ∀ p, H p = none → Q (.ref p) (upd H p (.dK (mergeK [] (kvsOf ps)))) := by
    rw [merge_pairs nd]
    exact q
  cases h1 with
  | inl h1 => exact .inl ⟨a, ts, _, rfl, h1, paired_kvs h2, z⟩
  | inr h1 => exact .inr ⟨a, ts, _, rfl, h1, paired_kvs h2, z⟩
@[irreducible] def xDictOf := @qDictOf
theorem xDictOf_eq : @xDictOf = @qDictOf := by
  unfold xDictOf
  rfl
def spAreContents (K : PySem.W.Frag) : Sp := fun vs H Q _ => ∃ a b ps ks, vs = [.ref a, .ref b] ∧ PairsAt K H a ps ∧ PairsAt K H b ks ∧ (ps.map Prod.fst).Nodup ∧ (ks.map Prod.fst).Nodup ∧ ps.length ≤ 1000 ∧ (∀ p ∈ ps, 1 ≤ p.2 ∧ p.2 ≤ cap ks p.1) ∧ (ps.map Prod.snd).sum ≤ 40 ∧ ∀ H', Same H H' → Q (.bl true) H'
def t_are_contents (K : PySem.W.Frag) : TS := tSeq (tIfS (tNot (tB (tCall (spArePairs K) [] E0 (tCons (tVar 0) (tNil)))))
  (tRet (tC (.bl false)))
  (tNext))
  (tSeq (tAsg (tCB (qDictOf K) (tCons (tVar 1) (tNil))) (gName 2))
  (tSeq (tIfS (tNot (tB (tCB (rAll K) (tCons (tLc ((fun σ H R => iList K (tVar 0) σ H R ∨ iTup K (tVar 0) σ H R)) (gTup K 2 (gCons (gName 3) (gCons (gName 4) (gNil)))) (tYes) (tChain qLe qLe (tC (.int 1)) (tVar 4) (tDGet2 (tVar 2) (tVar 3) (tC (.int 1)))) [3, 4]) (tNil)))))
  (tRet (tC (.bl false)))
  (tNext))
  (tRet (tOp qLe (tCB (rSum K) (tCons (tLc ((fun σ H R => iList K (tVar 0) σ H R ∨ iTup K (tVar 0) σ H R)) (gTup K 2 (gCons (gName 5) (gCons (gName 4) (gNil)))) (tYes) (tVar 4) [4, 5]) (tNil))) (tC (.int 40))))))
theorem pure_are_contents {K : PySem.W.Frag} (vs : List V) (H : Hp) (Q : VK) (E : XK) (h : spAreContents K vs H Q E) : t_are_contents K { nx := fun _ H' => Q .non H', rt := Q } (start ["value", "capacities", "wide", "index", "count", "_"] vs) H := by
  obtain ⟨a, b, ps, ks, rfl, hp, hk, hd, hdk, hl, hc, hsum, q⟩ := h
  refine ⟨_, rfl, a, ps, rfl, hp, hd, hl, fun H1 s1 => ⟨_, rfl, iteF ⟨_, rfl, ?_⟩⟩⟩
  try rw [← xLc_eq]
  try rw [← xScN_eq]
  try rw [← xDictOf_eq]
  show xDictOf K [.ref b] H1 _
  try rw [xLc_eq]
  try rw [xScN_eq]
  try rw [xDictOf_eq]
  refine (hk.same s1).dict hdk fun W hW => ?_
  have s2 := same_new (o := .dK (kvsOf ks)) hW
  have dW : upd H1 W (.dK (kvsOf ks)) W = some (.dK (kvsOf ks)) := upd_same
  generalize upd H1 W (.dK (kvsOf ks)) = H2 at s2 dW ⊢
  have p2 := (hp.same s1).same s2
  try rw [← xLc_eq]
  try rw [← xScN_eq]
  try rw [← xDictOf_eq]
  show xLc (fun σ H R => iList K (tVar 0) σ H R ∨ iTup K (tVar 0) σ H R) (gTup K 2 (gCons (gName 3) (gCons (gName 4) gNil))) tYes (tChain qLe qLe (tC (.int 1)) (tVar 4) (tDGet2 (tVar 2) (tVar 3) (tC (.int 1)))) [3, 4] [some (.ref a), some (.ref b), some (.ref W), none, none, none] H2 _
  try rw [xLc_eq]
  try rw [xScN_eq]
  try rw [xDictOf_eq]
  refine lc_pairs (K := K) (a := a) (ps := ps) (fun _ => .bl true) (fun R r => ⟨_, rfl, r⟩) p2 hl (fun t p H3 R s3 m3 at3 r => ?_) (fun D H3 hD s3 d3 => ?_)
  · refine ⟨t, _, rfl, SqT.of at3, rfl, _, _, rfl, _, _, rfl, rfl, rfl, ?_⟩
    obtain ⟨h1, h2⟩ := hc p m3
    have dW3 := s3 _ _ dW
    have gv : (valV (kvsOf ks) (.inl p.1)).getD (.int 1) = .int (cap ks p.1) := by
      rw [val_pairs]
      unfold cap
      cases ks.lookup p.1 <;> rfl
    refine chain_le (i := 1) (j := p.2) (k := cap ks p.1) (fun R r => r) (fun R r => ⟨_, rfl, r⟩) (fun R r => ⟨_, rfl, W, rfl, .inl ⟨_, .inl dW3⟩, _, rfl, _, DGet.k (k := .inl p.1) dW3, (by rw [gv]; exact r)⟩) ?_
    rw [decide_eq_true h1, decide_eq_true h2]
    exact r
  have all : (ps.map fun _ => V.bl true) = (ps.map fun _ => true).map V.bl := by rw [List.map_map] <;> rfl
  rw [all] at d3
  have tr : (ps.map fun _ => true).all id = true := by
    rw [List.all_map]
    exact List.all_eq_true.mpr fun _ _ => rfl
  refine ⟨D, _, rfl, SqL.of d3, _, rfl, ?_⟩
  rw [tr]
  refine iteF ?_
  have p3 := p2.same s3
  try rw [← xLc_eq]
  try rw [← xScN_eq]
  try rw [← xDictOf_eq]
  show xLc (fun σ H R => iList K (tVar 0) σ H R ∨ iTup K (tVar 0) σ H R) (gTup K 2 (gCons (gName 5) (gCons (gName 4) gNil))) tYes (tVar 4) [4, 5] [some (.ref a), some (.ref b), some (.ref W), none, none, none] H3 _
  try rw [xLc_eq]
  try rw [xScN_eq]
  try rw [xDictOf_eq]
  refine lc_pairs (K := K) (a := a) (ps := ps) (fun p => .int p.2) (fun R r => ⟨_, rfl, r⟩) p3 hl (fun t p H4 R s4 m4 at4 r => ?_) (fun D4 H4 hD4 s4 d4 => ?_)
  · exact ⟨t, _, rfl, SqT.of at4, rfl, _, _, rfl, _, _, rfl, rfl, rfl, _, rfl, r⟩
  have e4 : (ps.map fun p => V.int p.2) = (ps.map Prod.snd).map V.int := by rw [List.map_map] <;> rfl
  rw [e4] at d4
  refine ⟨D4, _, rfl, SqL.of d4, _, _, rfl, rfl, ?_⟩
  show Q (.bl (decide ((ps.map Prod.snd).sum ≤ 40))) H4
  rw [decide_eq_true hsum]
  exact q H4 (s1.trans (s2.trans (s3.trans s4)))
end SR
set_option Elab.async false
set_option linter.all false
set_option maxRecDepth 100000
set_option maxHeartbeats 4000000
namespace SR
open PySem PySem.Spec PyProof.Rows L2
/-- the pair that stands at a reference -/
def pk (H : Hp) : V → Int × Int
  | .ref t => (match H t with
    | some (.tup [.int i, .int j]) => (i, j)
    | _ => (0, 0))
  | _ => (0, 0)
theorem pk_at {H : Hp} {t : Addr} {p : Int × Int} (h : TupAt H t p) : pk H (.ref t) = p := by
  unfold TupAt at h
  show (match H t with
    | some (.tup [.int i, .int j]) => (i, j)
    | _ => (0, 0)) = p
  rw [h]
theorem paired_mem {α β : Type} {F : α → β → Prop} : ∀ {xs : List α} {ys : List β}, Paired F xs ys → ∀ x ∈ xs, ∃ y ∈ ys, F x y
  | _, _, .nil, _, m => nomatch m
  | _, _, .cons h t, x, m => by
    rcases List.mem_cons.mp m with rfl | m
    · exact ⟨_, List.mem_cons_self, h⟩
    · obtain ⟨y, hy, f⟩ := paired_mem t x m
      exact ⟨y, List.mem_cons_of_mem _ hy, f⟩
theorem paired_map {H : Hp} : ∀ {ts : List Addr}, (∀ t ∈ ts, TupAt H t (pk H (.ref t))) → Paired (TupAt H) ts (ts.map fun t => pk H (.ref t))
  | [], _ => .nil
  | t :: ts, h => .cons (h t List.mem_cons_self) (paired_map fun u m => h u (List.mem_cons_of_mem _ m))
theorem paired_eq {H : Hp} : ∀ {ts : List Addr} {ps : List (Int × Int)}, Paired (TupAt H) ts ps → ps = ts.map fun t => pk H (.ref t)
  | _, _, .nil => rfl
  | _, _, .cons h t => by rw [List.map_cons, pk_at h, ← paired_eq t]
theorem all_refs : ∀ {ys : List V}, (∀ y ∈ ys, ∃ t, y = V.ref t) → ∃ ts : List Addr, ys = ts.map V.ref
  | [], _ => ⟨[], rfl⟩
  | y :: ys, h => by
    obtain ⟨t, rfl⟩ := h y List.mem_cons_self
    obtain ⟨ts, rfl⟩ := all_refs fun z m => h z (List.mem_cons_of_mem _ m)
    exact ⟨t :: ts, rfl⟩
/-- in the order of the first numbers -/
def Asc (ps : List (Int × Int)) : Prop := ps.Pairwise fun p q => p.1 < q.1
theorem asc_of {k : V → Int × Int} {ys : List V} (h : SrtO.Srtd (ltP k) ys) (nd : (ys.map fun y => (k y).1).Nodup) : Asc (ys.map k) := by
  unfold Asc
  rw [List.pairwise_map]
  have nd' : ys.Pairwise fun x y => (k x).1 ≠ (k y).1 := List.pairwise_map.mp nd
  refine (List.Pairwise.and h nd').imp fun {x y} z => ?_
  obtain ⟨z1, z2⟩ := z
  have := SrtO.lexB_no.mp z1
  omega
theorem sorted_out {H : Hp} {ts : List Addr} {ps : List (Int × Int)} (hp : Paired (TupAt H) ts ps) (nd : (ps.map Prod.fst).Nodup) {ys : List V} (h1 : SrtO.Srtd (ltP (pk H)) ys) (h2 : SrtO.Stb (ltP (pk H)) ys (ts.map V.ref)) :
    ∃ us qs, ys = us.map V.ref ∧ Paired (TupAt H) us qs ∧ qs.Perm ps ∧ Asc qs := by
  have rf : ∀ y ∈ ys, ∃ t ∈ ts, y = V.ref t := fun y m => by
    obtain ⟨t, ht, e⟩ := List.mem_map.mp (h2.perm.mem_iff.mp m)
    exact ⟨t, ht, e.symm⟩
  obtain ⟨us, rfl⟩ := all_refs fun y m => let ⟨t, _, e⟩ := rf y m; ⟨t, e⟩
  have ups : us.Perm ts := by
    have z := h2.perm.map (fun v => match v with | V.ref t => t | _ => 0)
    rw [List.map_map, List.map_map] at z
    exact (List.map_id us).symm ▸ (List.map_id ts) ▸ z
  have at_ : ∀ t ∈ us, TupAt H t (pk H (.ref t)) := fun t m => by
    obtain ⟨p, _, hat⟩ := paired_mem hp t (ups.mem_iff.mp m)
    rw [pk_at hat]
    exact hat
  have e := paired_eq hp
  have perm : (us.map fun t => pk H (.ref t)).Perm ps := by
    rw [e]
    exact ups.map _
  refine ⟨us, us.map fun t => pk H (.ref t), rfl, paired_map at_, perm, ?_⟩
  have nd2 : ((us.map V.ref).map fun y => (pk H y).1).Nodup := by
    have z := (perm.map Prod.fst).nodup_iff.mpr nd
    rw [List.map_map] at z ⊢
    exact z
  have z := asc_of h1 nd2
  rw [List.map_map] at z
  exact z
theorem PairsAt.sorted {K : PySem.W.Frag} {H : Hp} {a : Addr} {ps : List (Int × Int)} {Q : VK} (h : PairsAt K H a ps) (nd : (ps.map Prod.fst).Nodup)
    (q : ∀ l us qs, H l = none → Paired (TupAt H) us qs → qs.Perm ps → Asc qs → Q (.ref l) (upd H l (.lst (us.map V.ref)))) : qSorted K [.ref a] H Q := by
  obtain ⟨ts, h1, h2⟩ := h
  have it : ∀ x ∈ ts.map V.ref, ∃ t, x = V.ref t ∧ H t = some (.tup [.int (pk H x).1, .int (pk H x).2]) := fun x m => by
    obtain ⟨t, ht, rfl⟩ := List.mem_map.mp m
    obtain ⟨p, _, hat⟩ := paired_mem h2 t ht
    refine ⟨t, rfl, ?_⟩
    rw [pk_at hat]
    exact hat
  have out : ∀ ys p, SrtO.Srtd (ltP (pk H)) ys → SrtO.Stb (ltP (pk H)) ys (ts.map V.ref) → H p = none → Q (.ref p) (upd H p (.lst ys)) := fun ys p a1 a2 a3 => by
    obtain ⟨us, qs, rfl, b1, b2, b3⟩ := sorted_out h2 nd a1 a2
    exact q p us qs a3 b1 b2 b3
  cases h1 with
  | inl h1 => exact .inl ⟨a, _, pk H, rfl, h1, it, out⟩
  | inr h1 => exact .inr ⟨a, _, pk H, rfl, h1.sq, it, out⟩
/-- the fields of a row -/
def rowFs (c k d e : Addr) : List (Str × V) := [("_contents", .ref c), ("_capacities", .ref k), ("_count_at", .ref d), ("_capacity_at", .ref e)]
/-- at x there stands a row, of the items ps and the wide boxes ks, both ascending -/
def RowAt (K : PySem.W.Frag) (C : Addr) (H : Hp) (x : Addr) (ps ks : List (Int × Int)) : Prop := ∃ dx c k d e ps0 ks0, H x = some (.ins C dx (rowFs c k d e)) ∧ (∃ ts, Bare H c (ts.map V.ref) ∧ Paired (TupAt H) ts ps) ∧ (∃ ts, Bare H k (ts.map V.ref) ∧ Paired (TupAt H) ts ks) ∧
  H d = some (.dK (kvsOf ps0)) ∧ H e = some (.dK (kvsOf ks0)) ∧ ps.Perm ps0 ∧ ks.Perm ks0
/-- what a row may hold -/
structure RowOk (ps ks : List (Int × Int)) : Prop where
  nd : (ps.map Prod.fst).Nodup
  kd : (ks.map Prod.fst).Nodup
  kl : ks.length ≤ 6
  ko : ∀ p ∈ ks, sizeOk p
  po : ∀ p ∈ ps, 1 ≤ p.2 ∧ p.2 ≤ cap ks p.1
  sm : (ps.map Prod.snd).sum ≤ 40
theorem len_sum : ∀ {ps : List (Int × Int)}, (∀ p ∈ ps, 1 ≤ p.2) → (ps.length : Int) ≤ (ps.map Prod.snd).sum
  | [], _ => Int.le_refl _
  | p :: ps, h => by
    have h1 := h p List.mem_cons_self
    have h2 := len_sum fun q m => h q (List.mem_cons_of_mem _ m)
    rw [List.map_cons, List.sum_cons, List.length_cons]
    omega
theorem RowOk.len {ps ks : List (Int × Int)} (h : RowOk ps ks) : ps.length ≤ 40 := by
  have h1 := len_sum fun p m => (h.po p m).1
  have h2 := h.sm
  omega
/-- all but x and its dict stay -/
def SameBut (x : Addr) (H H' : Hp) : Prop := ∀ b o, b ≠ x → H b = some o → H' b = some o
structure RowC (K : PySem.W.Frag) (C : Addr) : Prop where
  cls : Cls K C
  n1 : NoAttr K C "_contents"
  n2 : NoAttr K C "_capacities"
  n3 : NoAttr K C "_count_at"
  n4 : NoAttr K C "_capacity_at"
def spRowInit (K : PySem.W.Frag) (C : Addr) : Sp := fun vs H Q _ => ∃ x a b dx ps ks, vs = [.ref x, .ref a, .ref b] ∧ H x = some (.ins C dx []) ∧ PairsAt K H a ps ∧ PairsAt K H b ks ∧ RowOk ps ks ∧
  ∀ H' qs ls, SameBut x H H' → RowAt K C H' x qs ls → qs.Perm ps → ls.Perm ks → Asc qs → Asc ls → Q .non H'
def t_Row_init (K : PySem.W.Frag) : TS := tSeq (tIfS (tNot (tB (tCall (spAreCapacities K) [] E0 (tCons (tVar 2) (tNil)))))
  ((fun _ _ _ => False))
  (tNext))
  (tSeq (tIfS (tNot (tB (tCall (spAreContents K) [] E0 (tCons (tVar 1) (tCons (tVar 2) (tNil))))))
  ((fun _ _ _ => False))
  (tNext))
  (tSeq (sFld K (tVar 0) (tCB (qTupOf K) (tCons (tCB (qSorted K) (tCons (tVar 1) (tNil))) (tNil))) "_contents")
  (tSeq (sFld K (tVar 0) (tCB (qTupOf K) (tCons (tCB (qSorted K) (tCons (tVar 2) (tNil))) (tNil))) "_capacities")
  (tSeq (sFld K (tVar 0) (tCB (qDictOf K) (tCons (tVar 1) (tNil))) "_count_at")
  (sFld K (tVar 0) (tCB (qDictOf K) (tCons (tVar 2) (tNil))) "_capacity_at")))))
def fs1 (c : Addr) : List (Str × V) := [("_contents", .ref c)]
def fs2 (c e : Addr) : List (Str × V) := [("_contents", .ref c), ("_capacities", .ref e)]
def fs3 (c e d : Addr) : List (Str × V) := [("_contents", .ref c), ("_capacities", .ref e), ("_count_at", .ref d)]
theorem put1 (c : Addr) : putF "_contents" (.ref c) [] = fs1 c := rfl
theorem putNe {f g : Str} {v x : V} {r : List (Str × V)} (h : ¬ g = f) : putF f v ((g, x) :: r) = (g, x) :: putF f v r := by
  rw [putF, if_neg h]
theorem put2 (c e : Addr) : putF "_capacities" (.ref e) (fs1 c) = fs2 c e := by
  unfold fs1 fs2
  rw [putNe (by decide)]
  rfl
theorem put3 (c e d : Addr) : putF "_count_at" (.ref d) (fs2 c e) = fs3 c e d := by
  unfold fs2 fs3
  rw [putNe (by decide), putNe (by decide)]
  rfl
theorem put4 (c e d g : Addr) : putF "_capacity_at" (.ref g) (fs3 c e d) = rowFs c e d g := by
  unfold fs3 rowFs
  rw [putNe (by decide), putNe (by decide), putNe (by decide)]
  rfl
@[irreducible] def xSorted := @qSorted
theorem xSorted_eq : @xSorted = @qSorted := by
  unfold xSorted
  rfl
def NoIns (o : HO) : Prop := ∀ C dx fs, o ≠ .ins C dx fs
theorem SameBut.keep {x : Addr} {H H' : Hp} (s : SameBut x H H') {C dx : Addr} {fs : List (Str × V)} (hx : H x = some (.ins C dx fs)) {b : Addr} {o : HO} (h : H b = some o) (ho : NoIns o) : H' b = some o := s b o (fun e => by
  rw [e, hx] at h
  exact ho _ _ _ (Option.some.inj h).symm) h
theorem Same.but {x : Addr} {H H' : Hp} (s : Same H H') : SameBut x H H' := fun b o _ h => s b o h
theorem SameBut.trans {x : Addr} {H H1 H2 : Hp} (s : SameBut x H H1) (t : SameBut x H1 H2) : SameBut x H H2 := fun b o e h => t b o e (s b o e h)
theorem but_upd {x : Addr} {H : Hp} {o : HO} : SameBut x H (upd H x o) := fun b u e h => (upd_ne e).trans h
theorem SameBut.tups {x : Addr} {H H' : Hp} (s : SameBut x H H') {C dx : Addr} {fs : List (Str × V)} (hx : H x = some (.ins C dx fs)) {ts : List Addr} {ps : List (Int × Int)} (h : Paired (TupAt H) ts ps) : Paired (TupAt H') ts ps :=
  paired_imp (fun t p z => s.keep (o := .tup [.int p.1, .int p.2]) hx z (fun _ _ _ e => nomatch e)) h
theorem SameBut.bare {x : Addr} {H H' : Hp} (s : SameBut x H H') {C dx : Addr} {fs : List (Str × V)} (hx : H x = some (.ins C dx fs)) {a : Addr} {xs : List V} (h : Bare H a xs) : Bare H' a xs :=
  let ⟨o, h1, h2⟩ := h; ⟨o, s.keep hx h1 (fun _ _ _ e => nomatch e), h2⟩
theorem SameBut.pairs {K : PySem.W.Frag} {x : Addr} {H H' : Hp} (s : SameBut x H H') {C dx : Addr} {fs : List (Str × V)} (hx : H x = some (.ins C dx fs)) {a : Addr} {ps : List (Int × Int)} (h : PairsAt K H a ps) : PairsAt K H' a ps := by
  obtain ⟨ts, h1, h2⟩ := h
  refine ⟨ts, ?_, s.tups hx h2⟩
  rcases h1 with ((h1 | ⟨ob, h1⟩) | h1) | h1
  · exact .inl (.inl (.inl (s.keep hx h1 fun _ _ _ e => nomatch e)))
  · exact .inl (.inl (.inr ⟨ob, s.keep hx h1 fun _ _ _ e => nomatch e⟩))
  · exact .inl (.inr h1)
  · exact .inr (h1.imp (s.bare hx) id)
theorem pure_row_init {K : PySem.W.Frag} {C : Addr} (R : RowC K C) (vs : List V) (H : Hp) (Q : VK) (E : XK) (h : spRowInit K C vs H Q E) : t_Row_init K { nx := fun _ H' => Q .non H', rt := Q } (start ["self", "contents", "capacities"] vs) H := by
  obtain ⟨x, a, b, dx, ps, ks, rfl, hx, hp, hk, ok, q⟩ := h
  refine ⟨_, rfl, b, ks, rfl, hk, ok.kd, ok.kl, ok.ko, fun H1 s1 => ⟨_, rfl, iteF ?_⟩⟩
  refine ⟨_, rfl, _, rfl, a, b, ps, ks, rfl, hp.same s1, hk.same s1, ok.nd, ok.kd, (by have := ok.len; omega), ok.po, ok.sm, fun H2 s2 => ⟨_, rfl, iteF ⟨_, rfl, ?_⟩⟩⟩
  replace hp := (hp.same s1).same s2
  replace hk := (hk.same s1).same s2
  replace hx := s2 _ _ (s1 _ _ hx)
  have t2 := s1.trans s2
  clear s1 s2
  try rw [← xDictOf_eq]
  try rw [← xSorted_eq]
  show xSorted K [.ref a] H2 _
  try rw [xDictOf_eq]
  try rw [xSorted_eq]
  refine hp.sorted ok.nd fun l1 us qs hl1 hus pm1 as1 => ?_
  refine ⟨l1, _, rfl, SqL.of upd_same, fun c o hc o1 o2 => ?_⟩
  have s3 := same_new (o := .lst (us.map V.ref)) hl1
  generalize upd H2 l1 (.lst (us.map V.ref)) = H3 at s3 hc ⊢
  have s4 := same_new (o := .frz o (.tup (us.map V.ref))) hc
  have bc : Bare (upd H3 c (.frz o (.tup (us.map V.ref)))) c (us.map V.ref) := ⟨o, upd_same, o1, o2⟩
  generalize upd H3 c (.frz o (.tup (us.map V.ref))) = H4 at s4 bc ⊢
  have s34 := s3.trans s4
  refine ⟨_, rfl, x, C, dx, _, rfl, s34 _ _ hx, R.cls, R.n1, (by show 0 < 1000; decide), ?_⟩
  have hx4 := s34 _ _ hx
  rw [put1]
  have u5 := but_upd (x := x) (H := H4) (o := .ins C dx (fs1 c))
  have hx5 : upd H4 x (.ins C dx (fs1 c)) x = some (.ins C dx (fs1 c)) := upd_same
  have k5 := u5.pairs hx4 (hk.same s34)
  have p5 := u5.pairs hx4 (hp.same s34)
  have bc5 := u5.bare hx4 bc
  have us5 := u5.tups hx4 (paired_imp (fun _ _ z => s34 _ _ z) hus)
  have t5 : SameBut x H (upd H4 x (.ins C dx (fs1 c))) := (Same.but (t2.trans s34)).trans u5
  clear u5 hp hk hx hx4 s34 s3 s4 t2 bc hus hc hl1
  try rw [← xDictOf_eq]
  try rw [← xSorted_eq]
  show tSeq _ _ _ _ (upd H4 x (.ins C dx (fs1 c)))
  try rw [xDictOf_eq]
  try rw [xSorted_eq]
  generalize upd H4 x (.ins C dx (fs1 c)) = H5 at hx5 k5 p5 bc5 us5 t5 ⊢
  -- the wide boxes
  refine ⟨_, rfl, ?_⟩
  try rw [← xDictOf_eq]
  try rw [← xSorted_eq]
  show xSorted K [.ref b] H5 _
  try rw [xDictOf_eq]
  try rw [xSorted_eq]
  refine k5.sorted ok.kd fun l2 ws rs hl2 hws pm2 as2 => ?_
  refine ⟨l2, _, rfl, SqL.of upd_same, fun e o' he o3 o4 => ?_⟩
  have s6 := same_new (o := .lst (ws.map V.ref)) hl2
  generalize upd H5 l2 (.lst (ws.map V.ref)) = H6 at s6 he ⊢
  have s7 := same_new (o := .frz o' (.tup (ws.map V.ref))) he
  have be : Bare (upd H6 e (.frz o' (.tup (ws.map V.ref)))) e (ws.map V.ref) := ⟨o', upd_same, o3, o4⟩
  generalize upd H6 e (.frz o' (.tup (ws.map V.ref))) = H7 at s7 be ⊢
  have s57 := s6.trans s7
  have hx7 := s57 _ _ hx5
  refine ⟨_, rfl, x, C, dx, _, rfl, hx7, R.cls, R.n2, (by show 1 < 1000; decide), ?_⟩
  rw [put2]
  have u8 := but_upd (x := x) (H := H7) (o := .ins C dx (fs2 c e))
  have hx8 : upd H7 x (.ins C dx (fs2 c e)) x = some (.ins C dx (fs2 c e)) := upd_same
  have k8 := u8.pairs hx7 (k5.same s57)
  have p8 := u8.pairs hx7 (p5.same s57)
  have bc8 := u8.bare hx7 (bc5.same s57)
  have be8 := u8.bare hx7 be
  have us8 := u8.tups hx7 (paired_imp (fun _ _ z => s57 _ _ z) us5)
  have ws8 := u8.tups hx7 (paired_imp (fun _ _ z => s57 _ _ z) hws)
  have t8 := (t5.trans (Same.but s57)).trans u8
  clear u8 k5 p5 hx5 hx7 s57 s6 s7 t5 bc5 us5 be hws he hl2
  try rw [← xDictOf_eq]
  try rw [← xSorted_eq]
  show tSeq _ _ _ _ (upd H7 x (.ins C dx (fs2 c e)))
  try rw [xDictOf_eq]
  try rw [xSorted_eq]
  generalize upd H7 x (.ins C dx (fs2 c e)) = H8 at hx8 k8 p8 bc8 be8 us8 ws8 t8 ⊢
  -- the dicts
  refine ⟨_, rfl, ?_⟩
  try rw [← xDictOf_eq]
  try rw [← xSorted_eq]
  show xDictOf K [.ref a] H8 _
  try rw [xDictOf_eq]
  try rw [xSorted_eq]
  refine p8.dict ok.nd fun d hd => ?_
  have s9 := same_new (o := .dK (kvsOf ps)) hd
  have d9 : upd H8 d (.dK (kvsOf ps)) d = some (.dK (kvsOf ps)) := upd_same
  generalize upd H8 d (.dK (kvsOf ps)) = H9 at s9 d9 ⊢
  have hx9 := s9 _ _ hx8
  refine ⟨_, rfl, x, C, dx, _, rfl, hx9, R.cls, R.n3, (by show 2 < 1000; decide), ?_⟩
  rw [put3]
  have u10 := but_upd (x := x) (H := H9) (o := .ins C dx (fs3 c e d))
  have hx10 : upd H9 x (.ins C dx (fs3 c e d)) x = some (.ins C dx (fs3 c e d)) := upd_same
  have k10 := u10.pairs hx9 (k8.same s9)
  have bc10 := u10.bare hx9 (bc8.same s9)
  have be10 := u10.bare hx9 (be8.same s9)
  have us10 := u10.tups hx9 (paired_imp (fun _ _ z => s9 _ _ z) us8)
  have ws10 := u10.tups hx9 (paired_imp (fun _ _ z => s9 _ _ z) ws8)
  have d10 := u10.keep hx9 d9 fun _ _ _ e => nomatch e
  have t10 := (t8.trans (Same.but s9)).trans u10
  clear u10 k8 p8 hx8 hx9 s9 t8 bc8 us8 be8 ws8 d9 hd
  try rw [← xDictOf_eq]
  try rw [← xSorted_eq]
  show sFld K (tVar 0) (tCB (xDictOf K) (tCons (tVar 2) tNil)) "_capacity_at" { nx := fun _ H' => Q .non H', rt := Q } [some (.ref x), some (.ref a), some (.ref b)] (upd H9 x (.ins C dx (fs3 c e d)))
  try rw [xDictOf_eq]
  try rw [xSorted_eq]
  generalize upd H9 x (.ins C dx (fs3 c e d)) = H10 at hx10 k10 bc10 be10 us10 ws10 t10 d10 ⊢
  refine ⟨_, rfl, ?_⟩
  try rw [← xDictOf_eq]
  try rw [← xSorted_eq]
  show xDictOf K [.ref b] H10 _
  try rw [xDictOf_eq]
  try rw [xSorted_eq]
  refine k10.dict ok.kd fun g hg => ?_
  have s11 := same_new (o := .dK (kvsOf ks)) hg
  have g11 : upd H10 g (.dK (kvsOf ks)) g = some (.dK (kvsOf ks)) := upd_same
  generalize upd H10 g (.dK (kvsOf ks)) = H11 at s11 g11 ⊢
  have hx11 := s11 _ _ hx10
  refine ⟨_, rfl, x, C, dx, _, rfl, hx11, R.cls, R.n4, (by show 3 < 1000; decide), ?_⟩
  rw [put4]
  have u12 := but_upd (x := x) (H := H11) (o := .ins C dx (rowFs c e d g))
  refine q _ qs rs ((t10.trans (Same.but s11)).trans u12) ⟨dx, c, e, d, g, ps, ks, upd_same, ⟨us, u12.bare hx11 (bc10.same s11), u12.tups hx11 (paired_imp (fun _ _ z => s11 _ _ z) us10)⟩, ⟨ws, u12.bare hx11 (be10.same s11), u12.tups hx11 (paired_imp (fun _ _ z => s11 _ _ z) ws10)⟩,
    u12.keep hx11 (s11 _ _ d10) (fun _ _ _ e => nomatch e), u12.keep hx11 g11 (fun _ _ _ e => nomatch e), pm1, pm2⟩ pm1 pm2 as1 as2
end SR
set_option Elab.async false
set_option linter.all false
set_option maxRecDepth 100000
set_option maxHeartbeats 4000000
namespace SR
open PySem PySem.Spec PyProof.Rows L2
theorem lookup_none {i : Int} : ∀ {ps : List (Int × Int)}, ps.lookup i = none ↔ i ∉ ps.map Prod.fst
  | [] => ⟨fun _ => List.not_mem_nil, fun _ => rfl⟩
  | (j, n) :: ps => by
    rw [List.lookup_cons, List.map_cons, List.mem_cons]
    by_cases e : i = j
    · subst e
      rw [beq_self_eq_true]
      exact ⟨(fun z => nomatch z), fun z => absurd (Or.inl rfl) z⟩
    · rw [beq_eq_false_iff_ne.mpr e]
      show ps.lookup i = none ↔ _
      rw [lookup_none]
      exact ⟨fun z => fun w => w.elim e z, fun z => fun w => z (.inr w)⟩
theorem lookup_some {i n : Int} : ∀ {ps : List (Int × Int)}, (ps.map Prod.fst).Nodup → (ps.lookup i = some n ↔ (i, n) ∈ ps)
  | [], _ => ⟨(fun z => nomatch z), (fun z => nomatch z)⟩
  | (j, m) :: ps, nd => by
    have nd' := List.nodup_cons.mp nd
    rw [List.lookup_cons, List.mem_cons]
    by_cases e : i = j
    · subst e
      rw [beq_self_eq_true]
      refine ⟨fun z => .inl (by cases z; rfl), fun z => ?_⟩
      rcases z with z | z
      · cases z
        rfl
      · exact absurd (List.mem_map_of_mem (f := Prod.fst) z) nd'.1
    · rw [beq_eq_false_iff_ne.mpr e]
      show ps.lookup i = some n ↔ _
      rw [lookup_some nd'.2]
      exact ⟨.inr, fun z => z.elim (fun w => absurd (congrArg Prod.fst w) e) id⟩
theorem lookup_perm {ps qs : List (Int × Int)} (h : ps.Perm qs) (nd : (ps.map Prod.fst).Nodup) (i : Int) : ps.lookup i = qs.lookup i := by
  have nq : (qs.map Prod.fst).Nodup := (h.map Prod.fst).nodup_iff.mp nd
  cases e : qs.lookup i with
  | none => exact lookup_none.mpr fun m => lookup_none.mp e ((h.map Prod.fst).mem_iff.mp m)
  | some n => exact (lookup_some nd).mpr (h.mem_iff.mpr ((lookup_some nq).mp e))
def cnt (ps : List (Int × Int)) (i : Int) : Int := (ps.lookup i).getD 0
theorem RowAt.same {K : PySem.W.Frag} {C : Addr} {H H' : Hp} {x : Addr} {ps ks : List (Int × Int)} (s : Same H H') (h : RowAt K C H x ps ks) : RowAt K C H' x ps ks := by
  obtain ⟨dx, c, k, d, e, ps0, ks0, h1, ⟨t1, h2, h3⟩, ⟨t2, h4, h5⟩, h6, h7, h8⟩ := h
  exact ⟨dx, c, k, d, e, ps0, ks0, s _ _ h1, ⟨t1, h2.same s, paired_imp (fun _ _ z => s _ _ z) h3⟩, ⟨t2, h4.same s, paired_imp (fun _ _ z => s _ _ z) h5⟩, s _ _ h6, s _ _ h7, h8⟩
/-- what a row gives: its items, its wide boxes -/
def PairsT (H : Hp) (c : Addr) (ps : List (Int × Int)) : Prop := ∃ ts, Bare H c (ts.map V.ref) ∧ Paired (TupAt H) ts ps
theorem PairsT.at {K : PySem.W.Frag} {H : Hp} {c : Addr} {ps : List (Int × Int)} (h : PairsT H c ps) : PairsAt K H c ps := let ⟨ts, h1, h2⟩ := h; ⟨ts, .inr (.inl h1), h2⟩
theorem PairsT.same {H H' : Hp} {c : Addr} {ps : List (Int × Int)} (s : Same H H') (h : PairsT H c ps) : PairsT H' c ps := let ⟨ts, h1, h2⟩ := h; ⟨ts, h1.same s, paired_imp (fun _ _ z => s _ _ z) h2⟩
def spContents (K : PySem.W.Frag) (C : Addr) : Sp := fun vs H Q _ => ∃ x ps ks, vs = [.ref x] ∧ RowAt K C H x ps ks ∧ ∀ c, PairsT H c ps → Q (.ref c) H
def spCapacities (K : PySem.W.Frag) (C : Addr) : Sp := fun vs H Q _ => ∃ x ps ks, vs = [.ref x] ∧ RowAt K C H x ps ks ∧ ∀ c, PairsT H c ks → Q (.ref c) H
def spHeld (K : PySem.W.Frag) (C : Addr) : Sp := fun vs H Q _ => ∃ x i ps ks, vs = [.ref x, .int i] ∧ RowAt K C H x ps ks ∧ (ps.map Prod.fst).Nodup ∧ Q (.int (cnt ps i)) H
def spCapacityOf (K : PySem.W.Frag) (C : Addr) : Sp := fun vs H Q _ => ∃ x i ps ks, vs = [.ref x, .int i] ∧ RowAt K C H x ps ks ∧ (ks.map Prod.fst).Nodup ∧ Q (.int (cap ks i)) H
def t_Row_contents (K : PySem.W.Frag) : TS := tRet (tFld K (tVar 0) "_contents")
def t_Row_capacities (K : PySem.W.Frag) : TS := tRet (tFld K (tVar 0) "_capacities")
def t_Row_held (K : PySem.W.Frag) : TS := tSeq (tIfS (tNot (tB (tCall (spIsInt K) [] E0 (tCons (tVar 1) (tNil)))))
  ((fun _ _ _ => False))
  (tNext))
  (tRet (tDGet2 (tFld K (tVar 0) "_count_at") (tVar 1) (tC (.int 0))))
def t_Row_capacity (K : PySem.W.Frag) : TS := tSeq (tIfS (tNot (tB (tCall (spIsInt K) [] E0 (tCons (tVar 1) (tNil)))))
  ((fun _ _ _ => False))
  (tNext))
  (tRet (tDGet2 (tFld K (tVar 0) "_capacity_at") (tVar 1) (tC (.int 1))))
theorem fl1 (c k d e : Addr) : List.lookup ("_contents" : Str) (rowFs c k d e) = some (V.ref c) := rfl
theorem lkNe {f g : Str} {x : V} {r : List (Str × V)} (h : ¬ f = g) : List.lookup f ((g, x) :: r) = List.lookup f r := by
  rw [List.lookup_cons, beq_eq_false_iff_ne.mpr h]
theorem lkEq {f : Str} {x : V} {r : List (Str × V)} : List.lookup f ((f, x) :: r) = some x := by
  rw [List.lookup_cons, beq_self_eq_true]
theorem fl2 (c k d e : Addr) : List.lookup ("_capacities" : Str) (rowFs c k d e) = some (V.ref k) := by
  unfold rowFs
  rw [lkNe (by decide), lkEq]
theorem fl3 (c k d e : Addr) : List.lookup ("_count_at" : Str) (rowFs c k d e) = some (V.ref d) := by
  unfold rowFs
  rw [lkNe (by decide), lkNe (by decide), lkEq]
theorem fl4 (c k d e : Addr) : List.lookup ("_capacity_at" : Str) (rowFs c k d e) = some (V.ref e) := by
  unfold rowFs
  rw [lkNe (by decide), lkNe (by decide), lkNe (by decide), lkEq]
theorem pure_contents {K : PySem.W.Frag} {C : Addr} (R : RowC K C) (vs : List V) (H : Hp) (Q : VK) (E : XK) (h : spContents K C vs H Q E) : t_Row_contents K { nx := fun _ H' => Q .non H', rt := Q } (start ["self"] vs) H := by
  obtain ⟨x, ps, ks, rfl, ⟨dx, c, k, d, e, ps0, ks0, h1, h2, h3, h4⟩, q⟩ := h
  exact ⟨_, rfl, x, C, dx, _, _, rfl, h1, R.cls, R.n1, fl1 c k d e, q c h2⟩
theorem pure_capacities {K : PySem.W.Frag} {C : Addr} (R : RowC K C) (vs : List V) (H : Hp) (Q : VK) (E : XK) (h : spCapacities K C vs H Q E) : t_Row_capacities K { nx := fun _ H' => Q .non H', rt := Q } (start ["self"] vs) H := by
  obtain ⟨x, ps, ks, rfl, ⟨dx, c, k, d, e, ps0, ks0, h1, h2, h3, h4⟩, q⟩ := h
  exact ⟨_, rfl, x, C, dx, _, _, rfl, h1, R.cls, R.n2, fl2 c k d e, q k h3⟩
theorem pure_held {K : PySem.W.Frag} {C : Addr} (R : RowC K C) (vs : List V) (H : Hp) (Q : VK) (E : XK) (h : spHeld K C vs H Q E) : t_Row_held K { nx := fun _ H' => Q .non H', rt := Q } (start ["self", "index"] vs) H := by
  obtain ⟨x, i, ps, ks, rfl, ⟨dx, c, k, d, e, ps0, ks0, h1, h2, h3, h4, h5, h6, h7⟩, nd, q⟩ := h
  have gv : (valV (kvsOf ps0) (.inl i)).getD (.int 0) = .int (cnt ps i) := by
    rw [val_pairs, ← lookup_perm h6 nd]
    unfold cnt
    cases ps.lookup i <;> rfl
  refine ⟨_, rfl, .int i, _, rfl, .int i, _, rfl, iteF ?_⟩
  exact ⟨_, rfl, x, C, dx, _, _, rfl, h1, R.cls, R.n3, fl3 c k d e, d, rfl, .inl ⟨_, .inl h4⟩, _, rfl, _, DGet.k (k := .inl i) h4, (by rw [gv]; exact q)⟩
theorem pure_capacity_of {K : PySem.W.Frag} {C : Addr} (R : RowC K C) (vs : List V) (H : Hp) (Q : VK) (E : XK) (h : spCapacityOf K C vs H Q E) : t_Row_capacity K { nx := fun _ H' => Q .non H', rt := Q } (start ["self", "index"] vs) H := by
  obtain ⟨x, i, ps, ks, rfl, ⟨dx, c, k, d, e, ps0, ks0, h1, h2, h3, h4, h5, h6, h7⟩, nd, q⟩ := h
  have gv : (valV (kvsOf ks0) (.inl i)).getD (.int 1) = .int (cap ks i) := by
    rw [val_pairs, ← lookup_perm h7 nd]
    unfold cap
    cases ks.lookup i <;> rfl
  refine ⟨_, rfl, .int i, _, rfl, .int i, _, rfl, iteF ?_⟩
  exact ⟨_, rfl, x, C, dx, _, _, rfl, h1, R.cls, R.n4, fl4 c k d e, e, rfl, .inl ⟨_, .inl h5⟩, _, rfl, _, DGet.k (k := .inl i) h5, (by rw [gv]; exact q)⟩
end SR
set_option Elab.async false
set_option linter.all false
set_option maxRecDepth 100000
set_option maxHeartbeats 4000000
namespace SR
open PySem PySem.Spec PyProof.Rows L2
def qSortedD : List V → Hp → VK → Prop := fun xs H Q => ∃ (a : Addr) (kvs : List (Key × V)) (ks : List Int), xs = [.ref a] ∧ Rd H a (.dK kvs) ∧ kvs.map (·.1) = ks.map Sum.inl ∧ ks.length < 64 ∧ ∀ (ys : List Int) (p : Addr), ys.Perm ks → ys.Pairwise (· ≤ ·) → H p = none → Q (.ref p) (upd H p (.lst (ys.map V.int)))
def qDictL (K : PySem.W.Frag) : List V → Hp → VK → Prop := fun xs H Q => ∃ (a : Addr) (ps : List Addr) (kvs : List (Key × V)), xs = [.ref a] ∧ SqL K H a (ps.map V.ref) ∧ Paired (fun p kv => SqT K H p [kV kv.1, kv.2]) ps kvs ∧ ∀ p, H p = none → Q (.ref p) (upd H p (.dK (mergeK [] kvs)))
theorem paired_snoc {α β : Type} {F : α → β → Prop} {x : α} {y : β} (h : F x y) : ∀ {xs : List α} {ys : List β}, Paired F xs ys → Paired F (xs ++ [x]) (ys ++ [y])
  | _, _, .nil => .cons h .nil
  | _, _, .cons z t => .cons z (paired_snoc h t)
theorem with_lookup {fs : List (Int × Int)} (nd : (fs.map Prod.fst).Nodup) : (fs.map Prod.fst).map (fun y => (y, (fs.lookup y).getD 0)) = fs := by
  rw [List.map_map]
  have : ∀ p ∈ fs, ((fun y => (y, (fs.lookup y).getD 0)) ∘ Prod.fst) p = p := fun p m => by
    show (p.1, (fs.lookup p.1).getD 0) = p
    rw [(lookup_some (n := p.2) nd).mpr m]
    rfl
  rw [List.map_congr_left this, List.map_id']
def t_sorted (K : PySem.W.Frag) (f p : Nat) : TE := tCB (qDictL K) (tCons (tLc (iList K (tCB qSortedD (tCons (tVar f) (tNil)))) (gName p) (tYes) (tTup (tCons (tVar p) (tCons (tDGet (tVar f) (tVar p)) (tNil)))) [p]) (tNil))
theorem sorted_dict {K : PySem.W.Frag} {f p : Nat} {F : Addr} {fs : List (Int × Int)} {σ : L2.St} {H : Hp} {Q : VK} (hF : H F = some (.dK (kvsOf fs))) (nd : (fs.map Prod.fst).Nodup) (hl : fs.length < 64)
    (h1 : σ[f]? = some (some (.ref F))) (h2 : ∀ y, ((wipe σ [p]).set p (some y))[f]? = some (some (.ref F))) (h3 : ∀ y, ((wipe σ [p]).set p (some y))[p]? = some (some y)) (h4 : ∀ y, wipe ((wipe σ [p]).set p (some y)) [p] = wipe σ [p])
    (q : ∀ r H' ps, H r = none → Same H H' → H' r = some (.dK (kvsOf ps)) → ps.Perm fs → Asc ps → Q (.ref r) H') : t_sorted K f p σ H Q := by
  have keys : (kvsOf fs).map (·.1) = (fs.map Prod.fst).map Sum.inl := by
    unfold kvsOf
    rw [List.map_map, List.map_map]
    rfl
  refine ⟨_, h1, F, _, _, rfl, .inl hF, keys, (by rw [List.length_map]; exact hl), fun ys l perm pw hlf => ?_⟩
  have s1 := same_new (o := .lst (ys.map V.int)) hlf
  have L1 : upd H l (.lst (ys.map V.int)) l = some (.lst (ys.map V.int)) := upd_same
  generalize upd H l (.lst (ys.map V.int)) = H1 at s1 L1 ⊢
  refine ⟨l, rfl, ⟨_, SqL.of L1⟩, fun D hD => ?_⟩
  have yl : ys.length = fs.length := by rw [perm.length_eq, List.length_map]
  have val : ∀ y ∈ ys, fs.lookup y = some ((fs.lookup y).getD 0) := fun y m => by
    have hm := perm.mem_iff.mp m
    cases e : fs.lookup y with
    | none => exact absurd hm (lookup_none.mp e)
    | some n => rfl
  have ndy : ys.Nodup := perm.nodup_iff.mpr nd
  have pps : (ys.map fun y => (y, (fs.lookup y).getD 0)).Perm fs := by
    have z := perm.map (fun y => (y, (fs.lookup y).getD 0))
    rw [with_lookup nd] at z
    exact z
  have asc : Asc (ys.map fun y => (y, (fs.lookup y).getD 0)) := by
    unfold Asc
    rw [List.pairwise_map]
    refine (List.Pairwise.and pw ndy).imp fun {x y} z => ?_
    have := z.1
    have := z.2
    omega
  refine lc_it (walk_list (K := K) (a := l) (xs := ys.map V.int)) (fun i H2 => Same H1 H2 ∧ ∃ ts, H2 D = some (.lst (ts.map V.ref)) ∧ ts.length = i ∧ Paired (TupAt H2) ts ((ys.map fun y => (y, (fs.lookup y).getD 0)).take i)) ⟨same_new hD, [], upd_same, rfl, .nil⟩ ?_ ?_ ?_
  · rintro i H2 _ ⟨s2, _⟩
    exact SqL.of (s2 _ _ L1)
  · rintro i x H2 H3 hi ⟨s2, ts, d2, tl, pr⟩ ⟨rfl, hx⟩
    rw [List.getElem?_map] at hx
    obtain ⟨y, hy, rfl⟩ := Option.map_eq_some_iff.mp hx
    have hv := val y (List.mem_of_getElem? hy)
    have hF3 := s2 _ _ (s1 _ _ hF)
    have gv : valV (kvsOf fs) (.inl y) = some (.int ((fs.lookup y).getD 0)) := by
      rw [val_pairs, hv]
      rfl
    refine ⟨h4 _, _, h3 _, _, h2 _, _, h3 _, F, _, rfl, (by rw [← gv]; exact DGet.k (k := .inl y) hF3), sz (by show 2 ≤ 1000; decide), fun t ht => ?_⟩
    have s3 := same_new (o := .tup [.int y, .int ((fs.lookup y).getD 0)]) ht
    have T3 : TupAt (upd H3 t (.tup [.int y, .int ((fs.lookup y).getD 0)])) t (y, (fs.lookup y).getD 0) := upd_same
    generalize upd H3 t (.tup [.int y, .int ((fs.lookup y).getD 0)]) = H4 at s3 T3 ⊢
    have d3 := s3 _ _ d2
    have li : i < ys.length := by
      rw [List.length_map] at hi
      exact hi
    have pr3 : Paired (TupAt (upd H4 D (.lst (ts.map V.ref ++ [.ref t])))) (ts ++ [t]) ((ys.map fun y => (y, (fs.lookup y).getD 0)).take (i + 1)) := by
      have tk : (ys.map fun y => (y, (fs.lookup y).getD 0)).take (i + 1) = (ys.map fun y => (y, (fs.lookup y).getD 0)).take i ++ [(y, (fs.lookup y).getD 0)] := by
        rw [List.take_succ, List.getElem?_map, hy]
        rfl
      rw [tk]
      have keep : ∀ {b : Addr} {p : Int × Int}, TupAt H4 b p → TupAt (upd H4 D (.lst (ts.map V.ref ++ [.ref t]))) b p := fun {b p} z => (upd_ne (ne_of z d3 (by intro e; cases e))).trans z
      exact paired_snoc (keep T3) (paired_imp (fun _ _ z => keep (s3 _ _ z)) pr)
    refine ⟨_, d3, ?_, same_upd (s2.trans s3) hD, ts ++ [t], ?_, ?_, pr3⟩
    · rw [List.length_map, tl]
      exact Nat.lt_of_lt_of_le (Nat.lt_of_lt_of_le li (by omega : ys.length ≤ 64)) (by decide)
    · rw [upd_same, List.map_append]
      rfl
    · rw [List.length_append, tl]
      rfl
  · rintro H2 ⟨s2, ts, d2, tl, pr⟩
    have all : (ys.map fun y => (y, (fs.lookup y).getD 0)).take (ys.map V.int).length = ys.map fun y => (y, (fs.lookup y).getD 0) := by
      rw [List.length_map]
      exact List.take_of_length_le (by rw [List.length_map]; exact Nat.le_refl _)
    rw [all] at pr
    refine ⟨D, ts, _, rfl, SqL.of d2, paired_kvs pr, fun r hr => ?_⟩
    have ndp : ((ys.map fun y => (y, (fs.lookup y).getD 0)).map Prod.fst).Nodup := (pps.map Prod.fst).nodup_iff.mpr nd
    rw [merge_pairs ndp]
    have s12 := s1.trans s2
    exact q r _ _ (Same.free s12 hr) (s12.trans (same_new hr)) upd_same pps asc
end SR
set_option Elab.async false
set_option linter.all false
set_option maxRecDepth 100000
set_option maxHeartbeats 4000000
namespace SR
open PySem PySem.Spec PyProof.Rows L2
def putI (fs : List (Int × Int)) (i n : Int) : List (Int × Int) := if i ∈ fs.map Prod.fst then fs.map (fun p => if p.1 = i then (p.1, n) else p) else fs ++ [(i, n)]
theorem any_pairs {i : Int} : ∀ fs : List (Int × Int), ((kvsOf fs).any fun kv => decide (kv.1 = (.inl i : Key))) = decide (i ∈ fs.map Prod.fst)
  | [] => rfl
  | (j, m) :: fs => by
    show (decide ((.inl j : Key) = .inl i) || (kvsOf fs).any _) = _
    rw [any_pairs fs, List.map_cons]
    by_cases e : j = i
    · subst e
      rw [decide_eq_true rfl, Bool.true_or, decide_eq_true List.mem_cons_self]
    · rw [decide_eq_false (fun z => e (Sum.inl.inj z)), Bool.false_or]
      refine decide_eq_decide.mpr ⟨fun z => List.mem_cons_of_mem _ z, fun z => ?_⟩
      rcases List.mem_cons.mp z with z | z
      · exact absurd z.symm e
      · exact z
theorem putK_pairs (fs : List (Int × Int)) (i n : Int) : putK (kvsOf fs) (.inl i) (.int n) = kvsOf (putI fs i n) := by
  unfold putK putI
  rw [any_pairs]
  by_cases h : i ∈ fs.map Prod.fst
  · rw [if_pos (decide_eq_true h), if_pos h]
    unfold kvsOf
    rw [List.map_map, List.map_map]
    refine List.map_congr_left fun p _ => ?_
    show (if (.inl p.1 : Key) = .inl i then _ else _) = _
    by_cases e : p.1 = i
    · rw [if_pos (congrArg Sum.inl e)]
      show _ = (Sum.inl (if p.1 = i then (p.1, n) else p).1, V.int (if p.1 = i then (p.1, n) else p).2)
      rw [if_pos e]
    · rw [if_neg (fun z => e (Sum.inl.inj z))]
      show _ = (Sum.inl (if p.1 = i then (p.1, n) else p).1, V.int (if p.1 = i then (p.1, n) else p).2)
      rw [if_neg e]
  · rw [if_neg (fun z => h (of_decide_eq_true z)), if_neg h]
    unfold kvsOf
    rw [List.map_append]
    rfl
theorem putI_all {P : Int × Int → Prop} {fs : List (Int × Int)} {i n : Int} (h : ∀ p ∈ fs, P p) (hn : P (i, n)) : ∀ p ∈ putI fs i n, P p := by
  unfold putI
  intro p m
  split at m
  · obtain ⟨q, hq, rfl⟩ := List.mem_map.mp m
    split
    · rename_i e
      rw [e]
      exact hn
    · exact h q hq
  · rcases List.mem_append.mp m with m | m
    · exact h p m
    · rw [List.mem_singleton.mp m]
      exact hn
theorem putI_fst {fs : List (Int × Int)} {i n : Int} : (putI fs i n).map Prod.fst = if i ∈ fs.map Prod.fst then fs.map Prod.fst else fs.map Prod.fst ++ [i] := by
  unfold putI
  split
  · rw [List.map_map]
    refine List.map_congr_left fun p _ => ?_
    show (if p.1 = i then (p.1, n) else p).1 = p.1
    split <;> rfl
  · rw [List.map_append]
    rfl
theorem putI_nd {fs : List (Int × Int)} {i n : Int} (h : (fs.map Prod.fst).Nodup) : ((putI fs i n).map Prod.fst).Nodup := by
  rw [putI_fst]
  split
  · exact h
  · rename_i z
    refine List.nodup_append.mpr ⟨h, List.pairwise_singleton _ _, fun a ha b hb e => ?_⟩
    rw [List.mem_singleton.mp hb] at e
    exact z (e ▸ ha)
theorem putI_len {fs : List (Int × Int)} {i n : Int} : (putI fs i n).length ≤ fs.length + 1 := by
  unfold putI
  split
  · rw [List.length_map]
    exact Nat.le_succ _
  · rw [List.length_append]
    exact Nat.le_refl _
theorem dput_pairs {H : Hp} {F : Addr} {fs : List (Int × Int)} {i n : Int} (h : H F = some (.dK (kvsOf fs))) (hl : fs.length < 1000) : DPut H F (.int i) (.int n) (upd H F (.dK (kvsOf (putI fs i n)))) := by
  refine .inl ⟨kvsOf fs, .inl i, h, rfl, ?_, by rw [putK_pairs]⟩
  unfold kvsOf
  rw [List.length_map]
  exact Nat.lt_trans hl (by decide)
/-- drawn sizes -/
def spSizes (K : PySem.W.Frag) : Sp := fun vs H Q _ => ∃ (d g c : Addr) (b : Nat) (n : Int), vs = [.ref d, .int n] ∧ StB H d g c (b + 25) ∧ 0 ≤ n ∧ n ≤ 6 ∧
  ∀ r H' ks, StB H' d g c b → Kp d g H H' → r ≠ d → r ≠ g → r ≠ c → H r = none → H' r = some (.dK (kvsOf ks)) → Asc ks → (∀ p ∈ ks, sizeOk p) → ks.length ≤ 6 → Q (.ref r) H'
def t_szTurn (K : PySem.W.Frag) : TS := sDPut (tVar 2) (tCall (spPick K) [] E0 (tCons (tVar 0) (tCons (tLst (tCons (tOp qSub (tCall spTake [] E0 (tCons (tVar 0) (tCons (tC (.int 12)) (tNil)))) (tC (.int 3))) (tCons (tOp qSub (tCall spTake [] E0 (tCons (tVar 0) (tCons (tC (.int 12)) (tNil)))) (tC (.int 3))) (tCons (tC (.int 60)) (tCons (tUn (rU fun i => .int (-i)) (tC (.int 60))) (tNil)))))) (tNil)))) (tOp qAdd (tC (.int 2)) (tCall spTake [] E0 (tCons (tVar 0) (tCons (tC (.int 8)) (tNil)))))
def t_sizes (K : PySem.W.Frag) : TS := tSeq (tAsg (tDNewK) (gName 2))
  (tSeq (tFor (iRng1 (tCons (tCall spTake [] E0 (tCons (tVar 0) (tCons (tOp qAdd (tVar 1) (tC (.int 1))) (tNil)))) (tNil))) (gName 3)
  (t_szTurn K))
  (tRet (t_sorted K 2 4)))
theorem sz_turn {K : PySem.W.Frag} {H : Hp} {d g c F : Addr} {b : Nat} {fs : List (Int × Int)} {w1 w3 w4 : Option V} {N N2 N3 : L2.St → Hp → Prop} {R : VK} (S : StB H d g c (b + 4)) (hF : H F = some (.dK (kvsOf fs))) (f1 : F ≠ d) (f2 : F ≠ g) (f3 : F ≠ c) (hl : fs.length < 100)
    (hN : ∀ H' i n, StB H' d g c b → (∀ x o, x ≠ F → x ≠ d → x ≠ g → H x = some o → H' x = some o) → H' F = some (.dK (kvsOf (putI fs i n))) → sizeOk (i, n) → N [some (.ref d), w1, some (.ref F), w3, w4] H') :
    t_szTurn K { nx := N, rt := R, bk := N2, ct := N3 } [some (.ref d), w1, some (.ref F), w3, w4] H := by
  refine ⟨_, rfl, d, g, c, b + 3, 8, rfl, S, by decide, by decide, fun n H1 n0 n1 S1 q1 => ⟨_, _, rfl, rfl, ?_⟩⟩
  refine ⟨_, rfl, _, rfl, _, rfl, d, g, c, b + 2, 12, rfl, S1, by decide, by decide, fun i H2 i0 i1 S2 q2 => ⟨_, _, rfl, rfl, ?_⟩⟩
  refine ⟨_, rfl, d, g, c, b + 1, 12, rfl, S2, by decide, by decide, fun j H3 j0 j1 S3 q3 => ⟨_, _, rfl, rfl, 60, rfl, sz (by show 4 ≤ 1000; decide), fun l hl => ?_⟩⟩
  obtain ⟨l1, l2, l3⟩ := S3.off hl
  refine ⟨d, g, c, b, l, _, rfl, S3.new hl, SqL.of upd_same, l1, l2, by show 0 < 4; decide, by show 4 < 1000; decide, fun v H4 hv S4 q4 => ?_⟩
  obtain ⟨k, rfl, k1, k2⟩ : ∃ k : Int, v = .int k ∧ -60 ≤ k ∧ k ≤ 60 := by
    simp only [List.mem_cons, List.not_mem_nil, or_false] at hv
    rcases hv with rfl | rfl | rfl | rfl
    · exact ⟨_, rfl, by omega, by omega⟩
    · exact ⟨_, rfl, by omega, by omega⟩
    · exact ⟨_, rfl, by decide, by decide⟩
    · exact ⟨_, rfl, by decide, by decide⟩
  clear hv
  have k4 : Kp d g H H4 := q1.trans (q2.trans (q3.trans ((Kp.new hl).trans q4)))
  have F4 := k4 _ _ f1 f2 hF
  refine ⟨F, _, rfl, dput_pairs F4 (by omega), ?_⟩
  refine hN _ k (2 + n) (S4.upd f1 f2 f3) (fun x o e0 e1 e2 hx => (upd_ne e0).trans (k4 _ _ e1 e2 hx)) upd_same ⟨⟨k1, k2⟩, by show 2 ≤ 2 + n; omega, by show 2 + n ≤ 9; omega⟩
theorem pure_sizes {K : PySem.W.Frag} (vs : List V) (H : Hp) (Q : VK) (E : XK) (h : spSizes K vs H Q E) : t_sizes K { nx := fun _ H' => Q .non H', rt := Q } (start ["state", "most", "found", "turn", "place"] vs) H := by
  obtain ⟨d, g, c, b, n, rfl, S, n0, n1, q⟩ := h
  intro F hF
  obtain ⟨f1, f2, f3⟩ := S.off hF
  have S1 := S.new (o := .dK []) hF
  have D1 : upd H F (.dK []) F = some (.dK (kvsOf [])) := upd_same
  have K1 : ∀ x o, x ≠ F → x ≠ d → x ≠ g → H x = some o → upd H F (.dK []) x = some o := fun x o e _ _ hx => (upd_ne e).trans hx
  generalize upd H F (.dK []) = H1 at S1 D1 K1 ⊢
  refine ⟨_, rfl, _, rfl, _, _, rfl, rfl, d, g, c, b + 24, n + 1, rfl, S1, by omega, by omega, fun t H2 t0 t1 S2 q2 => ⟨t, rfl, by omega, by omega, ?_⟩⟩
  refine for_range (lo := 0) (n := t.toNat) (fun i σ H3 => StB H3 d g c (b + 24 - 4 * i) ∧ (∃ fs, H3 F = some (.dK (kvsOf fs)) ∧ (fs.map Prod.fst).Nodup ∧ (∀ p ∈ fs, sizeOk p) ∧ fs.length ≤ i) ∧ (∀ x o, x ≠ F → x ≠ d → x ≠ g → H x = some o → H3 x = some o) ∧ ∃ w3 w4, σ = [some (.ref d), some (.int n), some (.ref F), w3, w4])
    ⟨S2, ⟨[], q2 _ _ f1 f2 D1, List.nodup_nil, (fun p m => nomatch m), Nat.le_refl _⟩, fun x o e0 e1 e2 hx => q2 _ _ e1 e2 (K1 x o e0 e1 e2 hx), _, _, rfl⟩ ?_ ?_
  · rintro i σ H3 hi ⟨S3, ⟨fs, D3, nd, ok, len⟩, K3, w3, w4, rfl⟩
    have hb : b + 24 - 4 * i = (b + 24 - 4 * (i + 1)) + 4 := by omega
    rw [hb] at S3
    show t_szTurn K _ [some (.ref d), some (.int n), some (.ref F), some (.int (0 + i)), w4] H3
    refine sz_turn S3 D3 f1 f2 f3 (by omega) fun H4 k m S4 K4 D4 ok4 => ⟨S4, ⟨_, D4, putI_nd nd, putI_all ok ok4, ?_⟩, fun x o e0 e1 e2 hx => K4 x o e0 e1 e2 (K3 x o e0 e1 e2 hx), _, _, rfl⟩
    have := putI_len (fs := fs) (i := k) (n := m)
    omega
  · rintro σ H3 ⟨S3, ⟨fs, D3, nd, ok, len⟩, K3, w3, w4, rfl⟩
    have lt : fs.length ≤ 6 := by omega
    refine sorted_dict D3 nd (by omega) rfl (fun y => rfl) (fun y => rfl) (fun y => rfl) fun r H4 ks hr s4 d4 pm asc => ?_
    have S4 := (StB.same s4 S3).mono (b' := b) (by omega)
    obtain ⟨r1, r2, r3⟩ := S3.off hr
    have hk : ∀ x o, x ≠ d → x ≠ g → H x = some o → H4 x = some o := fun x o e1 e2 hx => s4 _ _ (K3 x o (fun e => by rw [e, hF] at hx; cases hx) e1 e2 hx)
    have hr0 : H r = none := by
      cases e : H r with
      | none => rfl
      | some o =>
        have := K3 r o (fun z => by rw [z, hF] at e; cases e) r1 r2 e
        rw [hr] at this
        cases this
    exact q r H4 ks S4 hk r1 r2 r3 hr0 d4 asc (fun p m => ok p (pm.mem_iff.mp m)) (by rw [pm.length_eq]; exact lt)
end SR
set_option Elab.async false
set_option linter.all false
set_option maxRecDepth 100000
set_option maxHeartbeats 4000000
namespace SR
open PySem PySem.Spec PyProof.Rows L2
theorem cap_ok {ks : List (Int × Int)} (h : ∀ p ∈ ks, sizeOk p) (i : Int) : 1 ≤ cap ks i ∧ cap ks i ≤ 9 := by
  unfold cap
  cases e : ks.lookup i with
  | none => exact ⟨Int.le_refl _, by decide⟩
  | some n =>
    have m : ∃ p ∈ ks, p.2 = n := by
      clear h
      induction ks with
      | nil => cases e
      | cons p ks ih =>
        rw [List.lookup_cons] at e
        split at e
        · exact ⟨p, List.mem_cons_self, Option.some.inj e⟩
        · obtain ⟨q, hq, z⟩ := ih e
          exact ⟨q, List.mem_cons_of_mem _ hq, z⟩
    obtain ⟨p, hp, rfl⟩ := m
    have := h p hp
    exact ⟨Int.le_trans (by decide) this.2.1, this.2.2⟩
/-- what has been put into boxes: fs of n items, spare left -/
structure Bx (n : Int) (ks fs : List (Int × Int)) (spare : Int) : Prop where
  nd : (fs.map Prod.fst).Nodup
  po : ∀ p ∈ fs, 1 ≤ p.2 ∧ p.2 ≤ cap ks p.1
  sm : (fs.map Prod.snd).sum + spare = n
  sp : 0 ≤ spare
  bd : ∀ p ∈ fs, -(10 ^ 30) ≤ p.1 ∧ p.1 ≤ 10 ^ 30
theorem Bx.len {n spare : Int} {ks fs : List (Int × Int)} (h : Bx n ks fs spare) : (fs.length : Int) ≤ n - spare := by
  have h1 := len_sum fun p m => (h.po p m).1
  have h2 := h.sm
  omega
theorem putI_new {fs : List (Int × Int)} {i m : Int} (h : i ∉ fs.map Prod.fst) : putI fs i m = fs ++ [(i, m)] := if_neg h
theorem Bx.put {n spare i m : Int} {ks fs : List (Int × Int)} (h : Bx n ks fs spare) (new : i ∉ fs.map Prod.fst) (m1 : 1 ≤ m) (m2 : m ≤ spare) (m3 : m ≤ cap ks i) (bd : -(10 ^ 30) ≤ i ∧ i ≤ 10 ^ 30) : Bx n ks (putI fs i m) (spare - m) := by
  refine ⟨putI_nd h.nd, putI_all h.po ⟨m1, m3⟩, ?_, by omega, putI_all h.bd bd⟩
  have := h.sm
  rw [putI_new new, List.map_append, List.sum_append]
  show (fs.map Prod.snd).sum + (m + 0) + (spare - m) = n
  omega
def t_bxIn (K : PySem.W.Frag) : TS := (tSeq (tAsg (tCB qMin2 (tCons (tVar 5) (tCons (tOp qAdd (tC (.int 1)) (tCall spTake [] E0 (tCons (tVar 0) (tCons (tDGet2 (tVar 1) (tVar 3) (tC (.int 1))) (tNil))))) (tNil)))) (gName 8))
  (tSeq (tIfS (tTest (tOp qGt (tVar 8) (tC (.int 0))))
  (sDPut (tVar 4) (tVar 3) (tVar 8))
  (tNext))
  (tPar 5 3 (tCons (tOp qSub (tVar 5) (tVar 8)) (tCons (tOp qAdd (tVar 3) (tC (.int 1))) (tNil))))))
/-- what stays beside the boxes' dict F and the dict a -/
def KF (F a d g : Addr) (H H' : Hp) : Prop := ∀ x o, x ≠ F → x ≠ a → x ≠ d → x ≠ g → H x = some o → H' x = some o
theorem KF.trans {F a d g : Addr} {H H1 H2 : Hp} (x : KF F a d g H H1) (y : KF F a d g H1 H2) : KF F a d g H H2 := fun z o h1 h2 h3 h4 h => y z o h1 h2 h3 h4 (x z o h1 h2 h3 h4 h)
theorem Kp.kf {F a d g : Addr} {H H' : Hp} (k : Kp d g H H') : KF F a d g H H' := fun x o _ _ h1 h2 h => k x o h1 h2 h
theorem kf_upd {F a d g : Addr} {H : Hp} {o : HO} : KF F a d g H (upd H F o) := fun x _ h1 _ _ _ h => (upd_ne h1).trans h
theorem kf_updA {F a d g : Addr} {H : Hp} {o : HO} : KF F a d g H (upd H a o) := fun x _ _ h2 _ _ h => (upd_ne h2).trans h
theorem bx_in {K : PySem.W.Frag} {H : Hp} {d g c F a : Addr} {b : Nat} {n place spare : Int} {fs ks : List (Int × Int)} {w6 w7 w8 : Option V} {N N2 N3 : L2.St → Hp → Prop} {R : VK} (S : StB H d g c (b + 1)) (hF : H F = some (.dK (kvsOf fs))) (hA : H a = some (.dK (kvsOf ks)))
    (f1 : F ≠ d) (f2 : F ≠ g) (f3 : F ≠ c) (fa : F ≠ a) (a1 : a ≠ d) (a2 : a ≠ g) (hk : ∀ p ∈ ks, sizeOk p) (B : Bx n ks fs spare) (n40 : n ≤ 40) (lt : ∀ p ∈ fs, p.1 < place) (bd : -(10 ^ 30) ≤ place ∧ place ≤ 10 ^ 30)
    (hN : ∀ H' gs sp w, StB H' d g c b → KF F a d g H H' → H' F = some (.dK (kvsOf gs)) → H' a = some (.dK (kvsOf ks)) → Bx n ks gs sp → (∀ p ∈ gs, p.1 < place + 1) → N [some (.ref d), some (.ref a), some (.int n), some (.int (place + 1)), some (.ref F), some (.int sp), w6, w7, w] H') :
    t_bxIn K { nx := N, rt := R, bk := N2, ct := N3 } [some (.ref d), some (.ref a), some (.int n), some (.int place), some (.ref F), some (.int spare), w6, w7, w8] H := by
  obtain ⟨c1, c2⟩ := cap_ok hk place
  have gv : (valV (kvsOf ks) (.inl place)).getD (.int 1) = .int (cap ks place) := by
    rw [val_pairs]
    unfold cap
    cases ks.lookup place <;> rfl
  refine ⟨_, rfl, _, rfl, _, rfl, a, rfl, .inl ⟨_, .inl hA⟩, _, rfl, _, DGet.k (k := .inl place) hA, d, g, c, b, cap ks place, ?_, S, by omega, by omega, fun t H1 t0 t1 S1 q1 => ⟨_, _, rfl, rfl, _, _, rfl, ?_⟩⟩
  · rw [gv]
    rfl
  generalize hm : (if 1 + t < spare then 1 + t else spare) = m
  have m1 : m ≤ spare := by split at hm <;> omega
  have m2 : m ≤ cap ks place := by split at hm <;> omega
  have m0 : 0 ≤ m := by have := B.sp; split at hm <;> omega
  clear hm
  have F1 := q1 _ _ f1 f2 hF
  have A1 := q1 _ _ a1 a2 hA
  have new : place ∉ fs.map Prod.fst := fun z => by
    obtain ⟨p, hp, e⟩ := List.mem_map.mp z
    have := lt p hp
    omega
  refine ⟨_, rfl, _, _, rfl, rfl, _, rfl, ?_⟩
  by_cases pos : 0 < m
  · rw [decide_eq_true pos]
    have len := B.len
    have sp0 := B.sp
    refine iteT ⟨_, rfl, _, rfl, _, rfl, F, _, rfl, dput_pairs F1 (by omega), ?_⟩
    refine ⟨_, rfl, _, rfl, _, _, rfl, rfl, _, rfl, _, _, rfl, rfl, _, _, rfl, ?_⟩
    refine hN _ (putI fs place m) (spare - m) _ (S1.upd f1 f2 f3) (q1.kf.trans kf_upd) upd_same ((upd_ne (fun e => fa e.symm)).trans A1) (B.put new pos m1 m2 bd) (putI_all (fun p hp => ?_) ?_)
    · have := lt p hp
      omega
    · show place < place + 1
      omega
  · rw [decide_eq_false pos]
    have e0 : m = 0 := by omega
    subst e0
    refine iteF ⟨_, rfl, _, rfl, _, _, rfl, rfl, _, rfl, _, _, rfl, rfl, _, _, rfl, ?_⟩
    refine hN _ fs (spare - 0) _ S1 q1.kf F1 A1 (by rw [Int.sub_zero]; exact B) fun p hp => ?_
    have := lt p hp
    omega
end SR
set_option Elab.async false
set_option linter.all false
set_option maxRecDepth 100000
set_option maxHeartbeats 4000000
namespace SR
open PySem PySem.Spec PyProof.Rows L2
theorem e30 : (10 : Int) ^ 30 = 1000000000000000000000000000000 := by decide
theorem e29 : (10 : Int) ^ 29 = 100000000000000000000000000000 := by decide
theorem e28 : (10 : Int) ^ 28 = 10000000000000000000000000000 := by decide
def t_bxOut (K : PySem.W.Frag) : TS := (tSeq (tFor (iRng1 (tCons (tOp qAdd (tC (.int 1)) (tCall spTake [] E0 (tCons (tVar 0) (tCons (tC (.int 4)) (tNil))))) (tNil))) (gName 7) (t_bxIn K))
  (tAsg (tOp qAdd (tVar 3) (tCall (spPick K) [] E0 (tCons (tVar 0) (tCons (tLst (tCons (tC (.int 1)) (tCons (tC (.int 1)) (tCons (tC (.int 1)) (tCons (tC (.int 2)) (tCons (tC (.int 3)) (tCons (tC (.int 8)) (tCons (tOp qPow (tC (.int 10)) (tC (.int 28))) (tNil))))))))) (tNil))))) (gName 3)))
theorem bx_out {K : PySem.W.Frag} {H : Hp} {d g c F a : Addr} {b : Nat} {n place spare i : Int} {fs ks : List (Int × Int)} {w6 w7 w8 : Option V} {N N2 N3 : L2.St → Hp → Prop} {R : VK} (S : StB H d g c (b + 6)) (hF : H F = some (.dK (kvsOf fs))) (hA : H a = some (.dK (kvsOf ks)))
    (f1 : F ≠ d) (f2 : F ≠ g) (f3 : F ≠ c) (fa : F ≠ a) (a1 : a ≠ d) (a2 : a ≠ g) (hk : ∀ p ∈ ks, sizeOk p) (B : Bx n ks fs spare) (n40 : n ≤ 40) (lt : ∀ p ∈ fs, p.1 < place) (i0 : 0 ≤ i) (i5 : i ≤ 5) (bd : -(10 ^ 29) ≤ place ∧ place ≤ 10 ^ 29 + i * 20000000000000000000000000000)
    (hN : ∀ H' gs sp pl u7 u8, StB H' d g c b → KF F a d g H H' → H' F = some (.dK (kvsOf gs)) → H' a = some (.dK (kvsOf ks)) → Bx n ks gs sp → (∀ p ∈ gs, p.1 < pl) → (-(10 ^ 29) ≤ pl ∧ pl ≤ 10 ^ 29 + (i + 1) * 20000000000000000000000000000) → N [some (.ref d), some (.ref a), some (.int n), some (.int pl), some (.ref F), some (.int sp), w6, u7, u8] H') :
    t_bxOut K { nx := N, rt := R, bk := N2, ct := N3 } [some (.ref d), some (.ref a), some (.int n), some (.int place), some (.ref F), some (.int spare), w6, w7, w8] H := by
  refine ⟨_, rfl, d, g, c, b + 5, 4, rfl, S, by decide, by decide, fun t H1 t0 t1 S1 q1 => ⟨_, _, rfl, rfl, _, rfl, by omega, by omega, ?_⟩⟩
  have F1 := q1 _ _ f1 f2 hF
  have A1 := q1 _ _ a1 a2 hA
  have hj : (1 + t).toNat ≤ 4 := by omega
  generalize (1 + t).toNat = k at hj
  refine for_range (lo := 0) (n := k) (fun j σ H3 => StB H3 d g c (b + 5 - j) ∧ KF F a d g H H3 ∧ ∃ gs sp u7 u8, H3 F = some (.dK (kvsOf gs)) ∧ H3 a = some (.dK (kvsOf ks)) ∧ Bx n ks gs sp ∧ (∀ p ∈ gs, p.1 < place + (j : Int)) ∧ σ = [some (.ref d), some (.ref a), some (.int n), some (.int (place + (j : Int))), some (.ref F), some (.int sp), w6, u7, u8])
    ⟨S1, q1.kf, fs, spare, w7, w8, F1, A1, B, ?_, ?_⟩ ?_ ?_
  · intro p m
    have := lt p m
    omega
  · show _ = [some (V.ref d), some (V.ref a), some (V.int n), some (V.int (place + ((0 : Nat) : Int))), some (V.ref F), some (V.int spare), w6, w7, w8]
    rw [show place + ((0 : Nat) : Int) = place by omega]
  · rintro j σ H3 hj3 ⟨S3, K3, gs, sp, u7, u8, F3, A3, B3, lt3, rfl⟩
    have hb : b + 5 - j = (b + 5 - (j + 1)) + 1 := by omega
    rw [hb] at S3
    show t_bxIn K _ [some (.ref d), some (.ref a), some (.int n), some (.int (place + (j : Int))), some (.ref F), some (.int sp), w6, some (.int (0 + j)), u8] H3
    refine bx_in S3 F3 A3 f1 f2 f3 fa a1 a2 hk B3 n40 lt3 ?_ fun H4 hs sp4 w4 S4 K4 F4 A4 B4 lt4 => ⟨S4, K3.trans K4, hs, sp4, some (.int (0 + j)), w4, F4, A4, B4, ?_, ?_⟩
    · have := e29
      have := e30
      constructor <;> omega
    · intro p m
      have := lt4 p m
      omega
    · rw [show place + (j : Int) + 1 = place + ((j + 1 : Nat) : Int) by omega]
  · rintro σ H3 ⟨S3, K3, gs, sp, u7, u8, F3, A3, B3, lt3, rfl⟩
    refine ⟨_, rfl, _, rfl, 10, 28, rfl, rfl, ⟨by decide, by decide, by decide⟩, sz (by show 7 ≤ 1000; decide), fun l hl => ?_⟩
    obtain ⟨l1, l2, l3⟩ := S3.off hl
    have hb : StB H3 d g c (b + 1) := S3.mono (by omega)
    refine ⟨d, g, c, b, l, _, rfl, hb.new hl, SqL.of upd_same, l1, l2, by show 0 < 7; decide, by show 7 < 1000; decide, fun v H4 hv S4 q4 => ?_⟩
    have E28 : (10 : Int) ^ (28 : Int).toNat = 10000000000000000000000000000 := e28
    obtain ⟨m, rfl, m1, m2⟩ : ∃ m : Int, v = .int m ∧ 1 ≤ m ∧ m ≤ 10000000000000000000000000000 := by
      simp only [List.mem_cons, List.not_mem_nil, or_false] at hv
      rcases hv with rfl | rfl | rfl | rfl | rfl | rfl | rfl
      · exact ⟨1, rfl, by decide, by decide⟩
      · exact ⟨1, rfl, by decide, by decide⟩
      · exact ⟨1, rfl, by decide, by decide⟩
      · exact ⟨2, rfl, by decide, by decide⟩
      · exact ⟨3, rfl, by decide, by decide⟩
      · exact ⟨8, rfl, by decide, by decide⟩
      · exact ⟨_, rfl, by rw [E28]; decide, by rw [E28]; decide⟩
    clear hv
    have q34 : Kp d g H3 H4 := (Kp.new hl).trans q4
    refine ⟨_, _, rfl, rfl, hN H4 gs sp _ _ _ S4 (K3.trans q34.kf) (q34 _ _ f1 f2 F3) (q34 _ _ a1 a2 A3) B3 (fun p hp => ?_) ?_⟩
    · have := lt3 p hp
      omega
    · have := e29
      constructor <;> omega
def t_bxKey (K : PySem.W.Frag) : TS := (tSeq (tAsg (tCB qMin2 (tCons (tVar 5) (tCons (tCall spTake [] E0 (tCons (tVar 0) (tCons (tOp qAdd (tDGet (tVar 1) (tVar 3)) (tC (.int 1))) (tNil)))) (tNil)))) (gName 8))
  (tIfS (tAnd (tB (tDNotIn (tVar 3) (tVar 4))) (tTest (tOp qGt (tVar 8) (tC (.int 0)))))
  (tAsg (tTup (tCons (tVar 8) (tCons (tOp qSub (tVar 5) (tVar 8)) (tNil)))) (gTup K 2 (gCons (gSub (tVar 4) (tVar 3) rSetD) (gCons (gName 5) (gNil)))))
  (tNext)))
theorem bx_key {K : PySem.W.Frag} {H : Hp} {d g c F a : Addr} {b : Nat} {n place spare cp : Int} {od : Obj} {fs ks : List (Int × Int)} {w6 w7 w8 : Option V} {N N2 N3 : L2.St → Hp → Prop} {R : VK} (S : StB H d g c (b + 1)) (hF : H F = some (.dK (kvsOf fs))) (hA : H a = some (.frz od (.dK (kvsOf ks))))
    (f1 : F ≠ d) (f2 : F ≠ g) (f3 : F ≠ c) (fa : F ≠ a) (a1 : a ≠ d) (a2 : a ≠ g) (hk : ∀ p ∈ ks, sizeOk p) (hkd : (ks.map Prod.fst).Nodup) (hp : (place, cp) ∈ ks) (B : Bx n ks fs spare) (n40 : n ≤ 40)
    (hN : ∀ H' gs sp w, StB H' d g c b → KF F a d g H H' → H' F = some (.dK (kvsOf gs)) → H' a = some (.frz od (.dK (kvsOf ks))) → Bx n ks gs sp → N [some (.ref d), some (.ref a), some (.int n), some (.int place), some (.ref F), some (.int sp), w6, w7, w] H') :
    t_bxKey K { nx := N, rt := R, bk := N2, ct := N3 } [some (.ref d), some (.ref a), some (.int n), some (.int place), some (.ref F), some (.int spare), w6, w7, w8] H := by
  have ok := hk _ hp
  have lk := (lookup_some hkd).mpr hp
  have cpe : cap ks place = cp := by
    unfold cap
    rw [lk]
    rfl
  have gv : valV (kvsOf ks) (.inl place) = some (.int cp) := by
    rw [val_pairs, lk]
    rfl
  have o1 : 2 ≤ cp := ok.2.1
  have o2 : cp ≤ 9 := ok.2.2
  have o3 : -60 ≤ place := ok.1.1
  have o4 : place ≤ 60 := ok.1.2
  refine ⟨_, rfl, _, rfl, _, rfl, _, rfl, a, _, rfl, .inl ⟨_, .inl place, .inr ⟨od, hA⟩, rfl, gv.symm⟩, _, _, rfl, rfl, d, g, c, b, cp + 1, rfl, S, by omega, by omega, fun t H1 t0 t1 S1 q1 => ⟨_, _, rfl, ?_⟩⟩
  generalize hm : (if t < spare then t else spare) = m
  have m1 : m ≤ spare := by split at hm <;> omega
  have m2 : m ≤ cap ks place := by rw [cpe]; split at hm <;> omega
  have m0 : 0 ≤ m := by have := B.sp; split at hm <;> omega
  clear hm
  have F1 := q1 _ _ f1 f2 hF
  have A1 := q1 _ _ a1 a2 hA
  refine ⟨_, rfl, _, rfl, F, _, rfl, DGet.k (k := .inl place) F1, _, rfl, ?_⟩
  rw [val_pairs]
  cases e : fs.lookup place with
  | some z => exact iteF (iteF (hN _ fs spare _ S1 q1.kf F1 A1 B))
  | none =>
    have new := lookup_none.mp e
    refine iteT ⟨_, rfl, _, _, rfl, rfl, _, rfl, ?_⟩
    by_cases pos : 0 < m
    · rw [decide_eq_true pos]
      have len := B.len
      have sp0 := B.sp
      refine iteT ⟨_, rfl, _, rfl, _, rfl, _, _, rfl, rfl, sz (by show 2 ≤ 1000; decide), fun t2 ht2 => ?_⟩
      have s2 := same_new (o := .tup [.int m, .int (spare - m)]) ht2
      have S2 := S1.new (o := .tup [.int m, .int (spare - m)]) ht2
      have T2 : upd H1 t2 (.tup [.int m, .int (spare - m)]) t2 = some (.tup [.int m, .int (spare - m)]) := upd_same
      have K2 : KF F a d g H1 (upd H1 t2 (.tup [.int m, .int (spare - m)])) := fun x o _ _ _ _ h => s2 x o h
      generalize upd H1 t2 (.tup [.int m, .int (spare - m)]) = H2 at s2 S2 T2 K2 ⊢
      refine ⟨t2, _, rfl, SqT.of T2, rfl, _, _, rfl, ⟨_, rfl, _, rfl, F, _, rfl, dput_pairs (s2 _ _ F1) (by omega), _, _, rfl, rfl, ?_⟩⟩
      have bd : -(10 ^ 30) ≤ place ∧ place ≤ 10 ^ 30 := by
        have := e30
        constructor <;> omega
      exact hN _ (putI fs place m) (spare - m) _ (S2.upd f1 f2 f3) ((q1.kf.trans K2).trans kf_upd) upd_same ((upd_ne (fun e => fa e.symm)).trans (s2 _ _ A1)) (B.put new pos m1 m2 bd)
    · rw [decide_eq_false pos]
      exact iteF (hN _ fs spare _ S1 q1.kf F1 A1 B)
end SR
set_option Elab.async false
set_option linter.all false
set_option maxRecDepth 100000
set_option maxHeartbeats 4000000
namespace SR
open PySem PySem.Spec PyProof.Rows L2
theorem perm_sum {l m : List Int} (h : l.Perm m) : l.sum = m.sum := by
  induction h with
  | nil => rfl
  | cons x _ ih => rw [List.sum_cons, List.sum_cons, ih]
  | swap x y l =>
    rw [List.sum_cons, List.sum_cons, List.sum_cons, List.sum_cons]
    omega
  | trans _ _ h1 h2 => exact h1.trans h2
def spBoxes (K : PySem.W.Frag) : Sp := fun vs H Q _ => ∃ (d g c : Addr) (b : Nat) (a : Addr) (n : Int) (ks : List (Int × Int)), vs = [.ref d, .ref a, .int n] ∧ StB H d g c (b + 40) ∧ a ≠ d ∧ a ≠ g ∧ a ≠ c ∧ H a = some (.dK (kvsOf ks)) ∧ (ks.map Prod.fst).Nodup ∧ (∀ p ∈ ks, sizeOk p) ∧ ks.length ≤ 6 ∧ 0 ≤ n ∧ n ≤ 40 ∧
  ∀ r H' ps, StB H' d g c b → Kp d g H H' → r ≠ d → r ≠ g → r ≠ c → H r = none → H' r = some (.dK (kvsOf ps)) → Asc ps → (∀ p ∈ ps, 1 ≤ p.2 ∧ p.2 ≤ cap ks p.1) → (∀ p ∈ ps, -(10 ^ 30) ≤ p.1 ∧ p.1 ≤ 10 ^ 30) → (ps.map Prod.snd).sum ≤ n → Q (.ref r) H'
def t_boxes (K : PySem.W.Frag) : TS := tSeq (tAsg (tTup (tCons (tCall (spPick K) [] E0 (tCons (tVar 0) (tCons (tLst (tCons (tC (.int 0)) (tCons (tC (.int 0)) (tCons (tUn (rU fun i => .int (-i)) (tC (.int 2))) (tCons (tUn (rU fun i => .int (-i)) (tC (.int 9))) (tCons (tC (.int 30)) (tCons (tOp qPow (tC (.int 10)) (tC (.int 29))) (tCons (tUn (rU fun i => .int (-i)) (tOp qPow (tC (.int 10)) (tC (.int 29)))) (tNil))))))))) (tNil)))) (tCons (tDNewK) (tCons (tVar 2) (tNil))))) (gTup K 3 (gCons (gName 3) (gCons (gName 4) (gCons (gName 5) (gNil))))))
  (tSeq (tFor (iRng1 (tCons (tCall spTake [] E0 (tCons (tVar 0) (tCons (tC (.int 6)) (tNil)))) (tNil))) (gName 6) (t_bxOut K))
  (tSeq (tLock (tFor (iKeys (tVar 1)) (gName 3) (t_bxKey K)))
  (tRet (t_sorted K 4 3))))
theorem pure_boxes {K : PySem.W.Frag} (vs : List V) (H : Hp) (Q : VK) (E : XK) (h : spBoxes K vs H Q E) : t_boxes K { nx := fun _ H' => Q .non H', rt := Q } (start ["state", "sizes", "most", "place", "found", "spare", "turn", "step", "amount"] vs) H := by
  obtain ⟨d, g, c, b, a, n, ks, rfl, S, a1, a2, a3, hA, hkd, hk, hkl, n0, n40, q⟩ := h
  have E29 : (10 : Int) ^ (29 : Int).toNat = 100000000000000000000000000000 := e29
  refine ⟨_, rfl, 2, rfl, 9, rfl, 10, 29, rfl, rfl, ⟨by decide, by decide, by decide⟩, 10, 29, rfl, rfl, ⟨by decide, by decide, by decide⟩, _, rfl, sz (by show 7 ≤ 1000; decide), fun l hl => ?_⟩
  obtain ⟨l1, l2, l3⟩ := S.off hl
  refine ⟨d, g, c, b + 39, l, _, rfl, S.new hl, SqL.of upd_same, l1, l2, by show 0 < 7; decide, by show 7 < 1000; decide, fun v H1 hv S1 q1 => ?_⟩
  obtain ⟨pl, rfl, pl1, pl2⟩ : ∃ m : Int, v = .int m ∧ -100000000000000000000000000000 ≤ m ∧ m ≤ 100000000000000000000000000000 := by
    simp only [List.mem_cons, List.not_mem_nil, or_false] at hv
    rcases hv with rfl | rfl | rfl | rfl | rfl | rfl | rfl
    · exact ⟨0, rfl, by decide, by decide⟩
    · exact ⟨0, rfl, by decide, by decide⟩
    · exact ⟨_, rfl, by decide, by decide⟩
    · exact ⟨_, rfl, by decide, by decide⟩
    · exact ⟨30, rfl, by decide, by decide⟩
    · exact ⟨_, rfl, by rw [E29]; decide, by rw [E29]; decide⟩
    · exact ⟨_, rfl, by rw [E29]; decide, by rw [E29]; decide⟩
  clear hv
  have k1 : Kp d g H H1 := (Kp.new hl).trans q1
  intro F hF
  obtain ⟨f1, f2, f3⟩ := S1.off hF
  have A1 := k1 _ _ a1 a2 hA
  have fa : F ≠ a := fun e => by
    rw [e, A1] at hF
    cases hF
  have hF0 : H F = none := by
    cases e : H F with
    | none => rfl
    | some o =>
      have := k1 F o f1 f2 e
      rw [hF] at this
      cases this
  have S2 := S1.new (o := .dK []) hF
  have D2 : upd H1 F (.dK []) F = some (.dK (kvsOf [])) := upd_same
  have A2 : upd H1 F (.dK []) a = some (.dK (kvsOf ks)) := (upd_ne fa.symm).trans A1
  have K2 : KF F a d g H (upd H1 F (.dK [])) := k1.kf.trans kf_upd
  generalize upd H1 F (.dK []) = H2 at S2 D2 A2 K2 ⊢
  refine ⟨_, rfl, sz (by show 3 ≤ 1000; decide), fun t ht => ?_⟩
  have s3 := same_new (o := .tup [.int pl, .ref F, .int n]) ht
  have T3 : upd H2 t (.tup [.int pl, .ref F, .int n]) t = some (.tup [.int pl, .ref F, .int n]) := upd_same
  have S3 := S2.new (o := .tup [.int pl, .ref F, .int n]) ht
  generalize upd H2 t (.tup [.int pl, .ref F, .int n]) = H3 at s3 T3 S3 ⊢
  have K3 : KF F a d g H H3 := K2.trans fun x o _ _ _ _ h => s3 x o h
  refine ⟨t, _, rfl, SqT.of T3, rfl, _, _, rfl, _, _, rfl, _, _, rfl, rfl, ?_⟩
  refine ⟨_, rfl, d, g, c, b + 38, 6, rfl, S3, by decide, by decide, fun u H4 u0 u1 S4 q4 => ⟨u, rfl, by omega, by omega, ?_⟩⟩
  have B0 : Bx n ks [] n := ⟨List.nodup_nil, (fun p m => nomatch m), by show 0 + n = n; omega, n0, (fun p m => nomatch m)⟩
  have bd0 : -(10 ^ 29) ≤ pl ∧ pl ≤ 10 ^ 29 + (((0 : Nat) : Int)) * 20000000000000000000000000000 := by
    have := e29
    constructor <;> omega
  refine for_range (lo := 0) (n := u.toNat) (fun i σ H5 => StB H5 d g c (b + 38 - 6 * i) ∧ KF F a d g H H5 ∧ ∃ gs sp pl u6 u7 u8, H5 F = some (.dK (kvsOf gs)) ∧ H5 a = some (.dK (kvsOf ks)) ∧ Bx n ks gs sp ∧ (∀ p ∈ gs, p.1 < pl) ∧ (-(10 ^ 29) ≤ pl ∧ pl ≤ 10 ^ 29 + (i : Int) * 20000000000000000000000000000) ∧ σ = [some (.ref d), some (.ref a), some (.int n), some (.int pl), some (.ref F), some (.int sp), u6, u7, u8])
    ⟨S4, K3.trans q4.kf, [], n, pl, none, none, none, q4 _ _ f1 f2 (s3 _ _ D2), q4 _ _ a1 a2 (s3 _ _ A2), B0, (fun p m => nomatch m), bd0, rfl⟩ ?_ ?_
  · rintro i σ H5 hi ⟨S5, K5, gs, sp, pl5, u6, u7, u8, F5, A5, B5, lt5, bd5, rfl⟩
    have hb : b + 38 - 6 * i = (b + 38 - 6 * (i + 1)) + 6 := by omega
    rw [hb] at S5
    show t_bxOut K _ [some (.ref d), some (.ref a), some (.int n), some (.int pl5), some (.ref F), some (.int sp), some (.int (0 + i)), u7, u8] H5
    refine bx_out (i := (i : Int)) S5 F5 A5 f1 f2 f3 fa a1 a2 hk B5 n40 lt5 (by omega) (by omega) bd5 fun H6 hs sp6 pl6 v7 v8 S6 K6 F6 A6 B6 lt6 bd6 => ⟨S6, K5.trans K6, hs, sp6, pl6, some (.int (0 + i)), v7, v8, F6, A6, B6, lt6, ?_, rfl⟩
    rw [show ((i + 1 : Nat) : Int) = (i : Int) + 1 by omega]
    exact bd6
  · rintro σ H5 ⟨S5, K5, gs, sp, pl5, u6, u7, u8, F5, A5, B5, lt5, bd5, rfl⟩
    have S5' : StB H5 d g c (b + 6) := S5.mono (by omega)
    clear S5
    refine ⟨a, _, A5, trivial, fun od => ?_⟩
    have S6 := S5'.upd (o := .frz od (.dK (kvsOf ks))) a1 a2 a3
    have A6 : upd H5 a (.frz od (.dK (kvsOf ks))) a = some (.frz od (.dK (kvsOf ks))) := upd_same
    have F6 : upd H5 a (.frz od (.dK (kvsOf ks))) F = some (.dK (kvsOf gs)) := (upd_ne fa).trans F5
    have K6 : KF F a d g H (upd H5 a (.frz od (.dK (kvsOf ks)))) := K5.trans kf_updA
    generalize upd H5 a (.frz od (.dK (kvsOf ks))) = H6 at S6 A6 F6 K6 ⊢
    have kl : (kvsOf ks).length = ks.length := by unfold kvsOf; rw [List.length_map]
    refine ⟨_, rfl, a, od, rfl, .inl ⟨_, A6, ?_⟩⟩
    refine for_it (walk_keys (d := a) (o := od) (kvs := kvsOf ks)) (fun i σ H7 => StB H7 d g c (b + 6 - i) ∧ KF F a d g H H7 ∧ ∃ gs sp u3 u6 u7 u8, H7 F = some (.dK (kvsOf gs)) ∧ H7 a = some (.frz od (.dK (kvsOf ks))) ∧ Bx n ks gs sp ∧ σ = [some (.ref d), some (.ref a), some (.int n), u3, some (.ref F), some (.int sp), u6, u7, u8])
      ⟨S6, K6, gs, sp, some (.int pl5), u6, u7, u8, F6, A6, B5, rfl⟩ ?_ ?_ ?_
    · rintro i σ H7 _ ⟨_, _, gs7, sp7, u3, v6, v7, v8, F7, A7, _⟩
      exact A7
    · rintro i x σ H7 H8 hi ⟨S7, K7, gs7, sp7, u3, v6, v7, v8, F7, A7, B7, rfl⟩ ⟨rfl, k, v, hkv, rfl⟩
      obtain ⟨p, hp, e⟩ : ∃ p, ks[i]? = some p ∧ ((.inl p.1, .int p.2) : Key × V) = (k, v) := by
        unfold kvsOf at hkv
        rw [List.getElem?_map] at hkv
        obtain ⟨p, h1, h2⟩ := Option.map_eq_some_iff.mp hkv
        exact ⟨p, h1, h2⟩
      cases e
      have hb : b + 6 - i = (b + 6 - (i + 1)) + 1 := by omega
      rw [hb] at S7
      show t_bxKey K _ [some (.ref d), some (.ref a), some (.int n), some (.int p.1), some (.ref F), some (.int sp7), v6, v7, v8] H8
      refine bx_key (cp := p.2) S7 F7 A7 f1 f2 f3 fa a1 a2 hk hkd (List.mem_of_getElem? hp) B7 n40 fun H9 hs sp9 w9 S9 K9 F9 A9 B9 => ⟨S9, K7.trans K9, hs, sp9, some (.int p.1), v6, v7, w9, F9, A9, B9, rfl⟩
    · rintro σ H7 ⟨S7, K7, gs7, sp7, u3, v6, v7, v8, F7, A7, B7, rfl⟩
      refine ⟨A7, ?_⟩
      have S8 := S7.upd (o := .dK (kvsOf ks)) a1 a2 a3
      have A8 : upd H7 a (.dK (kvsOf ks)) a = some (.dK (kvsOf ks)) := upd_same
      have F8 : upd H7 a (.dK (kvsOf ks)) F = some (.dK (kvsOf gs7)) := (upd_ne fa).trans F7
      have K8 : KF F a d g H (upd H7 a (.dK (kvsOf ks))) := K7.trans kf_updA
      generalize upd H7 a (.dK (kvsOf ks)) = H8 at S8 A8 F8 K8 ⊢
      have len := B7.len
      have sp0 := B7.sp
      refine sorted_dict F8 B7.nd (by omega) rfl (fun y => rfl) (fun y => rfl) (fun y => rfl) fun r H9 ps hr s9 d9 pm asc => ?_
      obtain ⟨r1, r2, r3⟩ := S8.off hr
      have kp : Kp d g H H9 := fun x o e1 e2 hx => by
        refine s9 _ _ ?_
        by_cases ea : x = a
        · subst ea
          rw [hA] at hx
          cases hx
          exact A8
        · exact K8 x o (fun e => by rw [e, hF0] at hx; cases hx) ea e1 e2 hx
      have hr0 : H r = none := by
        cases e : H r with
        | none => rfl
        | some o =>
          have z : H8 r = some o := by
            by_cases ea : r = a
            · subst ea
              rw [A8] at hr
              cases hr
            · exact K8 r o (fun w => by rw [w, hF0] at e; cases e) ea r1 r2 e
          rw [hr] at z
          cases z
      refine q r H9 ps ((StB.same s9 S8).mono (by omega)) kp r1 r2 r3 hr0 d9 asc (fun p m => B7.po p (pm.mem_iff.mp m)) (fun p m => B7.bd p (pm.mem_iff.mp m)) ?_
      have sm := B7.sm
      have : (ps.map Prod.snd).sum = (gs7.map Prod.snd).sum := perm_sum (pm.map Prod.snd)
      omega
end SR
set_option Elab.async false
set_option linter.all false
set_option maxRecDepth 100000
set_option maxHeartbeats 4000000
namespace SR
open PySem PySem.Spec PyProof.Rows L2
theorem asc_eq : ∀ {ps qs : List (Int × Int)}, Asc ps → Asc qs → ps.Perm qs → ps = qs
  | [], qs, _, _, h => (List.nil_perm.mp h).symm
  | p :: ps, [], _, _, h => absurd (List.perm_nil.mp h) (by simp)
  | p :: ps, q :: qs, h1, h2, h => by
    have a := List.pairwise_cons.mp h1
    have b := List.pairwise_cons.mp h2
    have e : p = q := by
      rcases List.mem_cons.mp (h.mem_iff.mp List.mem_cons_self) with e | m
      · exact e
      · rcases List.mem_cons.mp (h.symm.mem_iff.mp (List.mem_cons_self (a := q) (l := qs))) with e | m2
        · exact e.symm
        · have := a.1 q m2
          have := b.1 p m
          omega
    subst e
    rw [asc_eq a.2 b.2 (List.perm_cons p |>.mp h)]
theorem RowOk.perm {ps ks qs ls : List (Int × Int)} (h : RowOk ps ks) (h1 : qs.Perm ps) (h2 : ls.Perm ks) : RowOk qs ls := by
  have ce : ∀ i, cap ls i = cap ks i := fun i => by
    unfold cap
    rw [lookup_perm h2.symm h.kd]
  exact ⟨(h1.map _).nodup_iff.mpr h.nd, (h2.map _).nodup_iff.mpr h.kd, by rw [h2.length_eq]; exact h.kl, fun p m => h.ko p (h2.mem_iff.mp m), fun p m => by rw [ce]; exact h.po p (h1.mem_iff.mp m), by rw [perm_sum (h1.map _)]; exact h.sm⟩
theorem asc_nd {ps : List (Int × Int)} (h : Asc ps) : (ps.map Prod.fst).Nodup := by
  unfold List.Nodup
  rw [List.pairwise_map]
  exact h.imp fun {a b} z e => by omega
/-- a new row -/
theorem make_row {K : PySem.W.Frag} {C : Addr} {H : Hp} {l1 l2 : Addr} {ps ks : List (Int × Int)} {Q : VK} {E : XK} (hp : PairsAt K H l1 ps) (hk : PairsAt K H l2 ks) (ok : RowOk ps ks)
    (q : ∀ x H' qs ls, H x = none → Same H H' → RowAt K C H' x qs ls → qs.Perm ps → ls.Perm ks → Asc qs → Asc ls → Q (.ref x) H') :
    ∀ x dx, H x = none → H dx = none → dx ≠ x → spRowInit K C [.ref x, .ref l1, .ref l2] (upd (upd H dx (.own x)) x (.ins C dx [])) (fun v H2 => v = .non ∧ Q (.ref x) H2) E := by
  intro x dx hx hd ne
  have hx2 : upd H dx (.own x) x = none := (upd_ne ne.symm).trans hx
  have s : Same H (upd (upd H dx (.own x)) x (.ins C dx [])) := (same_new hd).trans (same_new hx2)
  refine ⟨x, l1, l2, dx, ps, ks, rfl, upd_same, hp.same s, hk.same s, ok, fun H' qs ls sb row p1 p2 a1 a2 => ⟨rfl, q x H' qs ls hx (fun b o hb => ?_) row p1 p2 a1 a2⟩⟩
  exact sb b o (ne_of_none hb hx) (s b o hb)
def spMade (K : PySem.W.Frag) (C : Addr) : Sp := fun vs H Q _ => ∃ a b ps ks, vs = [.ref a, .ref b] ∧ H a = some (.dK (kvsOf ps)) ∧ H b = some (.dK (kvsOf ks)) ∧ RowOk ps ks ∧ Asc ps ∧ Asc ks ∧ ∀ x H', H x = none → Same H H' → RowAt K C H' x ps ks → Q (.ref x) H'
def t_made (K : PySem.W.Frag) (c_Row : Addr) : TS := tRet (tMake c_Row (spRowInit K c_Row) [] E0 (tCons (LiI.tListItems (tVar 0)) (tCons (LiI.tListItems (tVar 1)) (tNil))))
theorem items_pairs {K : PySem.W.Frag} {H : Hp} {p : Addr} {ts : List Addr} {ps : List (Int × Int)} (h1 : H p = some (.lst (ts.map V.ref))) (h2 : Paired (fun (t : Addr) (q : Key × V) => H t = some (.tup [kV q.1, q.2])) ts (kvsOf ps)) : PairsAt K H p ps := by
  refine ⟨ts, .inl (SqL.of h1), ?_⟩
  clear h1
  induction ps generalizing ts with
  | nil =>
    cases h2
    exact .nil
  | cons q ps ih =>
    cases h2 with
    | cons a b => exact .cons a (ih b)
theorem pure_made {K : PySem.W.Frag} {C : Addr} (vs : List V) (H : Hp) (Q : VK) (E : XK) (h : spMade K C vs H Q E) : t_made K C { nx := fun _ H' => Q .non H', rt := Q } (start ["boxes", "sizes"] vs) H := by
  obtain ⟨a, b, ps, ks, rfl, hA, hB, ok, ap, ak, q⟩ := h
  refine ⟨_, rfl, a, _, rfl, hA, fun H1 l1 t1 s1 n1 _ _ d1 p1 => ?_⟩
  refine ⟨_, rfl, b, _, rfl, s1 _ _ hB, fun H2 l2 t2 s2 n2 _ _ d2 p2 => ?_⟩
  have q1 : PairsAt K H2 l1 ps := (items_pairs d1 p1).same s2
  have q2 : PairsAt K H2 l2 ks := items_pairs d2 p2
  refine make_row q1 q2 ok fun x H' qs ls hx s row e1 e2 b1 b2 => ?_
  have z1 := asc_eq b1 ap e1
  have z2 := asc_eq b2 ak e2
  subst z1 z2
  exact q x H' (Same.free (Same.trans s1 s2) hx) (Same.trans s1 (Same.trans s2 s)) row
end SR
set_option Elab.async false
set_option linter.all false
set_option maxRecDepth 100000
set_option maxHeartbeats 4000000
namespace SR
open PySem PySem.Spec PyProof.Rows L2
/-- a property of the class, by its promise -/
structure Prp (P : Program) (w : World) (K : PySem.W.Frag) (mg : Str → Option Value) (base : Heap) (k : Nat) (C : Addr) (f : Str) (sp : Sp) : Prop where
  ex : ∃ (p g : Addr) (fd : FuncData) (ps : List Str), Cls K C ∧ PropOf K C f p g ∧ FnOk P w K mg base CX0 k g fd ps sp ∧ Binds K fd ps []
theorem pe_pr {X : Cx} {j k : Nat} {C : Addr} {f : Str} {sp : Sp} {e : Expr} {pos : Pos} {ta : TE} (c : Prp X.prog X.w X.K X.mg X.base k C f sp) (hr : Room j X.A) (hk : k + 1 ≤ j) (he : PE X e ta) (hab : attributeBase e f X.env (eval e X.env) = eval e X.env := by rfl) :
    PE X (.Attribute e f pos) (tProp C sp [] E0 ta) := by
  obtain ⟨p, g, fd, ps, c1, c2, F, b⟩ := c.ex
  exact pe_prop he c1 c2 F (hr.mono hk) b .nil pass0 hab
end SR
set_option Elab.async false
set_option linter.all false
set_option maxRecDepth 100000
set_option maxHeartbeats 4000000
namespace SR
open PySem PySem.Spec PyProof.Rows L2
abbrev Step := Int × Int × Int × Int × Int
def stepAt (cn cp : Int → Int) (most i l : Int) : Step := (i, l, cn i, stL most l (cp i) (cn i), stC most l (cp i) (cn i))
/-- from box i on, with the load l, until it is 0 -/
inductive Walks (cn cp : Int → Int) (most : Int) : Int → Int → List Step → Prop where
  | last {i l : Int} (h : stL most l (cp i) (cn i) = 0) : Walks cn cp most i l [stepAt cn cp most i l]
  | more {i l : Int} {r : List Step} (h : stL most l (cp i) (cn i) ≠ 0) (t : Walks cn cp most (i + 1) (stL most l (cp i) (cn i)) r) : Walks cn cp most i l (stepAt cn cp most i l :: r)
def sumFrom (i : Int) (ps : List (Int × Int)) : Int := (ps.map fun p => if i ≤ p.1 then p.2 else 0).sum
theorem sumFrom_cons (i : Int) (p : Int × Int) (ps : List (Int × Int)) : sumFrom i (p :: ps) = (if i ≤ p.1 then p.2 else 0) + sumFrom i ps := rfl
theorem cnt_cons (i : Int) (p : Int × Int) (ps : List (Int × Int)) : cnt (p :: ps) i = if i = p.1 then p.2 else cnt ps i := by
  unfold cnt
  obtain ⟨j, n⟩ := p
  rw [List.lookup_cons]
  by_cases e : i = j
  · subst e
    rw [beq_self_eq_true, if_pos rfl]
    rfl
  · rw [beq_eq_false_iff_ne.mpr e, if_neg e]
theorem sumFrom_next (i : Int) : ∀ {ps : List (Int × Int)}, (ps.map Prod.fst).Nodup → sumFrom i ps = cnt ps i + sumFrom (i + 1) ps
  | [], _ => rfl
  | p :: ps, nd => by
    have nd' := List.nodup_cons.mp nd
    have ih := sumFrom_next i nd'.2
    rw [sumFrom_cons, sumFrom_cons, cnt_cons, ih]
    by_cases e : i = p.1
    · have z : cnt ps i = 0 := by
        unfold cnt
        rw [lookup_none.mpr (by rw [e]; exact nd'.1)]
        rfl
      rw [if_pos e, if_pos (by omega), if_neg (by omega), z]
    · rw [if_neg e]
      by_cases f : i ≤ p.1
      · rw [if_pos f, if_pos (by omega)]
        omega
      · rw [if_neg f, if_neg (by omega)]
        omega
theorem sumFrom_bd (i : Int) : ∀ {ps : List (Int × Int)}, (∀ p ∈ ps, 1 ≤ p.2) → 0 ≤ sumFrom i ps ∧ sumFrom i ps ≤ (ps.map Prod.snd).sum
  | [], _ => ⟨Int.le_refl _, Int.le_refl _⟩
  | p :: ps, h => by
    have ih := sumFrom_bd i (ps := ps) fun q m => h q (List.mem_cons_of_mem _ m)
    have := h p List.mem_cons_self
    rw [sumFrom_cons, List.map_cons, List.sum_cons]
    split <;> omega
theorem cnt_bd {ps ks : List (Int × Int)} (ok : RowOk ps ks) (i : Int) : 0 ≤ cnt ps i ∧ cnt ps i ≤ cap ks i := by
  have c := cap_ok ok.ko i
  unfold cnt
  cases e : ps.lookup i with
  | none => exact ⟨Int.le_refl _, by show (0 : Int) ≤ _; omega⟩
  | some n =>
    have m := (lookup_some ok.nd).mp e
    have := ok.po _ m
    exact ⟨by show (0 : Int) ≤ n; omega, this.2⟩
def TupS (H : Hp) (t : Addr) (s : Step) : Prop := H t = some (.tup [.int s.1, .int s.2.1, .int s.2.2.1, .int s.2.2.2.1, .int s.2.2.2.2])
def StepsAt (H : Hp) (s : Addr) (st : List Step) : Prop := ∃ ts, H s = some (.lst (ts.map V.ref)) ∧ Paired (TupS H) ts st
def spStepsFrom (K : PySem.W.Frag) (C : Addr) : Sp := fun vs H Q _ => ∃ x most start ps ks, vs = [.ref x, .int most, .int start] ∧ RowAt K C H x ps ks ∧ RowOk ps ks ∧ 1 ≤ most ∧ most ≤ 99 ∧ 1 ≤ cnt ps start ∧
  ∀ s H' st, H s = none → Same H H' → StepsAt H' s st → Walks (cnt ps) (cap ks) most start 0 st → st.length ≤ 80 → Q (.ref s) H'
def t_stBody (K : PySem.W.Frag) (c_BadNumber : Addr) (c_Row : Addr) : TS := (tSeq (tAsg (tMeth c_Row "held" (spHeld K c_Row) [] E0 (tVar 0) (tCons (tVar 4) (tNil))) (gName 6))
  (tSeq (tAsg (tCall (spPassed K c_BadNumber) [] E0 (tCons (tVar 1) (tCons (tVar 5) (tCons (tMeth c_Row "capacity" (spCapacityOf K c_Row) [] E0 (tVar 0) (tCons (tVar 4) (tNil))) (tCons (tVar 6) (tNil)))))) (gTup K 2 (gCons (gName 7) (gCons (gName 8) (gNil)))))
  (tSeq (tDrop (tBM K "list" rAppend (tVar 3) (tCons (tTup (tCons (tVar 4) (tCons (tVar 5) (tCons (tVar 6) (tCons (tVar 8) (tCons (tVar 7) (tNil))))))) (tNil))))
  (tSeq (tAug 4 (tC (.int 1)) (ipI fun i j => i + j))
  (tAsg (tVar 8) (gName 5))))))
def t_steps_from (K : PySem.W.Frag) (c_BadNumber : Addr) (c_Row : Addr) : TS := tSeq (tAsg (tLst (tNil)) (gName 3))
  (tSeq (tAsg (tVar 2) (gName 4))
  (tSeq (tAsg (tC (.int 0)) (gName 5))
  (tSeq (tWhile (tOr (tTest (tOp qGt (tVar 5) (tC (.int 0)))) (tNot ((fun σ H Q => tVar 3 σ H fun x H1 => ∃ k, TruV K x H1 k ∧ Q k H1)))) (t_stBody K c_BadNumber c_Row))
  (tRet (tVar 3)))))
theorem held_none (c k d e : Addr) : List.lookup ("held" : Str) (rowFs c k d e) = none := by
  unfold rowFs
  rw [lkNe (by decide), lkNe (by decide), lkNe (by decide), lkNe (by decide)]
  rfl
theorem capacity_none (c k d e : Addr) : List.lookup ("capacity" : Str) (rowFs c k d e) = none := by
  unfold rowFs
  rw [lkNe (by decide), lkNe (by decide), lkNe (by decide), lkNe (by decide)]
  rfl
theorem RowAt.ins {K : PySem.W.Frag} {C : Addr} {H : Hp} {x : Addr} {ps ks : List (Int × Int)} (h : RowAt K C H x ps ks) : ∃ dx fs, H x = some (.ins C dx fs) ∧ List.lookup ("held" : Str) fs = none ∧ List.lookup ("capacity" : Str) fs = none := by
  obtain ⟨dx, c, k, d, e, _, _, h1, _⟩ := h
  exact ⟨dx, _, h1, held_none c k d e, capacity_none c k d e⟩
theorem st_body {K : PySem.W.Frag} {C B : Addr} {H : Hp} {x s : Addr} {most start i l : Int} {ps ks : List (Int × Int)} {ts : List Addr} {acc : List Step} {w6 w7 w8 : Option V} {N N2 N3 : L2.St → Hp → Prop} {R : VK} (row : RowAt K C H x ps ks) (ok : RowOk ps ks) (m1 : 1 ≤ most) (m2 : most ≤ 99)
    (l0 : 0 ≤ l) (l1 : l ≤ most) (hs : H s = some (.lst (ts.map V.ref))) (hts : Paired (TupS H) ts acc) (short : acc.length ≤ 100)
    (hN : ∀ H' us, SameBut s H H' → H' s = some (.lst (us.map V.ref)) → Paired (TupS H') us (acc ++ [stepAt (cnt ps) (cap ks) most i l]) → N [some (.ref x), some (.int most), some (.int start), some (.ref s), some (.int (i + 1)), some (.int (stL most l (cap ks i) (cnt ps i))), some (.int (cnt ps i)), some (.int (stC most l (cap ks i) (cnt ps i))), some (.int (stL most l (cap ks i) (cnt ps i)))] H') :
    t_stBody K B C { nx := N, rt := R, bk := N2, ct := N3 } [some (.ref x), some (.int most), some (.int start), some (.ref s), some (.int i), some (.int l), w6, w7, w8] H := by
  obtain ⟨dx, fs, hx, no1, no2⟩ := row.ins
  have c := cap_ok ok.ko i
  have n := cnt_bd ok i
  refine ⟨_, rfl, x, dx, fs, rfl, hx, no1, _, rfl, x, i, ps, ks, rfl, row, ok.nd, ?_⟩
  refine ⟨_, rfl, _, rfl, _, rfl, x, dx, fs, rfl, hx, no2, _, rfl, x, i, ps, ks, rfl, row, ok.kd, _, rfl, .int most, .int l, .int (cap ks i), .int (cnt ps i), _, _, _, _, rfl, .int _, .int _, .int _, .int _, fun z => ?_, fun c' u' d' x' e1 e2 e3 e4 _ p H1 hp s1 P1 => ?_⟩
  · rw [okV_yes.mpr ⟨_, _, _, _, rfl, rfl, rfl, rfl, ⟨m1, m2⟩, ⟨l0, l1⟩, ⟨c.1, by omega⟩, n⟩] at z
    cases z
  cases e1
  cases e2
  cases e3
  cases e4
  refine ⟨p, _, rfl, SqT.of P1, rfl, _, _, rfl, _, _, rfl, rfl, ?_⟩
  have L1 := s1 _ _ hs
  refine ⟨_, rfl, .inl ⟨rfl, _, SqL.of L1⟩, _, rfl, _, rfl, _, rfl, _, rfl, _, rfl, sz (by show 5 ≤ 1000; decide), fun t ht => ?_⟩
  have s2 := same_new (o := .tup [.int i, .int l, .int (cnt ps i), .int (stL most l (cap ks i) (cnt ps i)), .int (stC most l (cap ks i) (cnt ps i))]) ht
  have T2 : TupS (upd H1 t (.tup [.int i, .int l, .int (cnt ps i), .int (stL most l (cap ks i) (cnt ps i)), .int (stC most l (cap ks i) (cnt ps i))])) t (stepAt (cnt ps) (cap ks) most i l) := upd_same
  generalize upd H1 t (.tup [.int i, .int l, .int (cnt ps i), .int (stL most l (cap ks i) (cnt ps i)), .int (stC most l (cap ks i) (cnt ps i))]) = H2 at s2 T2 ⊢
  have L2' := s2 _ _ L1
  have tl : ts.length = acc.length := paired_len hts
  refine ⟨s, _, _, rfl, rfl, L2', ?_, ?_⟩
  · rw [List.length_map, tl]
    exact Nat.lt_of_le_of_lt short (by decide)
  refine ⟨_, rfl, _, _, rfl, rfl, _, rfl, ?_⟩
  have keep : ∀ {b : Addr} {st : Step}, TupS H2 b st → TupS (upd H2 s (.lst (ts.map V.ref ++ [.ref t]))) b st := fun {b st} z => (upd_ne (ne_of z L2' (by intro e; cases e))).trans z
  refine hN _ (ts ++ [t]) (fun b o ne h => (upd_ne ne).trans (s2 _ _ (s1 _ _ h))) ?_ (paired_snoc (keep T2) (paired_imp (fun _ _ z => keep (s2 _ _ (s1 _ _ z))) hts))
  rw [upd_same, List.map_append]
  rfl
theorem pure_steps_from {K : PySem.W.Frag} {C B : Addr} (vs : List V) (H : Hp) (Q : VK) (E : XK) (h : spStepsFrom K C vs H Q E) :
    t_steps_from K B C { nx := fun _ H' => Q .non H', rt := Q } (start ["row", "capacity", "start", "steps", "index", "load", "count", "new_count", "new_load"] vs) H := by
  obtain ⟨x, most, start0, ps, ks, rfl, row, ok, m1, m2, c1, q⟩ := h
  refine ⟨sz (Nat.zero_le _), fun s hs => ?_⟩
  have s1 := same_new (o := .lst []) hs
  have L1 : upd H s (.lst []) s = some (.lst []) := upd_same
  generalize upd H s (.lst []) = H1 at s1 L1 ⊢
  refine ⟨_, rfl, ?_⟩
  have total := sumFrom_bd start0 fun p m => (ok.po p m).1
  have top := ok.sm
  refine ⟨fun m σ H2 => ∃ i l acc ts w6 w7 w8, m = (2 * sumFrom i ps + l).toNat ∧ 0 ≤ l ∧ l ≤ most ∧ (acc = [] → i = start0 ∧ l = 0) ∧ ((acc = [] ∨ 0 < l) → ∀ r, Walks (cnt ps) (cap ks) most i l r → Walks (cnt ps) (cap ks) most start0 0 (acc ++ r)) ∧ (acc ≠ [] → l = 0 → Walks (cnt ps) (cap ks) most start0 0 acc) ∧
    SameBut s H1 H2 ∧ H2 s = some (.lst (ts.map V.ref)) ∧ Paired (TupS H2) ts acc ∧ acc.length + m ≤ 80 ∧ σ = [some (.ref x), some (.int most), some (.int start0), some (.ref s), some (.int i), some (.int l), w6, w7, w8],
    ⟨_, start0, 0, [], [], none, none, none, rfl, Int.le_refl _, by omega, fun _ => ⟨rfl, rfl⟩, fun _ r w => w, fun z => absurd rfl z, fun b o _ h => h, L1, .nil, by show 0 + _ ≤ 80; omega, rfl⟩, ?_⟩
  rintro m σ H2 ⟨i, l, acc, ts, w6, w7, w8, rfl, l0, l1, first, ext, fin, k2, L2', hts, len, rfl⟩
  have over : ∀ H3, H3 = H2 → acc ≠ [] → l = 0 → Q (.ref s) H3 := fun H3 e ne z => by
    subst e
    refine q s H3 acc hs (fun b o hb => k2 b o (ne_of_none hb hs) (s1 b o hb)) ⟨ts, L2', hts⟩ (fin ne z) (by omega)
  have row2 : RowAt K C H2 x ps ks := by
    have r1 := row.same s1
    obtain ⟨dx, c, k, d, e, ps0, ks0, h1, ⟨t1, h2, h3⟩, ⟨t2, h4, h5⟩, h6, h7, h8⟩ := r1
    have kp : ∀ {b : Addr} {o : HO}, H1 b = some o → (∀ xs, o ≠ .lst xs) → H2 b = some o := fun {b o} hb no => k2 b o (fun e => by rw [e, L1] at hb; exact no _ (Option.some.inj hb).symm) hb
    refine ⟨dx, c, k, d, e, ps0, ks0, kp h1 (fun _ e => nomatch e), ⟨t1, ?_, paired_imp (fun _ p z => kp (o := .tup [.int p.1, .int p.2]) z (fun _ e => nomatch e)) h3⟩, ⟨t2, ?_, paired_imp (fun _ p z => kp (o := .tup [.int p.1, .int p.2]) z (fun _ e => nomatch e)) h5⟩, kp h6 (fun _ e => nomatch e), kp h7 (fun _ e => nomatch e), h8⟩
    · obtain ⟨o, a1, a2⟩ := h2
      exact ⟨o, kp a1 (fun _ e => nomatch e), a2⟩
    · obtain ⟨o, a1, a2⟩ := h4
      exact ⟨o, kp a1 (fun _ e => nomatch e), a2⟩
  -- one more turn
  have go : (acc = [] ∨ 0 < l) → ∃ Nn : L2.St → Hp → Prop, (∀ σ' H', Nn σ' H' → ∃ m', m' < (2 * sumFrom i ps + l).toNat ∧ ∃ i l acc ts w6 w7 w8, m' = (2 * sumFrom i ps + l).toNat ∧ 0 ≤ l ∧ l ≤ most ∧ (acc = [] → i = start0 ∧ l = 0) ∧ ((acc = [] ∨ 0 < l) → ∀ r, Walks (cnt ps) (cap ks) most i l r → Walks (cnt ps) (cap ks) most start0 0 (acc ++ r)) ∧ (acc ≠ [] → l = 0 → Walks (cnt ps) (cap ks) most start0 0 acc) ∧
    SameBut s H1 H' ∧ H' s = some (.lst (ts.map V.ref)) ∧ Paired (TupS H') ts acc ∧ acc.length + m' ≤ 80 ∧ σ' = [some (.ref x), some (.int most), some (.int start0), some (.ref s), some (.int i), some (.int l), w6, w7, w8]) ∧
    t_stBody K B C { nx := Nn, rt := Q, bk := tRet (tVar 3) { nx := fun _ H' => Q .non H', rt := Q }, ct := Nn } [some (.ref x), some (.int most), some (.int start0), some (.ref s), some (.int i), some (.int l), w6, w7, w8] H2 := by
    intro pos
    have nx := sumFrom_next i ok.nd
    have b1 := sumFrom_bd (i + 1) fun p m => (ok.po p m).1
    have c := cap_ok ok.ko i
    have n := cnt_bd ok i
    have np : acc = [] → 1 ≤ cnt ps i := fun z => by rw [(first z).1]; exact c1
    have lz : acc = [] → l = 0 := fun z => (first z).2
    have l' : 0 ≤ stL most l (cap ks i) (cnt ps i) ∧ stL most l (cap ks i) (cnt ps i) ≤ most := by
      unfold stL
      omega
    have dec : (2 * sumFrom (i + 1) ps + stL most l (cap ks i) (cnt ps i)).toNat < (2 * sumFrom i ps + l).toNat := by
      have d1 : stL most l (cap ks i) (cnt ps i) ≤ l + cnt ps i := by
        unfold stL
        omega
      have d2 : cnt ps i = 0 → 0 < l → stL most l (cap ks i) (cnt ps i) < l := by
        intro z1 z2
        unfold stL
        rw [z1]
        omega
      rcases pos with e | e
      · have := np e
        have := lz e
        omega
      · by_cases z : cnt ps i = 0
        · have := d2 z e
          omega
        · omega
    refine ⟨fun σ' H' => ∃ us, SameBut s H2 H' ∧ H' s = some (.lst (us.map V.ref)) ∧ Paired (TupS H') us (acc ++ [stepAt (cnt ps) (cap ks) most i l]) ∧ ∃ w6 w7 w8, σ' = [some (.ref x), some (.int most), some (.int start0), some (.ref s), some (.int (i + 1)), some (.int (stL most l (cap ks i) (cnt ps i))), w6, w7, w8], ?_, ?_⟩
    · rintro σ' H' ⟨us, k3, L3, hus, v6, v7, v8, rfl⟩
      refine ⟨_, dec, i + 1, _, acc ++ [stepAt (cnt ps) (cap ks) most i l], us, v6, v7, v8, rfl, l'.1, l'.2, fun z => absurd z (by simp), fun more r w => ?_, fun _ z => ?_, k2.trans k3, L3, hus, ?_, rfl⟩
      · rw [List.append_assoc]
        show Walks _ _ _ _ _ (acc ++ (stepAt (cnt ps) (cap ks) most i l :: r))
        have on : stL most l (cap ks i) (cnt ps i) ≠ 0 := by
          rcases more with e | e
          · exact absurd e (by simp)
          · omega
        exact ext pos _ (.more on w)
      · exact ext pos _ (.last z)
      · rw [List.length_append]
        show acc.length + 1 + _ ≤ 80
        omega
    · exact st_body row2 ok m1 m2 l0 l1 L2' hts (by omega) fun H' us k3 L3 hus => ⟨us, k3, L3, hus, _, _, _, rfl⟩
  refine ⟨_, rfl, _, _, rfl, rfl, _, rfl, ?_⟩
  by_cases pos : 0 < l
  · rw [decide_eq_true pos]
    exact iteT (iteT (go (.inr pos)))
  · rw [decide_eq_false pos]
    refine iteF ⟨_, rfl, _, .inl ⟨_, SqL.of L2', rfl⟩, ?_⟩
    have tl := paired_len hts
    cases acc with
    | nil =>
      have e : ts = [] := List.length_eq_zero_iff.mp tl
      subst e
      exact iteT (go (.inl rfl))
    | cons a r =>
      cases ts with
      | nil => cases tl
      | cons b us => exact iteF ⟨_, rfl, over _ rfl (by simp) (by omega)⟩
end SR
set_option Elab.async false
set_option linter.all false
set_option maxRecDepth 100000
set_option maxHeartbeats 4000000
namespace SR
open PySem PySem.Spec PyProof.Rows L2
def lastIdx (acc : List Step) : Int := ((acc.getLast?).map Prod.fst).getD 0
/-- the steps over the items that are left -/
inductive Traces (cn cp : Int → Int) (most : Int) : List (Int × Int) → List Step → List Step → Prop where
  | nil {acc : List Step} : Traces cn cp most [] acc acc
  | skip {p : Int × Int} {ps : List (Int × Int)} {acc r : List Step} (h : acc ≠ []) (h2 : ¬ lastIdx acc < p.1) (t : Traces cn cp most ps acc r) : Traces cn cp most (p :: ps) acc r
  | walk {p : Int × Int} {ps : List (Int × Int)} {acc w r : List Step} (h : acc = [] ∨ lastIdx acc < p.1) (hw : Walks cn cp most p.1 0 w) (t : Traces cn cp most ps (acc ++ w) r) : Traces cn cp most (p :: ps) acc r
def spTrace (K : PySem.W.Frag) (C B : Addr) : Sp := fun vs H Q E => ∃ x v t ps ks, vs = [.ref x, v] ∧ AnyT K H v t ∧ RowAt K C H x ps ks ∧ RowOk ps ks ∧ (btw 1 99 v = false → E (.ref B) none H) ∧
  ∀ most, v = .int most → 1 ≤ most → most ≤ 99 → ∀ s H' st, H s = none → Same H H' → StepsAt H' s st → Traces (cnt ps) (cap ks) most ps [] st → st.length ≤ 3200 → Q (.ref s) H'
def t_trBody (K : PySem.W.Frag) (c_Row : Addr) : TS := (tIfS (tOr (tNot ((fun σ H Q => tVar 2 σ H fun x H1 => ∃ k, TruV K x H1 k ∧ Q k H1))) (tTest (tOp qLt (tOp (rIxT K) (tOp (rIxL K) (tVar 2) (tUn (rU fun i => .int (-i)) (tC (.int 1)))) (tC (.int 0))) (tVar 3))))
  (tDrop (tBM K "list" rExtend (tVar 2) (tCons (tCall (spStepsFrom K c_Row) [] E0 (tCons (tVar 0) (tCons (tVar 1) (tCons (tVar 3) (tNil))))) (tNil))))
  (tNext))
def t_trace (K : PySem.W.Frag) (c_BadCapacity : Addr) (c_Row : Addr) (E : XK) : TS := tSeq (tIfS (tNot (tB (tCall (spCapacity K) [] E0 (tCons (tVar 1) (tNil)))))
  (tOut (.ref c_BadCapacity) E)
  (tNext))
  (tSeq (tAsg (tLst (tNil)) (gName 2))
  (tSeq (tFor (iTup K (tProp c_Row (spContents K c_Row) [] E0 (tVar 0))) (gTup K 2 (gCons (gName 3) (gCons (gName 4) (gNil)))) (t_trBody K c_Row))
  (tRet (tVar 2))))
/-- what a list of the steps' own leaves of a row -/
theorem RowAt.but {K : PySem.W.Frag} {C : Addr} {H H' : Hp} {x s : Addr} {ps ks : List (Int × Int)} {xs : List V} (row : RowAt K C H x ps ks) (hs : H s = some (.lst xs)) (k : SameBut s H H') : RowAt K C H' x ps ks := by
  obtain ⟨dx, c, k0, d, e, ps0, ks0, h1, ⟨t1, h2, h3⟩, ⟨t2, h4, h5⟩, h6, h7, h8⟩ := row
  have kp : ∀ {b : Addr} {o : HO}, H b = some o → (∀ xs, o ≠ .lst xs) → H' b = some o := fun {b o} hb no => k b o (fun e => by rw [e, hs] at hb; exact no _ (Option.some.inj hb).symm) hb
  refine ⟨dx, c, k0, d, e, ps0, ks0, kp h1 (fun _ e => nomatch e), ⟨t1, ?_, paired_imp (fun _ p z => kp (o := .tup [.int p.1, .int p.2]) z (fun _ e => nomatch e)) h3⟩, ⟨t2, ?_, paired_imp (fun _ p z => kp (o := .tup [.int p.1, .int p.2]) z (fun _ e => nomatch e)) h5⟩, kp h6 (fun _ e => nomatch e), kp h7 (fun _ e => nomatch e), h8⟩
  · obtain ⟨o, a1, a2⟩ := h2
    exact ⟨o, kp a1 (fun _ e => nomatch e), a2⟩
  · obtain ⟨o, a1, a2⟩ := h4
    exact ⟨o, kp a1 (fun _ e => nomatch e), a2⟩
theorem at_last {xs : List V} {v : V} (h : xs.getLast? = some v) : atI xs (-1) = some v := by
  have ne : xs ≠ [] := fun z => by rw [z] at h; cases h
  have l1 : 0 < xs.length := List.length_pos_iff.mpr ne
  rw [List.getLast?_eq_getElem?] at h
  unfold atI ixN
  rw [if_neg (by decide), if_pos (by omega), show (-1 + (xs.length : Int)).toNat = xs.length - 1 by omega]
  exact h
theorem walks_ne {cn cp : Int → Int} {most i l : Int} {w : List Step} (h : Walks cn cp most i l w) : w ≠ [] := by
  cases h <;> simp
theorem paired_append {α β : Type} {F : α → β → Prop} : ∀ {xs xs' : List α} {ys ys' : List β}, Paired F xs ys → Paired F xs' ys' → Paired F (xs ++ xs') (ys ++ ys')
  | _, _, _, _, .nil, h => h
  | _, _, _, _, .cons a t, h => .cons a (paired_append t h)
theorem paired_last {α β : Type} {F : α → β → Prop} : ∀ {xs : List α} {ys : List β}, Paired F xs ys → ys ≠ [] → ∃ x y, xs.getLast? = some x ∧ ys.getLast? = some y ∧ F x y
  | _, _, .nil, h => absurd rfl h
  | [x], [y], .cons a .nil, _ => ⟨x, y, rfl, rfl, a⟩
  | x :: x2 :: xs, y :: y2 :: ys, .cons a (.cons b t), _ => by
    obtain ⟨u, v, h1, h2, h3⟩ := paired_last (.cons b t) (by simp)
    exact ⟨u, v, by rw [List.getLast?_cons_cons]; exact h1, by rw [List.getLast?_cons_cons]; exact h2, h3⟩
theorem tr_body {K : PySem.W.Frag} {C : Addr} {H : Hp} {x s : Addr} {most : Int} {p : Int × Int} {ps ks : List (Int × Int)} {ts : List Addr} {acc : List Step} {w4 : Option V} {N N2 N3 : L2.St → Hp → Prop} {R : VK} (row : RowAt K C H x ps ks) (ok : RowOk ps ks) (m1 : 1 ≤ most) (m2 : most ≤ 99) (hp : p ∈ ps)
    (hs : H s = some (.lst (ts.map V.ref))) (hts : Paired (TupS H) ts acc) (short : acc.length ≤ 3200)
    (hN : ∀ H' us acc', SameBut s H H' → H' s = some (.lst (us.map V.ref)) → Paired (TupS H') us acc' → acc'.length ≤ acc.length + 80 → (∀ qs r, Traces (cnt ps) (cap ks) most qs acc' r → Traces (cnt ps) (cap ks) most (p :: qs) acc r) → N [some (.ref x), some (.int most), some (.ref s), some (.int p.1), w4] H') :
    t_trBody K C { nx := N, rt := R, bk := N2, ct := N3 } [some (.ref x), some (.int most), some (.ref s), some (.int p.1), w4] H := by
  have c1 : 1 ≤ cnt ps p.1 := by
    unfold cnt
    rw [(lookup_some (n := p.2) ok.nd).mpr hp]
    exact (ok.po p hp).1
  have go : (acc = [] ∨ lastIdx acc < p.1) → tDrop (tBM K "list" rExtend (tVar 2) (tCons (tCall (spStepsFrom K C) [] E0 (tCons (tVar 0) (tCons (tVar 1) (tCons (tVar 3) (tNil))))) (tNil))) { nx := N, rt := R, bk := N2, ct := N3 } [some (.ref x), some (.int most), some (.ref s), some (.int p.1), w4] H := by
    intro on
    refine ⟨_, rfl, .inl ⟨rfl, _, SqL.of hs⟩, _, rfl, _, rfl, _, rfl, x, most, p.1, ps, ks, rfl, row, ok, m1, m2, c1, fun s2 H2 w hs2 k2 st2 wk len => ?_⟩
    obtain ⟨vs, L2', hvs⟩ := st2
    have L1 := k2 _ _ hs
    have tl := paired_len hts
    have vl := paired_len hvs
    refine ⟨s, s2, _, _, rfl, rfl, L1, L2', ?_, ?_⟩
    · rw [List.length_map, List.length_map, tl, vl]
      exact Nat.le_trans (by omega : acc.length + w.length ≤ 3280) (by decide)
    have keep : ∀ {b : Addr} {st : Step}, TupS H2 b st → TupS (upd H2 s (.lst (ts.map V.ref ++ vs.map V.ref))) b st := fun {b st} z => (upd_ne (ne_of z L1 (by intro e; cases e))).trans z
    refine hN _ (ts ++ vs) (acc ++ w) (fun b o ne h => (upd_ne ne).trans (k2 _ _ h)) ?_ (paired_append (paired_imp (fun _ _ z => keep (k2 _ _ z)) hts) (paired_imp (fun _ _ z => keep z) hvs)) ?_ fun qs r t => .walk on wk t
    · rw [upd_same, List.map_append]
    · rw [List.length_append]
      omega
  have tl := paired_len hts
  refine ⟨_, rfl, _, .inl ⟨_, SqL.of hs, rfl⟩, ?_⟩
  cases hacc : acc with
  | nil =>
    rw [hacc] at tl
    have e : ts = [] := List.length_eq_zero_iff.mp tl
    rw [e]
    exact iteT (iteT (go (.inl hacc)))
  | cons a r =>
    have ne : acc ≠ [] := by rw [hacc]; simp
    obtain ⟨t, st, g1, g2, g3⟩ := paired_last hts ne
    have tne : ts ≠ [] := fun z => by rw [z] at g1; cases g1
    have li : lastIdx acc = st.1 := by unfold lastIdx; rw [g2]; rfl
    have emp : (ts.map V.ref).isEmpty = false := by
      cases ts with
      | nil => exact absurd rfl tne
      | cons _ _ => rfl
    rw [emp]
    have at1 : atI (ts.map V.ref) (-1) = some (.ref t) := at_last (by rw [List.getLast?_map, g1]; rfl)
    refine iteF ⟨_, rfl, 1, rfl, s, _, -1, _, rfl, rfl, SqL.of hs, at1, t, _, 0, _, rfl, rfl, SqT.of g3, rfl, _, rfl, _, _, rfl, rfl, _, rfl, ?_⟩
    by_cases lt : lastIdx acc < p.1
    · rw [li] at lt
      rw [decide_eq_true lt]
      exact iteT (go (.inr (by rw [li]; exact lt)))
    · rw [li] at lt
      rw [decide_eq_false lt]
      refine iteF (hN H ts acc (fun _ _ _ h => h) hs hts (by omega) fun qs r2 tt => .skip ne (by rw [li]; exact lt) tt)
theorem pure_trace {K : PySem.W.Frag} {C B : Addr} (vs : List V) (H : Hp) (Q : VK) (E : XK) (h : spTrace K C B vs H Q E) :
    t_trace K B C E { nx := fun _ H' => Q .non H', rt := Q } (start ["row", "capacity", "steps", "start", "_"] vs) H := by
  obtain ⟨x, v, t, ps, ks, rfl, hv, row, ok, bad, q⟩ := h
  refine ⟨_, rfl, v, t, rfl, hv, _, rfl, ?_⟩
  cases e : btw 1 99 v with
  | false => exact iteT (bad e)
  | true =>
  obtain ⟨most, rfl, m1, m2⟩ := btw_iff.mp e
  refine iteF ⟨sz (Nat.zero_le _), fun s hs => ?_⟩
  have s1 := same_new (o := .lst []) hs
  have L1 : upd H s (.lst []) s = some (.lst []) := upd_same
  generalize upd H s (.lst []) = H1 at s1 L1 ⊢
  have row1 := row.same s1
  obtain ⟨dx, fs, hx, no1, no2⟩ := row1.ins
  refine ⟨_, rfl, x, dx, fs, rfl, hx, x, ps, ks, rfl, row1, fun c hc => ⟨c, rfl, ?_⟩⟩
  obtain ⟨ts0, bc, pc⟩ := hc
  refine ⟨⟨_, bc.sq⟩, ?_⟩
  refine for_it (walk_tup (K := K) (a := c) (xs := ts0.map V.ref)) (fun i σ H2 => SameBut s H1 H2 ∧ ∃ us acc w3 w4, H2 s = some (.lst (us.map V.ref)) ∧ Paired (TupS H2) us acc ∧ acc.length ≤ 80 * i ∧ (∀ r, Traces (cnt ps) (cap ks) most (ps.drop i) acc r → Traces (cnt ps) (cap ks) most ps [] r) ∧ σ = [some (.ref x), some (.int most), some (.ref s), w3, w4])
    ⟨fun b o _ h => h, [], [], none, none, L1, .nil, Nat.zero_le _, fun r z => z, rfl⟩ ?_ ?_ ?_
  · rintro i σ H2 _ ⟨k2, _⟩
    refine Bare.sq ?_
    obtain ⟨o, a1, a2⟩ := bc
    exact ⟨o, k2 _ _ (fun z => by rw [z, L1] at a1; cases a1) a1, a2⟩
  · rintro i v2 σ H2 H3 hi ⟨k2, us, acc, w3, w4, L2', hus, len, tr, rfl⟩ ⟨rfl, hv2⟩
    rw [List.getElem?_map] at hv2
    obtain ⟨u, hu, rfl⟩ := Option.map_eq_some_iff.mp hv2
    obtain ⟨p, hp, hat⟩ := paired_at pc hu
    have at2 : TupAt H3 u p := k2 _ _ (fun z => by
      unfold TupAt at hat
      rw [z, L1] at hat
      cases hat) hat
    have pl : ps.length ≤ 40 := ok.len
    have ip : i < ps.length := (List.getElem?_eq_some_iff.mp hp).1
    refine ⟨u, _, rfl, SqT.of at2, rfl, _, _, rfl, _, _, rfl, rfl, ?_⟩
    show t_trBody K C _ [some (.ref x), some (.int most), some (.ref s), some (.int p.1), some (.int p.2)] H3
    refine tr_body (row1.but L1 k2) ok m1 m2 (List.mem_of_getElem? hp) L2' hus (by omega) fun H4 us4 acc4 k4 L4 hus4 len4 tr4 => ⟨k2.trans k4, us4, acc4, _, _, L4, hus4, by omega, fun r z => tr r ?_, rfl⟩
    have dr : ps.drop i = p :: ps.drop (i + 1) := by
      rw [List.drop_eq_getElem_cons ip]
      congr 1
      exact (List.getElem?_eq_some_iff.mp hp).2
    rw [dr]
    exact tr4 _ r z
  · rintro σ H2 ⟨k2, us, acc, w3, w4, L2', hus, len, tr, rfl⟩
    have pl : ps.length ≤ 40 := ok.len
    have tl : (ts0.map V.ref).length = ps.length := by rw [List.length_map, paired_len pc]
    rw [tl] at len tr
    rw [List.drop_length] at tr
    exact ⟨_, rfl, q most rfl m1 m2 s H2 acc hs (fun b o hb => k2 b o (ne_of_none hb hs) (s1 b o hb)) ⟨us, L2', hus⟩ (tr _ .nil) (by omega)⟩
end SR
set_option Elab.async false
set_option linter.all false
set_option maxRecDepth 100000
set_option maxHeartbeats 4000000
namespace SR
open PySem PySem.Spec PyProof.Rows L2
/-- indexes ascend -/
def AscS (st : List Step) : Prop := st.Pairwise fun a b => a.1 < b.1
/-- what every step is -/
def StepOk (ps ks : List (Int × Int)) (s : Step) : Prop := s.2.2.1 = cnt ps s.1 ∧ 0 ≤ s.2.2.2.2 ∧ s.2.2.2.2 ≤ cap ks s.1
def sumIn (st : List Step) : Int := (st.map fun s => s.2.2.1).sum
def sumOut (st : List Step) : Int := (st.map fun s => s.2.2.2.2).sum
theorem step_ok {ps ks : List (Int × Int)} (ok : RowOk ps ks) {most i l : Int} (m1 : 1 ≤ most) (l0 : 0 ≤ l) (l1 : l ≤ most) :
    StepOk ps ks (stepAt (cnt ps) (cap ks) most i l) ∧ (0 ≤ stL most l (cap ks i) (cnt ps i) ∧ stL most l (cap ks i) (cnt ps i) ≤ most) ∧ stC most l (cap ks i) (cnt ps i) + stL most l (cap ks i) (cnt ps i) = cnt ps i + l := by
  have c := cap_ok ok.ko i
  have n := cnt_bd ok i
  refine ⟨⟨rfl, ?_, ?_⟩, ?_, ?_⟩
  · show 0 ≤ stC most l (cap ks i) (cnt ps i)
    unfold stC
    omega
  · show stC most l (cap ks i) (cnt ps i) ≤ cap ks i
    unfold stC
    omega
  · unfold stL
    omega
  · unfold stC stL
    omega
theorem walks_all {ps ks : List (Int × Int)} (ok : RowOk ps ks) {most : Int} (m1 : 1 ≤ most) {i l : Int} {w : List Step} (h : Walks (cnt ps) (cap ks) most i l w) : 0 ≤ l → l ≤ most → AscS w ∧ (∀ s ∈ w, i ≤ s.1 ∧ StepOk ps ks s) ∧ sumOut w = sumIn w + l := by
  induction h with
  | @last i l h =>
    intro l0 l1
    obtain ⟨a, b, c⟩ := step_ok (i := i) ok m1 l0 l1
    refine ⟨List.pairwise_singleton _ _, fun s m => ?_, ?_⟩
    · rw [List.mem_singleton.mp m]
      exact ⟨Int.le_refl _, a⟩
    · show stC most l (cap ks i) (cnt ps i) + 0 = cnt ps i + 0 + l
      omega
  | @more i l r h t ih =>
    intro l0 l1
    obtain ⟨a, b, c⟩ := step_ok (i := i) ok m1 l0 l1
    obtain ⟨d, e, f⟩ := ih b.1 b.2
    refine ⟨List.pairwise_cons.mpr ⟨fun s m => ?_, d⟩, fun s m => ?_, ?_⟩
    · have := (e s m).1
      show i < s.1
      omega
    · rcases List.mem_cons.mp m with rfl | m
      · exact ⟨Int.le_refl _, a⟩
      · have := e s m
        exact ⟨by omega, this.2⟩
    · show stC most l (cap ks i) (cnt ps i) + sumOut r = cnt ps i + sumIn r + l
      omega
theorem sum_app (a b : List Step) : sumIn (a ++ b) = sumIn a + sumIn b ∧ sumOut (a ++ b) = sumOut a + sumOut b := by
  unfold sumIn sumOut
  rw [List.map_append, List.map_append, List.sum_append, List.sum_append]
  exact ⟨rfl, rfl⟩
theorem last_most {acc : List Step} (h : AscS acc) : ∀ s ∈ acc, s.1 ≤ lastIdx acc := by
  intro s m
  unfold lastIdx
  cases e : acc.getLast? with
  | none =>
    rw [List.getLast?_eq_none_iff.mp e] at m
    cases m
  | some z =>
    show s.1 ≤ z.1
    obtain ⟨ys, rfl⟩ := List.getLast?_eq_some_iff.mp e
    rcases List.mem_append.mp m with m | m
    · have := (List.pairwise_append.mp h).2.2 s m z (List.mem_singleton.mpr rfl)
      omega
    · rw [List.mem_singleton.mp m]
      exact Int.le_refl _
theorem traces_all {ps ks : List (Int × Int)} (ok : RowOk ps ks) {most : Int} (m1 : 1 ≤ most) {qs : List (Int × Int)} {acc st : List Step} (h : Traces (cnt ps) (cap ks) most qs acc st) : AscS acc → (∀ s ∈ acc, StepOk ps ks s) → sumOut acc = sumIn acc → AscS st ∧ (∀ s ∈ st, StepOk ps ks s) ∧ sumOut st = sumIn st := by
  induction h with
  | nil => exact fun a b c => ⟨a, b, c⟩
  | skip _ _ _ ih => exact ih
  | @walk p qs acc w r on hw t ih =>
    intro a b c
    obtain ⟨d, e, f⟩ := walks_all ok m1 hw (Int.le_refl 0) (by omega)
    obtain ⟨s1, s2⟩ := sum_app acc w
    refine ih (List.pairwise_append.mpr ⟨a, d, fun x hx y hy => ?_⟩) (fun s m => ?_) (by omega)
    · rcases on with on | on
      · rw [on] at hx
        cases hx
      · have z1 := last_most a x hx
        have z2 := (e y hy).1
        omega
    · rcases List.mem_append.mp m with m | m
      · exact b s m
      · exact (e s m).2
theorem sumFrom_mono {ps : List (Int × Int)} (h : ∀ p ∈ ps, 1 ≤ p.2) {i j : Int} (ij : i ≤ j) : sumFrom j ps ≤ sumFrom i ps := by
  induction ps with
  | nil => exact Int.le_refl _
  | cons p ps ih =>
    have a := ih fun q m => h q (List.mem_cons_of_mem _ m)
    have b := h p List.mem_cons_self
    rw [sumFrom_cons, sumFrom_cons]
    split <;> split <;> omega
theorem sumIn_le {ps ks : List (Int × Int)} (ok : RowOk ps ks) : ∀ {st : List Step} (i : Int), AscS st → (∀ s ∈ st, i ≤ s.1 ∧ StepOk ps ks s) → sumIn st ≤ sumFrom i ps
  | [], i, _, _ => (sumFrom_bd i fun p m => (ok.po p m).1).1
  | s :: st, i, a, b => by
    have a' := List.pairwise_cons.mp a
    have hs := b s List.mem_cons_self
    have ih := sumIn_le ok (s.1 + 1) a'.2 fun t m => ⟨by have := a'.1 t m; omega, (b t (List.mem_cons_of_mem _ m)).2⟩
    have nx := sumFrom_next s.1 ok.nd
    have mo := sumFrom_mono (fun p m => (ok.po p m).1) hs.1
    have e := hs.2.1
    show s.2.2.1 + sumIn st ≤ _
    omega
/-- the items that steps leave -/
def left (st : List Step) : List (Int × Int) := (st.filter fun s => decide (0 < s.2.2.2.2)).map fun s => (s.1, s.2.2.2.2)
theorem left_sum : ∀ {st : List Step}, (∀ s ∈ st, 0 ≤ s.2.2.2.2) → ((left st).map Prod.snd).sum = sumOut st
  | [], _ => rfl
  | s :: st, h => by
    have ih := left_sum (st := st) fun t m => h t (List.mem_cons_of_mem _ m)
    have z := h s List.mem_cons_self
    show _ = s.2.2.2.2 + sumOut st
    unfold left at ih ⊢
    by_cases e : 0 < s.2.2.2.2
    · rw [List.filter_cons_of_pos (p := fun s : Step => decide (0 < s.2.2.2.2)) (decide_eq_true e), List.map_cons, List.map_cons, List.sum_cons, ih]
    · rw [List.filter_cons_of_neg (p := fun s : Step => decide (0 < s.2.2.2.2)) (by rw [decide_eq_false e]; exact Bool.false_ne_true), ih]
      omega
theorem left_ok {ps ks : List (Int × Int)} (ok : RowOk ps ks) {most : Int} (m1 : 1 ≤ most) {st : List Step} (h : Traces (cnt ps) (cap ks) most ps [] st) : RowOk (left st) ks ∧ Asc (left st) ∧ ((left st).map Prod.snd).sum = sumIn st := by
  obtain ⟨a, b, c⟩ := traces_all ok m1 h List.Pairwise.nil (fun s m => nomatch m) rfl
  have asc : Asc (left st) := by
    unfold Asc left
    rw [List.pairwise_map]
    exact List.Pairwise.filter _ a
  have sm := left_sum fun s m => (b s m).2.1
  have low : ∃ i : Int, ∀ s ∈ st, i ≤ s.1 := by
    cases st with
    | nil => exact ⟨0, fun s m => nomatch m⟩
    | cons s st =>
      refine ⟨s.1, fun t m => ?_⟩
      rcases List.mem_cons.mp m with rfl | m
      · exact Int.le_refl _
      · have := (List.pairwise_cons.mp a).1 t m
        omega
  obtain ⟨i, low⟩ := low
  have le := sumIn_le ok i a fun s m => ⟨low s m, b s m⟩
  have top := (sumFrom_bd i fun p m => (ok.po p m).1).2
  have s40 := ok.sm
  refine ⟨⟨asc_nd asc, ok.kd, ok.kl, ok.ko, fun p m => ?_, by omega⟩, asc, by omega⟩
  obtain ⟨s, hs, rfl⟩ := List.mem_map.mp m
  obtain ⟨hs1, hs2⟩ := List.mem_filter.mp hs
  have := of_decide_eq_true hs2
  exact ⟨by show 1 ≤ s.2.2.2.2; omega, (b s hs1).2.2⟩
end SR
set_option Elab.async false
set_option linter.all false
set_option maxRecDepth 100000
set_option maxHeartbeats 4000000
namespace SR
open PySem PySem.Spec PyProof.Rows L2
def spLeftBy (K : PySem.W.Frag) : Sp := fun vs H Q _ => ∃ a st, vs = [.ref a] ∧ StepsAt H a st ∧ st.length ≤ 3200 ∧ ∀ r H' us, H r = none → Same H H' → H' r = some (.lst (us.map V.ref)) → Paired (TupAt H') us (left st) → Q (.ref r) H'
def t_left_by (K : PySem.W.Frag) : TS := tRet (tLc (iList K (tVar 0)) (gTup K 5 (gCons (gName 1) (gCons (gName 2) (gCons (gName 2) (gCons (gName 2) (gCons (gName 3) (gNil))))))) (tTest (tOp qGt (tVar 3) (tC (.int 0)))) (tTup (tCons (tVar 1) (tCons (tVar 3) (tNil)))) [1, 2, 3])
theorem left_snoc (st : List Step) (s : Step) : left (st ++ [s]) = left st ++ (if 0 < s.2.2.2.2 then [(s.1, s.2.2.2.2)] else []) := by
  unfold left
  rw [List.filter_append, List.map_append]
  by_cases e : 0 < s.2.2.2.2
  · rw [if_pos e, List.filter_cons_of_pos (p := fun s : Step => decide (0 < s.2.2.2.2)) (decide_eq_true e)]
    rfl
  · rw [if_neg e, List.filter_cons_of_neg (p := fun s : Step => decide (0 < s.2.2.2.2)) (by rw [decide_eq_false e]; exact Bool.false_ne_true)]
    rfl
theorem left_len (st : List Step) : (left st).length ≤ st.length := by
  unfold left
  rw [List.length_map]
  exact List.length_filter_le _ _
theorem pure_left_by {K : PySem.W.Frag} (vs : List V) (H : Hp) (Q : VK) (E : XK) (h : spLeftBy K vs H Q E) : t_left_by K { nx := fun _ H' => Q .non H', rt := Q } (start ["steps", "index", "_", "new_count"] vs) H := by
  obtain ⟨a, st, rfl, ⟨ts, hA, hts⟩, len, q⟩ := h
  refine ⟨_, rfl, a, rfl, ⟨_, SqL.of hA⟩, fun D hD => ?_⟩
  refine lc_it (walk_list (K := K) (a := a) (xs := ts.map V.ref)) (fun i H1 => Same H H1 ∧ ∃ us, H1 D = some (.lst (us.map V.ref)) ∧ Paired (TupAt H1) us (left (st.take i))) ⟨same_new hD, [], upd_same, .nil⟩ ?_ ?_ ?_
  · rintro i H1 _ ⟨s1, _⟩
    exact SqL.of (s1 _ _ hA)
  · rintro i v H1 H2 hi ⟨s1, us, d1, hus⟩ ⟨rfl, hv⟩
    rw [List.getElem?_map] at hv
    obtain ⟨t, ht, rfl⟩ := Option.map_eq_some_iff.mp hv
    obtain ⟨s, hs, hat⟩ := paired_at hts ht
    have T1 : TupS H2 t s := s1 _ _ hat
    have tk : st.take (i + 1) = st.take i ++ [s] := by
      rw [List.take_succ, hs]
      rfl
    have ul : us.length ≤ 3200 := by
      have a1 := paired_len hus
      have a2 := left_len (st.take i)
      rw [List.length_take] at a2
      have a3 := Nat.min_le_right i st.length
      omega
    refine ⟨t, _, rfl, SqT.of T1, rfl, _, _, rfl, _, _, rfl, _, _, rfl, _, _, rfl, _, _, rfl, rfl, rfl, _, rfl, _, _, rfl, rfl, _, rfl, ?_⟩
    by_cases e : 0 < s.2.2.2.2
    · rw [decide_eq_true e]
      refine iteT ⟨_, rfl, _, rfl, sz (by show 2 ≤ 1000; decide), fun n hn => ?_⟩
      have s3 := same_new (o := .tup [.int s.1, .int s.2.2.2.2]) hn
      have T3 : TupAt (upd H2 n (.tup [.int s.1, .int s.2.2.2.2])) n (s.1, s.2.2.2.2) := upd_same
      generalize upd H2 n (.tup [.int s.1, .int s.2.2.2.2]) = H3 at s3 T3 ⊢
      have d3 := s3 _ _ d1
      have keep : ∀ {b : Addr} {p : Int × Int}, TupAt H3 b p → TupAt (upd H3 D (.lst (us.map V.ref ++ [.ref n]))) b p := fun {b p} z => (upd_ne (ne_of z d3 (by intro e; cases e))).trans z
      refine ⟨_, d3, ?_, same_upd (s1.trans s3) hD, us ++ [n], ?_, ?_⟩
      · rw [List.length_map]
        exact Nat.lt_of_le_of_lt ul (by decide)
      · rw [upd_same, List.map_append]
        rfl
      · rw [tk, left_snoc, if_pos e]
        exact paired_snoc (keep T3) (paired_imp (fun _ _ z => keep (s3 _ _ z)) hus)
    · rw [decide_eq_false e]
      refine iteF ⟨s1, us, d1, ?_⟩
      rw [tk, left_snoc, if_neg e, List.append_nil]
      exact hus
  · rintro H1 ⟨s1, us, d1, hus⟩
    have tl : (ts.map V.ref).length = st.length := by rw [List.length_map, paired_len hts]
    rw [tl, List.take_length] at hus
    exact q D H1 us hD s1 d1 hus
def spSweep (K : PySem.W.Frag) (C B : Addr) : Sp := fun vs H Q E => ∃ x v t ps ks, vs = [.ref x, v] ∧ AnyT K H v t ∧ RowAt K C H x ps ks ∧ RowOk ps ks ∧ Asc ks ∧ (btw 1 99 v = false → E (.ref B) none H) ∧
  ∀ most, v = .int most → 1 ≤ most → most ≤ 99 → ∀ y H' st, H y = none → Same H H' → Traces (cnt ps) (cap ks) most ps [] st → RowAt K C H' y (left st) ks → Q (.ref y) H'
def t_sweep (K : PySem.W.Frag) (c_BadCapacity c_Row : Addr) (E : XK) : TS := tRet (tMake c_Row (spRowInit K c_Row) [] E0 (tCons (tCall (spLeftBy K) [] E0 (tCons (tCall (spTrace K c_Row c_BadCapacity) [] E (tCons (tVar 0) (tCons (tVar 1) (tNil)))) (tNil))) (tCons (tProp c_Row (spCapacities K c_Row) [] E0 (tVar 0)) (tNil))))
theorem pure_sweep {K : PySem.W.Frag} {C B : Addr} (vs : List V) (H : Hp) (Q : VK) (E : XK) (h : spSweep K C B vs H Q E) : t_sweep K B C E { nx := fun _ H' => Q .non H', rt := Q } (start ["row", "capacity"] vs) H := by
  obtain ⟨x, v, t, ps, ks, rfl, hv, row, ok, ak, bad, q⟩ := h
  refine ⟨_, rfl, _, rfl, x, v, t, ps, ks, rfl, hv, row, ok, bad, fun most e m1 m2 s H1 st hs s1 hst tr len => ?_⟩
  subst e
  refine ⟨s, st, rfl, hst, len, fun r H2 us hr s2 rd rp => ?_⟩
  have pr : PairsAt K H2 r (left st) := ⟨us, .inl (SqL.of rd), rp⟩
  have row2 := (row.same s1).same s2
  obtain ⟨dx, fs, hx, _, _⟩ := row2.ins
  refine ⟨_, rfl, x, dx, fs, rfl, hx, x, ps, ks, rfl, row2, fun c hc => ?_⟩
  obtain ⟨lo, la, _⟩ := left_ok ok m1 tr
  refine make_row pr hc.at lo fun y H3 qs ls hy s3 ry p1 p2 a1 a2 => ?_
  have z1 := asc_eq a1 la p1
  have z2 := asc_eq a2 ak p2
  subst z1 z2
  exact q most rfl m1 m2 y H3 st (Same.free s1 (Same.free s2 hy)) (s1.trans (s2.trans s3)) tr ry
end SR
set_option Elab.async false
set_option linter.all false
set_option maxRecDepth 100000
set_option maxHeartbeats 4000000
namespace SR
open PySem PySem.Spec PyProof.Rows L2
/-- a list of new pairs over a tuple of pairs -/
theorem lc_tups {K : PySem.W.Frag} {te : TE} {g : TG} {telt : TE} {vs : List Nat} {σ : L2.St} {H : Hp} {ps : List (Int × Int)} {Q : VK} (f : Int × Int → Int × Int) (hte : ∀ R : VK, (∀ c, PairsT H c ps → R (.ref c) H) → te σ H R) (hl : ps.length ≤ 1000)
    (hs : ∀ t p H' (R : VK), Same H H' → TupAt H' t p → (∀ n, H' n = none → R (.ref n) (upd H' n (.tup [.int (f p).1, .int (f p).2]))) → g (.ref t) (wipe σ vs) H' fun σ2 H2 => wipe σ2 vs = wipe σ vs ∧ telt σ2 H2 R)
    (hQ : ∀ D H', H D = none → Same H H' → PairsAt K H' D (ps.map f) → Q (.ref D) H') : tLc (iTup K te) g tYes telt vs σ H Q := by
  refine hte _ fun c hp => ?_
  obtain ⟨ts, bc, hts⟩ := hp
  have hlen : (ts.map V.ref).length = ps.length := by rw [List.length_map, paired_len hts]
  refine ⟨c, rfl, ⟨_, bc.sq⟩, fun D hD => ?_⟩
  refine lc_it (walk_tup (K := K) (a := c) (xs := ts.map V.ref)) (fun i H1 => Same H H1 ∧ ∃ us, H1 D = some (.lst (us.map V.ref)) ∧ Paired (TupAt H1) us ((ps.take i).map f)) ⟨same_new hD, [], upd_same, .nil⟩ (fun i H1 _ h => (bc.same h.1).sq) ?_ ?_
  · rintro i v H1 H2 hi ⟨s1, us, d1, hus⟩ ⟨rfl, hv⟩
    rw [List.getElem?_map] at hv
    obtain ⟨t, ht, rfl⟩ := Option.map_eq_some_iff.mp hv
    obtain ⟨p, hpi, hat⟩ := paired_at hts ht
    have ul : us.length ≤ 1000 := by
      rw [paired_len hus, List.length_map, List.length_take]
      exact Nat.le_trans (Nat.min_le_right _ _) hl
    refine hs t p H2 _ s1 (s1 _ _ hat) fun n hn => ?_
    have s3 := same_new (o := .tup [.int (f p).1, .int (f p).2]) hn
    have T3 : TupAt (upd H2 n (.tup [.int (f p).1, .int (f p).2])) n (f p) := upd_same
    generalize upd H2 n (.tup [.int (f p).1, .int (f p).2]) = H3 at s3 T3 ⊢
    have d3 := s3 _ _ d1
    have keep : ∀ {b : Addr} {p : Int × Int}, TupAt H3 b p → TupAt (upd H3 D (.lst (us.map V.ref ++ [.ref n]))) b p := fun {b p} z => (upd_ne (ne_of z d3 (by intro e; cases e))).trans z
    refine ⟨_, d3, ?_, same_upd (s1.trans s3) hD, us ++ [n], ?_, ?_⟩
    · rw [List.length_map]
      exact Nat.lt_of_le_of_lt ul (by decide)
    · rw [upd_same, List.map_append]
      rfl
    · rw [List.take_succ, hpi, List.map_append]
      exact paired_snoc (keep T3) (paired_imp (fun _ _ z => keep (s3 _ _ z)) hus)
  · rintro H1 ⟨s1, us, d1, hus⟩
    rw [hlen, List.take_length] at hus
    exact hQ D H1 hD s1 ⟨us, .inl (SqL.of d1), hus⟩
def neg1 (p : Int × Int) : Int × Int := (-p.1, p.2)
/-- the row seen from the other side -/
def mirror (ps : List (Int × Int)) : List (Int × Int) := (ps.map neg1).reverse
theorem mirror_perm (ps : List (Int × Int)) : (mirror ps).Perm (ps.map neg1) := List.reverse_perm _
theorem mirror_asc {ps : List (Int × Int)} (h : Asc ps) : Asc (mirror ps) := by
  unfold Asc mirror
  rw [List.pairwise_reverse, List.pairwise_map]
  refine h.imp fun {a b} z => ?_
  show -b.1 < -a.1
  omega
theorem lookup_neg (i : Int) : ∀ ps : List (Int × Int), (ps.map neg1).lookup (-i) = ps.lookup i
  | [] => rfl
  | p :: ps => by
    obtain ⟨j, n⟩ := p
    show List.lookup (-i) ((-j, n) :: ps.map neg1) = _
    rw [List.lookup_cons, List.lookup_cons, lookup_neg i ps]
    by_cases e : i = j
    · subst e
      rw [beq_self_eq_true, beq_self_eq_true]
    · rw [beq_eq_false_iff_ne.mpr e, beq_eq_false_iff_ne.mpr (fun z => e (by omega))]
theorem neg_nd {ps : List (Int × Int)} (h : (ps.map Prod.fst).Nodup) : ((ps.map neg1).map Prod.fst).Nodup := by
  unfold List.Nodup at *
  rw [List.pairwise_map, List.pairwise_map] at *
  refine h.imp fun {a b} z e => z ?_
  have : -a.1 = -b.1 := e
  omega
theorem neg_ok {ps ks : List (Int × Int)} (h : RowOk ps ks) : RowOk (ps.map neg1) (ks.map neg1) := by
  have ce : ∀ i, cap (ks.map neg1) (-i) = cap ks i := fun i => by
    unfold cap
    rw [lookup_neg]
  refine ⟨neg_nd h.nd, neg_nd h.kd, by rw [List.length_map]; exact h.kl, fun p m => ?_, fun p m => ?_, ?_⟩
  · obtain ⟨q, hq, rfl⟩ := List.mem_map.mp m
    have := h.ko q hq
    unfold sizeOk neg1 at *
    exact ⟨⟨by show -60 ≤ -q.1; omega, by show -q.1 ≤ 60; omega⟩, this.2⟩
  · obtain ⟨q, hq, rfl⟩ := List.mem_map.mp m
    have := h.po q hq
    show 1 ≤ q.2 ∧ q.2 ≤ cap (ks.map neg1) (-q.1)
    rw [ce]
    exact this
  · rw [List.map_map]
    exact h.sm
def spMirrored (K : PySem.W.Frag) (C : Addr) : Sp := fun vs H Q _ => ∃ x ps ks, vs = [.ref x] ∧ RowAt K C H x ps ks ∧ RowOk ps ks ∧ Asc ps ∧ Asc ks ∧ ∀ y H', H y = none → Same H H' → RowAt K C H' y (mirror ps) (mirror ks) → RowOk (mirror ps) (mirror ks) → Asc (mirror ps) → Asc (mirror ks) → Q (.ref y) H'
def t_mirrored (K : PySem.W.Frag) (c_Row : Addr) : TS := tSeq (tAsg (tLc (iTup K (tProp c_Row (spContents K c_Row) [] E0 (tVar 0))) (gTup K 2 (gCons (gName 2) (gCons (gName 3) (gNil)))) (tYes) (tTup (tCons (tUn (rU fun i => .int (-i)) (tVar 2)) (tCons (tVar 3) (tNil)))) [2, 3]) (gName 1))
  (tRet (tMake c_Row (spRowInit K c_Row) [] E0 (tCons (tVar 1) (tCons (tLc (iTup K (tProp c_Row (spCapacities K c_Row) [] E0 (tVar 0))) (gTup K 2 (gCons (gName 2) (gCons (gName 4) (gNil)))) (tYes) (tTup (tCons (tUn (rU fun i => .int (-i)) (tVar 2)) (tCons (tVar 4) (tNil)))) [2, 4]) (tNil)))))
theorem pure_mirrored {K : PySem.W.Frag} {C : Addr} (vs : List V) (H : Hp) (Q : VK) (E : XK) (h : spMirrored K C vs H Q E) : t_mirrored K C { nx := fun _ H' => Q .non H', rt := Q } (start ["row", "contents", "index", "count", "capacity"] vs) H := by
  obtain ⟨x, ps, ks, rfl, row, ok, ap, ak, q⟩ := h
  obtain ⟨dx, fs, hx, _, _⟩ := row.ins
  have pl := ok.len
  have kl := ok.kl
  unfold t_mirrored
  try rw [← xLc_eq]
  show xLc (iTup K (tProp C (spContents K C) [] E0 (tVar 0))) (gTup K 2 (gCons (gName 2) (gCons (gName 3) gNil))) tYes (tTup (tCons (tUn (rU fun i => .int (-i)) (tVar 2)) (tCons (tVar 3) tNil))) [2, 3] [some (.ref x), none, none, none, none] H _
  try rw [xLc_eq]
  refine lc_tups neg1 (fun R r => ⟨_, rfl, x, dx, fs, rfl, hx, x, ps, ks, rfl, row, r⟩) (by omega) (fun t p H1 R s1 at1 r => ?_) (fun l1 H1 hl1 s1 pr1 => ?_)
  · exact ⟨t, _, rfl, SqT.of at1, rfl, _, _, rfl, _, _, rfl, rfl, rfl, _, rfl, _, rfl, _, rfl, sz (by show 2 ≤ 1000; decide), r⟩
  have hx1 := s1 _ _ hx
  refine ⟨_, rfl, ?_⟩
  try rw [← xLc_eq]
  show xLc (iTup K (tProp C (spCapacities K C) [] E0 (tVar 0))) (gTup K 2 (gCons (gName 2) (gCons (gName 4) gNil))) tYes (tTup (tCons (tUn (rU fun i => .int (-i)) (tVar 2)) (tCons (tVar 4) tNil))) [2, 4] [some (.ref x), some (.ref l1), none, none, none] H1 _
  try rw [xLc_eq]
  refine lc_tups neg1 (fun R r => ⟨_, rfl, x, dx, fs, rfl, hx1, x, ps, ks, rfl, row.same s1, r⟩) (by omega) (fun t p H2 R s2 at2 r => ?_) (fun l2 H2 hl2 s2 pr2 => ?_)
  · exact ⟨t, _, rfl, SqT.of at2, rfl, _, _, rfl, _, _, rfl, rfl, rfl, _, rfl, _, rfl, _, rfl, sz (by show 2 ≤ 1000; decide), r⟩
  refine make_row (pr1.same s2) pr2 (neg_ok ok) fun y H3 qs ls hy s3 ry p1 p2 a1 a2 => ?_
  have mp := mirror_asc ap
  have mk := mirror_asc ak
  have z1 := asc_eq a1 mp (p1.trans (mirror_perm ps).symm)
  have z2 := asc_eq a2 mk (p2.trans (mirror_perm ks).symm)
  subst z1 z2
  exact q y H3 (Same.free s1 (Same.free s2 hy)) (s1.trans (s2.trans s3)) ry ((neg_ok ok).perm (mirror_perm ps) (mirror_perm ks)) mp mk
def spUnsweep (K : PySem.W.Frag) (C B : Addr) : Sp := fun vs H Q E => ∃ x v t ps ks, vs = [.ref x, v] ∧ AnyT K H v t ∧ RowAt K C H x ps ks ∧ RowOk ps ks ∧ Asc ps ∧ Asc ks ∧ (btw 1 99 v = false → ∀ H', Same H H' → E (.ref B) none H') ∧
  ∀ most, v = .int most → 1 ≤ most → most ≤ 99 → ∀ y H' st, H y = none → Same H H' → Traces (cnt (mirror ps)) (cap (mirror ks)) most (mirror ps) [] st → RowAt K C H' y (mirror (left st)) ks → RowOk (mirror (left st)) ks → Asc (mirror (left st)) → Q (.ref y) H'
theorem mirror_mirror (ps : List (Int × Int)) : mirror (mirror ps) = ps := by
  unfold mirror
  rw [List.map_reverse, List.reverse_reverse, List.map_map]
  have : ∀ p ∈ ps, (neg1 ∘ neg1) p = p := fun p _ => by
    show (- -p.1, p.2) = p
    rw [Int.neg_neg]
  rw [List.map_congr_left this, List.map_id']
def t_unsweep (K : PySem.W.Frag) (c_BadCapacity : Addr) (c_Row : Addr) (E : XK) : TS := tRet (tCall (spMirrored K c_Row) [] E0 (tCons (tCall (spSweep K c_Row c_BadCapacity) [] E (tCons (tCall (spMirrored K c_Row) [] E0 (tCons (tVar 0) (tNil))) (tCons (tVar 1) (tNil)))) (tNil)))
theorem pure_unsweep {K : PySem.W.Frag} {C B : Addr} (vs : List V) (H : Hp) (Q : VK) (E : XK) (h : spUnsweep K C B vs H Q E) : t_unsweep K B C E { nx := fun _ H' => Q .non H', rt := Q } (start ["row", "capacity"] vs) H := by
  obtain ⟨x, v, t, ps, ks, rfl, hv, row, ok, ap, ak, bad, q⟩ := h
  refine ⟨_, rfl, x, ps, ks, rfl, row, ok, ap, ak, fun y1 H1 hy1 s1 row1 ok1 ap1 ak1 => ?_⟩
  refine ⟨_, rfl, y1, v, t, mirror ps, mirror ks, rfl, hv.same s1, row1, ok1, ak1, fun z => bad z H1 s1, fun most e m1 m2 y2 H2 st hy2 s2 tr row2 => ?_⟩
  obtain ⟨lo, la, _⟩ := left_ok ok1 m1 tr
  refine ⟨y2, left st, mirror ks, rfl, row2, lo, la, ak1, fun y3 H3 hy3 s3 row3 ok3 ap3 _ => ?_⟩
  rw [mirror_mirror] at row3 ok3
  exact q most e m1 m2 y3 H3 st (Same.free s1 (Same.free s2 hy3)) (s1.trans (s2.trans s3)) tr row3 ok3 ap3
end SR
set_option Elab.async false
set_option linter.all false
set_option maxRecDepth 100000
set_option maxHeartbeats 4000000
set_option Elab.async false
set_option linter.all false
set_option maxRecDepth 100000
set_option maxHeartbeats 4000000
namespace SR
open PySem PySem.Spec PyProof.Rows L2
def rowD (ps : List (Int × Int)) : PyData := .tuple (ps.map fun p => pr2 p.1 p.2)
theorem dp_row {K : PySem.W.Frag} {H : Hp} {c : Addr} {ts : List Addr} {ps : List (Int × Int)} (h1 : SqT K H c (ts.map V.ref)) (h2 : Paired (TupAt H) ts ps) : Dp K H (.ref c) (rowD ps) := by
  refine .tup h1 ?_
  clear h1
  induction ps generalizing ts with
  | nil =>
    cases h2
    exact .nil
  | cons p ps ih =>
    cases h2 with
    | cons a b => exact .cons (dp_pr2 a) (ih b)
/-- numbers that can be shown -/
def Small (ps : List (Int × Int)) : Prop := ∀ p ∈ ps, p.1.natAbs < 2 ^ 1900 ∧ p.2.natAbs < 2 ^ 1900
theorem row_show {ps : List (Int × Int)} (h : Small ps) : (rowD ps).showable = true := by
  show PyData.showableAll (ps.map fun p => pr2 p.1 p.2) = true
  induction ps with
  | nil => rfl
  | cons p ps ih =>
    show ((pr2 p.1 p.2).showable && PyData.showableAll (ps.map fun p => pr2 p.1 p.2)) = true
    have a := h p List.mem_cons_self
    rw [pr2_show a.1 a.2, ih fun q m => h q (List.mem_cons_of_mem _ m)]
    rfl
theorem row_depth (ps : List (Int × Int)) : (rowD ps).depth ≤ 60 := by
  have : PyData.depthAll (ps.map fun p => pr2 p.1 p.2) ≤ 1 := by
    induction ps with
    | nil => exact Nat.zero_le _
    | cons p ps ih =>
      show max (pr2 p.1 p.2).depth (PyData.depthAll (ps.map fun p => pr2 p.1 p.2)) ≤ 1
      have : (pr2 p.1 p.2).depth ≤ 1 := by simp [pr2, PyData.depth, PyData.depthAll]
      omega
  simp only [rowD, PyData.depth]
  omega
theorem row_cost (ps : List (Int × Int)) : cost (rowD ps) ≤ ps.length * 4000 + 4 := by
  have : costAll (ps.map fun p => pr2 p.1 p.2) ≤ ps.length * 4000 := by
    induction ps with
    | nil => exact Nat.le_refl _
    | cons p ps ih =>
      show cost (pr2 p.1 p.2) + 2 + costAll (ps.map fun p => pr2 p.1 p.2) ≤ _
      have : cost (pr2 p.1 p.2) = 3850 := by simp [pr2, cost, costAll]
      rw [List.length_cons]
      omega
  show costAll _ + 4 ≤ _
  omega
end SR
set_option Elab.async false
set_option linter.all false
set_option maxRecDepth 100000
set_option maxHeartbeats 4000000
namespace SRNe
open PySem PySem.Spec PyProof.Rows
section
variable {M : Model} {prog : Program} {wd : World} {A : Around} {Er : Value → Shared → Prop} {s : Shared} {K : PySem.W.Frag} {a C f : Addr} {oa : Obj} {od : Option Obj}
/-- the class hands the question to the built-in != -/
theorem bound_ne {bs : List Value} {Q : Option Value → Shared → Prop} (X : K.In s.heap) (I : PySem.W.InstAt s.heap a oa C od) (hn : PySem.W.findIn K (.ref C) "__ne__" = some (some (.builtin "object.__ne__")))
    (k : wpAny M A (call (.builtin "object.__ne__") (.ref a :: bs)) (fun v => Q (some v)) Er s) : wpAny M A (callSpecialIfBound? (.ref a) "__ne__" bs) Q Er s := by
  simp only [bindSpecialIfBound?, callSpecialIfBound?]
  have last : wpAny M A (do let v ← call (.builtin "object.__ne__") ([.ref a] ++ bs); pure (some v)) Q Er s := wpAny_bind (wpAny_mono k (fun _ _ z => wpAny_pure z) fun _ _ z => z)
  refine wpAny_holding (wpAny_bind (wpAny_bind (wpAny_bind (I.type.here ((PySem.W.looks_findIn X hn).here (wpAny_bind (wpAny_askSetting (wpAny_ite ?_))))))))
  split
  · exact wpAny_bind (wpAny_of_eq (F.cmp_object.ne.bind _) (wpAny_pure last))
  · exact wpAny_tryCatch (wpAny_bind (wpAny_of_eq (F.cmp_object.ne.bind _) (wpAny_pure last)))
/-- the built-in != asks the own == -/
theorem entry_ne {b : Value} {Q : Fin → Shared → Prop} (X : K.In s.heap) (I : PySem.W.InstAt s.heap a oa C od) (he : PySem.W.findIn K (.ref C) "__eq__" = some (some (.ref f))) (hf : PySem.W.isFn K (.ref f) = true) (hu : A.units < cLine)
    (k : wpAny M A (call (.ref f) [.ref a, b]) (fun v s2 => ∃ r, v = .bool r ∧ Q (.done (.ret (.bool (!r)))) s2) Er s) : wpAny M A (Builtin.«object.__ne__» ⟨[.ref a, b], []⟩) Q Er s := by
  unfold Builtin.«object.__ne__»
  repeat (first
    | with_reducible refine wpAny_cRoomFor hu ?_
    | (refine wpAny_bind (m := callSpecialIfBound? (.ref a) (Str.ofString "__eq__") [b]) (PySem.W.ifBound_K X I he hf (wpAny_mono k (fun v s2 z => by
        obtain ⟨r, e, q⟩ := z
        subst e
        repeat (first | exact q | exact wpAny_pure q | exact wpAny_truthy_bool q | (refine wpAny_bind (m := truthy (.bool _)) (wpAny_truthy_bool ?_)) | wp_step)) fun _ _ z => z)))
    | wp_step)
theorem try_ne {b : Value} {Q : Option Value → Shared → Prop} (X : K.In s.heap) (I : PySem.W.InstAt s.heap a oa C od) (hn : PySem.W.findIn K (.ref C) "__ne__" = some (some (.builtin "object.__ne__"))) (hm : PySem.W.mroIn K C (.type "object") = some true)
    (he : PySem.W.findIn K (.ref C) "__eq__" = some (some (.ref f))) (hf : PySem.W.isFn K (.ref f) = true) (hu : A.units + 1 < cLine)
    (k : wpAny (model prog wd) A.in1 (call (.ref f) [.ref a, b]) (fun v s2 => ∃ r, v = .bool r ∧ Q (some (.bool (!r))) s2) Er s) : wpAny (model prog wd) A (tryCompare (.ref a) "__ne__" b) Q Er s := by
  unfold tryCompare
  refine wpAny_bind (bound_ne X I hn (wpAny_call (codeAny_call_builtin F.cmp_object.ne.plain F.cmpEntry_ne
    (PySem.W.check_slot F.cmpKind_ne F.cmpSplit_ne (I.type.andThen (PySem.W.looks_mroIn X hm)) (F.cmpArgs_ne _ _) (entry_ne X I he hf hu (wpAny_mono k (fun v s2 z => ?_) fun _ _ z => z))))))
  obtain ⟨r, e, q⟩ := z
  subst e
  first | exact ⟨r, rfl, wpAny_pure q⟩ | exact ⟨r, rfl, wpAny_pure (wpAny_pure q)⟩ | exact ⟨r, rfl, q⟩
theorem rich_ne {b : Addr} {ob : Obj} {od2 : Option Obj} {Q : Value → Shared → Prop} (X : K.In s.heap) (I : PySem.W.InstAt s.heap a oa C od) (J : PySem.W.InstAt s.heap b ob C od2) (hn : PySem.W.findIn K (.ref C) "__ne__" = some (some (.builtin "object.__ne__"))) (hm : PySem.W.mroIn K C (.type "object") = some true)
    (he : PySem.W.findIn K (.ref C) "__eq__" = some (some (.ref f))) (hf : PySem.W.isFn K (.ref f) = true) (hu : A.units + 1 < cLine)
    (k : wpAny (model prog wd) A.in1 (call (.ref f) [.ref a, .ref b]) (fun v s2 => ∃ r, v = .bool r ∧ Q (.bool (!r)) s2) Er s) : wpAny (model prog wd) A (richCompare .NotEq (.ref a) (.ref b)) Q Er s := by
  unfold richCompare
  simp only [oneThing_ref]
  refine wpAny_holding (wpAny_bind (wpAny_cRoomFor (Nat.lt_of_succ_lt hu) ?_))
  rw [cmpInfo_NotEq]
  dsimp only
  refine wpAny_bind (I.type.here (wpAny_bind (J.type.here ?_)))
  rw [show (Value.ref C != Value.ref C) = false by simp]
  simp only [if_false, Bool.false_eq_true]
  refine wpAny_bind (wpAny_pure ?_)
  simp only [if_false, Bool.false_eq_true]
  refine wpAny_bind (try_ne X I hn hm he hf hu (wpAny_mono k (fun v s2 z => ?_) fun _ _ z => z))
  obtain ⟨r, e, q⟩ := z
  first | exact ⟨r, e, wpAny_pure q⟩ | exact ⟨r, e, wpAny_pure (wpAny_pure q)⟩
end
end SRNe
namespace L2
open PySem PySem.Spec PyProof.Rows
/-- x != y of two that are equal by the own == -/
def rNeG (D : Eqv) : R2 := fun x y H Q => D x y H ∧ ∀ H', Ext H H' → Q (.bl false) H'
section
variable {X : Cx} {n : Nat}
theorem op_neG {CX : CXT} {C f : Addr} {fd : FuncData} {ps : List Str} {R : Addr → Addr → Hp → Prop} {E : XK} (F : FnOk X.prog X.w X.K X.mg X.base CX n f fd ps (spEq R))
    (he : PySem.W.findIn X.K (.ref C) "__eq__" = some (some (.ref f))) (hf : PySem.W.isFn X.K (.ref f) = true) (hn : PySem.W.findIn X.K (.ref C) "__ne__" = some (some (.builtin "object.__ne__"))) (hm : PySem.W.mroIn X.K C (.type "object") = some true)
    (hb : Binds X.K fd ps []) (hx : Passes CX X E) (hr : Room (n + 1) X.A) : OpR X (compareOp .NotEq) (rNeG (DIns C R)) := by
  intro pins s σ H x y v u Q I rx ry hq
  obtain ⟨⟨a, b, dx, dy, fs, gs, rfl, rfl, ha, hb', hr'⟩, q⟩ := hq
  cases rx
  cases ry
  obtain ⟨mA, J, _⟩ := ins_get I.hok ha
  obtain ⟨mB, J', _⟩ := ins_get I.hok hb'
  obtain ⟨oA, J, _⟩ := J.look
  obtain ⟨oB, J', _⟩ := J'.look
  show wpAny (model X.prog X.w) X.A (richCompare .NotEq (.ref a) (.ref b)) (EP X pins σ Q) X.xe s
  have room := hr.in1
  refine SRNe.rich_ne I.kIn J J' hn hm he hf room.units0 ?_
  have told : spEq R [.ref a, .ref b] H (fun v H' => v = .bl true ∧ Ext H H') E := ⟨a, b, rfl, hr', fun H' z => ⟨rfl, z⟩⟩
  have en : Env0 X.prog X.w X.K X.mg X.base X.A.in1 X.stack s H := let z := I.env0; ⟨z.frames, z.mod, z.bs, z.bsz, z.funs, z.frf, z.hok, z.bare⟩
  have vals : Vals [V.ref a, V.ref b] [Value.ref a, Value.ref b] := .cons rfl (.cons rfl .nil)
  have two := F.len _ _ _ _ told
  have bind : BindsTo s fd ⟨[.ref a, .ref b], []⟩ (ps.zip [.ref a, .ref b]) := by
    have z := hb s [.ref a, .ref b] I.kIn (by rw [← two]; rfl)
    simpa using z
  refine wpAny_call (codeAny_mono (F.run X.A.in1 X.stack s H ⟨[.ref a, .ref b], []⟩ [.ref a, .ref b] [.ref a, .ref b] _ E room en bind vals told) fun out s2 k => ?_)
  cases out with
  | error e => exact hx pins σ H s e s2 I k
  | ok fl =>
    cases fl with
    | ret u =>
      obtain ⟨z, H2, I2, rz, ez, ex⟩ := I.after k
      subst ez
      cases rz
      exact ⟨true, rfl, .bl false, H2, I2, rfl, q H2 ex⟩
    | next => exact False.elim k
    | brk => exact False.elim k
    | cont => exact False.elim k
end
end L2
set_option Elab.async false
set_option linter.all false
set_option maxRecDepth 100000
set_option maxHeartbeats 4000000
namespace SR
open PySem PySem.Spec PyProof.Rows L2
/-- what the class of rows says beside its fields -/
structure RowK (K : PySem.W.Frag) (C : Addr) : Prop where
  kit : PySem.W.kitOne K (.ref C) (.ref C) = some true
  ha : PySem.W.findIn K (.ref C) "__class__" = some (some (.builtin "object.__class__"))
  hg : PySem.W.specialIn K (.builtin "object.__class__") "__get__" = some (some (.builtin "getset_descriptor.__get__"))
  ht : PySem.W.takesIn K (.builtin "object.__class__") = some true
  hm : PySem.W.mroIn K C (.type "object") = some true
  ne : PySem.W.findIn K (.ref C) "__ne__" = some (some (.builtin "object.__ne__"))
def rowKB (K : PySem.W.Frag) (C : Addr) : Bool := decide (PySem.W.kitOne K (.ref C) (.ref C) = some true) && (decide (PySem.W.findIn K (.ref C) "__class__" = some (some (.builtin "object.__class__"))) &&
  (decide (PySem.W.specialIn K (.builtin "object.__class__") "__get__" = some (some (.builtin "getset_descriptor.__get__"))) && (decide (PySem.W.takesIn K (.builtin "object.__class__") = some true) &&
  (decide (PySem.W.mroIn K C (.type "object") = some true) && decide (PySem.W.findIn K (.ref C) "__ne__" = some (some (.builtin "object.__ne__")))))))
theorem rowKB_ok {K : PySem.W.Frag} {C : Addr} (h : rowKB K C = true) : RowK K C := by
  unfold rowKB at h
  simp only [Bool.and_eq_true, decide_eq_true_eq] at h
  obtain ⟨h1, h2, h3, h4, h5, h6⟩ := h
  exact ⟨h1, h2, h3, h4, h5, h6⟩
theorem lay_prs : ∀ ps : List (Int × Int), PyData.canLayAll0 (ps.map fun p => pr2 p.1 p.2) = true
  | [] => rfl
  | p :: ps => by
    show (PyData.canLay0 (pr2 p.1 p.2) && PyData.canLayAll0 (ps.map fun p => pr2 p.1 p.2)) = true
    rw [lay_prs ps]
    rfl
theorem row_shaped (ps : List (Int × Int)) : SeqAt.shaped (rowD ps) = true := by
  refine shaped_tup (lay_prs ps) ?_
  have := row_depth ps
  simp only [rowD, PyData.depth] at this
  omega
/-- two rows of the same data -/
def RowEq (K : PySem.W.Frag) (C : Addr) (a b : Addr) (H : Hp) : Prop := ∃ ps ks, RowAt K C H a ps ks ∧ RowAt K C H b ps ks
abbrev spRowEq (K : PySem.W.Frag) (C : Addr) : Sp := spEq (RowEq K C)
def t_Row_eq (K : PySem.W.Frag) (c_Row : Addr) : TS := tRet (tAndV (tCB (rIsi K) (tCons (tVar 1) (tCons (tC (.ref c_Row)) tNil))) (tAndV (tOp (rEqD K) (tFld K (tVar 0) "_contents") (tFld K (tVar 1) "_contents")) (tOp (rEqD K) (tFld K (tVar 0) "_capacities") (tFld K (tVar 1) "_capacities"))))
theorem pairsT_dp {K : PySem.W.Frag} {H : Hp} {c : Addr} {ps : List (Int × Int)} (h : PairsT H c ps) : Dp K H (.ref c) (rowD ps) := let ⟨_, h1, h2⟩ := h; dp_row h1.sq h2
theorem pure_row_eq {K : PySem.W.Frag} {C : Addr} (R : RowC K C) (Z : RowK K C) (vs : List V) (H : Hp) (Q : VK) (E : XK) (h : spRowEq K C vs H Q E) : t_Row_eq K C { nx := fun _ H' => Q .non H', rt := Q } (start ["self", "other"] vs) H := by
  obtain ⟨a, b, rfl, ⟨ps, ks, ⟨dx, c, k, d, e, ps0, ks0, h1, h2, h3, _⟩, ⟨dy, c', k', d', e', _, _, g1, g2, g3, _⟩⟩, q⟩ := h
  refine ⟨_, rfl, .ref b, .ref C, .ref C, .ref C, true, rfl, .own C, .base (.ins g1 R.cls Z.ha Z.hg Z.ht Z.hm), Z.kit, ?_⟩
  refine ⟨_, rfl, iteT ⟨_, rfl, a, C, dx, _, _, rfl, h1, R.cls, R.n1, fl1 c k d e, _, rfl, b, C, dy, _, _, rfl, g1, R.cls, R.n1, fl1 c' k' d' e', ?_⟩⟩
  refine eq_same (pairsT_dp h2) (pairsT_dp g2) (row_shaped ps) ⟨_, rfl, iteT ⟨_, rfl, a, C, dx, _, _, rfl, h1, R.cls, R.n2, fl2 c k d e, _, rfl, b, C, dy, _, _, rfl, g1, R.cls, R.n2, fl2 c' k' d' e', ?_⟩⟩
  exact eq_same (pairsT_dp h3) (pairsT_dp g3) (row_shaped ks) (q H fun _ _ z => z)
/-- rows that are asked for == and != -/
structure EqM (P : Program) (w : World) (K : PySem.W.Frag) (mg : Str → Option Value) (base : Heap) (k : Nat) (C : Addr) : Prop where
  ex : ∃ (f : Addr) (fd : FuncData) (ps : List Str), FnOk P w K mg base CX0 k f fd ps (spRowEq K C) ∧ Meth K C "__eq__" f ∧ RowK K C ∧ Binds K fd ps []
theorem RowAt.at {K : PySem.W.Frag} {C : Addr} {H : Hp} {x : Addr} {ps ks : List (Int × Int)} (h : RowAt K C H x ps ks) : ∃ dx fs, H x = some (.ins C dx fs) := let ⟨dx, c, k, d, e, _, _, h1, _⟩ := h; ⟨dx, _, h1⟩
/-- x != y of equal rows -/
def rNeR (K : PySem.W.Frag) (C : Addr) : R2 := fun x y H Q => ∃ a b ps ks, x = .ref a ∧ y = .ref b ∧ RowAt K C H a ps ks ∧ RowAt K C H b ps ks ∧ ∀ H', Same H H' → Q (.bl false) H'
theorem op_neR {X : Cx} {j k : Nat} {C : Addr} (c : EqM X.prog X.w X.K X.mg X.base k C) (hr : Room j X.A) (hk : k + 1 ≤ j) : OpR X (compareOp .NotEq) (rNeR X.K C) := by
  obtain ⟨f, fd, ps, F, m, z, b⟩ := c.ex
  intro pins s σ H x y v u Q I rx ry hq
  obtain ⟨a, a', qs, ks, rfl, rfl, h1, h2, q⟩ := hq
  obtain ⟨dx, fs, e1⟩ := h1.at
  obtain ⟨dy, gs, e2⟩ := h2.at
  exact op_neG F m.at_ m.fn z.ne z.hm b pass0 (hr.mono hk) pins s σ H _ _ v u Q I rx ry ⟨⟨a, a', dx, dy, fs, gs, rfl, rfl, e1, e2, qs, ks, h1, h2⟩, q⟩
def spTotal (K : PySem.W.Frag) (C : Addr) : Sp := fun vs H Q _ => ∃ x ps ks, vs = [.ref x] ∧ RowAt K C H x ps ks ∧ ps.length ≤ 1000 ∧ ∀ H', Same H H' → Q (.int (ps.map Prod.snd).sum) H'
def t_Row_total (K : PySem.W.Frag) : TS := tRet (tCB (rSum K) (tCons (tLc (iTup K (tFld K (tVar 0) "_contents")) (gTup K 2 (gCons (gName 2) (gCons (gName 1) (gNil)))) (tYes) (tVar 1) [2, 1]) (tNil)))
/-- the second parts of a tuple of pairs -/
theorem lc_snd {K : PySem.W.Frag} {te : TE} {g : TG} {telt : TE} {vs : List Nat} {σ : L2.St} {H : Hp} {ps : List (Int × Int)} {Q : VK} (hte : ∀ R : VK, (∀ c, PairsT H c ps → R (.ref c) H) → te σ H R) (hl : ps.length ≤ 1000)
    (hs : ∀ t p H' (R : VK), TupAt H' t p → R (.int p.2) H' → g (.ref t) (wipe σ vs) H' fun σ2 H2 => wipe σ2 vs = wipe σ vs ∧ telt σ2 H2 R)
    (hQ : ∀ D H', H D = none → Same H H' → H' D = some (.lst ((ps.map Prod.snd).map V.int)) → Q (.ref D) H') : tLc (iTup K te) g tYes telt vs σ H Q := by
  refine hte _ fun c hp => ?_
  obtain ⟨ts, bc, hts⟩ := hp
  have hlen : (ts.map V.ref).length = ps.length := by rw [List.length_map, paired_len hts]
  refine ⟨c, rfl, ⟨_, bc.sq⟩, fun D hD => ?_⟩
  refine lc_it (walk_tup (K := K) (a := c) (xs := ts.map V.ref)) (fun i H1 => Same H H1 ∧ H1 D = some (.lst (((ps.take i).map Prod.snd).map V.int))) ⟨same_new hD, upd_same⟩ (fun i H1 _ h => (bc.same h.1).sq) ?_ ?_
  · rintro i v H1 H2 hi ⟨s1, d1⟩ ⟨rfl, hv⟩
    rw [List.getElem?_map] at hv
    obtain ⟨t, ht, rfl⟩ := Option.map_eq_some_iff.mp hv
    obtain ⟨p, hpi, hat⟩ := paired_at hts ht
    refine hs t p H2 _ (s1 _ _ hat) ⟨_, d1, ?_, same_upd s1 hD, ?_⟩
    · rw [List.length_map, List.length_map, List.length_take]
      exact Nat.lt_of_le_of_lt (Nat.le_trans (Nat.min_le_right _ _) hl) (by decide)
    · rw [upd_same, List.take_succ, hpi, List.map_append, List.map_append]
      rfl
  · rintro H1 ⟨s1, d1⟩
    rw [hlen, List.take_length] at d1
    exact hQ D H1 hD s1 d1
theorem pure_total {K : PySem.W.Frag} {C : Addr} (R : RowC K C) (vs : List V) (H : Hp) (Q : VK) (E : XK) (h : spTotal K C vs H Q E) : t_Row_total K { nx := fun _ H' => Q .non H', rt := Q } (start ["self", "count", "_"] vs) H := by
  obtain ⟨x, ps, ks, rfl, ⟨dx, c, k, d, e, ps0, ks0, h1, h2, h3⟩, len, q⟩ := h
  unfold t_Row_total
  rw [← xLc_eq]
  show xLc (iTup K (tFld K (tVar 0) "_contents")) (gTup K 2 (gCons (gName 2) (gCons (gName 1) (gNil)))) (tYes) (tVar 1) [2, 1] [some (.ref x), none, none] H _
  rw [xLc_eq]
  refine lc_snd (fun R' r => ⟨_, rfl, x, C, dx, _, _, rfl, h1, R.cls, R.n1, fl1 c k d e, r c h2⟩) len (fun t p H1 R' at1 r => ?_) fun D H1 hD s1 d1 => ?_
  · exact ⟨t, _, rfl, SqT.of at1, rfl, _, _, rfl, _, _, rfl, rfl, rfl, _, rfl, r⟩
  · exact ⟨D, _, rfl, SqL.of d1, q H1 s1⟩
end SR
set_option Elab.async false
set_option linter.all false
set_option maxRecDepth 100000
set_option maxHeartbeats 4000000
namespace L2
open PySem PySem.Spec PyProof.Rows
def rNeE (K : PySem.W.Frag) : R2 := fun x y H Q => ∃ a b xs, x = .ref a ∧ y = .ref b ∧ SqL K H a xs ∧ SqL K H b [] ∧ Q (.bl (!xs.isEmpty)) H
theorem op_neE {X : Cx} (hu : X.A.units + 64 < cLine) : OpR X (compareOp .NotEq) (rNeE X.K) := by
  intro pins s σ H x y v u Q I rx ry h
  obtain ⟨a, b, xs, rfl, rfl, ha, hb, q⟩ := h
  cases rx
  cases ry
  have hu0 : X.A.units < cLine := by omega
  obtain ⟨its, rv, la, _⟩ := I.list ha
  obtain ⟨jts, rw_, lb, _⟩ := I.list hb
  replace la := la.isList
  replace lb := lb.isList
  have e1 := rv.length
  have e2 := rw_.length
  show wpAny (model X.prog X.w) X.A (richCompare .NotEq (.ref a) (.ref b)) (EP X pins σ Q) X.xe s
  cases xs with
  | nil =>
    have z1 : its = [] := List.length_eq_zero_iff.mp e1.symm
    have z2 : jts = [] := List.length_eq_zero_iff.mp e2.symm
    subst z1 z2
    exact (SeqAt.RcNeAt.lists (A := X.A) (e := fun _ => true) la lb rfl hu0 (fun j h1 _ => absurd h1 (by simp))) X.prog X.w X.xe _ ⟨.bl false, H, I, rfl, q⟩
  | cons x xs =>
    have z2 : jts = [] := List.length_eq_zero_iff.mp e2.symm
    subst z2
    refine (SeqAt.RcNeAt.lists_lengths (A := X.A) la lb ?_ hu0) X.prog X.w X.xe _ ⟨.bl true, H, I, rfl, q⟩
    rw [List.length_cons] at e1
    have : its.toArray.size ≠ (#[] : Array Value).size := by
      rw [List.size_toArray, ← e1]
      simp
    simpa using this
end L2
set_option Elab.async false
set_option linter.all false
set_option maxRecDepth 100000
set_option maxHeartbeats 4000000
namespace SR
open PySem PySem.Spec PyProof.Rows L2
section
variable {ps : List (Int × Int)} {most : Int}
/-- one item each -/
def Ones (ps : List (Int × Int)) : Prop := ∀ p ∈ ps, p.2 = 1
def ones (r : List Int) : List (Int × Int) := r.map fun y => (y, 1)
end
end SR
set_option Elab.async false
set_option linter.all false
set_option maxRecDepth 100000
set_option maxHeartbeats 4000000
set_option Elab.async false
set_option linter.all false
set_option maxRecDepth 100000
set_option maxHeartbeats 4000000
namespace SR
open PySem PySem.Spec PyProof.Rows L2
theorem ones_fst (L : List Int) : (ones L).map Prod.fst = L := by
  unfold ones
  rw [List.map_map]
  exact List.map_id' L
theorem ones_len (L : List Int) : (ones L).length = L.length := by
  unfold ones
  rw [List.length_map]
theorem ones_asc {L : List Int} (h : L.Pairwise (· < ·)) : Asc (ones L) := by
  unfold Asc ones
  rw [List.pairwise_map]
  exact h
theorem ones_ones (L : List Int) : Ones (ones L) := fun p m => by
  obtain ⟨y, _, rfl⟩ := List.mem_map.mp m
  rfl
theorem ones_of {ps : List (Int × Int)} (h : Ones ps) : ps = ones (ps.map Prod.fst) := by
  unfold ones
  rw [List.map_map]
  have : ∀ p ∈ ps, ((fun y => (y, (1 : Int))) ∘ Prod.fst) p = p := fun p m => by
    show (p.1, (1 : Int)) = p
    rw [← h p m]
  rw [List.map_congr_left this, List.map_id']
theorem ones_sum (L : List Int) : ((ones L).map Prod.snd).sum = L.length := by
  unfold ones
  rw [List.map_map]
  induction L with
  | nil => rfl
  | cons a L ih => rw [List.map_cons, List.sum_cons, ih, List.length_cons]; show 1 + (L.length : Int) = _; omega
theorem ones_ok {L : List Int} (h : L.Pairwise (· < ·)) (l : L.length ≤ 40) : RowOk (ones L) [] :=
  ⟨by rw [ones_fst]; exact h.imp fun z e => by omega, .nil, Nat.zero_le _, (fun p m => nomatch m), fun p m => by rw [ones_ones L p m]; exact ⟨Int.le_refl _, Int.le_refl _⟩, by rw [ones_sum]; omega⟩
end SR
set_option Elab.async false
set_option linter.all false
set_option maxRecDepth 100000
set_option maxHeartbeats 4000000
namespace SR
open PySem PySem.Spec PyProof.Rows L2
section
variable {K : PySem.W.Frag} {H : Hp} {F : Addr} {L : List Int} {x0 x1 x2 x4 x5 x6 x7 x8 x9 : Option V} {Q : VK}
def turned (L : List Int) : List Int := (L.map fun y => -y).reverse
end
end SR
set_option Elab.async false
set_option linter.all false
set_option maxRecDepth 100000
set_option maxHeartbeats 4000000
namespace SR
open PySem PySem.Spec PyProof.Rows L2
section
variable {K : PySem.W.Frag} {C B : Addr}
/-- what is no state of draws stays -/
theorem kp_at {H H' : Hp} {d g c a : Addr} {b : Nat} {o : HO} (S : StB H d g c b) (k : Kp d g H H') (h : H a = some o) (n1 : ∀ xs, o ≠ .lst xs) (n2 : ∀ r t, o ≠ .dK (stK g c r t)) : H' a = some o := by
  obtain ⟨r, t, gs, cs, h1, h2, _⟩ := S
  refine k _ _ (fun z => ?_) (fun z => ?_) h
  · rw [z, h1] at h
    exact n2 r t (Option.some.inj h).symm
  · rw [z, h2] at h
    exact n1 _ (Option.some.inj h).symm
theorem kvs_no {ps : List (Int × Int)} (g c : Addr) (r t : Int) : HO.dK (kvsOf ps) ≠ .dK (stK g c r t) := fun z => by
  cases ps with
  | nil => cases z
  | cons p ps => cases z
theorem kp_dict {H H' : Hp} {d g c a : Addr} {b : Nat} {ps : List (Int × Int)} (S : StB H d g c b) (k : Kp d g H H') (h : H a = some (.dK (kvsOf ps))) : H' a = some (.dK (kvsOf ps)) := kp_at S k h (fun _ z => nomatch z) fun r t => kvs_no g c r t
theorem RowAt.kp {K : PySem.W.Frag} {C : Addr} {H H' : Hp} {d g c x : Addr} {b : Nat} {ps ks : List (Int × Int)} (row : RowAt K C H x ps ks) (S : StB H d g c b) (k : Kp d g H H') : RowAt K C H' x ps ks := by
  obtain ⟨dx, c0, k0, d0, e, ps0, ks0, h1, ⟨t1, h2, h3⟩, ⟨t2, h4, h5⟩, h6, h7, h8⟩ := row
  have tp : ∀ {t : Addr} {p : Int × Int}, TupAt H t p → TupAt H' t p := fun {t p} z => kp_at (o := .tup [.int p.1, .int p.2]) S k z (fun _ z => nomatch z) fun _ _ z => nomatch z
  refine ⟨dx, c0, k0, d0, e, ps0, ks0, kp_at S k h1 (fun _ z => nomatch z) (fun _ _ z => nomatch z), ⟨t1, ?_, paired_imp (fun _ _ z => tp z) h3⟩, ⟨t2, ?_, paired_imp (fun _ _ z => tp z) h5⟩, kp_dict S k h6, kp_dict S k h7, h8⟩
  · obtain ⟨o, a1, a2⟩ := h2
    exact ⟨o, kp_at S k a1 (fun _ z => nomatch z) (fun _ _ z => nomatch z), a2⟩
  · obtain ⟨o, a1, a2⟩ := h4
    exact ⟨o, kp_at S k a1 (fun _ z => nomatch z) (fun _ _ z => nomatch z), a2⟩
end
end SR
set_option Elab.async false
set_option linter.all false
set_option maxRecDepth 100000
set_option maxHeartbeats 4000000
set_option Elab.async false
set_option linter.all false
set_option maxRecDepth 100000
set_option maxHeartbeats 1000000
namespace SR
open PySem PySem.Spec PyProof.Rows L2
/-- the runs so far, with one more place -/
def blkStep (acc : List (Int × Int)) (x : Int) : List (Int × Int) := match acc.getLast? with
  | some q => if q.1 + q.2 = x then acc.set (acc.length - 1) (q.1, q.2 + 1) else acc ++ [(x, 1)]
  | none => acc ++ [(x, 1)]
def blkOf (xs : List Int) : List (Int × Int) := xs.foldl blkStep []
theorem blkStep_len (acc : List (Int × Int)) (x : Int) : (blkStep acc x).length ≤ acc.length + 1 := by
  unfold blkStep
  split
  · split
    · rw [List.length_set]; omega
    · rw [List.length_append]; exact Nat.le_refl _
  · rw [List.length_append]; exact Nat.le_refl _
theorem blkOf_len (xs : List Int) : (blkOf xs).length ≤ xs.length := by
  have key : ∀ (xs : List Int) (acc : List (Int × Int)), (xs.foldl blkStep acc).length ≤ acc.length + xs.length := by
    intro xs
    induction xs with
    | nil => exact fun _ => Nat.le_refl _
    | cons x xs ih =>
      intro acc
      have a := ih (blkStep acc x)
      have b := blkStep_len acc x
      rw [List.foldl_cons, List.length_cons]
      omega
  have := key xs []
  rw [List.length_nil] at this
  unfold blkOf
  omega
theorem blkOf_snoc (xs : List Int) (x : Int) : blkOf (xs ++ [x]) = blkStep (blkOf xs) x := by
  unfold blkOf
  rw [List.foldl_append]
  rfl
theorem paired_set {α β : Type} {R : α → β → Prop} {xs : List α} {ys : List β} (h : Paired R xs ys) {i : Nat} {a : α} {b : β} (r : R a b) : Paired R (xs.set i a) (ys.set i b) := by
  induction h generalizing i with
  | nil => exact .nil
  | cons x y ih =>
    cases i with
    | zero => exact .cons r y
    | succ i => exact .cons x ih
theorem paired_last2 {α β : Type} {R : α → β → Prop} {xs : List α} {ys : List β} (h : Paired R xs ys) {y : β} (e : ys.getLast? = some y) : ∃ x, xs.getLast? = some x ∧ R x y ∧ 0 < xs.length := by
  have l := paired_len h
  rw [List.getLast?_eq_getElem?] at e
  have lt := (List.getElem?_eq_some_iff.mp e).1
  have : ∃ x, xs[ys.length - 1]? = some x := ⟨xs[ys.length - 1]'(by omega), List.getElem?_eq_getElem (by omega)⟩
  obtain ⟨x, hx⟩ := this
  obtain ⟨b, hb, r⟩ := paired_at h hx
  rw [e] at hb
  cases hb
  refine ⟨x, ?_, r, by omega⟩
  rw [List.getLast?_eq_getElem?, l]
  exact hx
def t_blkC (K : PySem.W.Frag) : TT := tTest (tOp rEq (tCB (rSumT K) (tCons (tOp (rIxL K) (tVar 1) (tUn (rU fun i => .int (-i)) (tC (.int 1)))) (tNil))) (tVar 2))
def t_blkT (K : PySem.W.Frag) : TS := tAsg (tTup (tCons (tOp (rIxT K) (tOp (rIxL K) (tVar 1) (tUn (rU fun i => .int (-i)) (tC (.int 1)))) (tC (.int 0))) (tCons (tOp qAdd (tOp (rIxT K) (tOp (rIxL K) (tVar 1) (tUn (rU fun i => .int (-i)) (tC (.int 1)))) (tC (.int 1))) (tC (.int 1))) (tNil)))) (gSub (tVar 1) (tUn (rU fun i => .int (-i)) (tC (.int 1))) rSetL)
def t_blkE (K : PySem.W.Frag) : TS := tDrop (tBM K "list" rAppend (tVar 1) (tCons (tTup (tCons (tVar 2) (tCons (tC (.int 1)) (tNil)))) (tNil)))
section
variable {K : PySem.W.Frag} {H : Hp} {A : Addr} {ts : List Addr} {acc : List (Int × Int)} {x : Int} {x0 x3 : Option V} {xs : List (Option V)}
/-- found: a list of pairs at A -/
def Blk (H : Hp) (A : Addr) (acc : List (Int × Int)) : Prop := ∃ ts : List Addr, H A = some (.lst (ts.map V.ref)) ∧ Paired (TupAt H) ts acc
theorem Blk.last (b : Blk H A acc) {q : Int × Int} (e : acc.getLast? = some q) : ∃ (vs : List V) (t : Addr), H A = some (.lst vs) ∧ atI vs (-1) = some (.ref t) ∧ TupAt H t q := by
  obtain ⟨ts, h, pr⟩ := b
  obtain ⟨t, e2, r, _⟩ := paired_last2 pr e
  refine ⟨_, t, h, at_last ?_, r⟩
  rw [List.getLast?_map, e2]
  rfl
theorem blkT {D : Ends} {q : Int × Int} (b : Blk H A acc) (len : acc.length ≤ 200) (e : acc.getLast? = some q) (eq : q.1 + q.2 = x)
    (k : ∀ H', SameBut A H H' → Blk H' A (blkStep acc x) → D.nx (x0 :: some (.ref A) :: some (.int x) :: xs) H') : t_blkT K D (x0 :: some (.ref A) :: some (.int x) :: xs) H := by
  obtain ⟨vs, t, h, hl, ht⟩ := b.last e
  obtain ⟨ts, h', pr⟩ := b
  cases h.symm.trans h'
  have pos : 0 < acc.length := by
    cases acc with
    | nil => cases e
    | cons _ _ => exact Nat.succ_pos _
  have tl := paired_len pr
  have hA := SqL.of (K := K) h
  have T := SqT.of (K := K) ht
  refine ⟨_, rfl, _, rfl, A, _, -1, _, rfl, rfl, hA, hl, t, _, 0, _, rfl, rfl, T, rfl, ?_⟩
  refine ⟨_, rfl, _, rfl, A, _, -1, _, rfl, rfl, hA, hl, t, _, 1, _, rfl, rfl, T, rfl, _, _, rfl, rfl, sz (by show 2 ≤ 1000; decide), fun n hn => ?_⟩
  have s1 := same_new (o := .tup [.int q.1, .int (q.2 + 1)]) hn
  have N1 : TupAt (upd H n (.tup [.int q.1, .int (q.2 + 1)])) n (q.1, q.2 + 1) := upd_same
  show gSub _ _ _ _ _ (upd H n (.tup [.int q.1, .int (q.2 + 1)])) _
  generalize upd H n (.tup [.int q.1, .int (q.2 + 1)]) = H1 at s1 N1 ⊢
  have h1 := s1 _ _ h
  refine ⟨_, rfl, _, rfl, A, _, -1, acc.length - 1, rfl, rfl, h1, ?_, ?_⟩
  · rw [List.length_map, tl]
    unfold ixN
    rw [if_neg (by decide), if_pos (by omega)]
    congr 1
    omega
  · have st : blkStep acc x = acc.set (acc.length - 1) (q.1, q.2 + 1) := by
      unfold blkStep
      rw [e]
      exact if_pos eq
    refine k _ (fun a o ne z => (upd_ne ne).trans (s1 _ _ z)) ⟨ts.set (acc.length - 1) n, ?_, ?_⟩
    · rw [upd_same, List.map_set]
    · rw [st]
      have keep : ∀ {b : Addr} {p : Int × Int}, TupAt H1 b p → TupAt (upd H1 A (.lst ((ts.map V.ref).set (acc.length - 1) (.ref n)))) b p := fun {b p} z => (upd_ne (ne_of z h1 (by intro e; cases e))).trans z
      exact paired_set (paired_imp (fun _ _ z => keep (s1 _ _ z)) pr) (keep N1)
theorem blkE {D : Ends} (b : Blk H A acc) (len : acc.length ≤ 200) (no : ∀ q, acc.getLast? = some q → q.1 + q.2 ≠ x)
    (k : ∀ H', SameBut A H H' → Blk H' A (blkStep acc x) → D.nx (x0 :: some (.ref A) :: some (.int x) :: xs) H') : t_blkE K D (x0 :: some (.ref A) :: some (.int x) :: xs) H := by
  obtain ⟨ts, h, pr⟩ := b
  have tl := paired_len pr
  refine ⟨_, rfl, .inl ⟨rfl, _, SqL.of h⟩, _, rfl, sz (by show 2 ≤ 1000; decide), fun n hn => ?_⟩
  have s1 := same_new (o := .tup [.int x, .int 1]) hn
  have N1 : TupAt (upd H n (.tup [.int x, .int 1])) n (x, 1) := upd_same
  generalize upd H n (.tup [.int x, .int 1]) = H1 at s1 N1 ⊢
  have h1 := s1 _ _ h
  have st : blkStep acc x = acc ++ [(x, 1)] := by
    unfold blkStep
    split
    · rename_i q e
      exact if_neg (no q e)
    · rfl
  refine ⟨A, _, _, rfl, rfl, h1, ?_, ?_⟩
  · rw [List.length_map, tl]
    exact Nat.lt_of_le_of_lt len (by decide)
  refine k _ (fun a o ne z => (upd_ne ne).trans (s1 _ _ z)) ⟨ts ++ [n], ?_, ?_⟩
  · rw [upd_same, List.map_append]
    rfl
  · rw [st]
    have keep : ∀ {b : Addr} {p : Int × Int}, TupAt H1 b p → TupAt (upd H1 A (.lst (ts.map V.ref ++ [.ref n]))) b p := fun {b p} z => (upd_ne (ne_of z h1 (by intro e; cases e))).trans z
    exact paired_snoc (keep N1) (paired_imp (fun _ _ z => keep (s1 _ _ z)) pr)
end
end SR
set_option Elab.async false
set_option linter.all false
set_option maxRecDepth 100000
set_option maxHeartbeats 1000000
namespace SR
open PySem PySem.Spec PyProof.Rows L2
theorem Blk.same {H H' : Hp} {A : Addr} {acc : List (Int × Int)} (b : Blk H A acc) (s : Same H H') : Blk H' A acc := by
  obtain ⟨ts, h, pr⟩ := b
  exact ⟨ts, s _ _ h, paired_imp (fun _ _ z => s _ _ z) pr⟩
theorem Blk.sq {K : PySem.W.Frag} {H : Hp} {A : Addr} {acc : List (Int × Int)} (b : Blk H A acc) : ∃ xs, SqL K H A xs ∧ (!xs.isEmpty) = (!acc.isEmpty) := by
  obtain ⟨ts, h, pr⟩ := b
  refine ⟨_, SqL.of h, ?_⟩
  cases pr <;> rfl
/-- the body where there is a run, and where there is none -/
theorem blk_pos {K : PySem.W.Frag} {D : Ends} {H : Hp} {A : Addr} {acc : List (Int × Int)} {x : Int} {x0 : Option V} {xs : List (Option V)} (b : Blk H A acc) (len : acc.length ≤ 200) (ne : (!acc.isEmpty) = true)
    (k : ∀ H', SameBut A H H' → Blk H' A (blkStep acc x) → D.nx (x0 :: some (.ref A) :: some (.int x) :: xs) H') :
    t_blkC K (x0 :: some (.ref A) :: some (.int x) :: xs) H (fun c H1 => if c = true then t_blkT K D (x0 :: some (.ref A) :: some (.int x) :: xs) H1 else t_blkE K D (x0 :: some (.ref A) :: some (.int x) :: xs) H1) := by
  cases e : acc.getLast? with
  | none =>
    have := List.getLast?_eq_none_iff.mp e
    subst this
    cases ne
  | some q =>
    obtain ⟨vs, t, h, hl, ht⟩ := b.last e
    refine ⟨_, rfl, _, rfl, A, _, -1, _, rfl, rfl, SqL.of h, hl, t, [q.1, q.2], rfl, SqT.of ht, _, rfl, rfl, _, rfl, ?_⟩
    have sum : [q.1, q.2].sum = q.1 + q.2 := by simp
    by_cases z : q.1 + q.2 = x
    · have : decide (V.int [q.1, q.2].sum = V.int x) = true := decide_eq_true (by rw [sum, z])
      rw [this]
      exact iteT (blkT b len e z k)
    · have : decide (V.int [q.1, q.2].sum = V.int x) = false := decide_eq_false (by rw [sum]; intro y; cases y; exact z rfl)
      rw [this]
      exact iteF (blkE b len (fun q' e' => by rw [e] at e'; cases e'; exact z) k)
theorem blk_neg {K : PySem.W.Frag} {D : Ends} {H : Hp} {A : Addr} {acc : List (Int × Int)} {x : Int} {x0 : Option V} {xs : List (Option V)} (b : Blk H A acc) (len : acc.length ≤ 200) (ne : ¬(!acc.isEmpty) = true)
    (k : ∀ H', SameBut A H H' → Blk H' A (blkStep acc x) → D.nx (x0 :: some (.ref A) :: some (.int x) :: xs) H') : t_blkE K D (x0 :: some (.ref A) :: some (.int x) :: xs) H := by
  cases acc with
  | nil => exact blkE b len (fun q z => by cases z) k
  | cons _ _ => exact absurd rfl ne
def t_ruBody (K : PySem.W.Frag) : TS := (tIfS (tAnd ((fun σ H Q => tVar 1 σ H fun x H1 => ∃ k, TruV K x H1 k ∧ Q k H1)) (t_blkC K))
  (t_blkT K)
  (t_blkE K))
def t_runs_in (K : PySem.W.Frag) (c_Row : Addr) : TS := tSeq (tAsg (tLst (tNil)) (gName 1))
  (tSeq (tFor (iTup K (tProp c_Row (spContents K c_Row) [] E0 (tVar 0))) (gTup K 2 (gCons (gName 2) (gCons (gName 3) (gNil))))
  (t_ruBody K))
  (tRet (tVar 1)))
def spRunsIn (K : PySem.W.Frag) (C : Addr) : Sp := fun vs H Q _ => ∃ x ps ks, vs = [.ref x] ∧ RowAt K C H x ps ks ∧ ps.length ≤ 100 ∧ ∀ A H', H A = none → Same H H' → Blk H' A (blkOf (ps.map Prod.fst)) → Q (.ref A) H'
theorem pure_runs_in {K : PySem.W.Frag} {C : Addr} (vs : List V) (H : Hp) (Q : VK) (E : XK) (h : spRunsIn K C vs H Q E) : t_runs_in K C { nx := fun _ H' => Q .non H', rt := Q } (start ["row", "found", "index", "_"] vs) H := by
  obtain ⟨x, ps, ks, rfl, row, pl, q⟩ := h
  refine ⟨sz (Nat.zero_le _), fun s hs => ?_⟩
  have s1 := same_new (o := .lst []) hs
  have L1 : upd H s (.lst []) s = some (.lst []) := upd_same
  generalize upd H s (.lst []) = H1 at s1 L1 ⊢
  have row1 := row.same s1
  obtain ⟨dx, fs, hx, no1, no2⟩ := row1.ins
  refine ⟨_, rfl, x, dx, fs, rfl, hx, x, ps, ks, rfl, row1, fun c hc => ⟨c, rfl, ?_⟩⟩
  obtain ⟨ts0, bc, pc⟩ := hc
  refine ⟨⟨_, bc.sq⟩, ?_⟩
  refine for_it (walk_tup (K := K) (a := c) (xs := ts0.map V.ref)) (fun i σ H2 => SameBut s H1 H2 ∧ ∃ w2 w3, Blk H2 s (blkOf ((ps.take i).map Prod.fst)) ∧ σ = [some (.ref x), some (.ref s), w2, w3]) ⟨fun b o _ h => h, none, none, ⟨[], L1, .nil⟩, rfl⟩ ?_ ?_ ?_
  · rintro i σ H2 _ ⟨k2, _⟩
    refine Bare.sq ?_
    obtain ⟨o, a1, a2⟩ := bc
    exact ⟨o, k2 _ _ (fun z => by rw [z, L1] at a1; cases a1) a1, a2⟩
  · rintro i v2 σ H2 H3 hi ⟨k2, w2, w3, b, rfl⟩ ⟨rfl, hv2⟩
    rw [List.getElem?_map] at hv2
    obtain ⟨u, hu, rfl⟩ := Option.map_eq_some_iff.mp hv2
    obtain ⟨p, hp, hat⟩ := paired_at pc hu
    have at2 : TupAt H3 u p := k2 _ _ (fun z => by
      unfold TupAt at hat
      rw [z, L1] at hat
      cases hat) hat
    refine ⟨u, _, rfl, SqT.of at2, rfl, _, _, rfl, _, _, rfl, rfl, ?_⟩
    show t_ruBody K _ [some (.ref x), some (.ref s), some (.int p.1), some (.int p.2)] H3
    have tk : (ps.take (i + 1)).map Prod.fst = (ps.take i).map Prod.fst ++ [p.1] := by
      rw [List.take_succ, hp, List.map_append]
      rfl
    have len : (blkOf ((ps.take i).map Prod.fst)).length ≤ 200 := by
      have a := blkOf_len ((ps.take i).map Prod.fst)
      rw [List.length_map] at a
      have b : (ps.take i).length ≤ ps.length := by
        rw [List.length_take]
        exact Nat.min_le_right _ _
      omega
    obtain ⟨xs, sq, em⟩ := b.sq (K := K)
    refine ⟨_, rfl, _, .inl ⟨xs, sq, rfl⟩, ?_⟩
    rw [em]
    have fin : ∀ H', SameBut s H3 H' → Blk H' s (blkStep (blkOf ((ps.take i).map Prod.fst)) p.1) → SameBut s H1 H' ∧ ∃ w2 w3, Blk H' s (blkOf ((ps.take (i + 1)).map Prod.fst)) ∧ [some (.ref x), some (.ref s), some (.int p.1), some (.int p.2)] = [some (V.ref x), some (.ref s), w2, w3] := fun H' k' b' => ⟨k2.trans k', _, _, by rw [tk, blkOf_snoc]; exact b', rfl⟩
    cases ne : (!(blkOf ((ps.take i).map Prod.fst)).isEmpty) with
    | true => exact iteT (blk_pos b len ne fin)
    | false => exact iteF (iteF (blk_neg b len (by rw [ne]; exact Bool.false_ne_true) fin))
  · rintro σ H2 ⟨k2, w2, w3, b, rfl⟩
    have tl : (ts0.map V.ref).length = ps.length := by rw [List.length_map, paired_len pc]
    rw [tl, List.take_length] at b
    exact ⟨_, rfl, q s H2 hs (fun b o hb => k2 b o (ne_of_none hb hs) (s1 b o hb)) b⟩
def t_Row_is_plain (K : PySem.W.Frag) : TS := tRet (tNotT K (tFld K (tVar 0) "_capacities"))
def spIsPlain (K : PySem.W.Frag) (C : Addr) : Sp := fun vs H Q _ => ∃ x ps ks, vs = [.ref x] ∧ RowAt K C H x ps ks ∧ Q (.bl ks.isEmpty) H
theorem pure_is_plain {K : PySem.W.Frag} {C : Addr} (R : RowC K C) (vs : List V) (H : Hp) (Q : VK) (E : XK) (h : spIsPlain K C vs H Q E) : t_Row_is_plain K { nx := fun _ H' => Q .non H', rt := Q } (start ["self"] vs) H := by
  obtain ⟨x, ps, ks, rfl, ⟨dx, c, k, d, e, ps0, ks0, h1, h2, h3, h4⟩, q⟩ := h
  obtain ⟨ts, bc, pr⟩ := h3
  refine ⟨_, rfl, x, C, dx, _, _, rfl, h1, R.cls, R.n2, fl2 c k d e, _, .inr (.inl ⟨_, bc.sq, rfl⟩), ?_⟩
  have : (!(!(ts.map V.ref).isEmpty)) = ks.isEmpty := by cases pr <;> rfl
  rw [this]
  exact q
def t_is_plain_row (K : PySem.W.Frag) (c_Row : Addr) : TS := tRet (tAndV (tCB (rIsi K) (tCons (tVar 0) (tCons (tC (.ref c_Row)) tNil))) (tMeth c_Row "is_plain" (spIsPlain K c_Row) [] E0 (tVar 0) tNil))
def spPlainRow (K : PySem.W.Frag) (C : Addr) : Sp := fun vs H Q _ => ∃ x ps ks, vs = [.ref x] ∧ RowAt K C H x ps ks ∧ Q (.bl ks.isEmpty) H
theorem RowAt.insP {K : PySem.W.Frag} {C : Addr} {H : Hp} {x : Addr} {ps ks : List (Int × Int)} (h : RowAt K C H x ps ks) : ∃ dx fs, H x = some (.ins C dx fs) ∧ List.lookup ("is_plain" : Str) fs = none := by
  obtain ⟨dx, c, k, d, e, ps0, ks0, h1, _⟩ := h
  exact ⟨dx, _, h1, rfl⟩
theorem pure_plain_row {K : PySem.W.Frag} {C : Addr} (R : RowC K C) (Z : RowK K C) (vs : List V) (H : Hp) (Q : VK) (E : XK) (h : spPlainRow K C vs H Q E) : t_is_plain_row K C { nx := fun _ H' => Q .non H', rt := Q } (start ["value"] vs) H := by
  obtain ⟨x, ps, ks, rfl, row, q⟩ := h
  obtain ⟨dx, fs, h1, no⟩ := row.insP
  refine ⟨_, rfl, .ref x, .ref C, .ref C, .ref C, true, rfl, .own C, .base (.ins h1 R.cls Z.ha Z.hg Z.ht Z.hm), Z.kit, ?_⟩
  exact ⟨_, rfl, iteT ⟨_, rfl, x, dx, fs, rfl, h1, no, x, ps, ks, rfl, row, q⟩⟩
end SR
set_option Elab.async false
set_option linter.all false
set_option maxRecDepth 100000
set_option maxHeartbeats 4000000
namespace SR
open PySem PySem.Spec PyProof.Rows L2
section
variable {prog : Program} {w : World} {A : Around} {E : Value → Shared → Prop} {h : Heap} {g : Array GenState} {d : Drawn} {t : Nat} {os : OsState}
variable {nm qn : Str} {C N : Addr} {bs bm : List Value} {hdct : Bool} {sn : List Str} {sub : List Value} {ab : Bool} {col : Option Bool} {dd : Option Addr} {k0 k1 k2 k3 k5 : Option Value}
/-- the wrapper of ValueError's __init__, called -/
theorem sup_call {u e t0 : Addr} {us : List Value} {Q : Value → Shared → Prop} (hC : h.get? C = some (excClassObj nm qn C N bs bm hdct sn sub ab col dd k0 k1 k2 k3 k5 "ValueError.__new__"))
    (he : h.get? e = some (PySem.HandSPX.excO C t0)) (hu : h.get? u = some (PySem.W.kxs_mw "ValueError.__init__" e)) (hl : us.length ≤ sizeLine)
    (hq : ∀ h1 t1, (∀ b o, b ≠ e → h.get? b = some o → h1.get? b = some o) → h1.get? e = some (PySem.HandSPX.excO C t1) → Q .none ⟨h1, g, d, t, os⟩) : wpAny (model prog w) A (call (.ref u) us) Q E ⟨h, g, d, t, os⟩ := by
  refine wpAny_call (codeAny_of_tree ?_)
  show wpAny _ A.in1 (callAny (.ref u) ⟨us, []⟩) _ _ (⟨h, g, d, t, os⟩ : Shared)
  simp only [callAny]
  refine wpAny_bind (wpAny_load hu ?_)
  have z : (Value.type "method-wrapper" == Value.type "method" || Value.type "method-wrapper" == Value.type "builtin_function_or_method" || Value.type "method-wrapper" == Value.type "method-wrapper") = true := by decide
  simp only [PySem.W.kxs_mw, z, if_true]
  refine PySem.W.KFB.if_so (by decide) (wpAny_bind (PySem.W.check_bound_init F.excBase_ValueError.toExcCallFacts hC he rfl ?_))
  refine wpAny_bind (wpAny_pure (wpAny_pure ⟨plainId_quiet F.excBase_ValueError.init.plain _, codeAny_builtin F.excBase_ValueError.initEntry ?_⟩))
  exact PySem.W.exc_init_tree (cls := .ref C) (t0 := t0) (dv := none) (c2 := .none) (c3 := .none) (b4 := .bool false) he hl fun h1 k e1 _ => hq h1 _ k e1
end
/-- what the written part says of an error class D and of its __init__ at f: the def's cell cc, its code cda -/
structure SupC (P : Program) (K : PySem.W.Frag) (D f cc cda : Addr) (scope : Scope) (fld : Str) : Prop where
  T : OexC K D
  no : PySem.W.findIn K (.ref D) fld = some none
  al : PySem.W.ks_superIn K D D "__init__" = some (some (.builtin "ValueError.__init__"))
  sb : PySem.W.subIn K (.ref D) (.type "ValueError") = some true
  me : PySem.W.mroIn K D (.ref D) = some true
  tp : PySem.W.nsIn K cStatics "thirdparty.any" = some none
  file : ∃ oc od vs osl s tf, K.lookup cda = some ⟨oc, od, .fields vs, osl⟩ ∧ vs[2]? = some (.str s tf) ∧ ((P.main.file : Str) == s) = true
  cell : ∃ oc od osl, K.lookup cc = some ⟨oc, od, .cell (some (.ref D)), osl⟩
  top : (P.main.scope.names.lookup ("super" : Str)).isSome = false
/-- the context of such a def's body -/
def cxS (P : Program) (w : World) (K : PySem.W.Frag) (mg : Str → Option Value) (base : Heap) (N : List Str) (qual : Str) (scope : Scope) (f cda cc : Addr) (A : Around) (outer : List Env) (s : Shared) (H : Hp) (xe : Value → Shared → Prop) : Cx where
  prog := P
  w := w
  K := K
  mg := mg
  base := base
  A := A.deeper (PySem.W.ksEnv qual scope s.heap.objs.size f (.ref cda) cc)
  N := N
  s_0 := s
  H_0 := H
  env := PySem.W.ksEnv qual scope s.heap.objs.size f (.ref cda) cc
  outer := outer
  stack := PySem.W.ksEnv qual scope s.heap.objs.size f (.ref cda) cc :: outer
  ex := []
  calm := true
  fn := fun _ => false
  pn := []
  xe := xe
/-- the scope of such a def: two names of its own, its class, super -/
structure SupS (scope : Scope) (arg : Str) : Prop where
  kind : scope.kind = .function
  co : scope.isCoroutine = false
  gen : scope.isGenerator = false
  self_ : scope.names.lookup ("self" : Str) = some .local
  arg_ : scope.names.lookup arg = some .local
  cls : scope.names.lookup ("__class__" : Str) = some .free
  sup : scope.names.lookup ("super" : Str) = some .globalImplicit
  one : ∀ x ∈ scope.names, x.2 = .free → x.1 = "__class__"
  noc : ∀ x ∈ scope.names, x.2 ≠ .cell
  ne : (arg == ("self" : Str)) = false
section
variable {P : Program} {w : World} {K : PySem.W.Frag} {mg : Str → Option Value} {base : Heap} {qual arg fld : Str} {scope : Scope} {D f cda cc : Addr} {A : Around} {outer : List Env} {s : Shared} {H : Hp} {a : Addr} {y : V} {u : Value} {h1 : Heap} {n : Nat} {xe : Value → Shared → Prop}
theorem inv_sup (B : SupS scope arg) (S : SupC P K D f cc cda scope fld) (hd : A.handled = none) (e0 : Env0 P w K mg base A outer s H) (r : RelV y u)
    (hns : h1.Ns s.heap.objs.size (fun x => [(arg, u), ("self", Value.ref a)].lookup x)) (hk : ∀ b o, s.heap.get? b = some o → h1.get? b = some o) :
    Inv (cxS P w K mg base ["self", arg] qual scope f cda cc A outer s H xe) [] [some (.ref a), some y] H { s with heap := h1, toks := n } := by
  have KB := e0.mod.kin
  obtain ⟨oc, od, osl, lc⟩ := S.cell
  have hcc := KB _ _ lc
  have noA : ∀ b : Addr, b ∉ (cxS P w K mg base ["self", arg] qual scope f cda cc A outer s H xe).ex := fun b z => absurd (show b ∈ ([] : List Addr) from z) (by simp)
  have one : ∀ (x : Str) (c : Addr), ([("__class__", cc)] : List (Str × Addr)).lookup x = some c → x = "__class__" ∧ c = cc := fun x c e => by
    rw [List.lookup_cons] at e
    by_cases z : x = "__class__"
    · subst z
      rw [beq_self_eq_true] at e
      cases e
      exact ⟨rfl, rfl⟩
    · rw [beq_false_of_ne z] at e
      cases e
  refine ⟨⟨e0.mod, B.kind, rfl, rfl, Nat.le_refl _, fun x z c h2 h3 => ?_, fun x hx => ?_, fun x c z _ => ?_, fun _ => hd, Around.frames_deeper e0.frames, .inr ⟨rfl, rfl⟩, fun b z => absurd z (noA b), e0.bs, e0.bsz, fun b _ _ => noA b, fun b z => absurd z (noA b), e0.funs, e0.frf⟩,
    rfl, e0.bare, Un.kept hk, ⟨_, hns, fun i x v h2 h3 h4 => ?_⟩, fun x c h2 => ?_, e0.hok.fresh (Nat.le_refl _), fun x c h2 => ?_, fun p hp => absurd (show p ∈ ([] : List (Addr × Obj)) from hp) (by simp), e0.hok.kept hk, rfl⟩
  · rw [(one x c h2).1, (one z c h3).1]
  · have hx : scope.names.lookup x = some .cell ∨ scope.names.lookup x = some .free := hx
    rcases hx with hx | hx
    · exact absurd rfl (B.noc _ (PySem.mem_of_lookup hx))
    · have q : x = "__class__" := B.one _ (PySem.mem_of_lookup hx) rfl
      subst q
      exact ⟨cc, rfl⟩
  · exact absurd (show (false : Bool) = true from z) (by decide)
  · match i, h2, h3 with
    | 0, h2, h3 =>
      cases h2
      cases h3
      refine ⟨.ref a, rfl, .inl ⟨B.self_, ?_⟩⟩
      have q : (("self" : Str) == arg) = false := by
        have := B.ne
        rw [beq_eq_false_iff_ne] at this ⊢
        exact Ne.symm this
      show ([(arg, u), ("self", Value.ref a)] : List (Str × Value)).lookup ("self" : Str) = _
      rw [List.lookup_cons, q]
      rfl
    | 1, h2, h3 =>
      cases h2
      cases h3
      refine ⟨u, r, .inl ⟨B.arg_, ?_⟩⟩
      show ([(arg, u), ("self", Value.ref a)] : List (Str × Value)).lookup arg = _
      rw [List.lookup_cons, beq_self_eq_true]
    | i + 2, h2, h3 => cases h2
  · obtain ⟨rfl, rfl⟩ := one x c h2
    exact ⟨some (.ref D), _, hk _ _ (e0.bs _ _ hcc).1, rfl⟩
  · obtain ⟨rfl, rfl⟩ := one x c h2
    exact (e0.bs _ _ hcc).2
/-- what such a def promises: the field stands in the error's dict -/
def spSup (D : Addr) (fld : Str) : Sp := fun vs H Q _ => ∃ (a : Addr) (y : V), vs = [.ref a, y] ∧ H a = some (exo a D none) ∧ ∀ dx, H dx = none → dx ≠ a → Q .non (upd (upd H dx (exd dx [(fld, y)])) a (exo a D (some dx)))
variable {CX : CXT} {k : Nat} {name : Str} {params : Arguments} {dV kV doc pm ct oc : Value} {an od : Option Addr} {osl : Array (Option Value)} {txt : Str} {j : Const} {p0 p1 p2 p3 p4 p5 q0 q1 q2 q3 : Pos} {fa : Arg}
abbrev supBody (arg fld txt : Str) (jj : Nat) (p0 p1 p2 p3 p4 p5 q0 q1 q2 q3 : Pos) : List Stmt :=
  [.Expr (.Call (.Attribute (.Call (.Name "super" p0) [] [] p1) "__init__" p2) [.Constant (.str txt) jj p3] [] p4) p5, .Assign [.Attribute (.Name "self" q0) fld q1] (.Name arg q2) q3]
/-- how the call of super().__init__ is read: by the places of the text -/
def SupE (txt : Str) (jj : Nat) (p0 p1 p2 p3 p4 : Pos) : Prop := ∀ env : Env, ∃ pl : Sem Bool, eval (.Call (.Attribute (.Call (.Name "super" p0) [] [] p1) "__init__" p2) [.Constant (.str txt) jj p3] [] p4) env = (do
      let ov ← attributeBase (.Call (.Name "super" p0) [] [] p1) "__init__" env (eval (.Call (.Name "super" p0) [] [] p1) env)
      standAt p2.atName
      let (f, first) ← holding [ov] (getMethod ov "__init__" pl)
      callWith p4 f first (backTo p4 (starEach [.Constant (.str txt) jj p3] env)) [])
theorem fn_sup {jj : Nat} (he : SupE txt jj p0 p1 p2 p3 p4) (lk : K.lookup f = some ⟨oc, od, .func (PySem.W.ksFn name qual params (supBody arg fld txt jj p0 p1 p2 p3 p4 p5 q0 q1 q2 q3) scope dV kV doc pm an (.ref cda) ct cc), osl⟩) (hcd : PySem.W.codeIn K (.ref cda) qual = true)
    (B : SupS scope arg) (S : SupC P K D f cc cda scope fld) (hm : mg "super" = none) (hp : (params.posonlyargs ++ params.args).head? = some fa) (hfa : fa.arg = "self") (hdb : (arg == ("__debug__" : Str)) = false) (hdc : (arg == ("__classdict__" : Str)) = false) :
    FnOk P w K mg base CX (k + 1) f (PySem.W.ksFn name qual params (supBody arg fld txt jj p0 p1 p2 p3 p4 p5 q0 q1 q2 q3) scope dV kV doc pm an (.ref cda) ct cc) ["self", arg] (spSup D fld) := by
  refine ⟨fun vs H Q E ⟨a, y, e, _⟩ => by rw [e]; rfl, fun A outer s H args us vs Q E hr e0 hb r hsp => ?_⟩
  obtain ⟨a, y, rfl, ha, hq⟩ := hsp
  match us, r with
  | [_, u], .cons ra (.cons ry .nil) =>
  cases ra
  have KX : K.In s.heap := e0.mod.kin.keeps fun b o e => (e0.bs b o e).1
  have lim : s.heap.NoLimit := e0.mod.nolimit.keeps fun b o e => (e0.bs b o e).1
  have T := S.T
  obtain ⟨nm, qn, N, bs, bm, sn, sub, ab, col, dd, k0, k1, k2, k3, k5, hC, hbm⟩ := T.cls
  have hcl : PySem.W.clsIn K D = some { name := nm, bases := bs, mro := .ref D :: bm, ns := N, qualname := qn, hasDict := true, slotNames := sn, subclasses := sub, abstract := ab, collection := col, hasDel := false } := by unfold PySem.W.clsIn; rw [hC] <;> rfl
  have haD : a ≠ D := fun z => by
    have q := (e0.bs _ _ (e0.mod.kin _ _ hC)).2
    rw [← z, ha] at q
    cases q
  have hhd := hr.hd
  obtain ⟨hp0, g, d, t, os⟩ := s
  refine PySem.ks_codeAny_call_defAt (fd := PySem.W.ksFn name qual params (supBody arg fld txt jj p0 p1 p2 p3 p4 p5 q0 q1 q2 q3) scope dV kV doc pm an (.ref cda) ct cc) (body := supBody arg fld txt jj p0 p1 p2 p3 p4 p5 q0 q1 q2 q3) (binds := [("self", .ref a), (arg, u)])
    hr.depth (KX _ _ lk) rfl lim (PySem.W.codeRec_of KX hcd) rfl hb B.noc (fun x hx => ?_) (fun h1 hns hk => ?_) B.co B.gen B.kind
  · rcases List.mem_cons.mp hx with rfl | hx
    · exact B.self_
    · rcases List.mem_cons.mp hx with rfl | hx
      · exact B.arg_
      · cases hx
  have I0 : Inv (cxS P w K mg base ["self", arg] qual scope f cda cc A outer ⟨hp0, g, d, t, os⟩ H (fun e s' => wpAny (model P w) (A.deeper (PySem.W.ksEnv qual scope hp0.objs.size f (.ref cda) cc)) (leaving (PySem.W.ksEnv qual scope hp0.objs.size f (.ref cda) cc) e) (fun _ s'' => CR CX outer P w H ⟨hp0, g, d, t, os⟩ Q E (.error e) s'') (fun e' s'' => CR CX outer P w H ⟨hp0, g, d, t, os⟩ Q E (.error e') s'') s')) [] [some (.ref a), some y] H ⟨h1, g, d, t + 2, os⟩ := inv_sup (n := t + 2) B S hhd e0 ry hns hk
  obtain ⟨oc1, od1, vs1, osl1, s1, tf1, lcode, hvs, hfile⟩ := S.file
  obtain ⟨oc2, od2, osl2, lcell⟩ := S.cell
  have X1 : K.In h1 := I0.kIn
  have ho1 : ∃ t1 : Addr, h1.get? a = some (PySem.HandSPX.excO D t1) := exo_at I0.hok ha
  obtain ⟨t1, ho1⟩ := ho1
  obtain ⟨pl, he⟩ := he (PySem.W.ksEnv qual scope hp0.objs.size f (.ref cda) cc)
  refine PySem.ks_wpAt_execs_cons (PySem.ks_wpAt_Expr_any (hi := I0.quiet) (PySem.ks_wpAt_MethodCall (he := he) (PySem.ks_wpAt_super_base (env := PySem.W.ksEnv qual scope hp0.objs.size f (.ref cda) cc) (ar := fa) B.sup B.cls rfl rfl (X1 _ _ lk) rfl hp rfl (X1 _ _ lcode) rfl hvs hfile S.top ?_)))
  obtain ⟨mb, hb1, hb2⟩ := e0.mod.blt
  have bk1 : ∀ b o, base.get? b = some o → h1.get? b = some o := I0.bk
  refine PySem.W.ks_loadName_global B.kind B.sup (PySem.Calls.loadGlobal_builtin (env := PySem.W.ksEnv qual scope hp0.objs.size f (.ref cda) cc) (e0.mod.glob.keeps bk1) hm (hb1.keeps bk1) ((hb2 _ (by decide)).trans PyProof.Rows.Boot.«super») ⟨rfl, ?_⟩)
  refine wpAny_loadName_free B.kind B.cls rfl ⟨_, X1 _ _ lcell, rfl⟩ ?_
  rw [hfa]
  have hl1 : ([(arg, u), ("self", Value.ref a)] : List (Str × Value)).lookup ("self" : Str) = some (.ref a) := by
    have q : (("self" : Str) == arg) = false := by
      have := B.ne
      rw [beq_eq_false_iff_ne] at this ⊢
      exact Ne.symm this
    rw [List.lookup_cons, q]
    rfl
  refine PySem.wpAny_loadName_local B.kind B.self_ hns hl1 ?_
  refine PySem.ks_wpAny_isType_cls (X1 _ _ hC) rfl ⟨rfl, ?_⟩
  refine PySem.ks_wpAny_call_super (X1 _ _ hC) rfl ho1 rfl (fun c z => by cases z) (PySem.W.looks_mroIn X1 S.me) (fun h2 e2 k2 => ?_)
  have I2 := I0.kept (t' := t + 2) k2
  have X2 : K.In h2 := I2.kIn
  have ho2 := k2 _ _ ho1
  have at2 : PySem.W.InstAt h2 a (PySem.HandSPX.excO D t1) D none := ⟨ho2, rfl, rfl, trivial⟩
  have hal : PySem.W.alongIn K "__init__" (((Value.ref D :: bm).dropWhile (· != .ref D)).drop 1) = some (some (.builtin "ValueError.__init__")) := by
    have q := S.al
    unfold PySem.W.ks_superIn at q
    rw [hcl] at q
    exact q
  refine PySem.W.kxs_getMethod PySem.W.kxs_ValueError e2 (PySem.W.looks_opaque X2 S.tp) (l₀ := .ref D :: bm) ((PySem.W.looks_clsIn X2 hcl).andThen .now) rfl X2 hal (at2.type.andThen (PySem.W.looks_subIn X2 S.sb)) haD rfl ?_
  have k3 : ∀ b o, h2.get? b = some o → (h2.push (PySem.W.kxs_mw "ValueError.__init__" a)).get? b = some o := fun b o z => Heap.get?_push_of_some _ z
  have hu3 : (h2.push (PySem.W.kxs_mw "ValueError.__init__" a)).get? h2.objs.size = some (PySem.W.kxs_mw "ValueError.__init__" a) := Heap.get?_push_at rfl rfl
  have I3 := I2.kept (t' := t + 2 + 1) k3
  have fresh : H h2.objs.size = none := I2.hok.fresh (Nat.le_refl _)
  have nL : h2.objs.size ≠ hp0.objs.size := Nat.ne_of_gt I2.lt
  have nF := I2.nofs (a := h2.objs.size) (Nat.le_refl _)
  have nB : base.get? h2.objs.size = none := by
    cases z : base.get? h2.objs.size with
    | none => rfl
    | some o => exact absurd (Heap.lt_size (I2.bk _ _ z)) (Nat.lt_irrefl _)
  generalize h2.objs.size = ua at hu3 fresh nL nF nB ⊢
  generalize h2.push (PySem.W.kxs_mw "ValueError.__init__" a) = h3 at k3 hu3 I3 ⊢
  refine PySem.W.kxs_callWith1 (h₀ := base) (L := ua + 1) (news := [(ua, PySem.W.kxs_mw "ValueError.__init__" a)]) (x := a) (i := "ValueError.__init__") (fun p hp => ?_) (List.mem_singleton.mpr rfl) ?_
  · obtain rfl := List.mem_singleton.mp hp
    exact ⟨hu3, Nat.ne_of_lt (Nat.lt_succ_self _), nB⟩
  have J3 := I3.pins_of (pins' := [(ua, PySem.W.kxs_mw "ValueError.__init__" a)]) (fun p hp => by
    obtain rfl := List.mem_singleton.mp hp
    exact ⟨hu3, fresh, nL, nF, fun v z => by cases z⟩)
  refine thn ((pa_cons pe_str pa_nil).run p4 _ _ _ H (fun vs H' => vs = [.str txt] ∧ H' = H) J3 ⟨rfl, rfl⟩) fun us s4 hz => ?_
  obtain ⟨vs, H', J4, rv, rfl, rfl⟩ := hz
  obtain ⟨h4, g4, d4, t4, os4⟩ := s4
  have hu4 := (J4.pin (ua, PySem.W.kxs_mw "ValueError.__init__" a) (List.mem_singleton.mpr rfl)).1
  refine ⟨hu4, ?_⟩
  obtain ⟨t5, ho4⟩ := exo_at J4.hok ha
  have hlen : us.length ≤ sizeLine := by
    rw [← Paired.length rv, sizeLine_eq]
    show 1 ≤ _
    omega
  refine sup_call (J4.kIn _ _ hC) ho4 hu4 hlen fun h5 t6 k5' e5 => ?_
  have J5 := J4.write (t' := t4) (x := a) (e := a) (o := exo a D none) (by rw [ha]; exact True.intro) (.inl rfl) k5' ⟨_, e5⟩ (exo_ok e5)
  have eu : upd H' a (exo a D none) = H' := by
    funext b
    by_cases hb' : b = a
    · rw [hb', upd_same, ha]
    · rw [upd_ne hb']
  rw [eu] at J5
  refine wpAt_of_wpAny ?_
  refine thn ((pss_one (ps_ost (pe_var (i := 0) rfl (.inl B.self_)) (pe_var (i := 1) rfl (.inl B.arg_) hdb hdc))).run _ _ _ H' { nx := fun _ H'' => Q .non H'', rt := Q } J5 ⟨y, rfl, .ref a, rfl, a, D, rfl, T, S.no, .inl ⟨ha, fun dx n1 n2 => hq dx n1 n2⟩⟩) fun fl s6 hs => ?_
  cases fl with
  | ret v =>
    obtain ⟨v', σ', H6, J, rv', q⟩ := hs
    exact ⟨v', H6, J.os, J.bare, J.base, J.hok, rv', q⟩
  | next =>
    obtain ⟨σ', H6, J, q⟩ := hs
    exact ⟨.non, H6, J.os, J.bare, J.base, J.hok, rfl, q⟩
  | brk =>
    obtain ⟨_, _, _, q⟩ := hs
    exact False.elim q
  | cont =>
    obtain ⟨_, _, _, q⟩ := hs
    exact False.elim q
end
end SR
set_option Elab.async false
set_option linter.all false
set_option maxRecDepth 100000
set_option maxHeartbeats 4000000
namespace SR
open PySem PySem.Spec PyProof.Rows L2
/-- the getter of the class C's property f -/
def gAt (K : PySem.W.Frag) (C f : Str) : Addr := match PySem.W.recIn K (He.ma K (He.ga K C) f) "property" with
  | some (.ref g :: _) => g
  | _ => 0
def defAt (K : PySem.W.Frag) (g : Addr) : He.FnW := match K.lookup g with
  | some o => (match o.data with
    | .func fd => some (fd.name, fd.qualname, fd.params, fd.body, fd.scope, fd.globals, fd.closure, fd.builtins)
    | _ => none)
  | none => none
/-- a property: its class, its name, its getter -/
structure PropD where
  cls : Str
  f : Str
  d : He.DefD
def PropD.ok (K : PySem.W.Frag) (p : PropD) : Bool :=
  decide (PySem.W.findIn K (.ref (He.ga K p.cls)) p.f = some (some (.ref (He.ma K (He.ga K p.cls) p.f)))) &&
  (decide (PySem.W.specialIn K (.ref (He.ma K (He.ga K p.cls) p.f)) "__get__" = some (some (.builtin "property.__get__"))) &&
  (decide (PySem.W.takesIn K (.ref (He.ma K (He.ga K p.cls) p.f)) = some true) &&
  ((match PySem.W.recIn K (He.ma K (He.ga K p.cls) p.f) "property" with
    | some (.ref _ :: _) => true
    | _ => false) &&
  (PySem.W.keepIn K (.ref (gAt K p.cls p.f)) && (match K.lookup (gAt K p.cls p.f) with
    | some o => (match o.data with
      | .func fd => PySem.W.codeIn K fd.code p.d.qual && (He.dflB K fd.defaults [] && He.kwdB K fd.kwdefaults [])
      | _ => false)
    | none => false)))))
theorem PropD.of {K : PySem.W.Frag} {p : PropD} (e : defAt K (gAt K p.cls p.f) = p.d.val) (h : p.ok K = true) :
    PropOf K (He.ga K p.cls) p.f (He.ma K (He.ga K p.cls) p.f) (gAt K p.cls p.f) ∧ ∃ fd, FunD K p.d.name p.d.qual p.d.params p.d.body p.d.scope [] [] (gAt K p.cls p.f) fd := by
  unfold PropD.ok at h
  simp only [Bool.and_eq_true, decide_eq_true_eq] at h
  obtain ⟨h1, h2, h3, h4, h5, h6⟩ := h
  refine ⟨⟨h1, h2, h3, ?_⟩, ?_⟩
  · clear h6 h5 e
    unfold gAt
    generalize PySem.W.recIn K (He.ma K (He.ga K p.cls) p.f) "property" = r at h4 ⊢
    match r, h4 with
    | some (.ref g :: rest), _ => exact ⟨rest, rfl⟩
  · generalize gAt K p.cls p.f = g at *
    unfold defAt at e
    cases q : K.lookup g with
    | none =>
      rw [q] at h6
      cases h6
    | some o =>
      rw [q] at h6 e
      obtain ⟨oc, od, dt, osl⟩ := o
      cases dt with
      | func fd =>
        have h7 : (PySem.W.codeIn K fd.code p.d.qual && (He.dflB K fd.defaults [] && He.kwdB K fd.kwdefaults [])) = true := h6
        have e7 : (some (fd.name, fd.qualname, fd.params, fd.body, fd.scope, fd.globals, fd.closure, fd.builtins) : He.FnW) = p.d.val := e
        rw [Bool.and_eq_true, Bool.and_eq_true] at h7
        obtain ⟨b1, b2, b3⟩ := h7
        rcases fd with ⟨a1, a2, a3, a4, a5, a6, a7, a8, a9, a10, a11, a12, a13, a14, a15⟩
        unfold He.DefD.val at e7
        injection e7 with e7
        injection e7 with e1 e7
        injection e7 with e2 e7
        injection e7 with e3 e7
        injection e7 with e4 e7
        injection e7 with e5 e7
        injection e7 with e6 e7
        injection e7 with e8 e9
        dsimp only at e1 e2 e3 e4 e5 e6 e8 e9
        subst e1 e2 e3 e4 e5 e6 e8 e9
        exact ⟨_, ⟨oc, od, a8, a9, a10, a11, a12, a13, a14, osl, rfl, q, b1, He.dflB_ok b2, He.kwdB_ok b3⟩, h5⟩
      | _ => cases h6
abbrev AlP : Type := He.AlX × List He.FnW × Bool
end SR
set_option Elab.async false
set_option linter.all false
set_option maxRecDepth 100000
set_option maxHeartbeats 4000000
namespace SR
open PySem PySem.Spec PyProof.Rows L2
/-- raise C(v), C a class with the field fld -/
def tOutF (C : Addr) (E : XK) (fld : Str) (v : V) : TS := fun _ _ H => ∀ d, H d = none → E (.ref C) (some d) (upd H d (.xd [(fld, v)]))
def tMkC (C : Addr) (fld : Str) (v : V) : L2.St → Hp → XK → Prop := fun _ H Q => ∀ d, H d = none → Q (.ref C) (some d) (upd H d (.xd [(fld, v)]))
/-- a class of errors with the field fld that may be made by its name x -/
structure ErrM (P : Program) (w : World) (K : PySem.W.Frag) (mg : Str → Option Value) (base : Heap) (x : Str) (C : Addr) (fld arg : Str) : Prop where
  ex : ∃ (fI : Addr) (fd : FuncData), OexC K C ∧ PySem.W.findIn K (.ref C) "__init__" = some (some (.ref fI)) ∧ PySem.W.typeIn K (.ref fI) = some (.type "function") ∧ FnOk P w K mg base CX0 1 fI fd ["self", arg] (spSup C fld) ∧ Binds K fd ["self", arg] [] ∧ mg x = some (.ref C)
theorem pmk_err {X : Cx} {x fld arg txt : Str} {C : Addr} {j k : Nat} {p p1 pos : Pos} (M : ErrM X.prog X.w X.K X.mg X.base x C fld arg) (hr : Room k X.A) (hk : 2 ≤ k) (hg : Gl X x) (hdb : (x == ("__debug__" : Str)) = false := by decide) :
    PMk X (.Call (.Name x p) [.Constant (.str txt) j p1] [] pos) (tMkC C fld (.str txt)) := by
  obtain ⟨fI, fd, T, iC, tI, F1, hb, hm⟩ := M.ex
  intro pins s σ H Q I h
  refine pmk_oex (CX := CX0) (k := 1) (sp := spSup C fld) (dvs := []) (ds := []) (ps := ["self", arg]) T iC tI F1 (hr.mono hk) hb .nil pass0 hg hm (pa_cons pe_str pa_nil) hdb rfl rfl pins s σ H Q I ?_
  refine ⟨by show 1 ≤ 1000; decide, fun a ha => ⟨a, .str txt, rfl, upd_same, fun dx hdx hne => ⟨rfl, dx, [(fld, .str txt)], upd_same, ?_, ?_, ?_⟩⟩⟩
  · rw [upd_ne hne, upd_same]
  · rw [upd_ne hne] at hdx
    exact hdx
  · rw [upd_ne hne] at hdx
    have e : upd (del (upd (upd (upd H a (exo a C none)) dx (exd dx [(fld, .str txt)])) a (exo a C (some dx))) a) dx (.xd [(fld, .str txt)]) = upd H dx (.xd [(fld, .str txt)]) := by
      funext b
      by_cases h1 : b = dx
      · rw [h1, upd_same, upd_same]
      · rw [upd_ne h1, upd_ne h1]
        by_cases h2 : b = a
        · rw [h2, del_same, ha]
        · rw [del_ne h2, upd_ne h2, upd_ne h1, upd_ne h2]
    rw [e]
    exact h dx hdx
/-- the class's own object -/
def oexB (K : PySem.W.Frag) (C : Addr) : Bool := match K.lookup C with
  | some ⟨.type "type", _, .cls cd, sl⟩ => (match cd.mro, sl.toList with
    | .ref D :: bm, [_, _, _, _, some (.builtin n), _] => decide (D = C) && (decide (n = "ValueError.__new__") && (!cd.hasDel && (cd.hasDict && PySem.HandSPX.refsVE bm)))
    | _, _ => false)
  | _ => false
theorem oexB_ok {K : PySem.W.Frag} {C : Addr} (q : oexB K C = true) : ∃ nm qn N bs bm sn sub ab col dd k0 k1 k2 k3 k5, K.lookup C = some (excClassObj nm qn C N bs bm true sn sub ab col dd k0 k1 k2 k3 k5 "ValueError.__new__") ∧ PySem.HandSPX.refsVE bm = true := by
  unfold oexB at q
  split at q
  · rename_i dd cd sl ho
    split at q
    · rename_i C' bm k0 k1 k2 k3 n k5 hm hs
      simp only [Bool.and_eq_true, decide_eq_true_eq, Bool.not_eq_true'] at q
      obtain ⟨rfl, rfl, hdel, hdic, ht⟩ := q
      obtain ⟨nm, bs, mro, ns, qn, hd, sn, sb, ab, col, dl⟩ := cd
      dsimp only at hm hdel hdic
      subst hm hdel hdic
      have hsl : sl = #[k0, k1, k2, k3, some (.builtin "ValueError.__new__"), k5] := by
        obtain ⟨l⟩ := sl
        simp only at hs
        rw [hs]
      subst hsl
      exact ⟨nm, qn, ns, bs, bm, sn, sb, ab, col, dd, k0, k1, k2, k3, k5, ho, ht⟩
    · cases q
  · cases q
/-- an error class with one field: its name, the field, the parameter's name; its __init__; the file of the text -/
structure SupD where
  cls : Str
  fld : Str
  arg : Str
  params : Arguments
  body : List Stmt
  scope : Scope
  file : Str
abbrev SupW : Type := Option (Str × Str × Arguments × FuncBody × Scope × Addr × Addr)
def supAt (K : PySem.W.Frag) (f : Addr) : SupW := match K.lookup f with
  | some ⟨_, _, .func fd, _⟩ => some (fd.name, fd.qualname, fd.params, fd.body, fd.scope, fd.globals, fd.builtins)
  | _ => none
def SupD.f (K : PySem.W.Frag) (p : SupD) : Addr := He.ma K (He.ga K p.cls) "__init__"
def SupD.val (p : SupD) : SupW := some ("__init__", p.cls ++ ".__init__", p.params, .stmts p.body, p.scope, mainGlobals, builtinsNs)
def cellB (K : PySem.W.Frag) (C : Addr) (cl : List (Str × Addr)) (cd : Value) (file qual : Str) : Bool := match cl, cd with
  | [(n, cc)], .ref cda => decide (n = "__class__") && (PySem.W.codeIn K cd qual && ((match K.lookup cc with
      | some ⟨_, _, .cell (some (.ref D)), _⟩ => decide (D = C)
      | _ => false) && (match K.lookup cda with
      | some ⟨_, _, .fields vs, _⟩ => (match vs[2]? with
        | some (Value.str s _) => file == s
        | _ => false)
      | _ => false)))
  | _, _ => false
def SupD.ok1 (K : PySem.W.Frag) (p : SupD) (C f : Addr) : Bool :=
  oexB K C && (decide (PySem.W.findIn K (.ref C) "__setattr__" = some (some (.builtin "object.__setattr__"))) && (decide (PySem.W.subIn K (.ref C) (.type "BaseException") = some true) && (decide (PySem.W.typeIn K (.ref C) = some (.type "type")) &&
  (PySem.W.keepIn K (.ref C) && (decide (PySem.W.findIn K (.ref C) p.fld = some none) && (decide (PySem.W.ks_superIn K C C "__init__" = some (some (.builtin "ValueError.__init__"))) && (decide (PySem.W.subIn K (.ref C) (.type "ValueError") = some true) &&
  (decide (PySem.W.mroIn K C (.ref C) = some true) && (decide (PySem.W.nsIn K cStatics "thirdparty.any" = some none) && (decide (PySem.W.findIn K (.ref C) "__init__" = some (some (.ref f))) && (decide (PySem.W.typeIn K (.ref f) = some (.type "function")) && xfB K C)))))))))))
def SupD.ok2 (K : PySem.W.Frag) (p : SupD) (C f : Addr) : Bool := match K.lookup f with
  | some ⟨_, _, .func fd, _⟩ => (match fd.defaults with
    | .none => cellB K C fd.closure fd.code p.file (p.cls ++ ".__init__")
    | _ => false)
  | _ => false
/-- what the facts give -/
structure SupOf (K : PySem.W.Frag) (p : SupD) (C f : Addr) : Prop where
  xf : XfC K C
  no : PySem.W.findIn K (.ref C) p.fld = some none
  ex : OexC K C ∧ PySem.W.findIn K (.ref C) "__init__" = some (some (.ref f)) ∧ PySem.W.typeIn K (.ref f) = some (.type "function") ∧
    ∃ oc od osl kV doc pm an ct cc cda, K.lookup f = some ⟨oc, od, .func (PySem.W.ksFn "__init__" (p.cls ++ ".__init__") p.params p.body p.scope .none kV doc pm an (.ref cda) ct cc), osl⟩ ∧ PySem.W.codeIn K (.ref cda) (p.cls ++ ".__init__") = true ∧
      ∀ (P : Program), P.main.file = p.file → (P.main.scope.names.lookup ("super" : Str)).isSome = false → SupC P K C f cc cda p.scope p.fld
theorem SupD.of {K : PySem.W.Frag} {p : SupD} {C f : Addr} (e : supAt K f = p.val) (h1 : p.ok1 K C f = true) (h2 : p.ok2 K C f = true) : SupOf K p C f := by
  unfold SupD.ok1 at h1
  simp only [Bool.and_eq_true, decide_eq_true_eq] at h1
  obtain ⟨a1, a2, a3, a4, a5, a6, a7, a8, a9, a10, a11, a12, a13⟩ := h1
  have T : OexC K C := ⟨oexB_ok a1, a2, a3, a4, a5⟩
  refine ⟨xfB_ok a13, a6, T, a11, a12, ?_⟩
  unfold SupD.ok2 at h2
  unfold supAt at e
  cases q : K.lookup f with
  | none =>
    rw [q] at h2
    cases h2
  | some o =>
    obtain ⟨oc, od, dt, osl⟩ := o
    rw [q] at h2 e
    cases dt with
    | func fd =>
      obtain ⟨n1, n2, n3, n4, n5, n6, n7, n8, n9, n10, n11, n12, n13, n14, n15⟩ := fd
      have e2 : (some (n1, n2, n3, n4, n5, n6, n15) : SupW) = some (("__init__" : Str), p.cls ++ ".__init__", p.params, FuncBody.stmts p.body, p.scope, mainGlobals, builtinsNs) := e
      simp only [Option.some.injEq, Prod.mk.injEq] at e2
      obtain ⟨b1, b2, b3, b4, b5, b6, b8⟩ := e2
      subst b1 b2 b3 b4 b5 b6 b8
      cases n8 with
      | none =>
        have h3 : cellB K C n7 n13 p.file (p.cls ++ ".__init__") = true := h2
        unfold cellB at h3
        split at h3
        · rename_i n cc cda
          simp only [Bool.and_eq_true, decide_eq_true_eq] at h3
          obtain ⟨rfl, c1, c2, c3⟩ := h3
          refine ⟨oc, od, osl, n9, n10, n11, n12, n14, cc, cda, rfl, c1, fun P hf ht => ⟨T, a6, a7, a8, a9, a10, ?_, ?_, ht⟩⟩
          · split at c3
            · rename_i x1 x2 vs x4 hcda
              split at c3
              · rename_i s tf hvs
                exact ⟨_, _, vs, _, s, tf, hcda, hvs, by rw [hf]; exact c3⟩
              · cases c3
            · cases c3
          · split at c2
            · rename_i x1 x2 D x4 hcc
              have z : D = C := of_decide_eq_true c2
              subst z
              exact ⟨_, _, _, hcc⟩
            · cases c2
        · cases h3
      | _ => cases h2
    | _ => cases h2
/-- such a class may be made -/
theorem err_of {P : Program} {w : World} {K : PySem.W.Frag} {mg : Str → Option Value} {base : Heap} {p : SupD} {C f : Addr} {txt : Str} {jj : Nat} {p0 p1 p2 p3 p4 p5 q0 q1 q2 q3 : Pos} {fa : Arg} (S : SupOf K p C f) (hf : P.main.file = p.file) (ht : (P.main.scope.names.lookup ("super" : Str)).isSome = false)
    (hbody : p.body = supBody p.arg p.fld txt jj p0 p1 p2 p3 p4 p5 q0 q1 q2 q3) (he : SupE txt jj p0 p1 p2 p3 p4) (B : SupS p.scope p.arg) (hm : mg "super" = none) (hg : mg p.cls = some (.ref C)) (hp : (p.params.posonlyargs ++ p.params.args).head? = some fa) (hfa : fa.arg = "self")
    (hb : ∀ (kV doc pm : Value) (an : Option Addr) (cda cc : Addr) (ct : Value) (us : List Value), us.length = 2 → bindArgs (PySem.W.ksFn "__init__" (p.cls ++ ".__init__") p.params p.body p.scope .none kV doc pm an (.ref cda) ct cc) ⟨us, []⟩ = pure ((["self", p.arg] : List Str).zip us))
    (hdb : (p.arg == ("__debug__" : Str)) = false := by decide) (hdc : (p.arg == ("__classdict__" : Str)) = false := by decide) : ErrM P w K mg base p.cls C p.fld p.arg := by
  obtain ⟨cls, fld, arg, params, body, scope, file⟩ := p
  dsimp only at *
  obtain ⟨T, iC, tI, oc, od, osl, kV, doc, pm, an, ct, cc, cda, lk, hcd, hS⟩ := S.ex
  dsimp only at *
  subst hbody
  exact ⟨f, _, T, iC, tI, fn_sup he lk hcd B (hS P hf ht) hm hp hfa hdb hdc, .all (fun us hl => hb _ _ _ _ _ _ _ us hl), hg⟩
/-- an empty tuple of the written part -/
def emptyB (K : PySem.W.Frag) (a : Addr) : Bool := match K.lookup a with
  | some ⟨.type "tuple", none, .seq its _, _⟩ => its.isEmpty
  | _ => false
theorem emptyB_ok {K : PySem.W.Frag} {a : Addr} (h : emptyB K a = true) : BareK K a [] := by
  unfold emptyB at h
  split at h
  · rename_i its n sl hk
    have e : its = #[] := Array.isEmpty_iff.mp h
    subst e
    exact ⟨_, [], n, hk, rfl, rfl, rfl, Nat.zero_le _, .nil⟩
  · cases h
abbrev AlS : Type := AlP × List SupW × Bool
def frS (n : Nat) (g : Addr → Option Obj) : PySem.W.Frag := He.frT g (cStatics :: He.asD g n)
def obsS (n : Nat) (fa : List He.Fa) (fn : List He.DefD) (pr : List PropD) (su : List SupD) (ex : PySem.W.Frag → Bool) (g : Addr → Option Obj) : AlS :=
  (((He.obsT fa fn [] (frS n g), ex (frS n g)), pr.map fun p => defAt (frS n g) (gAt (frS n g) p.cls p.f), pr.all fun p => p.ok (frS n g)),
   su.map fun p => supAt (frS n g) (p.f (frS n g)), su.all fun p => p.ok1 (frS n g) (He.ga (frS n g) p.cls) (p.f (frS n g)) && p.ok2 (frS n g) (He.ga (frS n g) p.cls) (p.f (frS n g)))
def valS (fn : List He.DefD) (pr : List PropD) (su : List SupD) (w : World) : AlS := (((He.valT fn [] w, true), pr.map fun p => p.d.val, true), su.map fun p => p.val, true)
structure SaysS (fa : List He.Fa) (fn : List He.DefD) (pr : List PropD) (su : List SupD) (ex : PySem.W.Frag → Bool) (w : World) (K : PySem.W.Frag) : Prop where
  t : He.SaysT fa fn [] w K
  more : ex K = true
  p : ∀ p ∈ pr, PropOf K (He.ga K p.cls) p.f (He.ma K (He.ga K p.cls) p.f) (gAt K p.cls p.f) ∧ ∃ fd, FunD K p.d.name p.d.qual p.d.params p.d.body p.d.scope [] [] (gAt K p.cls p.f) fd
  s : ∀ p ∈ su, SupOf K p (He.ga K p.cls) (p.f K)
theorem saysS_of {n : Nat} {fa : List He.Fa} {fn : List He.DefD} {pr : List PropD} {su : List SupD} {ex : PySem.W.Frag → Bool} {w : World} {h : Heap} (e : obsS n fa fn pr su ex h.get? = valS fn pr su w) : SaysS fa fn pr su ex w (frS n h.get?) := by
  unfold obsS at e
  generalize frS n h.get? = K at e ⊢
  have e1 : He.obsT fa fn [] K = He.valT fn [] w := congrArg (fun z : AlS => z.1.1.1) e
  have e2 : ex K = true := congrArg (fun z : AlS => z.1.1.2) e
  have e3 : (pr.map fun p => defAt K (gAt K p.cls p.f)) = pr.map fun p => p.d.val := congrArg (fun z : AlS => z.1.2.1) e
  have e4 : (pr.all fun p => p.ok K) = true := congrArg (fun z : AlS => z.1.2.2) e
  have e5 : (su.map fun p => supAt K (p.f K)) = su.map fun p => p.val := congrArg (fun z : AlS => z.2.1) e
  have e6 : (su.all fun p => p.ok1 K (He.ga K p.cls) (p.f K) && p.ok2 K (He.ga K p.cls) (p.f K)) = true := congrArg (fun z : AlS => z.2.2) e
  refine ⟨e1, e2, fun p m => PropD.of (List.map_inj_left.mp e3 p m) (List.all_eq_true.mp e4 p m), fun p m => ?_⟩
  have z := List.all_eq_true.mp e6 p m
  rw [Bool.and_eq_true] at z
  exact SupD.of (List.map_inj_left.mp e5 p m) z.1 z.2
def hookS (n : Nat) (fa : List He.Fa) (fn : List He.DefD) (pr : List PropD) (su : List SupD) (ex : PySem.W.Frag → Bool) : PySem.W.Hook where
  α := AlS
  obs := fun s => obsS n fa fn pr su ex s.heap.get?
  val := fun w => valS fn pr su w
  says := fun w h => ∃ K : PySem.W.Frag, K.In h ∧ SaysS fa fn pr su ex w K
  of := fun _ _ e => ⟨_, He.frT_in, saysS_of e⟩
  keeps := fun _ _ _ ⟨K, hK, c⟩ k => ⟨K, PySem.W.Frag.In.keeps hK k, c⟩
theorem obsS_eq {n : Nat} {fa : List He.Fa} {fn : List He.DefD} {pr : List PropD} {su : List SupD} {ex : PySem.W.Frag → Bool} {g : Addr → Option Obj} {s : Shared} (h : ∀ a, g a = s.heap.get? a) : obsS n fa fn pr su ex g = (hookS n fa fn pr su ex).obs s := by
  have e : g = s.heap.get? := funext h
  subst e
  rfl
end SR
set_option Elab.async false
set_option linter.all false
set_option maxRecDepth 100000
set_option maxHeartbeats 4000000
namespace SR
open PySem PySem.Spec PyProof.Rows L2
/-- an error of the class cls that was caught, at a, its dict at d -/
def CauO (cls : Value) (d : Option Addr) (a : Addr) : HO := .ext fun h => ∃ (oe : Obj) (vs : Array Value), h.get? a = some oe ∧ Zc cls d oe ∧ oe.data = .fields vs
theorem cauO_ok {P : Program} {w : World} {H : Hp} {h : Heap} {a : Addr} {cls : Value} {d : Option Addr} {oe : Obj} {vs : Array Value} (e : h.get? a = some oe) (z : Zc cls d oe) (dd : oe.data = .fields vs) : ObjOk P w H h a (CauO cls d a) :=
  ⟨⟨oe, vs, e, z, dd⟩, ⟨oe, e⟩, fun _ _ ⟨oe1, vs1, e1, z1, d1⟩ k => ⟨oe1, vs1, k _ e1, z1, d1⟩⟩
section
variable {X : Cx} {pins : List (Addr × Obj)} {σ : L2.St} {H : Hp} {s : Shared}
theorem inv_track {a : Addr} {oe : Obj} {o : HO} (I : Inv (keepX X ((a, oe) :: (X.pn ++ pins))) [] σ H s) (ok : X.Ok) (n0 : X.s_0.heap.get? a = none) (ne : ∀ p ∈ X.pn ++ pins, p.1 ≠ a) (new : ObjOk X.prog X.w (upd H a o) s.heap a o) :
    Inv X pins σ (upd H a o) s := by
  obtain ⟨h1, hn, h3, h4, h5⟩ := I.pin (a, oe) (List.mem_append.mpr (.inl List.mem_cons_self))
  refine ⟨ok, I.os, I.bare, ⟨I.base.keep, I.base.slot, fun b ob q n hx => ?_, I.base.there, fun b xs q => ?_, fun b ob u q => ?_, fun b ps q => ?_⟩, I.loc, I.cell, ?_, fun x c hx => ?_, fun p hp => ?_, HOk.laidN I.hok (fun _ _ e => e) hn new, I.len⟩
  · rw [upd_ne (fun z => by rw [z] at q; exact nomatch (q.symm.trans n0))]
    exact I.base.free b ob q n hx
  · have := I.base.tups b xs q
    rw [upd_ne (ne_of_none this hn)]
    exact this
  · have := I.base.frzs b ob u q
    rw [upd_ne (ne_of_none this hn)]
    exact this
  · obtain ⟨more, this⟩ := I.base.tbls b ps q
    refine ⟨more, ?_⟩
    rw [upd_ne (ne_of_none this hn)]
    exact this
  · rw [upd_ne (fun z => h3 z.symm)]
    exact I.free
  · obtain ⟨v, hv⟩ := I.cell x c hx
    rw [upd_ne (fun z => ?_)]
    · exact I.freeC x c hx
    · obtain ⟨ob, q, dd⟩ := hv
      rw [z] at q
      cases q.symm.trans h1
      exact h5 _ dd
  · obtain ⟨p1, p2, p3, p4, p5⟩ := I.pin p (List.mem_append.mpr (.inl (List.mem_cons_of_mem _ hp)))
    exact ⟨p1, (upd_ne (ne p hp)).trans p2, p3, p4, p5⟩
end
/-- what is wished of an error of the body: i the clause's own name, j the name that keeps it -/
def wKeepH (K : PySem.W.Frag) (c : Value) (i j : Nat) (Wout : WX) (D : Ends) : WX := fun cls d σ H =>
  ∃ b, PySem.W.exmOne K cls c = some b ∧ (b = true → ∀ a, H a = none → D.nx (((σ.set i (some (.ref a))).set j (some (.ref a))).set i none) (upd H a (CauO cls d a))) ∧ (b = false → Wout cls d σ H)
section
variable {X : Cx} {x n y : Str} {c : Value} {i j : Nat} {body : List Stmt} {np n2 yp ap pos pos' : Pos} {tb : WX → TS} {Wout : WX}
theorem ps_try_keepH (hs : X.stack = X.env :: X.outer) (hf : X.env.frame = some X.env.locals) (hx : X.ex = []) (hN : X.N.Nodup) (hi : X.N[i]? = some n) (hln : X.env.kindOf n = some .local) (hj : X.N[j]? = some y) (hly : X.env.scope.names.lookup y = some .local)
    (hc : Names X x c) (tk : Takes X Wout)
    (hb : ∀ (W : WX) (pn : List (Addr × Obj)) (xe : Value → Shared → Prop), Takes (X.tr pn xe) W → PassesOwn (model X.prog X.w) X.A X.env xe → PSs (X.tr pn xe) body (tb W))
    (hsw : ∀ (a : Addr) (pn : List (Addr × Obj)), swapsWith (.Name n n2) (some (.Name y yp)) ap.line (X.suite a pn).env = pure false)
    (hd1 : (n == ("__debug__" : Str)) = false := by decide) (hd2 : (n == ("__classdict__" : Str)) = false := by decide) :
    PS X (.Try body [.ExceptHandler (some (.Name x np)) (some n) [.Assign [.Name y yp] (.Name n n2) ap] pos'] [] [] pos) (fun D σ H => tb (wKeepH X.K c i j Wout D) D σ H) := by
  refine ⟨fun pins s σ H D I h => ?_⟩
  have ok := I.ok
  have hfr : X.A.frames = some (X.env :: X.outer) := ok.frames.trans (by rw [hs])
  have hloc : Loc X.env.scope n := .inl hln
  let G : Flow → Shared → Prop := fun f s1 => SP X pins D f s1
  show wpAny (model X.prog X.w) X.A _ G X.xe s
  refine wpAny_Try_except ?_
  refine wpAny_mono ((hb (wKeepH X.K c i j Wout D) (X.pn ++ pins) (fun e s₁ => wpAny (model X.prog X.w) X.A (noteFrame e X.env) (fun _ s₂ => wpAny (model X.prog X.w) X.A (setFlight e none) (fun _ s₃ =>
    wpAny (model X.prog X.w) X.A (handleBy e X.env [.ExceptHandler (some (.Name x np)) (some n) [.Assign [.Name y yp] (.Name n n2) ap] pos']) G X.xe s₃) X.xe s₂) X.xe s₁) (fun w0 s' xx => ?_) PassesOwn.looking).run [] s σ H D (I.toTry _) h) (fun f s1 hsp => ?_) (fun _ _ he => he)
  · obtain ⟨a, B, sI, pins', σ', H', cls, d, rfl, J', nb, up, sky, na, os, ag, b, hb1, hyes, hno⟩ := xx
    have J : Inv X pins σ' H' sI := J'.ofTry ok
    have sky' : Sky B (X.env :: X.outer) a (Zc cls d) X.env.locals s'.heap := by rw [← hs]; exact sky
    show wpAny (model X.prog X.w) X.A (noteFrame (.ref a) X.env) _ _ _
    refine Sky.land Zc.steady hfr hf sky' fun h3 fl3 up3 => ?_
    have J3 : Inv X pins σ' H' { s' with heap := h3 } := J.landed nb fl3.1 (up.trans up3) os ag
    obtain ⟨oe3, vs3, he3, hz3, hd3⟩ := fl3.there
    have nfr : a ∉ frs (X.env :: X.outer) := fun hm => by
      obtain ⟨_, o', e', hnf⟩ := fl3.2.2.1.mem hm
      cases he3.symm.trans e'
      exact hnf _ hd3
    have nI : sI.heap.get? a = none := by
      cases e : sI.heap.get? a with
      | none => rfl
      | some o =>
        have := nb a o e (by rw [hs]; exact nfr)
        rw [fl3.2.1] at this
        cases this
    have n0 : X.s_0.heap.get? a = none := by
      cases e : X.s_0.heap.get? a with
      | none => rfl
      | some o =>
        obtain ⟨o', q⟩ := J.base.there a o e (by rw [hx]; exact List.not_mem_nil)
        rw [nI] at q
        cases q
    have ne : ∀ p ∈ X.pn ++ pins, p.1 ≠ a := fun p hp z => by
      have := (J.pin p hp).1
      rw [z, nI] at this
      cases this
    have nL : a ≠ X.env.locals := fun z => nfr (List.mem_filterMap.mpr ⟨X.env, List.mem_cons_self, hf.trans (by rw [z])⟩)
    have nF : a ∉ X.fs := fun hm => by
      obtain ⟨e, he, q⟩ := List.mem_filterMap.mp hm
      exact nfr (List.mem_filterMap.mpr ⟨e, List.mem_cons_of_mem _ he, q⟩)
    have S3 := J3.suite he3 hd3 na nL nF
    refine wpAny_handleBy_cons (codeAny_handlers_test ?_) (by intro q; cases q)
    have LT : PySem.W.Looks (model X.prog X.w) h3 (typeOf (.ref a)) cls := fun A Q E s k q => wpAny_typeOf_ref (k _ _ he3) (by rw [hz3.1]; exact q)
    have LM := PySem.W.exm_one (M := model X.prog X.w) (J3.kIn) LT hb1
    have test : ∀ {Q : Value → Shared → Prop} {E : Value → Shared → Prop}, Q c { s' with heap := h3 } → wpAny (model X.prog X.w) (X.A.mark (some (.ref a))) (eval (.Name x np) X.env) Q E { s' with heap := h3 } := fun {Q E} q => by
      obtain ⟨hg, hdbg, hm | ⟨hm, hvv, hnn⟩⟩ := hc
      · exact ld_glob (X := X.suite a ((a, oe3) :: (X.pn ++ pins))) S3 hg hm q hdbg
      · exact ld_blt (X := X.suite a ((a, oe3) :: (X.pn ++ pins))) S3 hg hm hvv q hnn hdbg
    refine test (LM.here ?_)
    cases b with
    | true =>
      refine codeAny_handlers_suite_as ?_
      refine HandSPX.lands_againZ fl3 fun h4 fl4 up4 => ?_
      have J4 : Inv X pins σ' H' { s' with heap := h4 } := J.landed nb fl4.1 ((up.trans up3).trans up4) os ag
      obtain ⟨oe4, vs4, he4, hz4, hd4⟩ := fl4.there
      have S4 := J4.suite he4 hd4 na nL nF
      refine store_ok (X := X.suite a ((a, oe4) :: (X.pn ++ pins))) (v := .ref a) S4 hN hi hloc rfl (fun s5 S5 => ?_) (.inr hln)
      have hil : i < (σ'.set i (some (V.ref a))).length := by
        rw [S5.len]
        exact (List.getElem?_eq_some_iff.mp hi).1
      have D0 : PSs (X.suite a ((a, oe4) :: (X.pn ++ pins))) [.Assign [.Name y yp] (.Name n n2) ap] (tAsg (tVar i) (gName j)) :=
        pss_one (ps_set (i := j) hN hj (.inl hly) (pe_var hi (.inl hln) hd1 hd2) (hsw _ _) (.inr hly))
      refine wpAny_mono (D0.run [] s5 _ H' { nx := fun σ6 H6 => D.nx (σ6.set i none) (upd H6 a (CauO cls d a)), rt := fun _ _ => False, bk := fun _ _ => False, ct := fun _ _ => False } S5 ?_) (fun f s6 hsp => ?_) (fun _ _ z => False.elim z)
      · refine ⟨.ref a, ?_, hyes rfl a na⟩
        rw [List.getElem?_set_self (by simpa using hil)]
      cases f with
      | next =>
        obtain ⟨σ6, H6, S6, q6⟩ := hsp
        exact gone_ok (X := keepX X ((a, oe4) :: (X.pn ++ pins))) (inv_keep S6 ok) hN hi hln fun s7 J7 => by
          have p7 := (J7.pin (a, oe4) (List.mem_append.mpr (.inl List.mem_cons_self))).1
          exact ⟨_, _, inv_track J7 ok n0 ne (cauO_ok p7 hz4 hd4), q6⟩
      | brk => exact hsp.elim fun _ z => z.elim fun _ z => z.2.elim
      | cont => exact hsp.elim fun _ z => z.elim fun _ z => z.2.elim
      | ret w => exact hsp.elim fun _ z => z.elim fun _ z => z.elim fun _ z => z.2.2.elim
    | false =>
      show wpAny _ X.A (handleBy (.ref a) X.env []) _ _ _
      refine wpAny_handleBy_nil ?_
      obtain ⟨k1, k2, k3, oe, vs, T, oT, ts', he, hz, hd, h1, hr⟩ := id fl3
      unfold PySem.passOn
      refine wpAny_bind (wpAny_field he hd h1 ?_)
      rw [if_neg (show ¬ ((Value.ref T == Value.none) = true) from by simp)]
      have fin : wpAny (model X.prog X.w) X.A (setFlight (.ref a) X.env.frame) (fun _ s4 => wpAny (model X.prog X.w) X.A (throw (.ref a) : Sem Flow) G X.xe s4) X.xe { s' with heap := h3 } := by
        rw [hf]
        refine HandSPX.setFlight_upZ fl3 fun h4 hh4 up4 => wpAny_throw (tk _ _ ?_)
        exact ⟨a, B, sI, pins, σ', H', cls, d, rfl, J, nb, (up.trans up3).trans up4, .inr (.inr (by rw [hs]; exact hh4)), na, os, ag, hno rfl⟩
      first
        | exact wpAny_bind (wpAny_pure (wpAny_bind fin))
        | exact wpAny_bind fin
  · cases f with
    | next =>
      obtain ⟨σ', H', J', q⟩ := hsp
      exact wpAny_execs_nil ⟨σ', H', J'.ofTry ok, q⟩
    | brk =>
      obtain ⟨σ', H', J', q⟩ := hsp
      exact ⟨σ', H', J'.ofTry ok, q⟩
    | cont =>
      obtain ⟨σ', H', J', q⟩ := hsp
      exact ⟨σ', H', J'.ofTry ok, q⟩
    | ret u =>
      obtain ⟨v, σ', H', J', r, q⟩ := hsp
      exact ⟨v, σ', H', J'.ofTry ok, r, q⟩
/-- isinstance(caught, C), where the error's object is tracked -/
def rIsH (K : PySem.W.Frag) : List V → Hp → VK → Prop := fun xs H Q => ∃ (a D : Addr) (c : V) (cv : Value) (b : Bool), H a = some (CauO (.ref D) none a) ∧ ExcC K D ∧ xs = [.ref a, c] ∧ (∀ u, RelV c u → u = cv) ∧ PySem.W.kitOne K (.ref D) cv = some b ∧ Q (.bl b) H
theorem cr_isH : CallR X (.builtin "isinstance") (rIsH X.K) := by
  intro pins s σ H xs us Q I r h
  obtain ⟨a, D, c, cv, b, ha, C, rfl, hcv, e, q⟩ := h
  obtain ⟨u1, u2, rfl, r1, r2⟩ := vals2 r
  cases (show u1 = Value.ref a from r1)
  cases hcv _ r2
  have x : ObjOk X.prog X.w H s.heap a (CauO (.ref D) none a) := I.hok a _ ha
  obtain ⟨⟨oe, vs, here, hz, hv⟩, _⟩ := x
  have J : PySem.W.InstAt s.heap a oe D none := by
    obtain ⟨h1, h2⟩ := hz
    obtain ⟨oc, od, oda, osl⟩ := oe
    cases h1; cases h2; cases hv
    exact ⟨here, rfl, rfl, trivial⟩
  exact PySem.W.kia_one (PySem.W.handS_kitx_exc C.hg C.hk C.hs C.hd C.ha C.hn C.ht C.hm) I.kIn J e (fun z => nomatch z) fun tk => ⟨.bl b, H, I.tok tk, rfl, q⟩
end
end SR
set_option Elab.async false
set_option linter.all false
set_option maxRecDepth 100000
set_option maxHeartbeats 4000000
namespace SR
open PySem PySem.Spec PyProof.Rows L2
section
open PySem.W
variable {prog : Program} {w : World} {A : Around} {E : Value → Shared → Prop} {st : Shared} {K : Frag} {e D : Addr} {oe oz : Obj}
/-- type(e), by the attribute, of an error that has its dict -/
theorem cls_excD {Q : Option Value → Shared → Prop} (Z : ExcC K D) (X : K.In st.heap) (I : InstAt st.heap e oe D (some oz)) (h : Q (some (.ref D)) { st with toks := st.toks + 1 }) : wpAny (model prog w) A (getAttr? (.ref e) "__class__") Q E st := by
  have hcl : ∃ cd, clsIn K D = some cd := let ⟨cd, hc, _⟩ := any_some Z.hd; ⟨cd, hc⟩
  obtain ⟨cd, hcl⟩ := hcl
  have fnd : findObj K D (some oz) "__class__" = some (.bind (.builtin "getset_descriptor.__get__") (.builtin "object.__class__")) := by
    unfold findObj
    rw [hcl, Option.bind_some, Z.ha, Option.bind_some]
    simp [Z.hn, Z.ht]
  obtain ⟨hq, g, d, t, os⟩ := st
  have T0 := I.type (M := model prog w)
  have T1 := looks_findIn (M := model prog w) X Z.hg
  have T2 := looks_findIn (M := model prog w) X Z.hk
  have T3 := looks_find (M := model prog w) X I fnd
  have isx : Looks (model prog w) hq (isInstance (.ref e) (.type "BaseException")) true := T0.andThen (looks_subIn X Z.hs)
  have y2 : (Value.builtin "BaseException.__getattribute__" == Value.builtin "object.__getattribute__") = false := by decide +kernel
  have y1 : (onTheHeap (Value.ref D) && Value.builtin "BaseException.__getattribute__" == Value.builtin "object.__getattribute__") = false := by
    rw [y2]
    rfl
  unfold getAttr?
  unfold getAttrBy?
  unfold getAttrBy
  refine wpAny_bind (wpAny_mkText (wpAny_bind (wpAny_attempt (wpAny_holding (wpAny_bind (T0.at (wpAny_bind (T1.at ?_))))))))
  show wpAny _ _ (if (onTheHeap (Value.ref D) && Value.builtin "BaseException.__getattribute__" == Value.builtin "object.__getattribute__") = true then _ else _) _ _ (⟨hq, g, d, _, os⟩ : Shared)
  rw [y1, if_neg (by decide)]
  unfold getAttrByItsOwn
  unfold hookBefore
  refine wpAny_bind ?_
  rw [if_pos (show onTheHeap (Value.ref D) = true from rfl)]
  refine T2.at (wpAny_bind (wpAny_attempt (wpAny_holding ?_)))
  unfold callGetattribute
  rw [show (false && onTheHeap (Value.builtin "BaseException.__getattribute__")) = false from rfl, if_neg (by decide)]
  unfold boundAndCalled
  rw [PySem.F.excAttr_ValueError.ga.bind (.ref e)]
  refine wpAny_bind (wpAny_pure ?_)
  show wpAny _ _ (call (.builtin "BaseException.__getattribute__") [.ref e, .str "__class__" t]) _ _ (⟨hq, g, d, _, os⟩ : Shared)
  refine wpAny_call (codeAny_call_builtin PySem.F.excAttr_ValueError.ga.plain PySem.F.entry_bexc_ga ?_)
  refine @check_slot (model prog w) _ _ ⟨hq, g, d, t + 1, os⟩ "BaseException.__getattribute__" "BaseException" "__getattribute__" (.ref e) [.str "__class__" t] [] _ (by decide +kernel) (by decide +kernel) isx (PySem.F.args_bexc_ga (.ref e) (.str "__class__" t)) ?_
  unfold Builtin.«object.__getattribute__»
  refine wpAny_bind (wpAny_of_eq (a := ((Value.ref e : Value), [Value.str "__class__" t])) (by first | rfl | (simp only [slotArgs]; rfl)) ?_)
  refine wpAny_bind (wpAny_pure (wpAny_bind (T0.at (wpAny_bind (T3.at ?_)))))
  show wpAny _ _ (holding [Value.builtin "object.__class__"] (call (.builtin "getset_descriptor.__get__") [.builtin "object.__class__", .ref e, .ref D]) >>= ret) _ _ (⟨hq, g, d, _, os⟩ : Shared)
  refine wpAny_bind (wpAny_holding (wpAny_call (class_get (s := ⟨hq, g, d, t + 1, os⟩) (ox := oe) (od := some oz) X I Z.hm ?_)))
  refine wpAny_pure ?_
  show wpAny _ _ (handedOut (.ref D)) _ _ (⟨hq, g, d, _, os⟩ : Shared)
  rw [handedOut_of (v := .ref D) rfl]
  first
    | exact wpAny_pure (wpAny_pure h)
    | exact wpAny_pure h
    | exact wpAny_pure (wpAny_bind (wpAny_pure (wpAny_pure h)))
theorem kit_excD (Z : ExcC K D) : KitX K (.ref e) (.ref D) (fun h => InstAt h e oe D (some oz)) := by
  have Z0 := handS_kitx_exc (x := e) (ox := oe) Z.hg Z.hk Z.hs Z.hd Z.ha Z.hn Z.ht Z.hm
  exact {
    ty := fun _ _ _ I => I.type
    it := fun M h X _ => by
      obtain ⟨cd, hc, _⟩ := any_some Z.hd
      unfold clsIn at hc
      split at hc
      · rename_i c' d' cd' sl' ho
        intro A' Q' E' s' k q
        unfold isType
        unfold loadHead
        exact wpAny_bind (wpAny_loadPart (k _ _ (X _ _ ho)) (wpAny_pure q))
      · cases hc
    ne := Z0.ne
    ca := fun X I k => cls_excD Z X I k }
end
section
variable {X : Cx}
/-- isinstance(caught, C), where the error's object is tracked and has a dict -/
def rIsHD (K : PySem.W.Frag) : List V → Hp → VK → Prop := fun xs H Q => ∃ (a D d : Addr) (fs : List (Str × V)) (c : V) (cv : Value) (b : Bool), H a = some (CauO (.ref D) (some d) a) ∧ H d = some (.xd fs) ∧ ExcC K D ∧ xs = [.ref a, c] ∧ (∀ u, RelV c u → u = cv) ∧ PySem.W.kitOne K (.ref D) cv = some b ∧ Q (.bl b) H
theorem cauD_at {pins : List (Addr × Obj)} {σ : L2.St} {H : Hp} {s : Shared} {a D d : Addr} {fs : List (Str × V)} (I : Inv X pins σ H s) (ha : H a = some (CauO (.ref D) (some d) a)) (hd : H d = some (.xd fs)) :
    ∃ (oe od : Obj) (mA : Str → Option Value), PySem.W.InstAt s.heap a oe D (some od) ∧ s.heap.Ns1 d mA ∧ (∀ f, RelO (fs.lookup f) (mA f)) ∧ (∀ n, PySem.W.lookIn n od = some (mA n)) := by
  have x : ObjOk X.prog X.w H s.heap a (CauO (.ref D) (some d) a) := I.hok a _ ha
  obtain ⟨⟨oe, vs, here, hz, hv⟩, _⟩ := x
  have y : ObjOk X.prog X.w H s.heap d (.xd fs) := I.hok d _ hd
  obtain ⟨mA, hns, hr⟩ := y
  obtain ⟨od, ho, hl⟩ := lookIn_ns hns
  obtain ⟨h1, h2⟩ := hz
  refine ⟨oe, od, mA, ⟨here, h1, by unfold PySem.W.notCls; rw [hv] <;> rfl, by rw [h2]; exact ho⟩, hns, hr, ?_⟩
  exact fun n => by first | exact hl n | exact hl
theorem cr_isHD : CallR X (.builtin "isinstance") (rIsHD X.K) := by
  intro pins s σ H xs us Q I r h
  obtain ⟨a, D, d, fs, c, cv, b, ha, hd, C, rfl, hcv, e, q⟩ := h
  obtain ⟨u1, u2, rfl, r1, r2⟩ := vals2 r
  cases (show u1 = Value.ref a from r1)
  cases hcv _ r2
  obtain ⟨oe, od, mA, J, _⟩ := cauD_at I ha hd
  exact PySem.W.kia_one (kit_excD C) I.kIn J e (fun z => nomatch z) fun tk => ⟨.bl b, H, I.tok tk, rfl, q⟩
/-- caught.f -/
def tXfH (K : PySem.W.Frag) (f : Str) (te : TE) : TE := fun σ H Q => te σ H fun x H1 => ∃ (a C d : Addr) (fs : List (Str × V)) (v : V), x = .ref a ∧ XfC K C ∧ PySem.W.findIn K (.ref C) f = some none ∧ H1 a = some (CauO (.ref C) (some d) a) ∧ H1 d = some (.xd fs) ∧ fs.lookup f = some v ∧ Q v H1
theorem pe_xfH {e : Expr} {te : TE} {pos : Pos} {n : Str} (he : PE X e te) (hb : attributeBase e n X.env (eval e X.env) = eval e X.env := by rfl) : PE X (.Attribute e n pos) (tXfH X.K n te) := by
  refine ⟨fun pins s σ H Q I h => ?_⟩
  refine attr_of hb (thn (he.run pins s σ H _ I h) fun u s1 hh => ?_)
  obtain ⟨x, H1, I1, rx, a, C, d, fs, v, rfl, T, hno, ha, hd, l, q⟩ := hh
  obtain rfl : u = Value.ref a := rx
  obtain ⟨oe, od, mA, J, hns, hr, hl⟩ := cauD_at I1 ha hd
  obtain ⟨u, hu, ru⟩ := RelO.some_of (v := v) (o := mA n) (by rw [← l]; exact hr n)
  exact HandSPX.exc_get I1.kIn J T.ga T.gg T.exC (PySem.W.findObj_own T.hdC hno rfl (by rw [hl n, hu])) (handed_of ru) ⟨v, H1, I1.tok _, ru, q⟩
end
end SR
set_option Elab.async false
set_option linter.all false
set_option maxRecDepth 100000
set_option maxHeartbeats 1000000
namespace SR
open PySem PySem.Spec PyProof.Rows L2
/-- the boxes that stay and the offsets, of ascending places; g pairs are gone on their left -/
def cutL : List Int → Int → List Int × List Int
  | [], _ => ([], [])
  | x :: xs, g => if xs.head? = some (x + 1) then ((x - 2 * g) :: (cutL xs g).1, (cutL xs g).2) else ((cutL xs (g + 1)).1, (x - 2 * g) :: (cutL xs (g + 1)).2)
def seg (st : Int) (n : Nat) : List Int := (List.range n).map fun p => st + ((p : Nat) : Int)
theorem seg_succ (st : Int) (n : Nat) : seg st (n + 1) = seg st n ++ [st + (n : Int)] := by
  unfold seg
  rw [List.range_succ, List.map_append]
  rfl
theorem seg_len (st : Int) (n : Nat) : (seg st n).length = n := by
  unfold seg
  rw [List.length_map, List.length_range]
def runStep (s : List Int × List Int) (r : Int × Int) : List Int × List Int :=
  (s.1 ++ seg (r.1 - 2 * (s.2.length : Int)) (r.2 - 1).toNat, s.2 ++ [r.1 - 2 * (s.2.length : Int) + r.2 - 1])
theorem blkStep_snoc (bs : List (Int × Int)) (f n x : Int) : blkStep (bs ++ [(f, n)]) x = if f + n = x then bs ++ [(f, n + 1)] else bs ++ [(f, n)] ++ [(x, 1)] := by
  unfold blkStep
  rw [List.getLast?_concat]
  show (if f + n = x then (bs ++ [(f, n)]).set ((bs ++ [(f, n)]).length - 1) (f, n + 1) else _) = _
  split
  · rw [List.length_append, List.length_singleton, Nat.add_sub_cancel, List.set_append_right _ _ (Nat.le_refl _), Nat.sub_self]
    rfl
  · rfl
theorem run_cut : ∀ (xs : List Int) (bs : List (Int × Int)) (f n : Int), 1 ≤ n → ∀ s : List Int × List Int, s = bs.foldl runStep ([], []) →
    (xs.foldl blkStep (bs ++ [(f, n)])).foldl runStep ([], []) = (s.1 ++ seg (f - 2 * (s.2.length : Int)) (n - 1).toNat ++ (cutL ((f + n - 1) :: xs) (s.2.length : Int)).1, s.2 ++ (cutL ((f + n - 1) :: xs) (s.2.length : Int)).2)
  | [], bs, f, n, hn, s, hs => by
    show (bs ++ [(f, n)]).foldl runStep ([], []) = _
    rw [List.foldl_append, ← hs]
    show runStep s (f, n) = _
    unfold runStep
    have c : cutL [f + n - 1] (s.2.length : Int) = ([], [f + n - 1 - 2 * (s.2.length : Int)]) := rfl
    rw [c]
    show (s.1 ++ seg (f - 2 * (s.2.length : Int)) (n - 1).toNat, s.2 ++ [f - 2 * (s.2.length : Int) + n - 1]) = (s.1 ++ seg (f - 2 * (s.2.length : Int)) (n - 1).toNat ++ [], s.2 ++ [f + n - 1 - 2 * (s.2.length : Int)])
    rw [List.append_nil]
    have e : f - 2 * (s.2.length : Int) + n - 1 = f + n - 1 - 2 * (s.2.length : Int) := by omega
    rw [e]
  | x :: xs, bs, f, n, hn, s, hs => by
    rw [List.foldl_cons, blkStep_snoc]
    by_cases e : f + n = x
    · rw [if_pos e, run_cut xs bs f (n + 1) (by omega) s hs]
      have c : cutL ((f + n - 1) :: x :: xs) (s.2.length : Int) = ((f + n - 1 - 2 * (s.2.length : Int)) :: (cutL (x :: xs) (s.2.length : Int)).1, (cutL (x :: xs) (s.2.length : Int)).2) := by
        show (if (x :: xs).head? = some (f + n - 1 + 1) then _ else _) = _
        rw [if_pos (by show some x = _; rw [← e]; congr 1; omega)]
      have e1 : f + (n + 1) - 1 = x := by omega
      have e2 : (n + 1 - 1).toNat = (n - 1).toNat + 1 := by omega
      have e3 : f - 2 * (s.2.length : Int) + ((n - 1).toNat : Int) = f + n - 1 - 2 * (s.2.length : Int) := by omega
      rw [c, e1, e2, seg_succ, e3]
      simp only [List.append_assoc, List.singleton_append]
    · rw [if_neg e, run_cut xs (bs ++ [(f, n)]) x 1 (by omega) (runStep s (f, n)) (by rw [List.foldl_append, ← hs]; rfl)]
      have c : cutL ((f + n - 1) :: x :: xs) (s.2.length : Int) = ((cutL (x :: xs) ((s.2.length : Int) + 1)).1, (f + n - 1 - 2 * (s.2.length : Int)) :: (cutL (x :: xs) ((s.2.length : Int) + 1)).2) := by
        show (if (x :: xs).head? = some (f + n - 1 + 1) then _ else _) = _
        rw [if_neg (by intro z; have := Option.some.inj z; omega)]
      have l : ((runStep s (f, n)).2.length : Int) = (s.2.length : Int) + 1 := by
        unfold runStep
        show ((s.2 ++ [_]).length : Int) = _
        rw [List.length_append]
        rfl
      have e1 : x + 1 - 1 = x := by omega
      have e4 : f - 2 * (s.2.length : Int) + n - 1 = f + n - 1 - 2 * (s.2.length : Int) := by omega
      rw [c, l, e1]
      show ((runStep s (f, n)).1 ++ seg _ 0 ++ _, (runStep s (f, n)).2 ++ _) = _
      unfold runStep
      show (s.1 ++ seg (f - 2 * (s.2.length : Int)) (n - 1).toNat ++ [] ++ _, s.2 ++ [f - 2 * (s.2.length : Int) + n - 1] ++ _) = _
      rw [e4, List.append_nil]
      simp only [List.append_assoc, List.singleton_append]
theorem runs_cut (L : List Int) : (blkOf L).foldl runStep ([], []) = cutL L 0 := by
  cases L with
  | nil => rfl
  | cons x xs =>
    unfold blkOf
    rw [List.foldl_cons]
    have e : blkStep [] x = [] ++ [(x, 1)] := rfl
    rw [e, run_cut xs [] x 1 (by omega) ([], []) rfl]
    have e1 : x + 1 - 1 = x := by omega
    rw [e1]
    show ([] ++ seg _ 0 ++ (cutL (x :: xs) 0).1, [] ++ (cutL (x :: xs) 0).2) = _
    rfl
theorem blk_pos1 (L : List Int) : ∀ r ∈ blkOf L, 1 ≤ r.2 := by
  have key : ∀ (xs : List Int) (acc : List (Int × Int)), (∀ r ∈ acc, 1 ≤ r.2) → ∀ r ∈ xs.foldl blkStep acc, 1 ≤ r.2 := by
    intro xs
    induction xs with
    | nil => exact fun _ h => h
    | cons x xs ih =>
      intro acc h
      refine ih _ fun r m => ?_
      unfold blkStep at m
      split at m
      · rename_i q e
        have hq := h q (List.mem_of_getLast? e)
        split at m
        · rcases List.mem_or_eq_of_mem_set m with m | rfl
          · exact h r m
          · show 1 ≤ q.2 + 1
            omega
        · rcases List.mem_append.mp m with m | m
          · exact h r m
          · rw [List.mem_singleton.mp m]
            exact Int.le_refl _
      · rcases List.mem_append.mp m with m | m
        · exact h r m
        · rw [List.mem_singleton.mp m]
          exact Int.le_refl _
  exact key L [] fun _ m => nomatch m
theorem cutL_len : ∀ (L : List Int) (g : Int), (cutL L g).1.length + (cutL L g).2.length = L.length
  | [], _ => rfl
  | x :: xs, g => by
    unfold cutL
    split
    · have := cutL_len xs g
      show ((cutL xs g).1.length + 1) + (cutL xs g).2.length = xs.length + 1
      omega
    · have := cutL_len xs (g + 1)
      show (cutL xs (g + 1)).1.length + ((cutL xs (g + 1)).2.length + 1) = xs.length + 1
      omega
theorem cutL_asc : ∀ (L : List Int) (g : Int), L.Pairwise (· < ·) → (cutL L g).1.Pairwise (· < ·) ∧ ∀ y ∈ (cutL L g).1, ∀ x, L.head? = some x → x - 2 * g ≤ y
  | [], _, _ => ⟨.nil, fun _ m => nomatch m⟩
  | x :: xs, g, asc => by
    have a := List.pairwise_cons.mp asc
    unfold cutL
    split
    · rename_i e
      obtain ⟨h1, h2⟩ := cutL_asc xs g a.2
      refine ⟨List.pairwise_cons.mpr ⟨fun y m => ?_, h1⟩, fun y m z hz => ?_⟩
      · have := h2 y m _ e
        omega
      · cases hz
        rcases List.mem_cons.mp m with rfl | m
        · exact Int.le_refl _
        · have := h2 y m _ e
          omega
    · rename_i e
      obtain ⟨h1, h2⟩ := cutL_asc xs (g + 1) a.2
      refine ⟨h1, fun y m z hz => ?_⟩
      cases hz
      cases xs with
      | nil => cases m
      | cons w ws =>
        have hw := a.1 w List.mem_cons_self
        have ne : w ≠ x + 1 := fun z => e (by rw [z]; rfl)
        have := h2 y m w rfl
        omega
end SR
set_option Elab.async false
set_option linter.all false
set_option maxRecDepth 100000
set_option maxHeartbeats 1000000
namespace SR
open PySem PySem.Spec PyProof.Rows L2
def t_cutSeg : TE := (tLc (iRng1 (tCons (tOp qSub (tVar 4) (tC (.int 1))) (tNil))) (gName 6) (tYes) (tTup (tCons (tOp qAdd (tVar 5) (tVar 6)) (tCons (tC (.int 1)) (tNil)))) [6])
def t_cutRest (K : PySem.W.Frag) : TS := (tSeq (tDrop (tBM K "list" rExtend (tVar 1) (tCons t_cutSeg (tNil))))
  (tDrop (tBM K "list" rAppend (tVar 2) (tCons (tOp qSub (tOp qAdd (tVar 5) (tVar 4)) (tC (.int 1))) (tNil)))))
def t_cutBody (K : PySem.W.Frag) : TS := (tSeq (tAsg (tOp qSub (tVar 3) (tOp qMul (tC (.int 2)) (tCB (qLen K) (tCons (tVar 2) (tNil))))) (gName 5))
  (t_cutRest K))
def t_cut (K : PySem.W.Frag) (a0 : Addr) (c_BadRow : Addr) (c_Row : Addr) (E : XK) : TS := tSeq (tIfS (tNot (tB (tCall (spPlainRow K c_Row) [] E0 (tCons (tVar 0) (tNil)))))
  (tOutF c_BadRow E "field" (.str "plain"))
  (tNext))
  (tSeq (tAsg (tLst (tNil)) (gName 1))
  (tSeq (tAsg (tLst (tNil)) (gName 2))
  (tSeq (tFor (iList K (tCall (spRunsIn K c_Row) [] E0 (tCons (tVar 0) (tNil)))) (gTup K 2 (gCons (gName 3) (gCons (gName 4) (gNil))))
  (t_cutBody K))
  (tRet (tTup (tCons (tMake c_Row (spRowInit K c_Row) [.ref a0] E0 (tCons (tVar 1) (tNil))) (tCons (tVar 2) (tNil))))))))
def But2 (A O : Addr) (H H' : Hp) : Prop := ∀ b o, b ≠ A → b ≠ O → H b = some o → H' b = some o
theorem But2.trans {A O : Addr} {H H1 H2 : Hp} (s : But2 A O H H1) (t : But2 A O H1 H2) : But2 A O H H2 := fun b o n1 n2 h => t b o n1 n2 (s b o n1 n2 h)
theorem ones_app (a b : List Int) : ones (a ++ b) = ones a ++ ones b := List.map_append
theorem yes_if {σ : L2.St} {H : Hp} {A B : Hp → Prop} (h : A H) : tYes σ H fun b H1 => if b = true then A H1 else B H1 := h
/-- the segment of a run that stays -/
theorem cut_seg {H : Hp} {Q : VK} {st f n : Int} {y0 y1 y2 y6 : Option V} (hn : 1 ≤ n ∧ n ≤ 100)
    (q : ∀ D H' us, H D = none → Same H H' → H' D = some (.lst (us.map V.ref)) → Paired (TupAt H') us (ones (seg st (n - 1).toNat)) → Q (.ref D) H') :
    t_cutSeg [y0, y1, y2, some (.int f), some (.int n), some (.int st), y6] H Q := by
  refine ⟨_, rfl, _, _, rfl, rfl, n - 1, rfl, by omega, by omega, fun D hD => ?_⟩
  refine lc_range (lo := 0) (n := (n - 1).toNat) (fun i H' => Same H H' ∧ ∃ us, H' D = some (.lst (us.map V.ref)) ∧ Paired (TupAt H') us (ones (seg st i))) ⟨same_new hD, [], upd_same, .nil⟩ ?_ ?_
  · rintro i H1 hi ⟨s1, us, d1, pr⟩
    have ul : us.length = i := by
      have := paired_len pr
      rw [ones_len, seg_len] at this
      exact this
    refine ⟨rfl, yes_if ?_⟩
    refine ⟨_, rfl, _, rfl, _, _, rfl, rfl, sz (by show 2 ≤ 1000; decide), fun p hp => ?_⟩
    show ∃ acc, (upd H1 p (.tup [.int (st + (0 + (i : Int))), .int 1])) D = some (.lst acc) ∧ acc.length < sizeLine ∧ Same H (upd (upd H1 p (.tup [.int (st + (0 + (i : Int))), .int 1])) D (.lst (acc ++ [.ref p]))) ∧ _
    have e0 : (0 : Int) + (i : Int) = (i : Int) := by omega
    rw [e0]
    have s3 := same_new (o := .tup [.int (st + (i : Int)), .int 1]) hp
    have T3 : TupAt (upd H1 p (.tup [.int (st + (i : Int)), .int 1])) p (st + (i : Int), 1) := upd_same
    generalize upd H1 p (.tup [.int (st + (i : Int)), .int 1]) = H3 at s3 T3 ⊢
    have d3 := s3 _ _ d1
    have keep : ∀ {b : Addr} {z : Int × Int}, TupAt H3 b z → TupAt (upd H3 D (.lst (us.map V.ref ++ [.ref p]))) b z := fun {b z} w => (upd_ne (ne_of w d3 (by intro e; cases e))).trans w
    refine ⟨_, d3, ?_, same_upd (s1.trans s3) hD, us ++ [p], ?_, ?_⟩
    · rw [List.length_map, ul]
      have : i < 1000 := by omega
      exact Nat.lt_of_lt_of_le this (by decide)
    · rw [upd_same, List.map_append]
      rfl
    · rw [seg_succ, ones_app]
      exact paired_snoc (keep T3) (paired_imp (fun _ _ z => keep (s3 _ _ z)) pr)
  · rintro H1 ⟨s1, us, d1, pr⟩
    exact q D H1 us hD s1 d1 pr
theorem cut_turn {K : PySem.W.Frag} {H : Hp} {A O : Addr} {f n : Int} {k o : List Int} {us : List Addr} {y0 y5 y6 : Option V} {N N2 N3 : L2.St → Hp → Prop} {R : VK} (nAO : A ≠ O) (hn : 1 ≤ n ∧ n ≤ 100) (kl : k.length ≤ 100) (ol : o.length ≤ 100)
    (hA : H A = some (.lst (us.map V.ref))) (pr : Paired (TupAt H) us (ones k)) (hO : H O = some (.lst (o.map V.int)))
    (q : ∀ y5 H' us', But2 A O H H' → H' A = some (.lst (us'.map V.ref)) → Paired (TupAt H') us' (ones (runStep (k, o) (f, n)).1) → H' O = some (.lst ((runStep (k, o) (f, n)).2.map V.int)) →
      N [y0, some (.ref A), some (.ref O), some (.int f), some (.int n), y5, y6] H') :
    t_cutBody K { nx := N, rt := R, bk := N2, ct := N3 } [y0, some (.ref A), some (.ref O), some (.int f), some (.int n), y5, y6] H := by
  refine ⟨_, rfl, _, rfl, O, _, rfl, .inl (SqL.of hO), _, _, rfl, rfl, .inl ⟨by decide, by decide⟩, _, _, rfl, rfl, ?_⟩
  show t_cutRest K _ [y0, some (.ref A), some (.ref O), some (.int f), some (.int n), some (.int (f - 2 * ((o.map V.int).length : Int))), y6] H
  rw [List.length_map]
  generalize hst : f - 2 * (o.length : Int) = st
  refine ⟨_, rfl, .inl ⟨rfl, _, SqL.of hA⟩, ?_⟩
  refine cut_seg (st := st) hn fun D H1 ws hD s1 d1 pr1 => ?_
  have A1 := s1 _ _ hA
  have O1 := s1 _ _ hO
  have ul : us.length = k.length := by rw [paired_len pr, ones_len]
  have wl : ws.length = (n - 1).toNat := by rw [paired_len pr1, ones_len, seg_len]
  refine ⟨A, D, _, _, rfl, rfl, A1, d1, ?_, ?_⟩
  · rw [List.length_map, List.length_map]
    have : us.length + ws.length ≤ 300 := by omega
    exact Nat.le_trans this (by decide)
  have keep : ∀ {b : Addr} {z : Int × Int}, TupAt H1 b z → TupAt (upd H1 A (.lst (us.map V.ref ++ ws.map V.ref))) b z := fun {b z} w => (upd_ne (ne_of w A1 (by intro e; cases e))).trans w
  have A2 : upd H1 A (.lst (us.map V.ref ++ ws.map V.ref)) A = some (.lst ((us ++ ws).map V.ref)) := by rw [upd_same, List.map_append]
  have O2 : upd H1 A (.lst (us.map V.ref ++ ws.map V.ref)) O = some (.lst (o.map V.int)) := (upd_ne (Ne.symm nAO)).trans O1
  have pr2 : Paired (TupAt (upd H1 A (.lst (us.map V.ref ++ ws.map V.ref)))) (us ++ ws) (ones (k ++ seg st (n - 1).toNat)) := by
    rw [ones_app]
    exact paired_append (paired_imp (fun _ _ z => keep (s1 _ _ z)) pr) (paired_imp (fun _ _ z => keep z) pr1)
  have b2 : But2 A O H (upd H1 A (.lst (us.map V.ref ++ ws.map V.ref))) := fun b ob n1 n2 h => (upd_ne n1).trans (s1 _ _ h)
  generalize upd H1 A (.lst (us.map V.ref ++ ws.map V.ref)) = H2 at A2 O2 pr2 b2 ⊢
  refine ⟨_, rfl, .inl ⟨rfl, _, SqL.of O2⟩, _, rfl, _, rfl, _, _, rfl, rfl, _, _, rfl, rfl, O, _, _, rfl, rfl, O2, ?_, ?_⟩
  · rw [List.length_map]
    exact Nat.lt_of_le_of_lt ol (by decide)
  have keep3 : ∀ {b : Addr} {z : Int × Int}, TupAt H2 b z → TupAt (upd H2 O (.lst (o.map V.int ++ [.int (st + n - 1)]))) b z := fun {b z} w => (upd_ne (ne_of w O2 (by intro e; cases e))).trans w
  have rs : runStep (k, o) (f, n) = (k ++ seg st (n - 1).toNat, o ++ [st + n - 1]) := by
    unfold runStep
    show (k ++ seg (f - 2 * (o.length : Int)) (n - 1).toNat, o ++ [f - 2 * (o.length : Int) + n - 1]) = _
    rw [hst]
  refine q _ _ (us ++ ws) (b2.trans fun b ob n1 n2 h => (upd_ne n2).trans h) ?_ ?_ ?_
  · exact (upd_ne nAO).trans A2
  · rw [rs]
    exact paired_imp (fun _ _ z => keep3 z) pr2
  · rw [rs, upd_same, List.map_append]
    rfl
/-- the package's cut: a plain row is cut, any other row refused -/
def spCut (K : PySem.W.Frag) (C B : Addr) : Sp := fun vs H Q E => ∃ x ps ks, vs = [.ref x] ∧ RowAt K C H x ps ks ∧ RowOk ps ks ∧ Asc ps ∧
  (ks ≠ [] → ∀ H' d, Same H H' → H' d = none → E (.ref B) (some d) (upd H' d (.xd [("field", .str "plain")]))) ∧
  (ks = [] → ∀ t y O H', H t = none → H O = none → Same H H' → H' t = some (.tup [.ref y, .ref O]) → RowAt K C H' y (ones (cutL (ps.map Prod.fst) 0).1) [] → H' O = some (.lst ((cutL (ps.map Prod.fst) 0).2.map V.int)) → Q (.ref t) H')
theorem run_mono : ∀ (bs : List (Int × Int)) (s : List Int × List Int), s.1.length ≤ (bs.foldl runStep s).1.length ∧ s.2.length ≤ (bs.foldl runStep s).2.length
  | [], _ => ⟨Nat.le_refl _, Nat.le_refl _⟩
  | b :: bs, s => by
    have h := run_mono bs (runStep s b)
    have h1 : s.1.length ≤ (runStep s b).1.length := by
      unfold runStep
      rw [List.length_append]
      exact Nat.le_add_right _ _
    have h2 : s.2.length ≤ (runStep s b).2.length := by
      unfold runStep
      rw [List.length_append]
      exact Nat.le_add_right _ _
    exact ⟨Nat.le_trans h1 h.1, Nat.le_trans h2 h.2⟩
theorem run_take (bs : List (Int × Int)) (i : Nat) : ((bs.take i).foldl runStep ([], [])).1.length ≤ (bs.foldl runStep ([], [])).1.length ∧ ((bs.take i).foldl runStep ([], [])).2.length ≤ (bs.foldl runStep ([], [])).2.length := by
  have h := run_mono (bs.drop i) ((bs.take i).foldl runStep ([], []))
  rw [← List.foldl_append, List.take_append_drop] at h
  exact h
theorem none_back {H H' : Hp} (s : Same H H') {a : Addr} (h : H' a = none) : H a = none := by
  cases e : H a with
  | none => rfl
  | some o => exact absurd ((s _ _ e).symm.trans h) (fun z => nomatch z)
theorem pure_cut {K : PySem.W.Frag} {C B a0 : Addr} (hE : BareK K a0 []) (vs : List V) (H : Hp) (Q : VK) (E : XK) (h : spCut K C B vs H Q E) : t_cut K a0 B C E { nx := fun _ H' => Q .non H', rt := Q } (start ["row", "kept", "offsets", "first", "length", "start", "place"] vs) H := by
  obtain ⟨x, ps, ks, rfl, row, ok, asc, q1, q2⟩ := h
  refine ⟨_, rfl, x, ps, ks, rfl, row, _, rfl, ?_⟩
  cases ks with
  | cons k ks => exact iteT fun d hd => q1 (fun z => nomatch z) H d (fun _ _ h => h) hd
  | nil =>
    refine iteF ⟨sz (Nat.zero_le _), fun A hA => ⟨sz (Nat.zero_le _), fun O hO => ?_⟩⟩
    have s1 := same_new (o := .lst []) hA
    have A1 : upd H A (.lst []) A = some (.lst []) := upd_same
    generalize upd H A (.lst []) = H1 at s1 A1 hO ⊢
    have s2 := same_new (o := .lst []) hO
    have A2 := s2 _ _ A1
    have O2 : upd H1 O (.lst []) O = some (.lst []) := upd_same
    have nAO : A ≠ O := fun z => by
      rw [z, hO] at A1
      cases A1
    generalize upd H1 O (.lst []) = H2 at s2 A2 O2 ⊢
    have s02 := s1.trans s2
    have row2 := row.same s02
    have l40 := len_sum (fun p m => (ok.po p m).1)
    have osm := ok.sm
    have O0 : H O = none := none_back s1 hO
    refine ⟨_, rfl, x, ps, [], rfl, row2, by omega, fun R H3 hR s3 blk => ?_⟩
    obtain ⟨ts, hRl, prR⟩ := blk
    have A3 := s3 _ _ A2
    have O3 := s3 _ _ O2
    have nRA : R ≠ A := fun z => by rw [z, A2] at hR; cases hR
    have nRO : R ≠ O := fun z => by rw [z, O2] at hR; cases hR
    have fin : (blkOf (ps.map Prod.fst)).foldl runStep ([], []) = cutL (ps.map Prod.fst) 0 := runs_cut _
    have pos := blk_pos1 (ps.map Prod.fst)
    have tot := cutL_len (ps.map Prod.fst) 0
    rw [List.length_map] at tot
    have lim : ∀ i, (((blkOf (ps.map Prod.fst)).take i).foldl runStep ([], [])).1.length ≤ 40 ∧ (((blkOf (ps.map Prod.fst)).take i).foldl runStep ([], [])).2.length ≤ 40 := fun i => by
      have h := run_take (blkOf (ps.map Prod.fst)) i
      rw [fin] at h
      omega
    generalize blkOf (ps.map Prod.fst) = bs at prR fin pos lim
    refine ⟨R, rfl, ⟨_, SqL.of hRl⟩, ?_⟩
    refine for_it (walk_list (K := K) (a := R) (xs := ts.map V.ref)) (fun i σ H' => But2 A O H3 H' ∧ ∃ us y3 y4 y5, σ = [some (.ref x), some (.ref A), some (.ref O), y3, y4, y5, none] ∧ H' A = some (.lst (us.map V.ref)) ∧ Paired (TupAt H') us (ones ((bs.take i).foldl runStep ([], [])).1) ∧ H' O = some (.lst (((bs.take i).foldl runStep ([], [])).2.map V.int)))
      ⟨fun _ _ _ _ h => h, [], _, _, _, rfl, A3, .nil, O3⟩ ?_ ?_ ?_
    · rintro i σ H' _ ⟨b, _⟩
      exact SqL.of (b _ _ nRA nRO hRl)
    · rintro i v σ H' H'' hi ⟨b, us, y3, y4, y5, rfl, hA', pr, hO'⟩ ⟨rfl, hv⟩
      rw [List.getElem?_map] at hv
      obtain ⟨t, ht, rfl⟩ := Option.map_eq_some_iff.mp hv
      obtain ⟨r, hr, hat⟩ := paired_at prR ht
      have T : TupAt H'' t r := b _ _ (ne_of hat A3 (by intro e; cases e)) (ne_of hat O3 (by intro e; cases e)) hat
      have tk : (bs.take (i + 1)).foldl runStep ([], []) = runStep ((bs.take i).foldl runStep ([], [])) r := by
        rw [List.take_succ, hr, List.foldl_append]
        rfl
      have li := lim i
      have li1 := lim (i + 1)
      rw [tk] at li1
      generalize (bs.take i).foldl runStep ([], []) = s at pr hO' tk li li1
      obtain ⟨k, o⟩ := s
      obtain ⟨f, n⟩ := r
      have n1 : 1 ≤ n := pos _ (List.mem_of_getElem? hr)
      have n2 : n ≤ 100 := by
        have z := li1.1
        unfold runStep at z
        rw [List.length_append, seg_len] at z
        omega
      refine ⟨t, _, rfl, SqT.of T, rfl, _, _, rfl, _, _, rfl, rfl, ?_⟩
      show t_cutBody K _ [some (.ref x), some (.ref A), some (.ref O), some (.int f), some (.int n), y5, none] H''
      refine cut_turn nAO ⟨n1, n2⟩ (Nat.le_trans li.1 (by decide)) (Nat.le_trans li.2 (by decide)) hA' pr hO' fun y5' H5 us' b5 a5 p5 o5 => ?_
      refine ⟨b.trans b5, us', _, _, _, rfl, a5, ?_, ?_⟩
      · rw [tk]
        exact p5
      · rw [tk]
        exact o5
    · rintro σ H' ⟨b, us, y3, y4, y5, rfl, hA', pr, hO'⟩
      have tl : (ts.map V.ref).length = bs.length := by rw [List.length_map, paired_len prR]
      rw [tl, List.take_length, fin] at pr hO'
      have s3' : Same H H' := fun c o hc => b _ _ (fun z => by rw [z, hA] at hc; cases hc) (fun z => by rw [z, O0] at hc; cases hc) (s3 _ _ (s02 _ _ hc))
      have L := (cutL_asc (ps.map Prod.fst) 0 (by rw [List.pairwise_map]; exact asc)).1
      have kl : (cutL (ps.map Prod.fst) 0).1.length ≤ 40 := by omega
      have hp : PairsAt K H' A (ones (cutL (ps.map Prod.fst) 0).1) := ⟨us, .inl (SqL.of hA'), pr⟩
      have hk : PairsAt K H' a0 [] := ⟨[], .inr (.inr hE), .nil⟩
      refine ⟨_, rfl, fun y0 dx g1 g2 g3 => make_row (C := C) (E := E0) (Q := fun z H1 => tCons (tVar 2) tNil [some (.ref x), some (.ref A), some (.ref O), y3, y4, y5, none] H1 fun xs H2 => (z :: xs).length ≤ sizeLine ∧ ∀ p, H2 p = none → Q (.ref p) (upd H2 p (.tup (z :: xs)))) hp hk (ones_ok L kl) (fun y H5 qs ls hy s5 row5 p1 p2 a1 a2 => ?_) y0 dx g1 g2 g3⟩
      refine ⟨_, rfl, sz (by show 2 ≤ 1000; decide), fun t ht => ?_⟩
      have e1 : qs = ones (cutL (ps.map Prod.fst) 0).1 := asc_eq a1 (ones_asc L) p1
      have e2 : ls = [] := List.Perm.eq_nil p2
      subst e1 e2
      have s6 := same_new (o := .tup [.ref y, .ref O]) ht
      have s05 := s3'.trans s5
      exact q2 rfl t y O _ (none_back s05 ht) O0 (s05.trans s6) upd_same (row5.same s6) (s6 _ _ (s5 _ _ hO'))
end SR
set_option Elab.async false
set_option linter.all false
set_option maxRecDepth 100000
set_option maxHeartbeats 4000000
namespace SR
open PySem PySem.Spec PyProof.Rows L2
def sumAt (f : Step → Int) (st : List Step) (i : Int) : Int := (st.map fun s => if s.1 = i then f s else 0).sum
theorem sumAt_cons (f : Step → Int) (s : Step) (st : List Step) (i : Int) : sumAt f (s :: st) i = (if s.1 = i then f s else 0) + sumAt f st i := rfl
theorem sumAt_app (f : Step → Int) (a b : List Step) (i : Int) : sumAt f (a ++ b) i = sumAt f a i + sumAt f b i := by
  unfold sumAt
  rw [List.map_append, List.sum_append]
theorem sumAt_none {f : Step → Int} {st : List Step} {i : Int} (h : ∀ s ∈ st, s.1 ≠ i) : sumAt f st i = 0 := by
  induction st with
  | nil => rfl
  | cons s st ih =>
    rw [sumAt_cons, if_neg (h s List.mem_cons_self), ih fun t m => h t (List.mem_cons_of_mem _ m)]
    rfl
theorem sumAt_mem {f : Step → Int} {st : List Step} (a : AscS st) {s : Step} (m : s ∈ st) : sumAt f st s.1 = f s := by
  induction st with
  | nil => cases m
  | cons t st ih =>
    obtain ⟨a1, a2⟩ := List.pairwise_cons.mp a
    rw [sumAt_cons]
    rcases List.mem_cons.mp m with e | m
    · subst e
      rw [if_pos rfl, sumAt_none fun z hz e => by have := a1 z hz; omega]
      omega
    · have := a1 s m
      rw [if_neg (by omega), ih a2 m]
      omega
abbrev ldF : Step → Int := fun s => s.2.1
abbrev nlF : Step → Int := fun s => s.2.2.2.1
/-- what a step is -/
def StepIs (cn cp : Int → Int) (most : Int) (s : Step) : Prop := s = stepAt cn cp most s.1 s.2.1 ∧ 0 ≤ s.2.1 ∧ s.2.1 ≤ most
section
variable {ps ks : List (Int × Int)} {most : Int}
theorem walks_more (ok : RowOk ps ks) (m1 : 1 ≤ most) {i l : Int} {w : List Step} (h : Walks (cnt ps) (cap ks) most i l w) : 0 ≤ l → l ≤ most →
    (∀ s ∈ w, StepIs (cnt ps) (cap ks) most s ∧ i ≤ s.1) ∧ (∀ j, sumAt nlF w j + (if j + 1 = i then l else 0) = sumAt ldF w (j + 1)) ∧ (∀ j, i ≤ j → j ≤ lastIdx w → ∃ s ∈ w, s.1 = j) ∧ i ≤ lastIdx w := by
  induction h with
  | @last i l h =>
    intro l0 l1
    refine ⟨fun s m => ?_, fun j => ?_, fun j j0 j1 => ⟨_, List.mem_singleton.mpr rfl, ?_⟩, Int.le_refl _⟩
    · rw [List.mem_singleton.mp m]
      exact ⟨⟨rfl, l0, l1⟩, Int.le_refl _⟩
    · rw [sumAt_cons, sumAt_cons]
      show (if i = j then stL most l (cap ks i) (cnt ps i) else 0) + 0 + _ = (if i = j + 1 then l else 0) + 0
      rw [h]
      split <;> split <;> split <;> omega
    · have : lastIdx [stepAt (cnt ps) (cap ks) most i l] = i := rfl
      rw [this] at j1
      show i = j
      omega
  | @more i l r h t ih =>
    intro l0 l1
    obtain ⟨_, b, _⟩ := step_ok (i := i) ok m1 l0 l1
    obtain ⟨a1, a2, a3, a4⟩ := ih b.1 b.2
    have ne : r ≠ [] := by cases t <;> simp
    have ll : lastIdx (stepAt (cnt ps) (cap ks) most i l :: r) = lastIdx r := by
      unfold lastIdx
      cases r with
      | nil => exact absurd rfl ne
      | cons x r => rw [List.getLast?_cons_cons]
    refine ⟨fun s m => ?_, fun j => ?_, fun j j0 j1 => ?_, by rw [ll]; omega⟩
    · rcases List.mem_cons.mp m with rfl | m
      · exact ⟨⟨rfl, l0, l1⟩, Int.le_refl _⟩
      · have := a1 s m
        exact ⟨this.1, by omega⟩
    · rw [sumAt_cons, sumAt_cons]
      have := a2 j
      show (if i = j then stL most l (cap ks i) (cnt ps i) else 0) + sumAt nlF r j + _ = (if i = j + 1 then l else 0) + sumAt ldF r (j + 1)
      by_cases e1 : i = j
      · rw [if_pos e1, if_neg (by omega), if_neg (by omega)]
        rw [if_pos (by omega)] at this
        omega
      · rw [if_neg e1]
        rw [if_neg (by omega)] at this
        by_cases e2 : j + 1 = i
        · rw [if_pos e2, if_pos e2.symm]
          omega
        · rw [if_neg e2, if_neg (by omega)]
          omega
    · rw [ll] at j1
      by_cases e : j = i
      · exact ⟨_, List.mem_cons_self, e.symm⟩
      · obtain ⟨s, hs, e2⟩ := a3 j (by omega) j1
        exact ⟨s, List.mem_cons_of_mem _ hs, e2⟩
theorem traces_more (ok : RowOk ps ks) (m1 : 1 ≤ most) {qs : List (Int × Int)} {acc st : List Step} (h : Traces (cnt ps) (cap ks) most qs acc st) : Asc qs →
    (∀ s ∈ acc, StepIs (cnt ps) (cap ks) most s) → (∀ j, sumAt nlF acc j = sumAt ldF acc (j + 1)) → (acc ≠ [] → ∃ b, (∀ q ∈ qs, b ≤ q.1) ∧ ∀ j, b ≤ j → j ≤ lastIdx acc → ∃ s ∈ acc, s.1 = j) →
    (∀ s ∈ st, StepIs (cnt ps) (cap ks) most s) ∧ (∀ j, sumAt nlF st j = sumAt ldF st (j + 1)) ∧ (∀ s ∈ acc, s ∈ st) ∧ ∀ q ∈ qs, ∃ s ∈ st, s.1 = q.1 := by
  induction h with
  | nil => exact fun _ a b _ => ⟨a, b, fun _ m => m, fun _ m => nomatch m⟩
  | @skip p qs acc r hn h2 t ih =>
    intro asc a b c
    obtain ⟨x, x1, x2⟩ := c hn
    obtain ⟨i1, i2, i3, i4⟩ := ih (List.pairwise_cons.mp asc).2 a b fun _ => ⟨x, fun q m => x1 q (List.mem_cons_of_mem _ m), x2⟩
    refine ⟨i1, i2, i3, fun q m => ?_⟩
    rcases List.mem_cons.mp m with rfl | m
    · obtain ⟨s, hs, e⟩ := x2 q.1 (x1 q List.mem_cons_self) (by omega)
      exact ⟨s, i3 s hs, e⟩
    · exact i4 q m
  | @walk p qs acc w r hon hw t ih =>
    intro asc a b c
    obtain ⟨p1, p2⟩ := List.pairwise_cons.mp asc
    obtain ⟨w1, w2, w3, w4⟩ := walks_more ok m1 hw (Int.le_refl 0) (by omega)
    have wn := walks_ne hw
    have la : lastIdx (acc ++ w) = lastIdx w := by
      unfold lastIdx
      rw [List.getLast?_append]
      cases e : w.getLast? with
      | none => exact absurd (List.getLast?_eq_none_iff.mp e) wn
      | some x => rfl
    obtain ⟨i1, i2, i3, i4⟩ := ih p2 (fun s m => (List.mem_append.mp m).elim (a s) fun m => (w1 s m).1) (fun j => by
      rw [sumAt_app, sumAt_app, b j, ← w2 j]
      split <;> omega) fun _ => ⟨p.1, fun q m => by have := p1 q m; omega, fun j j0 j1 => by
        rw [la] at j1
        obtain ⟨s, hs, e⟩ := w3 j j0 j1
        exact ⟨s, List.mem_append_right _ hs, e⟩⟩
    refine ⟨i1, i2, fun s m => i3 s (List.mem_append_left _ m), fun q m => ?_⟩
    rcases List.mem_cons.mp m with rfl | m
    · obtain ⟨s, hs, e⟩ := w3 q.1 (Int.le_refl _) w4
      exact ⟨s, i3 s (List.mem_append_right _ hs), e⟩
    · exact i4 q m
/-- qs is ps after a sweep -/
def Sw (ks : List (Int × Int)) (most : Int) (ps qs : List (Int × Int)) : Prop := ∃ ld : Int → Int, (∃ lo, ∀ i, i ≤ lo → ld i = 0) ∧ (∃ hi, ∀ i, hi ≤ i → ld i = 0) ∧ ∀ i, 0 ≤ ld i ∧ ld i ≤ most ∧ cnt qs i = stC most (ld i) (cap ks i) (cnt ps i) ∧ ld (i + 1) = stL most (ld i) (cap ks i) (cnt ps i)
theorem span (st : List Step) : ∃ lo hi : Int, ∀ s ∈ st, lo < s.1 ∧ s.1 < hi := by
  induction st with
  | nil => exact ⟨0, 0, fun _ m => nomatch m⟩
  | cons s st ih =>
    obtain ⟨lo, hi, h⟩ := ih
    refine ⟨min lo (s.1 - 1), max hi (s.1 + 1), fun t m => ?_⟩
    rcases List.mem_cons.mp m with rfl | m
    · omega
    · have := h t m
      omega
theorem cnt_left {st : List Step} (a : AscS st) {s : Step} (m : s ∈ st) (h : 0 ≤ s.2.2.2.2) (la : Asc (left st)) : cnt (left st) s.1 = s.2.2.2.2 := by
  unfold cnt
  by_cases e : 0 < s.2.2.2.2
  · have z : (s.1, s.2.2.2.2) ∈ left st := List.mem_map.mpr ⟨s, List.mem_filter.mpr ⟨m, decide_eq_true e⟩, rfl⟩
    rw [(lookup_some (asc_nd la)).mpr z]
    rfl
  · rw [lookup_none.mpr]
    · show (0 : Int) = _
      omega
    · intro z
      obtain ⟨p, hp, e2⟩ := List.mem_map.mp z
      obtain ⟨t, ht, rfl⟩ := List.mem_map.mp hp
      obtain ⟨t1, t2⟩ := List.mem_filter.mp ht
      have e3 := sumAt_mem (f := fun s => s.2.2.2.2) a t1
      have e4 := sumAt_mem (f := fun s => s.2.2.2.2) a m
      have e5 : t.1 = s.1 := e2
      rw [e5] at e3
      have := of_decide_eq_true t2
      omega
theorem cnt_left_none {st : List Step} {i : Int} (h : ∀ s ∈ st, s.1 ≠ i) : cnt (left st) i = 0 := by
  unfold cnt
  rw [lookup_none.mpr]
  · rfl
  · intro z
    obtain ⟨p, hp, e2⟩ := List.mem_map.mp z
    obtain ⟨t, ht, rfl⟩ := List.mem_map.mp hp
    exact h t (List.mem_filter.mp ht).1 e2
theorem sw_traces (ok : RowOk ps ks) (asc : Asc ps) (m1 : 1 ≤ most) {st : List Step} (h : Traces (cnt ps) (cap ks) most ps [] st) : Sw ks most ps (left st) := by
  obtain ⟨lo, la, _⟩ := left_ok ok m1 h
  obtain ⟨a, b, _⟩ := traces_all ok m1 h List.Pairwise.nil (fun s m => nomatch m) rfl
  obtain ⟨t1, t2, _, t4⟩ := traces_more ok m1 h asc (fun s m => nomatch m) (fun j => rfl) fun z => absurd rfl z
  obtain ⟨x, y, xy⟩ := span st
  refine ⟨sumAt ldF st, ⟨x, fun i hi => sumAt_none fun s m e => by have := xy s m; omega⟩, ⟨y, fun i hi => sumAt_none fun s m e => by have := xy s m; omega⟩, fun i => ?_⟩
  have nl := t2 i
  by_cases ex : ∃ s ∈ st, s.1 = i
  · obtain ⟨s, m, rfl⟩ := ex
    obtain ⟨e, l0, l1⟩ := t1 s m
    have k1 := sumAt_mem (f := ldF) a m
    have k2 := sumAt_mem (f := nlF) a m
    have k3 := cnt_left a m (b s m).2.1 la
    have n1 : s.2.2.2.1 = stL most s.2.1 (cap ks s.1) (cnt ps s.1) := congrArg (fun s : Step => s.2.2.2.1) e
    have n2 : s.2.2.2.2 = stC most s.2.1 (cap ks s.1) (cnt ps s.1) := congrArg (fun s : Step => s.2.2.2.2) e
    refine ⟨by rw [k1]; exact l0, by rw [k1]; exact l1, ?_, ?_⟩
    · rw [k1, k3]
      exact n2
    · rw [k1, ← nl, k2]
      exact n1
  · have no : ∀ s ∈ st, s.1 ≠ i := fun s m e => ex ⟨s, m, e⟩
    have c0 : cnt ps i = 0 := by
      unfold cnt
      rw [lookup_none.mpr]
      · rfl
      · intro z
        obtain ⟨p, hp, e⟩ := List.mem_map.mp z
        obtain ⟨s, hs, e2⟩ := t4 p hp
        exact no s hs (by omega)
    have k1 := sumAt_none (f := ldF) no
    have k2 := sumAt_none (f := nlF) no
    have k3 := cnt_left_none no
    have cp := cap_ok ok.ko i
    refine ⟨by rw [k1]; exact Int.le_refl _, by rw [k1]; omega, ?_, ?_⟩
    · rw [k1, k3, c0]
      unfold stC
      omega
    · rw [k1, ← nl, k2, c0]
      unfold stL
      omega
theorem walks_ex (ok : RowOk ps ks) (m1 : 1 ≤ most) : ∀ (n : Nat) (i l : Int), 2 * sumFrom i ps + l ≤ n → 0 ≤ l → l ≤ most → (l = 0 → 1 ≤ cnt ps i) → ∃ w, Walks (cnt ps) (cap ks) most i l w := by
  intro n
  induction n with
  | zero =>
    intro i l h l0 l1 lz
    have nx := sumFrom_next i ok.nd
    have b := sumFrom_bd (i + 1) fun p m => (ok.po p m).1
    have c := cnt_bd ok i
    have := lz (by omega)
    omega
  | succ n ih =>
    intro i l h l0 l1 lz
    have nx := sumFrom_next i ok.nd
    have b := sumFrom_bd (i + 1) fun p m => (ok.po p m).1
    have c := cnt_bd ok i
    have cp := cap_ok ok.ko i
    obtain ⟨_, s2, s3⟩ := step_ok (i := i) ok m1 l0 l1
    by_cases e : stL most l (cap ks i) (cnt ps i) = 0
    · exact ⟨_, .last e⟩
    · have dec : 2 * sumFrom (i + 1) ps + stL most l (cap ks i) (cnt ps i) ≤ n := by
        have d1 : stL most l (cap ks i) (cnt ps i) ≤ l + cnt ps i := by
          unfold stL
          omega
        by_cases z : cnt ps i = 0
        · have : stL most l (cap ks i) (cnt ps i) < l := by
            have : l ≠ 0 := fun q => by have := lz q; omega
            unfold stL
            rw [z]
            omega
          omega
        · omega
      obtain ⟨w, hw⟩ := ih (i + 1) _ dec s2.1 s2.2 fun q => absurd q e
      exact ⟨_, .more e hw⟩
theorem traces_ex (ok : RowOk ps ks) (m1 : 1 ≤ most) : ∀ (qs : List (Int × Int)) (acc : List Step), (∀ q ∈ qs, q ∈ ps) → ∃ st, Traces (cnt ps) (cap ks) most qs acc st
  | [], acc, _ => ⟨acc, .nil⟩
  | p :: qs, acc, h => by
    by_cases on : acc = [] ∨ lastIdx acc < p.1
    · have c1 : 1 ≤ cnt ps p.1 := by
        unfold cnt
        rw [(lookup_some (n := p.2) ok.nd).mpr (h p List.mem_cons_self)]
        exact (ok.po p (h p List.mem_cons_self)).1
      have b := sumFrom_bd p.1 fun p m => (ok.po p m).1
      obtain ⟨w, hw⟩ := walks_ex ok m1 (2 * sumFrom p.1 ps).toNat p.1 0 (by omega) (Int.le_refl _) (by omega) fun _ => c1
      obtain ⟨st, hs⟩ := traces_ex ok m1 qs (acc ++ w) fun q m => h q (List.mem_cons_of_mem _ m)
      exact ⟨st, .walk on hw hs⟩
    · obtain ⟨st, hs⟩ := traces_ex ok m1 qs acc fun q m => h q (List.mem_cons_of_mem _ m)
      exact ⟨st, .skip (fun z => on (.inl z)) (fun z => on (.inr z)) hs⟩
theorem cnt_eq {qs : List (Int × Int)} (a : Asc ps) (b : Asc qs) (pa : ∀ p ∈ ps, 1 ≤ p.2) (pb : ∀ p ∈ qs, 1 ≤ p.2) (h : ∀ i, cnt ps i = cnt qs i) : ps = qs := by
  have sub : ∀ {xs ys : List (Int × Int)}, Asc xs → Asc ys → (∀ p ∈ xs, 1 ≤ p.2) → (∀ i, cnt xs i = cnt ys i) → ∀ p ∈ xs, p ∈ ys := fun {xs ys} ax ay px e p m => by
    have z := e p.1
    unfold cnt at z
    rw [(lookup_some (n := p.2) (asc_nd ax)).mpr m] at z
    have := px p m
    cases q : ys.lookup p.1 with
    | none =>
      rw [q] at z
      have z2 : p.2 = 0 := z
      omega
    | some n =>
      rw [q] at z
      have z2 : p.2 = n := z
      have := (lookup_some (asc_nd ay)).mp q
      rw [← z2] at this
      exact this
  have nx : ps.Nodup := a.imp fun {x y} z e => by rw [e] at z; omega
  have ny : qs.Nodup := b.imp fun {x y} z e => by rw [e] at z; omega
  exact asc_eq a b ((List.perm_ext_iff_of_nodup nx ny).mpr fun p => ⟨sub a b pa h p, sub b a pb (fun i => (h i).symm) p⟩)
end
end SR
set_option Elab.async false
set_option linter.all false
set_option maxRecDepth 100000
set_option maxHeartbeats 4000000
namespace SR
open PySem PySem.Spec PyProof.Rows L2
/-- valid rows -/
structure Vd (ps ks : List (Int × Int)) : Prop where
  ok : RowOk ps ks
  ap : Asc ps
  ak : Asc ks
theorem Vd.one {ps ks : List (Int × Int)} (v : Vd ps ks) : ∀ p ∈ ps, 1 ≤ p.2 := fun p m => (v.ok.po p m).1
section
variable {ks ps qs rs qs' rs' : List (Int × Int)} {c d : Int}
theorem up_from {P : Int → Prop} (lo : Int) (h0 : P lo) (h : ∀ i, lo ≤ i → P i → P (i + 1)) : ∀ i, lo ≤ i → P i := by
  have key : ∀ n : Nat, P (lo + n) := by
    intro n
    induction n with
    | zero => simpa using h0
    | succ n ih =>
      have := h (lo + n) (by omega) ih
      rw [show lo + ((n + 1 : Nat) : Int) = lo + n + 1 by omega]
      exact this
  intro i hi
  have := key (i - lo).toNat
  rw [show lo + ((i - lo).toNat : Int) = i by omega] at this
  exact this
theorem down_from {P : Int → Prop} (hi : Int) (h0 : P hi) (h : ∀ i, i < hi → P (i + 1) → P i) : ∀ i, i ≤ hi → P i := by
  have key : ∀ n : Nat, P (hi - n) := by
    intro n
    induction n with
    | zero => simpa using h0
    | succ n ih =>
      refine h _ (by omega) ?_
      rw [show hi - ((n + 1 : Nat) : Int) + 1 = hi - n by omega]
      exact ih
  intro i le
  have := key (hi - i).toNat
  rw [show hi - ((hi - i).toNat : Int) = i by omega] at this
  exact this
/-- one sweep only -/
theorem sw_one (v : Vd qs ks) (v' : Vd qs' ks) (h : Sw ks c ps qs) (h' : Sw ks c ps qs') : qs = qs' := by
  obtain ⟨l, ⟨a, ha⟩, _, st⟩ := h
  obtain ⟨l', ⟨a', ha'⟩, _, st'⟩ := h'
  have eq : ∀ i, l i = l' i := by
    intro i
    by_cases z : i ≤ min a a'
    · rw [ha i (by omega), ha' i (by omega)]
    · refine up_from (P := fun i => l i = l' i) (min a a') (by rw [ha _ (by omega), ha' _ (by omega)]) (fun j _ e => ?_) i (by omega)
      rw [(st j).2.2.2, (st' j).2.2.2, e]
  exact cnt_eq v.ap v'.ap v.one v'.one fun i => by rw [(st i).2.2.1, (st' i).2.2.1, eq]
/-- passing back -/
theorem pass_back {u D x : Int} (c1 : 1 ≤ c) (u0 : 0 ≤ u) (u1 : u ≤ c) (x0 : 0 ≤ x) (x1 : x ≤ D) : stL c (stL c u D x) D (stC c u D x) = u ∧ stC c (stL c u D x) D (stC c u D x) = x := by
  unfold stC stL
  omega
/-- a row is a sweep of one row only -/
theorem sw_from (v : Vd ps ks) (v' : Vd qs ks) (c1 : 1 ≤ c) (h : Sw ks c ps rs) (h' : Sw ks c qs rs) : ps = qs := by
  obtain ⟨l, _, ⟨b, hb⟩, st⟩ := h
  obtain ⟨l', _, ⟨b', hb'⟩, st'⟩ := h'
  have back : ∀ i, l (i + 1) = l' (i + 1) → l i = l' i ∧ cnt ps i = cnt qs i := fun i e => by
    obtain ⟨p0, p1, p2, p3⟩ := st i
    obtain ⟨q0, q1, q2, q3⟩ := st' i
    have n := cnt_bd v.ok i
    have m := cnt_bd v'.ok i
    obtain ⟨k1, k2⟩ := pass_back c1 p0 p1 n.1 n.2
    obtain ⟨k3, k4⟩ := pass_back c1 q0 q1 m.1 m.2
    rw [← p3, ← p2] at k1 k2
    rw [← q3, ← q2, ← e] at k3 k4
    exact ⟨k1.symm.trans k3, k2.symm.trans k4⟩
  have eq : ∀ i, l i = l' i := by
    intro i
    by_cases z : max b b' ≤ i
    · rw [hb i (by omega), hb' i (by omega)]
    · exact down_from (P := fun i => l i = l' i) (max b b') (by rw [hb _ (by omega), hb' _ (by omega)]) (fun j _ e => (back j e).1) i (by omega)
  exact cnt_eq v.ap v'.ap v.one v'.one fun i => (back i (eq _)).2
theorem cnt_mirror (v : Vd ps ks) (i : Int) : cnt (mirror ps) (-i) = cnt ps i := by
  unfold cnt
  rw [lookup_perm (mirror_perm ps) (by
    have := asc_nd (mirror_asc v.ap)
    exact this), lookup_neg]
theorem cap_mirror (v : Vd ps ks) (i : Int) : cap (mirror ks) (-i) = cap ks i := by
  unfold cap
  rw [lookup_perm (mirror_perm ks) (by
    have := asc_nd (mirror_asc v.ak)
    exact this), lookup_neg]
theorem Vd.mirror (v : Vd ps ks) : Vd (mirror ps) (mirror ks) := ⟨(neg_ok v.ok).perm (mirror_perm ps) (mirror_perm ks), mirror_asc v.ap, mirror_asc v.ak⟩
/-- a sweep from right to left is an inverse one -/
theorem sw_mirror (v : Vd ps ks) (v' : Vd qs ks) (c1 : 1 ≤ c) (h : Sw (mirror ks) c (mirror ps) (mirror qs)) : Sw ks c qs ps := by
  obtain ⟨l, ⟨a, ha⟩, ⟨b, hb⟩, st⟩ := h
  refine ⟨fun i => l (-i + 1), ⟨-b, fun i hi => hb _ (by omega)⟩, ⟨-a + 1, fun i hi => ha _ (by omega)⟩, fun i => ?_⟩
  obtain ⟨p0, p1, p2, p3⟩ := st (-i)
  obtain ⟨q0, q1, _, _⟩ := st (-i + 1)
  rw [cnt_mirror v', cnt_mirror v, cap_mirror v] at p2
  rw [cnt_mirror v, cap_mirror v] at p3
  have n := cnt_bd v.ok i
  obtain ⟨k1, k2⟩ := pass_back c1 p0 p1 n.1 n.2
  rw [← p3, ← p2] at k1 k2
  refine ⟨q0, q1, k2.symm, ?_⟩
  show l (-(i + 1) + 1) = _
  rw [show -(i + 1) + 1 = -i by omega]
  exact k1.symm
end
/-- valid rows with these wide boxes -/
abbrev Rws (ks : List (Int × Int)) : Type := { ps : List (Int × Int) // Vd ps ks }
section
variable {ks : List (Int × Int)}
def total (ps : List (Int × Int)) : Int := (ps.map Prod.snd).sum
theorem sum_zero (st : List Step) : (st.map fun _ => (0 : Int)).sum = 0 := by
  induction st with
  | nil => rfl
  | cons s st ih => rw [List.map_cons, List.sum_cons, ih]; rfl
theorem sum_cover {st : List Step} (a : AscS st) : ∀ {ps : List (Int × Int)}, (ps.map Prod.fst).Nodup → (∀ p ∈ ps, ∃ s ∈ st, s.1 = p.1) → (st.map fun s => cnt ps s.1).sum = total ps
  | [], _, _ => by
    have : (st.map fun s => cnt [] s.1) = st.map fun _ => (0 : Int) := rfl
    rw [this]
    exact sum_zero st
  | p :: ps, nd, h => by
    obtain ⟨n1, n2⟩ := List.nodup_cons.mp nd
    have ih := sum_cover a n2 fun q m => h q (List.mem_cons_of_mem _ m)
    obtain ⟨s, hs, e⟩ := h p List.mem_cons_self
    have one := sumAt_mem (f := fun _ => p.2) a hs
    have z : cnt ps p.1 = 0 := by
      unfold cnt
      rw [lookup_none.mpr n1]
      rfl
    have split : ∀ xs : List Step, (xs.map fun s => cnt (p :: ps) s.1).sum = sumAt (fun _ => p.2) xs p.1 + (xs.map fun s => cnt ps s.1).sum := by
      intro xs
      induction xs with
      | nil => rfl
      | cons x xs ih2 =>
        rw [List.map_cons, List.sum_cons, ih2, sumAt_cons, List.map_cons, List.sum_cons, cnt_cons]
        by_cases e : x.1 = p.1
        · rw [if_pos e, if_pos e, e, z]
          omega
        · rw [if_neg e, if_neg e]
          omega
    rw [split, ih, ← e, one]
    show p.2 + total ps = total (p :: ps)
    unfold total
    rw [List.map_cons, List.sum_cons]
theorem sum_traces {ps : List (Int × Int)} (v : Vd ps ks) {most : Int} (m1 : 1 ≤ most) {st : List Step} (h : Traces (cnt ps) (cap ks) most ps [] st) : sumIn st = total ps := by
  obtain ⟨a, b, _⟩ := traces_all v.ok m1 h List.Pairwise.nil (fun s m => nomatch m) rfl
  obtain ⟨_, _, _, t4⟩ := traces_more v.ok m1 h v.ap (fun s m => nomatch m) (fun j => rfl) fun z => absurd rfl z
  rw [← sum_cover a v.ok.nd t4]
  unfold sumIn
  rw [List.map_congr_left fun s m => (b s m).1]
theorem total_mirror (ps : List (Int × Int)) : total (mirror ps) = total ps := by
  unfold total
  rw [perm_sum ((mirror_perm ps).map _), List.map_map]
  rfl
theorem fwd_ex {c : Int} (c1 : 1 ≤ c) (p : Rws ks) : ∃ q : Rws ks, Sw ks c p.1 q.1 ∧ total q.1 = total p.1 := by
  obtain ⟨st, h⟩ := traces_ex p.2.ok c1 p.1 [] fun q m => m
  obtain ⟨lo, la, ls⟩ := left_ok p.2.ok c1 h
  refine ⟨⟨left st, lo, la, p.2.ak⟩, sw_traces p.2.ok p.2.ap c1 h, ?_⟩
  exact ls.trans (sum_traces p.2 c1 h)
theorem bwd_ex {c : Int} (c1 : 1 ≤ c) (p : Rws ks) : ∃ q : Rws ks, Sw ks c q.1 p.1 ∧ total q.1 = total p.1 := by
  obtain ⟨q, h, e⟩ := fwd_ex c1 (⟨mirror p.1, p.2.mirror⟩ : Rws (mirror ks))
  have vq : Vd (mirror q.1) ks := by
    have := q.2.mirror
    rw [mirror_mirror] at this
    exact this
  refine ⟨⟨mirror q.1, vq⟩, sw_mirror p.2 vq c1 ?_, ?_⟩
  · rw [mirror_mirror]
    exact h
  · rw [total_mirror, e, total_mirror]
/-- one sweep, or one inverse sweep -/
def Tn (c : Int) (back : Bool) (p q : Rws ks) : Prop := if back = true then Sw ks c q.1 p.1 else Sw ks c p.1 q.1
theorem tn_one {c : Int} (c1 : 1 ≤ c) {b : Bool} {p q q' : Rws ks} (h : Tn c b p q) (h' : Tn c b p q') : q = q' := by
  unfold Tn at h h'
  cases b with
  | true => exact Subtype.ext (sw_from q.2 q'.2 c1 h h')
  | false => exact Subtype.ext (sw_one q.2 q'.2 h h')
open Classical in
/-- the row behind a sweep, or an inverse one -/
noncomputable def Fn (s : Int × Bool) (p : Rws ks) : Rws ks := if h : ∃ q, Tn s.1 s.2 p q then Classical.choose h else p
theorem fn_is {c : Int} (c1 : 1 ≤ c) (b : Bool) (p : Rws ks) : Tn c b p (Fn (c, b) p) ∧ total (Fn (c, b) p).1 = total p.1 := by
  have ex : ∃ q, Tn c b p q ∧ total q.1 = total p.1 := by
    cases b with
    | true => exact bwd_ex c1 p
    | false => exact fwd_ex c1 p
  obtain ⟨q, h1, h2⟩ := ex
  have ex2 : ∃ q, Tn c b p q := ⟨q, h1⟩
  have e : Fn (c, b) p = Classical.choose ex2 := dif_pos ex2
  have t := Classical.choose_spec ex2
  rw [← e] at t
  refine ⟨t, ?_⟩
  rw [tn_one c1 t h1]
  exact h2
theorem fn_of {c : Int} (c1 : 1 ≤ c) {b : Bool} {p q : Rws ks} (h : Tn c b p q) : q = Fn (c, b) p := tn_one c1 h (fn_is c1 b p).1
theorem fn_back {c : Int} (c1 : 1 ≤ c) (b : Bool) (p : Rws ks) : Fn (c, b) (Fn (c, !b) p) = p := by
  have h := (fn_is c1 (!b) p).1
  refine (fn_of c1 ?_).symm
  unfold Tn at h ⊢
  cases b with
  | true => exact h
  | false => exact h
end
end SR
namespace SR
section
variable {ks : List (Int × Int)}
/-- the row behind some sweeps -/
noncomputable def FnL (some : List (Int × Bool)) (p : Rws ks) : Rws ks := some.foldl (fun p s => Fn s p) p
end
end SR
set_option Elab.async false
set_option linter.all false
set_option maxRecDepth 100000
set_option maxHeartbeats 4000000
set_option Elab.async false
set_option linter.all false
set_option maxRecDepth 100000
set_option maxHeartbeats 4000000
set_option Elab.async false
set_option linter.all false
set_option maxRecDepth 100000
set_option maxHeartbeats 4000000
set_option Elab.async false
set_option linter.all false
set_option maxRecDepth 100000
set_option maxHeartbeats 4000000
set_option Elab.async false
set_option linter.all false
set_option maxRecDepth 100000
set_option maxHeartbeats 4000000
namespace SR
open PySem PySem.Spec PyProof.Rows L2
/-- a tuple of plain values -/
def Flat (H : Hp) (t : Addr) : Prop := ∃ xs ds, H t = some (.tup xs) ∧ (∀ (K : PySem.W.Frag) (H' : Hp), DpAll K H' xs ds) ∧ PyData.canLayAll0 ds = true ∧ PyData.depthAll ds ≤ 10
theorem Flat.kp {H H' : Hp} {d g c t : Addr} {b : Nat} (f : Flat H t) (S : StB H d g c b) (k : Kp d g H H') : Flat H' t := let ⟨xs, ds, h1, h2⟩ := f; ⟨xs, ds, kp_at S k h1 (fun _ z => nomatch z) (fun _ _ z => nomatch z), h2⟩
theorem Flat.same {H H' : Hp} {t : Addr} (f : Flat H t) (s : Same H H') : Flat H' t := let ⟨xs, ds, h1, h2⟩ := f; ⟨xs, ds, s _ _ h1, h2⟩
/-- their data -/
theorem flats {H : Hp} : ∀ {ts : List Addr}, (∀ t ∈ ts, Flat H t) → ∃ ds, (∀ K, DpAll K H (ts.map V.ref) ds) ∧ PyData.canLayAll0 ds = true ∧ PyData.depthAll ds ≤ 50 ∧ ds.length = ts.length
  | [], _ => ⟨[], fun K => .nil, rfl, Nat.zero_le _, rfl⟩
  | t :: ts, h => by
    obtain ⟨ds, h1, h2, h3, h4⟩ := flats fun u m => h u (List.mem_cons_of_mem _ m)
    obtain ⟨xs, es, g1, g2, g3, g4⟩ := h t List.mem_cons_self
    refine ⟨.tuple es :: ds, fun K => .cons (.tup (SqT.of g1) (g2 K H)) (h1 K), ?_, ?_, by rw [List.length_cons, List.length_cons, h4]⟩
    · show (PyData.canLay0 (.tuple es) && PyData.canLayAll0 ds) = true
      rw [h2, Bool.and_true]
      exact g3
    · show max (PyData.depth (.tuple es)) (PyData.depthAll ds) ≤ 50
      simp only [PyData.depth]
      omega
def spShuffled (K : PySem.W.Frag) : Sp := fun vs H Q _ => ∃ (d g c : Addr) (b : Nat) (a : Addr) (ts : List Addr), vs = [.ref d, .ref a] ∧ StB H d g c (b + 64) ∧ SqL K H a (ts.map V.ref) ∧ ts.length ≤ 60 ∧ (∀ t ∈ ts, Flat H t) ∧
  ∀ (r : Addr) (H' : Hp) (us : List Addr), StB H' d g c b → Kp d g H H' → r ≠ d → r ≠ g → r ≠ c → H r = none → H' r = some (.lst (us.map V.ref)) → us.Perm ts → Q (.ref r) H'
def t_shBody (K : PySem.W.Frag) : TS := (tDrop (tBM K "list" rAppend (tVar 3) (tCons (tBM K "list" rPopAt (tVar 2) (tCons (tCall spTake [] E0 (tCons (tVar 0) (tCons (tCB (qLen K) (tCons (tVar 2) (tNil))) (tNil)))) (tNil))) (tNil))))
def t_shuffled (K : PySem.W.Frag) : TS := tSeq (tPar 2 3 (tCons (tCB (qListOf K) (tCons (tVar 1) (tNil))) (tCons (tLst (tNil)) (tNil))))
  (tSeq (tWhile (tTest (tOp (rNeD K) (tVar 2) (tLst (tNil))))
  (t_shBody K))
  (tRet (tVar 3)))
theorem erase_perm {α : Type} : ∀ {xs : List α} {k : Nat} {y : α}, xs[k]? = some y → (y :: xs.eraseIdx k).Perm xs
  | [], _, _, h => by simp at h
  | x :: xs, 0, y, h => by
    have : x = y := by simpa using h
    subst this
    exact .refl _
  | x :: xs, k + 1, y, h => by
    have h2 : xs[k]? = some y := by simpa using h
    exact (List.Perm.swap x y _).trans (.cons x (erase_perm h2))
theorem erase_map : ∀ (xs : List Addr) (k : Nat), (xs.map V.ref).eraseIdx k = (xs.eraseIdx k).map V.ref
  | [], _ => rfl
  | _ :: _, 0 => rfl
  | x :: xs, k + 1 => by
    show V.ref x :: (xs.map V.ref).eraseIdx k = V.ref x :: (xs.eraseIdx k).map V.ref
    rw [erase_map xs k]
theorem sh_body {K : PySem.W.Frag} {H : Hp} {d g c s f : Addr} {b : Nat} {sp fo : List Addr} {w1 : Option V} {N N2 N3 : L2.St → Hp → Prop} {R : VK} (S : StB H d g c (b + 1)) (hs : H s = some (.lst (sp.map V.ref))) (hf : H f = some (.lst (fo.map V.ref))) (s1 : s ≠ d) (s2 : s ≠ g) (s3 : s ≠ c) (f1 : f ≠ d) (f2 : f ≠ g) (f3 : f ≠ c) (nsf : s ≠ f) (ne : sp ≠ []) (l60 : sp.length ≤ 60) (lf : fo.length ≤ 60)
    (hN : ∀ (H' : Hp) (sp' fo' : List Addr), StB H' d g c b → (∀ x o, x ≠ s → x ≠ f → x ≠ d → x ≠ g → H x = some o → H' x = some o) → H' s = some (.lst (sp'.map V.ref)) → H' f = some (.lst (fo'.map V.ref)) → sp'.length + 1 = sp.length → fo'.length = fo.length + 1 → (sp' ++ fo').Perm (sp ++ fo) → N [some (.ref d), w1, some (.ref s), some (.ref f)] H') :
    t_shBody K { nx := N, rt := R, bk := N2, ct := N3 } [some (.ref d), w1, some (.ref s), some (.ref f)] H := by
  have pos : 0 < sp.length := List.length_pos_iff.mpr ne
  refine ⟨_, rfl, .inl ⟨rfl, _, SqL.of hf⟩, _, rfl, .inl ⟨rfl, _, SqL.of hs⟩, _, rfl, _, rfl, s, _, rfl, .inl (SqL.of hs), d, g, c, b, _, rfl, S, by rw [List.length_map]; omega, by rw [List.length_map]; omega, fun i H1 i0 i1 S1 q1 => ?_⟩
  rw [List.length_map] at i1
  obtain ⟨k, rfl⟩ : ∃ k : Nat, i = (k : Int) := ⟨i.toNat, by omega⟩
  have kl : k < sp.length := by omega
  have hs1 := q1 _ _ s1 s2 hs
  have hf1 := q1 _ _ f1 f2 hf
  have at_ : (sp.map V.ref)[k]? = some (V.ref sp[k]) := by rw [List.getElem?_map, List.getElem?_eq_getElem kl]; rfl
  refine ⟨s, _, (k : Int), k, .ref sp[k], rfl, rfl, hs1, by omega, by omega, ?_, at_, ?_⟩
  · rw [List.length_map]
    simp only [seqIndex?]
    have n : ¬ (k : Int) < 0 := by omega
    simp only [n, if_false]
    have y : (decide (0 ≤ (k : Int)) && decide ((k : Int) < (sp.length : Int))) = true := by rw [decide_eq_true (show 0 ≤ (k : Int) by omega), decide_eq_true (show (k : Int) < (sp.length : Int) by omega)]; rfl
    rw [if_pos y]
    rfl
  have e1 : (sp.map V.ref).eraseIdx k = (sp.eraseIdx k).map V.ref := erase_map sp k
  rw [e1]
  have S2 := S1.upd (o := .lst ((sp.eraseIdx k).map V.ref)) s1 s2 s3
  have hf2 : upd H1 s (.lst ((sp.eraseIdx k).map V.ref)) f = some (.lst (fo.map V.ref)) := (upd_ne nsf.symm).trans hf1
  have hs2 : upd H1 s (.lst ((sp.eraseIdx k).map V.ref)) s = some (.lst ((sp.eraseIdx k).map V.ref)) := upd_same
  have k2 : ∀ x o, x ≠ s → H1 x = some o → upd H1 s (.lst ((sp.eraseIdx k).map V.ref)) x = some o := fun x o e h => (upd_ne e).trans h
  generalize upd H1 s (.lst ((sp.eraseIdx k).map V.ref)) = H2 at S2 hf2 hs2 k2 ⊢
  refine ⟨f, _, _, rfl, rfl, hf2, by rw [List.length_map]; exact Nat.lt_of_le_of_lt lf (by decide), ?_⟩
  have el := List.length_eraseIdx_of_lt kl
  refine hN _ (sp.eraseIdx k) (fo ++ [sp[k]]) (S2.upd f1 f2 f3) (fun x o e1 e2 e3 e4 h => (upd_ne e2).trans (k2 _ _ e1 (q1 _ _ e3 e4 h))) ((upd_ne nsf).trans hs2) (by rw [upd_same, List.map_append]; rfl) (by omega) (by rw [List.length_append]; rfl) ?_
  have ep := erase_perm (List.getElem?_eq_getElem kl)
  have a : (sp.eraseIdx k ++ (fo ++ [sp[k]])).Perm (sp[k] :: sp.eraseIdx k ++ fo) := by
    rw [← List.append_assoc]
    exact (List.perm_append_comm (l₁ := sp.eraseIdx k ++ fo) (l₂ := [sp[k]]))
  exact a.trans (ep.append_right fo)
theorem pure_shuffled {K : PySem.W.Frag} (vs : List V) (H : Hp) (Q : VK) (E : XK) (h : spShuffled K vs H Q E) : t_shuffled K { nx := fun _ H' => Q .non H', rt := Q } (start ["state", "some", "spare", "found"] vs) H := by
  obtain ⟨d, g, c, b, a, ts, rfl, S, hA, l60, fl, q⟩ := h
  refine ⟨_, rfl, a, _, rfl, .inl hA, fun s hs => ?_⟩
  obtain ⟨s1, s2, s3⟩ := S.off hs
  have S1 := S.new (o := .lst (ts.map V.ref)) hs
  have hs1 : upd H s (.lst (ts.map V.ref)) s = some (.lst (ts.map V.ref)) := upd_same
  have e1 := same_new (o := .lst (ts.map V.ref)) hs
  generalize upd H s (.lst (ts.map V.ref)) = H1 at S1 hs1 e1 ⊢
  refine ⟨sz (Nat.zero_le _), fun f hf => ⟨_, _, rfl, ?_⟩⟩
  obtain ⟨f1, f2, f3⟩ := S1.off hf
  have S2 := S1.new (o := .lst []) hf
  have hs2 := same_new (o := .lst []) hf _ _ hs1
  have hf2 : upd H1 f (.lst []) f = some (.lst []) := upd_same
  have e2 := e1.trans (same_new (o := .lst []) hf)
  have nsf : s ≠ f := ne_of_none hs1 hf
  have hf0 : H f = none := Same.free e1 hf
  generalize upd H1 f (.lst []) = H2 at S2 hs2 hf2 e2 ⊢
  refine ⟨fun m σ H3 => ∃ sp fo, m = sp.length ∧ StB H3 d g c (b + m) ∧ (∀ x o, x ≠ s → x ≠ f → x ≠ d → x ≠ g → H2 x = some o → H3 x = some o) ∧ H3 s = some (.lst (sp.map V.ref)) ∧ H3 f = some (.lst (fo.map V.ref)) ∧ sp.length + fo.length = ts.length ∧ (sp ++ fo).Perm ts ∧ σ = [some (.ref d), some (.ref a), some (.ref s), some (.ref f)],
    ⟨ts.length, ts, [], rfl, S2.mono (by omega), (fun x o _ _ _ _ h => h), hs2, hf2, rfl, by rw [List.append_nil], rfl⟩, ?_⟩
  rintro m σ H3 ⟨sp, fo, rfl, S3, k3, hs3, hf3, len, pm, rfl⟩
  have fls : ∀ t ∈ sp, Flat H3 t := fun t m => by
    obtain ⟨xs, ds, h1, h2⟩ := fl t (pm.mem_iff.mp (List.mem_append_left _ m))
    have h3 := e2 _ _ h1
    refine ⟨xs, ds, k3 _ _ (fun z => ?_) (fun z => ?_) (fun z => ?_) (fun z => ?_) h3, h2⟩
    · rw [z, hs2] at h3
      cases h3
    · rw [z, hf2] at h3
      cases h3
    · rw [z] at h3
      obtain ⟨_, _, _, _, x1, x2, _⟩ := S2
      rw [x1] at h3
      cases h3
    · rw [z] at h3
      obtain ⟨_, _, _, _, x1, x2, _⟩ := S2
      rw [x2] at h3
      cases h3
  obtain ⟨ds, d1, d2, d3, d4⟩ := flats fls
  refine ⟨_, rfl, sz (Nat.zero_le _), fun e he => ⟨.list ds, .list [], ?_, .lst (SqL.of upd_same) .nil, shaped_list d2 (by omega), shaped_ints [], _, rfl, ?_⟩⟩
  · exact Dp.same (same_new he) _ _ (.lst (SqL.of hs3) (d1 K))
  obtain ⟨n1, n2, n3⟩ := S3.off he
  have S4 := S3.new (o := .lst []) he
  have k4 : ∀ x o, x ≠ s → x ≠ f → x ≠ d → x ≠ g → H2 x = some o → upd H3 e (.lst []) x = some o := fun x o z1 z2 z3 z4 h => same_new he _ _ (k3 _ _ z1 z2 z3 z4 h)
  have hs4 := same_new (o := .lst []) he _ _ hs3
  have hf4 := same_new (o := .lst []) he _ _ hf3
  generalize upd H3 e (.lst []) = H4 at S4 k4 hs4 hf4 ⊢
  cases sp with
  | cons y sp =>
    cases ds with
    | nil => cases d4
    | cons x ds =>
    rw [show (!PyData.eqv (.list (x :: ds)) (.list [])) = true from rfl]
    refine iteT ⟨_, fun σ' H' z => z, ?_⟩
    have hb : b + (y :: sp).length = (b + sp.length) + 1 := by rw [List.length_cons]; omega
    rw [hb] at S4
    rw [List.length_cons] at len
    refine sh_body S4 hs4 hf4 s1 s2 s3 f1 f2 f3 nsf (by simp) (by rw [List.length_cons]; omega) (by omega) fun H' sp' fo' S' k' hs' hf' l1 l2 pm' => ⟨sp'.length, by omega, sp', fo', rfl, ?_, fun x o z1 z2 z3 z4 h => k' _ _ z1 z2 z3 z4 (k4 _ _ z1 z2 z3 z4 h), hs', hf', ?_, pm'.trans pm, rfl⟩
    · rw [List.length_cons] at l1
      rw [show sp'.length = sp.length by omega]
      exact S'
    · rw [List.length_cons] at l1
      omega
  | nil =>
    cases ds with
    | cons x ds => cases d4
    | nil =>
    rw [show (!PyData.eqv (.list []) (.list [])) = false from rfl]
    refine iteF ⟨_, rfl, q f H4 fo (S4.mono (by omega)) (fun x o z3 z4 h => k4 _ _ (ne_of_none h hs) (ne_of_none h hf0) z3 z4 (e2 _ _ h)) f1 f2 f3 hf0 hf4 ?_⟩
    exact pm
end SR
set_option Elab.async false
set_option linter.all false
set_option maxRecDepth 100000
set_option maxHeartbeats 4000000
namespace SR
open PySem PySem.Spec PyProof.Rows L2
theorem perm_paired {α β : Type} {F : α → β → Prop} {us ts : List α} (h : us.Perm ts) : ∀ {xs : List β}, Paired F ts xs → ∃ ys, Paired F us ys ∧ ys.Perm xs := by
  induction h with
  | nil => exact fun p => ⟨_, p, .refl _⟩
  | cons a h ih =>
    intro xs p
    cases p with
    | cons f t =>
      obtain ⟨ys, h1, h2⟩ := ih t
      exact ⟨_, .cons f h1, .cons _ h2⟩
  | swap a b l =>
    intro xs p
    cases p with
    | cons f t =>
      cases t with
      | cons g t => exact ⟨_, .cons g (.cons f t), .swap _ _ _⟩
  | trans h1 h2 ih1 ih2 =>
    intro xs p
    obtain ⟨ys, a1, a2⟩ := ih2 p
    obtain ⟨zs, b1, b2⟩ := ih1 a1
    exact ⟨zs, b1, b2.trans a2⟩
section
variable {K : PySem.W.Frag} {C B : Addr} {ks : List (Int × Int)}
/-- a sweep, or an inverse one, by its promise -/
theorem sweep_fn {H : Hp} {y : Addr} {p : Rws ks} {c : Int} {Q : VK} (row : RowAt K C H y p.1 ks) (c1 : 1 ≤ c) (c2 : c ≤ 99) (q : ∀ z H', Same H H' → RowAt K C H' z (Fn (c, false) p).1 ks → Q (.ref z) H') : spSweep K C B [.ref y, .int c] H Q E0 := by
  have yes : btw 1 99 (.int c) = true := btw_iff.mpr ⟨c, rfl, c1, c2⟩
  refine ⟨y, .int c, _, p.1, ks, rfl, .int c, row, p.2.ok, p.2.ak, (fun z => by rw [yes] at z; cases z), fun m e m1 m2 z H' st hz s tr row' => q z H' s ?_⟩
  cases e
  obtain ⟨lo, la, _⟩ := left_ok p.2.ok c1 tr
  have := fn_of (p := p) (q := ⟨left st, lo, la, p.2.ak⟩) (b := false) c1 (sw_traces p.2.ok p.2.ap c1 tr)
  rw [← this]
  exact row'
theorem unsweep_fn {H : Hp} {y : Addr} {p : Rws ks} {c : Int} {Q : VK} (row : RowAt K C H y p.1 ks) (c1 : 1 ≤ c) (c2 : c ≤ 99) (q : ∀ z H', Same H H' → RowAt K C H' z (Fn (c, true) p).1 ks → Q (.ref z) H') : spUnsweep K C B [.ref y, .int c] H Q E0 := by
  have yes : btw 1 99 (.int c) = true := btw_iff.mpr ⟨c, rfl, c1, c2⟩
  refine ⟨y, .int c, _, p.1, ks, rfl, .int c, row, p.2.ok, p.2.ap, p.2.ak, (fun z => by rw [yes] at z; cases z), fun m e m1 m2 z H' st hz s tr row' ok' ap' => q z H' s ?_⟩
  cases e
  have v' : Vd (mirror (left st)) ks := ⟨ok', ap', p.2.ak⟩
  have vm := p.2.mirror
  have sw := sw_traces vm.ok vm.ap c1 tr
  have := fn_of (p := p) (q := ⟨mirror (left st), v'⟩) (b := true) c1 (by
    show Sw ks c (mirror (left st)) p.1
    refine sw_mirror p.2 v' c1 ?_
    rw [mirror_mirror]
    exact sw)
  rw [← this]
  exact row'
end
end SR
set_option Elab.async false
set_option linter.all false
set_option maxRecDepth 100000
set_option maxHeartbeats 4000000
set_option Elab.async false
set_option linter.all false
set_option maxRecDepth 100000
set_option maxHeartbeats 4000000
set_option Elab.async false
set_option linter.all false
set_option maxRecDepth 100000
set_option maxHeartbeats 4000000
set_option Elab.async false
set_option linter.all false
set_option maxRecDepth 100000
set_option maxHeartbeats 4000000
namespace L2
open PySem PySem.Spec PyProof.Rows
end L2
set_option Elab.async false
set_option linter.all false
set_option maxRecDepth 100000
set_option maxHeartbeats 1000000
set_option Elab.async false
set_option linter.all false
set_option maxRecDepth 100000
set_option maxHeartbeats 4000000
set_option Elab.async false
set_option linter.all false
set_option maxRecDepth 100000
set_option maxHeartbeats 2000000
set_option Elab.async false
set_option linter.all false
set_option maxRecDepth 100000
set_option maxHeartbeats 1000000
set_option Elab.async false
set_option linter.all false
set_option maxRecDepth 100000
set_option maxHeartbeats 1000000
namespace SR
open PySem PySem.Spec PyProof.Rows L2
def dropL (L : List Int) (p : Int) : List Int := L.filter fun y => decide (p ≤ y)
end SR
set_option Elab.async false
set_option linter.all false
set_option maxRecDepth 100000
set_option maxHeartbeats 1000000
set_option Elab.async false
set_option linter.all false
set_option maxRecDepth 100000
set_option maxHeartbeats 1000000
namespace SR
open PySem PySem.Spec PyProof.Rows L2
section
variable {K : PySem.W.Frag} {H0 : Hp} {l F O : Addr} {L : List Int} {first : Int} {n : Nat}
/-- behind at signs of the word -/
structure Wlk (H0 : Hp) (F O : Addr) (L : List Int) (first : Int) (n : Nat) (at_ g : Nat) (f o : List Int) (H : Hp) : Prop where
  le : at_ ≤ n
  b : But2 F O H0 H
  hf : H F = some (.lst (f.map V.int))
  ho : H O = some (.lst (o.map V.int))
  e : (f ++ (cutL (dropL L (first + (at_ : Int))) (g : Int)).1, o ++ (cutL (dropL L (first + (at_ : Int))) (g : Int)).2) = cutL L 0
theorem Wlk.len {H : Hp} {at_ g : Nat} {f o : List Int} (w : Wlk H0 F O L first n at_ g f o H) : f.length + o.length ≤ L.length := by
  have h := cutL_len L 0
  have h1 : (cutL L 0).1 = f ++ (cutL (dropL L (first + (at_ : Int))) (g : Int)).1 := by rw [← w.e]
  have h2 : (cutL L 0).2 = o ++ (cutL (dropL L (first + (at_ : Int))) (g : Int)).2 := by rw [← w.e]
  rw [h1, h2, List.length_append, List.length_append] at h
  omega
end
end SR
set_option Elab.async false
set_option linter.all false
set_option maxRecDepth 100000
set_option maxHeartbeats 1000000
namespace SR
open PySem PySem.Spec PyProof.Rows L2
theorem cutL_cons (x : Int) (xs : List Int) (g : Int) : cutL (x :: xs) g = if xs.head? = some (x + 1) then ((x - 2 * g) :: (cutL xs g).1, (cutL xs g).2) else ((cutL xs (g + 1)).1, (x - 2 * g) :: (cutL xs (g + 1)).2) := rfl
theorem cutL_shift (far : Int) : ∀ (L : List Int) (g : Int), cutL (L.map (· + far)) g = ((cutL L g).1.map (· + far), (cutL L g).2.map (· + far))
  | [], _ => rfl
  | x :: xs, g => by
    have h1 := cutL_shift far xs g
    have h2 := cutL_shift far xs (g + 1)
    have c : ((xs.map (· + far)).head? = some (x + far + 1)) ↔ (xs.head? = some (x + 1)) := by
      rw [List.head?_map]
      cases xs.head? with
      | none => exact ⟨(fun z => nomatch z), fun z => nomatch z⟩
      | some y =>
        show some (y + far) = some (x + far + 1) ↔ _
        constructor
        · intro z
          have := Option.some.inj z
          congr 1
          omega
        · intro z
          have := Option.some.inj z
          congr 1
          omega
    have e : x + far - 2 * g = x - 2 * g + far := by omega
    rw [List.map_cons, cutL_cons, cutL_cons, h1, h2, e]
    by_cases h : xs.head? = some (x + 1)
    · rw [if_pos h, if_pos (c.mpr h)]
      rfl
    · rw [if_neg h, if_neg fun z => h (c.mp z)]
      rfl
structure ErrK (K : PySem.W.Frag) (B S : Addr) (fld : Str) : Prop where
  exm : PySem.W.exmOne K (.ref B) (.ref S) = some true
  ec : ExcC K B
  kit : PySem.W.kitOne K (.ref B) (.ref B) = some true
  xf : XfC K B
  no : PySem.W.findIn K (.ref B) fld = some none
end SR
set_option Elab.async false
set_option linter.all false
set_option maxRecDepth 100000
set_option maxHeartbeats 1000000
namespace SR
def pos : List Bool → Int → List Int
  | [], _ => []
  | true :: bs, p => p :: pos bs (p + 1)
  | false :: bs, p => pos bs (p + 1)
theorem pos_ge : ∀ (bs : List Bool) (p : Int), ∀ y ∈ pos bs p, p ≤ y
  | [], _ => fun _ m => nomatch m
  | true :: bs, p => fun y m => by
    rcases List.mem_cons.mp m with rfl | m
    · exact Int.le_refl _
    · have := pos_ge bs (p + 1) y m
      omega
  | false :: bs, p => fun y m => by
    have := pos_ge bs (p + 1) y m
    omega
theorem pos_asc : ∀ (bs : List Bool) (p : Int), (pos bs p).Pairwise (· < ·)
  | [], _ => .nil
  | true :: bs, p => .cons (fun y m => by have := pos_ge bs (p + 1) y m; omega) (pos_asc bs (p + 1))
  | false :: bs, p => pos_asc bs (p + 1)
theorem pos_false (k : Nat) : ∀ p : Int, pos (List.replicate k false) p = [] := by
  induction k with
  | zero => exact fun _ => rfl
  | succ k ih => exact fun p => ih (p + 1)
theorem pos_app (k : Nat) : ∀ (bs : List Bool) (p : Int), pos (bs ++ List.replicate k false) p = pos bs p
  | [], p => pos_false k p
  | true :: bs, p => congrArg (p :: ·) (pos_app k bs (p + 1))
  | false :: bs, p => pos_app k bs (p + 1)
theorem pos_pre (bs : List Bool) (k : Nat) : ∀ p : Int, pos (List.replicate k false ++ bs) p = pos bs (p + k) := by
  induction k with
  | zero => exact fun p => by simp
  | succ k ih =>
    intro p
    show pos (List.replicate k false ++ bs) (p + 1) = _
    rw [ih, show p + 1 + (k : Int) = p + ((k + 1 : Nat) : Int) by omega]
theorem pos_shift (a : Int) : ∀ (bs : List Bool) (p : Int), pos bs (p + a) = (pos bs p).map (· + a)
  | [], _ => rfl
  | true :: bs, p => by
    show (p + a) :: pos bs (p + a + 1) = (p + a) :: (pos bs (p + 1)).map (· + a)
    rw [← pos_shift a bs (p + 1), show p + a + 1 = p + 1 + a by omega]
  | false :: bs, p => by
    show pos bs (p + a + 1) = (pos bs (p + 1)).map (· + a)
    rw [← pos_shift a bs (p + 1), show p + a + 1 = p + 1 + a by omega]
theorem bw_app : ∀ (a b : List Lx), bw (a ++ b) = bw a ++ bw b
  | [], _ => rfl
  | .z :: a, b => congrArg (false :: ·) (bw_app a b)
  | .o :: a, b => congrArg (true :: ·) (bw_app a b)
  | .m :: a, b => congrArg (true :: false :: ·) (bw_app a b)
theorem bk_app : ∀ (a b : List Lx), bk (a ++ b) = bk a ++ bk b
  | [], _ => rfl
  | .z :: a, b => congrArg (false :: ·) (bk_app a b)
  | .o :: a, b => congrArg (true :: ·) (bk_app a b)
  | .m :: a, b => bk_app a b
theorem bw_zs (k : Nat) : bw (zs k) = List.replicate k false := by
  induction k with
  | zero => rfl
  | succ k ih => rw [zs_succ, List.replicate_succ, ← ih]; rfl
theorem hd_pos : ∀ (w : List Lx) (p : Int), hdB w = true → (pos (bw w) p).head? = some p
  | .o :: _, _, _ => rfl
  | .m :: _, _, _ => rfl
theorem hdB_app {w : List Lx} (v : List Lx) (h : hdB w = true) : hdB (w ++ v) = true := by
  cases w with
  | nil => cases h
  | cons l w => cases l <;> first | exact h | rfl
theorem gd_zs (k : Nat) : gdB (zs k) = true := by
  induction k with
  | zero => rfl
  | succ k ih => exact ih
theorem gd_app (k : Nat) : ∀ {w : List Lx}, gdB w = true → gdB (w ++ zs k) = true
  | [], _ => gd_zs k
  | .z :: w, h => gd_app k (w := w) h
  | .m :: w, h => gd_app k (w := w) h
  | .o :: w, h => by
    have h : (hdB w && gdB w) = true := h
    rw [Bool.and_eq_true] at h
    show (hdB (w ++ zs k) && gdB (w ++ zs k)) = true
    rw [hdB_app _ h.1, gd_app k h.2]
    rfl
theorem gd_pre (k : Nat) (w : List Lx) : gdB (zs k ++ w) = gdB w := by
  induction k with
  | zero => rfl
  | succ k ih => exact ih
/-- a cut of a word's places -/
theorem cut_word : ∀ (w : List Lx) (p g : Int), gdB w = true → cutL (pos (bw w) p) g = (pos (bk w) (p - 2 * g), marks w (p - 2 * g))
  | [], _, _, _ => rfl
  | .z :: w, p, g, h => by
    show cutL (pos (bw w) (p + 1)) g = (pos (bk w) (p - 2 * g + 1), marks w (p - 2 * g + 1))
    rw [cut_word w (p + 1) g h, show p + 1 - 2 * g = p - 2 * g + 1 by omega]
  | .o :: w, p, g, h => by
    have h : (hdB w && gdB w) = true := h
    rw [Bool.and_eq_true] at h
    show cutL (p :: pos (bw w) (p + 1)) g = ((p - 2 * g) :: pos (bk w) (p - 2 * g + 1), marks w (p - 2 * g + 1))
    rw [cutL_cons, if_pos (hd_pos w (p + 1) h.1), cut_word w (p + 1) g h.2, show p + 1 - 2 * g = p - 2 * g + 1 by omega]
  | .m :: w, p, g, h => by
    show cutL (p :: pos (bw w) (p + 1 + 1)) g = (pos (bk w) (p - 2 * g), (p - 2 * g) :: marks w (p - 2 * g))
    rw [cutL_cons, if_neg (fun z => ?_), cut_word w (p + 1 + 1) (g + 1) h, show p + 1 + 1 - 2 * (g + 1) = p - 2 * g by omega]
    have m := List.mem_of_mem_head? (Option.mem_def.mpr z)
    have := pos_ge _ _ _ m
    omega
/-- every row has a word -/
theorem word_ex : ∀ (L : List Int) (p : Int), L.Pairwise (· < ·) → (∀ y ∈ L, p ≤ y) → ∃ w, gdB w = true ∧ pos (bw w) p = L ∧ (L.head? = some p → hdB w = true)
  | [], p, _, _ => ⟨[], rfl, rfl, fun z => nomatch z⟩
  | x :: xs, p, a, h => by
    have px := h x List.mem_cons_self
    obtain ⟨a1, a2⟩ := List.pairwise_cons.mp a
    by_cases c : xs.head? = some (x + 1)
    · obtain ⟨w, g, e, hd⟩ := word_ex xs (x + 1) a2 fun y m => by have := a1 y m; omega
      refine ⟨zs (x - p).toNat ++ .o :: w, ?_, ?_, fun z => ?_⟩
      · rw [gd_pre]
        show (hdB w && gdB w) = true
        rw [hd c, g]
        rfl
      · rw [bw_app, bw_zs, pos_pre]
        show (p + ((x - p).toNat : Int)) :: pos (bw w) (p + ((x - p).toNat : Int) + 1) = _
        rw [show p + ((x - p).toNat : Int) = x by omega, e]
      · have : x = p := Option.some.inj z
        rw [show (x - p).toNat = 0 by omega]
        rfl
    · obtain ⟨w, g, e, hd⟩ := word_ex xs (x + 1 + 1) a2 fun y m => by
        have := a1 y m
        by_cases q : y = x + 1
        · subst q
          cases xs with
          | nil => cases m
          | cons z zs =>
            rcases List.mem_cons.mp m with q | q
            · exact absurd (by rw [q]; rfl) c
            · have h1 := (List.pairwise_cons.mp a2).1 _ q
              have h2 := a1 z List.mem_cons_self
              omega
        · omega
      refine ⟨zs (x - p).toNat ++ .m :: w, ?_, ?_, fun z => ?_⟩
      · rw [gd_pre]
        exact g
      · rw [bw_app, bw_zs, pos_pre]
        show (p + ((x - p).toNat : Int)) :: pos (bw w) (p + ((x - p).toNat : Int) + 1 + 1) = _
        rw [show p + ((x - p).toNat : Int) = x by omega, e]
      · have : x = p := Option.some.inj z
        rw [show (x - p).toNat = 0 by omega]
        rfl
/-- the places behind the runs -/
def rends : List Int → List Int
  | [] => []
  | x :: xs => if xs.head? = some (x + 1) then rends xs else (x + 1) :: rends xs
theorem rends_cons (x : Int) (xs : List Int) : rends (x :: xs) = if xs.head? = some (x + 1) then rends xs else (x + 1) :: rends xs := rfl
theorem ends_pos : ∀ (bs : List Bool) (n : Int), ends false bs n = rends (pos bs n) ∧ ends true bs n = rends ((n - 1) :: pos bs n)
  | [], n => ⟨rfl, by
    rw [rends_cons, if_neg (fun z => nomatch z), show n - 1 + 1 = n by omega]
    rfl⟩
  | true :: bs, n => by
    have h := (ends_pos bs (n + 1)).2
    rw [show n + 1 - 1 = n by omega] at h
    refine ⟨h, ?_⟩
    rw [rends_cons, if_pos (show (pos (true :: bs) n).head? = some (n - 1 + 1) by rw [show n - 1 + 1 = n by omega]; rfl)]
    exact h
  | false :: bs, n => by
    have h := (ends_pos bs (n + 1)).1
    refine ⟨h, ?_⟩
    rw [rends_cons, if_neg (fun z => ?_)]
    · rw [show n - 1 + 1 = n by omega]
      show n :: ends false bs (n + 1) = _
      rw [h]
      rfl
    · have m := List.mem_of_mem_head? (Option.mem_def.mpr z)
      have := pos_ge bs (n + 1) _ m
      omega
theorem marks_ge : ∀ (w : List Lx) (n : Int), ∀ y ∈ marks w n, n ≤ y
  | [], _ => fun _ m => nomatch m
  | .z :: w, n => fun y m => by have := marks_ge w (n + 1) y m; omega
  | .o :: w, n => fun y m => by have := marks_ge w (n + 1) y m; omega
  | .m :: w, n => fun y m => by
    rcases List.mem_cons.mp m with rfl | m
    · exact Int.le_refl _
    · exact marks_ge w n y m
theorem marks_up : ∀ (w : List Lx) (n : Int), (marks w n).Pairwise (· ≤ ·)
  | [], _ => .nil
  | .z :: w, n => marks_up w (n + 1)
  | .o :: w, n => marks_up w (n + 1)
  | .m :: w, n => .cons (marks_ge w n) (marks_up w n)
theorem marks_shift (a : Int) : ∀ (w : List Lx) (n : Int), marks w (n + a) = (marks w n).map (· + a)
  | [], _ => rfl
  | .z :: w, n => by
    show marks w (n + a + 1) = (marks w (n + 1)).map (· + a)
    rw [← marks_shift a w (n + 1), show n + a + 1 = n + 1 + a by omega]
  | .o :: w, n => by
    show marks w (n + a + 1) = (marks w (n + 1)).map (· + a)
    rw [← marks_shift a w (n + 1), show n + a + 1 = n + 1 + a by omega]
  | .m :: w, n => by
    show (n + a) :: marks w (n + a) = (n + a) :: (marks w n).map (· + a)
    rw [← marks_shift a w n]
theorem ends_tf (bs : List Bool) (N x : Int) : (ends true bs N).count x ≤ (if N == x then 1 else 0) + (ends false bs N).count x := by
  cases bs with
  | nil =>
    show ([N] : List Int).count x ≤ _ + ([] : List Int).count x
    rw [List.count_cons]
    omega
  | cons b bs =>
    cases b with
    | true =>
      show (ends true bs (N + 1)).count x ≤ _ + (ends true bs (N + 1)).count x
      omega
    | false =>
      show (N :: ends false bs (N + 1)).count x ≤ _ + (ends false bs (N + 1)).count x
      rw [List.count_cons]
      omega
/-- behind each run of the cut row a pair was removed -/
theorem ends_le : ∀ (w : List Lx), gdB w = true → ∀ N x : Int, (ends false (bk w) N).count x ≤ (marks w N).count x ∧ (hdB w = true → (ends true (bk w) N).count x ≤ (marks w N).count x)
  | [], _, N, x => ⟨Nat.le_refl _, fun z => nomatch z⟩
  | .z :: w, h, N, x => ⟨(ends_le w h (N + 1) x).1, fun z => nomatch z⟩
  | .o :: w, h, N, x => by
    have h : (hdB w && gdB w) = true := h
    rw [Bool.and_eq_true] at h
    have := (ends_le w h.2 (N + 1) x).2 h.1
    exact ⟨this, fun _ => this⟩
  | .m :: w, h, N, x => by
    have h1 := (ends_le w h N x).1
    have h2 := ends_tf (bk w) N x
    refine ⟨?_, fun _ => ?_⟩
    · show (ends false (bk w) N).count x ≤ (N :: marks w N).count x
      rw [List.count_cons]
      omega
    · show (ends true (bk w) N).count x ≤ (N :: marks w N).count x
      rw [List.count_cons]
      omega
/-- the list without the items of another one -/
def less (B E : List Int) : List Int := E.foldl List.erase B
theorem less_count (x : Int) : ∀ (E B : List Int), (less B E).count x = B.count x - E.count x
  | [], B => rfl
  | e :: E, B => by
    show (less (B.erase e) E).count x = _
    rw [less_count x E, List.count_erase, List.count_cons]
    omega
theorem less_sub : ∀ (E B : List Int), (less B E).Sublist B
  | [], B => List.Sublist.refl B
  | e :: E, B => (less_sub E (B.erase e)).trans List.erase_sublist
/-- the offsets of the trains of length 1 -/
def ofs (L : List Int) : List Int := less (cutL L 0).2 (rends (cutL L 0).1)
theorem up_eq : ∀ {a b : List Int}, a.Pairwise (· ≤ ·) → b.Pairwise (· ≤ ·) → (∀ x, a.count x = b.count x) → a = b
  | [], [], _, _, _ => rfl
  | [], y :: b, _, _, h => by
    have := h y
    rw [List.count_cons_self] at this
    cases this
  | x :: a, [], _, _, h => by
    have := h x
    rw [List.count_cons_self] at this
    cases this
  | x :: a, y :: b, ha, hb, h => by
    obtain ⟨a1, a2⟩ := List.pairwise_cons.mp ha
    obtain ⟨b1, b2⟩ := List.pairwise_cons.mp hb
    have mx : x ∈ y :: b := List.count_pos_iff.mp (by rw [← h x, List.count_cons_self]; exact Nat.succ_pos _)
    have my : y ∈ x :: a := List.count_pos_iff.mp (by rw [h y, List.count_cons_self]; exact Nat.succ_pos _)
    have e : x = y := by
      rcases List.mem_cons.mp mx with q | q
      · exact q
      · rcases List.mem_cons.mp my with r | r
        · exact r.symm
        · have h1 := b1 x q
          have h2 := a1 y r
          omega
    subst e
    rw [up_eq a2 b2 fun z => by
      have := h z
      rw [List.count_cons, List.count_cons] at this
      omega]
end SR
set_option Elab.async false
set_option linter.all false
set_option maxRecDepth 100000
set_option maxHeartbeats 1000000
namespace SR
open PySem PySem.Spec PyProof.Rows L2
def cB (L : List Int) (i : Int) : Int := if i ∈ L then 1 else 0
theorem cnt_ones (i : Int) : ∀ L : List Int, cnt (ones L) i = cB L i
  | [] => rfl
  | x :: L => by
    have ih := cnt_ones i L
    unfold cnt cB at ih ⊢
    show (List.lookup i ((x, 1) :: ones L)).getD 0 = _
    by_cases h : i = x
    · subst h
      rw [List.lookup_cons_self, if_pos List.mem_cons_self]
      rfl
    · have : (i == x) = false := by simpa using h
      rw [List.lookup_cons, this]
      show ((ones L).lookup i).getD 0 = _
      rw [ih]
      by_cases m : i ∈ L
      · rw [if_pos m, if_pos (List.mem_cons_of_mem _ m)]
      · rw [if_neg m, if_neg fun z => (List.mem_cons.mp z).elim h m]
/-- the load at the end -/
def fin (c : Nat) : Nat → List Bool → Nat
  | u, [] => u
  | u, true :: bs => if u < c then fin c (u + 1) bs else fin c u bs
  | u, false :: bs => fin c (u - 1) bs
theorem fin_falses {c : Nat} : ∀ (k u : Nat), u ≤ k → fin c u (List.replicate k false) = 0
  | 0, u, h => by
    show u = 0
    omega
  | k + 1, u, h => fin_falses k (u - 1) (by omega)
theorem fin_zero {c k : Nat} : ∀ (bs : List Bool) (u : Nat), u + bs.length ≤ k → fin c u (bs ++ List.replicate k false) = 0
  | [], u, h => fin_falses k u (by simpa using h)
  | true :: bs, u, h => by
    rw [List.length_cons] at h
    show (if u < c then fin c (u + 1) (bs ++ _) else fin c u (bs ++ _)) = 0
    split
    · exact fin_zero bs (u + 1) (by omega)
    · exact fin_zero bs u (by omega)
  | false :: bs, u, h => by
    rw [List.length_cons] at h
    exact fin_zero bs (u - 1) (by omega)
theorem len_sw {c : Nat} : ∀ (bs : List Bool) (u : Nat) (p : Int), (pos (swB c u bs) p).length + fin c u bs = (pos bs p).length + u
  | [], u, p => rfl
  | true :: bs, u, p => by
    by_cases h : u < c
    · rw [swB_t h]
      show (pos (swB c (u + 1) bs) (p + 1)).length + (if u < c then fin c (u + 1) bs else fin c u bs) = (pos bs (p + 1)).length + 1 + u
      rw [if_pos h]
      have := len_sw (c := c) bs (u + 1) (p + 1)
      omega
    · rw [swB_tf h]
      show (pos (swB c u bs) (p + 1)).length + 1 + (if u < c then fin c (u + 1) bs else fin c u bs) = (pos bs (p + 1)).length + 1 + u
      rw [if_neg h]
      have := len_sw (c := c) bs u (p + 1)
      omega
  | false :: bs, u, p => by
    by_cases h : 0 < u
    · rw [swB_f h]
      show (pos (swB c (u - 1) bs) (p + 1)).length + 1 + fin c (u - 1) bs = (pos bs (p + 1)).length + u
      have := len_sw (c := c) bs (u - 1) (p + 1)
      omega
    · obtain rfl : u = 0 := by omega
      rw [swB_z]
      exact len_sw bs 0 (p + 1)
def ldB (c : Nat) : Nat → List Bool → Int → Int → Int
  | u, [], _, _ => u
  | u, true :: bs, p, i => if i ≤ p then u else ldB c (if u < c then u + 1 else u) bs (p + 1) i
  | u, false :: bs, p, i => if i ≤ p then u else ldB c (u - 1) bs (p + 1) i
theorem ldB_le {c u : Nat} {bs : List Bool} {p i : Int} (h : i ≤ p) : ldB c u bs p i = u := by
  cases bs with
  | nil => rfl
  | cons b bs => cases b <;> exact if_pos h
theorem ldB_hi {c : Nat} : ∀ (bs : List Bool) (u : Nat) (p i : Int), fin c u bs = 0 → p + bs.length ≤ i → ldB c u bs p i = 0
  | [], u, p, i, h, _ => by
    have h : u = 0 := h
    subst h
    rfl
  | true :: bs, u, p, i, h, l => by
    rw [List.length_cons] at l
    show (if i ≤ p then (u : Int) else ldB c (if u < c then u + 1 else u) bs (p + 1) i) = 0
    rw [if_neg (by omega)]
    have h : (if u < c then fin c (u + 1) bs else fin c u bs) = 0 := h
    refine ldB_hi bs _ (p + 1) i ?_ (by omega)
    split
    · rename_i z
      rw [if_pos z] at h
      exact h
    · rename_i z
      rw [if_neg z] at h
      exact h
  | false :: bs, u, p, i, h, l => by
    rw [List.length_cons] at l
    show (if i ≤ p then (u : Int) else ldB c (u - 1) bs (p + 1) i) = 0
    rw [if_neg (by omega)]
    exact ldB_hi bs (u - 1) (p + 1) i h (by omega)
theorem cB_t (bs : List Bool) (p : Int) : cB (pos (true :: bs) p) p = 1 := if_pos List.mem_cons_self
theorem cB_f (bs : List Bool) (p : Int) : cB (pos (false :: bs) p) p = 0 := if_neg fun m => by
  have := pos_ge bs (p + 1) p m
  omega
theorem cB_n (b : Bool) (bs : List Bool) {p i : Int} (h : p < i) : cB (pos (b :: bs) p) i = cB (pos bs (p + 1)) i := by
  cases b with
  | false => rfl
  | true =>
    show cB (p :: pos bs (p + 1)) i = _
    unfold cB
    by_cases m : i ∈ pos bs (p + 1)
    · rw [if_pos m, if_pos (List.mem_cons_of_mem _ m)]
    · rw [if_neg m, if_neg fun z => (List.mem_cons.mp z).elim (fun e => by omega) m]
theorem sw_at {c : Nat} (c1 : 1 ≤ c) : ∀ (bs : List Bool) (u : Nat) (p : Int), u ≤ c → fin c u bs = 0 → ∀ i, p ≤ i →
    0 ≤ ldB c u bs p i ∧ ldB c u bs p i ≤ c ∧ cB (pos (swB c u bs) p) i = stC c (ldB c u bs p i) 1 (cB (pos bs p) i) ∧ ldB c u bs p (i + 1) = stL c (ldB c u bs p i) 1 (cB (pos bs p) i)
  | [], u, p, hu, h, i, hi => by
    have h : u = 0 := h
    subst h
    refine ⟨Int.le_refl _, ?_, ?_, ?_⟩
    · show (0 : Int) ≤ c
      omega
    · show (0 : Int) = 0 - min ((c : Int) - 0) 0 + min 0 (1 - 0)
      omega
    · show (0 : Int) = 0 + min ((c : Int) - 0) 0 - min 0 (1 - 0)
      omega
  | b :: bs, u, p, hu, h, i, hi => by
    obtain ⟨u', e1, e2, e3, e4, e5⟩ : ∃ u' : Nat, u' ≤ c ∧ fin c u' bs = 0 ∧ (∀ i, p < i → ldB c u (b :: bs) p i = ldB c u' bs (p + 1) i) ∧ (∃ b', swB c u (b :: bs) = b' :: swB c u' bs ∧ cB (pos (b' :: swB c u' bs) p) p = stC c u 1 (cB (pos (b :: bs) p) p)) ∧ (u' : Int) = stL c u 1 (cB (pos (b :: bs) p) p) := by
      cases b with
      | true =>
        have h : (if u < c then fin c (u + 1) bs else fin c u bs) = 0 := h
        rw [cB_t]
        by_cases z : u < c
        · rw [if_pos z] at h
          refine ⟨u + 1, by omega, h, fun i hi => ?_, ⟨false, swB_t z, ?_⟩, ?_⟩
          · show (if i ≤ p then (u : Int) else ldB c (if u < c then u + 1 else u) bs (p + 1) i) = _
            rw [if_neg (by omega), if_pos z]
          · rw [cB_f]
            unfold stC
            omega
          · unfold stL
            omega
        · rw [if_neg z] at h
          refine ⟨u, hu, h, fun i hi => ?_, ⟨true, swB_tf z, ?_⟩, ?_⟩
          · show (if i ≤ p then (u : Int) else ldB c (if u < c then u + 1 else u) bs (p + 1) i) = _
            rw [if_neg (by omega), if_neg z]
          · rw [cB_t]
            unfold stC
            omega
          · unfold stL
            omega
      | false =>
        have h : fin c (u - 1) bs = 0 := h
        rw [cB_f]
        refine ⟨u - 1, by omega, h, fun i hi => ?_, ?_, ?_⟩
        · show (if i ≤ p then (u : Int) else ldB c (u - 1) bs (p + 1) i) = _
          rw [if_neg (by omega)]
        · by_cases z : 0 < u
          · refine ⟨true, swB_f z, ?_⟩
            rw [cB_t]
            unfold stC
            omega
          · obtain rfl : u = 0 := by omega
            refine ⟨false, swB_z, ?_⟩
            rw [cB_f]
            unfold stC
            omega
        · unfold stL
          omega
    obtain ⟨b', e4, e6⟩ := e4
    rw [e4]
    by_cases z : i = p
    · subst z
      rw [ldB_le (Int.le_refl i), e3 (i + 1) (by omega), ldB_le (Int.le_refl _), e6, ← e5]
      exact ⟨by omega, by omega, rfl, rfl⟩
    · have lt : p < i := by omega
      rw [e3 i lt, e3 (i + 1) (by omega), cB_n b' _ lt, cB_n b _ lt]
      exact sw_at c1 bs u' (p + 1) e1 e2 i (by omega)
theorem sw_bits {c : Nat} (c1 : 1 ≤ c) {bs : List Bool} {p : Int} (h : fin c 0 bs = 0) : Sw [] c (ones (pos bs p)) (ones (pos (swB c 0 bs) p)) := by
  refine ⟨ldB c 0 bs p, ⟨p, fun i hi => ldB_le hi⟩, ⟨p + bs.length, fun i hi => ldB_hi bs 0 p i h hi⟩, fun i => ?_⟩
  rw [cnt_ones, cnt_ones]
  show 0 ≤ _ ∧ _ ∧ _ = stC c _ 1 _ ∧ _ = stL c _ 1 _
  by_cases z : p ≤ i
  · exact sw_at c1 bs 0 p (Nat.zero_le c) h i z
  · have n : ∀ bs : List Bool, cB (pos bs p) i = 0 := fun bs => if_neg fun m => z (pos_ge bs p i m)
    rw [ldB_le (by omega), ldB_le (by omega), n, n]
    refine ⟨by omega, by omega, ?_, ?_⟩
    · unfold stC
      omega
    · unfold stL
      omega
theorem swB_0 : ∀ bs : List Bool, swB 0 0 bs = bs
  | [] => rfl
  | true :: bs => by rw [swB_tf (Nat.lt_irrefl 0), swB_0 bs]
  | false :: bs => by rw [swB_z, swB_0 bs]
/-- L' is L after a sweep of a carrier of the capacity c, or L if there is none -/
structure TL (c : Nat) (L L' : List Int) : Prop where
  a : L.Pairwise (· < ·)
  b : L'.Pairwise (· < ·)
  none : c = 0 → L' = L
  sw : 1 ≤ c → Sw [] c (ones L) (ones L')
theorem sw_uni {c : Int} {ks ps qs qs' : List (Int × Int)} (a : Asc qs) (b : Asc qs') (o : ∀ p ∈ qs, 1 ≤ p.2) (o' : ∀ p ∈ qs', 1 ≤ p.2) (h : Sw ks c ps qs) (h' : Sw ks c ps qs') : qs = qs' := by
  obtain ⟨l, ⟨a0, ha⟩, _, st⟩ := h
  obtain ⟨l', ⟨a', ha'⟩, _, st'⟩ := h'
  have eq : ∀ i, l i = l' i := by
    intro i
    by_cases z : i ≤ min a0 a'
    · rw [ha i (by omega), ha' i (by omega)]
    · refine up_from (P := fun i => l i = l' i) (min a0 a') (by rw [ha _ (by omega), ha' _ (by omega)]) (fun j _ e => ?_) i (by omega)
      rw [(st j).2.2.2, (st' j).2.2.2, e]
  exact cnt_eq a b o o' fun i => by rw [(st i).2.2.1, (st' i).2.2.1, eq]
theorem ones_one (L : List Int) : ∀ p ∈ ones L, 1 ≤ p.2 := fun p m => by
  obtain ⟨y, _, rfl⟩ := List.mem_map.mp m
  exact Int.le_refl 1
theorem swL_one {c : Int} {L L' L'' : List Int} (a : L'.Pairwise (· < ·)) (b : L''.Pairwise (· < ·)) (h : Sw [] c (ones L) (ones L')) (h' : Sw [] c (ones L) (ones L'')) : L' = L'' := by
  have := sw_uni (ones_asc a) (ones_asc b) (ones_one _) (ones_one _) h h'
  rw [← ones_fst L', this, ones_fst]
theorem low_ex {L : List Int} (a : L.Pairwise (· < ·)) : ∃ p, ∀ y ∈ L, p ≤ y := by
  cases L with
  | nil => exact ⟨0, fun _ m => nomatch m⟩
  | cons x xs => exact ⟨x, fun y m => by
      rcases List.mem_cons.mp m with rfl | m
      · exact Int.le_refl _
      · exact Int.le_of_lt ((List.pairwise_cons.mp a).1 y m)⟩
theorem bk_len : ∀ w : List Lx, (bk w).length ≤ w.length
  | [] => Nat.le_refl _
  | .z :: w => Nat.succ_le_succ (bk_len w)
  | .o :: w => Nat.succ_le_succ (bk_len w)
  | .m :: w => Nat.le_succ_of_le (bk_len w)
theorem bw_len : ∀ w : List Lx, (bw w).length ≤ 2 * w.length
  | [] => Nat.le_refl _
  | .z :: w => by
    have := bw_len w
    show (bw w).length + 1 ≤ 2 * (w.length + 1)
    omega
  | .o :: w => by
    have := bw_len w
    show (bw w).length + 1 ≤ 2 * (w.length + 1)
    omega
  | .m :: w => by
    have := bw_len w
    show (bw w).length + 1 + 1 ≤ 2 * (w.length + 1)
    omega
theorem ofs_word {w : List Lx} {p : Int} (g : gdB w = true) : ofs (pos (bw w) p) = less (marks w p) (ends false (bk w) p) := by
  unfold ofs
  rw [cut_word w p 0 g, show p - 2 * 0 = p by omega, (ends_pos (bk w) p).1]
theorem up_map {l : List Int} (h : l.Pairwise (· ≤ ·)) (a : Int) : (l.map (· + a)).Pairwise (· ≤ ·) := List.pairwise_map.mpr (h.imp fun {x y} z => by omega)
theorem count_add (a x : Int) : ∀ l : List Int, (l.map (· + a)).count x = l.count (x - a)
  | [] => rfl
  | y :: l => by
    rw [List.map_cons, List.count_cons, List.count_cons, count_add a x l]
    by_cases h : y = x - a
    · subst h
      rw [show x - a + a = x by omega]
      simp
    · have h1 : ((y + a) == x) = false := by
        rw [beq_eq_false_iff_ne]
        omega
      have h2 : (y == x - a) = false := by simpa using h
      rw [h1, h2]
theorem rends_shift (a : Int) : ∀ M : List Int, rends (M.map (· + a)) = (rends M).map (· + a)
  | [] => rfl
  | y :: M => by
    rw [List.map_cons, rends_cons, rends_cons, rends_shift a M]
    have hh : ((M.map (· + a)).head? = some (y + a + 1)) ↔ (M.head? = some (y + 1)) := by
      rw [List.head?_map]
      cases M.head? with
      | none => exact ⟨(fun z => nomatch z), fun z => nomatch z⟩
      | some q =>
        show some (q + a) = some (y + a + 1) ↔ _
        constructor
        · intro z
          have := Option.some.inj z
          congr 1
          omega
        · intro z
          have := Option.some.inj z
          congr 1
          omega
    by_cases z : M.head? = some (y + 1)
    · rw [if_pos z, if_pos (hh.mpr z)]
    · rw [if_neg z, if_neg fun q => z (hh.mp q), List.map_cons, show y + a + 1 = y + 1 + a by omega]
theorem cut_TL {c : Nat} (c1 : 1 ≤ c) {L L' : List Int} (h : TL c L L') : ∃ K, TL (c - 1) (cutL L 0).1 K ∧ (cutL L' 0).1 = K.map (· + 1) ∧ ofs L' = (ofs L).map (· + 1) ∧ L'.length = L.length := by
  obtain ⟨p, hp⟩ := low_ex h.a
  obtain ⟨w, g, e, _⟩ := word_ex L p h.a hp
  have k1 : 0 + w.length + 1 ≤ 2 * w.length + 1 := by omega
  obtain ⟨out, r, mk⟩ := (sim c1 (2 * w.length + 1) w g).1 0 (Nat.zero_le c) (fun z => absurd z (Nat.lt_irrefl 0)) k1
  have d0 := dec0 c1
  rw [min0, d0] at r mk
  generalize hW : w ++ zs (2 * w.length + 1) = W at r mk
  have gW : gdB W = true := by rw [← hW]; exact gd_app _ g
  have eW : pos (bw W) p = L := by
    rw [← hW, bw_app, bw_zs, pos_app]
    exact e
  have fW : fin c 0 (bw W) = 0 := by
    rw [← hW, bw_app, bw_zs]
    exact fin_zero _ 0 (by have := bw_len w; omega)
  have fK : fin (c - 1) 0 (bk W) = 0 := by
    rw [← hW, bk_app, bk_zs]
    exact fin_zero _ 0 (by have := bk_len w; omega)
  have bits : bw out = swB c 0 (bw W) := r.bits
  have eL : L' = pos (bw out) p := by
    refine swL_one h.b (pos_asc _ _) (h.sw c1) ?_
    rw [bits, ← eW]
    exact sw_bits c1 fW
  have kp : pos (bk out) p = pos (swB (c - 1) 0 (bk W)) (p + 1) := by
    have h1 := pos_app 1 (bk out) p
    have h2 : bk out ++ List.replicate 1 false = false :: swB (c - 1) 0 (bk W) := r.kept
    rw [h2] at h1
    exact h1.symm
  have cL : cutL L 0 = (pos (bk W) p, marks W p) := by
    rw [← eW, cut_word W p 0 gW, show p - 2 * 0 = p by omega]
  have cL' : cutL L' 0 = (pos (bk out) p, marks out p) := by
    rw [eL, cut_word out p 0 r.gd, show p - 2 * 0 = p by omega]
  refine ⟨pos (swB (c - 1) 0 (bk W)) p, ⟨?_, pos_asc _ _, fun z => ?_, fun z => ?_⟩, ?_, ?_, ?_⟩
  · rw [cL]
    exact pos_asc _ _
  · rw [cL, z, swB_0]
  · rw [cL]
    exact sw_bits z fK
  · rw [cL', kp, pos_shift]
  · have o1 : ofs L' = less (marks out p) (ends false (bk out) p) := by rw [eL]; exact ofs_word r.gd
    have o2 : ofs L = less (marks W p) (ends false (bk W) p) := by rw [← eW]; exact ofs_word gW
    have e1 : ends false (bk out) p = ends false (swB (c - 1) 0 (bk W)) (p + 1) := by rw [(ends_pos _ _).1, kp, ← (ends_pos _ _).1]
    rw [o1, o2]
    refine up_eq ((marks_up out p).sublist (less_sub _ _)) (up_map ((marks_up W p).sublist (less_sub _ _)) 1) fun x => ?_
    have hc := mk (p + 1) x
    have hd : decide (0 < 0) = false := rfl
    rw [hd] at hc
    simp only [cond_false] at hc
    rw [show p + 1 - 1 = p by omega] at hc
    rw [less_count, e1]
    have cm : ((less (marks W p) (ends false (bk W) p)).map (· + 1)).count x = (less (marks W p) (ends false (bk W) p)).count (x - 1) := count_add 1 x _
    rw [cm, less_count]
    have m1 : (marks W (p + 1)).count x = (marks W p).count (x - 1) := by
      rw [marks_shift]
      exact count_add 1 x _
    have m2 : (ends false (bk W) (p + 1)).count x = (ends false (bk W) p).count (x - 1) := by
      rw [(ends_pos _ _).1, (ends_pos _ _).1, pos_shift]
      rw [rends_shift]
      exact count_add 1 x _
    rw [m1, m2] at hc
    have le1 := (ends_le W gW p (x - 1)).1
    have le2 := (ends_le out r.gd p x).1
    rw [e1] at le2
    omega
  · have := len_sw (c := c) (bw W) 0 p
    rw [fW, eW, ← bits, ← eL] at this
    omega
end SR
set_option Elab.async false
set_option linter.all false
set_option maxRecDepth 100000
set_option maxHeartbeats 1000000
namespace SR
open PySem PySem.Spec PyProof.Rows L2
/-- all indexes moved -/
def mv (k : Int) (ps : List (Int × Int)) : List (Int × Int) := ps.map fun p => (p.1 + k, p.2)
theorem mv_mv (k : Int) (ps : List (Int × Int)) : mv (-k) (mv k ps) = ps := by
  unfold mv
  rw [List.map_map]
  have : ((fun p : Int × Int => (p.1 + -k, p.2)) ∘ fun p : Int × Int => (p.1 + k, p.2)) = id := by
    funext p
    show (p.1 + k + -k, p.2) = p
    have e : p.1 + k + -k = p.1 := by omega
    rw [e]
  rw [this, List.map_id]
theorem mv_asc {k : Int} {ps : List (Int × Int)} (h : Asc ps) : Asc (mv k ps) := List.pairwise_map.mpr (h.imp fun {a b} h => by show a.1 + k < b.1 + k; omega)
theorem mv_total (k : Int) (ps : List (Int × Int)) : total (mv k ps) = total ps := by
  unfold total mv
  rw [List.map_map]
  rfl
theorem mv_mem {k : Int} {ps : List (Int × Int)} {p : Int × Int} (h : p ∈ mv k ps) : ∃ q ∈ ps, p = (q.1 + k, q.2) := by
  obtain ⟨q, m, e⟩ := List.mem_map.mp h
  exact ⟨q, m, e.symm⟩
def lo (i : Int) (ps : List (Int × Int)) : List (Int × Int) := ps.filter fun p => decide (p.1 ≤ i)
def hi (i : Int) (ps : List (Int × Int)) : List (Int × Int) := ps.filter fun p => decide (i < p.1)
theorem lo_mem {i : Int} {ps : List (Int × Int)} {p : Int × Int} (h : p ∈ lo i ps) : p ∈ ps ∧ p.1 ≤ i := ⟨(List.mem_filter.mp h).1, of_decide_eq_true (List.mem_filter.mp h).2⟩
theorem hi_mem {i : Int} {ps : List (Int × Int)} {p : Int × Int} (h : p ∈ hi i ps) : p ∈ ps ∧ i < p.1 := ⟨(List.mem_filter.mp h).1, of_decide_eq_true (List.mem_filter.mp h).2⟩
theorem lo_hi : ∀ {ps : List (Int × Int)} (i : Int), Asc ps → lo i ps ++ hi i ps = ps
  | [], _, _ => rfl
  | p :: ps, i, asc => by
    have a := List.pairwise_cons.mp asc
    by_cases h : p.1 ≤ i
    · have e1 : lo i (p :: ps) = p :: lo i ps := List.filter_cons_of_pos (decide_eq_true h)
      have e2 : hi i (p :: ps) = hi i ps := List.filter_cons_of_neg (by rw [decide_eq_true_eq]; omega)
      rw [e1, e2, List.cons_append, lo_hi i a.2]
    · have e1 : lo i (p :: ps) = [] := List.filter_eq_nil_iff.mpr fun q m => by
        rw [decide_eq_true_eq]
        rcases List.mem_cons.mp m with rfl | m
        · exact h
        · have : p.1 < q.1 := a.1 q m
          omega
      have e2 : hi i (p :: ps) = p :: ps := List.filter_eq_self.mpr fun q m => by
        rw [decide_eq_true_eq]
        rcases List.mem_cons.mp m with rfl | m
        · omega
        · have : p.1 < q.1 := a.1 q m
          omega
      rw [e1, e2]
      rfl
theorem lo_app {i : Int} {a b : List (Int × Int)} (ha : ∀ p ∈ a, p.1 ≤ i) (hb : ∀ p ∈ b, i < p.1) : lo i (a ++ b) = a ∧ hi i (a ++ b) = b := by
  unfold lo hi
  rw [List.filter_append, List.filter_append]
  have e1 : (a.filter fun p => decide (p.1 ≤ i)) = a := List.filter_eq_self.mpr fun q m => decide_eq_true (ha q m)
  have e2 : (b.filter fun p => decide (p.1 ≤ i)) = [] := List.filter_eq_nil_iff.mpr fun q m => by
    have := hb q m
    rw [decide_eq_true_eq]
    omega
  have e3 : (a.filter fun p => decide (i < p.1)) = [] := List.filter_eq_nil_iff.mpr fun q m => by
    have := ha q m
    rw [decide_eq_true_eq]
    omega
  have e4 : (b.filter fun p => decide (i < p.1)) = b := List.filter_eq_self.mpr fun q m => decide_eq_true (hb q m)
  rw [e1, e2, e3, e4, List.append_nil]
  exact ⟨rfl, rfl⟩
theorem total_app (a b : List (Int × Int)) : total (a ++ b) = total a + total b := by
  unfold total
  rw [List.map_append, List.sum_append]
theorem total_lo_hi {ps : List (Int × Int)} (i : Int) (h : Asc ps) : total (lo i ps) + total (hi i ps) = total ps := by
  rw [← total_app, lo_hi i h]
theorem total_nn {ps : List (Int × Int)} (h : ∀ p ∈ ps, 1 ≤ p.2) : 0 ≤ total ps := by
  have := len_sum h
  unfold total
  omega
theorem asc_app {a b : List (Int × Int)} (ha : Asc a) (hb : Asc b) (h : ∀ p ∈ a, ∀ q ∈ b, p.1 < q.1) : Asc (a ++ b) := List.pairwise_append.mpr ⟨ha, hb, h⟩
theorem cap_one {idx c i : Int} : cap [(idx, c)] i = if i = idx then c else 1 := by
  unfold cap
  rw [List.lookup_cons]
  by_cases h : i = idx
  · rw [if_pos h, h, beq_self_eq_true]
    rfl
  · rw [if_neg h, beq_false_of_ne h]
    rfl
theorem cap_cons {idx c i : Int} {rest : List (Int × Int)} : cap ((idx, c) :: rest) i = if i = idx then c else cap rest i := by
  unfold cap
  rw [List.lookup_cons]
  by_cases h : i = idx
  · rw [if_pos h, h, beq_self_eq_true]
    rfl
  · rw [if_neg h, beq_false_of_ne h]
theorem cap_no {rest : List (Int × Int)} {i : Int} (h : ∀ r ∈ rest, i ≠ r.1) : cap rest i = 1 := by
  induction rest with
  | nil => rfl
  | cons r rest ih =>
    obtain ⟨a, b⟩ := r
    rw [cap_cons, if_neg (h _ List.mem_cons_self)]
    exact ih fun q m => h q (List.mem_cons_of_mem _ m)
theorem cnt_inA {ps : List (Int × Int)} (h : Asc ps) {p : Int × Int} (m : p ∈ ps) : cnt ps p.1 = p.2 := by
  unfold cnt
  rw [(lookup_some (n := p.2) (asc_nd h)).mpr m]
  rfl
theorem cnt_outA {ps : List (Int × Int)} {i : Int} (h : ∀ p ∈ ps, p.1 ≠ i) : cnt ps i = 0 := by
  induction ps with
  | nil => rfl
  | cons p ps ih =>
    rw [cnt_cons, if_neg (fun z => h p List.mem_cons_self z.symm)]
    exact ih fun q m => h q (List.mem_cons_of_mem _ m)
section
variable {idx c : Int} {cs ns rest : List (Int × Int)}
/-- one wide box alone -/
theorem one_vd (asc : Asc ns) (sz : sizeOk (idx, c)) (po : ∀ p ∈ ns, 1 ≤ p.2 ∧ p.2 ≤ cap [(idx, c)] p.1) (sm : total ns ≤ 40) : Vd ns [(idx, c)] :=
  ⟨⟨asc_nd asc, List.pairwise_singleton _ _, by show 1 ≤ 6; decide, fun p m => by rw [List.mem_singleton.mp m]; exact sz, po, sm⟩, asc, List.pairwise_singleton _ _⟩
open Classical in
noncomputable def fn1 (back : Bool) (idx c : Int) (ns : List (Int × Int)) : List (Int × Int) := if v : Vd ns [(idx, c)] then (Fn (c, back) (⟨ns, v⟩ : Rws [(idx, c)])).1 else []
theorem fn1_eq (back : Bool) (v : Vd ns [(idx, c)]) : fn1 back idx c ns = (Fn (c, back) (⟨ns, v⟩ : Rws [(idx, c)])).1 := dif_pos v
theorem fn1_vd {back : Bool} (v : Vd ns [(idx, c)]) : Vd (fn1 back idx c ns) [(idx, c)] := by
  rw [fn1_eq back v]
  exact (Fn (c, back) (⟨ns, v⟩ : Rws [(idx, c)])).2
theorem fn1_back {back : Bool} (c1 : 1 ≤ c) (v : Vd ns [(idx, c)]) : fn1 (!back) idx c (fn1 back idx c ns) = ns := by
  rw [fn1_eq (!back) (fn1_vd v)]
  have e : (⟨fn1 back idx c ns, fn1_vd v⟩ : Rws [(idx, c)]) = Fn (c, back) ⟨ns, v⟩ := Subtype.ext (fn1_eq back v)
  rw [e]
  have b := fn_back c1 (!back) (⟨ns, v⟩ : Rws [(idx, c)])
  rw [Bool.not_not] at b
  rw [b]
theorem fn1_total {back : Bool} (c1 : 1 ≤ c) (v : Vd ns [(idx, c)]) : total (fn1 back idx c ns) = total ns := by
  rw [fn1_eq back v]
  exact (fn_is c1 back _).2
theorem fn1_sw (c1 : 1 ≤ c) (v : Vd ns [(idx, c)]) : Sw [(idx, c)] c (fn1 true idx c ns) ns ∧ Sw [(idx, c)] c ns (fn1 false idx c ns) := by
  rw [fn1_eq true v, fn1_eq false v]
  exact ⟨(fn_is c1 true (⟨ns, v⟩ : Rws [(idx, c)])).1, (fn_is c1 false (⟨ns, v⟩ : Rws [(idx, c)])).1⟩
/-- a sweep that ends at the wide box: what it takes there comes from its left -/
theorem sw_end {qs : List (Int × Int)} (c1 : 1 ≤ c) (vq : Vd qs [(idx, c)]) (sw : Sw [(idx, c)] c qs ns) (h : ∀ i, idx < i → cnt ns i = 0) : ∃ ld : Int → Int, (∀ i, 0 ≤ ld i ∧ ld i ≤ c ∧ cnt ns i = stC c (ld i) (cap [(idx, c)] i) (cnt qs i) ∧ ld (i + 1) = stL c (ld i) (cap [(idx, c)] i) (cnt qs i)) ∧ (∃ lo, ∀ i, i ≤ lo → ld i = 0) ∧
    (∀ i, idx < i → ld i = 0 ∧ cnt qs i = 0) ∧ cnt qs idx = 0 ∧ ld idx = cnt ns idx := by
  obtain ⟨ld, l0, ⟨hh, l1⟩, st⟩ := sw
  have keep : ∀ i, ld i + cnt qs i = cnt ns i + ld (i + 1) := fun i => by
    obtain ⟨_, _, e1, e2⟩ := st i
    rw [e1, e2]
    unfold stC stL
    omega
  have q0 : ∀ i, 0 ≤ cnt qs i := fun i => (cnt_bd vq.ok i).1
  have zero : ∀ i, i ≤ max hh (idx + 1) → idx < i → ld i = 0 := by
    refine down_from (P := fun i => idx < i → ld i = 0) (max hh (idx + 1)) (fun _ => l1 _ (by omega)) fun i lt ih l => ?_
    have a := ih (by omega)
    have b := keep i
    have d := h i l
    have e := (st i).1
    have f := q0 i
    omega
  have zero2 : ∀ i, idx < i → ld i = 0 := fun i l => by
    by_cases k : i ≤ max hh (idx + 1)
    · exact zero i k l
    · exact l1 i (by omega)
  have qz : ∀ i, idx < i → cnt qs i = 0 := fun i l => by
    have a := keep i
    have b := zero2 i l
    have d := zero2 (i + 1) (by omega)
    have e := h i l
    omega
  have cc : cap [(idx, c)] idx = c := by rw [cap_one, if_pos rfl]
  obtain ⟨u0, u1, e1, e2⟩ := st idx
  have z := zero2 (idx + 1) (by omega)
  rw [cc] at e1 e2
  have qb := (cnt_bd vq.ok idx)
  rw [cc] at qb
  have q00 : cnt qs idx = 0 := by
    rw [z] at e2
    unfold stL at e2
    omega
  refine ⟨ld, st, l0, fun i l => ⟨zero2 i l, qz i l⟩, q00, ?_⟩
  have k := keep idx
  omega
end
end SR
set_option Elab.async false
set_option linter.all false
set_option maxRecDepth 100000
set_option maxHeartbeats 1000000
namespace SR
open PySem PySem.Spec PyProof.Rows L2
/-- the wide box at idx is shifted out | in -/
noncomputable def outBox (idx c : Int) (cs : List (Int × Int)) : List (Int × Int) := mv 1 (fn1 true idx c (lo idx cs)) ++ hi idx cs
noncomputable def inBox (idx c : Int) (cs : List (Int × Int)) : List (Int × Int) := fn1 false idx c (mv (-1) (lo idx cs)) ++ hi idx cs
section
variable {idx c : Int} {cs ns rest : List (Int × Int)}
theorem Vd.head (v : Vd cs ((idx, c) :: rest)) : sizeOk (idx, c) ∧ (∀ r ∈ rest, idx < r.1) ∧ 1 ≤ c ∧ c ≤ 99 := by
  have s := v.ok.ko _ List.mem_cons_self
  have a := List.pairwise_cons.mp v.ak
  obtain ⟨_, h1, h2⟩ := s
  exact ⟨v.ok.ko _ List.mem_cons_self, a.1, by show 1 ≤ c; have : 2 ≤ c := h1; omega, by have : c ≤ 9 := h2; omega⟩
theorem near_vd (v : Vd cs ((idx, c) :: rest)) : Vd (lo idx cs) [(idx, c)] := by
  obtain ⟨s, far, _, _⟩ := v.head
  refine one_vd (v.ap.sublist List.filter_sublist) s (fun p m => ?_) ?_
  · obtain ⟨m1, m2⟩ := lo_mem m
    have := v.ok.po p m1
    rw [cap_cons] at this
    rw [cap_one]
    by_cases e : p.1 = idx
    · rw [if_pos e] at this ⊢
      exact this
    · rw [if_neg e] at this ⊢
      rw [cap_no fun r hr => by have := far r hr; omega] at this
      exact this
  · have a := total_lo_hi idx v.ap
    have b := total_nn (ps := hi idx cs) fun p m => v.one p (hi_mem m).1
    have d : total cs ≤ 40 := v.ok.sm
    omega
theorem fn1_in (v : Vd ns [(idx, c)]) (c1 : 1 ≤ c) (h : ∀ p ∈ ns, p.1 ≤ idx) : ∀ p ∈ fn1 true idx c ns, p.1 < idx := fun p m => by
  obtain ⟨ld, _, _, z, z0, _⟩ := sw_end c1 (fn1_vd v) (fn1_sw c1 v).1 fun i l => cnt_outA fun q mq => by have := h q mq; omega
  have vv := fn1_vd (back := true) v
  have e := cnt_inA vv.ap m
  have o := vv.one p m
  by_cases k : idx < p.1
  · have := (z p.1 k).2
    omega
  · by_cases k2 : p.1 = idx
    · rw [k2, z0] at e
      omega
    · omega
theorem fn1_out (v : Vd ns [(idx, c)]) (c1 : 1 ≤ c) (h : ∀ p ∈ ns, p.1 < idx) : ∀ p ∈ fn1 false idx c ns, p.1 ≤ idx := fun p m => by
  obtain ⟨ld, _, _, st⟩ := (fn1_sw c1 v).2
  have vv := fn1_vd (back := false) v
  have e := cnt_inA vv.ap m
  have o := vv.one p m
  have cc : cap [(idx, c)] idx = c := by rw [cap_one, if_pos rfl]
  have n0 : ∀ i, idx ≤ i → cnt ns i = 0 := fun i l => cnt_outA fun q mq => by have := h q mq; omega
  have z1 : ld (idx + 1) = 0 := by
    obtain ⟨u0, u1, _, e2⟩ := st idx
    rw [e2, cc, n0 idx (Int.le_refl _)]
    unfold stL
    omega
  have zero : ∀ i, idx + 1 ≤ i → ld i = 0 := by
    refine up_from (P := fun i => ld i = 0) (idx + 1) z1 fun i l ih => ?_
    obtain ⟨_, _, _, e2⟩ := st i
    have d : cap [(idx, c)] i = 1 := by rw [cap_one, if_neg (by omega)]
    rw [e2, ih, d, n0 i (by omega)]
    unfold stL
    omega
  by_cases k : p.1 ≤ idx
  · exact k
  · obtain ⟨_, _, e1, _⟩ := st p.1
    have d : cap [(idx, c)] p.1 = 1 := by rw [cap_one, if_neg (by omega)]
    rw [zero p.1 (by omega), d, n0 p.1 (by omega)] at e1
    unfold stC at e1
    omega
theorem out_vd (v : Vd cs ((idx, c) :: rest)) : Vd (outBox idx c cs) rest ∧ total (outBox idx c cs) = total cs := by
  obtain ⟨s, far, c1, _⟩ := v.head
  have nv := near_vd v
  have qv := fn1_vd (back := true) nv
  have left := fn1_in nv c1 fun p m => (lo_mem m).2
  have tot : total (outBox idx c cs) = total cs := by
    unfold outBox
    rw [total_app, mv_total, fn1_total c1 nv, total_lo_hi idx v.ap]
  have kd := List.nodup_cons.mp v.ok.kd
  have ks : ∀ r ∈ rest, sizeOk r := fun r m => v.ok.ko r (List.mem_cons_of_mem _ m)
  have ap : Asc (outBox idx c cs) := asc_app (mv_asc qv.ap) (v.ap.sublist List.filter_sublist) fun p m q mq => by
    obtain ⟨z, mz, rfl⟩ := mv_mem m
    have := left z mz
    have := (hi_mem mq).2
    show z.1 + 1 < q.1
    omega
  have l := v.ok.kl
  rw [List.length_cons] at l
  refine ⟨⟨⟨asc_nd ap, kd.2, by omega, ks, fun p m => ?_, ?_⟩, ap, (List.pairwise_cons.mp v.ak).2⟩, tot⟩
  · rcases List.mem_append.mp m with m | m
    · obtain ⟨z, mz, rfl⟩ := mv_mem m
      have a := qv.ok.po z mz
      rw [cap_one, if_neg (by have := left z mz; omega)] at a
      have b := (cap_ok ks (z.1 + 1)).1
      exact ⟨a.1, Int.le_trans a.2 b⟩
    · obtain ⟨m1, m2⟩ := hi_mem m
      have a := v.ok.po p m1
      rw [cap_cons, if_neg (by omega)] at a
      exact a
  · have : total cs ≤ 40 := v.ok.sm
    rw [← tot] at this
    exact this
theorem mv_near (v : Vd cs rest) (s : sizeOk (idx, c)) (far : ∀ r ∈ rest, idx < r.1) : Vd (mv (-1) (lo idx cs)) [(idx, c)] := by
  have c1 : 2 ≤ c := s.2.1
  refine one_vd (mv_asc (v.ap.sublist List.filter_sublist)) s (fun p m => ?_) ?_
  · obtain ⟨z, mz, rfl⟩ := mv_mem m
    obtain ⟨m1, m2⟩ := lo_mem mz
    have a := v.ok.po z m1
    rw [cap_no fun r hr => by have := far r hr; omega] at a
    refine ⟨a.1, Int.le_trans a.2 ?_⟩
    rw [cap_one]
    split <;> omega
  · rw [mv_total]
    have a := total_lo_hi idx v.ap
    have b := total_nn (ps := hi idx cs) fun p m => v.one p (hi_mem m).1
    have d : total cs ≤ 40 := v.ok.sm
    omega
theorem in_vd (v : Vd cs rest) (s : sizeOk (idx, c)) (far : ∀ r ∈ rest, idx < r.1) (l5 : rest.length ≤ 5) : Vd (inBox idx c cs) ((idx, c) :: rest) ∧ total (inBox idx c cs) = total cs := by
  have c1 : 1 ≤ c := by have : 2 ≤ c := s.2.1; omega
  have nv := mv_near v s far
  have qv := fn1_vd (back := false) nv
  have left := fn1_out nv c1 fun p m => by
    obtain ⟨z, mz, rfl⟩ := mv_mem m
    have := (lo_mem mz).2
    show z.1 + -1 < idx
    omega
  have tot : total (inBox idx c cs) = total cs := by
    unfold inBox
    rw [total_app, fn1_total c1 nv, mv_total, total_lo_hi idx v.ap]
  have ap : Asc (inBox idx c cs) := asc_app qv.ap (v.ap.sublist List.filter_sublist) fun p m q mq => by
    have := left p m
    have := (hi_mem mq).2
    omega
  refine ⟨⟨⟨asc_nd ap, ?_, by rw [List.length_cons]; omega, fun p m => ?_, fun p m => ?_, ?_⟩, ap, List.pairwise_cons.mpr ⟨far, v.ak⟩⟩, tot⟩
  · refine List.nodup_cons.mpr ⟨fun z => ?_, v.ok.kd⟩
    obtain ⟨r, mr, e⟩ := List.mem_map.mp z
    have := far r mr
    have e2 : r.1 = idx := e
    omega
  · rcases List.mem_cons.mp m with rfl | m
    · exact s
    · exact v.ok.ko p m
  · rcases List.mem_append.mp m with m | m
    · have a := qv.ok.po p m
      rw [cap_one] at a
      rw [cap_cons]
      by_cases e : p.1 = idx
      · rw [if_pos e] at a ⊢
        exact a
      · rw [if_neg e] at a ⊢
        have b := (cap_ok v.ok.ko p.1).1
        exact ⟨a.1, Int.le_trans a.2 b⟩
    · obtain ⟨m1, m2⟩ := hi_mem m
      have a := v.ok.po p m1
      rw [cap_cons, if_neg (by omega)]
      exact a
  · have : total cs ≤ 40 := v.ok.sm
    rw [← tot] at this
    exact this
theorem in_out (v : Vd cs ((idx, c) :: rest)) : inBox idx c (outBox idx c cs) = cs := by
  obtain ⟨s, far, c1, _⟩ := v.head
  have nv := near_vd v
  have left := fn1_in nv c1 fun p m => (lo_mem m).2
  have h := lo_app (i := idx) (a := mv 1 (fn1 true idx c (lo idx cs))) (b := hi idx cs) (fun p m => by
    obtain ⟨z, mz, rfl⟩ := mv_mem m
    have := left z mz
    show z.1 + 1 ≤ idx
    omega) fun p m => (hi_mem m).2
  unfold inBox
  unfold outBox
  rw [h.1, h.2, mv_mv 1]
  have b := fn1_back (back := true) c1 nv
  rw [Bool.not_true] at b
  rw [b, lo_hi idx v.ap]
theorem out_in (v : Vd cs rest) (s : sizeOk (idx, c)) (far : ∀ r ∈ rest, idx < r.1) : outBox idx c (inBox idx c cs) = cs := by
  have c1 : 1 ≤ c := by have : 2 ≤ c := s.2.1; omega
  have nv := mv_near v s far
  have left := fn1_out nv c1 fun p m => by
    obtain ⟨z, mz, rfl⟩ := mv_mem m
    have := (lo_mem mz).2
    show z.1 + -1 < idx
    omega
  have h := lo_app (i := idx) (a := fn1 false idx c (mv (-1) (lo idx cs))) (b := hi idx cs) left fun p m => (hi_mem m).2
  unfold outBox
  unfold inBox
  rw [h.1, h.2]
  have b := fn1_back (back := false) c1 nv
  rw [Bool.not_false] at b
  have m1 := mv_mv (-1) (lo idx cs)
  have e : (- -1 : Int) = 1 := by decide
  rw [e] at m1
  rw [b, m1, lo_hi idx v.ap]
end
/-- the plain form, and the row with these boxes whose plain form it is -/
noncomputable def plainF (ks cs : List (Int × Int)) : List (Int × Int) := ks.foldl (fun cs k => outBox k.1 k.2 cs) cs
noncomputable def withF (ks cs : List (Int × Int)) : List (Int × Int) := ks.foldr (fun k cs => inBox k.1 k.2 cs) cs
theorem plainF_cons (k : Int × Int) (ks cs : List (Int × Int)) : plainF (k :: ks) cs = plainF ks (outBox k.1 k.2 cs) := rfl
theorem withF_cons (k : Int × Int) (ks cs : List (Int × Int)) : withF (k :: ks) cs = inBox k.1 k.2 (withF ks cs) := rfl
theorem plain_vd : ∀ {ks cs : List (Int × Int)}, Vd cs ks → Vd (plainF ks cs) [] ∧ total (plainF ks cs) = total cs
  | [], _, v => ⟨v, rfl⟩
  | (i, c) :: ks, cs, v => by
    have h := out_vd v
    obtain ⟨a, b⟩ := plain_vd h.1
    rw [plainF_cons]
    exact ⟨a, b.trans h.2⟩
/-- boxes that a row may have -/
structure KsOk (ks : List (Int × Int)) : Prop where
  ak : Asc ks
  kl : ks.length ≤ 6
  ko : ∀ p ∈ ks, sizeOk p
theorem KsOk.tail {k : Int × Int} {ks : List (Int × Int)} (h : KsOk (k :: ks)) : KsOk ks ∧ sizeOk k ∧ (∀ r ∈ ks, k.1 < r.1) ∧ ks.length ≤ 5 := by
  have a := List.pairwise_cons.mp h.ak
  have l := h.kl
  rw [List.length_cons] at l
  exact ⟨⟨a.2, by omega, fun p m => h.ko p (List.mem_cons_of_mem _ m)⟩, h.ko _ List.mem_cons_self, a.1, by omega⟩
theorem with_vd : ∀ {ks cs : List (Int × Int)}, KsOk ks → Vd cs [] → Vd (withF ks cs) ks ∧ total (withF ks cs) = total cs
  | [], _, _, v => ⟨v, rfl⟩
  | (i, c) :: ks, cs, h, v => by
    obtain ⟨h1, h2, h3, h4⟩ := h.tail
    obtain ⟨a, b⟩ := with_vd h1 v
    have d := in_vd a h2 h3 h4
    rw [withF_cons]
    exact ⟨d.1, d.2.trans b⟩
theorem with_plain : ∀ {ks cs : List (Int × Int)}, Vd cs ks → withF ks (plainF ks cs) = cs
  | [], _, _ => rfl
  | (i, c) :: ks, cs, v => by
    have h := out_vd v
    rw [withF_cons, plainF_cons]
    rw [with_plain h.1]
    exact in_out v
theorem plain_with : ∀ {ks cs : List (Int × Int)}, KsOk ks → Vd cs [] → plainF ks (withF ks cs) = cs
  | [], _, _, _ => rfl
  | (i, c) :: ks, cs, h, v => by
    obtain ⟨h1, h2, h3, h4⟩ := h.tail
    have a := (with_vd h1 v).1
    rw [withF_cons, plainF_cons]
    have e := out_in a h2 h3
    rw [e]
    exact plain_with h1 v
theorem Vd.ks {ps ks : List (Int × Int)} (v : Vd ps ks) : KsOk ks := ⟨v.ak, v.ok.kl, v.ok.ko⟩
end SR
set_option Elab.async false
set_option linter.all false
set_option maxRecDepth 100000
set_option maxHeartbeats 2000000
set_option Elab.async false
set_option linter.all false
set_option maxRecDepth 100000
set_option maxHeartbeats 1000000
namespace SR
open PySem PySem.Spec PyProof.Rows L2
theorem cnt_filter (g : Int → Bool) (i : Int) : ∀ fs : List (Int × Int), cnt (fs.filter fun p => g p.1) i = if g i = true then cnt fs i else 0
  | [] => by
    split <;> rfl
  | p :: fs => by
    have ih := cnt_filter g i fs
    cases e : g p.1 with
    | true =>
      rw [List.filter_cons_of_pos (p := fun p : Int × Int => g p.1) (a := p) (l := fs) e, cnt_cons, cnt_cons, ih]
      by_cases h : i = p.1
      · rw [if_pos h, if_pos h, h, if_pos e]
      · rw [if_neg h, if_neg h]
    | false =>
      rw [List.filter_cons_of_neg (p := fun p : Int × Int => g p.1) (a := p) (l := fs) (by show ¬ g p.1 = true; rw [e]; exact Bool.false_ne_true), ih, cnt_cons]
      by_cases h : i = p.1
      · rw [h, e]
        rfl
      · rw [if_neg h]
theorem cnt_app_l {a b : List (Int × Int)} {i : Int} (h : ∀ p ∈ b, p.1 ≠ i) : cnt (a ++ b) i = cnt a i := by
  induction a with
  | nil => exact cnt_outA h
  | cons p a ih => rw [List.cons_append, cnt_cons, cnt_cons, ih]
theorem cnt_app_r {a b : List (Int × Int)} {i : Int} (h : ∀ p ∈ a, p.1 ≠ i) : cnt (a ++ b) i = cnt b i := by
  induction a with
  | nil => rfl
  | cons p a ih =>
    rw [List.cons_append, cnt_cons, if_neg (fun z => h p List.mem_cons_self z.symm)]
    exact ih fun q m => h q (List.mem_cons_of_mem _ m)
theorem cnt_mv (k i : Int) : ∀ a : List (Int × Int), cnt (mv k a) i = cnt a (i - k)
  | [] => rfl
  | p :: a => by
    show cnt ((p.1 + k, p.2) :: mv k a) i = _
    rw [cnt_cons, cnt_cons, cnt_mv k i a]
    by_cases h : i = p.1 + k
    · rw [if_pos h, if_pos (by omega)]
    · rw [if_neg h, if_neg (by omega)]
def dropI (fs : List (Int × Int)) (i : Int) : List (Int × Int) := fs.filter fun p => decide (p.1 ≠ i)
theorem dropI_cnt (fs : List (Int × Int)) (i j : Int) : cnt (dropI fs i) j = if j = i then 0 else cnt fs j := by
  unfold dropI
  rw [cnt_filter (fun a => decide (a ≠ i)) j fs]
  by_cases h : j = i
  · rw [if_pos h, if_neg (by rw [h]; simp)]
  · rw [if_neg h, if_pos (decide_eq_true h)]
theorem dropI_nd {fs : List (Int × Int)} (i : Int) (h : (fs.map Prod.fst).Nodup) : ((dropI fs i).map Prod.fst).Nodup := (List.Sublist.map _ List.filter_sublist).nodup h
theorem dropI_len (fs : List (Int × Int)) (i : Int) : (dropI fs i).length ≤ fs.length := List.length_filter_le _ _
/-- what a box is shifted out by -/
structure Ldr (cs q : List (Int × Int)) (ld : Int → Int) (w c : Int) : Prop where
  bd : ∀ i, 0 ≤ ld i ∧ ld i ≤ c
  st : ∀ i, i < w → cnt cs i = stC c (ld i) 1 (cnt q i) ∧ ld (i + 1) = stL c (ld i) 1 (cnt q i)
  q1 : ∀ i, i < w → 0 ≤ cnt q i ∧ cnt q i ≤ 1
  top : ld w = cnt cs w
  cs0 : ∀ i, 0 ≤ cnt cs i
  out : ∀ i, cnt (outBox w c cs) i = if i ≤ w then cnt q (i - 1) else cnt cs i
  c1 : 1 ≤ c
theorem ldr_of {w c : Int} {cs rest : List (Int × Int)} (v : Vd cs ((w, c) :: rest)) : ∃ q ld, Ldr cs q ld w c := by
  obtain ⟨s, far, c1, c99⟩ := v.head
  have nv := near_vd v
  have qv := fn1_vd (back := true) nv
  have left := fn1_in nv c1 fun p m => (lo_mem m).2
  obtain ⟨ld, st, _, z, z0, top⟩ := sw_end c1 qv (fn1_sw c1 nv).1 fun i l => cnt_outA fun q mq => by have := (lo_mem mq).2; omega
  have lc : ∀ i, i ≤ w → cnt (lo w cs) i = cnt cs i := fun i l => by
    unfold lo
    rw [cnt_filter (fun a => decide (a ≤ w)) i cs, if_pos (decide_eq_true l)]
  have hc : ∀ i, w < i → cnt (hi w cs) i = cnt cs i := fun i l => by
    unfold hi
    rw [cnt_filter (fun a => decide (w < a)) i cs, if_pos (decide_eq_true l)]
  refine ⟨fn1 true w c (lo w cs), ld, ⟨fun i => ⟨(st i).1, (st i).2.1⟩, fun i l => ?_, fun i l => ?_, ?_, fun i => (cnt_bd v.ok i).1, fun i => ?_, c1⟩⟩
  · obtain ⟨_, _, e1, e2⟩ := st i
    rw [cap_one, if_neg (by omega)] at e1 e2
    rw [← lc i (by omega)]
    exact ⟨e1, e2⟩
  · have := cnt_bd qv.ok i
    rw [cap_one, if_neg (by omega)] at this
    exact this
  · rw [top, lc w (Int.le_refl _)]
  · unfold outBox
    by_cases l : i ≤ w
    · rw [if_pos l, cnt_app_l (fun p m => by have := (hi_mem m).2; omega), cnt_mv]
    · rw [if_neg l, cnt_app_r (fun p m => by
        obtain ⟨y, my, rfl⟩ := mv_mem m
        have := left y my
        show y.1 + 1 ≠ i
        omega)]
      exact hc i (by omega)
structure Wk (cs q : List (Int × Int)) (ld : Int → Int) (w c B : Int) (n0 : Int) (fs : List (Int × Int)) (x pl : Int) : Prop where
  nd : (fs.map Prod.fst).Nodup
  le : pl ≤ w
  xe : x = ld pl
  up : ∀ i, w < i → cnt fs i = cnt cs i
  mid : ∀ i, pl < i → i ≤ w → cnt fs i = cnt q (i - 1)
  dn : ∀ i, i < pl → cnt fs i = cnt cs i
  z : cnt fs pl = 0
  j : pl ≤ B → B - pl + x ≤ c
  len : (fs.length : Int) ≤ n0 + (w - pl)
section
variable {cs q fs : List (Int × Int)} {ld : Int → Int} {w c B n0 x pl : Int}
theorem Wk.init {gs : List (Int × Int)} (L : Ldr cs q ld w c) (nd : (gs.map Prod.fst).Nodup) (e : ∀ i, cnt gs i = cnt cs i) (hB : B ≤ w) (len : (gs.length : Int) ≤ n0) : Wk cs q ld w c B n0 (dropI gs w) (cnt gs w) w := by
  have dl := dropI_len gs w
  refine ⟨dropI_nd w nd, Int.le_refl _, by rw [e w, L.top], fun i l => ?_, fun i l l2 => by omega, fun i l => ?_, ?_, fun l => ?_, by omega⟩
  · rw [dropI_cnt, if_neg (by omega), e]
  · rw [dropI_cnt, if_neg (by omega), e]
  · rw [dropI_cnt, if_pos rfl]
  · have := (L.bd w).2
    rw [e w, ← L.top]
    omega
theorem Wk.stop (L : Ldr cs q ld w c) (k : Wk cs q ld w c B n0 fs x pl) (x0 : x ≤ 0) (no : ∀ i, i < pl → cnt fs i ≤ 0) : (∀ i, cnt fs i = cnt (outBox w c cs) i) ∧ (∀ i, i ≤ B - c → cnt (outBox w c cs) i = 0) ∧ B - c ≤ pl := by
  have le := k.le
  have csz : ∀ i, i < pl → cnt cs i = 0 := fun i l => by
    have a := no i l
    rw [k.dn i l] at a
    have := L.cs0 i
    omega
  have xz : ld pl = 0 := by
    have := (L.bd pl).1
    have := k.xe
    omega
  have keep : ∀ i, i < w → ld i + cnt q i = cnt cs i + ld (i + 1) := fun i l => by
    obtain ⟨e1, e2⟩ := L.st i l
    rw [e1, e2]
    unfold stC stL
    omega
  have lz : ∀ i, i ≤ pl → ld i = 0 := by
    refine down_from (P := fun i => ld i = 0) pl xz fun i lt ih => ?_
    have a := keep i (by omega)
    have b := csz i lt
    have d := (L.bd i).1
    have e := (L.q1 i (by omega)).1
    omega
  have qz : ∀ i, i < pl → cnt q i = 0 := fun i l => by
    have a := keep i (by omega)
    have b := csz i l
    have d := lz i (by omega)
    have e := lz (i + 1) (by omega)
    omega
  have all : ∀ i, cnt fs i = cnt (outBox w c cs) i := fun i => by
    rw [L.out]
    by_cases l : i ≤ w
    · rw [if_pos l]
      by_cases l2 : pl < i
      · exact k.mid i l2 l
      · rw [qz (i - 1) (by omega)]
        by_cases e : i = pl
        · rw [e]
          exact k.z
        · rw [k.dn i (by omega)]
          exact csz i (by omega)
    · rw [if_neg l]
      exact k.up i (by omega)
  have c1 := L.c1
  have pb : B - c ≤ pl := by
    by_cases l : pl ≤ B
    · have := k.j l
      have := (L.bd pl).1
      have := k.xe
      omega
    · omega
  refine ⟨all, fun i l => ?_, pb⟩
  rw [L.out, if_pos (by omega)]
  exact qz _ (by omega)
end
end SR
set_option Elab.async false
set_option linter.all false
set_option maxRecDepth 100000
set_option maxHeartbeats 1000000
set_option Elab.async false
set_option linter.all false
set_option maxRecDepth 100000
set_option maxHeartbeats 1000000
set_option Elab.async false
set_option linter.all false
set_option maxRecDepth 100000
set_option maxHeartbeats 1000000
namespace SR
open PySem PySem.Spec PyProof.Rows L2
theorem cutL_snd : ∀ (L : List Int) (g : Int), (cutL L g).2.length = (rends L).length
  | [], _ => rfl
  | x :: xs, g => by
    rw [cutL_cons, rends_cons]
    by_cases h : xs.head? = some (x + 1)
    · rw [if_pos h, if_pos h]
      exact cutL_snd xs g
    · rw [if_neg h, if_neg h]
      show (cutL xs (g + 1)).2.length + 1 = (rends xs).length + 1
      rw [cutL_snd xs (g + 1)]
theorem rends_pos {L : List Int} (h : L ≠ []) : 0 < (rends L).length := by
  cases L with
  | nil => exact absurd rfl h
  | cons x xs =>
    induction xs generalizing x with
    | nil => exact Nat.succ_pos _
    | cons y ys ih =>
      rw [rends_cons]
      split
      · exact ih y (fun z => nomatch z)
      · exact Nat.succ_pos _
theorem cut_lt {L : List Int} (h : L ≠ []) : (cutL L 0).1.length < L.length := by
  have a := cutL_len L 0
  have b := cutL_snd L 0
  have c := rends_pos h
  omega
/-- what the cut of an ascending row is, and what was removed -/
theorem cut_wordE {L : List Int} (a : L.Pairwise (· < ·)) : ∃ w p, gdB w = true ∧ L = pos (bw w) p ∧ cutL L 0 = (pos (bk w) p, marks w p) := by
  obtain ⟨p, hp⟩ := low_ex a
  obtain ⟨w, g, e, _⟩ := word_ex L p a hp
  refine ⟨w, p, g, e.symm, ?_⟩
  rw [← e, cut_word w p 0 g, show p - 2 * 0 = p by omega]
theorem cut_up {L : List Int} (a : L.Pairwise (· < ·)) : (cutL L 0).1.Pairwise (· < ·) ∧ (cutL L 0).2.Pairwise (· ≤ ·) ∧ ∀ x, (rends (cutL L 0).1).count x ≤ (cutL L 0).2.count x := by
  obtain ⟨w, p, g, e, c⟩ := cut_wordE a
  rw [c]
  refine ⟨pos_asc _ _, marks_up _ _, fun x => ?_⟩
  have := (ends_le w g p x).1
  rw [(ends_pos _ _).1] at this
  exact this
theorem less_perm {B E : List Int} (h : ∀ x, E.count x ≤ B.count x) : (E ++ less B E).Perm B := by
  rw [List.perm_iff_count]
  intro x
  rw [List.count_append, less_count]
  have := h x
  omega
theorem ofs_perm {L : List Int} (a : L.Pairwise (· < ·)) : (rends (cutL L 0).1 ++ ofs L).Perm (cutL L 0).2 := less_perm (cut_up a).2.2
theorem ofs_up {L : List Int} (a : L.Pairwise (· < ·)) : (ofs L).Pairwise (· ≤ ·) := (cut_up a).2.1.sublist (less_sub _ _)
/-- the trains from the length k on, L what is left of the row -/
def tr : Nat → Int → List Int → List (Int × Int)
  | 0, _, _ => []
  | f + 1, k, L => if L = [] then [] else (ofs L).map (fun b => (k, b)) ++ tr f (k + 1) (cutL L 0).1
theorem tr_nil : ∀ (f : Nat) (k : Int), tr f k [] = []
  | 0, _ => rfl
  | _ + 1, _ => if_pos rfl
theorem tr_fuel : ∀ (f g : Nat) (k : Int) (L : List Int), L.length ≤ f → L.length ≤ g → tr f k L = tr g k L
  | 0, g, k, L, h, _ => by
    have : L = [] := List.length_eq_zero_iff.mp (by omega)
    rw [this, tr_nil, tr_nil]
  | f + 1, 0, k, L, _, h => by
    have : L = [] := List.length_eq_zero_iff.mp (by omega)
    rw [this, tr_nil, tr_nil]
  | f + 1, g + 1, k, L, h1, h2 => by
    show (if L = [] then _ else _) = if L = [] then _ else _
    by_cases z : L = []
    · rw [if_pos z, if_pos z]
    · have := cut_lt z
      rw [if_neg z, if_neg z, tr_fuel f g (k + 1) _ (by omega) (by omega)]
theorem ofs_shift (a : Int) (L : List Int) : ofs (L.map (· + a)) = (ofs L).map (· + a) := by
  unfold ofs
  rw [cutL_shift]
  show less ((cutL L 0).2.map (· + a)) (rends ((cutL L 0).1.map (· + a))) = _
  rw [rends_shift]
  have key : ∀ (E B : List Int), less (B.map (· + a)) (E.map (· + a)) = (less B E).map (· + a) := by
    intro E
    induction E with
    | nil => exact fun _ => rfl
    | cons e E ih =>
      intro B
      show less ((B.map (· + a)).erase (e + a)) (E.map (· + a)) = (less (B.erase e) E).map (· + a)
      rw [← ih]
      congr 1
      induction B with
      | nil => rfl
      | cons y B ih2 =>
        rw [List.map_cons, List.erase_cons, List.erase_cons]
        by_cases h : y = e
        · subst h
          simp
        · have h1 : (y == e) = false := by simpa using h
          have h2 : (y + a == e + a) = false := by
            rw [beq_eq_false_iff_ne]
            omega
          rw [h1, h2]
          simp only [Bool.false_eq_true, if_false, List.map_cons]
          rw [ih2]
  exact key _ _
theorem tr_shift (a : Int) : ∀ (f : Nat) (k : Int) (L : List Int), tr f k (L.map (· + a)) = (tr f k L).map fun t => (t.1, t.2 + a)
  | 0, _, _ => rfl
  | f + 1, k, L => by
    show (if L.map (· + a) = [] then _ else _) = (if L = [] then _ else _ : List (Int × Int)).map _
    by_cases z : L = []
    · subst z
      rfl
    · rw [if_neg z, if_neg fun q => z (List.map_eq_nil_iff.mp q), cutL_shift, ofs_shift]
      show _ ++ tr f (k + 1) ((cutL L 0).1.map (· + a)) = _
      rw [tr_shift a f (k + 1), List.map_append, List.map_map, List.map_map]
      rfl
theorem tr_fst : ∀ (f : Nat) (k : Int) (L : List Int), ∀ t ∈ tr f k L, k ≤ t.1
  | 0, _, _ => fun _ m => nomatch m
  | f + 1, k, L => fun t m => by
    have m : t ∈ (if L = [] then [] else (ofs L).map (fun b => (k, b)) ++ tr f (k + 1) (cutL L 0).1) := m
    by_cases z : L = []
    · rw [if_pos z] at m
      cases m
    · rw [if_neg z] at m
      rcases List.mem_append.mp m with m | m
      · obtain ⟨b, _, rfl⟩ := List.mem_map.mp m
        exact Int.le_refl _
      · have := tr_fst f (k + 1) _ t m
        omega
theorem map_same {α β : Type} {f g : α → β} {l : List α} (h : ∀ x ∈ l, f x = g x) : l.map f = l.map g := List.map_congr_left h
/-- the trains of a plain row -/
def trL (L : List Int) : List (Int × Int) := tr L.length 1 L
theorem TL.len {c : Nat} {L L' : List Int} (h : TL c L L') : L'.length = L.length := by
  cases c with
  | zero => rw [h.none rfl]
  | succ c =>
    obtain ⟨_, _, _, _, e⟩ := cut_TL (Nat.succ_pos c) h
    exact e
/-- ascending, equal ones allowed -/
def Up2 (ts : List (Int × Int)) : Prop := ts.Pairwise fun s t => s.1 < t.1 ∨ (s.1 = t.1 ∧ s.2 ≤ t.2)
theorem tr_up : ∀ (f : Nat) (k : Int) (L : List Int), L.Pairwise (· < ·) → Up2 (tr f k L)
  | 0, _, _, _ => .nil
  | f + 1, k, L, a => by
    show Up2 (if L = [] then [] else (ofs L).map (fun b => (k, b)) ++ tr f (k + 1) (cutL L 0).1)
    by_cases z : L = []
    · rw [if_pos z]
      exact .nil
    · rw [if_neg z]
      refine List.pairwise_append.mpr ⟨List.pairwise_map.mpr ((ofs_up a).imp fun {x y} h => .inr ⟨rfl, h⟩), tr_up f (k + 1) _ (cut_up a).1, fun s ms t mt => ?_⟩
      obtain ⟨b, _, rfl⟩ := List.mem_map.mp ms
      have := tr_fst _ _ _ t mt
      left
      show k < t.1
      omega
theorem trL_up {L : List Int} (a : L.Pairwise (· < ·)) : Up2 (trL L) := tr_up _ _ _ a
theorem tr_many : ∀ (f : Nat) (k : Int) (L : List Int), L.Pairwise (· < ·) → L.length ≤ f → (tr f k L).length = (rends L).length
  | 0, k, L, _, h => by
    have : L = [] := List.length_eq_zero_iff.mp (by omega)
    rw [this]
    rfl
  | f + 1, k, L, a, h => by
    show (if L = [] then [] else (ofs L).map (fun b => (k, b)) ++ tr f (k + 1) (cutL L 0).1).length = _
    by_cases z : L = []
    · rw [if_pos z, z]
      rfl
    · have lt := cut_lt z
      have p := (ofs_perm a).length_eq
      rw [List.length_append] at p
      rw [if_neg z, List.length_append, List.length_map, tr_many f (k + 1) _ (cut_up a).1 (by omega), ← cutL_snd L 0, ← p]
      omega
/-- the lengths add up -/
theorem tr_sum : ∀ (f : Nat) (k : Int) (L : List Int), L.Pairwise (· < ·) → L.length ≤ f → ((tr f k L).map fun t => t.1 - k + 1).sum = L.length
  | 0, k, L, _, h => by
    have : L = [] := List.length_eq_zero_iff.mp (by omega)
    rw [this]
    rfl
  | f + 1, k, L, a, h => by
    show ((if L = [] then [] else (ofs L).map (fun b => (k, b)) ++ tr f (k + 1) (cutL L 0).1).map fun t => t.1 - k + 1).sum = _
    by_cases z : L = []
    · rw [if_pos z, z]
      rfl
    · have lt := cut_lt z
      have p := (ofs_perm a).length_eq
      rw [List.length_append] at p
      have ih := tr_sum f (k + 1) _ (cut_up a).1 (show (cutL L 0).1.length ≤ f by omega)
      have mn := tr_many f (k + 1) _ (cut_up a).1 (show (cutL L 0).1.length ≤ f by omega)
      have cl := cutL_len L 0
      rw [if_neg z, List.map_append, List.map_map, List.sum_append]
      have s1 : ((ofs L).map ((fun t : Int × Int => t.1 - k + 1) ∘ fun b => (k, b))).sum = (ofs L).length := by
        generalize ofs L = M
        induction M with
        | nil => rfl
        | cons y M ih =>
          rw [List.map_cons, List.sum_cons, ih, List.length_cons]
          show k - k + 1 + (M.length : Int) = ((M.length + 1 : Nat) : Int)
          omega
      have s2 : ∀ M : List (Int × Int), (M.map fun t => t.1 - k + 1).sum = (M.map fun t => t.1 - (k + 1) + 1).sum + M.length := by
        intro M
        induction M with
        | nil => rfl
        | cons y M ih =>
          rw [List.map_cons, List.sum_cons, ih, List.map_cons, List.sum_cons, List.length_cons]
          omega
      rw [s1, s2, ih, mn]
      omega
theorem trL_sum {L : List Int} (a : L.Pairwise (· < ·)) : ((trL L).map Prod.fst).sum = L.length := by
  have := tr_sum L.length 1 L a (Nat.le_refl _)
  rw [← this]
  unfold trL
  congr 1
  exact map_same fun t _ => by omega
theorem trL_one {L : List Int} : ∀ t ∈ trL L, 1 ≤ t.1 := tr_fst _ _ _
end SR
set_option Elab.async false
set_option linter.all false
set_option maxRecDepth 100000
set_option maxHeartbeats 1000000
namespace SR
open PySem PySem.Spec PyProof.Rows L2
/-- the places where the removed pairs come back -/
def en : Int → List Int → List Int
  | _, [] => []
  | g, b :: B => (b + 2 * g) :: en (g + 1) B
/-- how many of the offsets are not behind i -/
def nLe (B : List Int) (i : Int) : Int := ((B.filter fun b => decide (b ≤ i)).length : Int)
theorem nLe_none {B : List Int} {i : Int} (h : ∀ b ∈ B, i < b) : nLe B i = 0 := by
  unfold nLe
  rw [List.filter_eq_nil_iff.mpr fun b m => by have := h b m; simp; omega]
  rfl
theorem nLe_cons {B : List Int} {b i : Int} (h : b ≤ i) : nLe (b :: B) i = nLe B i + 1 := by
  unfold nLe
  rw [List.filter_cons_of_pos (by simpa using h), List.length_cons]
  omega
theorem nLe_perm {B B' : List Int} (h : B.Perm B') (i : Int) : nLe B i = nLe B' i := by
  unfold nLe
  rw [(h.filter _).length_eq]
theorem uncut_word : ∀ (w : List Lx) (n g : Int), ((pos (bk w) n).map (fun i => i + 2 * (g + nLe (marks w n) i)) ++ en g (marks w n)).Perm (pos (bw w) (n + 2 * g))
  | [], _, _ => .nil
  | .z :: w, n, g => by
    have := uncut_word w (n + 1) g
    rw [show n + 1 + 2 * g = n + 2 * g + 1 by omega] at this
    exact this
  | .o :: w, n, g => by
    have := uncut_word w (n + 1) g
    rw [show n + 1 + 2 * g = n + 2 * g + 1 by omega] at this
    show ((n + 2 * (g + nLe (marks w (n + 1)) n)) :: (pos (bk w) (n + 1)).map (fun i => i + 2 * (g + nLe (marks w (n + 1)) i)) ++ en g (marks w (n + 1))).Perm ((n + 2 * g) :: pos (bw w) (n + 2 * g + 1))
    rw [nLe_none fun b m => by have := marks_ge w (n + 1) b m; omega, show n + 2 * (g + 0) = n + 2 * g by omega]
    exact this.cons _
  | .m :: w, n, g => by
    have := uncut_word w n (g + 1)
    rw [show n + 2 * (g + 1) = n + 2 * g + 1 + 1 by omega] at this
    show ((pos (bk w) n).map (fun i => i + 2 * (g + nLe (n :: marks w n) i)) ++ ((n + 2 * g) :: en (g + 1) (marks w n))).Perm ((n + 2 * g) :: pos (bw w) (n + 2 * g + 1 + 1))
    have e : (pos (bk w) n).map (fun i => i + 2 * (g + nLe (n :: marks w n) i)) = (pos (bk w) n).map (fun i => i + 2 * (g + 1 + nLe (marks w n) i)) := map_same fun i m => by
      rw [nLe_cons (pos_ge _ _ i m)]
      omega
    rw [e]
    exact List.perm_middle.trans (this.cons _)
/-- the row again from what its cut left and the offsets -/
theorem uncut_ok {L : List Int} (a : L.Pairwise (· < ·)) : ((cutL L 0).1.map (fun i => i + 2 * nLe (cutL L 0).2 i) ++ en 0 (cutL L 0).2).Perm L := by
  obtain ⟨w, p, g, e, c⟩ := cut_wordE a
  have := uncut_word w p 0
  rw [show p + 2 * 0 = p by omega, ← e] at this
  rw [c]
  have e2 : (pos (bk w) p).map (fun i => i + 2 * nLe (marks w p) i) = (pos (bk w) p).map (fun i => i + 2 * (0 + nLe (marks w p) i)) := map_same fun i _ => by rw [Int.zero_add]
  rw [e2]
  exact this
/-- what is left after so many cuts -/
def cuts : Nat → List Int → List Int
  | 0, L => L
  | j + 1, L => cuts j (cutL L 0).1
theorem cuts_succ : ∀ (j : Nat) (L : List Int), cuts (j + 1) L = (cutL (cuts j L) 0).1
  | 0, _ => rfl
  | j + 1, L => cuts_succ j (cutL L 0).1
theorem cuts_nil : ∀ j : Nat, cuts j [] = []
  | 0 => rfl
  | j + 1 => cuts_nil j
theorem cuts_asc : ∀ (j : Nat) {L : List Int}, L.Pairwise (· < ·) → (cuts j L).Pairwise (· < ·)
  | 0, _, a => a
  | j + 1, _, a => cuts_asc j (cut_up a).1
theorem cuts_len : ∀ (j : Nat) (L : List Int), (cuts j L).length ≤ L.length
  | 0, _ => Nat.le_refl _
  | j + 1, L => by
    have a := cuts_len j (cutL L 0).1
    have b := cutL_len L 0
    show (cuts j (cutL L 0).1).length ≤ _
    omega
/-- the offsets of the trains of one length -/
def bg (ts : List (Int × Int)) (j : Int) : List Int := (ts.filter fun t => decide (t.1 = j)).map Prod.snd
theorem bg_app (a b : List (Int × Int)) (j : Int) : bg (a ++ b) j = bg a j ++ bg b j := by
  unfold bg
  rw [List.filter_append, List.map_append]
theorem bg_same (B : List Int) (k : Int) : bg (B.map fun b => (k, b)) k = B := by
  induction B with
  | nil => rfl
  | cons b B ih =>
    unfold bg at ih ⊢
    rw [List.map_cons, List.filter_cons_of_pos (by simp), List.map_cons, ih]
theorem bg_none {ts : List (Int × Int)} {j : Int} (h : ∀ t ∈ ts, t.1 ≠ j) : bg ts j = [] := by
  unfold bg
  rw [List.filter_eq_nil_iff.mpr fun t m => by simpa using h t m]
  rfl
theorem tr_bg : ∀ (f : Nat) (k : Int) (L : List Int) (j : Nat), L.length ≤ f → bg (tr f k L) (k + j) = ofs (cuts j L)
  | 0, k, L, j, h => by
    have : L = [] := List.length_eq_zero_iff.mp (by omega)
    rw [this, cuts_nil]
    rfl
  | f + 1, k, L, j, h => by
    show bg (if L = [] then [] else (ofs L).map (fun b => (k, b)) ++ tr f (k + 1) (cutL L 0).1) (k + j) = _
    by_cases z : L = []
    · rw [if_pos z, z, cuts_nil]
      rfl
    · have lt := cut_lt z
      rw [if_neg z, bg_app]
      cases j with
      | zero =>
        rw [show k + ((0 : Nat) : Int) = k by omega, bg_same, bg_none fun t m => by have := tr_fst _ _ _ t m; omega, List.append_nil]
        rfl
      | succ j =>
        rw [bg_none (ts := (ofs L).map fun b => (k, b)) fun t m => by
          obtain ⟨b, _, rfl⟩ := List.mem_map.mp m
          show k ≠ k + ((j + 1 : Nat) : Int)
          omega, List.nil_append]
        have := tr_bg f (k + 1) (cutL L 0).1 j (by omega)
        rw [show k + 1 + (j : Int) = k + ((j + 1 : Nat) : Int) by omega] at this
        exact this
theorem trL_bg (L : List Int) (j : Nat) : bg (trL L) ((j : Int) + 1) = ofs (cuts j L) := by
  have := tr_bg L.length 1 L j (Nat.le_refl _)
  rw [show (1 : Int) + j = j + 1 by omega] at this
  exact this
theorem tr_lt : ∀ (f : Nat) (k : Int) (L : List Int) (j : Nat), L.Pairwise (· < ·) → L.length ≤ f → cuts j L ≠ [] → ∃ t ∈ tr f k L, k + j ≤ t.1
  | 0, k, L, j, _, h, n => by
    have : L = [] := List.length_eq_zero_iff.mp (by omega)
    rw [this, cuts_nil] at n
    exact absurd rfl n
  | f + 1, k, L, 0, a, h, n => by
    have l := tr_many (f + 1) k L a h
    have p := rends_pos (L := L) n
    cases e : tr (f + 1) k L with
    | nil =>
      rw [e] at l
      have : (0 : Nat) = (rends L).length := l
      omega
    | cons t ts =>
      refine ⟨t, List.mem_cons_self, ?_⟩
      have := tr_fst (f + 1) k L t (by rw [e]; exact List.mem_cons_self)
      omega
  | f + 1, k, L, j + 1, a, h, n => by
    have z : L ≠ [] := fun z => by
      rw [z, cuts_nil] at n
      exact n rfl
    have lt := cut_lt z
    obtain ⟨t, m, b⟩ := tr_lt f (k + 1) (cutL L 0).1 j (cut_up a).1 (by omega) n
    refine ⟨t, ?_, by omega⟩
    show t ∈ (if L = [] then [] else (ofs L).map (fun b => (k, b)) ++ tr f (k + 1) (cutL L 0).1)
    rw [if_neg z]
    exact List.mem_append_right _ m
/-- no box is left behind the longest train's cuts -/
theorem cuts_end {L : List Int} (a : L.Pairwise (· < ·)) {m : Nat} (h : ∀ t ∈ trL L, t.1 ≤ m) : cuts m L = [] := by
  refine Classical.byContradiction fun n => ?_
  obtain ⟨t, mt, b⟩ := tr_lt L.length 1 L m a (Nat.le_refl _) n
  have := h t mt
  omega
theorem vd_ones {cs : List (Int × Int)} (v : Vd cs []) : cs = ones (cs.map Prod.fst) := ones_of fun p m => by
  have a := v.ok.po p m
  have b : p.2 ≤ 1 := a.2
  omega
theorem vd_asc {cs ks : List (Int × Int)} (v : Vd cs ks) : (cs.map Prod.fst).Pairwise (· < ·) := List.pairwise_map.mpr v.ap
/-- the places of the plain form -/
noncomputable def plL {ks : List (Int × Int)} (p : Rws ks) : List Int := (plainF ks p.1).map Prod.fst
theorem plL_ones {ks : List (Int × Int)} (p : Rws ks) : plainF ks p.1 = ones (plL p) := vd_ones (plain_vd p.2).1
theorem plL_asc {ks : List (Int × Int)} (p : Rws ks) : (plL p).Pairwise (· < ·) := vd_asc (plain_vd p.2).1
theorem plL_len {ks : List (Int × Int)} (p : Rws ks) : ((plL p).length : Int) = total p.1 := by
  have h := (plain_vd p.2).2
  rw [plL_ones p] at h
  rw [← h]
  unfold total
  rw [ones_sum]
theorem plL_40 {ks : List (Int × Int)} (p : Rws ks) : (plL p).length ≤ 40 := by
  have a := plL_len p
  have b : total p.1 ≤ 40 := p.2.ok.sm
  omega
/-- the trains of any row -/
noncomputable def trP {ks : List (Int × Int)} (p : Rws ks) : List (Int × Int) := trL (plL p)
end SR
set_option Elab.async false
set_option linter.all false
set_option maxRecDepth 100000
set_option maxHeartbeats 1000000
namespace SR
open PySem PySem.Spec PyProof.Rows L2
def mk : List Lx → Int
  | [] => 0
  | .z :: w => mk w
  | .o :: w => mk w
  | .m :: w => 1 + mk w
theorem sum_one {α : Type} (f : α → Int) : ∀ l : List α, (∀ x ∈ l, f x = 1) → (l.map f).sum = l.length
  | [], _ => rfl
  | x :: l, h => by
    rw [List.map_cons, List.sum_cons, h x List.mem_cons_self, sum_one f l fun y m => h y (List.mem_cons_of_mem _ m), List.length_cons]
    omega
end SR
set_option Elab.async false
set_option linter.all false
set_option maxRecDepth 100000
set_option maxHeartbeats 1000000
namespace SR
open PySem PySem.Spec PyProof.Rows L2
def rs (F : Int → Int) : Int → Nat → Int
  | _, 0 => 0
  | a, n + 1 => F a + rs F (a + 1) n
/-- the loads of a carrier -/
structure LdS (ks : List (Int × Int)) (c : Int) (cs : List (Int × Int)) (s : Int → Int) : Prop where
  low : ∃ lo, ∀ i, i ≤ lo → s i = 0
  st : ∀ i, 0 ≤ s i ∧ s i ≤ c ∧ s (i + 1) = stL c (s i) (cap ks i) (cnt cs i)
theorem LdS.one {ks cs : List (Int × Int)} {c : Int} {s s' : Int → Int} (h : LdS ks c cs s) (h' : LdS ks c cs s') : ∀ i, s i = s' i := by
  obtain ⟨a, ha⟩ := h.low
  obtain ⟨a', ha'⟩ := h'.low
  intro i
  by_cases z : i ≤ min a a'
  · rw [ha i (by omega), ha' i (by omega)]
  · refine up_from (P := fun i => s i = s' i) (min a a') (by rw [ha _ (by omega), ha' _ (by omega)]) (fun j _ e => ?_) i (by omega)
    rw [(h.st j).2.2, (h'.st j).2.2, e]
/-- the range of a list -/
theorem low_hi (xs : List Int) : ∃ a : Int, ∃ n : Nat, ∀ x ∈ xs, a ≤ x ∧ x < a + n := by
  induction xs with
  | nil => exact ⟨0, 0, fun _ m => nomatch m⟩
  | cons x xs ih =>
    obtain ⟨a, n, h⟩ := ih
    refine ⟨min a x, ((max (a + n) (x + 1)) - min a x).toNat, fun y m => ?_⟩
    rcases List.mem_cons.mp m with rfl | m
    · omega
    · have := h y m
      omega
end SR
set_option Elab.async false
set_option linter.all false
set_option maxRecDepth 100000
set_option maxHeartbeats 1000000
namespace SR
open PySem PySem.Spec PyProof.Rows L2
def pkT (c : Int) (ts : List (Int × Int)) : Int := (ts.map fun t => min c t.1).sum
theorem sum_pos_le : ∀ {M : List Int}, (∀ x ∈ M, 1 ≤ x) → ∀ x ∈ M, x ≤ M.sum
  | [], _, _, m => nomatch m
  | y :: M, h, x, m => by
    have s0 : 0 ≤ M.sum := by
      have : ∀ N : List Int, (∀ x ∈ N, 1 ≤ x) → 0 ≤ N.sum := by
        intro N
        induction N with
        | nil => exact fun _ => Int.le_refl _
        | cons z N ih =>
          intro hn
          rw [List.sum_cons]
          have := ih fun x m => hn x (List.mem_cons_of_mem _ m)
          have := hn z List.mem_cons_self
          omega
      exact this M fun x m => h x (List.mem_cons_of_mem _ m)
    rw [List.sum_cons]
    rcases List.mem_cons.mp m with rfl | m
    · omega
    · have := sum_pos_le (fun x m => h x (List.mem_cons_of_mem _ m)) x m
      have := h y List.mem_cons_self
      omega
end SR
set_option Elab.async false
set_option linter.all false
set_option maxRecDepth 100000
set_option maxHeartbeats 1000000
namespace SR
open PySem PySem.Spec PyProof.Rows L2
def up1 (t : Int × Int) : Int × Int := (t.1 + 1, t.2)
theorem tr_up1 : ∀ (f : Nat) (k : Int) (L : List Int), tr f (k + 1) L = (tr f k L).map up1
  | 0, _, _ => rfl
  | f + 1, k, L => by
    show (if L = [] then [] else (ofs L).map (fun b => (k + 1, b)) ++ tr f (k + 1 + 1) (cutL L 0).1) = (if L = [] then [] else (ofs L).map (fun b => (k, b)) ++ tr f (k + 1) (cutL L 0).1).map up1
    by_cases z : L = []
    · rw [if_pos z, if_pos z]
      rfl
    · rw [if_neg z, if_neg z, List.map_append, List.map_map, tr_up1 f (k + 1)]
      rfl
theorem trL_rec {L : List Int} (z : L ≠ []) : trL L = (ofs L).map (fun b => (1, b)) ++ (trL (cutL L 0).1).map up1 := by
  obtain ⟨n, hn⟩ : ∃ n, L.length = n + 1 := ⟨L.length - 1, by have := List.length_pos_iff.mpr z; omega⟩
  have lt := cut_lt z
  unfold trL
  rw [hn]
  show (if L = [] then [] else (ofs L).map (fun b => (1, b)) ++ tr n (1 + 1) (cutL L 0).1) = _
  rw [if_neg z, tr_up1, tr_fuel n (cutL L 0).1.length 1 _ (by omega) (Nat.le_refl _)]
def shP (f : Int) (p : Int × Int) : Int × Int := (p.1 + f, p.2)
theorem shP_0 (ps : List (Int × Int)) : ps.map (shP 0) = ps := by
  have : ∀ p ∈ ps, shP 0 p = p := fun p _ => by
    unfold shP
    rw [Int.add_zero]
  rw [map_same this, List.map_id']
theorem vd_move {ps : List (Int × Int)} (v : Vd ps []) (f : Int) : Vd (ps.map (shP f)) [] := by
  have e : ps.map (shP f) = ones ((ps.map Prod.fst).map (· + f)) := by
    have h := vd_ones v
    generalize ps.map Prod.fst = M at h ⊢
    rw [h]
    unfold ones
    rw [List.map_map, List.map_map]
    rfl
  have a : ((ps.map Prod.fst).map (· + f)).Pairwise (· < ·) := List.pairwise_map.mpr ((vd_asc v).imp fun {x y} h => by omega)
  have l : ps.length ≤ 40 := by
    have h : total ps ≤ 40 := v.ok.sm
    rw [vd_ones v] at h
    have t : total (ones (ps.map Prod.fst)) = (ps.map Prod.fst).length := by
      unfold total ones
      rw [List.map_map]
      exact sum_one _ _ fun _ _ => rfl
    rw [t, List.length_map] at h
    omega
  rw [e]
  exact ⟨ones_ok a (by rw [List.length_map, List.length_map]; exact l), ones_asc a, .nil⟩
theorem trP_move {ps : List (Int × Int)} (v : Vd ps []) (f : Int) : trP (⟨ps.map (shP f), vd_move v f⟩ : Rws []) = (trP (⟨ps, v⟩ : Rws [])).map fun t => (t.1, t.2 + f) := by
  show trL ((ps.map (shP f)).map Prod.fst) = (trL (ps.map Prod.fst)).map _
  have e : (ps.map (shP f)).map Prod.fst = (ps.map Prod.fst).map (· + f) := by
    rw [List.map_map, List.map_map]
    rfl
  rw [e]
  unfold trL
  rw [tr_shift, List.length_map]
end SR
set_option Elab.async false
set_option linter.all false
set_option maxRecDepth 100000
set_option maxHeartbeats 1000000
namespace SR
open PySem PySem.Spec PyProof.Rows L2
theorem rends_gt : ∀ (M : List Int) (lo : Int), (∀ y ∈ M, lo ≤ y) → ∀ x ∈ rends M, lo < x
  | [], _, _ => fun _ m => nomatch m
  | y :: M, lo, h => fun x m => by
    have hy := h y List.mem_cons_self
    have ih := rends_gt M lo fun z m => h z (List.mem_cons_of_mem _ m)
    rw [rends_cons] at m
    split at m
    · exact ih x m
    · rcases List.mem_cons.mp m with rfl | m
      · omega
      · exact ih x m
theorem inv_word : ∀ (k n : Nat) (lo : Int) (M B : List Int), n + B.length ≤ k → M.Pairwise (· < ·) → B.Pairwise (· ≤ ·) → (∀ y ∈ M, lo ≤ y ∧ y < lo + n) → (∀ b ∈ B, lo ≤ b ∧ b < lo + n) → (∀ x, (rends M).count x ≤ B.count x) →
    ∃ w, gdB w = true ∧ pos (bk w) lo = M ∧ marks w lo = B ∧ ((lo ∈ B ∨ lo ∈ M) → hdB w = true)
  | k, 0, lo, M, B, _, _, _, hM, hB, _ => by
    have e1 : M = [] := by
      cases M with
      | nil => rfl
      | cons y M =>
        have := hM y List.mem_cons_self
        omega
    have e2 : B = [] := by
      cases B with
      | nil => rfl
      | cons y B =>
        have := hB y List.mem_cons_self
        omega
    subst e1 e2
    exact ⟨[], rfl, rfl, rfl, fun z => z.elim (fun z => nomatch z) fun z => nomatch z⟩
  | 0, n + 1, lo, M, B, hk, _, _, _, _, _ => by omega
  | k + 1, n + 1, lo, M, B, hk, aM, aB, hM, hB, sub => by
    by_cases hb : B.head? = some lo
    · -- a pair is removed here
      cases B with
      | nil => cases hb
      | cons b B =>
        obtain rfl : b = lo := Option.some.inj hb
        rw [List.length_cons] at hk
        obtain ⟨w, g, e1, e2, _⟩ := inv_word k (n + 1) b M B (by omega) aM (List.pairwise_cons.mp aB).2 hM (fun x m => hB x (List.mem_cons_of_mem _ m)) fun x => by
          have h := sub x
          rw [List.count_cons] at h
          by_cases e : b = x
          · subst e
            have : (rends M).count b = 0 := List.count_eq_zero.mpr fun m => by
              have := rends_gt M b (fun y m => (hM y m).1) b m
              omega
            omega
          · rw [beq_eq_false_iff_ne.mpr e, if_neg Bool.false_ne_true] at h
            exact h
        exact ⟨.m :: w, g, e1, by show b :: marks w b = _; rw [e2], fun _ => rfl⟩
    · have nb : lo ∉ B := fun m => by
        cases B with
        | nil => cases m
        | cons b B =>
          rcases List.mem_cons.mp m with e | m
          · exact hb (by rw [e]; rfl)
          · have h1 := (List.pairwise_cons.mp aB).1 lo m
            have h2 := (hB b List.mem_cons_self).1
            exact hb (by rw [show b = lo by omega]; rfl)
      have hB' : ∀ b ∈ B, lo + 1 ≤ b ∧ b < lo + 1 + (n : Int) := fun b m => by
        have := hB b m
        have : b ≠ lo := fun z => nb (z ▸ m)
        omega
      by_cases hm : M.head? = some lo
      · -- a full box stays here
        cases M with
        | nil => cases hm
        | cons y M =>
          obtain rfl : y = lo := Option.some.inj hm
          obtain ⟨a1, a2⟩ := List.pairwise_cons.mp aM
          have hM' : ∀ z ∈ M, y + 1 ≤ z ∧ z < y + 1 + (n : Int) := fun z m => by
            have := hM z (List.mem_cons_of_mem _ m)
            have := a1 z m
            omega
          have sub' : ∀ x, (rends M).count x ≤ B.count x := fun x => by
            have h := sub x
            rw [rends_cons] at h
            split at h
            · exact h
            · rw [List.count_cons] at h
              omega
          obtain ⟨w, g, e1, e2, hd⟩ := inv_word k n (y + 1) M B (by omega) a2 aB hM' hB' sub'
          have nxt : hdB w = true := hd (by
            by_cases c : M.head? = some (y + 1)
            · exact .inr (List.mem_of_mem_head? (Option.mem_def.mpr c))
            · left
              have h := sub (y + 1)
              rw [rends_cons, if_neg c, List.count_cons_self] at h
              exact List.count_pos_iff.mp (by omega))
          refine ⟨.o :: w, ?_, ?_, ?_, fun _ => rfl⟩
          · show (hdB w && gdB w) = true
            rw [nxt, g]
            rfl
          · show y :: pos (bk w) (y + 1) = _
            rw [e1]
          · show marks w (y + 1) = _
            exact e2
      · have nm : lo ∉ M := fun m => by
          cases M with
          | nil => cases m
          | cons y M =>
            rcases List.mem_cons.mp m with e | m
            · exact hm (by rw [e]; rfl)
            · have h1 := (List.pairwise_cons.mp aM).1 lo m
              have h2 := (hM y List.mem_cons_self).1
              omega
        have hM' : ∀ z ∈ M, lo + 1 ≤ z ∧ z < lo + 1 + (n : Int) := fun z m => by
          have := hM z m
          have : z ≠ lo := fun e => nm (e ▸ m)
          omega
        obtain ⟨w, g, e1, e2, _⟩ := inv_word k n (lo + 1) M B (by omega) aM aB hM' hB' sub
        exact ⟨.z :: w, g, e1, e2, fun z => (z.elim nb nm).elim⟩
/-- a row that is cut to M, the pairs B being removed -/
theorem inv_cut {M B : List Int} (aM : M.Pairwise (· < ·)) (aB : B.Pairwise (· ≤ ·)) (sub : ∀ x, (rends M).count x ≤ B.count x) : ∃ L : List Int, L.Pairwise (· < ·) ∧ cutL L 0 = (M, B) := by
  obtain ⟨lo, n, h⟩ := low_hi (M ++ B)
  obtain ⟨w, g, e1, e2, _⟩ := inv_word (n + B.length) n lo M B (Nat.le_refl _) aM aB (fun y m => h y (List.mem_append_left _ m)) (fun y m => h y (List.mem_append_right _ m)) sub
  refine ⟨pos (bw w) lo, pos_asc _ _, ?_⟩
  rw [cut_word w lo 0 g, show lo - 2 * 0 = lo by omega, e1, e2]
/-- the trains but those of the length 1, each shorter by 1 -/
def dn1 (t : Int × Int) : Int × Int := (t.1 - 1, t.2)
theorem inv_trains : ∀ (k : Nat) (ts : List (Int × Int)), (∀ t ∈ ts, 1 ≤ t.1) → (ts.map Prod.fst).sum ≤ (k : Int) → ∃ L : List Int, L.Pairwise (· < ·) ∧ ts.Perm (trL L) ∧ (L.length : Int) = (ts.map Prod.fst).sum
  | k, [], _, _ => ⟨[], .nil, .refl _, rfl⟩
  | 0, t :: ts, h, hk => by
    exfalso
    have h1 := h t List.mem_cons_self
    have hs : 0 ≤ (ts.map Prod.fst).sum := by
      have : ∀ l : List (Int × Int), (∀ t ∈ l, 1 ≤ t.1) → 0 ≤ (l.map Prod.fst).sum := by
        intro l
        induction l with
        | nil => exact fun _ => Int.le_refl _
        | cons z l ih =>
          intro hl
          have a := hl z List.mem_cons_self
          have b := ih fun y m => hl y (List.mem_cons_of_mem _ m)
          rw [List.map_cons, List.sum_cons]
          omega
      exact this ts fun z m => h z (List.mem_cons_of_mem _ m)
    rw [List.map_cons, List.sum_cons] at hk
    have hk : t.1 + (ts.map Prod.fst).sum ≤ ((0 : Nat) : Int) := hk
    omega
  | k + 1, t :: ts, h, hk => by
    generalize ht : t :: ts = us at h hk ⊢
    have une : us ≠ [] := fun z => by rw [z] at ht; cases ht
    -- the longer ones
    have h2 : ∀ s ∈ (us.filter fun s => decide (1 < s.1)).map dn1, 1 ≤ s.1 := fun s m => by
      obtain ⟨r, mr, rfl⟩ := List.mem_map.mp m
      have := of_decide_eq_true (List.mem_filter.mp mr).2
      show 1 ≤ r.1 - 1
      omega
    have split : ∀ l : List (Int × Int), (∀ t ∈ l, 1 ≤ t.1) → (((l.filter fun s => decide (1 < s.1)).map dn1).map Prod.fst).sum + l.length = (l.map Prod.fst).sum ∧ (l.filter fun s => decide (1 < s.1)).length + (bg l 1).length = l.length ∧ l.Perm ((bg l 1).map (fun b => ((1 : Int), b)) ++ ((l.filter fun s => decide (1 < s.1)).map dn1).map up1) := by
      intro l
      induction l with
      | nil => exact fun _ => ⟨rfl, rfl, .refl _⟩
      | cons z l ih =>
        intro hl
        obtain ⟨i1, i2, i3⟩ := ih fun y m => hl y (List.mem_cons_of_mem _ m)
        have z1 := hl z List.mem_cons_self
        unfold bg at i2 i3 ⊢
        by_cases e : z.1 = 1
        · have f1 : decide (1 < z.1) = false := decide_eq_false (by omega)
          have f2 : decide (z.1 = 1) = true := decide_eq_true e
          rw [List.filter_cons_of_neg (by rw [f1]; exact Bool.false_ne_true), List.filter_cons_of_pos (by exact f2)]
          refine ⟨?_, ?_, ?_⟩
          · rw [List.map_cons, List.sum_cons, List.length_cons]
            omega
          · rw [List.map_cons, List.length_cons, List.length_cons]
            omega
          · show (z :: l).Perm (((1 : Int), z.2) :: _)
            rw [show ((1 : Int), z.2) = z by rw [← e]]
            exact i3.cons z
        · have f1 : decide (1 < z.1) = true := decide_eq_true (by omega)
          have f2 : decide (z.1 = 1) = false := decide_eq_false e
          rw [List.filter_cons_of_pos (by exact f1), List.filter_cons_of_neg (by rw [f2]; exact Bool.false_ne_true)]
          refine ⟨?_, ?_, ?_⟩
          · rw [List.map_cons, List.map_cons, List.map_cons, List.sum_cons, List.sum_cons, List.length_cons]
            show z.1 - 1 + _ + _ = _
            omega
          · rw [List.length_cons, List.length_cons]
            omega
          · have ez : up1 (dn1 z) = z := by
              show (z.1 - 1 + 1, z.2) = z
              rw [Int.sub_add_cancel]
            rw [List.map_cons, List.map_cons, ez]
            exact (i3.cons z).trans List.perm_middle.symm
    obtain ⟨i1, i2, i3⟩ := split us h
    have ul : 1 ≤ us.length := by
      rw [← ht]
      exact Nat.succ_pos _
    obtain ⟨M, aM, pM, lM⟩ := inv_trains k _ h2 (by omega)
    -- the removed pairs
    have pmB := List.mergeSort_perm (rends M ++ bg us 1) (fun a b => decide (a ≤ b))
    have pwB := List.pairwise_mergeSort (le := fun a b : Int => decide (a ≤ b)) (fun a b c h1 h2 => by
      rw [decide_eq_true_eq] at *
      omega) (fun a b => by
      rw [Bool.or_eq_true, decide_eq_true_eq, decide_eq_true_eq]
      omega) (rends M ++ bg us 1)
    generalize (rends M ++ bg us 1).mergeSort (fun a b => decide (a ≤ b)) = B at pmB pwB
    have aB : B.Pairwise (· ≤ ·) := pwB.imp fun {a b} z => of_decide_eq_true z
    have sub : ∀ x, (rends M).count x ≤ B.count x := fun x => by
      rw [pmB.count_eq x, List.count_append]
      omega
    obtain ⟨L, aL, cL⟩ := inv_cut aM aB sub
    have ln : L ≠ [] := fun z => by
      subst z
      have e : (M, B) = (([], []) : List Int × List Int) := cL.symm
      have e1 : M = [] := congrArg Prod.fst e
      have e2 : B = [] := congrArg Prod.snd e
      have l1 := pmB.length_eq
      rw [e2, List.length_append] at l1
      rw [e1] at lM
      have l1 : 0 = (rends M).length + (bg us 1).length := l1
      have p := pM.length_eq
      rw [e1, List.length_map] at p
      have p : (us.filter fun s => decide (1 < s.1)).length = 0 := p
      omega
    have oL : (ofs L).Perm (bg us 1) := by
      unfold ofs
      rw [cL]
      rw [List.perm_iff_count]
      intro x
      rw [less_count, pmB.count_eq x, List.count_append]
      show (rends M).count x + (bg us 1).count x - (rends M).count x = _
      omega
    refine ⟨L, aL, ?_, ?_⟩
    · rw [trL_rec ln, cL]
      exact i3.trans ((oL.symm.map _).append (pM.map _))
    · have lc := cutL_len L 0
      rw [cL] at lc
      have l1 := pmB.length_eq
      rw [List.length_append] at l1
      have pl := pM.length_eq
      rw [List.length_map] at pl
      have mn := tr_many M.length 1 M aM (Nat.le_refl _)
      have mn : (trL M).length = (rends M).length := mn
      have lc : M.length + B.length = L.length := by
        have : M.length + B.length = L.length := by
          first
            | exact lc
            | omega
        exact this
      omega
end SR
set_option Elab.async false
set_option linter.all false
set_option maxRecDepth 100000
set_option maxHeartbeats 1000000
namespace SR
open PySem PySem.Spec PyProof.Rows L2
def NonDec (ts : List (Int × Int)) : Prop := ts.Pairwise fun t u => t.1 ≤ u.1 ∧ t.2 ≤ u.2
def dn (t : Int × Int) : Int × Int := (t.1 - 1, t.2)
theorem NonDec.dn {ts : List (Int × Int)} (h : NonDec ts) : NonDec ((ts.filter fun t => decide (t.1 ≠ 1)).map dn) := by
  unfold NonDec
  rw [List.pairwise_map]
  exact (List.Pairwise.filter _ h).imp fun {t u} h => ⟨by show t.1 - 1 ≤ u.1 - 1; omega, h.2⟩
end SR
set_option Elab.async false
set_option linter.all false
set_option maxRecDepth 100000
set_option maxHeartbeats 1000000
namespace SR
open PySem PySem.Spec PyProof.Rows L2
/-- a list of pairs -/
def PairsL (H : Hp) (D : Addr) (ps : List (Int × Int)) : Prop := ∃ us : List Addr, H D = some (.lst (us.map V.ref)) ∧ Paired (TupAt H) us ps
theorem PairsL.same {H H' : Hp} {D : Addr} {ps : List (Int × Int)} (s : Same H H') (h : PairsL H D ps) : PairsL H' D ps := let ⟨us, h1, h2⟩ := h; ⟨us, s _ _ h1, paired_imp (fun _ _ z => s _ _ z) h2⟩
theorem PairsL.at {K : PySem.W.Frag} {H : Hp} {D : Addr} {ps : List (Int × Int)} (h : PairsL H D ps) : PairsAt K H D ps := let ⟨us, h1, h2⟩ := h; ⟨us, .inl (SqL.of h1), h2⟩
/-- [pair for pair in a if test] -/
theorem lc_keep {K : PySem.W.Frag} {te : TE} {tt : TT} {vn : Nat} {σ : L2.St} {H : Hp} {a : Addr} {ps : List (Int × Int)} {Q : VK} (P : Int × Int → Bool) (hte : ∀ R : VK, R (.ref a) H → te σ H R) (hp : PairsAt K H a ps) (hl : ps.length ≤ 1000)
    (hw : ∀ v, wipe ((wipe σ [vn]).set vn (some v)) [vn] = wipe σ [vn]) (hv : ∀ v, ((wipe σ [vn]).set vn (some v))[vn]? = some (some v))
    (hs : ∀ t p H' (R : Bool → Hp → Prop), Same H H' → TupAt H' t p → R (P p) H' → tt ((wipe σ [vn]).set vn (some (.ref t))) H' R)
    (hQ : ∀ D H', H D = none → Same H H' → PairsL H' D (ps.filter P) → Q (.ref D) H') :
    tLc (fun σ H R => iList K te σ H R ∨ iTup K te σ H R) (gName vn) tt (tVar vn) [vn] σ H Q := by
  obtain ⟨ts, hsq, hts⟩ := hp
  have hlen : (ts.map V.ref).length = ps.length := by rw [List.length_map, paired_len hts]
  have step : ∀ (D : Addr), H D = none → ∀ i x H1 H2, i < (ts.map V.ref).length → (Same H H1 ∧ ∃ us, H1 D = some (.lst (us.map V.ref)) ∧ Paired (TupAt H) us ((ps.take i).filter P)) → YAt (ts.map V.ref) i H1 x H2 → gName vn x (wipe σ [vn]) H2 fun σ2 H3 => wipe σ2 [vn] = wipe σ [vn] ∧ tt σ2 H3 fun b H4 =>
      if b = true then tVar vn σ2 H4 fun y H5 => ∃ acc, H5 D = some (.lst acc) ∧ acc.length < sizeLine ∧ (Same H (upd H5 D (.lst (acc ++ [y]))) ∧ ∃ us, upd H5 D (.lst (acc ++ [y])) D = some (.lst (us.map V.ref)) ∧ Paired (TupAt H) us ((ps.take (i + 1)).filter P)) else Same H H4 ∧ ∃ us, H4 D = some (.lst (us.map V.ref)) ∧ Paired (TupAt H) us ((ps.take (i + 1)).filter P) := by
    rintro D hD i x H1 H2 hi ⟨s1, us, d1, pr⟩ ⟨rfl, hx⟩
    rw [List.getElem?_map] at hx
    obtain ⟨t, ht, rfl⟩ := Option.map_eq_some_iff.mp hx
    obtain ⟨p, hpi, hat⟩ := paired_at hts ht
    have ul : us.length ≤ 1000 := by
      have a := paired_len pr
      have b := List.length_filter_le P (ps.take i)
      rw [List.length_take] at b
      have c := Nat.min_le_right i ps.length
      omega
    have tk : ps.take (i + 1) = ps.take i ++ [p] := by
      rw [List.take_succ, hpi]
      rfl
    refine ⟨hw _, hs t p H2 _ s1 (s1 _ _ hat) ?_⟩
    cases e : P p with
    | true =>
      refine iteT ⟨_, hv _, _, d1, ?_, same_upd s1 hD, us ++ [t], ?_, ?_⟩
      · rw [List.length_map]
        exact Nat.lt_of_le_of_lt ul (by decide)
      · rw [upd_same, List.map_append]
        rfl
      · rw [tk, List.filter_append]
        have : ([p].filter P) = [p] := by
          rw [List.filter_cons_of_pos e]
          rfl
        rw [this]
        exact paired_snoc hat pr
    | false =>
      refine iteF ⟨s1, us, d1, ?_⟩
      rw [tk, List.filter_append]
      have : ([p].filter P) = [] := by
        rw [List.filter_cons_of_neg (by rw [e]; exact Bool.false_ne_true)]
        rfl
      rw [this, List.append_nil]
      exact pr
  have fin : ∀ D, H D = none → ∀ H1, (Same H H1 ∧ ∃ us, H1 D = some (.lst (us.map V.ref)) ∧ Paired (TupAt H) us ((ps.take (ts.map V.ref).length).filter P)) → Q (.ref D) H1 := by
    rintro D hD H1 ⟨s1, us, d1, pr⟩
    rw [hlen, List.take_length] at pr
    exact hQ D H1 hD s1 ⟨us, d1, paired_imp (fun _ _ z => s1 _ _ z) pr⟩
  rcases hsq with hsq | hsq
  · refine .inl (hte _ ⟨a, rfl, ⟨_, hsq⟩, fun D hD => ?_⟩)
    exact lc_it (walk_list (K := K) (a := a) (xs := ts.map V.ref)) (fun i H1 => Same H H1 ∧ ∃ us, H1 D = some (.lst (us.map V.ref)) ∧ Paired (TupAt H) us ((ps.take i).filter P)) ⟨same_new hD, [], upd_same, .nil⟩ (fun i H1 _ h => SqL.same h.1 hsq) (step D hD) (fin D hD)
  · refine .inr (hte _ ⟨a, rfl, ⟨_, hsq.sq⟩, fun D hD => ?_⟩)
    exact lc_it (walk_tup (K := K) (a := a) (xs := ts.map V.ref)) (fun i H1 => Same H H1 ∧ ∃ us, H1 D = some (.lst (us.map V.ref)) ∧ Paired (TupAt H) us ((ps.take i).filter P)) ⟨same_new hD, [], upd_same, .nil⟩ (fun i H1 _ h => SqT.same h.1 hsq.sq) (step D hD) (fin D hD)
theorem make_two {C : Addr} {sp : Sp} {E : XK} {t1 t2 : TE} {σ : L2.St} {H : Hp} {Q : VK} (h : t1 σ H fun v1 H1 => t2 σ H1 fun v2 H2 => ∀ x dx, H2 x = none → H2 dx = none → dx ≠ x → sp [.ref x, v1, v2] (upd (upd H2 dx (.own x)) x (.ins C dx [])) (fun v H3 => v = .non ∧ Q (.ref x) H3) E) : tMake C sp [] E (tCons t1 (tCons t2 tNil)) σ H Q := h
def t_wo2 (K : PySem.W.Frag) (c_BadCapacity : Addr) (c_Row : Addr) : TS := (tRet (tLc (iTup K (tProp c_Row (spContents K c_Row) [] E0 (tCall (spUnsweep K c_Row c_BadCapacity) [] E0 (tCons (tVar 3) (tCons (tVar 2) (tNil)))))) (gTup K 2 (gCons (gName 5) (gCons (gName 6) (gNil)))) (tYes) (tTup (tCons (tOp qAdd (tVar 5) (tC (.int 1))) (tCons (tVar 6) (tNil)))) [5, 6]))
def t_without_box (K : PySem.W.Frag) (c_BadCapacity : Addr) (c_Row : Addr) : TS := tSeq (tAsg (tMake c_Row (spRowInit K c_Row) [] E0 (tCons (tLc ((fun σ H R => iList K (tVar 0) σ H R ∨ iTup K (tVar 0) σ H R)) (gName 4) (tTest (tOp qLe (tOp (rIxT K) (tVar 4) (tC (.int 0))) (tVar 1))) (tVar 4) [4]) (tCons (tLst (tCons (tTup (tCons (tVar 1) (tCons (tVar 2) (tNil)))) (tNil))) (tNil)))) (gName 3))
  (t_wo2 K c_BadCapacity c_Row)
def spWithout (K : PySem.W.Frag) : Sp := fun vs H Q _ => ∃ (a : Addr) (i c : Int) (ps : List (Int × Int)), vs = [.ref a, .int i, .int c] ∧ PairsAt K H a ps ∧ Vd (lo i ps) [(i, c)] ∧ Asc ps ∧ ps.length ≤ 1000 ∧ 1 ≤ c ∧ c ≤ 99 ∧
  ∀ D H', H D = none → Same H H' → PairsL H' D (mv 1 (fn1 true i c (lo i ps))) → Q (.ref D) H'
theorem vd_len {ps ks : List (Int × Int)} (v : Vd ps ks) : ps.length ≤ 40 := by
  have a := len_sum (fun p m => (v.ok.po p m).1)
  have b := v.ok.sm
  omega
theorem pure_without {K : PySem.W.Frag} {B C : Addr} (vs : List V) (H : Hp) (Q : VK) (E : XK) (h : spWithout K vs H Q E) : t_without_box K B C { nx := fun _ H' => Q .non H', rt := Q } (start ["contents", "index", "capacity", "near", "pair", "place", "count"] vs) H := by
  obtain ⟨a, i, c, ps, rfl, hp, v, asc, len, c1, c2, q⟩ := h
  unfold t_without_box
  unfold tSeq
  unfold tAsg
  refine make_two ?_
  refine lc_keep (vn := 4) (fun p => decide (p.1 ≤ i)) (fun R r => ⟨_, rfl, r⟩) hp len (fun _ => rfl) (fun _ => rfl) (fun t p H' R s T r => ⟨_, rfl, t, _, 0, _, rfl, rfl, SqT.of T, rfl, _, rfl, _, _, rfl, rfl, _, rfl, r⟩) fun D H1 hD s1 pl => ?_
  refine ⟨_, rfl, _, rfl, sz (by show 2 ≤ 1000; decide), fun t ht => ?_⟩
  have s2 := same_new (o := .tup [.int i, .int c]) ht
  have T2 : TupAt (upd H1 t (.tup [.int i, .int c])) t (i, c) := upd_same
  generalize upd H1 t (.tup [.int i, .int c]) = H2 at s2 T2 ⊢
  refine ⟨sz (by show 1 ≤ 1000; decide), fun l hl => ?_⟩
  have s3 := same_new (o := .lst [.ref t]) hl
  have L3 : PairsL (upd H2 l (.lst [.ref t])) l [(i, c)] := ⟨[t], upd_same, .cons (s3 _ _ T2) .nil⟩
  generalize upd H2 l (.lst [.ref t]) = H3 at s3 L3 ⊢
  have s13 := s2.trans s3
  intro y0 dx g1 g2 g3
  refine make_row (C := C) (E := E0) (Q := fun z H4 => t_wo2 K B C { nx := fun _ H' => Q .non H', rt := Q } [some (.ref a), some (.int i), some (.int c), some z, none, none, none] H4) (pl.same s13).at L3.at v.ok (fun x H4 qs ls hx s4 row p1 p2 a1 a2 => ?_) y0 dx g1 g2 g3
  have e1 := asc_eq a1 v.ap p1
  have e2 := asc_eq a2 v.ak p2
  subst e1 e2
  have s04 := s1.trans (s13.trans s4)
  refine ⟨_, rfl, _, rfl, ?_⟩
  generalize hz : spUnsweep K C B = zz
  show zz [.ref x, .int c] H4 _ E0
  subst hz
  refine unsweep_fn (p := ⟨_, v⟩) row c1 c2 fun z H5 s5 row5 => ?_
  rw [← fn1_eq true v] at row5
  obtain ⟨dx5, fs5, hx5⟩ := row5.at
  refine ⟨z, dx5, fs5, rfl, hx5, z, _, _, rfl, row5, fun w hw => ?_⟩
  obtain ⟨ts, bare, pr⟩ := hw
  have s05 := s04.trans s5
  have ql : (fn1 true i c (lo i ps)).length ≤ 40 := vd_len (fn1_vd v)
  generalize fn1 true i c (lo i ps) = us at pr q ql
  have tl : (ts.map V.ref).length = us.length := by rw [List.length_map, paired_len pr]
  refine ⟨w, rfl, ⟨_, BareW.sq (.inl bare)⟩, fun D2 hD2 => ?_⟩
  refine lc_it (walk_tup (K := K) (a := w) (xs := ts.map V.ref)) (fun j H6 => Same H5 H6 ∧ ∃ ws, H6 D2 = some (.lst (ws.map V.ref)) ∧ Paired (TupAt H6) ws (mv 1 (us.take j))) ⟨same_new hD2, [], upd_same, .nil⟩ (fun j H6 _ h => SqT.same h.1 (BareW.sq (.inl bare))) ?_ ?_
  · rintro j v0 H6 H7 hj ⟨s6, ws, d6, pr6⟩ ⟨rfl, hv⟩
    rw [List.getElem?_map] at hv
    obtain ⟨t, ht, rfl⟩ := Option.map_eq_some_iff.mp hv
    obtain ⟨p, hpi, hat⟩ := paired_at pr ht
    have wl : ws.length ≤ 40 := by
      have z := paired_len pr6
      unfold mv at z
      rw [List.length_map, List.length_take] at z
      have := Nat.min_le_right j us.length
      omega
    refine ⟨t, _, rfl, SqT.of (s6 _ _ hat), rfl, _, _, rfl, _, _, rfl, rfl, rfl, yes_if ?_⟩
    refine ⟨_, rfl, _, _, rfl, rfl, _, rfl, sz (by show 2 ≤ 1000; decide), fun n hn => ?_⟩
    have s8 := same_new (o := .tup [.int (p.1 + 1), .int p.2]) hn
    have T8 : TupAt (upd H7 n (.tup [.int (p.1 + 1), .int p.2])) n (p.1 + 1, p.2) := upd_same
    generalize upd H7 n (.tup [.int (p.1 + 1), .int p.2]) = H8 at s8 T8 ⊢
    have d8 := s8 _ _ d6
    have keep : ∀ {b : Addr} {p : Int × Int}, TupAt H8 b p → TupAt (upd H8 D2 (.lst (ws.map V.ref ++ [.ref n]))) b p := fun {b p} z => (upd_ne (ne_of z d8 (by intro e; cases e))).trans z
    refine ⟨_, d8, ?_, same_upd (s6.trans s8) hD2, ws ++ [n], ?_, ?_⟩
    · rw [List.length_map]
      exact Nat.lt_of_le_of_lt wl (by decide)
    · rw [upd_same, List.map_append]
      rfl
    · have e : mv 1 (us.take (j + 1)) = mv 1 (us.take j) ++ [(p.1 + 1, p.2)] := by
        rw [List.take_succ, hpi]
        exact List.map_append
      rw [e]
      exact paired_snoc (keep T8) (paired_imp (fun _ _ z => keep (s8 _ _ z)) pr6)
  · rintro H6 ⟨s6, ws, d6, pr6⟩
    rw [tl, List.take_length] at pr6
    exact q D2 H6 (none_back s05 hD2) (s05.trans s6) ⟨ws, d6, pr6⟩
theorem plain_take : ∀ {ks cs : List (Int × Int)}, Vd cs ks → ∀ i, Vd (plainF (ks.take i) cs) (ks.drop i)
  | [], cs, v, i => by
    rw [List.take_nil, List.drop_nil]
    exact v
  | (a, b) :: ks, cs, v, 0 => v
  | (a, b) :: ks, cs, v, i + 1 => by
    rw [List.take_succ_cons, List.drop_succ_cons, plainF_cons]
    exact plain_take (out_vd v).1 i
theorem plain_snoc (ks cs : List (Int × Int)) (k : Int × Int) : plainF (ks ++ [k]) cs = outBox k.1 k.2 (plainF ks cs) := by
  unfold plainF
  rw [List.foldl_append]
  rfl
def t_pfBody (K : PySem.W.Frag) : TS := (tSeq (tAsg (tLc ((fun σ H R => iList K (tVar 1) σ H R ∨ iTup K (tVar 1) σ H R)) (gName 5) (tTest (tOp qGt (tOp (rIxT K) (tVar 5) (tC (.int 0))) (tVar 2))) (tVar 5) [5]) (gName 4))
  (tAsg (tOp rCat (tCall (spWithout K) [] E0 (tCons (tVar 1) (tCons (tVar 2) (tCons (tVar 3) (tNil))))) (tVar 4)) (gName 1)))
def t_plain_form (K : PySem.W.Frag) (a0 : Addr) (c_Row : Addr) : TS := tSeq (tAsg (tProp c_Row (spContents K c_Row) [] E0 (tVar 0)) (gName 1))
  (tSeq (tFor (iTup K (tProp c_Row (spCapacities K c_Row) [] E0 (tVar 0))) (gTup K 2 (gCons (gName 2) (gCons (gName 3) (gNil))))
  (t_pfBody K))
  (tRet (tMake c_Row (spRowInit K c_Row) [.ref a0] E0 (tCons (tVar 1) (tNil)))))
def spPlainForm (K : PySem.W.Frag) (C : Addr) : Sp := fun vs H Q _ => ∃ x ps ks, vs = [.ref x] ∧ RowAt K C H x ps ks ∧ Vd ps ks ∧ ∀ y H', H y = none → Same H H' → RowAt K C H' y (plainF ks ps) [] → Q (.ref y) H'
theorem pure_plain_form {K : PySem.W.Frag} {C a0 : Addr} (hE : BareK K a0 []) (vs : List V) (H : Hp) (Q : VK) (E : XK) (h : spPlainForm K C vs H Q E) : t_plain_form K a0 C { nx := fun _ H' => Q .non H', rt := Q } (start ["row", "contents", "index", "capacity", "behind", "pair"] vs) H := by
  obtain ⟨x, ps, ks, rfl, row, v, q⟩ := h
  obtain ⟨dx, fs, hx⟩ := row.at
  refine ⟨_, rfl, x, dx, fs, rfl, hx, x, ps, ks, rfl, row, fun a ha => ?_⟩
  refine ⟨_, rfl, x, dx, fs, rfl, hx, x, ps, ks, rfl, row, fun b hb => ?_⟩
  obtain ⟨ts, bare, pr⟩ := hb
  refine ⟨b, rfl, ⟨_, BareW.sq (.inl bare)⟩, ?_⟩
  have tl : (ts.map V.ref).length = ks.length := by rw [List.length_map, paired_len pr]
  refine for_it (walk_tup (K := K) (a := b) (xs := ts.map V.ref)) (fun i σ H1 => Same H H1 ∧ ∃ A w2 w3 w4 w5, PairsAt K H1 A (plainF (ks.take i) ps) ∧ σ = [some (.ref x), some (.ref A), w2, w3, w4, w5]) ⟨fun _ _ h => h, a, none, none, none, none, ha.at, rfl⟩ ?_ ?_ ?_
  · rintro i σ H1 _ ⟨s1, _⟩
    exact SqT.same s1 (BareW.sq (.inl bare))
  · rintro i w σ H1 H2 _ ⟨s1, A, w2, w3, w4, w5, pA, rfl⟩ ⟨rfl, hw⟩
    rw [List.getElem?_map] at hw
    obtain ⟨t, ht, rfl⟩ := Option.map_eq_some_iff.mp hw
    obtain ⟨k, hk, hat⟩ := paired_at pr ht
    obtain ⟨idx, c⟩ := k
    have vi := plain_take v i
    have tk : ks.take (i + 1) = ks.take i ++ [(idx, c)] := by
      rw [List.take_succ, hk]
      rfl
    obtain ⟨rest, dr⟩ : ∃ rest, ks.drop i = (idx, c) :: rest := ⟨ks.drop (i + 1), by
      obtain ⟨h1, h2⟩ := List.getElem?_eq_some_iff.mp hk
      rw [← h2]
      exact List.drop_eq_getElem_cons h1⟩
    rw [dr] at vi
    have e : plainF (ks.take (i + 1)) ps = outBox idx c (plainF (ks.take i) ps) := by
      rw [tk, plain_snoc]
    rw [e]
    generalize plainF (ks.take i) ps = cs at pA vi ⊢
    obtain ⟨_, _, c1, c2⟩ := vi.head
    have cl := vd_len vi
    refine ⟨t, _, rfl, SqT.of (s1 _ _ hat), rfl, _, _, rfl, _, _, rfl, rfl, ?_⟩
    show t_pfBody K _ [some (.ref x), some (.ref A), some (.int idx), some (.int c), w4, w5] H2
    unfold t_pfBody
    unfold tSeq
    unfold tAsg
    refine lc_keep (vn := 5) (fun p => decide (idx < p.1)) (fun R r => ⟨_, rfl, r⟩) pA (by omega) (fun _ => rfl) (fun _ => rfl) (fun t p H' R s T r => ⟨_, rfl, t, _, 0, _, rfl, rfl, SqT.of T, rfl, _, rfl, _, _, rfl, rfl, _, rfl, r⟩) fun D H3 hD s3 pD => ?_
    refine ⟨_, rfl, _, rfl, _, rfl, ?_⟩
    generalize hz : spWithout K = zz
    show zz [.ref A, .int idx, .int c] H3 _ E0
    subst hz
    refine ⟨A, idx, c, cs, rfl, pA.same s3, near_vd vi, vi.ap, by omega, c1, c2, fun D2 H4 hD2 s4 pD2 => ?_⟩
    obtain ⟨us1, L1, pr1⟩ := pD2
    obtain ⟨us2, L2, pr2⟩ := pD.same s4
    refine ⟨_, rfl, D2, D, _, _, rfl, rfl, L1, L2, ?_, fun n hn => ?_⟩
    · rw [List.length_map, List.length_map, paired_len pr1, paired_len pr2]
      have o := vd_len (out_vd vi).1
      unfold outBox hi at o
      rw [List.length_append] at o
      exact Nat.le_trans o (by decide)
    have s5 := same_new (o := .lst (us1.map V.ref ++ us2.map V.ref)) hn
    refine ⟨s1.trans (s3.trans (s4.trans s5)), n, some (.int idx), some (.int c), some (.ref D), w5, ⟨us1 ++ us2, .inl (SqL.of (by rw [upd_same, List.map_append])), ?_⟩, rfl⟩
    unfold outBox
    exact paired_append (paired_imp (fun _ _ z => s5 _ _ z) pr1) (paired_imp (fun _ _ z => s5 _ _ z) pr2)
  · rintro σ H1 ⟨s1, A, w2, w3, w4, w5, pA, rfl⟩
    rw [tl, List.take_length] at pA
    have pv := (plain_vd v).1
    have hk : PairsAt K H1 a0 [] := ⟨[], .inr (.inr hE), .nil⟩
    refine ⟨_, rfl, fun y0 dx g1 g2 g3 => make_row (C := C) (E := E0) (Q := Q) pA hk pv.ok (fun y H5 qs ls hy s5 row5 p1 p2 a1 a2 => ?_) y0 dx g1 g2 g3⟩
    have e1 : qs = plainF ks ps := asc_eq a1 pv.ap p1
    have e2 : ls = [] := List.Perm.eq_nil p2
    subst e1 e2
    exact q y H5 (none_back s1 hy) (s1.trans s5) row5
end SR
set_option Elab.async false
set_option linter.all false
set_option maxRecDepth 100000
set_option maxHeartbeats 4000000
namespace SR
open PySem PySem.Spec PyProof.Rows L2
/-- () -/
def tTup0 : TE := fun σ H Q => ∀ p o, H p = none → o.cls = .type "tuple" → o.dict = none → Q (.ref p) (upd H p (.frz o (.tup [])))
section
variable {X : Cx}
theorem pe_tup0 {x1} {pos : Pos} : PE X (.Tuple [] x1 pos) tTup0 := by
  refine ⟨fun pins s σ H Q I hq => ?_⟩
  refine wpAny_Tuple_spliced (thn ((pa_nil (X := X)).run pos pins s σ H (fun xs H1 => xs = [] ∧ H1 = H) I ⟨rfl, rfl⟩) fun us s1 ⟨xs, H1, I1, r, ex, eh⟩ => ?_)
  subst ex eh
  cases r
  refine ⟨Nat.zero_le _, ?_⟩
  have hf : H1 s1.heap.objs.size = none := I1.hok.fresh (Nat.le_refl _)
  exact ⟨.ref s1.heap.objs.size, upd H1 s1.heap.objs.size (.frz { cls := .type "tuple", data := .seq ([] : List Value).toArray } (.tup [])), I1.laid (t' := s1.toks) (fun b u e => Heap.get?_push_of_some _ e) (Nat.le_refl _) ⟨Heap.get?_push_size _ rfl, Nat.zero_le _, [], .nil, IsTup.new _ _⟩, rfl, hq _ _ hf rfl rfl⟩
theorem sorted_seqR {prog : Program} {w : World} {A : Around} {E : Value → Shared → Prop} {s : Shared} {l : Addr} {vs : List Value} {ltv : Value → Value → Bool} {Q : Value → Shared → Prop} (O : SrtO.Swo ltv) (hl : IsTup s.heap l vs.toArray) (hz : vs.length ≤ sizeLine)
    (hS : 2 ≤ vs.length → ∀ (h1 : Heap) (a : Addr), h1.get? a = some (seqObj "list" vs.toArray 0) → (∀ b o, s.heap.get? b = some o → b ≠ a ∧ h1.get? b = some o) → SrtO.SortableO prog w A.in1.in1 { s with heap := h1 } a vs ltv)
    (h : ∀ (out : List Value) (h1 h' : Heap) (d : Addr), SrtO.Srtd ltv out → SrtO.Stb ltv out vs.reverse → (∀ b o, s.heap.get? b = some o → h1.get? b = some o) → (∀ b o, h1.get? b = some o → h'.get? b = some o) → h1.objs.size ≤ d → (∃ n, h'.get? d = some (seqObj "list" out.toArray.reverse n)) → Q (.ref d) { s with heap := h' }) :
    wpAny (model prog w) A (call (.builtin "sorted") [.ref l] [(Str.ofString "reverse", .bool true)]) Q E s := by
  obtain ⟨o, ho, hcl, n, hd⟩ := hl
  refine call_function_entry_kw kind_sorted plain_sorted entry_sorted (args_sorted_rev _ _) ?_
  unfold Builtin.«sorted»
  apply wpAny_bind (m := checkCount "sorted" 1 1 _)
  apply wpAny_pure
  apply wpAny_bind
  refine wpAny_collect_seq l (.inr rfl) ho hcl hd (fun h1 k1 => ?_) (by rw [List.size_toArray]; exact hz)
  rw [List.toList_toArray]
  apply wpAny_bind
  refine wpAny_newList ?_ hz
  have new : (h1.push (seqObj "list" vs.toArray 0)).get? h1.objs.size = some (seqObj "list" vs.toArray 0) := Heap.get?_push_size _ rfl
  have old : ∀ b o, s.heap.get? b = some o → b ≠ h1.objs.size ∧ (h1.push (seqObj "list" vs.toArray 0)).get? b = some o := fun b o e => ⟨Nat.ne_of_lt (Heap.lt_size (k1 b o e)), Heap.get?_push_of_some _ (k1 b o e)⟩
  show wpAny _ _ _ _ _ { s with heap := h1.push (seqObj "list" vs.toArray 0) }
  apply wpAny_bind
  refine wpAny_holding (wpAny_call_entry_kw slot_list_sort ⟨_, new, rfl⟩ entry_list_sort (SrtR.list_sort_ordR (b := true) O new hz (fun h2 => hS h2 _ _ new old) fun out hs hb => ⟨_, rfl, ?_⟩) (args_list_sort_rev _ _))
  refine wpAny_pure ⟨_, rfl, h out h1 _ _ hs hb k1 (fun b o e => ?_) (Nat.le_refl _) (sortedHeap_at new)⟩
  have lt := Heap.lt_size e
  rw [sortedHeap_old (Nat.ne_of_lt lt) (by rw [size_push']; exact Nat.lt_succ_of_lt lt)]
  exact Heap.get?_push_of_some _ e
def rSortedPR (K : PySem.W.Frag) : List V → List V → Hp → VK → Prop := fun vs zs H Q => ∃ (a : Addr) (xs : List V) (k : V → Int × Int), vs = [V.ref a] ∧ zs = [.bl true] ∧ (SqL K H a xs ∨ SqT K H a xs) ∧ (∀ x ∈ xs, ∃ t, x = V.ref t ∧ H t = some (.tup [.int (k x).1, .int (k x).2])) ∧
  ∀ ys p, SrtO.Srtd (ltP k) ys → SrtO.Stb (ltP k) ys xs.reverse → H p = none → Q (.ref p) (upd H p (.lst ys.reverse))
theorem cr_sortedPR : CallRK X (.builtin "sorted") [Str.ofString "reverse"] (rSortedPR X.K) := by
  intro pins s σ H vs zs us ws Q I r rz h
  obtain ⟨a, xs, k, rfl, rfl, hs, hx, q⟩ := h
  obtain rfl := Vals.ref1 r
  obtain ⟨w1, rfl, e1⟩ := vals1 rz
  obtain rfl : w1 = Value.bool true := e1
  have common : ∃ its, Vals xs its ∧ (s.heap.IsList a its.toArray ∨ IsTup s.heap a its.toArray) ∧ xs.length ≤ sizeLine := by
    rcases hs with hs | hs
    · obtain ⟨its, rv, hl, hz⟩ := I.list hs
      exact ⟨its, rv, .inl hl.isList, hz⟩
    · obtain ⟨its, rv, hl, hz⟩ := I.tuple hs
      exact ⟨its, rv, .inr hl, hz⟩
  obtain ⟨its, rv, hl, hz⟩ := common
  obtain ⟨e1, e2⟩ := refs_back rv fun x m => let ⟨t, e, _⟩ := hx x m; ⟨t, e⟩
  have prs : ∀ v ∈ its, Srt.IsPair s.heap v (k (backV v)).1 (k (backV v)).2 := by
    intro v hv
    obtain ⟨t, rfl⟩ := e2 v hv
    have hm : V.ref t ∈ xs := by rw [e1]; exact List.mem_map.mpr ⟨_, hv, rfl⟩
    obtain ⟨t', e, ht⟩ := hx _ hm
    cases e
    obtain ⟨_, its2, r2, o, ho, hc, n, hd⟩ := I.hok _ _ ht
    obtain ⟨u1, u2, rfl, ⟨t1, rfl⟩, t2, rfl⟩ := vals2 r2
    exact ⟨t, o, t1, t2, n, rfl, ho, hc, hd⟩
  have hS : 2 ≤ its.length → ∀ (h1 : Heap) (b : Addr), h1.get? b = some (seqObj "list" its.toArray 0) → (∀ c o, s.heap.get? c = some o → c ≠ b ∧ h1.get? c = some o) → SrtO.SortableO X.prog X.w X.A.in1.in1 { s with heap := h1 } b its (fun v u => SrtO.lexB (k (backV v)) (k (backV u))) := fun h2 h1 b hb kk => by
    refine SrtO.pairs_sortableO (s := { s with heap := h1 }) (by omega) (fun v hm => (prs v hm).keeps fun c o e _ => (kk c o e).2) fun o e => ?_
    cases Option.some.inj (e.symm.trans hb)
    intro c
    exact absurd (Value.type.inj c) (by decide)
  have er : xs.reverse = its.reverse.map backV := by rw [e1, List.map_reverse]
  have fin : ∀ (out : List Value) (h1 h' : Heap) (d : Addr), SrtO.Srtd (fun v u => SrtO.lexB (k (backV v)) (k (backV u))) out → SrtO.Stb (fun v u => SrtO.lexB (k (backV v)) (k (backV u))) out its.reverse → (∀ b o, s.heap.get? b = some o → h1.get? b = some o) → (∀ b o, h1.get? b = some o → h'.get? b = some o) → h1.objs.size ≤ d → (∃ n, h'.get? d = some (seqObj "list" out.toArray.reverse n)) → EP X pins σ Q (.ref d) { s with heap := h' } := fun out h1 h' d o1 o2 k1 k2 far nw => by
    have I1 : L2.Inv X pins σ H { s with heap := h1 } := I.kept (t' := s.toks) k1
    obtain ⟨n, hn⟩ := nw
    have rf : ∀ u ∈ out, ∃ a, u = Value.ref a := fun u hu => e2 u (List.mem_reverse.mp (o2.perm.mem_iff.mp hu))
    have rf2 : ∀ u ∈ out.reverse, ∃ a, u = Value.ref a := fun u hu => rf u (List.mem_reverse.mp hu)
    have st : SrtO.Stb (ltP k) (out.map backV) xs.reverse := by rw [er]; exact SrtO.Stb.map (ltP_swo k) backV o2
    have e3 : out.toArray.reverse = out.reverse.toArray := by simp
    have e4 : (out.map backV).reverse = out.reverse.map backV := by rw [List.map_reverse]
    refine ⟨.ref d, upd H d (.lst (out.map backV).reverse), I1.laid (t' := s.toks) k2 far ⟨?_, out.reverse, n, by rw [e4]; exact vals_back rf2, by rw [← e3]; exact hn⟩, rfl, q _ d (SrtO.srtd_map o1) st (I1.hok.fresh far)⟩
    rw [List.length_reverse, st.len, List.length_reverse]
    exact hz
  rcases hl with hl | hl
  · refine SrtR.sorted_ordK (b := true) (fun _ => rfl) (args_sorted_rev _ _) (fun _ => args_list_sort_rev _ _) (SrtO.swo_lex fun u => k (backV u)) hl (by rw [← rv.length]; exact hz) (fun h2 h1 b hb kk => hS h2 h1 b hb kk) fun out h1 h2 => ?_
    exact fin out s.heap _ _ h1 h2 (fun _ _ e => e) (fun _ _ e => sortedAll_old e) (Nat.le_succ _) (sortedAll_at s.heap its out.toArray.reverse)
  · exact sorted_seqR (SrtO.swo_lex fun u => k (backV u)) hl (by rw [← rv.length]; exact hz) (fun h2 h1 b hb kk => hS h2 h1 b hb kk) fin
end
theorem PairsAt.sortedR {K : PySem.W.Frag} {H : Hp} {a : Addr} {ps : List (Int × Int)} {Q : VK} (h : PairsAt K H a ps) (nd : (ps.map Prod.fst).Nodup)
    (q : ∀ l us qs, H l = none → Paired (TupAt H) us qs → qs.Perm ps → Asc qs → Q (.ref l) (upd H l (.lst (us.map V.ref).reverse))) : rSortedPR K [.ref a] [.bl true] H Q := by
  obtain ⟨ts, h1, h2⟩ := h
  have it : ∀ x ∈ ts.map V.ref, ∃ t, x = V.ref t ∧ H t = some (.tup [.int (pk H x).1, .int (pk H x).2]) := fun x m => by
    obtain ⟨t, ht, rfl⟩ := List.mem_map.mp m
    obtain ⟨p, _, hat⟩ := paired_mem h2 t ht
    refine ⟨t, rfl, ?_⟩
    rw [pk_at hat]
    exact hat
  refine ⟨a, _, pk H, rfl, rfl, h1.imp id BareW.sq, it, fun ys p a1 a2 a3 => ?_⟩
  have rev : (ts.map V.ref).reverse = ts.reverse.map V.ref := by rw [List.map_reverse]
  rw [rev] at a2
  have pr : Paired (TupAt H) ts.reverse ps.reverse := by
    have key : ∀ {ts : List Addr} {ps : List (Int × Int)}, Paired (TupAt H) ts ps → Paired (TupAt H) ts.reverse ps.reverse := by
      intro ts ps h
      induction h with
      | nil => exact .nil
      | cons f _ ih =>
        rw [List.reverse_cons, List.reverse_cons]
        exact paired_snoc f ih
    exact key h2
  have nd2 : (ps.reverse.map Prod.fst).Nodup := ((List.reverse_perm ps).map _).nodup_iff.mpr nd
  obtain ⟨us, qs, rfl, b1, b2, b3⟩ := sorted_out pr nd2 a1 a2
  exact q p us qs a3 b1 (b2.trans (List.reverse_perm ps)) b3
end SR
set_option Elab.async false
set_option linter.all false
set_option maxRecDepth 100000
set_option maxHeartbeats 4000000
namespace SR
open PySem PySem.Spec PyProof.Rows L2
theorem args_maxD (a d : Value) : argsOk "max" ⟨[a], [(Str.ofString "default", d)]⟩ := by unfold argsOk; kernel_rfl
theorem nameML : (toString "max" ++ toString ".loop" : String) = "max.loop" := by decide
section
variable {prog : Program} {w : World} {A : Around} {R : Result → Shared → Prop} {it : Addr} {fp wr : List Addr} {n : Nat} {P : Nat → Value → Prop} {St : Nat → Heap → Prop} {kw : List (Str × Value)}
/-- the walk behind the first item; kw is handed on -/
theorem mxd_more (W : PySem.Walks prog w A.in1 it fp wr n P St) (bt : Nat → Nat → Bool) (cmp : CmpOf prog w A.in1 .Gt P bt) (B : Addr) (nB : B ∉ fp) :
    ∀ (k j : Nat) (s : Shared) (best : Value) (c : Nat), n - (j + 1) = k → j + 1 ≤ n → St (j + 1) s.heap → P (argBest bt j) best → s.heap.get? B = some { cls := .type "list", dict := none, data := .seq #[best, best] c, slots := #[] } →
    (∀ v h' tk, P (argBest bt (n - 1)) v → (∀ b o, b ∉ wr → b ≠ B → s.heap.get? b = some o → h'.get? b = some o) → R (.ok (.ret v)) { s with heap := h', toks := tk }) →
    codeAny (model prog w) A (.builtin "max.loop" ⟨[.ref it, .none, .ref B], kw⟩) R s
  | 0, j, s, best, c, ek, lj, st, pb, hB, fin => by
    have nW : B ∉ wr := fun h => nB (W.sub _ h)
    have end_ : j + 1 = n := by omega
    refine codeAny_builtin (b := Builtin.«max.loop») PySem.F.entry_max_loop ?_
    rw [Around.under_plainId (id := "max.loop") PySem.F.plain_max_loop _]
    show wpAny _ A.in1 (seqItems? (.ref B) >>= _) _ _ s
    refine wpAny_bind (wpAny_seqItems hB rfl (wpAny_bind (wpAny_tryCatch (W.done s _ _ (end_ ▸ st) fun h1 tk k1 => ?_))))
    have hB1 := k1 B _ nW hB
    show wpAny _ A.in1 (updateSeq B (fun _ => #[]) >>= _) _ _ _
    refine wpAny_bind (wpAny_updateSeq hB1 rfl (wpAny_bind (wpAny_letGo (wpAny_pure ?_))))
    exact fin best _ tk (by rw [← end_]; exact pb) fun b o q1 q2 e => (Heap.get?_update_other _ _ (Ne.symm q2)).trans (k1 b o q1 e)
  | k + 1, j, s, best, c, ek, lj, st, pb, hB, fin => by
    have nW : B ∉ wr := fun h => nB (W.sub _ h)
    have more_ : j + 1 < n := by omega
    refine codeAny_builtin (b := Builtin.«max.loop») PySem.F.entry_max_loop ?_
    rw [Around.under_plainId (id := "max.loop") PySem.F.plain_max_loop _]
    show wpAny _ A.in1 (seqItems? (.ref B) >>= _) _ _ s
    refine wpAny_bind (wpAny_seqItems hB rfl (wpAny_bind (wpAny_tryCatch (W.item (j + 1) s _ _ more_ st fun v h1 tk pv st1 k1 => ?_))))
    have hB1 := k1 B _ nW hB
    show wpAny _ A.in1 (tryCatch (holding [v, v] (richCompare .Gt v best >>= _)) _ >>= _) _ _ _
    refine wpAny_bind (wpAny_tryCatch (wpAny_holding (wpAny_bind (cmp (j + 1) (argBest bt j) v best _ _ _ pv pb (wpAny_bind (wpAny_holding (wpAny_truthy_bool (wpAny_bind (wpAny_letGo (wpAny_pure ?_))))))))))
    cases q : bt (j + 1) (argBest bt j) with
    | true =>
      simp only [if_true]
      refine wpAny_bind (wpAny_updateSeq hB1 rfl (wpAny_bind (wpAny_letGo ?_)))
      rw [nameML]
      refine wpAny_pure ⟨plainId_quiet PySem.F.plain_max_loop _, mxd_more W bt cmp B nB k (j + 1) _ v _ (by omega) more_ (W.frame _ _ _ st1 fun b hb o e => ?_) (by unfold argBest; rw [if_pos q]; exact pv) (Heap.get?_update_self _ hB1 rfl) fun v2 h2 tk2 pv2 k2 => ?_⟩
      · exact (Heap.get?_update_other _ _ (fun z : B = b => nB (by rw [z]; exact hb))).trans e
      · exact fin v2 h2 tk2 pv2 fun b o q1 q2 e => k2 b o q1 q2 ((Heap.get?_update_other _ _ (Ne.symm q2)).trans (k1 b o q1 e))
    | false =>
      simp only [Bool.false_eq_true, if_false]
      refine wpAny_bind (wpAny_letGo ?_)
      rw [nameML]
      exact wpAny_pure ⟨plainId_quiet PySem.F.plain_max_loop _, mxd_more W bt cmp B nB k (j + 1) _ best c (by omega) more_ st1 (by unfold argBest; rw [if_neg (by rw [q]; exact Bool.false_ne_true)]; exact pb) hB1 fun v2 h2 tk2 pv2 k2 => fin v2 h2 tk2 pv2 fun b o q1 q2 e => k2 b o q1 q2 (k1 b o q1 e)⟩
end
section
variable {prog : Program} {w : World} {A : Around} {E : Value → Shared → Prop} {s : Shared} {l : Addr} {xs : Array (Int × Tok)} {d : Value}
theorem maxD_ints {Q : Value → Shared → Prop} (hh : A.handled = none) (hl : s.heap.IsList l (intItems xs)) (h0 : xs.size = 0 → ∀ h' tk, (∀ b o, s.heap.get? b = some o → h'.get? b = some o) → Q d { s with heap := h', toks := tk })
    (h : 0 < xs.size → ∀ v h' tk, (intItems xs)[argBest (fun i j => decide (numAt xs i > numAt xs j)) (xs.size - 1)]? = some v → (∀ b o, s.heap.get? b = some o → h'.get? b = some o) → Q v { s with heap := h', toks := tk }) :
    wpAny (model prog w) A (call (.builtin "max") [.ref l] [(Str.ofString "default", d)]) Q E s := by
  refine kmb_tree PySem.F.kind_max PySem.F.plain_max PySem.F.entry_max (args_maxD _ _) ?_
  show wpAny _ A.in1 (Builtin.Builtins.bindParams "max" ["key", "default"] 0 ⟨[], [(Str.ofString "default", d)]⟩ >>= _) _ _ s
  refine wpAny_bind (wpAny_of_eq (show Builtin.Builtins.bindParams "max" ["key", "default"] 0 ⟨[], [(Str.ofString "default", d)]⟩ = pure [none, some d] from rfl) ?_)
  refine wpAny_bind (wpAny_pure ?_)
  refine wpAny_bind (iter_intList hl fun s2 es st hfp hlI => ?_)
  subst es
  generalize hs2 : ({ s with heap := s.heap.push { cls := .type "list_iterator", data := .fields #[.ref l, .int 0 0] } } : Shared) = s2 at st hfp ⊢
  have W := PySem.Walks.list (prog := prog) (w := w) (A := A.in1) hh s.heap.objs.size l hlI (intItems xs)
  have sz : (intItems xs).size = xs.size := by simp [intItems]
  rw [sz] at W
  have old2 : ∀ b o, s.heap.get? b = some o → s2.heap.get? b = some o := fun b o e => by
    rw [← hs2]
    exact Heap.get?_push_of_some _ e
  have lt2 : ∀ b o, s.heap.get? b = some o → b ≠ s.heap.objs.size ∧ b ≠ s2.heap.objs.size := fun b o e => ⟨Nat.ne_of_lt (Heap.lt_size e), Nat.ne_of_lt (Heap.lt_size (old2 b o e))⟩
  refine wpAny_bind (wpAny_newList ?_ (Nat.zero_le _))
  rw [nameML]
  have nB : s2.heap.objs.size ∉ [s.heap.objs.size, l] := fun m => Nat.lt_irrefl _ (hfp _ m)
  have hB : (s2.heap.push (seqObj "list" #[] 0)).get? s2.heap.objs.size = some (seqObj "list" #[] 0) := Heap.get?_push_size _ rfl
  have st3 : (s2.heap.push (seqObj "list" #[] 0)).IsListIter s.heap.objs.size l 0 ∧ (s2.heap.push (seqObj "list" #[] 0)).IsList l (intItems xs) := W.frame 0 _ _ st fun b _ o e => Heap.get?_push_of_some _ e
  refine wpAny_pure ⟨plainId_quiet PySem.F.plain_max_loop _, ?_⟩
  refine codeAny_builtin (b := Builtin.«max.loop») PySem.F.entry_max_loop ?_
  rw [Around.under_plainId (id := "max.loop") PySem.F.plain_max_loop _]
  show wpAny _ A.in1 (seqItems? (.ref s2.heap.objs.size) >>= _) _ _ _
  have nW : s2.heap.objs.size ∉ [s.heap.objs.size] := fun m => nB (by rw [List.mem_singleton.mp m]; exact List.mem_cons_self)
  have sEq : ∀ (h' : Heap) (tk : Nat), ({ s2 with heap := h', toks := tk } : Shared) = { s with heap := h', toks := tk } := fun h' tk => by rw [← hs2]
  by_cases z : xs.size = 0
  · refine wpAny_bind (wpAny_seqItems hB rfl (wpAny_bind (wpAny_tryCatch (W.done _ _ _ (by rw [z]; exact st3) fun h1 tk k1 => ?_))))
    have fin := h0 z h1 tk fun b o e => k1 b o (fun m => (lt2 b o e).1 (List.mem_singleton.mp m)) (Heap.get?_push_of_some _ (old2 b o e))
    rw [← sEq] at fin
    show wpAny (model prog w) A.in1 (rule _ >>= fun _ => (pure (PySem.Fin.done (.ret d)) : Sem PySem.Fin)) _ _ _
    refine wpAny_bind (wpAny_rule ?_)
    exact wpAny_pure fin
  · have pos : 0 < xs.size := Nat.pos_of_ne_zero z
    refine wpAny_bind (wpAny_seqItems hB rfl (wpAny_bind (wpAny_tryCatch (W.item 0 _ _ _ pos st3 fun v h1 tk pv st1 k1 => ?_))))
    have hB1 := k1 _ _ nW hB
    show wpAny _ A.in1 (updateSeq s2.heap.objs.size (fun _ => #[v, v]) >>= _) _ _ _
    refine wpAny_bind (wpAny_updateSeq hB1 rfl ?_)
    rw [nameML]
    refine wpAny_pure ⟨plainId_quiet PySem.F.plain_max_loop _, mxd_more W (fun i j => decide (numAt xs i > numAt xs j)) (CmpOf.ints_gt (numAt xs) (fun _ _ => intItems_at)) s2.heap.objs.size nB _ 0 _ v _ rfl pos (W.frame _ _ _ st1 fun b hb o e => ?_) pv (Heap.get?_update_self _ hB1 rfl) fun v2 h2 tk2 pv2 k2 => ?_⟩
    · exact (Heap.get?_update_other _ _ (fun q : s2.heap.objs.size = b => nB (by rw [q]; exact hb))).trans e
    · have fin := h pos v2 h2 tk2 (by simpa [intItems] using pv2) fun b o e => k2 b o (fun m => (lt2 b o e).1 (List.mem_singleton.mp m)) (lt2 b o e).2 ((Heap.get?_update_other _ _ (Ne.symm (lt2 b o e).2)).trans (k1 b o (fun m => (lt2 b o e).1 (List.mem_singleton.mp m)) (Heap.get?_push_of_some _ (old2 b o e))))
      rw [← sEq] at fin
      exact fin
end
def rMaxDf (K : PySem.W.Frag) : List V → List V → Hp → VK → Prop := fun vs zs H Q => ∃ (a : Addr) (ns : List Int) (d : Int), vs = [V.ref a] ∧ zs = [.int d] ∧ SqL K H a (ns.map V.int) ∧ (ns = [] → Q (.int d) H) ∧ ∀ m, m ∈ ns → (∀ y ∈ ns, y ≤ m) → Q (.int m) H
theorem cr_maxDf {X : Cx} (hc : X.calm = true) : CallRK X (.builtin "max") [Str.ofString "default"] (rMaxDf X.K) := by
  intro pins s σ H vs zs us ws Q I r rz h
  obtain ⟨a, ns, d, rfl, rfl, hs, q0, q⟩ := h
  obtain ⟨its, rv, hl, _⟩ := I.list hs
  obtain rfl := Vals.ref1 r
  obtain ⟨w1, rfl, td, e1⟩ := vals1 rz
  subst e1
  have hi := rv.ints
  obtain ⟨xs, e⟩ := hi.allInts.items
  have hn : numsOf (intItems xs).toList = ns := by rw [← e]; exact hi.numsOf
  rw [nums_intItems] at hn
  subst hn
  have hl' : s.heap.IsList a (intItems xs) := by rw [← e]; exact hl.isList
  refine maxD_ints (I.ok.hd hc) hl' (fun z h' tk k => ⟨.int d, H, I.kept k, ⟨_, rfl⟩, q0 ?_⟩) fun pos v h' tk hv k => ?_
  · exact List.length_eq_zero_iff.mp (by simpa using z)
  · obtain ⟨t, rfl⟩ := intItems_at hv
    obtain ⟨h1, h2⟩ := argBest_gt (numAt xs) (xs.size - 1)
    refine ⟨.int _, H, I.kept k, ⟨_, rfl⟩, q _ ?_ fun y m => ?_⟩
    · rw [numAt_eq]
      exact PySem.getD_mem (by rw [List.length_map, Array.length_toList]; omega)
    · obtain ⟨j, hj, rfl⟩ := mem_getD m
      rw [List.length_map, Array.length_toList] at hj
      rw [← numAt_eq]
      exact h2 j (by omega)
end SR
set_option Elab.async false
set_option linter.all false
set_option maxRecDepth 100000
set_option maxHeartbeats 1000000
namespace SR
open PySem PySem.Spec PyProof.Rows L2
section
variable {K : PySem.W.Frag} {B C : Addr} {N N2 N3 : L2.St → Hp → Prop} {R : VK}
/-- what is no list stays -/
theorem RowAt.lst {H H' : Hp} {O x : Addr} {xs : List V} {ps ks : List (Int × Int)} (row : RowAt K C H x ps ks) (hO : H O = some (.lst xs)) (k : SameBut O H H') : RowAt K C H' x ps ks := by
  have kp : ∀ {a : Addr} {o : HO}, H a = some o → (∀ ys, o ≠ .lst ys) → H' a = some o := fun {a o} h n => k _ _ (fun z => by
    rw [z, hO] at h
    exact n xs (Option.some.inj h).symm) h
  obtain ⟨dx, c0, k0, d0, e, ps0, ks0, h1, ⟨t1, h2, h3⟩, ⟨t2, h4, h5⟩, h6, h7, h8⟩ := row
  have tp : ∀ {t : Addr} {p : Int × Int}, TupAt H t p → TupAt H' t p := fun {t p} z => kp (o := .tup [.int p.1, .int p.2]) z (fun _ z => nomatch z)
  refine ⟨dx, c0, k0, d0, e, ps0, ks0, kp h1 (fun _ z => nomatch z), ⟨t1, ?_, paired_imp (fun _ _ z => tp z) h3⟩, ⟨t2, ?_, paired_imp (fun _ _ z => tp z) h5⟩, kp h6 (fun _ z => nomatch z), kp h7 (fun _ z => nomatch z), h8⟩
  · obtain ⟨o, a1, a2⟩ := h2
    exact ⟨o, kp a1 (fun _ z => nomatch z), a2⟩
  · obtain ⟨o, a1, a2⟩ := h4
    exact ⟨o, kp a1 (fun _ z => nomatch z), a2⟩
end
end SR
set_option Elab.async false
set_option linter.all false
set_option maxRecDepth 100000
set_option maxHeartbeats 1000000
set_option Elab.async false
set_option linter.all false
set_option maxRecDepth 100000
set_option maxHeartbeats 1000000
namespace SR
open PySem PySem.Spec PyProof.Rows L2
/-- all but the dict at F stays -/
theorem SameBut.tr {F : Addr} {H H1 H2 : Hp} (a : SameBut F H H1) (b : SameBut F H1 H2) : SameBut F H H2 := fun x o ne h => b x o ne (a x o ne h)
theorem Same.sb {F : Addr} {H H1 : Hp} (a : Same H H1) : SameBut F H H1 := fun x o _ h => a x o h
end SR
set_option Elab.async false
set_option linter.all false
set_option maxRecDepth 100000
set_option maxHeartbeats 1000000
namespace SR
open PySem PySem.Spec PyProof.Rows L2
/-- [new pair for a, b in l if test] -/
theorem lc_mapF {K : PySem.W.Frag} {te : TE} {g : TG} {tt : TT} {telt : TE} {vs : List Nat} {σ : L2.St} {H : Hp} {a : Addr} {ps : List (Int × Int)} {Q : VK} (P : Int × Int → Bool) (f : Int × Int → Int × Int) (hte : ∀ R : VK, R (.ref a) H → te σ H R) (hp : PairsAt K H a ps) (hl : ps.length ≤ 1000)
    (hs : ∀ t p H' (Rt : VK) (Rf : Hp → Prop), Same H H' → TupAt H' t p → (P p = true → ∀ n, H' n = none → Rt (.ref n) (upd H' n (.tup [.int (f p).1, .int (f p).2]))) → (P p = false → Rf H') → g (.ref t) (wipe σ vs) H' fun σ2 H2 => wipe σ2 vs = wipe σ vs ∧ tt σ2 H2 fun b H3 => if b = true then telt σ2 H3 Rt else Rf H3)
    (hQ : ∀ D H', H D = none → Same H H' → PairsL H' D ((ps.filter P).map f) → Q (.ref D) H') :
    tLc (fun σ H R => iList K te σ H R ∨ iTup K te σ H R) g tt telt vs σ H Q := by
  obtain ⟨ts, hsq, hts⟩ := hp
  have hlen : (ts.map V.ref).length = ps.length := by rw [List.length_map, paired_len hts]
  have step : ∀ (D : Addr), H D = none → ∀ i x H1 H2, i < (ts.map V.ref).length → (Same H H1 ∧ PairsL H1 D (((ps.take i).filter P).map f)) → YAt (ts.map V.ref) i H1 x H2 → g x (wipe σ vs) H2 fun σ2 H3 => wipe σ2 vs = wipe σ vs ∧ tt σ2 H3 fun b H4 =>
      if b = true then telt σ2 H4 fun y H5 => ∃ acc, H5 D = some (.lst acc) ∧ acc.length < sizeLine ∧ (Same H (upd H5 D (.lst (acc ++ [y]))) ∧ PairsL (upd H5 D (.lst (acc ++ [y]))) D (((ps.take (i + 1)).filter P).map f)) else Same H H4 ∧ PairsL H4 D (((ps.take (i + 1)).filter P).map f) := by
    rintro D hD i x H1 H2 hi ⟨s1, us, d1, pr⟩ ⟨rfl, hx⟩
    rw [List.getElem?_map] at hx
    obtain ⟨t, ht, rfl⟩ := Option.map_eq_some_iff.mp hx
    obtain ⟨p, hpi, hat⟩ := paired_at hts ht
    have ul : us.length ≤ 1000 := by
      have a := paired_len pr
      rw [List.length_map] at a
      have b := List.length_filter_le P (ps.take i)
      rw [List.length_take] at b
      have c := Nat.min_le_right i ps.length
      omega
    have tk : ps.take (i + 1) = ps.take i ++ [p] := by
      rw [List.take_succ, hpi]
      rfl
    refine hs t p H2 _ _ s1 (s1 _ _ hat) (fun e n hn => ?_) fun e => ⟨s1, us, d1, ?_⟩
    · have s3 := same_new (o := .tup [.int (f p).1, .int (f p).2]) hn
      have T3 : TupAt (upd H2 n (.tup [.int (f p).1, .int (f p).2])) n (f p) := upd_same
      generalize upd H2 n (.tup [.int (f p).1, .int (f p).2]) = H3 at s3 T3 ⊢
      have d3 := s3 _ _ d1
      have keep : ∀ {b : Addr} {p : Int × Int}, TupAt H3 b p → TupAt (upd H3 D (.lst (us.map V.ref ++ [.ref n]))) b p := fun {b p} z => (upd_ne (ne_of z d3 (by intro e; cases e))).trans z
      refine ⟨_, d3, ?_, same_upd (s1.trans s3) hD, us ++ [n], ?_, ?_⟩
      · rw [List.length_map]
        exact Nat.lt_of_le_of_lt ul (by decide)
      · rw [upd_same, List.map_append]
        rfl
      · rw [tk, List.filter_append, List.map_append]
        have : ([p].filter P) = [p] := by
          rw [List.filter_cons_of_pos e]
          rfl
        rw [this]
        exact paired_snoc (keep T3) (paired_imp (fun _ _ z => keep (s3 _ _ z)) pr)
    · rw [tk, List.filter_append, List.map_append]
      have : ([p].filter P) = [] := by
        rw [List.filter_cons_of_neg (by rw [e]; exact Bool.false_ne_true)]
        rfl
      rw [this]
      show Paired _ _ (_ ++ [])
      rw [List.append_nil]
      exact pr
  have fin : ∀ D, H D = none → ∀ H1, (Same H H1 ∧ PairsL H1 D (((ps.take (ts.map V.ref).length).filter P).map f)) → Q (.ref D) H1 := by
    rintro D hD H1 ⟨s1, pl⟩
    rw [hlen, List.take_length] at pl
    exact hQ D H1 hD s1 pl
  rcases hsq with hsq | hsq
  · refine .inl (hte _ ⟨a, rfl, ⟨_, hsq⟩, fun D hD => ?_⟩)
    exact lc_it (walk_list (K := K) (a := a) (xs := ts.map V.ref)) (fun i H1 => Same H H1 ∧ PairsL H1 D (((ps.take i).filter P).map f)) ⟨same_new hD, [], upd_same, .nil⟩ (fun i H1 _ h => SqL.same h.1 hsq) (step D hD) (fin D hD)
  · refine .inr (hte _ ⟨a, rfl, ⟨_, hsq.sq⟩, fun D hD => ?_⟩)
    exact lc_it (walk_tup (K := K) (a := a) (xs := ts.map V.ref)) (fun i H1 => Same H H1 ∧ PairsL H1 D (((ps.take i).filter P).map f)) ⟨same_new hD, [], upd_same, .nil⟩ (fun i H1 _ h => SqT.same h.1 hsq.sq) (step D hD) (fin D hD)
def t_wi2 (K : PySem.W.Frag) (c_BadCapacity : Addr) (c_Row : Addr) : TS := (tRet (tCB (qListOf K) (tCons (tProp c_Row (spContents K c_Row) [] E0 (tCall (spSweep K c_Row c_BadCapacity) [] E0 (tCons (tVar 3) (tCons (tVar 2) (tNil))))) (tNil))))
def t_with_box (K : PySem.W.Frag) (c_BadCapacity : Addr) (c_Row : Addr) : TS := tSeq (tAsg (tMake c_Row (spRowInit K c_Row) [] E0 (tCons (tLc ((fun σ H R => iList K (tVar 0) σ H R ∨ iTup K (tVar 0) σ H R)) (gTup K 2 (gCons (gName 4) (gCons (gName 5) (gNil)))) (tTest (tOp qLe (tVar 4) (tVar 1))) (tTup (tCons (tOp qSub (tVar 4) (tC (.int 1))) (tCons (tVar 5) (tNil)))) [4, 5]) (tCons (tLst (tCons (tTup (tCons (tVar 1) (tCons (tVar 2) (tNil)))) (tNil))) (tNil)))) (gName 3))
  (t_wi2 K c_BadCapacity c_Row)
def spWith (K : PySem.W.Frag) : Sp := fun vs H Q _ => ∃ (a : Addr) (i c : Int) (ps : List (Int × Int)), vs = [.ref a, .int i, .int c] ∧ PairsAt K H a ps ∧ Vd (mv (-1) (lo i ps)) [(i, c)] ∧ ps.length ≤ 1000 ∧ 1 ≤ c ∧ c ≤ 99 ∧
  ∀ D H', H D = none → Same H H' → PairsL H' D (fn1 false i c (mv (-1) (lo i ps))) → Q (.ref D) H'
theorem pure_with {K : PySem.W.Frag} {B C : Addr} (vs : List V) (H : Hp) (Q : VK) (E : XK) (h : spWith K vs H Q E) : t_with_box K B C { nx := fun _ H' => Q .non H', rt := Q } (start ["contents", "index", "capacity", "near", "place", "count"] vs) H := by
  obtain ⟨a, i, c, ps, rfl, hp, v, len, c1, c2, q⟩ := h
  unfold t_with_box
  unfold tSeq
  unfold tAsg
  refine make_two ?_
  refine lc_mapF (fun p => decide (p.1 ≤ i)) (fun p => (p.1 - 1, p.2)) (fun R r => ⟨_, rfl, r⟩) hp len (fun t p H' Rt Rf s T y n => ⟨t, _, rfl, SqT.of T, rfl, _, _, rfl, _, _, rfl, rfl, rfl, _, rfl, _, rfl, _, _, rfl, rfl, _, rfl, ?_⟩) fun D H1 hD s1 pl => ?_
  · cases e : decide (p.1 ≤ i) with
    | true => exact iteT ⟨_, rfl, _, _, rfl, rfl, _, rfl, sz (by show 2 ≤ 1000; decide), y e⟩
    | false => exact iteF (n e)
  have em : ((ps.filter fun p => decide (p.1 ≤ i)).map fun p : Int × Int => (p.1 - 1, p.2)) = mv (-1) (lo i ps) := List.map_congr_left fun p _ => by
    show (p.1 - 1, p.2) = (p.1 + -1, p.2)
    rw [Int.sub_eq_add_neg]
  rw [em] at pl
  generalize mv (-1) (lo i ps) = ns at pl v q
  refine ⟨_, rfl, _, rfl, sz (by show 2 ≤ 1000; decide), fun t ht => ?_⟩
  have s2 := same_new (o := .tup [.int i, .int c]) ht
  have T2 : TupAt (upd H1 t (.tup [.int i, .int c])) t (i, c) := upd_same
  generalize upd H1 t (.tup [.int i, .int c]) = H2 at s2 T2 ⊢
  refine ⟨sz (by show 1 ≤ 1000; decide), fun l hl => ?_⟩
  have s3 := same_new (o := .lst [.ref t]) hl
  have L3 : PairsL (upd H2 l (.lst [.ref t])) l [(i, c)] := ⟨[t], upd_same, .cons (s3 _ _ T2) .nil⟩
  generalize upd H2 l (.lst [.ref t]) = H3 at s3 L3 ⊢
  have s13 := s2.trans s3
  intro y0 dx g1 g2 g3
  refine make_row (C := C) (E := E0) (Q := fun z H4 => t_wi2 K B C { nx := fun _ H' => Q .non H', rt := Q } [some (.ref a), some (.int i), some (.int c), some z, none, none] H4) (pl.same s13).at L3.at v.ok (fun x H4 qs ls hx s4 row p1 p2 a1 a2 => ?_) y0 dx g1 g2 g3
  have e1 := asc_eq a1 v.ap p1
  have e2 := asc_eq a2 v.ak p2
  subst e1 e2
  have s04 := s1.trans (s13.trans s4)
  refine ⟨_, rfl, _, rfl, ?_⟩
  generalize hz : spSweep K C B = zz
  show zz [.ref x, .int c] H4 _ E0
  subst hz
  refine sweep_fn (p := ⟨_, v⟩) row c1 c2 fun z H5 s5 row5 => ?_
  rw [← fn1_eq false v] at row5
  obtain ⟨dx5, fs5, hx5⟩ := row5.at
  refine ⟨z, dx5, fs5, rfl, hx5, z, _, _, rfl, row5, fun w hw => ?_⟩
  obtain ⟨ts, bare, pr⟩ := hw
  have s05 := s04.trans s5
  refine ⟨w, _, rfl, .inr (BareW.sq (.inl bare)), fun D2 hD2 => ?_⟩
  have s6 := same_new (o := .lst (ts.map V.ref)) hD2
  exact q D2 _ (none_back s05 hD2) (s05.trans s6) ⟨ts, upd_same, paired_imp (fun _ _ z => s6 _ _ z) pr⟩
end SR
set_option Elab.async false
set_option linter.all false
set_option maxRecDepth 100000
set_option maxHeartbeats 4000000
namespace SR
open PySem PySem.Spec PyProof.Rows L2
def wbB (p : Int × Int) : Bool := btw (-60) 60 (.int p.1) && btw 2 9 (.int p.2)
theorem wbB_ok {p : Int × Int} : wbB p = true ↔ sizeOk p := by
  unfold wbB
  rw [Bool.and_eq_true]
  constructor
  · rintro ⟨h1, h2⟩
    obtain ⟨i, e1, b1⟩ := btw_iff.mp h1
    obtain ⟨c, e2, b2⟩ := btw_iff.mp h2
    cases e1
    cases e2
    exact ⟨b1, b2⟩
  · rintro ⟨h1, h2⟩
    exact ⟨btw_iff.mpr ⟨_, rfl, h1⟩, btw_iff.mpr ⟨_, rfl, h2⟩⟩
/-- no pairs at all, or the same first twice -/
inductive OddP (K : PySem.W.Frag) (H : Hp) : V → Prop where
  | kind {v : V} {t : String} (h : AnyT K H v t) (h1 : (t == "list") = false) (h2 : (t == "tuple") = false) : OddP K H v
  | elem {a : Addr} {x : V} {o : Option (List V)} (h : SqL K H a [x]) (hx : Val2 K H x o) (ho : pairO o = false) : OddP K H (.ref a)
  | dup {a t1 t2 : Addr} {i m n : Int} (h : SqL K H a [.ref t1, .ref t2]) (h1 : TupAt H t1 (i, m)) (h2 : TupAt H t2 (i, n)) : OddP K H (.ref a)
inductive OddC (K : PySem.W.Frag) (H : Hp) : V → Prop where
  | odd {v : V} (h : OddP K H v) : OddC K H v
  | size {a t : Addr} {p : Int × Int} (h : SqL K H a [.ref t]) (h1 : TupAt H t p) (h2 : wbB p = false) : OddC K H (.ref a)
theorem OddP.same {K : PySem.W.Frag} {H H' : Hp} {v : V} (s : Same H H') (h : OddP K H v) : OddP K H' v := by
  cases h with
  | kind h h1 h2 => exact .kind (h.same s) h1 h2
  | elem h hx ho => exact .elem (Same.seq s h) (hx.same s) ho
  | dup h h1 h2 => exact .dup (Same.seq s h) (s _ _ h1) (s _ _ h2)
theorem OddC.same {K : PySem.W.Frag} {H H' : Hp} {v : V} (s : Same H H') (h : OddC K H v) : OddC K H' v := by
  cases h with
  | odd h => exact .odd (h.same s)
  | size h h1 h2 => exact .size (Same.seq s h) (s _ _ h1) h2
theorem OddP.lst {K : PySem.W.Frag} {H : Hp} {v : V} (h : OddP K H v) : (∃ t, AnyT K H v t ∧ (t == "list") = false ∧ (t == "tuple") = false) ∨ ∃ (a : Addr) (xs : List V), v = V.ref a ∧ SqL K H a xs ∧ ((∃ x o, xs = [x] ∧ Val2 K H x o ∧ pairO o = false) ∨ ∃ (t1 t2 : Addr) (i m n : Int), xs = [V.ref t1, V.ref t2] ∧ TupAt H t1 (i, m) ∧ TupAt H t2 (i, n)) := by
  cases h with
  | kind h h1 h2 => exact .inl ⟨_, h, h1, h2⟩
  | elem h hx ho => exact .inr ⟨_, _, rfl, h, .inl ⟨_, _, rfl, hx, ho⟩⟩
  | dup h h1 h2 => exact .inr ⟨_, _, rfl, h, .inr ⟨_, _, _, _, _, rfl, h1, h2⟩⟩
def spArePairs2 (K : PySem.W.Frag) : Sp := fun vs H Q E => ∃ v, vs = [v] ∧ (spArePairs K [v] H Q E ∨ OddP K H v ∧ ∀ H', Same H H' → Q (.bl false) H')
theorem kit_no {K : PySem.W.Frag} {H : Hp} {v : V} {t : String} (h : AnyT K H v t) (h1 : (t == "list") = false) (h2 : (t == "tuple") = false) : PySem.W.kitAny K (.type t) [.type "list", .type "tuple"] = some false := by
  obtain ⟨_, _, k1, k2, _⟩ := h.kit
  unfold PySem.W.kitAny
  rw [k2, h1]
  show PySem.W.kitAny K (.type t) [.type "tuple"] = some false
  unfold PySem.W.kitAny
  rw [k1, h2]
  rfl
theorem pure_are_pairs2 {w : World} {K : PySem.W.Frag} (vs : List V) (H : Hp) (Q : VK) (E : XK) (h : spArePairs2 K vs H Q E) : t_are_pairs w K { nx := fun _ H' => Q .non H', rt := Q } (start ["value", "part", "first", "_"] vs) H := by
  obtain ⟨v, rfl, h⟩ := h
  rcases h with h | ⟨od, q⟩
  · exact pure_are_pairs [v] H Q E h
  refine ⟨_, rfl, sz (by show 2 ≤ 1000; decide), fun T hT => ?_⟩
  have s1 := same_new (o := .tup [.ty "list", .ty "tuple"]) hT
  have od1 := od.same s1
  have T1 : upd H T (.tup [.ty "list", .ty "tuple"]) T = some (.tup [.ty "list", .ty "tuple"]) := upd_same
  generalize upd H T (.tup [.ty "list", .ty "tuple"]) = H1 at s1 od1 T1 ⊢
  rcases od1.lst with ⟨t, any, n1, n2⟩ | ⟨a, xs, rfl, hL, hx⟩
  · exact ⟨_, T, _, _, [.type "list", .type "tuple"], false, rfl, T1, .cons (.ty _) (.cons (.ty _) .nil), any.ty, kit_no any n1 n2, _, rfl, iteT (q H1 s1)⟩
  have any : AnyT K H1 (.ref a) "list" := .lst hL
  refine ⟨_, T, _, _, [.type "list", .type "tuple"], true, rfl, T1, .cons (.ty _) (.cons (.ty _) .nil), any.ty, kit_seq any (.inl rfl), _, rfl, iteF ?_⟩
  rcases hx with ⟨x, o, rfl, vx, no⟩ | ⟨t1, t2, i, m, n, rfl, h1, h2⟩
  · refine .inl ⟨_, rfl, a, rfl, ⟨_, hL⟩, fun D hD => ?_⟩
    refine lc_it (walk_list (K := K) (a := a) (xs := [x])) (fun j H2 => Same H1 H2 ∧ H2 D = some (.lst ((List.replicate j false).map V.bl))) ⟨same_new hD, upd_same⟩ (fun j H2 _ h => Same.seq h.1 hL) ?_ ?_
    · rintro j v H2 H3 hj ⟨s2, d2⟩ ⟨rfl, hv⟩
      have hj1 : j < 1 := hj
      have ej : j = 0 := by omega
      subst ej
      cases hv
      refine ⟨rfl, yes_if ⟨_, rfl, _, o, rfl, vx.same s2, ?_⟩⟩
      rw [no]
      exact ⟨_, d2, sz (by show 1 ≤ 1000; decide), same_upd s2 hD, upd_same⟩
    · rintro H2 ⟨s2, d2⟩
      exact ⟨D, _, rfl, SqL.of d2, _, rfl, iteT (q H2 (s1.trans s2))⟩
  · refine .inl ⟨_, rfl, a, rfl, ⟨_, hL⟩, fun D hD => ?_⟩
    have tw : ∀ (j : Nat) (v : V), [V.ref t1, V.ref t2][j]? = some v → ∃ (t : Addr) (p : Int × Int), v = V.ref t ∧ TupAt H1 t p ∧ p.1 = i := fun j v e => by
      rcases j with _ | _ | j
      · cases e
        exact ⟨t1, _, rfl, h1, rfl⟩
      · cases e
        exact ⟨t2, _, rfl, h2, rfl⟩
      · cases e
    refine lc_it (walk_list (K := K) (a := a) (xs := [.ref t1, .ref t2])) (fun j H2 => Same H1 H2 ∧ H2 D = some (.lst ((List.replicate j true).map V.bl))) ⟨same_new hD, upd_same⟩ (fun j H2 _ h => Same.seq h.1 hL) ?_ ?_
    · rintro j v H2 H3 hj ⟨s2, d2⟩ ⟨rfl, hv⟩
      obtain ⟨t, p, rfl, hat, _⟩ := tw j v hv
      refine ⟨rfl, yes_if ⟨_, rfl, _, _, rfl, val2_tup (s2 _ _ hat), ?_⟩⟩
      have hj2 : j < 2 := hj
      refine ⟨_, d2, ?_, same_upd s2 hD, ?_⟩
      · rw [List.length_map, List.length_replicate]
        exact Nat.lt_of_lt_of_le hj2 (by decide)
      · rw [upd_same, List.replicate_succ', List.map_append]
        rfl
    · rintro H2 ⟨s2, d2⟩
      refine ⟨D, _, rfl, SqL.of d2, _, rfl, iteF ?_⟩
      refine .inl ⟨_, rfl, a, rfl, ⟨_, Same.seq s2 hL⟩, fun D3 hD3 => ?_⟩
      refine scN_it (walk_list (K := K) (a := a) (xs := [.ref t1, .ref t2])) (fun j H3 => Same H2 H3 ∧ ∃ S n, H3 D3 = some (SetO w D3 S n) ∧ (j = 0 ∧ n = 0 ∧ (∀ k, S k = false) ∨ 0 < j ∧ n = 1 ∧ S i = true)) ⟨same_new hD3, _, _, upd_same, .inl ⟨rfl, rfl, fun _ => rfl⟩⟩ (fun j H3 _ h => Same.seq h.1 (Same.seq s2 hL)) ?_ ?_
      · rintro j v H3 H4 hj ⟨s3, S, k, d3, st⟩ ⟨rfl, hv⟩
        obtain ⟨t, p, rfl, hat, ep⟩ := tw j v hv
        obtain ⟨p1, p2⟩ := p
        have ep : p1 = i := ep
        subst ep
        have hat3 := s3 _ _ (s2 _ _ hat)
        refine ⟨t, _, rfl, SqT.of hat3, rfl, _, _, rfl, _, _, rfl, rfl, rfl, yes_if ⟨_, rfl, D3, p1, S, k, rfl, rfl, d3, ?_, same_upd s3 hD3, (fun j => S j || decide (j = p1)), _, upd_same, .inr ⟨Nat.succ_pos _, ?_, ?_⟩⟩⟩
        · rcases st with ⟨_, rfl, _⟩ | ⟨_, rfl, _⟩ <;> decide
        · rcases st with ⟨_, rfl, z⟩ | ⟨_, rfl, z⟩
          · rw [z p1, if_neg Bool.false_ne_true]
          · rw [z, if_pos rfl]
        · show (S p1 || decide (p1 = p1)) = true
          rw [decide_eq_true rfl, Bool.or_true]
      · rintro H3 ⟨s3, S, k, d3, st⟩
        have k1 : k = 1 := by
          rcases st with ⟨z, _⟩ | ⟨_, z, _⟩
          · cases z
          · exact z
        subst k1
        refine ⟨D3, S, _, rfl, d3, _, rfl, a, _, rfl, .inl (Same.seq s3 (Same.seq s2 hL)), rfl, ?_⟩
        exact q H3 (s1.trans (s2.trans s3))
end SR
set_option Elab.async false
set_option linter.all false
set_option maxRecDepth 100000
set_option maxHeartbeats 4000000
namespace SR
open PySem PySem.Spec PyProof.Rows L2
def spWideBox2 (K : PySem.W.Frag) : Sp := fun vs H Q _ => ∃ i c : Int, vs = [.int i, .int c] ∧ Q (.bl (wbB (i, c))) H
theorem pure_wide_box2 {K : PySem.W.Frag} (vs : List V) (H : Hp) (Q : VK) (E : XK) (h : spWideBox2 K vs H Q E) : t_is_wide_box K { nx := fun _ H' => Q .non H', rt := Q } (start ["index", "capacity"] vs) H := by
  obtain ⟨i, c, rfl, q⟩ := h
  have q : Q (.bl (btw (-60) 60 (.int i) && btw 2 9 (.int c))) H := q
  refine ⟨_, rfl, .int i, _, _, _, rfl, .int i, fun _ => ⟨_, _, rfl, rfl, _, rfl, ?_⟩, fun z => nomatch z⟩
  cases e : btw (-60) 60 (.int i) with
  | true =>
    rw [e] at q
    exact iteF ⟨_, rfl, .int c, _, _, _, rfl, .int c, fun _ => ⟨_, _, rfl, rfl, q⟩, fun z => nomatch z⟩
  | false =>
    rw [e] at q
    exact iteT q
def spAreCap2 (K : PySem.W.Frag) : Sp := fun vs H Q E => ∃ v, vs = [v] ∧ (spAreCapacities K [v] H Q E ∨ OddC K H v ∧ ∀ H', Same H H' → Q (.bl false) H')
def t_are_capacities2 (K : PySem.W.Frag) : TS := tSeq (tIfS (tOr (tNot (tB (tCall (spArePairs2 K) [] E0 (tCons (tVar 0) (tNil))))) (tTest (tOp qGt (tCB (qLen K) (tCons (tVar 0) (tNil))) (tC (.int 6)))))
  (tRet (tC (.bl false)))
  (tNext))
  (tRet (tCB (rAll K) (tCons (tLc ((fun σ H R => iList K (tVar 0) σ H R ∨ iTup K (tVar 0) σ H R)) (gTup K 2 (gCons (gName 1) (gCons (gName 2) (gNil)))) (tYes) (tCall (spWideBox2 K) [] E0 (tCons (tVar 1) (tCons (tVar 2) (tNil)))) [1, 2]) (tNil))))
theorem caps_all {K : PySem.W.Frag} {H : Hp} {a : Addr} {ps : List (Int × Int)} {Q : VK} (hp : PairsAt K H a ps) (hd : (ps.map Prod.fst).Nodup) (hl : ps.length ≤ 6) (q : ∀ H', Same H H' → Q (.bl (ps.all wbB)) H') : t_are_capacities2 K { nx := fun _ H' => Q .non H', rt := Q } [some (.ref a), none, none] H := by
  refine ⟨_, rfl, _, rfl, .inl ⟨a, ps, rfl, hp, hd, by omega, fun H1 s1 => ⟨_, rfl, iteF ?_⟩⟩⟩
  obtain ⟨ys, hys, ylen⟩ := (hp.same s1).len
  refine ⟨_, rfl, a, ys, rfl, hys, _, _, rfl, rfl, _, rfl, ?_⟩
  have no : ¬ (6 : Int) < (ys.length : Int) := by omega
  rw [decide_eq_false no]
  refine iteF ?_
  try rw [← xLc_eq]
  try rw [← xScN_eq]
  show xLc (fun σ H R => iList K (tVar 0) σ H R ∨ iTup K (tVar 0) σ H R) (gTup K 2 (gCons (gName 1) (gCons (gName 2) gNil))) tYes (tCall (spWideBox2 K) [] E0 (tCons (tVar 1) (tCons (tVar 2) tNil))) [1, 2] [some (.ref a), none, none] H1 _
  try rw [xLc_eq]
  try rw [xScN_eq]
  refine lc_pairs (K := K) (a := a) (ps := ps) (fun p => .bl (wbB p)) (fun R r => ⟨_, rfl, r⟩) (hp.same s1) (by omega) (fun t p H2 R s2 m2 at2 r => ?_) (fun D H2 hD s2 d2 => ?_)
  · exact ⟨t, _, rfl, SqT.of at2, rfl, _, _, rfl, _, _, rfl, rfl, rfl, _, rfl, _, rfl, p.1, p.2, rfl, r⟩
  have all : (ps.map fun p => V.bl (wbB p)) = (ps.map wbB).map V.bl := by rw [List.map_map] <;> rfl
  rw [all] at d2
  have tr : (ps.map wbB).all id = ps.all wbB := by
    rw [List.all_map]
    rfl
  refine ⟨D, _, rfl, SqL.of d2, ?_⟩
  rw [tr]
  exact q H2 (s1.trans s2)
theorem pure_are_cap2 {K : PySem.W.Frag} (vs : List V) (H : Hp) (Q : VK) (E : XK) (h : spAreCap2 K vs H Q E) : t_are_capacities2 K { nx := fun _ H' => Q .non H', rt := Q } (start ["value", "index", "capacity"] vs) H := by
  obtain ⟨v, rfl, h⟩ := h
  rcases h with ⟨a, ps, e, hp, hd, hl, hs, q⟩ | ⟨od, q⟩
  · cases e
    refine caps_all hp hd hl fun H' s => ?_
    have : ps.all wbB = true := List.all_eq_true.mpr fun p m => wbB_ok.mpr (hs p m)
    rw [this]
    exact q H' s
  · cases od with
    | odd h => exact ⟨_, rfl, _, rfl, .inr ⟨h, fun H1 s1 => ⟨_, rfl, iteT (iteT (q H1 s1))⟩⟩⟩
    | @size a t p h h1 h2 =>
      refine caps_all (ps := [p]) ⟨[t], .inl h, .cons h1 .nil⟩ (List.pairwise_singleton _ _) (by show 1 ≤ 6; decide) fun H' s => ?_
      have : [p].all wbB = false := by
        show (wbB p && true) = false
        rw [h2]
        rfl
      rw [this]
      exact q H' s
def t_are_contents2 (K : PySem.W.Frag) : TS := tSeq (tIfS (tNot (tB (tCall (spArePairs2 K) [] E0 (tCons (tVar 0) (tNil)))))
  (tRet (tC (.bl false)))
  (tNext))
  (tSeq (tAsg (tCB (qDictOf K) (tCons (tVar 1) (tNil))) (gName 2))
  (tSeq (tIfS (tNot (tB (tCB (rAll K) (tCons (tLc ((fun σ H R => iList K (tVar 0) σ H R ∨ iTup K (tVar 0) σ H R)) (gTup K 2 (gCons (gName 3) (gCons (gName 4) (gNil)))) (tYes) (tChain qLe qLe (tC (.int 1)) (tVar 4) (tDGet2 (tVar 2) (tVar 3) (tC (.int 1)))) [3, 4]) (tNil)))))
  (tRet (tC (.bl false)))
  (tNext))
  (tRet (tOp qLe (tCB (rSum K) (tCons (tLc ((fun σ H R => iList K (tVar 0) σ H R ∨ iTup K (tVar 0) σ H R)) (gTup K 2 (gCons (gName 5) (gCons (gName 4) (gNil)))) (tYes) (tVar 4) [4, 5]) (tNil))) (tC (.int 40))))))
theorem pure_are_contents2 {K : PySem.W.Frag} (vs : List V) (H : Hp) (Q : VK) (E : XK) (h : spAreContents K vs H Q E) : t_are_contents2 K { nx := fun _ H' => Q .non H', rt := Q } (start ["value", "capacities", "wide", "index", "count", "_"] vs) H := by
  obtain ⟨v, e, z⟩ := pure_are_contents vs H Q E h
  exact ⟨v, e, _, rfl, .inl z⟩
def t_Row_init2 (K : PySem.W.Frag) : TS := tSeq (tIfS (tNot (tB (tCall (spAreCap2 K) [] E0 (tCons (tVar 2) (tNil)))))
  ((fun _ _ _ => False))
  (tNext))
  (tSeq (tIfS (tNot (tB (tCall (spAreContents K) [] E0 (tCons (tVar 1) (tCons (tVar 2) (tNil))))))
  ((fun _ _ _ => False))
  (tNext))
  (tSeq (sFld K (tVar 0) (tCB (qTupOf K) (tCons (tCB (qSorted K) (tCons (tVar 1) (tNil))) (tNil))) "_contents")
  (tSeq (sFld K (tVar 0) (tCB (qTupOf K) (tCons (tCB (qSorted K) (tCons (tVar 2) (tNil))) (tNil))) "_capacities")
  (tSeq (sFld K (tVar 0) (tCB (qDictOf K) (tCons (tVar 1) (tNil))) "_count_at")
  (sFld K (tVar 0) (tCB (qDictOf K) (tCons (tVar 2) (tNil))) "_capacity_at")))))
theorem pure_row_init2 {K : PySem.W.Frag} {C : Addr} (R : RowC K C) (vs : List V) (H : Hp) (Q : VK) (E : XK) (h : spRowInit K C vs H Q E) : t_Row_init2 K { nx := fun _ H' => Q .non H', rt := Q } (start ["self", "contents", "capacities"] vs) H := by
  obtain ⟨v, e, z⟩ := pure_row_init R vs H Q E h
  exact ⟨v, e, _, rfl, .inl z⟩
def t_is_row_like (K : PySem.W.Frag) : TS := tRet (tAndV (tCall (spAreCap2 K) [] E0 (tCons (tVar 1) (tNil))) (tCall (spAreContents K) [] E0 (tCons (tVar 0) (tCons (tVar 1) (tNil)))))
def CapsAt (K : PySem.W.Frag) (H : Hp) (v : V) (ls : List (Int × Int)) : Prop := ∃ a, v = .ref a ∧ PairsAt K H a ls ∧ (ls.map Prod.fst).Nodup ∧ ls.length ≤ 6 ∧ ∀ p ∈ ls, sizeOk p
theorem CapsAt.same {K : PySem.W.Frag} {H H' : Hp} {v : V} {ls : List (Int × Int)} (s : Same H H') (h : CapsAt K H v ls) : CapsAt K H' v ls := let ⟨a, h1, h2, h3⟩ := h; ⟨a, h1, h2.same s, h3⟩
def spRowLike (K : PySem.W.Frag) : Sp := fun vs H Q _ => ∃ (c : Addr) (v : V), vs = [.ref c, v] ∧ PairsAt K H c [] ∧ ((∃ ls, CapsAt K H v ls ∧ ∀ H', Same H H' → Q (.bl true) H') ∨ (OddC K H v ∧ ∀ H', Same H H' → Q (.bl false) H'))
theorem pure_row_like {K : PySem.W.Frag} (vs : List V) (H : Hp) (Q : VK) (E : XK) (h : spRowLike K vs H Q E) : t_is_row_like K { nx := fun _ H' => Q .non H', rt := Q } (start ["contents", "capacities"] vs) H := by
  obtain ⟨c, v, rfl, hc, h⟩ := h
  rcases h with ⟨ls, ⟨a, rfl, hp, hd, hl, hs⟩, q⟩ | ⟨od, q⟩
  · refine ⟨_, rfl, _, rfl, .inl ⟨a, ls, rfl, hp, hd, hl, hs, fun H1 s1 => ⟨_, rfl, iteT ?_⟩⟩⟩
    exact ⟨_, rfl, _, rfl, c, a, [], ls, rfl, hc.same s1, hp.same s1, .nil, hd, Nat.zero_le _, (fun p m => nomatch m), (by decide), fun H2 s2 => q H2 (s1.trans s2)⟩
  · exact ⟨_, rfl, _, rfl, .inr ⟨od, fun H1 s1 => ⟨_, rfl, iteF (q H1 s1)⟩⟩⟩
def t_wcBody (K : PySem.W.Frag) : TS := (tSeq (tAsg (tLc ((fun σ H R => iList K (tVar 2) σ H R ∨ iTup K (tVar 2) σ H R)) (gName 6) (tTest (tOp qGt (tOp (rIxT K) (tVar 6) (tC (.int 0))) (tVar 3))) (tVar 6) [6]) (gName 5))
  (tAsg (tOp rCat (tCall (spWith K) [] E0 (tCons (tVar 2) (tCons (tVar 3) (tCons (tVar 4) (tNil))))) (tVar 5)) (gName 2)))
def t_wcEnd (K : PySem.W.Frag) (c_Row : Addr) : TS := (tSeq (tFor (iList K (tCKw (rSortedPR K) (tCons (tVar 1) (tNil)) (tCons (tC (.bl true)) tNil))) (gTup K 2 (gCons (gName 3) (gCons (gName 4) (gNil))))
  (t_wcBody K))
  (tRet (tMake c_Row (spRowInit K c_Row) [] E0 (tCons (tVar 2) (tCons (tVar 1) (tNil))))))
def t_with_capacities (K : PySem.W.Frag) (c_BadRow : Addr) (c_Row : Addr) (E : XK) : TS := tSeq (tIfS (tNot (tB (tCall (spPlainRow K c_Row) [] E0 (tCons (tVar 0) (tNil)))))
  (tOutF c_BadRow E "field" (.str "plain"))
  (tNext))
  (tSeq (tIfS (tNot (tB (tCall (spRowLike K) [] E0 (tCons (tTup0) (tCons (tVar 1) (tNil))))))
  (tOutF c_BadRow E "field" (.str "capacities"))
  (tNext))
  (tSeq (tAsg (tProp c_Row (spContents K c_Row) [] E0 (tVar 0)) (gName 2))
  (t_wcEnd K c_Row)))
/-- a row with given wide boxes: of a plain row, where they are valid; else an error -/
def spWithCap (K : PySem.W.Frag) (C B : Addr) : Sp := fun vs H Q E => ∃ (x : Addr) (v : V) (ps ks : List (Int × Int)), vs = [.ref x, v] ∧ RowAt K C H x ps ks ∧ Vd ps ks ∧
  ((ks ≠ [] ∧ ∀ d H', Same H H' → H' d = none → E (.ref B) (some d) (upd H' d (.xd [("field", .str "plain")]))) ∨
   (ks = [] ∧ OddC K H v ∧ ∀ d H', Same H H' → H' d = none → E (.ref B) (some d) (upd H' d (.xd [("field", .str "capacities")]))) ∨
   (ks = [] ∧ ∃ ls rs, CapsAt K H v ls ∧ ls.Perm rs ∧ KsOk rs ∧ ∀ y H', H y = none → Same H H' → RowAt K C H' y (withF rs ps) rs → Q (.ref y) H'))
end SR
set_option Elab.async false
set_option linter.all false
set_option maxRecDepth 100000
set_option maxHeartbeats 1000000
namespace SR
open PySem PySem.Spec PyProof.Rows L2
theorem KsOk.sub {ks ls : List (Int × Int)} (h : KsOk ks) (s : ls.Sublist ks) : KsOk ls := ⟨h.ak.sublist s, Nat.le_trans s.length_le h.kl, fun p m => h.ko p (s.subset m)⟩
theorem paired_rev {H : Hp} {ts : List Addr} {ps : List (Int × Int)} (h : Paired (TupAt H) ts ps) : Paired (TupAt H) ts.reverse ps.reverse := by
  induction h with
  | nil => exact .nil
  | cons f _ ih =>
    rw [List.reverse_cons, List.reverse_cons]
    exact paired_snoc f ih
section
variable {K : PySem.W.Frag} {B C : Addr} {N N2 N3 : L2.St → Hp → Prop} {R : VK}
theorem wc_body {H : Hp} {A : Addr} {idx c : Int} {cs rest : List (Int × Int)} {x0 x1 x5 x6 : Option V} (pA : PairsAt K H A cs) (v : Vd cs rest) (k : KsOk ((idx, c) :: rest))
    (hN : ∀ A' y5 H', Same H H' → PairsAt K H' A' (inBox idx c cs) → N [x0, x1, some (.ref A'), some (.int idx), some (.int c), y5, x6] H') :
    t_wcBody K { nx := N, rt := R, bk := N2, ct := N3 } [x0, x1, some (.ref A), some (.int idx), some (.int c), x5, x6] H := by
  obtain ⟨_, s, far, l5⟩ := k.tail
  have c1 : 2 ≤ c := s.2.1
  have c2 : c ≤ 9 := s.2.2
  have cl := vd_len v
  unfold t_wcBody
  unfold tSeq
  unfold tAsg
  refine lc_keep (vn := 6) (fun p => decide (idx < p.1)) (fun R r => ⟨_, rfl, r⟩) pA (by omega) (fun _ => rfl) (fun _ => rfl) (fun t p H' R s T r => ⟨_, rfl, t, _, 0, _, rfl, rfl, SqT.of T, rfl, _, rfl, _, _, rfl, rfl, _, rfl, r⟩) fun D H3 hD s3 pD => ?_
  refine ⟨_, rfl, _, rfl, _, rfl, ?_⟩
  generalize hz : spWith K = zz
  show zz [.ref A, .int idx, .int c] H3 _ E0
  subst hz
  refine ⟨A, idx, c, cs, rfl, pA.same s3, mv_near v s far, by omega, by omega, by omega, fun D2 H4 hD2 s4 pD2 => ?_⟩
  obtain ⟨us1, L1, pr1⟩ := pD2
  obtain ⟨us2, L2, pr2⟩ := pD.same s4
  refine ⟨_, rfl, D2, D, _, _, rfl, rfl, L1, L2, ?_, fun n hn => ?_⟩
  · rw [List.length_map, List.length_map, paired_len pr1, paired_len pr2]
    have o := vd_len (in_vd v s far l5).1
    unfold inBox hi at o
    rw [List.length_append] at o
    exact Nat.le_trans o (by decide)
  have s5 := same_new (o := .lst (us1.map V.ref ++ us2.map V.ref)) hn
  refine hN n _ _ (s3.trans (s4.trans s5)) ⟨us1 ++ us2, .inl (SqL.of (by rw [upd_same, List.map_append])), ?_⟩
  unfold inBox
  exact paired_append (paired_imp (fun _ _ z => s5 _ _ z) pr1) (paired_imp (fun _ _ z => s5 _ _ z) pr2)
theorem wc_end {H : Hp} {A a : Addr} {ps ls rs : List (Int × Int)} {x0 x3 x4 x5 x6 : Option V} {Q : VK} (pA : PairsAt K H A ps) (v : Vd ps []) (hp : PairsAt K H a ls) (nd : (ls.map Prod.fst).Nodup) (pm : ls.Perm rs) (k : KsOk rs)
    (q : ∀ y H', H y = none → Same H H' → RowAt K C H' y (withF rs ps) rs → Q (.ref y) H') :
    t_wcEnd K C { nx := fun _ H' => Q .non H', rt := Q } [x0, some (.ref a), some (.ref A), x3, x4, x5, x6] H := by
  refine ⟨_, rfl, ?_⟩
  generalize hz : rSortedPR K = zz
  show zz [.ref a] [.bl true] H _
  subst hz
  refine hp.sortedR nd fun l us qs hl hus pq aq => ?_
  have eq : qs = rs := asc_eq aq k.ak (pq.trans pm)
  subst eq
  have rev : (us.map V.ref).reverse = us.reverse.map V.ref := by rw [List.map_reverse]
  rw [rev]
  have s1 := same_new (o := .lst (us.reverse.map V.ref)) hl
  have L1 : upd H l (.lst (us.reverse.map V.ref)) l = some (.lst (us.reverse.map V.ref)) := upd_same
  generalize upd H l (.lst (us.reverse.map V.ref)) = H1 at s1 L1 ⊢
  have hr : Paired (TupAt H1) us.reverse qs.reverse := paired_rev (paired_imp (fun _ _ z => s1 _ _ z) hus)
  have tl : (us.reverse.map V.ref).length = qs.reverse.length := by rw [List.length_map, paired_len hr]
  refine ⟨l, rfl, ⟨_, SqL.of L1⟩, ?_⟩
  refine for_it (walk_list (K := K) (a := l) (xs := us.reverse.map V.ref)) (fun j σ H2 => Same H1 H2 ∧ ∃ A' y3 y4 y5, PairsAt K H2 A' (withF (qs.reverse.take j).reverse ps) ∧ σ = [x0, some (.ref a), some (.ref A'), y3, y4, y5, x6]) ⟨fun _ _ h => h, A, x3, x4, x5, pA.same s1, rfl⟩ ?_ ?_ ?_
  · rintro j σ H2 _ ⟨s2, _⟩
    exact Same.seq s2 (SqL.of L1)
  · rintro j w σ H2 H3 _ ⟨s2, A', y3, y4, y5, pA', rfl⟩ ⟨rfl, hw⟩
    rw [List.getElem?_map] at hw
    obtain ⟨t, ht, rfl⟩ := Option.map_eq_some_iff.mp hw
    obtain ⟨r, hr1, hat⟩ := paired_at hr ht
    obtain ⟨idx, c⟩ := r
    have tk : (qs.reverse.take (j + 1)).reverse = (idx, c) :: (qs.reverse.take j).reverse := by
      rw [List.take_succ, hr1, List.reverse_append]
      rfl
    have sub : ∀ i, (qs.reverse.take i).reverse.Sublist qs := fun i => by
      have := (List.take_sublist i qs.reverse).reverse
      rw [List.reverse_reverse] at this
      exact this
    have k1 := k.sub (sub (j + 1))
    rw [tk] at k1
    have vj := (with_vd (k.sub (sub j)) v).1
    have e : withF (qs.reverse.take (j + 1)).reverse ps = inBox idx c (withF (qs.reverse.take j).reverse ps) := by
      rw [tk, withF_cons]
    rw [e]
    refine ⟨t, _, rfl, SqT.of (s2 _ _ hat), rfl, _, _, rfl, _, _, rfl, rfl, ?_⟩
    show t_wcBody K _ [x0, some (.ref a), some (.ref A'), some (.int idx), some (.int c), y5, x6] H3
    exact wc_body pA' vj k1 fun A'' z5 H4 s4 p4 => ⟨s2.trans s4, A'', _, _, _, p4, rfl⟩
  · rintro σ H2 ⟨s2, A', y3, y4, y5, pA', rfl⟩
    rw [tl, List.take_length, List.reverse_reverse] at pA'
    have s02 := s1.trans s2
    have wv := (with_vd k v).1
    refine ⟨_, rfl, _, rfl, fun y0 dx g1 g2 g3 => make_row (C := C) (E := E0) (Q := Q) pA' (hp.same s02) (wv.ok.perm (.refl _) pm) (fun y H5 us' ls' hy s5 row5 p1 p2 a1 a2 => ?_) y0 dx g1 g2 g3⟩
    have e1 := asc_eq a1 wv.ap p1
    have e2 := asc_eq a2 k.ak (p2.trans pm)
    subst e1 e2
    exact q y H5 (none_back s02 hy) (s02.trans s5) row5
theorem pure_with_cap (vs : List V) (H : Hp) (Q : VK) (E : XK) (h : spWithCap K C B vs H Q E) : t_with_capacities K B C E { nx := fun _ H' => Q .non H', rt := Q } (start ["row", "capacities", "contents", "index", "capacity", "behind", "pair"] vs) H := by
  obtain ⟨x, v, ps, ks, rfl, row, vd, h⟩ := h
  refine ⟨_, rfl, x, ps, ks, rfl, row, _, rfl, ?_⟩
  rcases h with ⟨ne, q⟩ | ⟨rfl, od, q⟩ | ⟨rfl, ls, rs, cs, pm, k, q⟩
  · cases ks with
    | nil => exact absurd rfl ne
    | cons k ks => exact iteT fun d hd => q d H (fun _ _ h => h) hd
  · refine iteF (fun p o hp o1 o2 => ?_)
    have s1 := same_new (o := .frz o (.tup [])) hp
    have P1 : PairsAt K (upd H p (.frz o (.tup []))) p [] := ⟨[], .inr (.inl ⟨o, upd_same, o1, o2⟩), .nil⟩
    generalize upd H p (.frz o (.tup [])) = H1 at s1 P1 ⊢
    refine ⟨_, rfl, p, v, rfl, P1, .inr ⟨od.same s1, fun H2 s2 => ⟨_, rfl, iteT fun d hd => q d H2 (s1.trans s2) hd⟩⟩⟩
  · refine iteF (fun p o hp o1 o2 => ?_)
    have s1 := same_new (o := .frz o (.tup [])) hp
    have P1 : PairsAt K (upd H p (.frz o (.tup []))) p [] := ⟨[], .inr (.inl ⟨o, upd_same, o1, o2⟩), .nil⟩
    generalize upd H p (.frz o (.tup [])) = H1 at s1 P1 ⊢
    refine ⟨_, rfl, p, v, rfl, P1, .inl ⟨ls, cs.same s1, fun H2 s2 => ⟨_, rfl, iteF ?_⟩⟩⟩
    have s12 := s1.trans s2
    obtain ⟨a, rfl, hp', nd, _, _⟩ := cs
    obtain ⟨dx, fs, hx⟩ := (row.same s12).at
    refine ⟨_, rfl, x, dx, fs, rfl, hx, x, ps, [], rfl, row.same s12, fun A hA => ?_⟩
    show t_wcEnd K C _ [some (.ref x), some (.ref a), some (.ref A), none, none, none, none] H2
    exact wc_end hA.at vd (hp'.same s12) nd pm k fun y H3 hy s3 r3 => q y H3 (none_back s12 hy) (s12.trans s3) r3
end
end SR
set_option Elab.async false
set_option linter.all false
set_option maxRecDepth 100000
set_option maxHeartbeats 1000000
set_option Elab.async false
set_option linter.all false
set_option maxRecDepth 100000
set_option maxHeartbeats 1000000
namespace SR
open PySem PySem.Spec PyProof.Rows L2
section
variable {w c m B : Int} {ns cs rg ks : List (Int × Int)}
/-- left of all items the load falls one by one -/
theorem ld_low {ld q : Int → Int} (c1 : 1 ≤ c) (b : ∀ i, i < B → 0 ≤ ld i ∧ ld i ≤ c ∧ 0 ≤ q i ∧ q i ≤ 1 ∧ 0 = stC c (ld i) 1 (q i) ∧ ld (i + 1) = stL c (ld i) 1 (q i)) (top : ld B ≤ c) :
    (∀ i, i ≤ B - c → ld i ≤ 0) ∧ ∀ i, i < B - c → q i = 0 := by
  have key : ∀ i, i ≤ B → ld i ≤ 0 ∨ ld i ≤ c - (B - i) := by
    refine down_from (P := fun i => ld i ≤ 0 ∨ ld i ≤ c - (B - i)) B (.inr (by omega)) fun i lt ih => ?_
    obtain ⟨h1, h2, h3, h4, h5, h6⟩ := b i lt
    unfold stC at h5
    unfold stL at h6
    omega
  have z : ∀ i, i ≤ B - c → ld i ≤ 0 := fun i l => by
    have := key i (by omega)
    omega
  refine ⟨z, fun i l => ?_⟩
  obtain ⟨h1, h2, h3, h4, h5, h6⟩ := b i (by omega)
  have := z (i + 1) (by omega)
  have := z i (by omega)
  unfold stC at h5
  unfold stL at h6
  omega
theorem Vd.tail {p : Int × Int} {ps : List (Int × Int)} (v : Vd (p :: ps) ks) : Vd ps ks := by
  have a := List.pairwise_cons.mp v.ap
  have n := v.ok.nd
  rw [List.map_cons] at n
  have s : ((p :: ps).map Prod.snd).sum ≤ 40 := v.ok.sm
  rw [List.map_cons, List.sum_cons] at s
  have o := (v.ok.po p List.mem_cons_self).1
  exact ⟨⟨(List.nodup_cons.mp n).2, v.ok.kd, v.ok.kl, v.ok.ko, fun q h => v.ok.po q (List.mem_cons_of_mem _ h), by omega⟩, a.2, v.ak⟩
theorem outBox_low {rest : List (Int × Int)} (v : Vd cs ((w, c) :: rest)) (low : ∀ p ∈ cs, B ≤ p.1) (hB : B ≤ w) : ∀ p ∈ outBox w c cs, B - 9 ≤ p.1 := by
  obtain ⟨q, ld, L⟩ := ldr_of v
  have c9 : c ≤ 9 := v.head.1.2.2
  have nz : ∀ i, i < B → cnt cs i = 0 := fun i l => cnt_outA fun p mp => by have := low p mp; omega
  obtain ⟨_, qz⟩ := ld_low (B := B) (ld := ld) (q := cnt q) L.c1 (fun i l => by
    obtain ⟨h3, h4⟩ := L.st i (by omega)
    have qb := L.q1 i (by omega)
    rw [nz i l] at h3
    exact ⟨(L.bd i).1, (L.bd i).2, qb.1, qb.2, h3, h4⟩) (L.bd B).2
  intro p mp
  have ov := (out_vd v).1
  have a := cnt_inA ov.ap mp
  have o := ov.one p mp
  rw [L.out] at a
  by_cases l : p.1 < B - 9
  · rw [if_pos (by omega), qz (p.1 - 1) (by omega)] at a
    omega
  · omega
end
end SR
set_option Elab.async false
set_option linter.all false
set_option maxRecDepth 100000
set_option maxHeartbeats 4000000
namespace SR
open PySem PySem.Spec PyProof.Rows L2
section
variable {K : PySem.W.Frag} {C B : Addr} {ks : List (Int × Int)} {p : Rws ks}
/-- the rows on the way -/
inductive Way (K : PySem.W.Frag) (C : Addr) {ks : List (Int × Int)} (p : Rws ks) (H : Hp) : List Addr → List (Int × Bool) → Prop where
  | nil : Way K C p H [] []
  | snoc {ts : List Addr} {l : List (Int × Bool)} {t a : Addr} {s : Int × Bool} (w : Way K C p H ts l) (h : H t = some (.tup [.ref a, .int s.1, .bl s.2])) (row : RowAt K C H a (FnL l p).1 ks) (c : 1 ≤ s.1 ∧ s.1 ≤ 99) : Way K C p H (ts ++ [t]) (l ++ [s])
theorem Way.len {H : Hp} {ts : List Addr} {l : List (Int × Bool)} (w : Way K C p H ts l) : ts.length = l.length := by
  induction w with
  | nil => rfl
  | snoc _ _ _ _ ih => rw [List.length_append, List.length_append, ih]; rfl
theorem Way.same {H H' : Hp} {ts : List Addr} {l : List (Int × Bool)} (w : Way K C p H ts l) (s : Same H H') : Way K C p H' ts l := by
  induction w with
  | nil => exact .nil
  | snoc _ h row c ih => exact .snoc ih (s _ _ h) (row.same s) c
theorem Way.kp {H H' : Hp} {d g c : Addr} {b : Nat} {ts : List Addr} {l : List (Int × Bool)} (w : Way K C p H ts l) (S : StB H d g c b) (k : Kp d g H H') : Way K C p H' ts l := by
  induction w with
  | nil => exact .nil
  | snoc _ h row c ih => exact .snoc ih (kp_at S k h (fun _ z => nomatch z) fun _ _ z => nomatch z) (row.kp S k) c
theorem Way.but {H H' : Hp} {so : Addr} {xs : List V} {ts : List Addr} {l : List (Int × Bool)} (w : Way K C p H ts l) (hs : H so = some (.lst xs)) (k : SameBut so H H') : Way K C p H' ts l := by
  induction w with
  | nil => exact .nil
  | snoc _ h row c ih => exact .snoc ih (k _ _ (fun z => by rw [z, hs] at h; cases h) h) (row.but hs k) c
theorem RowAt.ins2' {H : Hp} {x : Addr} {ps ks : List (Int × Int)} (h : RowAt K C H x ps ks) : ∃ dx fs, H x = some (.ins C dx fs) ∧ List.lookup ("total" : Str) fs = none := by
  obtain ⟨dx, c, k, d, e, _, _, h1, _⟩ := h
  refine ⟨dx, _, h1, ?_⟩
  unfold rowFs
  rw [lkNe (by decide), lkNe (by decide), lkNe (by decide), lkNe (by decide)]
  rfl
end
end SR
set_option Elab.async false
set_option linter.all false
set_option maxRecDepth 100000
set_option maxHeartbeats 4000000
set_option Elab.async false
set_option linter.all false
set_option maxRecDepth 100000
set_option maxHeartbeats 4000000
set_option Elab.async false
set_option linter.all false
set_option maxRecDepth 100000
set_option maxHeartbeats 1000000
namespace SR
open PySem PySem.Spec PyProof.Rows L2
section
variable {ps qs ks cs : List (Int × Int)} {f B T far : Int} {fl : List Int}
theorem out_top {w c : Int} {rest : List (Int × Int)} (v : Vd cs ((w, c) :: rest)) (h : ∀ p ∈ cs, p.1 ≤ T) (hw : w ≤ T) : ∀ p ∈ outBox w c cs, p.1 ≤ T := fun p m => by
  obtain ⟨s, far, c1, _⟩ := v.head
  have left := fn1_in (near_vd v) c1 fun p m => (lo_mem m).2
  rcases List.mem_append.mp m with m | m
  · obtain ⟨z, mz, rfl⟩ := mv_mem m
    have := left z mz
    show z.1 + 1 ≤ T
    omega
  · exact h p (hi_mem m).1
theorem plainF_bd : ∀ {ks cs : List (Int × Int)} {B : Int}, Vd cs ks → (∀ p ∈ cs, B ≤ p.1 ∧ p.1 ≤ T) → (∀ k ∈ ks, B ≤ k.1 ∧ k.1 ≤ T) → ∀ p ∈ plainF ks cs, B - 9 * (ks.length : Int) ≤ p.1 ∧ p.1 ≤ T
  | [], cs, B, v, h, hk, p, m => by
    have : p ∈ cs := m
    have := h p this
    rw [List.length_nil]
    omega
  | (w, c) :: ks, cs, B, v, h, hk, p, m => by
    rw [plainF_cons] at m
    have k0 := hk _ List.mem_cons_self
    have k1 : B ≤ w := k0.1
    have k2 : w ≤ T := k0.2
    have lw := outBox_low v (fun p m => (h p m).1) k1
    have up := out_top v (fun p m => (h p m).2) k2
    have := plainF_bd (B := B - 9) (out_vd v).1 (fun p m => ⟨lw p m, up p m⟩) (fun k mk => by have := hk k (List.mem_cons_of_mem _ mk); omega) p m
    rw [List.length_cons]
    omega
end
end SR
set_option Elab.async false
set_option linter.all false
set_option maxRecDepth 100000
set_option maxHeartbeats 1000000
set_option Elab.async false
set_option linter.all false
set_option maxRecDepth 100000
set_option maxHeartbeats 1000000
namespace SR
open PySem PySem.Spec PyProof.Rows L2
section
variable {σ : L2.St} {H : Hp} {Q : VK} {R : List V → Hp → Prop} {t ta : TA} {te : TE} {u v : V} {d g c : Addr} {b : Nat}
theorem lst_run (h : t σ H fun xs H1 => xs.length ≤ sizeLine ∧ ∀ p, H1 p = none → Q (.ref p) (upd H1 p (.lst xs))) : tLst t σ H Q := h
theorem cons_c (h : ta σ H fun vs H2 => R (u :: vs) H2) : tCons (tC u) ta σ H R := h
theorem cons_run (h : te σ H fun v H1 => ta σ H1 fun vs H2 => R (v :: vs) H2) : tCons te ta σ H R := h
theorem nil_run (h : R [] H) : tNil σ H R := h
/-- [(u, v)] -/
theorem mk_lt (S : StB H d g c b) (q : ∀ t l H', Same H H' → StB H' d g c b → (∀ H'', Kp d g H' H'' → H'' t = some (.tup [u, v]) ∧ H'' l = some (.lst [.ref t])) → Q (.ref l) H') : tLst (tCons (tTup (tCons (tC u) (tCons (tC v) tNil))) tNil) σ H Q := by
  refine ⟨sz (by show 2 ≤ 1000; decide), fun t ht => ⟨sz (by show 1 ≤ 1000; decide), fun l hl => ?_⟩⟩
  obtain ⟨t1, t2, _⟩ := S.off ht
  have S1 := S.new (o := .tup [u, v]) ht
  have s1 := same_new (o := .tup [u, v]) ht
  have T1 : upd H t (.tup [u, v]) t = some (.tup [u, v]) := upd_same
  generalize upd H t (.tup [u, v]) = H1 at S1 s1 T1 hl ⊢
  obtain ⟨l1, l2, _⟩ := S1.off hl
  have s2 := same_new (o := .lst [.ref t]) hl
  exact q t l _ (s1.trans s2) (S1.new hl) fun H'' k => ⟨k _ _ t1 t2 (s2 _ _ T1), k _ _ l1 l2 upd_same⟩
theorem mk_dup {u2 v2 : V} (S : StB H d g c b) (q : ∀ t t' l H', Same H H' → StB H' d g c b → (∀ H'', Kp d g H' H'' → H'' t = some (.tup [u, v]) ∧ H'' t' = some (.tup [u2, v2]) ∧ H'' l = some (.lst [.ref t, .ref t'])) → Q (.ref l) H') : tLst (tCons (tTup (tCons (tC u) (tCons (tC v) tNil))) (tCons (tTup (tCons (tC u2) (tCons (tC v2) tNil))) tNil)) σ H Q := by
  refine ⟨sz (by show 2 ≤ 1000; decide), fun t ht => ⟨sz (by show 2 ≤ 1000; decide), fun t' ht' => ⟨sz (by show 2 ≤ 1000; decide), fun l hl => ?_⟩⟩⟩
  obtain ⟨t1, t2, _⟩ := S.off ht
  have S1 := S.new (o := .tup [u, v]) ht
  have s1 := same_new (o := .tup [u, v]) ht
  have T1 : upd H t (.tup [u, v]) t = some (.tup [u, v]) := upd_same
  generalize upd H t (.tup [u, v]) = H1 at S1 s1 T1 ht' hl ⊢
  obtain ⟨r1, r2, _⟩ := S1.off ht'
  have S2 := S1.new (o := .tup [u2, v2]) ht'
  have s2 := same_new (o := .tup [u2, v2]) ht'
  have T2 : upd H1 t' (.tup [u2, v2]) t' = some (.tup [u2, v2]) := upd_same
  generalize upd H1 t' (.tup [u2, v2]) = H2 at S2 s2 T2 hl ⊢
  obtain ⟨l1, l2, _⟩ := S2.off hl
  have s3 := same_new (o := .lst [.ref t, .ref t']) hl
  exact q t t' l _ (s1.trans (s2.trans s3)) (S2.new hl) fun H'' k => ⟨k _ _ t1 t2 (s3 _ _ (s2 _ _ T1)), k _ _ r1 r2 (s3 _ _ T2), k _ _ l1 l2 upd_same⟩
theorem Kp.of {H H1 H2 : Hp} (s : Same H H1) (k : Kp d g H1 H2) : Kp d g H H2 := fun x o e1 e2 h => k x o e1 e2 (s _ _ h)
end
end SR
set_option Elab.async false
set_option linter.all false
set_option maxRecDepth 100000
set_option maxHeartbeats 1000000
namespace SR
open PySem PySem.Spec PyProof.Rows L2
structure X12 (K : PySem.W.Frag) (C : Addr) (H : Hp) (d g c : Addr) (b : Nat) (Z1 Z2 F1 F2 xf xm : Addr) (sz ot bx it : List (Int × Int)) : Prop where
  S : StB H d g c b
  z1 : H Z1 = some (.dK (kvsOf sz))
  z2 : H Z2 = some (.dK (kvsOf ot))
  f1 : H F1 = some (.dK (kvsOf bx))
  f2 : H F2 = some (.dK (kvsOf it))
  rf : RowAt K C H xf bx []
  rm : RowAt K C H xm it ot
theorem X12.same {K : PySem.W.Frag} {C : Addr} {H H' : Hp} {d g c : Addr} {b : Nat} {Z1 Z2 F1 F2 xf xm : Addr} {sz ot bx it : List (Int × Int)} (s : Same H H') (X : X12 K C H d g c b Z1 Z2 F1 F2 xf xm sz ot bx it) : X12 K C H' d g c b Z1 Z2 F1 F2 xf xm sz ot bx it :=
  ⟨StB.same s X.S, s _ _ X.z1, s _ _ X.z2, s _ _ X.f1, s _ _ X.f2, X.rf.same s, X.rm.same s⟩
theorem X12.kp {K : PySem.W.Frag} {C : Addr} {H H' : Hp} {d g c : Addr} {b b' : Nat} {Z1 Z2 F1 F2 xf xm : Addr} {sz ot bx it : List (Int × Int)} (k : Kp d g H H') (S : StB H' d g c b') (X : X12 K C H d g c b Z1 Z2 F1 F2 xf xm sz ot bx it) : X12 K C H' d g c b' Z1 Z2 F1 F2 xf xm sz ot bx it :=
  ⟨S, kp_dict X.S k X.z1, kp_dict X.S k X.z2, kp_dict X.S k X.f1, kp_dict X.S k X.f2, X.rf.kp X.S k, X.rm.kp X.S k⟩
theorem items_paired {H : Hp} : ∀ {ps : List (Int × Int)} {ts : List Addr}, Paired (fun (t : Addr) (q : Key × V) => H t = some (.tup [kV q.1, q.2])) ts (kvsOf ps) → Paired (TupAt H) ts ps
  | [], _, h => by
    cases h
    exact .nil
  | q :: ps, _, h => by
    cases h with
    | cons a b => exact .cons a (items_paired b)
section
variable {K : PySem.W.Frag} {C B : Addr} {N N2 N3 : L2.St → Hp → Prop} {R : VK} {H : Hp} {d g c Z1 Z2 F1 F2 xf xm : Addr} {b : Nat} {sz ot bx it ls : List (Int × Int)} {x0 x2 x9 x10 x11 x12 : Option V}
theorem tups_kp2 {H H' : Hp} {d g c : Addr} {b : Nat} {ts : List Addr} {l : List (Int × Int)} (S : StB H d g c b) (k : Kp d g H H') (h : Paired (TupAt H) ts l) : Paired (TupAt H') ts l := paired_imp (fun _ p z => kp_at (o := .tup [.int p.1, .int p.2]) S k z (fun _ z => nomatch z) fun _ _ z => nomatch z) h
theorem flat2 {t : Addr} {p : Int × Int} (h : TupAt H t p) : Flat H t := ⟨_, [.int p.1, .int p.2], h, fun K H' => .cons (.int _) (.cons (.int _) .nil), rfl, by simp [PyData.depthAll, PyData.depth]⟩
end
end SR
set_option Elab.async false
set_option linter.all false
set_option maxRecDepth 100000
set_option maxHeartbeats 1000000
set_option Elab.async false
set_option linter.all false
set_option maxRecDepth 100000
set_option maxHeartbeats 2000000
namespace SR
open PySem PySem.Spec PyProof.Rows L2
section
variable {α : Type} {K : PySem.W.Frag} {te : TE} {g : TG} {tt : TT} {telt : TE} {vs : List Nat} {σ : L2.St} {H : Hp} {a : Addr} {xs : List V} {ys : List α} {Q : VK}
/-- what is asked of a turn; the item's value is f y -/
def TurnV (g : TG) (tt : TT) (telt : TE) (vs : List Nat) (σ : L2.St) (H : Hp) (G : Hp → V → α → Prop) (ys : List α) (P : α → Bool) (f : α → V) : Prop :=
  ∀ x y H' (Rt : VK) (Rf : Hp → Prop), Same H H' → G H' x y → y ∈ ys → (P y = true → ∀ H4, Same H' H4 → Rt (f y) H4) → (P y = false → ∀ H4, Same H' H4 → Rf H4) →
    g x (wipe σ vs) H' fun σ2 H2 => wipe σ2 vs = wipe σ vs ∧ tt σ2 H2 fun b H3 => if b = true then telt σ2 H3 Rt else Rf H3
/-- the item is a new pair -/
def TurnT (g : TG) (tt : TT) (telt : TE) (vs : List Nat) (σ : L2.St) (H : Hp) (G : Hp → V → α → Prop) (ys : List α) (P : α → Bool) (f : α → Int × Int) : Prop :=
  ∀ x y H' (Rt : VK) (Rf : Hp → Prop), Same H H' → G H' x y → y ∈ ys → (P y = true → ∀ n H4, Same H' H4 → H4 n = none → Rt (.ref n) (upd H4 n (.tup [.int (f y).1, .int (f y).2]))) → (P y = false → ∀ H4, Same H' H4 → Rf H4) →
    g x (wipe σ vs) H' fun σ2 H2 => wipe σ2 vs = wipe σ vs ∧ tt σ2 H2 fun b H3 => if b = true then telt σ2 H3 Rt else Rf H3
theorem stepV {G : Hp → V → α → Prop} {P : α → Bool} {f : α → V} (rel : ∀ (i : Nat) (x : V), xs[i]? = some x → ∃ y, ys[i]? = some y ∧ G H x y) (hl : ys.length ≤ 5000) (hG : ∀ H' x y, Same H H' → G H x y → G H' x y) (turn : TurnV g tt telt vs σ H G ys P f) {D : Addr} (hD : H D = none) :
    ∀ i x H1 H2, i < xs.length → (Same H H1 ∧ H1 D = some (.lst (((ys.take i).filter P).map f))) → YAt xs i H1 x H2 → g x (wipe σ vs) H2 fun σ2 H3 => wipe σ2 vs = wipe σ vs ∧ tt σ2 H3 fun b H4 =>
      if b = true then telt σ2 H4 fun y H5 => ∃ acc, H5 D = some (.lst acc) ∧ acc.length < sizeLine ∧ (Same H (upd H5 D (.lst (acc ++ [y]))) ∧ upd H5 D (.lst (acc ++ [y])) D = some (.lst (((ys.take (i + 1)).filter P).map f))) else Same H H4 ∧ H4 D = some (.lst (((ys.take (i + 1)).filter P).map f)) := by
  rintro i x H1 H2 hi ⟨s1, d1⟩ ⟨rfl, hx⟩
  obtain ⟨y, hy, gy⟩ := rel i x hx
  have tk : ys.take (i + 1) = ys.take i ++ [y] := by
    rw [List.take_succ, hy]
    rfl
  refine turn x y H2 _ _ s1 (hG _ _ _ s1 gy) (List.mem_of_getElem? hy) (fun py H4 s4 => ⟨_, s4 _ _ d1, ?_, same_upd (s1.trans s4) hD, ?_⟩) fun py H4 s4 => ⟨s1.trans s4, ?_⟩
  · rw [List.length_map]
    have := List.length_filter_le P (ys.take i)
    rw [List.length_take] at this
    exact Nat.lt_of_le_of_lt (show _ ≤ 5000 by have := Nat.min_le_right i ys.length; omega) (by decide)
  · rw [upd_same, tk, List.filter_append, List.filter_cons_of_pos py, List.map_append]
    rfl
  · rw [tk, List.filter_append, List.filter_cons_of_neg (by rw [py]; exact Bool.false_ne_true)]
    rw [List.filter_nil, List.append_nil]
    exact s4 _ _ d1
theorem stepT {G : Hp → V → α → Prop} {P : α → Bool} {f : α → Int × Int} (rel : ∀ (i : Nat) (x : V), xs[i]? = some x → ∃ y, ys[i]? = some y ∧ G H x y) (hl : ys.length ≤ 5000) (hG : ∀ H' x y, Same H H' → G H x y → G H' x y) (turn : TurnT g tt telt vs σ H G ys P f) {D : Addr} (hD : H D = none) :
    ∀ i x H1 H2, i < xs.length → (Same H H1 ∧ PairsL H1 D (((ys.take i).filter P).map f)) → YAt xs i H1 x H2 → g x (wipe σ vs) H2 fun σ2 H3 => wipe σ2 vs = wipe σ vs ∧ tt σ2 H3 fun b H4 =>
      if b = true then telt σ2 H4 fun y H5 => ∃ acc, H5 D = some (.lst acc) ∧ acc.length < sizeLine ∧ (Same H (upd H5 D (.lst (acc ++ [y]))) ∧ PairsL (upd H5 D (.lst (acc ++ [y]))) D (((ys.take (i + 1)).filter P).map f)) else Same H H4 ∧ PairsL H4 D (((ys.take (i + 1)).filter P).map f) := by
  rintro i x H1 H2 hi ⟨s1, us, d1, pr⟩ ⟨rfl, hx⟩
  obtain ⟨y, hy, gy⟩ := rel i x hx
  have tk : ys.take (i + 1) = ys.take i ++ [y] := by
    rw [List.take_succ, hy]
    rfl
  refine turn x y H2 _ _ s1 (hG _ _ _ s1 gy) (List.mem_of_getElem? hy) (fun py n H4 s4 hn => ?_) fun py H4 s4 => ⟨s1.trans s4, us, s4 _ _ d1, ?_⟩
  · have s5 := same_new (o := .tup [.int (f y).1, .int (f y).2]) hn
    have T5 : TupAt (upd H4 n (.tup [.int (f y).1, .int (f y).2])) n (f y) := upd_same
    generalize upd H4 n (.tup [.int (f y).1, .int (f y).2]) = H5 at s5 T5 ⊢
    have d5 := s5 _ _ (s4 _ _ d1)
    have keep : ∀ {b : Addr} {z : Int × Int}, TupAt H5 b z → TupAt (upd H5 D (.lst (us.map V.ref ++ [.ref n]))) b z := fun {b z} w => (upd_ne (ne_of w d5 (by intro e; cases e))).trans w
    refine ⟨_, d5, ?_, same_upd ((s1.trans s4).trans s5) hD, us ++ [n], ?_, ?_⟩
    · rw [List.length_map]
      have l1 := paired_len pr
      rw [List.length_map] at l1
      have l2 := List.length_filter_le P (ys.take i)
      rw [List.length_take] at l2
      exact Nat.lt_of_le_of_lt (show _ ≤ 5000 by have := Nat.min_le_right i ys.length; omega) (by decide)
    · rw [upd_same, List.map_append]
      rfl
    · rw [tk, List.filter_append, List.filter_cons_of_pos py, List.map_append]
      exact paired_snoc (keep T5) (paired_imp (fun _ _ z => keep (s5 _ _ (s4 _ _ z))) pr)
  · rw [tk, List.filter_append, List.filter_cons_of_neg (by rw [py]; exact Bool.false_ne_true), List.filter_nil, List.append_nil]
    exact paired_imp (fun _ _ z => s4 _ _ z) pr
theorem lcV {G : Hp → V → α → Prop} (P : α → Bool) (f : α → V) (hte : ∀ R : VK, R (.ref a) H → te σ H R) (hs : SqL K H a xs) (rel : ∀ (i : Nat) (x : V), xs[i]? = some x → ∃ y, ys[i]? = some y ∧ G H x y) (len : xs.length = ys.length) (hl : ys.length ≤ 5000) (hG : ∀ H' x y, Same H H' → G H x y → G H' x y)
    (turn : TurnV g tt telt vs σ H G ys P f) (q : ∀ D H', H D = none → Same H H' → H' D = some (.lst ((ys.filter P).map f)) → Q (.ref D) H') : tLc (iList K te) g tt telt vs σ H Q := by
  refine hte _ ⟨a, rfl, ⟨_, hs⟩, fun D hD => ?_⟩
  refine lc_it (walk_list (K := K) (a := a) (xs := xs)) (fun i H1 => Same H H1 ∧ H1 D = some (.lst (((ys.take i).filter P).map f))) ⟨same_new hD, upd_same⟩ (fun i H1 _ h => SqL.same h.1 hs) (stepV rel hl hG turn hD) fun H1 h => ?_
  have d1 := h.2
  rw [len, List.take_length] at d1
  exact q D H1 hD h.1 d1
theorem lcT {G : Hp → V → α → Prop} (P : α → Bool) (f : α → Int × Int) (hte : ∀ R : VK, R (.ref a) H → te σ H R) (hs : SqL K H a xs) (rel : ∀ (i : Nat) (x : V), xs[i]? = some x → ∃ y, ys[i]? = some y ∧ G H x y) (len : xs.length = ys.length) (hl : ys.length ≤ 5000) (hG : ∀ H' x y, Same H H' → G H x y → G H' x y)
    (turn : TurnT g tt telt vs σ H G ys P f) (q : ∀ D H', H D = none → Same H H' → PairsL H' D ((ys.filter P).map f) → Q (.ref D) H') : tLc (iList K te) g tt telt vs σ H Q := by
  refine hte _ ⟨a, rfl, ⟨_, hs⟩, fun D hD => ?_⟩
  refine lc_it (walk_list (K := K) (a := a) (xs := xs)) (fun i H1 => Same H H1 ∧ PairsL H1 D (((ys.take i).filter P).map f)) ⟨same_new hD, [], upd_same, .nil⟩ (fun i H1 _ h => SqL.same h.1 hs) (stepT rel hl hG turn hD) fun H1 h => ?_
  have d1 := h.2
  rw [len, List.take_length] at d1
  exact q D H1 hD h.1 d1
theorem lcTt {G : Hp → V → α → Prop} (P : α → Bool) (f : α → Int × Int) (hte : ∀ R : VK, R (.ref a) H → te σ H R) (hs : SqT K H a xs) (rel : ∀ (i : Nat) (x : V), xs[i]? = some x → ∃ y, ys[i]? = some y ∧ G H x y) (len : xs.length = ys.length) (hl : ys.length ≤ 5000) (hG : ∀ H' x y, Same H H' → G H x y → G H' x y)
    (turn : TurnT g tt telt vs σ H G ys P f) (q : ∀ D H', H D = none → Same H H' → PairsL H' D ((ys.filter P).map f) → Q (.ref D) H') : tLc (iTup K te) g tt telt vs σ H Q := by
  refine hte _ ⟨a, rfl, ⟨_, hs⟩, fun D hD => ?_⟩
  refine lc_it (walk_tup (K := K) (a := a) (xs := xs)) (fun i H1 => Same H H1 ∧ PairsL H1 D (((ys.take i).filter P).map f)) ⟨same_new hD, [], upd_same, .nil⟩ (fun i H1 _ h => SqT.same h.1 hs) (stepT rel hl hG turn hD) fun H1 h => ?_
  have d1 := h.2
  rw [len, List.take_length] at d1
  exact q D H1 hD h.1 d1
theorem lcO {G : Hp → V → α → Prop} (P : α → Bool) (f : α → V) (hte : ∀ R : VK, R (.ref a) H → te σ H R) (hs : SqL K H a xs ∨ SqT K H a xs) (rel : ∀ (i : Nat) (x : V), xs[i]? = some x → ∃ y, ys[i]? = some y ∧ G H x y) (len : xs.length = ys.length) (hl : ys.length ≤ 5000) (hG : ∀ H' x y, Same H H' → G H x y → G H' x y)
    (turn : TurnV g tt telt vs σ H G ys P f) (q : ∀ D H', H D = none → Same H H' → H' D = some (.lst ((ys.filter P).map f)) → Q (.ref D) H') : tLc (fun σ H R => iList K te σ H R ∨ iTup K te σ H R) g tt telt vs σ H Q := by
  rcases hs with hs | hs
  · exact .inl (lcV P f hte hs rel len hl hG turn q)
  · refine .inr (hte _ ⟨a, rfl, ⟨_, hs⟩, fun D hD => ?_⟩)
    refine lc_it (walk_tup (K := K) (a := a) (xs := xs)) (fun i H1 => Same H H1 ∧ H1 D = some (.lst (((ys.take i).filter P).map f))) ⟨same_new hD, upd_same⟩ (fun i H1 _ h => SqT.same h.1 hs) (stepV rel hl hG turn hD) fun H1 h => ?_
    have d1 := h.2
    rw [len, List.take_length] at d1
    exact q D H1 hD h.1 d1
theorem lcTt_c {Cc : Addr → Hp → Prop} {H0 : Hp} (P : α → Bool) (f : α → Int × Int) (hte : ∀ R : VK, (∀ a H, Cc a H → R (.ref a) H) → te σ H0 R)
    (go : ∀ a H, Cc a H → ∃ (xs : List V) (G : Hp → V → α → Prop), SqT K H a xs ∧ (∀ (i : Nat) (x : V), xs[i]? = some x → ∃ y, ys[i]? = some y ∧ G H x y) ∧ xs.length = ys.length ∧ (∀ H' x y, Same H H' → G H x y → G H' x y) ∧ TurnT g tt telt vs σ H G ys P f ∧ ∀ D H', H D = none → Same H H' → PairsL H' D ((ys.filter P).map f) → Q (.ref D) H')
    (hl : ys.length ≤ 5000) : tLc (iTup K te) g tt telt vs σ H0 Q := by
  refine hte _ fun a H hc => ?_
  obtain ⟨xs, G, h1, h2, h3, h4, h5, h6⟩ := go a H hc
  exact lcTt (te := fun _ H' R => R (.ref a) H') P f (fun R r => r) h1 h2 h3 hl h4 h5 h6
theorem ckw_go {r : List V → List V → Hp → VK → Prop} {t tk : TA} (h : t σ H fun vs H1 => tk σ H1 fun zs H2 => r vs zs H2 Q) : tCKw r t tk σ H Q := h
theorem cb_go {r : List V → Hp → VK → Prop} {t : TA} (h : t σ H fun vs H1 => r vs H1 Q) : tCB r t σ H Q := h
theorem cons1_go {te : TE} {R : List V → Hp → Prop} (h : te σ H fun v H1 => R [v] H1) : tCons te tNil σ H R := h
theorem ret_go {te : TE} {D : Ends} (h : te σ H D.rt) : tRet te D σ H := h
/-- what is known of the pairs of a list, item by item -/
theorem pairs_rel {ts : List Addr} {ps : List (Int × Int)} (pr : Paired (TupAt H) ts ps) : ∀ (i : Nat) (x : V), (ts.map V.ref)[i]? = some x → ∃ p, ps[i]? = some p ∧ ∃ t, x = .ref t ∧ TupAt H t p := fun i x hx => by
  rw [List.getElem?_map] at hx
  obtain ⟨t, ht, rfl⟩ := Option.map_eq_some_iff.mp hx
  obtain ⟨p, hp, hat⟩ := paired_at pr ht
  exact ⟨p, hp, t, rfl, hat⟩
theorem ints_rel {L : List Int} : ∀ (i : Nat) (x : V), (L.map V.int)[i]? = some x → ∃ y, L[i]? = some y ∧ x = .int y := fun i x hx => by
  rw [List.getElem?_map] at hx
  obtain ⟨y, hy, rfl⟩ := Option.map_eq_some_iff.mp hx
  exact ⟨y, hy, rfl⟩
def GT (H : Hp) (x : V) (p : Int × Int) : Prop := ∃ t, x = .ref t ∧ TupAt H t p
def GI (_ : Hp) (x : V) (y : Int) : Prop := x = .int y
theorem GT.same {H H' : Hp} {x : V} {p : Int × Int} (s : Same H H') (h : GT H x p) : GT H' x p := let ⟨t, e, z⟩ := h; ⟨t, e, s _ _ z⟩
theorem all_true (l : List α) : l.filter (fun _ => true) = l := List.filter_eq_self.mpr fun _ _ => rfl
end
theorem blk_sum : ∀ (xs : List Int) (bs : List (Int × Int)) (f n : Int), (xs.foldl blkStep (bs ++ [(f, n)])).map (fun p => p.1 + p.2) = bs.map (fun p => p.1 + p.2) ++ rends ((f + n - 1) :: xs)
  | [], bs, f, n => by
    show (bs ++ [(f, n)]).map _ = _
    rw [List.map_append, rends_cons, if_neg (fun z => nomatch z)]
    show _ ++ [f + n] = _ ++ [f + n - 1 + 1]
    rw [show f + n - 1 + 1 = f + n by omega]
  | x :: xs, bs, f, n => by
    rw [List.foldl_cons, rends_cons]
    have gl : (bs ++ [(f, n)]).getLast? = some (f, n) := by simp
    by_cases h : f + n = x
    · have e : blkStep (bs ++ [(f, n)]) x = bs ++ [(f, n + 1)] := by
        unfold blkStep
        rw [gl]
        show (if f + n = x then _ else _) = _
        rw [if_pos h]
        simp
      rw [e, blk_sum xs bs f (n + 1), if_pos (show (x :: xs).head? = some (f + n - 1 + 1) by rw [show f + n - 1 + 1 = x by omega]; rfl), show f + (n + 1) - 1 = x by omega]
    · have e : blkStep (bs ++ [(f, n)]) x = (bs ++ [(f, n)]) ++ [(x, 1)] := by
        unfold blkStep
        rw [gl]
        show (if f + n = x then _ else _) = _
        rw [if_neg h]
      rw [e, blk_sum xs (bs ++ [(f, n)]) x 1, if_neg (show ¬(x :: xs).head? = some (f + n - 1 + 1) by
        intro z
        have : x = f + n - 1 + 1 := Option.some.inj z
        omega), show x + 1 - 1 = x by omega, List.map_append, List.append_assoc]
      show _ ++ ([f + n] ++ _) = _ ++ ((f + n - 1 + 1) :: _)
      rw [show f + n - 1 + 1 = f + n by omega]
      rfl
theorem blk_rends (L : List Int) : (blkOf L).map (fun p => p.1 + p.2) = rends L := by
  cases L with
  | nil => rfl
  | cons x xs =>
    unfold blkOf
    rw [List.foldl_cons]
    have e : blkStep [] x = [] ++ [(x, 1)] := rfl
    rw [e, blk_sum xs [] x 1, show x + 1 - 1 = x by omega]
    rfl
def spBehind (K : PySem.W.Frag) (C : Addr) : Sp := fun vs H Q _ => ∃ x L, vs = [.ref x] ∧ RowAt K C H x (ones L) [] ∧ L.length ≤ 100 ∧ ∀ A H', H A = none → Same H H' → H' A = some (.lst ((rends L).map V.int)) → Q (.ref A) H'
def t_behind_runs (K : PySem.W.Frag) (c_Row : Addr) : TS := tRet (tLc (iList K (tCall (spRunsIn K c_Row) [] E0 (tCons (tVar 0) (tNil)))) (gTup K 2 (gCons (gName 1) (gCons (gName 2) (gNil)))) (tYes) (tOp qAdd (tVar 1) (tVar 2)) [1, 2])
theorem pure_behind {K : PySem.W.Frag} {C : Addr} (vs : List V) (H : Hp) (Q : VK) (E : XK) (h : spBehind K C vs H Q E) : t_behind_runs K C { nx := fun _ H' => Q .non H', rt := Q } (start ["row", "first", "length"] vs) H := by
  obtain ⟨x, L, rfl, row, len, q⟩ := h
  have ol : (ones L).length ≤ 100 := by rw [ones_len]; exact len
  refine ⟨_, rfl, x, ones L, [], rfl, row, ol, fun A H1 hA s1 blk => ?_⟩
  rw [ones_fst] at blk
  obtain ⟨ts, hl, pr⟩ := blk
  have bl := blkOf_len L
  show tLc (iList K fun _ H' R => R (.ref A) H') (gTup K 2 (gCons (gName 1) (gCons (gName 2) (gNil)))) (tYes) (tOp qAdd (tVar 1) (tVar 2)) [1, 2] [some (.ref x), none, none] H1 Q
  refine lcV (G := GT) (fun _ => true) (fun p : Int × Int => .int (p.1 + p.2)) (fun R r => r) (SqL.of hl) (pairs_rel pr) (by rw [List.length_map, paired_len pr]) (by omega) (fun _ _ _ s z => z.same s) ?_ fun D H2 hD s2 d2 => ?_
  · rintro v p H' Rt Rf s' ⟨t, rfl, hat⟩ m rt rf
    exact ⟨t, _, rfl, SqT.of hat, rfl, _, _, rfl, _, _, rfl, rfl, rfl, yes_if ⟨_, rfl, _, rfl, _, _, rfl, rfl, rt rfl _ (fun _ _ h => h)⟩⟩
  · rw [all_true] at d2
    refine q D H2 (none_back s1 hD) (s1.trans s2) ?_
    rw [d2, ← blk_rends, List.map_map]
    rfl
end SR
set_option Elab.async false
set_option linter.all false
set_option maxRecDepth 100000
set_option maxHeartbeats 2000000
namespace SR
open PySem PySem.Spec PyProof.Rows L2
def spTrains (K : PySem.W.Frag) (C : Addr) : Sp := fun vs H Q _ => ∃ (x : Addr) (ks : List (Int × Int)) (p : Rws ks), vs = [.ref x] ∧ RowAt K C H x p.1 ks ∧ ∀ D H', H D = none → Same H H' → PairsL H' D (trP p) → Q (.ref D) H'
def t_trOfs (K : PySem.W.Frag) (C : Addr) : TS := (tFor (iList K (tCall (spBehind K C) [] E0 (tCons (tVar 2) (tNil)))) (gName 5)
  (tDrop (tBM K "list" rRemI (tVar 4) (tCons (tVar 5) (tNil)))))
def t_trEnd (K : PySem.W.Frag) : TS := (tSeq (tDrop (tBM K "list" rExtend (tVar 1) (tCons (tLc (iList K (tVar 4)) (gName 6) (tYes) (tTup (tCons (tVar 3) (tCons (tVar 6) (tNil)))) [6]) (tNil))))
  (tAug 3 (tC (.int 1)) (ipI fun i j => i + j)))
def t_trTurn (K : PySem.W.Frag) (B C : Addr) : TS := (tSeq (tAsg (tCall (spCut K C B) [] E0 (tCons (tVar 2) (tNil))) (gTup K 2 (gCons (gName 2) (gCons (gName 4) (gNil)))))
  (tSeq (t_trOfs K C) (t_trEnd K)))
def t_trains (K : PySem.W.Frag) (c_BadRow : Addr) (c_Row : Addr) : TS := tSeq (tAsg (tLst (tNil)) (gName 1))
  (tSeq (tAsg (tCall (spPlainForm K c_Row) [] E0 (tCons (tVar 0) (tNil))) (gName 2))
  (tSeq (tAsg (tC (.int 1)) (gName 3))
  (tSeq (tWhile ((fun σ H Q => (tProp c_Row (spContents K c_Row) [] E0 (tVar 2)) σ H fun x H1 => ∃ k, TruV K x H1 k ∧ Q k H1))
  (t_trTurn K c_BadRow c_Row))
  (tRet (tVar 1)))))
section
variable {K : PySem.W.Frag} {B C : Addr} {N N2 N3 : L2.St → Hp → Prop} {R : VK}
theorem take_count {E : List Int} {i : Nat} {e x : Int} (h : E[i]? = some e) : (E.take (i + 1)).count x = (E.take i).count x + if e == x then 1 else 0 := by
  rw [List.take_succ, h]
  show (E.take i ++ [e]).count x = _
  rw [List.count_append, List.count_cons, List.count_nil, Nat.zero_add]
theorem less_snoc (M : List Int) {E : List Int} {i : Nat} {e : Int} (h : E[i]? = some e) : less M (E.take (i + 1)) = (less M (E.take i)).erase e := by
  rw [List.take_succ, h]
  show less M (E.take i ++ [e]) = _
  unfold less
  rw [List.foldl_append]
  rfl
theorem take_le (E : List Int) (i : Nat) (x : Int) : (E.take i).count x ≤ E.count x := (List.take_sublist i E).count_le x
/-- what is behind the runs is taken out of the offsets -/
theorem tr_ofs {H : Hp} {y O : Addr} {L M : List Int} {x0 x1 x3 x5 x6 : Option V} (row : RowAt K C H y (ones L) []) (len : L.length ≤ 100) (hO : H O = some (.lst (M.map V.int))) (sub : ∀ x, (rends L).count x ≤ M.count x)
    (hN : ∀ y5 H', SameBut O H H' → H' O = some (.lst ((less M (rends L)).map V.int)) → N [x0, x1, some (.ref y), x3, some (.ref O), y5, x6] H') :
    t_trOfs K C { nx := N, rt := R, bk := N2, ct := N3 } [x0, x1, some (.ref y), x3, some (.ref O), x5, x6] H := by
  refine ⟨_, rfl, y, L, rfl, row, len, fun A H1 hA s1 hA1 => ?_⟩
  have nAO : A ≠ O := fun z => by rw [z, hO] at hA; cases hA
  have O1 := s1 _ _ hO
  generalize hE : rends L = E at hA1 sub hN
  refine ⟨A, rfl, ⟨_, SqL.of hA1⟩, ?_⟩
  refine for_it (walk_list (K := K) (a := A) (xs := E.map V.int)) (fun i σ H2 => SameBut O H1 H2 ∧ H2 O = some (.lst ((less M (E.take i)).map V.int)) ∧ ∃ w5, σ = [x0, x1, some (.ref y), x3, some (.ref O), w5, x6]) ⟨fun _ _ _ h => h, O1, x5, rfl⟩ ?_ ?_ ?_
  · rintro i σ H2 _ ⟨k2, _⟩
    exact SqL.of (k2 _ _ nAO hA1)
  · rintro i v σ H2 H3 hi ⟨k2, o2, w5, rfl⟩ ⟨rfl, hv⟩
    obtain ⟨e, he, rfl⟩ := ints_rel i v hv
    have mem : e ∈ less M (E.take i) := by
      refine List.count_pos_iff.mp ?_
      rw [less_count]
      have a := sub e
      have b := take_le E (i + 1) e
      rw [take_count he] at b
      have c : (if (e == e) = true then 1 else 0) = 1 := by simp
      rw [c] at b
      omega
    obtain ⟨j, _, j1, j2, j3⟩ := first_at mem
    refine ⟨_, rfl, .inl ⟨rfl, _, SqL.of o2⟩, _, rfl, O, less M (E.take i), e, j, rfl, rfl, o2, j1, j2, ?_⟩
    refine ⟨fun b o ne h => (upd_ne ne).trans (k2 _ _ ne h), ?_, _, rfl⟩
    rw [upd_same, j3, less_snoc M he]
  · rintro σ H2 ⟨k2, o2, w5, rfl⟩
    rw [List.length_map, List.take_length] at o2
    exact hN _ _ (fun b o ne h => k2 _ _ ne (s1 _ _ h)) o2
/-- the trains of one length are told -/
theorem tr_end {H : Hp} {A O : Addr} {ts : List (Int × Int)} {M : List Int} {k : Int} {x0 x2 x5 : Option V} (nAO : A ≠ O) (hA : PairsL H A ts) (hO : H O = some (.lst (M.map V.int))) (tl : ts.length ≤ 1000) (ml : M.length ≤ 1000)
    (hN : ∀ H', SameBut A H H' → PairsL H' A (ts ++ M.map fun b => (k, b)) → N [x0, some (.ref A), x2, some (.int (k + 1)), some (.ref O), x5, none] H') :
    t_trEnd K { nx := N, rt := R, bk := N2, ct := N3 } [x0, some (.ref A), x2, some (.int k), some (.ref O), x5, none] H := by
  obtain ⟨us, a1, pr⟩ := hA
  refine ⟨_, rfl, .inl ⟨rfl, _, SqL.of a1⟩, ?_⟩
  refine lcT (G := GI) (fun _ => true) (fun b : Int => (k, b)) (fun R r => ⟨_, rfl, r⟩) (SqL.of hO) (ints_rel) (by rw [List.length_map]) (by omega) (fun _ _ _ _ z => z) ?_ fun D H1 hD s1 d1 => ?_
  · rintro v b H' Rt Rf s' rfl m rt rf
    refine ⟨rfl, yes_if ⟨_, rfl, _, rfl, sz (by show 2 ≤ 1000; decide), fun n hn => rt rfl n H' (fun _ _ h => h) hn⟩⟩
  · rw [all_true] at d1
    obtain ⟨ws, dl, pd⟩ := d1
    have A1 := s1 _ _ a1
    have nAD : A ≠ D := fun z => by rw [← z, a1] at hD; cases hD
    have wl := paired_len pd
    rw [List.length_map] at wl
    have ul := paired_len pr
    refine ⟨A, D, _, _, rfl, rfl, A1, dl, ?_, ?_⟩
    · rw [List.length_map, List.length_map, wl, ul]
      exact Nat.le_trans (show ts.length + M.length ≤ 5000 by omega) (by decide)
    refine ⟨_, rfl, _, _, rfl, rfl, ?_⟩
    have keep : ∀ {b : Addr} {z : Int × Int}, TupAt H1 b z → TupAt (upd H1 A (.lst (us.map V.ref ++ ws.map V.ref))) b z := fun {b z} w => (upd_ne (ne_of w A1 (by intro e; cases e))).trans w
    refine hN _ (fun b o ne h => (upd_ne ne).trans (s1 _ _ h)) ⟨us ++ ws, ?_, ?_⟩
    · rw [upd_same, List.map_append]
    · have app : ∀ {xs ys : List Addr} {as bs : List (Int × Int)} {F : Addr → Int × Int → Prop}, Paired F xs as → Paired F ys bs → Paired F (xs ++ ys) (as ++ bs) := fun {xs ys as bs F} h1 h2 => by
        induction h1 with
        | nil => exact h2
        | cons f _ ih => exact .cons f ih
      exact app (paired_imp (fun _ _ z => keep (s1 _ _ z)) pr) (paired_imp (fun _ _ z => keep z) pd)
end
theorem tr_many_le {L : List Int} (a : L.Pairwise (· < ·)) : (trL L).length ≤ L.length := by
  have h := tr_many L.length 1 L a (Nat.le_refl _)
  have c := cutL_snd L 0
  have d := cutL_len L 0
  unfold trL
  omega
theorem pure_trains {K : PySem.W.Frag} {B C : Addr} (vs : List V) (H : Hp) (Q : VK) (E : XK) (h : spTrains K C vs H Q E) : t_trains K B C { nx := fun _ H' => Q .non H', rt := Q } (start ["row", "found", "rest", "length", "offsets", "index", "offset"] vs) H := by
  obtain ⟨x, ks, p, rfl, row, q⟩ := h
  unfold t_trains
  refine ⟨sz (Nat.zero_le _), fun A hA => ?_⟩
  have s1 := same_new (o := .lst []) hA
  have A1 : upd H A (.lst []) A = some (.lst []) := upd_same
  generalize upd H A (.lst []) = H1 at s1 A1 ⊢
  refine ⟨_, rfl, x, p.1, ks, rfl, row.same s1, p.2, fun y H2 hy s2 ry => ?_⟩
  rw [plL_ones p] at ry
  have A2 := s2 _ _ A1
  have l40 := plL_40 p
  have tl40 : (trP p).length ≤ 40 := Nat.le_trans (tr_many_le (plL_asc p)) l40
  refine ⟨fun m σ H3 => ∃ (L : List Int) (k : Int) (z : Addr) (acc : List (Int × Int)) (w4 w5 : Option V), m = L.length ∧ σ = [some (.ref x), some (.ref A), some (.ref z), some (.int k), w4, w5, none] ∧ SameBut A H2 H3 ∧ RowAt K C H3 z (ones L) [] ∧ L.Pairwise (· < ·) ∧ L.length ≤ 40 ∧ PairsL H3 A acc ∧ acc ++ tr 40 k L = trP p,
    ⟨_, plL p, 1, y, [], _, _, rfl, rfl, fun _ _ _ h => h, ry, plL_asc p, l40, ⟨[], A2, .nil⟩, ?_⟩, ?_⟩
  · exact tr_fuel _ _ _ _ l40 (Nat.le_refl _)
  rintro m σ H3 ⟨L, k, z, acc, w4, w5, rfl, rfl, k3, rz, asc, len, pa, eq⟩
  obtain ⟨dz, fz, hz⟩ := rz.at
  refine ⟨_, rfl, z, dz, fz, rfl, hz, z, ones L, [], rfl, rz, fun c hc => ?_⟩
  obtain ⟨tc, bc, pc⟩ := hc
  refine ⟨_, .inr (.inl ⟨_, bc.sq, rfl⟩), ?_⟩
  have tcl := paired_len pc
  rw [ones_len] at tcl
  have emp : (!(tc.map V.ref).isEmpty) = !L.isEmpty := by
    cases tc with
    | nil =>
      cases L with
      | nil => rfl
      | cons _ _ => cases tcl
    | cons _ _ =>
      cases L with
      | nil => cases tcl
      | cons _ _ => rfl
  rw [emp]
  by_cases ne : L = []
  · subst ne
    refine iteF ?_
    rw [tr_nil, List.append_nil] at eq
    obtain ⟨us, a3, pr⟩ := pa
    refine ⟨_, rfl, q A H3 hA (fun b o hb => k3 _ _ (ne_of_none hb hA) (s2 _ _ (s1 _ _ hb))) ?_⟩
    rw [← eq]
    exact ⟨us, a3, pr⟩
  · have nb : (!L.isEmpty) = true := by
      cases L with
      | nil => exact absurd rfl ne
      | cons _ _ => rfl
    rw [nb]
    refine iteT ?_
    refine ⟨fun σ' H' => ∃ m', m' < L.length ∧ ∃ (L2 : List Int) (k2 : Int) (z2 : Addr) (acc2 : List (Int × Int)) (w4 w5 : Option V), m' = L2.length ∧ σ' = [some (.ref x), some (.ref A), some (.ref z2), some (.int k2), w4, w5, none] ∧ SameBut A H2 H' ∧ RowAt K C H' z2 (ones L2) [] ∧ L2.Pairwise (· < ·) ∧ L2.length ≤ 40 ∧ PairsL H' A acc2 ∧ acc2 ++ tr 40 k2 L2 = trP p, fun σ' H' h => h, ?_⟩
    have ok := ones_ok asc len
    refine ⟨_, rfl, z, ones L, [], rfl, rz, ok, ones_asc asc, (fun n => absurd rfl n), fun _ t z2 O H4 ht hO s4 t4 r4 o4 => ?_⟩
    rw [ones_fst] at r4 o4
    have cu := cut_up asc
    have lt := cut_lt ne
    have bl := cutL_len L 0
    refine ⟨t, [.ref z2, .ref O], rfl, SqT.of t4, rfl, _, _, rfl, _, _, rfl, rfl, ?_⟩
    have pa4 := pa.same s4
    obtain ⟨us, a4, pr⟩ := pa4
    have nOA : O ≠ A := fun e => by
      obtain ⟨us3, a3, _⟩ := pa
      rw [e, a3] at hO
      cases hO
    show tSeq (t_trOfs K C) (t_trEnd K) _ [some (.ref x), some (.ref A), some (.ref z2), some (.int k), some (.ref O), w5, none] H4
    refine tr_ofs (K := K) (C := C) r4 (by omega) o4 cu.2.2 fun y5 H5 k5 o5 => ?_
    have pa5 : PairsL H5 A acc := by
      refine ⟨us, k5 _ _ (Ne.symm nOA) a4, paired_imp (fun b w z => k5 _ _ (fun e => ?_) z) pr⟩
      rw [e] at z
      cases (z : H4 O = _).symm.trans o4
    have al : acc.length ≤ 40 := by
      have := congrArg List.length eq
      rw [List.length_append] at this
      omega
    refine tr_end (K := K) (Ne.symm nOA) pa5 o5 (by omega) ?_ fun H6 k6 p6 => ?_
    · have := (less_sub (rends (cutL L 0).1) (cutL L 0).2).length_le
      omega
    · have r5 : RowAt K C H5 z2 (ones (cutL L 0).1) [] := r4.lst o4 k5
      obtain ⟨us5, a5, _⟩ := pa5
      have r6 : RowAt K C H6 z2 (ones (cutL L 0).1) [] := r5.lst a5 k6
      refine ⟨_, lt, (cutL L 0).1, k + 1, z2, _, _, _, rfl, rfl, fun b o hb h => ?_, r6, cu.1, by omega, p6, ?_⟩
      · have h3 := k3 _ _ hb h
        have h4 := s4 _ _ h3
        exact k6 _ _ hb (k5 _ _ (fun e => by rw [e, hO] at h3; cases h3) h4)
      · rw [List.append_assoc, ← eq]
        congr 1
        show (ofs L).map (fun b => (k, b)) ++ tr 40 (k + 1) (cutL L 0).1 = (if L = [] then [] else (ofs L).map (fun b => (k, b)) ++ tr 39 (k + 1) (cutL L 0).1)
        rw [if_neg ne, tr_fuel 40 39 (k + 1) (cutL L 0).1 (by omega) (by omega)]
end SR
set_option Elab.async false
set_option linter.all false
set_option maxRecDepth 100000
set_option maxHeartbeats 2000000
namespace SR
open PySem PySem.Spec PyProof.Rows L2
section
variable {K : PySem.W.Frag} {σ : L2.St} {H : Hp} {Q : VK} {D : Ends}
theorem seq_go {a b : TS} (h : a { D with nx := b D } σ H) : tSeq a b D σ H := h
theorem ifs_go {tc : TT} {a b : TS} (h : tc σ H fun c H1 => if c = true then a D σ H1 else b D σ H1) : tIfS tc a b D σ H := h
theorem not_go {tt : TT} {R : Bool → Hp → Prop} (h : tt σ H fun c H1 => R (!c) H1) : tNot tt σ H R := h
theorem tb_go {te : TE} {R : Bool → Hp → Prop} (h : te σ H fun x H1 => ∃ c, x = .bl c ∧ R c H1) : tB te σ H R := h
theorem op_go {r : R2} {ta tb : TE} (h : ta σ H fun x H1 => tb σ H1 fun y H2 => r x y H2 Q) : tOp r ta tb σ H Q := h
theorem c_go {v : V} (h : Q v H) : tC v σ H Q := h
theorem asg_go {te : TE} {g : TG} (h : te σ H fun x H1 => g x σ H1 D.nx) : tAsg te g D σ H := h
theorem make_go {C : Addr} {sp : Sp} {dvs : List V} {E : XK} {t : TA} (h : t σ H fun vs H1 => ∀ x dx, H1 x = none → H1 dx = none → dx ≠ x → sp (.ref x :: (vs ++ dvs)) (upd (upd H1 dx (.own x)) x (.ins C dx [])) (fun v H2 => v = .non ∧ Q (.ref x) H2) E) : tMake C sp dvs E t σ H Q := h
end
def t_are_trains (K : PySem.W.Frag) : TS := tSeq (tIfS (tNot (tB (tCB (rIsiT K) (tCons (tVar 0) (tCons (tTup (tCons (tC (.ty "list")) (tCons (tC (.ty "tuple")) (tNil)))) tNil)))))
  (tRet (tC (.bl false)))
  (tNext))
  (tSeq (tIfS (tNot (tB (tCB (rAll K) (tCons (tLc ((fun σ H R => iList K (tVar 0) σ H R ∨ iTup K (tVar 0) σ H R)) (gName 1) (tYes) (tCall (spIsPair K) [] E0 (tCons (tVar 1) (tNil))) [1]) (tNil)))))
  (tRet (tC (.bl false)))
  (tNext))
  (tSeq (tIfS (tNot (tB (tCB (rAll K) (tCons (tLc ((fun σ H R => iList K (tVar 0) σ H R ∨ iTup K (tVar 0) σ H R)) (gTup K 2 (gCons (gName 2) (gCons (gName 3) (gNil)))) (tYes) (tOp qGe (tVar 2) (tC (.int 1))) [2, 3]) (tNil)))))
  (tRet (tC (.bl false)))
  (tNext))
  (tRet (tOp qLe (tCB (rSum K) (tCons (tLc ((fun σ H R => iList K (tVar 0) σ H R ∨ iTup K (tVar 0) σ H R)) (gTup K 2 (gCons (gName 2) (gCons (gName 3) (gNil)))) (tYes) (tVar 2) [2, 3]) (tNil))) (tC (.int 40))))))
theorem PairsAt.rel {K : PySem.W.Frag} {H : Hp} {a : Addr} {ps : List (Int × Int)} (h : PairsAt K H a ps) : ∃ xs : List V, (SqL K H a xs ∨ SqT K H a xs) ∧ (∀ (i : Nat) (x : V), xs[i]? = some x → ∃ p, ps[i]? = some p ∧ GT H x p) ∧ xs.length = ps.length := by
  obtain ⟨ts, h1, h2⟩ := h
  exact ⟨_, h1.imp id BareW.sq, pairs_rel h2, by rw [List.length_map, paired_len h2]⟩
theorem all_map {α : Type} (l : List α) (f : α → Bool) (h : ∀ x ∈ l, f x = true) : (l.map f).all id = true := by
  rw [List.all_map]
  exact List.all_eq_true.mpr h
theorem en_snoc (B : List Int) (b : Int) : ∀ g : Int, en g (B ++ [b]) = en g B ++ [b + 2 * (g + B.length)] := by
  induction B with
  | nil =>
    intro g
    show [b + 2 * g] = [b + 2 * (g + ((0 : Nat) : Int))]
    rw [show g + ((0 : Nat) : Int) = g by omega]
  | cons y B ih =>
    intro g
    show (y + 2 * g) :: en (g + 1) (B ++ [b]) = (y + 2 * g) :: (en (g + 1) B ++ [b + 2 * (g + ((B.length + 1 : Nat) : Int))])
    rw [ih, show g + 1 + (B.length : Int) = g + ((B.length + 1 : Nat) : Int) by omega]
theorem en_len (B : List Int) : ∀ g : Int, (en g B).length = B.length := by
  induction B with
  | nil => exact fun _ => rfl
  | cons y B ih => exact fun g => congrArg (· + 1) (ih (g + 1))
def t_ucM (K : PySem.W.Frag) (C : Addr) : TE := (tLc (iTup K (tProp C (spContents K C) [] E0 (tVar 0))) (gTup K 2 (gCons (gName 6) (gCons (gName 7) (gNil)))) (tYes) (tTup (tCons (tOp qAdd (tVar 6) (tOp qMul (tC (.int 2)) (tCB (qLen K) (tCons (tLc (iList K (tVar 1)) (gName 5) (tTest (tOp qLe (tVar 5) (tVar 6))) (tVar 5) [5]) (tNil))))) (tCons (tC (.int 1)) (tNil)))) [6, 7])
def t_ucA (K : PySem.W.Frag) : TE := (tLc (iEnum K (tCons (tCB (rSortedI K) (tCons (tVar 1) (tNil))) (tNil))) (gTup K 2 (gCons (gName 4) (gCons (gName 5) (gNil)))) (tYes) (tTup (tCons (tOp qAdd (tVar 5) (tOp qMul (tC (.int 2)) (tVar 4))) (tCons (tC (.int 1)) (tNil)))) [4, 5])
def t_uncut (K : PySem.W.Frag) (a0 : Addr) (c_Row : Addr) : TS := tSeq (tAsg (t_ucA K) (gName 2))
  (tSeq (tAsg (t_ucM K c_Row) (gName 3))
  (tRet (tMake c_Row (spRowInit K c_Row) [.ref a0] E0 (tCons (tOp rCat (tVar 3) (tVar 2)) (tNil)))))
/-- [(offset + 2 * before, 1) for before, offset in enumerate(sorted(offsets))] -/
theorem uc_added {K : PySem.W.Frag} {H0 : Hp} {O : Addr} {M B : List Int} {Q : VK} {y0 y2 y3 : Option V} (hO : H0 O = some (.lst (M.map V.int))) (pm : M.Perm B) (up : B.Pairwise (· ≤ ·)) (hl : B.length ≤ 1000)
    (q : ∀ D H', H0 D = none → Same H0 H' → PairsL H' D (ones (en 0 B)) → Q (.ref D) H') : t_ucA K [y0, some (.ref O), y2, y3, none, none, none, none] H0 Q := by
  refine ⟨_, rfl, O, M, rfl, SqL.of hO, fun ns a pn un ha => ?_⟩
  have eB : ns = B := up_eq un up fun y => (pn.trans pm).count_eq y
  subst eB
  have s0 := same_new (o := .lst (ns.map V.int)) ha
  have N0 : upd H0 a (.lst (ns.map V.int)) a = some (.lst (ns.map V.int)) := upd_same
  generalize upd H0 a (.lst (ns.map V.int)) = H at s0 N0 ⊢
  refine ⟨a, _, rfl, SqL.of N0, fun D hD => ?_⟩
  have hs : SqL K H a (ns.map V.int) := SqL.of N0
  refine lc_it (walk_enum (K := K) (a := a) (xs := ns.map V.int)) (fun i H1 => Same H H1 ∧ PairsL H1 D (ones (en 0 (ns.take i)))) ⟨same_new hD, [], upd_same, .nil⟩ (fun i H1 _ h => SqL.same h.1 hs) ?_ ?_
  · rintro i x H1 H2 hi ⟨s1, us, d1, pr⟩ ⟨T, v1, v2, rfl, hT, rfl, e1, e2⟩
    cases e1
    obtain ⟨b, hb, rfl⟩ := ints_rel i v2 e2
    have s2 := same_new (o := .tup [.int (i : Nat), .int b]) hT
    have T2 : upd H1 T (.tup [.int (i : Nat), .int b]) T = some (.tup [.int (i : Nat), .int b]) := upd_same
    generalize upd H1 T (.tup [.int (i : Nat), .int b]) = H2 at s2 T2 ⊢
    refine ⟨T, _, rfl, SqT.of T2, rfl, _, _, rfl, _, _, rfl, rfl, rfl, yes_if ⟨_, rfl, _, rfl, _, _, rfl, rfl, .inl ⟨by decide, by decide⟩, _, _, rfl, rfl, sz (by show 2 ≤ 1000; decide), fun n hn => ?_⟩⟩
    show ∃ acc, (upd H2 n (.tup [.int (b + 2 * (i : Int)), .int 1])) D = some (.lst acc) ∧ acc.length < sizeLine ∧ _
    have s3 := same_new (o := .tup [.int (b + 2 * (i : Int)), .int 1]) hn
    have T3 : TupAt (upd H2 n (.tup [.int (b + 2 * (i : Int)), .int 1])) n (b + 2 * (i : Int), 1) := upd_same
    generalize upd H2 n (.tup [.int (b + 2 * (i : Int)), .int 1]) = H3 at s3 T3 ⊢
    have s23 := s2.trans s3
    have d3 := s23 _ _ d1
    have keep : ∀ {c : Addr} {z : Int × Int}, TupAt H3 c z → TupAt (upd H3 D (.lst (us.map V.ref ++ [.ref n]))) c z := fun {c z} w => (upd_ne (ne_of w d3 (by intro e; cases e))).trans w
    have il : i < ns.length := (List.getElem?_eq_some_iff.mp hb).1
    have tl : (ns.take i).length = i := by rw [List.length_take]; omega
    have ul : us.length = i := by rw [paired_len pr, ones_len, en_len, tl]
    refine ⟨_, d3, ?_, same_upd (s1.trans s23) hD, us ++ [n], ?_, ?_⟩
    · rw [List.length_map, ul]
      exact Nat.lt_of_lt_of_le (Nat.lt_of_lt_of_le il hl) (by decide)
    · rw [upd_same, List.map_append]
      rfl
    · rw [List.take_succ, hb]
      show Paired _ _ (ones (en 0 (ns.take i ++ [b])))
      rw [en_snoc, tl, Int.zero_add]
      rw [show ∀ A C : List Int, ones (A ++ C) = ones A ++ ones C from fun A C => List.map_append]
      exact paired_snoc (keep T3) (paired_imp (fun _ _ z => keep (s23 _ _ z)) pr)
  · rintro H1 ⟨s1, d1⟩
    rw [List.length_map, List.take_length] at d1
    exact q D H1 (none_back s0 hD) (s0.trans s1) d1
def spUncut (K : PySem.W.Frag) (C : Addr) : Sp := fun vs H Q _ => ∃ (x O : Addr) (X M B L : List Int), vs = [.ref x, .ref O] ∧ RowAt K C H x (ones X) [] ∧ H O = some (.lst (M.map V.int)) ∧ M.Perm B ∧ B.Pairwise (· ≤ ·) ∧ (X.map (fun i => i + 2 * nLe B i) ++ en 0 B).Perm L ∧ L.Pairwise (· < ·) ∧ L.length ≤ 40 ∧
  ∀ y H', H y = none → Same H H' → RowAt K C H' y (ones L) [] → Q (.ref y) H'
theorem uc_moved {K : PySem.W.Frag} {C : Addr} {H : Hp} {x O : Addr} {X M : List Int} {y2 y3 : Option V} {Q : VK} (row : RowAt K C H x (ones X) []) (hO : H O = some (.lst (M.map V.int))) (xl : X.length ≤ 1000) (ml : M.length ≤ 1000)
    (q : ∀ D H', H D = none → Same H H' → PairsL H' D (ones (X.map fun i => i + 2 * nLe M i)) → Q (.ref D) H') :
    t_ucM K C [some (.ref x), some (.ref O), y2, y3, none, none, none, none] H Q := by
  obtain ⟨dx, fs, hx⟩ := row.at
  refine lcTt_c (Cc := fun c H1 => H1 = H ∧ PairsT H c (ones X)) (ys := ones X) (fun _ => true) (fun p : Int × Int => (p.1 + 2 * nLe M p.1, 1)) (fun R r => ⟨_, rfl, x, dx, fs, rfl, hx, x, ones X, [], rfl, row, fun c hc => r c H ⟨rfl, hc⟩⟩) (fun c H1 z => ?_) (by rw [ones_len]; omega)
  obtain ⟨rfl, ts, bc, pr⟩ := z
  refine ⟨_, GT, bc.sq, pairs_rel pr, by rw [List.length_map, paired_len pr], fun _ _ _ s z => z.same s, ?_, fun D H2 hD s2 d2 => ?_⟩
  · rintro v p H' Rt Rf s' ⟨u, rfl, hat⟩ m rt rf
    refine ⟨u, _, rfl, SqT.of hat, rfl, _, _, rfl, _, _, rfl, rfl, rfl, yes_if ⟨_, rfl, ?_⟩⟩
    refine op_go (c_go (cb_go (cons1_go (lcV (G := GI) (ys := M) (fun b : Int => decide (b ≤ p.1)) V.int (fun R r => ⟨_, rfl, r⟩) (SqL.of (s' _ _ hO)) ints_rel (by rw [List.length_map]) (by omega) (fun _ _ _ _ z => z) ?_ fun D2 H2 hD2 s2 d2 => ?_))))
    · rintro v b H2 Rt2 Rf2 s2 rfl m2 rt2 rf2
      refine ⟨rfl, _, rfl, _, rfl, _, _, rfl, rfl, _, rfl, ?_⟩
      by_cases e : b ≤ p.1
      · rw [decide_eq_true e]
        exact iteT ⟨_, rfl, rt2 (decide_eq_true e) _ (fun _ _ h => h)⟩
      · rw [decide_eq_false e]
        exact iteF (rf2 (decide_eq_false e) _ (fun _ _ h => h))
    · refine ⟨D2, _, rfl, .inl (SqL.of d2), _, _, rfl, rfl, .inl ⟨by decide, by decide⟩, _, _, rfl, rfl, sz (by show 2 ≤ 1000; decide), fun n hn => ?_⟩
      have e : p.1 + 2 * (((M.filter fun b => decide (b ≤ p.1)).map V.int).length : Int) = p.1 + 2 * nLe M p.1 := by
        rw [List.length_map]
        rfl
      show Rt (V.ref n) (upd H2 n (.tup [.int (p.1 + 2 * (((M.filter fun b => decide (b ≤ p.1)).map V.int).length : Int)), .int 1]))
      rw [e]
      exact rt rfl n H2 s2 hn
  · rw [all_true] at d2
    refine q D H2 hD s2 ?_
    have e : (ones X).map (fun p : Int × Int => (p.1 + 2 * nLe M p.1, (1 : Int))) = ones (X.map fun i => i + 2 * nLe M i) := by
      unfold ones
      rw [List.map_map, List.map_map]
      rfl
    rw [← e]
    exact d2
theorem pure_uncut {K : PySem.W.Frag} {C a0 : Addr} (hE : BareK K a0 []) (vs : List V) (H : Hp) (Q : VK) (E : XK) (h : spUncut K C vs H Q E) : t_uncut K a0 C { nx := fun _ H' => Q .non H', rt := Q } (start ["row", "offsets", "added", "moved", "before", "offset", "index", "_"] vs) H := by
  obtain ⟨x, O, X, M, B, L, rfl, row, hO, pm, up, pl, asc, len, q⟩ := h
  have ll := pl.length_eq
  rw [List.length_append, List.length_map, en_len] at ll
  have ml := pm.length_eq
  refine seq_go (asg_go (uc_added (K := K) hO pm up (by omega) fun D H2 hD s02 d2 => ?_))
  show tSeq (tAsg (t_ucM K C) (gName 3)) _ _ [some (.ref x), some (.ref O), some (.ref D), none, none, none, none, none] H2
  refine seq_go (asg_go (uc_moved (row.same s02) (s02 _ _ hO) (by omega) (by omega) fun D2 H3 hD2 s3 d3 => ?_))
  have eM : (X.map fun i => i + 2 * nLe M i) = X.map fun i => i + 2 * nLe B i := map_same fun i _ => by rw [nLe_perm pm]
  rw [eM] at d3
  obtain ⟨us, a3, pr3⟩ := d3
  obtain ⟨ws, a2, pr2⟩ := d2
  have w3 := s3 _ _ a2
  have ul := paired_len pr3
  have wl := paired_len pr2
  rw [ones_len, List.length_map] at ul
  rw [ones_len, en_len] at wl
  show tRet (tMake C (spRowInit K C) [.ref a0] E0 (tCons (tOp rCat (tVar 3) (tVar 2)) tNil)) _ [some (.ref x), some (.ref O), some (.ref D), some (.ref D2), none, none, none, none] H3
  refine ret_go (make_go (cons1_go (op_go ?_)))
  refine ⟨_, rfl, _, rfl, D2, D, _, _, rfl, rfl, a3, w3, ?_, fun p hp => ?_⟩
  · rw [List.length_map, List.length_map, ul, wl]
    exact Nat.le_trans (show X.length + B.length ≤ 1000 by omega) (by decide)
  have s4 := same_new (o := .lst (us.map V.ref ++ ws.map V.ref)) hp
  have P4 : upd H3 p (.lst (us.map V.ref ++ ws.map V.ref)) p = some (.lst ((us ++ ws).map V.ref)) := by rw [upd_same, List.map_append]
  generalize upd H3 p (.lst (us.map V.ref ++ ws.map V.ref)) = H4 at s4 P4 ⊢
  have pr4 : Paired (TupAt H4) (us ++ ws) (ones (X.map (fun i => i + 2 * nLe B i)) ++ ones (en 0 B)) := paired_append (paired_imp (fun _ _ z => s4 _ _ z) pr3) (paired_imp (fun _ _ z => s4 _ _ (s3 _ _ z)) pr2)
  have hp4 : PairsAt K H4 p (ones (X.map (fun i => i + 2 * nLe B i)) ++ ones (en 0 B)) := ⟨us ++ ws, .inl (SqL.of P4), pr4⟩
  have hk : PairsAt K H4 a0 [] := ⟨[], .inr (.inr hE), .nil⟩
  have pmL : (ones (X.map (fun i => i + 2 * nLe B i)) ++ ones (en 0 B)).Perm (ones L) := by
    have := pl.map (fun y : Int => (y, (1 : Int)))
    rw [List.map_append] at this
    exact this
  have okL : RowOk (ones (X.map (fun i => i + 2 * nLe B i)) ++ ones (en 0 B)) [] := (ones_ok asc len).perm pmL (.refl _)
  refine make_row hp4 hk okL fun y H5 qs ls hy s5 row5 p1 p2 a1 a2 => ?_
  have e1 : qs = ones L := asc_eq a1 (ones_asc asc) (p1.trans pmL)
  have e2 : ls = [] := List.Perm.eq_nil p2
  subst e1 e2
  have s04 := (s02.trans s3).trans s4
  exact q y H5 (none_back s04 hy) (s04.trans s5) row5
end SR
set_option Elab.async false
set_option linter.all false
set_option maxRecDepth 100000
set_option maxHeartbeats 2000000
namespace SR
open PySem PySem.Spec PyProof.Rows L2
theorem pe_mk0 {X : Cx} {x : Str} {C : Addr} {sp : Sp} {dvs : List V} {j k : Nat} {p pos : Pos} (c : C8.Mak X.prog X.w X.K X.mg X.base k x C sp dvs) (hr : Room j X.A) (hk : k + 1 ≤ j) (hg : Gl X x) (hdb : (x == ("__debug__" : Str)) = false := by decide) : PE X (.Call (.Name x p) [] [] pos) (tMake C sp dvs E0 tNil) := by
  obtain ⟨f, fd, ps, ds, M, F, hm, b, d⟩ := c.ex
  exact pe_make0 M F (hr.mono hk) hg hm b d pass0 hdb
/-- a def with defaults, called with all its arguments -/
theorem bindsFull {K : PySem.W.Frag} {x qual : Str} {params : Arguments} {body : List Stmt} {scope : Scope} {dvs : List V} {kws : List (Str × V)} {f : Addr} {fd : FuncData} {ps : List Str} (F : FunD K x qual params body scope dvs kws f fd) (hd : dvs ≠ [])
    (h : ∀ (T : Addr) (kV doc pm : Value) (an : Option Addr) (cdv ct : Value) (us its : List Value), us.length = ps.length → its.length = dvs.length →
      ∃ k, bindArgs (PySem.W.fnOf x qual params body scope (.ref T) kV doc pm an cdv ct) ⟨us, []⟩ = seqItems? (.ref T) >>= k ∧ k (some its.toArray) = pure (ps.zip (us ++ its.drop dvs.length))) : Binds K fd ps [] := by
  obtain ⟨ds, v, b⟩ := FunD.binds1 F ps.length dvs.length hd (by omega) h
  rw [List.drop_length] at v
  cases v
  exact b
theorem nil0_go {σ : L2.St} {H : Hp} {R : List V → Hp → Prop} (h : R [] H) : tNil σ H R := h
theorem le_sum : ∀ {l : List Int}, (∀ y ∈ l, 0 ≤ y) → ∀ m ∈ l, m ≤ l.sum
  | [], _, _, h => nomatch h
  | y :: l, p, m, h => by
    have hs : 0 ≤ l.sum := by
      have : ∀ {l : List Int}, (∀ y ∈ l, 0 ≤ y) → 0 ≤ l.sum := by
        intro l
        induction l with
        | nil => exact fun _ => Int.le_refl _
        | cons z l ih =>
          intro q
          have a := q z List.mem_cons_self
          have b := ih fun y m => q y (List.mem_cons_of_mem _ m)
          rw [List.sum_cons]
          omega
      exact this fun y m => p y (List.mem_cons_of_mem _ m)
    rw [List.sum_cons]
    rcases List.mem_cons.mp h with rfl | h
    · omega
    · have a := p y List.mem_cons_self
      have b := le_sum (fun y m => p y (List.mem_cons_of_mem _ m)) m h
      omega
theorem trL_le {L : List Int} (a : L.Pairwise (· < ·)) : ∀ t ∈ trL L, t.1 ≤ L.length := fun t m => by
  rw [← trL_sum a]
  refine le_sum (fun y my => ?_) t.1 (List.mem_map.mpr ⟨t, m, rfl⟩)
  obtain ⟨s, ms, rfl⟩ := List.mem_map.mp my
  have := trL_one s ms
  omega
theorem bg_perm {ts us : List (Int × Int)} (h : ts.Perm us) (j : Int) : (bg ts j).Perm (bg us j) := (h.filter _).map _
/-- what a row of trains is put together of, one length after another -/
theorem level_ok {L : List Int} {ts : List (Int × Int)} (a : L.Pairwise (· < ·)) (pm : ts.Perm (trL L)) (j : Nat) :
    (rends (cuts (j + 1) L) ++ bg ts ((j : Int) + 1)).Perm (cutL (cuts j L) 0).2 ∧ ((cuts (j + 1) L).map (fun i => i + 2 * nLe (cutL (cuts j L) 0).2 i) ++ en 0 (cutL (cuts j L) 0).2).Perm (cuts j L) := by
  have aj := cuts_asc j a
  refine ⟨?_, ?_⟩
  · have h1 := bg_perm pm ((j : Int) + 1)
    rw [trL_bg] at h1
    rw [cuts_succ]
    exact (h1.append_left _).trans (ofs_perm aj)
  · rw [cuts_succ]
    exact uncut_ok aj
def spRowOf (K : PySem.W.Frag) (C T B : Addr) : Sp := fun vs H Q E => ∃ (a : Addr) (v : V) (ts : List (Int × Int)) (L : List Int), vs = [.ref a, v] ∧ PairsAt K H a ts ∧ L.Pairwise (· < ·) ∧ L.length ≤ 40 ∧ ts.Perm (trL L) ∧
  ((OddC K H v ∧ ∀ d H', Same H H' → H' d = none → E (.ref B) (some d) (upd H' d (.xd [("field", .str "capacities")]))) ∨
   ∃ ls rs, CapsAt K H v ls ∧ ls.Perm rs ∧ KsOk rs ∧ ∀ y H', H y = none → Same H H' → RowAt K C H' y (withF rs (ones L)) rs → Q (.ref y) H')
def t_roBegun (K : PySem.W.Frag) : TE := (tLc ((fun σ H R => iList K (tVar 0) σ H R ∨ iTup K (tVar 0) σ H R)) (gTup K 2 (gCons (gName 5) (gCons (gName 6) (gNil)))) (tTest (tOp rEq (tVar 5) (tVar 3))) (tVar 6) [5, 6])
def t_roBody (K : PySem.W.Frag) (C : Addr) : TS := (tSeq (tAsg (t_roBegun K) (gName 4))
  (tAsg (tCall (spUncut K C) [] E0 (tCons (tVar 2) (tCons (tOp rCat (tCall (spBehind K C) [] E0 (tCons (tVar 2) (tNil))) (tVar 4)) (tNil)))) (gName 2)))
def t_roMax (K : PySem.W.Frag) : TE := (tCKw (rMaxDf K) (tCons (tLc ((fun σ H R => iList K (tVar 0) σ H R ∨ iTup K (tVar 0) σ H R)) (gTup K 2 (gCons (gName 5) (gCons (gName 7) (gNil)))) (tYes) (tVar 5) [5, 7]) (tNil)) (tCons (tC (.int 0)) tNil))
def t_roLoop (K : PySem.W.Frag) (C B : Addr) (E : XK) : TS := (tSeq (tFor (iRng3 (tCons (t_roMax K) (tCons (tC (.int 0)) (tCons (tUn (rU fun i => .int (-i)) (tC (.int 1))) (tNil))))) (gName 3)
  (t_roBody K C))
  (tRet (tCall (spWithCap K C B) [] E (tCons (tVar 2) (tCons (tVar 1) (tNil))))))
section
variable {K : PySem.W.Frag} {C B : Addr} {N N2 N3 : L2.St → Hp → Prop} {R : VK}
theorem ro_begun {H : Hp} {a : Addr} {ts : List (Int × Int)} {l : Int} {Q : VK} {y1 y2 y4 : Option V} (hp : PairsAt K H a ts) (tl : ts.length ≤ 1000) (q : ∀ D H', H D = none → Same H H' → H' D = some (.lst ((bg ts l).map V.int)) → Q (.ref D) H') :
    t_roBegun K [some (.ref a), y1, y2, some (.int l), y4, none, none, none] H Q := by
  obtain ⟨xs, sq, rel, len⟩ := hp.rel
  refine lcO (G := GT) (ys := ts) (fun t => decide (t.1 = l)) (fun t => V.int t.2) (fun R r => ⟨_, rfl, r⟩) sq rel len (by omega) (fun _ _ _ s z => z.same s) ?_ fun D H2 hD s2 d2 => ?_
  · rintro v t H' Rt Rf s' ⟨u, rfl, hat⟩ m rt rf
    refine ⟨u, _, rfl, SqT.of hat, rfl, _, _, rfl, _, _, rfl, rfl, rfl, _, rfl, _, rfl, rfl, _, rfl, ?_⟩
    by_cases e : t.1 = l
    · rw [decide_eq_true (show V.int t.1 = V.int l by rw [e])]
      exact iteT ⟨_, rfl, rt (decide_eq_true e) _ (fun _ _ h => h)⟩
    · rw [decide_eq_false (show ¬V.int t.1 = V.int l from fun z => e (V.int.inj z))]
      exact iteF (rf (decide_eq_false e) _ (fun _ _ h => h))
  · refine q D H2 hD s2 ?_
    rw [d2]
    unfold bg
    rw [List.map_map]
    rfl
theorem ro_body {H : Hp} {a x : Addr} {v : V} {ts : List (Int × Int)} {L : List Int} {j : Nat} {y4 : Option V} (hp : PairsAt K H a ts) (asc : L.Pairwise (· < ·)) (len : L.length ≤ 40) (pm : ts.Perm (trL L)) (row : RowAt K C H x (ones (cuts (j + 1) L)) [])
    (hN : ∀ y4 y H', Same H H' → RowAt K C H' y (ones (cuts j L)) [] → N [some (.ref a), some v, some (.ref y), some (.int ((j : Int) + 1)), y4, none, none, none] H') :
    t_roBody K C { nx := N, rt := R, bk := N2, ct := N3 } [some (.ref a), some v, some (.ref x), some (.int ((j : Int) + 1)), y4, none, none, none] H := by
  have tl : ts.length ≤ 40 := by
    have := tr_many_le asc
    rw [pm.length_eq]
    omega
  have lv := level_ok asc pm j
  have cl := cuts_len (j + 1) L
  have cl2 := cuts_len j L
  refine seq_go (asg_go (ro_begun hp (by omega) fun D H1 hD s1 d1 => ?_))
  show tAsg (tCall (spUncut K C) [] E0 (tCons (tVar 2) (tCons (tOp rCat (tCall (spBehind K C) [] E0 (tCons (tVar 2) (tNil))) (tVar 4)) (tNil)))) (gName 2) _ [some (.ref a), some v, some (.ref x), some (.int ((j : Int) + 1)), some (.ref D), none, none, none] H1
  refine ⟨_, rfl, _, rfl, x, cuts (j + 1) L, rfl, row.same s1, by omega, fun A H2 hA s2 a2 => ⟨_, rfl, A, D, _, _, rfl, rfl, a2, s2 _ _ d1, ?_, fun p hp2 => ?_⟩⟩
  · have h1 := (List.Perm.length_eq lv.1)
    have h2 := cutL_len (cuts j L) 0
    rw [List.length_append] at h1
    rw [List.length_map, List.length_map]
    exact Nat.le_trans (show (rends (cuts (j + 1) L)).length + (bg ts ((j : Int) + 1)).length ≤ 1000 by omega) (by decide)
  have s3 := same_new (o := .lst ((rends (cuts (j + 1) L)).map V.int ++ (bg ts ((j : Int) + 1)).map V.int)) hp2
  have P3 : upd H2 p (.lst ((rends (cuts (j + 1) L)).map V.int ++ (bg ts ((j : Int) + 1)).map V.int)) p = some (.lst ((rends (cuts (j + 1) L) ++ bg ts ((j : Int) + 1)).map V.int)) := by rw [upd_same, List.map_append]
  generalize upd H2 p (.lst ((rends (cuts (j + 1) L)).map V.int ++ (bg ts ((j : Int) + 1)).map V.int)) = H3 at s3 P3 ⊢
  have s03 := (s1.trans s2).trans s3
  have aj := cuts_asc j asc
  exact ⟨x, p, cuts (j + 1) L, _, (cutL (cuts j L) 0).2, cuts j L, rfl, row.same s03, P3, lv.1, (cut_up aj).2.1, lv.2, aj, by omega, fun y H4 hy s4 r4 => hN _ y H4 (s03.trans s4) r4⟩
theorem ro_max {H : Hp} {a : Addr} {ts : List (Int × Int)} {Q : VK} {y1 y2 y3 y4 : Option V} (hp : PairsAt K H a ts) (tl : ts.length ≤ 1000) (one : ∀ t ∈ ts, 1 ≤ t.1) (q : ∀ (m : Nat) H', Same H H' → (∀ t ∈ ts, t.1 ≤ m) → (m = 0 ∨ ∃ t ∈ ts, t.1 = m) → Q (.int m) H') :
    t_roMax K [some (.ref a), y1, y2, y3, y4, none, none, none] H Q := by
  obtain ⟨xs, sq, rel, len⟩ := hp.rel
  refine ckw_go (cons1_go (lcO (G := GT) (ys := ts) (fun _ => true) (fun t => V.int t.1) (fun R r => ⟨_, rfl, r⟩) sq rel len (by omega) (fun _ _ _ s z => z.same s) ?_ fun D H2 hD s2 d2 => ?_))
  · rintro v t H' Rt Rf s' ⟨u, rfl, hat⟩ m rt rf
    exact ⟨u, _, rfl, SqT.of hat, rfl, _, _, rfl, _, _, rfl, rfl, rfl, yes_if ⟨_, rfl, rt rfl _ (fun _ _ h => h)⟩⟩
  · rw [all_true] at d2
    refine ⟨D, ts.map Prod.fst, 0, rfl, rfl, by rw [List.map_map]; exact SqL.of d2, fun z => ?_, fun m hm hx => ?_⟩
    · have : ts = [] := List.map_eq_nil_iff.mp z
      exact q 0 H2 s2 (fun t ht => by rw [this] at ht; cases ht) (.inl rfl)
    · obtain ⟨t, ht, rfl⟩ := List.mem_map.mp hm
      have p1 := one t ht
      have := q t.1.toNat H2 s2 (fun s hs => by have := hx s.1 (List.mem_map.mpr ⟨s, hs, rfl⟩); omega) (.inr ⟨t, ht, by omega⟩)
      rw [show ((t.1.toNat : Nat) : Int) = t.1 by omega] at this
      exact this
end
end SR
set_option Elab.async false
set_option linter.all false
set_option maxRecDepth 100000
set_option maxHeartbeats 1000000
set_option Elab.async false
set_option linter.all false
set_option maxRecDepth 100000
set_option maxHeartbeats 1000000
namespace SR
open PySem PySem.Spec PyProof.Rows L2
section
variable {ks : List (Int × Int)} {c : Int}
noncomputable def iterF (s : Int × Bool) : Nat → Rws ks → Rws ks
  | 0, p => p
  | n + 1, p => iterF s n (Fn s p)
noncomputable def FnN (c n : Int) (p : Rws ks) : Rws ks := iterF (c, decide (n < 0)) n.natAbs p
noncomputable def advP (cs : List (Int × Int)) (p : Rws ks) : Rws ks := cs.foldl (fun p t => FnN t.1 t.2 p) p
def mirP (p : Rws ks) : Rws (mirror ks) := ⟨mirror p.1, p.2.mirror⟩
end
end SR
set_option Elab.async false
set_option linter.all false
set_option maxRecDepth 100000
set_option maxHeartbeats 2000000
namespace SR
open PySem PySem.Spec PyProof.Rows L2
def Agr (i : Int) (ps ks qs ls : List (Int × Int)) : Prop := ∀ j, j ≤ i → cnt ps j = cnt qs j ∧ cap ks j = cap ls j
theorem Agr.symm {i : Int} {ps ks qs ls : List (Int × Int)} (a : Agr i ps ks qs ls) : Agr i qs ls ps ks := fun j h => ⟨(a j h).1.symm, (a j h).2.symm⟩
theorem Agr.trans {i : Int} {ps ks qs ls rs ms : List (Int × Int)} (a : Agr i ps ks qs ls) (b : Agr i qs ls rs ms) : Agr i ps ks rs ms := fun j h => ⟨(a j h).1.trans (b j h).1, (a j h).2.trans (b j h).2⟩
end SR
set_option Elab.async false
set_option linter.all false
set_option maxRecDepth 100000
set_option maxHeartbeats 2000000
set_option Elab.async false
set_option linter.all false
set_option maxRecDepth 100000
set_option maxHeartbeats 4000000
set_option Elab.async false
set_option linter.all false
set_option maxRecDepth 100000
set_option maxHeartbeats 4000000
set_option Elab.async false
set_option linter.all false
set_option maxRecDepth 100000
set_option maxHeartbeats 2000000
namespace SR
open PySem PySem.Spec PyProof.Rows L2
def lstD (ps : List (Int × Int)) : PyData := .list (ps.map fun p => pr2 p.1 p.2)
theorem dp_pairs {K : PySem.W.Frag} {H : Hp} {a : Addr} {ps : List (Int × Int)} (h : PairsL H a ps) : Dp K H (.ref a) (lstD ps) := by
  obtain ⟨ts, h1, h2⟩ := h
  refine .lst (SqL.of h1) ?_
  clear h1
  induction ps generalizing ts with
  | nil =>
    cases h2
    exact .nil
  | cons p ps ih =>
    cases h2 with
    | cons a b => exact .cons (dp_pr2 a) (ih _ b)
theorem lst_shaped (ps : List (Int × Int)) : SeqAt.shaped (lstD ps) = true := by
  refine shaped_list (lay_prs ps) ?_
  have := row_depth ps
  simp only [rowD, PyData.depth] at this
  omega
theorem ne_dd {K : PySem.W.Frag} {H : Hp} {x y : V} {d : PyData} {Q : VK} (hx : Dp K H x d) (hy : Dp K H y d) (s : SeqAt.shaped d = true) (q : Q (.bl false) H) : rNeD K x y H Q :=
  ⟨d, d, hx, hy, s, s, by rw [eqv_same s]; exact q⟩
theorem up2_eq : ∀ {a b : List (Int × Int)}, Up2 a → Up2 b → a.Perm b → a = b
  | [], b, _, _, h => h.nil_eq
  | x :: a, [], _, _, h => absurd h.eq_nil (fun z => nomatch z)
  | x :: a, y :: b, ha, hb, h => by
    obtain ⟨a1, a2⟩ := List.pairwise_cons.mp ha
    obtain ⟨b1, b2⟩ := List.pairwise_cons.mp hb
    have e : x = y := by
      rcases List.mem_cons.mp (h.mem_iff.mp List.mem_cons_self) with q | q
      · exact q
      · rcases List.mem_cons.mp (h.mem_iff.mpr List.mem_cons_self) with r | r
        · exact r.symm
        · have h1 := b1 x q
          have h2 := a1 y r
          refine Prod.ext ?_ ?_ <;> omega
    subst e
    rw [up2_eq a2 b2 ((List.perm_cons x).mp h)]
theorem sorted_up {H : Hp} {ts : List Addr} {ps qs : List (Int × Int)} (hp : Paired (TupAt H) ts ps) (pm : ps.Perm qs) (up : Up2 qs) {ys : List V} (h1 : SrtO.Srtd (ltP (pk H)) ys) (h2 : SrtO.Stb (ltP (pk H)) ys (ts.map V.ref)) :
    ∃ us, ys = us.map V.ref ∧ Paired (TupAt H) us qs := by
  obtain ⟨us, rfl⟩ := all_refs fun y m => by
    obtain ⟨t, ht, e⟩ := List.mem_map.mp (h2.perm.mem_iff.mp m)
    exact ⟨t, e.symm⟩
  have ups : us.Perm ts := by
    have z := h2.perm.map (fun v => match v with | V.ref t => t | _ => 0)
    rw [List.map_map, List.map_map] at z
    exact (List.map_id us).symm ▸ (List.map_id ts) ▸ z
  have at_ : ∀ t ∈ us, TupAt H t (pk H (.ref t)) := fun t m => by
    obtain ⟨p, _, hat⟩ := paired_mem hp t (ups.mem_iff.mp m)
    rw [pk_at hat]
    exact hat
  have perm : (us.map fun t => pk H (.ref t)).Perm qs := by
    refine List.Perm.trans ?_ pm
    rw [paired_eq hp]
    exact ups.map _
  have u2 : Up2 (us.map fun t => pk H (.ref t)) := by
    unfold Up2
    rw [List.pairwise_map]
    refine (List.pairwise_map.mp h1).imp fun {x y} z => ?_
    have := SrtO.lexB_no.mp z
    omega
  have e := up2_eq u2 up perm
  refine ⟨us, rfl, ?_⟩
  rw [← e]
  exact paired_map at_
theorem sort_pairs {K : PySem.W.Frag} {H : Hp} {a : Addr} {ps qs : List (Int × Int)} {Q : VK} (h : PairsL H a ps) (pm : ps.Perm qs) (up : Up2 qs) (q : ∀ D H', H D = none → Same H H' → PairsL H' D qs → Q (.ref D) H') : rSortedPO K [.ref a] H Q := by
  obtain ⟨ts, h1, h2⟩ := h
  have it : ∀ x ∈ ts.map V.ref, ∃ t, x = V.ref t ∧ H t = some (.tup [.int (pk H x).1, .int (pk H x).2]) := fun x m => by
    obtain ⟨t, ht, rfl⟩ := List.mem_map.mp m
    obtain ⟨p, _, hat⟩ := paired_mem h2 t ht
    refine ⟨t, rfl, ?_⟩
    rw [pk_at hat]
    exact hat
  refine ⟨a, _, pk H, rfl, SqL.of h1, it, fun ys l a1 a2 a3 => ?_⟩
  obtain ⟨us, rfl, b1⟩ := sorted_up h2 pm up a1 a2
  exact q l _ a3 (same_new a3) ⟨us, upd_same, paired_imp (fun _ _ z => same_new a3 _ _ z) b1⟩
end SR
set_option Elab.async false
set_option linter.all false
set_option maxRecDepth 100000
set_option maxHeartbeats 2000000
set_option Elab.async false
set_option linter.all false
set_option maxRecDepth 100000
set_option maxHeartbeats 4000000
set_option Elab.async false
set_option linter.all false
set_option maxRecDepth 100000
set_option maxHeartbeats 1000000
namespace SR
open PySem PySem.Spec PyProof.Rows L2
section
variable {K : PySem.W.Frag} {C : Addr} {N N2 N3 : L2.St → Hp → Prop} {R : VK}
/-- what the boxes are while they are drawn -/
structure B11 (ks qs : List (Int × Int)) : Prop where
  nd : (qs.map Prod.fst).Nodup
  ok : ∀ p ∈ qs, 1 ≤ p.2 ∧ p.2 ≤ cap ks p.1
  bd : ∀ p ∈ qs, -60 ≤ p.1 ∧ p.1 ≤ 100
  sm : total qs ≤ 40
theorem B11.len {ks qs : List (Int × Int)} (b : B11 ks qs) : qs.length ≤ 40 := by
  have h := len_sum fun p m => (b.ok p m).1
  have s := b.sm
  unfold total at s
  omega
end
end SR
set_option Elab.async false
set_option linter.all false
set_option maxRecDepth 100000
set_option maxHeartbeats 1000000
set_option Elab.async false
set_option linter.all false
set_option maxRecDepth 100000
set_option maxHeartbeats 1000000
set_option Elab.async false
set_option linter.all false
set_option maxRecDepth 100000
set_option maxHeartbeats 1000000
set_option Elab.async false
set_option linter.all false
set_option maxRecDepth 100000
set_option maxHeartbeats 2000000
set_option Elab.async false
set_option linter.all false
set_option maxRecDepth 100000
set_option maxHeartbeats 2000000
namespace SR
open PySem PySem.Spec PyProof.Rows L2
theorem lst_show {ps : List (Int × Int)} (h : Small ps) : (lstD ps).showable = true := row_show h
theorem lst_cost (ps : List (Int × Int)) : cost (lstD ps) ≤ ps.length * 4000 + 4 := row_cost ps
/-- what is known of a turn, its boxes drawn -/
structure B14 (qs ps ks : List (Int × Int)) (far : Int) : Prop where
  v : Vd ps ks
  pm : qs.Perm ps
  bd : ∀ p ∈ ps, -60 ≤ p.1 ∧ p.1 ≤ 250
  fk : far = 0 ∨ ks = []
  f1 : -(10 ^ 29) ≤ far
  f2 : far ≤ 10 ^ 29
section
variable {qs ps ks : List (Int × Int)} {far : Int}
theorem B14.nd (B : B14 qs ps ks far) : (qs.map Prod.fst).Nodup := (B.pm.map _).nodup_iff.mpr B.v.ok.nd
theorem B14.len (B : B14 qs ps ks far) : ps.length ≤ 40 := vd_len B.v
theorem B14.pl (B : B14 qs ps ks far) : ∀ y ∈ (plainF ks ps).map Prod.fst, -300 ≤ y ∧ y ≤ 300 := fun y m => by
  obtain ⟨p, mp, rfl⟩ := List.mem_map.mp m
  have kl := B.v.ok.kl
  have := plainF_bd (B := -60) (T := 250) B.v B.bd (fun k m => by
    have := (B.v.ok.ko k m).1
    omega) p mp
  omega
theorem B14.vd (B : B14 qs ps ks far) : Vd (ps.map (shP far)) ks := by
  rcases B.fk with rfl | rfl
  · rw [shP_0]
    exact B.v
  · exact vd_move B.v far
theorem B14.tr (B : B14 qs ps ks far) : trP (⟨ps.map (shP far), B.vd⟩ : Rws ks) = (trP (⟨ps, B.v⟩ : Rws ks)).map fun t => (t.1, t.2 + far) := by
  rcases B.fk with z | z
  · subst z
    have e : (⟨ps.map (shP 0), B.vd⟩ : Rws ks) = ⟨ps, B.v⟩ := Subtype.ext (shP_0 ps)
    rw [e]
    have : ∀ t ∈ trP (⟨ps, B.v⟩ : Rws ks), (t.1, t.2 + 0) = t := fun t _ => by rw [Int.add_zero]
    rw [map_same this, List.map_id']
  · subst z
    exact trP_move B.v far
end
structure J14 (H : Hp) (d g c : Addr) (b : Nat) (qs ps ks : List (Int × Int)) (far : Int) (F Z : Addr) : Prop where
  S : StB H d g c b
  f : H F = some (.dK (kvsOf qs))
  z : H Z = some (.dK (kvsOf ks))
  B : B14 qs ps ks far
section
variable {K : PySem.W.Frag} {C : Addr} {N N2 N3 : L2.St → Hp → Prop} {R : VK} {H : Hp} {d g c F Z : Addr} {b : Nat} {qs ps ks : List (Int × Int)} {far : Int}
theorem J14.same {H' : Hp} (s : Same H H') (J : J14 H d g c b qs ps ks far F Z) : J14 H' d g c b qs ps ks far F Z := ⟨StB.same s J.S, s _ _ J.f, s _ _ J.z, J.B⟩
/-- what is known of the dict while it is filled -/
structure U14 (ks us : List (Int × Int)) (i : Nat) : Prop where
  nd : (us.map Prod.fst).Nodup
  ok : ∀ p ∈ us, 1 ≤ p.2 ∧ p.2 ≤ cap ks p.1
  bd : ∀ p ∈ us, -60 ≤ p.1 ∧ p.1 ≤ 60
  sm : total us ≤ 20 + 9 * (i : Int)
theorem U14.len {us : List (Int × Int)} {i : Nat} (u : U14 ks us i) : (us.length : Int) ≤ 20 + 9 * (i : Int) := by
  have h := len_sum fun p m => (u.ok p m).1
  have s := u.sm
  unfold total at s
  omega
end
end SR
set_option Elab.async false
set_option linter.all false
set_option maxRecDepth 100000
set_option maxHeartbeats 4000000
set_option Elab.async false
set_option linter.all false
set_option maxRecDepth 100000
set_option maxHeartbeats 2000000
set_option Elab.async false
set_option linter.all false
set_option maxRecDepth 100000
set_option maxHeartbeats 2000000
set_option Elab.async false
set_option linter.all false
set_option maxRecDepth 100000
set_option maxHeartbeats 2000000
set_option Elab.async false
set_option linter.all false
set_option maxRecDepth 100000
set_option maxHeartbeats 1000000
namespace SR
open PySem PySem.Spec PyProof.Rows L2
section
variable {ps ks : List (Int × Int)} {w c c1 : Int}
/-- counts, where the two places have others -/
def two (w l r : Int) (ps : List (Int × Int)) : List (Int × Int) := (ps.filter fun p => decide (p.1 ≠ w - 1 ∧ p.1 ≠ w)) ++ [(w - 1, l), (w, r)]
end
end SR
set_option Elab.async false
set_option linter.all false
set_option maxRecDepth 100000
set_option maxHeartbeats 1000000
namespace SR
open PySem PySem.Spec PyProof.Rows L2
/-- a method that may raise -/
structure MetX (P : Program) (w : World) (K : PySem.W.Frag) (mg : Str → Option Value) (base : Heap) (CX : CXT) (k : Nat) (C : Addr) (m : Str) (sp : Sp) (dvs : List V) : Prop where
  ex : ∃ (f : Addr) (fd : FuncData) (ps : List Str) (ds : List Value), Cls K C ∧ Meth K C m f ∧ FnOk P w K mg base CX k f fd ps sp ∧ Binds K fd ps ds ∧ Vals dvs ds
theorem MetX.weak {P : Program} {w : World} {K : PySem.W.Frag} {mg : Str → Option Value} {base : Heap} {CX : CXT} {k : Nat} {C : Addr} {m : Str} {sp sp' : Sp} {dvs : List V} (c : MetX P w K mg base CX k C m sp dvs) (h : ∀ vs H Q E, sp' vs H Q E → sp vs H Q E) : MetX P w K mg base CX k C m sp' dvs := by
  obtain ⟨f, fd, ps, ds, h1, h2, F, h4, h5⟩ := c.ex
  exact ⟨f, fd, ps, ds, h1, h2, F.imp h, h4, h5⟩
end SR
set_option Elab.async false
set_option linter.all false
set_option maxRecDepth 100000
set_option maxHeartbeats 1000000
set_option Elab.async false
set_option linter.all false
set_option maxRecDepth 100000
set_option maxHeartbeats 2000000
set_option Elab.async false
set_option linter.all false
set_option maxRecDepth 100000
set_option maxHeartbeats 2000000
set_option Elab.async false
set_option linter.all false
set_option maxRecDepth 100000
set_option maxHeartbeats 2000000
set_option Elab.async false
set_option linter.all false
set_option maxRecDepth 100000
set_option maxHeartbeats 2000000
namespace SR
open PySem PySem.Spec PyProof.Rows L2 LiI
/-- no index of a wide box that can be shifted -/
def OddI (K : PySem.W.Frag) (H : Hp) (ks : List (Int × Int)) (v : V) : Prop := ∃ t, AnyT K H v t ∧ (isI v = false ∨ ∃ i, v = .int i ∧ (cap ks i = 1 ∨ i = -60))
theorem OddI.same {K : PySem.W.Frag} {H H' : Hp} {ks : List (Int × Int)} {v : V} (s : Same H H') (h : OddI K H ks v) : OddI K H' ks v := let ⟨t, a, b⟩ := h; ⟨t, a.same s, b⟩
end SR
set_option Elab.async false
set_option linter.all false
set_option maxRecDepth 100000
set_option maxHeartbeats 2000000
set_option Elab.async false
set_option linter.all false
set_option maxRecDepth 100000
set_option maxHeartbeats 2000000
set_option Elab.async false
set_option linter.all false
set_option maxRecDepth 100000
set_option maxHeartbeats 2000000
namespace SR
open PySem PySem.Spec PyProof.Rows L2 LiI
/-- a dict that is no field of the row may be locked and unlocked -/
theorem RowAt.off {K : PySem.W.Frag} {C : Addr} {H H' : Hp} {x Z : Addr} {ps ks : List (Int × Int)} (row : RowAt K C H x ps ks) (nz : ∀ dx c k d e, H x = some (.ins C dx (rowFs c k d e)) → Z ≠ d ∧ Z ≠ e) (hz : (∃ kvs, H Z = some (.dK kvs)) ∨ ∃ o kvs, H Z = some (.frz o (.dK kvs))) (k : ∀ b o, b ≠ Z → H b = some o → H' b = some o) : RowAt K C H' x ps ks := by
  obtain ⟨dx, c0, k0, d, e, ps0, ks0, h1, ⟨t1, h2, h3⟩, ⟨t2, h4, h5⟩, h6, h7, h8⟩ := row
  obtain ⟨n1, n2⟩ := nz _ _ _ _ _ h1
  have kp : ∀ {a : Addr} {o : HO}, H a = some o → (∀ kvs, o ≠ .dK kvs) → (∀ o' kvs, o ≠ .frz o' (.dK kvs)) → H' a = some o := fun {a o} h m1 m2 => k _ _ (fun z => by
    rw [z] at h
    rcases hz with ⟨kvs, g⟩ | ⟨o', kvs, g⟩
    · rw [g] at h
      exact m1 _ (Option.some.inj h).symm
    · rw [g] at h
      exact m2 _ _ (Option.some.inj h).symm) h
  have tp : ∀ {t : Addr} {p : Int × Int}, TupAt H t p → TupAt H' t p := fun {t p} z => kp (o := .tup [.int p.1, .int p.2]) z (fun _ z => nomatch z) fun _ _ z => nomatch z
  refine ⟨dx, c0, k0, d, e, ps0, ks0, kp h1 (fun _ z => nomatch z) (fun _ _ z => nomatch z), ⟨t1, ?_, paired_imp (fun _ _ z => tp z) h3⟩, ⟨t2, ?_, paired_imp (fun _ _ z => tp z) h5⟩, k _ _ (Ne.symm n1) h6, k _ _ (Ne.symm n2) h7, h8⟩
  · obtain ⟨o, a1, a2⟩ := h2
    exact ⟨o, kp a1 (fun _ z => nomatch z) (fun _ _ z => by cases z), a2⟩
  · obtain ⟨o, a1, a2⟩ := h4
    exact ⟨o, kp a1 (fun _ z => nomatch z) (fun _ _ z => by cases z), a2⟩
end SR
set_option Elab.async false
set_option linter.all false
set_option maxRecDepth 100000
set_option maxHeartbeats 2000000
namespace SR
open PySem PySem.Spec PyProof.Rows L2
/-- the dict at W is none of the row's own -/
def Nw (C : Addr) (H : Hp) (W x : Addr) : Prop := ∃ dx c k d e, H x = some (.ins C dx (rowFs c k d e)) ∧ W ≠ d ∧ W ≠ e
theorem Nw.all {C W x : Addr} {H : Hp} (h : Nw C H W x) : ∀ dx c k d e, H x = some (.ins C dx (rowFs c k d e)) → W ≠ d ∧ W ≠ e := fun dx c k d e h1 => by
  obtain ⟨dx', c', k', d', e', h2, n1, n2⟩ := h
  rw [h1] at h2
  have z := Option.some.inj h2
  have fe : rowFs c k d e = rowFs c' k' d' e' := by
    injection z
  unfold rowFs at fe
  injection fe with _ fe
  injection fe with _ fe
  injection fe with f3 fe
  injection fe with f4 _
  have e3 : d = d' := V.ref.inj (congrArg Prod.snd f3)
  have e4 : e = e' := V.ref.inj (congrArg Prod.snd f4)
  subst e3 e4
  exact ⟨n1, n2⟩
theorem Nw.same {C W x : Addr} {H H' : Hp} (s : Same H H') (h : Nw C H W x) : Nw C H' W x := let ⟨dx, c, k, d, e, h1, n⟩ := h; ⟨dx, c, k, d, e, s _ _ h1, n⟩
theorem Nw.kp {C W x d g c : Addr} {b : Nat} {H H' : Hp} (S : StB H d g c b) (k : Kp d g H H') (h : Nw C H W x) : Nw C H' W x := let ⟨dx, c, k', d, e, h1, n⟩ := h; ⟨dx, c, k', d, e, kp_at S k h1 (fun _ z => nomatch z) (fun _ _ z => nomatch z), n⟩
theorem Nw.put {C W x : Addr} {H H' : Hp} {kvs : List (Key × V)} (hW : H W = some (.dK kvs)) (k : ∀ a o, a ≠ W → H a = some o → H' a = some o) (h : Nw C H W x) : Nw C H' W x := by
  obtain ⟨dx, c, k', d, e, h1, n⟩ := h
  exact ⟨dx, c, k', d, e, k _ _ (fun z => by rw [z, hW] at h1; cases h1) h1, n⟩
theorem Nw.new {K : PySem.W.Frag} {C W x : Addr} {H : Hp} {ps ks : List (Int × Int)} (row : RowAt K C H x ps ks) (hW : H W = none) : Nw C H W x := by
  obtain ⟨dx, c, k, d, e, _, _, h1, _, _, h6, h7, _⟩ := row
  exact ⟨dx, c, k, d, e, h1, (fun z => by rw [← z, hW] at h6; cases h6), fun z => by rw [← z, hW] at h7; cases h7⟩
end SR
set_option Elab.async false
set_option linter.all false
set_option maxRecDepth 100000
set_option maxHeartbeats 2000000
namespace SR
open PySem PySem.Spec PyProof.Rows L2
/-- what all sweeps of each capacity pick up, from the least capacity on -/
def allPk (cs ts : List (Int × Int)) (L : List Int) : List (Int × Int) := L.map fun y => (y, cnt cs y * pkT y ts)
end SR
set_option Elab.async false
set_option linter.all false
set_option maxRecDepth 100000
set_option maxHeartbeats 2000000
set_option Elab.async false
set_option linter.all false
set_option maxRecDepth 100000
set_option maxHeartbeats 4000000
set_option Elab.async false
set_option linter.all false
set_option maxRecDepth 100000
set_option maxHeartbeats 4000000
set_option Elab.async false
set_option linter.all false
set_option maxRecDepth 100000
set_option maxHeartbeats 4000000
namespace SR
open PySem PySem.Spec PyProof.Rows L2
section
variable {K : PySem.W.Frag} {C BC : Addr} {H : Hp} {N N2 N3 : L2.St → Hp → Prop}
theorem SameBut.of {F : Addr} {H H' : Hp} (s : Same H H') : SameBut F H H' := fun b o _ h => s b o h
end
end SR
set_option Elab.async false
set_option linter.all false
set_option maxRecDepth 100000
set_option maxHeartbeats 1000000
set_option Elab.async false
set_option linter.all false
set_option maxRecDepth 100000
set_option maxHeartbeats 4000000
set_option Elab.async false
set_option linter.all false
set_option maxRecDepth 100000
set_option maxHeartbeats 4000000
set_option Elab.async false
set_option linter.all false
set_option maxRecDepth 100000
set_option maxHeartbeats 4000000
namespace SR
open PySem PySem.Spec PyProof.Rows L2
section
variable {K : PySem.W.Frag} {C : Addr} {H H' : Hp} {d g c x a : Addr} {b : Nat} {ps ks : List (Int × Int)}
theorem StB.ext (S : StB H d g c b) (e : LamX.ExtN H H') : StB H' d g c b := by
  obtain ⟨r, t, gs, cs, h1, h2, h3, h4⟩ := S
  exact ⟨r, t, gs, cs, e _ _ h1 (fun _ z => by cases z), e _ _ h2 (fun _ z => by cases z), e _ _ h3 (fun _ z => by cases z), h4⟩
theorem RowAt.ext (row : RowAt K C H x ps ks) (e : LamX.ExtN H H') : RowAt K C H' x ps ks := by
  obtain ⟨dx, c0, k0, dd, de, ps0, ks0, h1, ⟨t1, h2, h3⟩, ⟨t2, h4, h5⟩, h6, h7, h8⟩ := row
  have tp : ∀ {t : Addr} {p : Int × Int}, TupAt H t p → TupAt H' t p := fun {t p} z => e t (.tup [.int p.1, .int p.2]) z (fun _ z => nomatch z)
  refine ⟨dx, c0, k0, dd, de, ps0, ks0, e _ _ h1 (fun _ z => nomatch z), ⟨t1, ?_, paired_imp (fun _ _ z => tp z) h3⟩, ⟨t2, ?_, paired_imp (fun _ _ z => tp z) h5⟩, e _ _ h6 (fun _ z => by cases z), e _ _ h7 (fun _ z => by cases z), h8⟩
  · obtain ⟨o, a1, a2⟩ := h2
    exact ⟨o, e _ _ a1 (fun _ z => by cases z), a2⟩
  · obtain ⟨o, a1, a2⟩ := h4
    exact ⟨o, e _ _ a1 (fun _ z => by cases z), a2⟩
theorem Tabs.same {T : List (Addr × Str)} (t : LamX.Tabs T H) (s : Same H H') : LamX.Tabs T H' := t.ext s
theorem Tabs.kp {T : List (Addr × Str)} (S : StB H d g c b) (t : LamX.Tabs T H) (k : Kp d g H H') : LamX.Tabs T H' := fun p hp => by
  obtain ⟨ps, h1, h2, h3⟩ := t p hp
  exact ⟨ps, kp_at S k h1 (fun _ z => by cases z) (fun _ _ z => by cases z), h2, fun pos cv hc => by
    obtain ⟨c0, e1, e2⟩ := h3 pos cv hc
    exact ⟨c0, e1, kp_at S k e2 (fun _ z => by unfold LamX.CodeO at z; cases z) (fun _ _ z => by unfold LamX.CodeO at z; cases z)⟩⟩
end
end SR
set_option Elab.async false
set_option linter.all false
set_option maxRecDepth 100000
set_option maxHeartbeats 4000000
set_option Elab.async false
set_option linter.all false
set_option maxRecDepth 100000
set_option maxHeartbeats 4000000
set_option Elab.async false
set_option linter.all false
set_option maxRecDepth 100000
set_option maxHeartbeats 4000000
set_option Elab.async false
set_option linter.all false
set_option maxRecDepth 100000
set_option maxHeartbeats 4000000
set_option Elab.async false
set_option linter.all false
set_option maxRecDepth 100000
set_option maxHeartbeats 4000000
namespace SR
open PySem PySem.Spec PyProof.Rows L2
def NumsOk (ns : List (Int × Int)) : Prop := (ns.map Prod.fst).Nodup ∧ ns.length ≤ 7 ∧ ∀ t ∈ ns, 1 ≤ t.1 ∧ t.1 ≤ 99 ∧ -6 ≤ t.2 ∧ t.2 ≤ 6
end SR
set_option Elab.async false
set_option linter.all false
set_option maxRecDepth 100000
set_option maxHeartbeats 4000000
set_option Elab.async false
set_option linter.all false
set_option maxRecDepth 100000
set_option maxHeartbeats 4000000
set_option Elab.async false
set_option linter.all false
set_option maxRecDepth 100000
set_option maxHeartbeats 4000000
set_option Elab.async false
set_option linter.all false
set_option maxRecDepth 100000
set_option maxHeartbeats 4000000
namespace SR
open PySem PySem.Spec PyProof.Rows L2
theorem StB.but {H H' : Hp} {d g c U : Addr} {b : Nat} (S : StB H d g c b) (k : SameBut U H H') (u1 : d ≠ U) (u2 : g ≠ U) (u3 : c ≠ U) : StB H' d g c b := by
  obtain ⟨r, t, gs, cs, h1, h2, h3, h4⟩ := S
  exact ⟨r, t, gs, cs, k _ _ u1 h1, k _ _ u2 h2, k _ _ u3 h3, h4⟩
end SR
set_option Elab.async false
set_option linter.all false
set_option maxRecDepth 100000
set_option maxHeartbeats 4000000
set_option Elab.async false
set_option linter.all false
set_option maxRecDepth 100000
set_option maxHeartbeats 4000000
set_option Elab.async false
set_option linter.all false
set_option maxRecDepth 100000
set_option maxHeartbeats 4000000
set_option Elab.async false
set_option linter.all false
set_option maxRecDepth 100000
set_option maxHeartbeats 4000000
set_option Elab.async false
set_option linter.all false
set_option maxRecDepth 100000
set_option maxHeartbeats 4000000
set_option Elab.async false
set_option linter.all false
set_option maxRecDepth 100000
set_option maxHeartbeats 2000000
namespace SR
open PySem PySem.Spec PyProof.Rows L2
/-- what the steps keep -/
structure I17 (K : PySem.W.Frag) (C : Addr) (H : Hp) (d g c : Addr) (b : Nat) {ks : List (Int × Int)} (p : Rws ks) (y F Z L6 : Addr) (M : List Int) : Prop where
  S : StB H d g c b
  row : RowAt K C H y p.1 ks
  f : H F = some (.dK (kvsOf p.1))
  z : H Z = some (.dK (kvsOf ks))
  l6 : H L6 = some (.lst (M.map V.int))
  e1 : L6 ≠ d
  e2 : L6 ≠ g
  pm : M.Perm ((trP p).map Prod.fst)
section
variable {K : PySem.W.Frag} {C B : Addr} {ks : List (Int × Int)} {N N2 N3 : L2.St → Hp → Prop} {R : VK} {H : Hp} {d g c y F Z L6 : Addr} {b : Nat} {m : Int} {p : Rws ks} {M : List Int}
theorem I17.same {H' : Hp} (s : Same H H') (J : I17 K C H d g c b p y F Z L6 M) : I17 K C H' d g c b p y F Z L6 M :=
  ⟨StB.same s J.S, J.row.same s, s _ _ J.f, s _ _ J.z, s _ _ J.l6, J.e1, J.e2, J.pm⟩
theorem I17.kp {H' : Hp} {b' : Nat} (k : Kp d g H H') (S : StB H' d g c b') (J : I17 K C H d g c b p y F Z L6 M) : I17 K C H' d g c b' p y F Z L6 M :=
  ⟨S, J.row.kp J.S k, kp_dict J.S k J.f, kp_dict J.S k J.z, k _ _ J.e1 J.e2 J.l6, J.e1, J.e2, J.pm⟩
end
end SR
set_option Elab.async false
set_option linter.all false
set_option maxRecDepth 100000
set_option maxHeartbeats 2000000
namespace SR
open PySem PySem.Spec PyProof.Rows L2
/-- the dict at W is none of the row's own -/
def Nz (C : Addr) (H : Hp) (W x : Addr) : Prop := ∃ dx c k d e, H x = some (.ins C dx (rowFs c k d e)) ∧ W ≠ d ∧ W ≠ e
theorem Nz.all {C W x : Addr} {H : Hp} (h : Nz C H W x) : ∀ dx c k d e, H x = some (.ins C dx (rowFs c k d e)) → W ≠ d ∧ W ≠ e := fun dx c k d e h1 => by
  obtain ⟨dx', c', k', d', e', h2, n1, n2⟩ := h
  rw [h1] at h2
  have z := Option.some.inj h2
  have fe : rowFs c k d e = rowFs c' k' d' e' := by
    injection z
  unfold rowFs at fe
  injection fe with _ fe
  injection fe with _ fe
  injection fe with f3 fe
  injection fe with f4 _
  have e3 : d = d' := V.ref.inj (congrArg Prod.snd f3)
  have e4 : e = e' := V.ref.inj (congrArg Prod.snd f4)
  subst e3 e4
  exact ⟨n1, n2⟩
theorem Nz.same {C W x : Addr} {H H' : Hp} (s : Same H H') (h : Nz C H W x) : Nz C H' W x := let ⟨dx, c, k, d, e, h1, n⟩ := h; ⟨dx, c, k, d, e, s _ _ h1, n⟩
theorem Nz.kp {C W x d g c : Addr} {b : Nat} {H H' : Hp} (S : StB H d g c b) (k : Kp d g H H') (h : Nz C H W x) : Nz C H' W x := let ⟨dx, c, k', d, e, h1, n⟩ := h; ⟨dx, c, k', d, e, kp_at S k h1 (fun _ z => nomatch z) (fun _ _ z => nomatch z), n⟩
theorem Nz.put {C W x : Addr} {H H' : Hp} {kvs : List (Key × V)} (hW : H W = some (.dK kvs)) (k : ∀ a o, a ≠ W → H a = some o → H' a = some o) (h : Nz C H W x) : Nz C H' W x := by
  obtain ⟨dx, c, k', d, e, h1, n⟩ := h
  exact ⟨dx, c, k', d, e, k _ _ (fun z => by rw [z, hW] at h1; cases h1) h1, n⟩
theorem Nz.new {K : PySem.W.Frag} {C W x : Addr} {H : Hp} {ps ks : List (Int × Int)} (row : RowAt K C H x ps ks) (hW : H W = none) : Nz C H W x := by
  obtain ⟨dx, c, k, d, e, _, _, h1, _, _, h6, h7, _⟩ := row
  exact ⟨dx, c, k, d, e, h1, (fun z => by rw [← z, hW] at h6; cases h6), fun z => by rw [← z, hW] at h7; cases h7⟩
/-- what all the steps keep -/
structure J78 (K : PySem.W.Frag) (C : Addr) (H : Hp) (d g c : Addr) (b : Nat) {ks : List (Int × Int)} (p : Rws ks) (y4 y5 W : Addr) (cs : List (Int × Int)) : Prop where
  S : StB H d g c b
  r4 : RowAt K C H y4 p.1 ks
  r5 : RowAt K C H y5 (mirP p).1 (mirror ks)
  w : H W = some (.dK (kvsOf cs))
  n1 : W ≠ d
  n2 : W ≠ g
  n3 : W ≠ c
  z4 : Nz C H W y4
  z5 : Nz C H W y5
section
variable {K : PySem.W.Frag} {C B : Addr} {ks : List (Int × Int)} {N N2 N3 : L2.St → Hp → Prop} {R : VK} {H : Hp} {d g c y4 y5 y6 y8 W : Addr} {b : Nat} {p q : Rws ks} {cs : List (Int × Int)}
theorem J78.same {H' : Hp} (s : Same H H') (J : J78 K C H d g c b p y4 y5 W cs) : J78 K C H' d g c b p y4 y5 W cs :=
  ⟨StB.same s J.S, J.r4.same s, J.r5.same s, s _ _ J.w, J.n1, J.n2, J.n3, J.z4.same s, J.z5.same s⟩
theorem J78.kp {H' : Hp} {b' : Nat} (k : Kp d g H H') (S : StB H' d g c b') (J : J78 K C H d g c b p y4 y5 W cs) : J78 K C H' d g c b' p y4 y5 W cs :=
  ⟨S, J.r4.kp J.S k, J.r5.kp J.S k, k _ _ J.n1 J.n2 J.w, J.n1, J.n2, J.n3, J.z4.kp J.S k, J.z5.kp J.S k⟩
end
end SR
set_option Elab.async false
set_option linter.all false
set_option maxRecDepth 100000
set_option maxHeartbeats 4000000
namespace SR
open PySem PySem.Spec PyProof.Rows L2
section
variable {K : PySem.W.Frag} {C : Addr} {N N2 N3 : L2.St → Hp → Prop} {R : VK} {H : Hp} {d g c : Addr} {b : Nat} {ks ns gs fs : List (Int × Int)} {p : Rws ks} {F Z W G U x : Addr} {L : List Int}
/-- what stands behind the law's own sweeps -/
structure J20 (K : PySem.W.Frag) (C : Addr) (H : Hp) (d g c : Addr) (b : Nat) {ks : List (Int × Int)} (p : Rws ks) (ns gs : List (Int × Int)) (L : List Int) (F Z W G U x : Addr) : Prop where
  S : StB H d g c b
  row : RowAt K C H x p.1 ks
  hF : H F = some (.dK (kvsOf p.1))
  hZ : H Z = some (.dK (kvsOf ks))
  hW : H W = some (.dK (kvsOf ns))
  hG : H G = some (.dK (kvsOf gs))
  hU : H U = some (.dK (kvsOf (allPk ns (trP p) L)))
  gp : gs.Perm (advP ns p).1
  pL : L.Perm (ns.map Prod.fst)
  wL : L.Pairwise (· ≤ ·)
  ok : NumsOk ns
  bd : ∀ q ∈ p.1, -1000 ≤ q.1 ∧ q.1 ≤ 1000
theorem J20.same {H' : Hp} (s : Same H H') (J : J20 K C H d g c b p ns gs L F Z W G U x) : J20 K C H' d g c b p ns gs L F Z W G U x :=
  ⟨StB.same s J.S, J.row.same s, s _ _ J.hF, s _ _ J.hZ, s _ _ J.hW, s _ _ J.hG, s _ _ J.hU, J.gp, J.pL, J.wL, J.ok, J.bd⟩
theorem J20.one (J : J20 K C H d g c b p ns gs L F Z W G U x) : ∀ t ∈ ns, 1 ≤ t.1 ∧ t.1 ≤ 99 := fun t m => ⟨(J.ok.2.2 t m).1, (J.ok.2.2 t m).2.1⟩
end
end SR
set_option Elab.async false
set_option linter.all false
set_option maxRecDepth 100000
set_option maxHeartbeats 4000000
namespace SR
open PySem PySem.Spec PyProof.Rows L2
theorem ones_vd {L : List Int} (asc : L.Pairwise (· < ·)) (l : L.length ≤ 40) : Vd (ones L) [] := ⟨ones_ok asc l, ones_asc asc, .nil⟩
theorem trP_ones {L : List Int} (v : Vd (ones L) []) : trP (⟨ones L, v⟩ : Rws []) = trL L := by
  show trL ((plainF [] (ones L)).map Prod.fst) = trL L
  have e : plainF [] (ones L) = ones L := rfl
  rw [e, ones_fst]
end SR
set_option Elab.async false
set_option linter.all false
set_option maxRecDepth 100000
set_option maxHeartbeats 1000000
set_option Elab.async false
set_option linter.all false
set_option maxRecDepth 100000
set_option maxHeartbeats 4000000
namespace SR
open PySem PySem.Spec PyProof.Rows L2
theorem paired_take {α β : Type} {F : α → β → Prop} {us : List α} {ps : List β} (h : Paired F us ps) : ∀ n : Nat, Paired F (us.take n) (ps.take n) := by
  induction h with
  | nil =>
    intro n
    rw [List.take_nil, List.take_nil]
    exact .nil
  | cons f _ ih =>
    intro n
    cases n with
    | zero => exact .nil
    | succ n => exact .cons f (ih n)
end SR
set_option Elab.async false
set_option linter.all false
set_option maxRecDepth 100000
set_option maxHeartbeats 2000000
namespace SR
open PySem PySem.Spec PyProof.Rows L2
theorem PairsL.kp {H H' : Hp} {d g c D : Addr} {b : Nat} {ps : List (Int × Int)} (h : PairsL H D ps) (S : StB H d g c b) (k : Kp d g H H') (n1 : D ≠ d) (n2 : D ≠ g) : PairsL H' D ps := by
  obtain ⟨us, h1, h2⟩ := h
  exact ⟨us, k _ _ n1 n2 h1, paired_imp (fun t p z => kp_at (o := .tup [.int p.1, .int p.2]) S k z (fun _ z => nomatch z) fun _ _ z => nomatch z) h2⟩
end SR
set_option Elab.async false
set_option linter.all false
set_option maxRecDepth 100000
set_option maxHeartbeats 4000000
set_option Elab.async false
set_option linter.all false
set_option maxRecDepth 100000
set_option maxHeartbeats 4000000
namespace SR
open PySem PySem.Spec PyProof.Rows L2
section
variable {K : PySem.W.Frag} {C : Addr} {H : Hp} {N N2 N3 : L2.St → Hp → Prop} {R : VK} {d g c : Addr} {b : Nat}
/-- a drawn list of trains -/
structure Tn15 (H : Hp) (d g c : Addr) (b : Nat) (F : Addr) (ts : List (Int × Int)) (room : Int) : Prop where
  S : StB H d g c b
  f1 : F ≠ d
  f2 : F ≠ g
  f3 : F ≠ c
  hF : PairsL H F ts
  pos : ∀ t ∈ ts, 1 ≤ t.1
  sum : (ts.map Prod.fst).sum + room ≤ 40
  r0 : 0 ≤ room
  bd : ∀ t ∈ ts, -(10 ^ 30) ≤ t.2 ∧ t.2 ≤ 10 ^ 30
theorem len_sum1 : ∀ l : List (Int × Int), (∀ r ∈ l, 1 ≤ r.1) → (l.length : Int) ≤ (l.map Prod.fst).sum
  | [], _ => Int.le_refl _
  | r :: l, h => by
    have := len_sum1 l fun q m => h q (List.mem_cons_of_mem _ m)
    have := h r List.mem_cons_self
    rw [List.length_cons, List.map_cons, List.sum_cons]
    omega
theorem Tn15.len {F : Addr} {ts : List (Int × Int)} {room : Int} (T : Tn15 H d g c b F ts room) : ts.length ≤ 40 := by
  have := len_sum1 ts T.pos
  have := T.sum
  have := T.r0
  omega
theorem Tn15.kp {H' : Hp} {b' : Nat} {F : Addr} {ts : List (Int × Int)} {room : Int} (T : Tn15 H d g c b F ts room) (S' : StB H' d g c b') (k : Kp d g H H') : Tn15 H' d g c b' F ts room := ⟨S', T.f1, T.f2, T.f3, PairsL.kp T.hF T.S k T.f1 T.f2, T.pos, T.sum, T.r0, T.bd⟩
/-- one train more -/
theorem Tn15.app {F t : Addr} {ts : List (Int × Int)} {room s o : Int} (T : Tn15 H d g c b F ts room) (ht : H t = none) (s1 : 1 ≤ s) (s2 : s ≤ room) (ob : -(10 ^ 30) ≤ o ∧ o ≤ 10 ^ 30) :
    ∃ us : List Addr, (upd H t (.tup [.int s, .int o])) F = some (.lst (us.map V.ref)) ∧ us.length < 1000 ∧ Tn15 (upd (upd H t (.tup [.int s, .int o])) F (.lst (us.map V.ref ++ [.ref t]))) d g c b F (ts ++ [(s, o)]) (room - s) := by
  have tl := T.len
  obtain ⟨us, F0, pr⟩ := T.hF
  have s2' := same_new (o := .tup [.int s, .int o]) ht
  have T2 : TupAt (upd H t (.tup [.int s, .int o])) t (s, o) := upd_same
  have S2 := T.S.new (o := .tup [.int s, .int o]) ht
  generalize upd H t (.tup [.int s, .int o]) = H2 at s2' T2 S2 ⊢
  have D2 := s2' _ _ F0
  have ul := paired_len pr
  have keep : ∀ {b : Addr} {z : Int × Int}, TupAt H2 b z → TupAt (upd H2 F (.lst (us.map V.ref ++ [.ref t]))) b z := fun {b z} w => (upd_ne (ne_of w D2 (by intro e; cases e))).trans w
  refine ⟨us, D2, by omega, S2.upd T.f1 T.f2 T.f3, T.f1, T.f2, T.f3, ⟨us ++ [t], by rw [upd_same, List.map_append]; rfl, paired_snoc (keep T2) (paired_imp (fun _ _ z => keep (s2' _ _ z)) pr)⟩, fun r m => ?_, ?_, by omega, fun r m => ?_⟩
  · rcases List.mem_append.mp m with m | m
    · exact T.pos r m
    · rw [List.mem_singleton.mp m]
      exact s1
  · rw [List.map_append, List.sum_append]
    have := T.sum
    show _ + (s + 0) + (room - s) ≤ 40
    omega
  · rcases List.mem_append.mp m with m | m
    · exact T.bd r m
    · rw [List.mem_singleton.mp m]
      exact ob
def spCrowd15 (K : PySem.W.Frag) : Sp := fun vs H Q _ => ∃ (d g c : Addr) (b : Nat), vs = [.ref d] ∧ StB H d g c (b + 90) ∧
  ∀ F H' ts, Tn15 H' d g c b F ts 0 → ts ≠ [] → Kp d g H H' → Q (.ref F) H'
def t_crIn15 (K : PySem.W.Frag) : TS := (tSeq (tAsg (tCB qMin2 (tCons (tVar 2) (tCons (tCall (spPick K) [] E0 (tCons (tVar 0) (tCons (tLst (tCons (tC (.int 1)) (tCons (tC (.int 1)) (tCons (tC (.int 1)) (tCons (tC (.int 2)) (tNil)))))) (tNil)))) (tNil)))) (gName 3))
  (tSeq (tDrop (tBM K "list" rAppend (tVar 1) (tCons (tTup (tCons (tVar 3) (tCons (tOp qSub (tCall spTake [] E0 (tCons (tVar 0) (tCons (tC (.int 40)) (tNil)))) (tC (.int 9))) (tNil)))) (tNil))))
  (tAsg (tOp qSub (tVar 2) (tVar 3)) (gName 2))))
def t_crowd15 (K : PySem.W.Frag) : TS := tSeq (tPar 1 2 (tCons (tLst (tNil)) (tCons (tOp qAdd (tC (.int 10)) (tCall spTake [] E0 (tCons (tVar 0) (tCons (tC (.int 31)) (tNil))))) (tNil))))
  (tSeq (tWhile (tTest (tOp qGt (tVar 2) (tC (.int 0))))
  (t_crIn15 K))
  (tRet (tVar 1)))
theorem crIn15 {F : Addr} {x3 : Option V} {ts : List (Int × Int)} {room : Int} (T : Tn15 H d g c (b + 2) F ts room) (r1 : 1 ≤ room)
    (hN : ∀ s H' qs, 1 ≤ s → s ≤ room → qs ≠ [] → Tn15 H' d g c b F qs (room - s) → (∀ x o, x ≠ F → x ≠ d → x ≠ g → H x = some o → H' x = some o) → N [some (.ref d), some (.ref F), some (.int (room - s)), some (.int s)] H') :
    t_crIn15 K { nx := N, rt := R, bk := N2, ct := N3 } [some (.ref d), some (.ref F), some (.int room), x3] H := by
  refine ⟨_, rfl, _, rfl, sz (by show 4 ≤ 1000; decide), fun l hl => ?_⟩
  obtain ⟨l1, l2, l3⟩ := T.S.off hl
  refine ⟨d, g, c, b + 1, l, _, rfl, T.S.new hl, SqL.of upd_same, l1, l2, by show 0 < 4; decide, by show 4 < 1000; decide, fun v H1 hv S1 k1 => ?_⟩
  have k01 : Kp d g H H1 := Kp.of (same_new hl) k1
  obtain ⟨s0, rfl, s1, s2⟩ : ∃ s : Int, v = .int s ∧ 1 ≤ s ∧ s ≤ 2 := by
    simp only [List.mem_cons, List.not_mem_nil, or_false] at hv
    rcases hv with rfl | rfl | rfl | rfl <;> exact ⟨_, rfl, by decide, by decide⟩
  clear hv
  refine ⟨_, _, rfl, ?_⟩
  have hs : 1 ≤ (if s0 < room then s0 else room) ∧ (if s0 < room then s0 else room) ≤ room := by split <;> omega
  generalize (if s0 < room then s0 else room) = s at hs ⊢
  have T1 := T.kp S1 k01
  obtain ⟨us, F1, pr⟩ := T1.hF
  refine ⟨_, rfl, .inl ⟨rfl, _, SqL.of F1⟩, _, rfl, _, rfl, d, g, c, b, 40, rfl, S1, by decide, by decide, fun u H2 u0 u1 S2 k2 => ⟨_, _, rfl, rfl, sz (by show 2 ≤ 1000; decide), fun t ht => ?_⟩⟩
  have T2 := T1.kp S2 k2
  have k02 := k01.trans k2
  obtain ⟨ws, D2, wl, T3⟩ := T2.app (o := u - 9) ht hs.1 hs.2 (by omega)
  refine ⟨F, _, _, rfl, rfl, D2, ?_, ?_⟩
  · rw [List.length_map]
    exact Nat.lt_of_lt_of_le wl (by decide)
  refine ⟨_, rfl, _, rfl, _, _, rfl, rfl, hN s _ _ hs.1 hs.2 (by simp) T3 fun x o z1 z2 z3 h => ?_⟩
  exact (upd_ne z1).trans (same_new ht _ _ (k02 _ _ z2 z3 h))
@[irreducible] def xCrIn15 := @t_crIn15
theorem xCrIn15_eq : @xCrIn15 = @t_crIn15 := by
  unfold xCrIn15
  rfl
theorem pure_crowd15 (vs : List V) (H : Hp) (Q : VK) (E : XK) (h : spCrowd15 K vs H Q E) : t_crowd15 K { nx := fun _ H' => Q .non H', rt := Q } (start ["state", "found", "room", "size"] vs) H := by
  obtain ⟨d, g, c, b, rfl, S, q⟩ := h
  unfold t_crowd15
  rw [← xCrIn15_eq]
  refine ⟨sz (Nat.zero_le _), fun F hF => ?_⟩
  obtain ⟨f1, f2, f3⟩ := S.off hF
  have S1 := S.new (o := .lst []) hF
  have e1 := same_new (o := .lst []) hF
  have F1 : PairsL (upd H F (.lst [])) F [] := ⟨[], upd_same, .nil⟩
  generalize upd H F (.lst []) = H1 at S1 e1 F1 ⊢
  refine ⟨_, rfl, d, g, c, b + 89, 31, rfl, S1, by decide, by decide, fun u H2 u0 u1 S2 k2 => ⟨_, _, rfl, rfl, _, _, rfl, ?_⟩⟩
  have k02 : ∀ x o, x ≠ d → x ≠ g → H x = some o → H2 x = some o := fun x o z2 z3 h => k2 _ _ z2 z3 (e1 _ _ h)
  have T2 : Tn15 H2 d g c (b + 89) F [] (10 + u) := ⟨S2, f1, f2, f3, PairsL.kp F1 S1 k2 f1 f2, fun _ m => (nomatch m), by show 0 + (10 + u) ≤ 40; omega, by omega, fun _ m => (nomatch m)⟩
  refine ⟨fun m σ H3 => ∃ (ts : List (Int × Int)) (room : Int) (x3 : Option V), m = room.toNat ∧ room ≤ 40 ∧ (room ≤ 39 → 10 ≤ room ∨ ts ≠ []) ∧ Tn15 H3 d g c (b + 2 * room.toNat) F ts room ∧ (∀ x o, x ≠ F → x ≠ d → x ≠ g → H x = some o → H3 x = some o) ∧ σ = [some (.ref d), some (.ref F), some (.int room), x3],
    ⟨(10 + u).toNat, [], 10 + u, none, rfl, by omega, fun _ => .inl (by omega), ⟨T2.S.mono (by omega), T2.f1, T2.f2, T2.f3, T2.hF, T2.pos, T2.sum, T2.r0, T2.bd⟩, fun x o _ z2 z3 h => k02 _ _ z2 z3 h, rfl⟩, ?_⟩
  rintro m σ H3 ⟨ts, room, x3, rfl, r40, ne, T3, k3, rfl⟩
  refine ⟨_, rfl, _, _, rfl, rfl, _, rfl, ?_⟩
  have r0 := T3.r0
  by_cases c1 : room > 0
  · rw [decide_eq_true c1]
    refine iteT ⟨_, fun σ' H' z => z, ?_⟩
    have T3' : Tn15 H3 d g c ((b + 2 * (room.toNat - 1)) + 2) F ts room := ⟨T3.S.mono (by omega), T3.f1, T3.f2, T3.f3, T3.hF, T3.pos, T3.sum, T3.r0, T3.bd⟩
    show xCrIn15 K _ [some (.ref d), some (.ref F), some (.int room), x3] H3
    rw [xCrIn15_eq]
    exact crIn15 T3' (by omega) fun s H' qs s1 s2 qn T' k' => ⟨(room - s).toNat, by omega, qs, room - s, _, rfl, by omega, fun _ => .inr qn, ⟨T'.S.mono (by omega), T'.f1, T'.f2, T'.f3, T'.hF, T'.pos, T'.sum, T'.r0, T'.bd⟩, fun x o z1 z2 z3 h => k' _ _ z1 z2 z3 (k3 _ _ z1 z2 z3 h), rfl⟩
  · rw [decide_eq_false c1]
    have e : room = 0 := by omega
    subst e
    refine iteF ⟨_, rfl, q F H3 ts ⟨T3.S.mono (by omega), T3.f1, T3.f2, T3.f3, T3.hF, T3.pos, T3.sum, T3.r0, T3.bd⟩ ((ne (by omega)).resolve_left (by omega)) fun x o z2 z3 h => k3 _ _ (ne_of_none h hF) z2 z3 h⟩
end
end SR
set_option Elab.async false
set_option linter.all false
set_option maxRecDepth 100000
set_option maxHeartbeats 4000000
namespace SR
open PySem PySem.Spec PyProof.Rows L2
section
variable {K : PySem.W.Frag} {C : Addr} {H : Hp} {N N2 N3 : L2.St → Hp → Prop} {R : VK} {d g c : Addr} {b : Nat}
def spList15 (K : PySem.W.Frag) : Sp := fun vs H Q _ => ∃ (d g c : Addr) (b : Nat), vs = [.ref d] ∧ StB H d g c (b + 30) ∧
  ∀ F H' ts room, Tn15 H' d g c b F ts room → ts.length ≤ 8 → (ts.map Prod.fst).sum ≤ 40 → Kp d g H H' → Q (.ref F) H'
def t_liSize15 (K : PySem.W.Frag) : TS := (tAsg (tCB qMin2 (tCons (tVar 3) (tCons (tCall (spPick K) [] E0 (tCons (tVar 0) (tCons (tLst (tCons (tC (.int 1)) (tCons (tC (.int 1)) (tCons (tC (.int 2)) (tCons (tC (.int 3)) (tCons (tC (.int 4)) (tCons (tC (.int 7)) (tCons (tC (.int 12)) (tCons (tC (.int 40)) (tNil)))))))))) (tNil)))) (tNil)))) (gName 5))
def t_liMore15 (K : PySem.W.Frag) : TS := (tAsg (tCall (spPick K) [] E0 (tCons (tVar 0) (tCons (tLst (tCons (tC (.int 0)) (tCons (tC (.int 0)) (tCons (tC (.int 1)) (tCons (tC (.int 2)) (tCons (tC (.int 5)) (tCons (tUn (rU fun i => .int (-i)) (tC (.int 3))) (tCons (tCall spTake [] E0 (tCons (tVar 0) (tCons (tC (.int 30)) (tNil)))) (tCons (tOp qPow (tC (.int 10)) (tC (.int 28))) (tNil)))))))))) (tNil)))) (gName 6))
def t_liIf15 (K : PySem.W.Frag) : TS := (tIfS (tTest (tOp qGt (tVar 5) (tC (.int 0))))
  (tSeq (tDrop (tBM K "list" rAppend (tVar 2) (tCons (tTup (tCons (tVar 5) (tCons (tOp qAdd (tVar 1) (tVar 6)) (tNil)))) (tNil))))
  (tAsg (tOp qSub (tVar 3) (tVar 5)) (gName 3)))
  (tNext))
def t_list15 (K : PySem.W.Frag) : TS := tSeq (tPar3 1 2 3 (tCons (tCall (spPick K) [] E0 (tCons (tVar 0) (tCons (tLst (tCons (tC (.int 0)) (tCons (tC (.int 0)) (tCons (tUn (rU fun i => .int (-i)) (tC (.int 5))) (tCons (tOp qPow (tC (.int 10)) (tC (.int 29))) (tNil)))))) (tNil)))) (tCons (tLst (tNil)) (tCons (tCall (spPick K) [] E0 (tCons (tVar 0) (tCons (tLst (tCons (tC (.int 8)) (tCons (tC (.int 16)) (tCons (tC (.int 40)) (tNil))))) (tNil)))) (tNil)))))
  (tSeq (tFor (iRng1 (tCons (tCall spTake [] E0 (tCons (tVar 0) (tCons (tC (.int 9)) (tNil)))) (tNil))) (gName 4)
  (tSeq (t_liSize15 K)
  (tSeq (t_liMore15 K)
  (t_liIf15 K))))
  (tRet (tVar 2)))
theorem liSize15 {x1 x2 x4 x5 x6 : Option V} {room : Int} (S : StB H d g c (b + 1)) (r0 : 0 ≤ room)
    (hN : ∀ s H', 0 ≤ s → s ≤ room → StB H' d g c b → Kp d g H H' → N [some (.ref d), x1, x2, some (.int room), x4, some (.int s), x6] H') :
    t_liSize15 K { nx := N, rt := R, bk := N2, ct := N3 } [some (.ref d), x1, x2, some (.int room), x4, x5, x6] H := by
  refine ⟨_, rfl, _, rfl, sz (by show 8 ≤ 1000; decide), fun l hl => ?_⟩
  obtain ⟨l1, l2, l3⟩ := S.off hl
  refine ⟨d, g, c, b, l, _, rfl, S.new hl, SqL.of upd_same, l1, l2, by show 0 < 8; decide, by show 8 < 1000; decide, fun v H1 hv S1 k1 => ?_⟩
  obtain ⟨s0, rfl, s1⟩ : ∃ s : Int, v = .int s ∧ 1 ≤ s := by
    simp only [List.mem_cons, List.not_mem_nil, or_false] at hv
    rcases hv with rfl | rfl | rfl | rfl | rfl | rfl | rfl | rfl <;> exact ⟨_, rfl, by decide⟩
  clear hv
  refine ⟨_, _, rfl, ?_⟩
  have hs : 0 ≤ (if s0 < room then s0 else room) ∧ (if s0 < room then s0 else room) ≤ room := by split <;> omega
  exact hN _ H1 hs.1 hs.2 S1 (Kp.of (same_new hl) k1)
theorem liMore15 {x1 x2 x3 x4 x5 x6 : Option V} (S : StB H d g c (b + 2))
    (hN : ∀ o H', -30 ≤ o → o ≤ 10 ^ 28 → StB H' d g c b → Kp d g H H' → N [some (.ref d), x1, x2, x3, x4, x5, some (.int o)] H') :
    t_liMore15 K { nx := N, rt := R, bk := N2, ct := N3 } [some (.ref d), x1, x2, x3, x4, x5, x6] H := by
  refine ⟨_, rfl, 3, rfl, _, rfl, d, g, c, b + 1, 30, rfl, S, by decide, by decide, fun u H1 u0 u1 S1 k1 => ⟨10, 28, rfl, rfl, ⟨by decide, by decide, by decide⟩, sz (by show 8 ≤ 1000; decide), fun l hl => ?_⟩⟩
  obtain ⟨l1, l2, l3⟩ := S1.off hl
  refine ⟨d, g, c, b, l, _, rfl, S1.new hl, SqL.of upd_same, l1, l2, by show 0 < 8; decide, by show 8 < 1000; decide, fun v H2 hv S2 k2 => ?_⟩
  have k02 : Kp d g H H2 := k1.trans (Kp.of (same_new hl) k2)
  obtain ⟨o, rfl, o0, o1⟩ : ∃ o : Int, v = .int o ∧ -30 ≤ o ∧ o ≤ 10 ^ 28 := by
    simp only [List.mem_cons, List.not_mem_nil, or_false] at hv
    rcases hv with rfl | rfl | rfl | rfl | rfl | rfl | rfl | rfl
    · exact ⟨_, rfl, by decide, by decide⟩
    · exact ⟨_, rfl, by decide, by decide⟩
    · exact ⟨_, rfl, by decide, by decide⟩
    · exact ⟨_, rfl, by decide, by decide⟩
    · exact ⟨_, rfl, by decide, by decide⟩
    · exact ⟨_, rfl, by decide, by decide⟩
    · exact ⟨_, rfl, by omega, by omega⟩
    · exact ⟨_, rfl, by decide, by decide⟩
  exact hN o H2 o0 o1 S2 k02
theorem liIf15 {x0 x4 : Option V} {F : Addr} {ts : List (Int × Int)} {room base s o : Int} (T : Tn15 H d g c b F ts room) (s0 : 0 ≤ s) (sr : s ≤ room) (ob : -(10 ^ 30) ≤ base + o ∧ base + o ≤ 10 ^ 30)
    (hN : ∀ H' qs r, Tn15 H' d g c b F qs r → qs.length ≤ ts.length + 1 → (qs.map Prod.fst).sum + r = (ts.map Prod.fst).sum + room → (∀ x o, x ≠ F → x ≠ d → x ≠ g → H x = some o → H' x = some o) → N [x0, some (.int base), some (.ref F), some (.int r), x4, some (.int s), some (.int o)] H') :
    t_liIf15 K { nx := N, rt := R, bk := N2, ct := N3 } [x0, some (.int base), some (.ref F), some (.int room), x4, some (.int s), some (.int o)] H := by
  refine ⟨_, rfl, _, _, rfl, rfl, _, rfl, ?_⟩
  by_cases c1 : s > 0
  · rw [decide_eq_true c1]
    obtain ⟨us, F1, pr⟩ := T.hF
    refine iteT ⟨_, rfl, .inl ⟨rfl, _, SqL.of F1⟩, _, rfl, _, rfl, _, rfl, _, _, rfl, rfl, sz (by show 2 ≤ 1000; decide), fun t ht => ?_⟩
    obtain ⟨ws, D2, wl, T3⟩ := T.app (o := base + o) ht (by omega) sr ob
    refine ⟨F, _, _, rfl, rfl, D2, ?_, ?_⟩
    · rw [List.length_map]
      exact Nat.lt_of_lt_of_le wl (by decide)
    refine ⟨_, rfl, _, rfl, _, _, rfl, rfl, hN _ _ _ T3 (by rw [List.length_append]; exact Nat.le_refl _) ?_ fun x o z1 z2 z3 h => (upd_ne z1).trans (same_new ht _ _ h)⟩
    rw [List.map_append, List.sum_append]
    show _ + (s + 0) + (room - s) = _
    omega
  · rw [decide_eq_false c1]
    exact iteF (hN H ts room T (Nat.le_succ _) rfl fun _ _ _ _ _ h => h)
@[irreducible] def xLiSize15 := @t_liSize15
theorem xLiSize15_eq : @xLiSize15 = @t_liSize15 := by
  unfold xLiSize15
  rfl
@[irreducible] def xLiMore15 := @t_liMore15
theorem xLiMore15_eq : @xLiMore15 = @t_liMore15 := by
  unfold xLiMore15
  rfl
@[irreducible] def xLiIf15 := @t_liIf15
theorem xLiIf15_eq : @xLiIf15 = @t_liIf15 := by
  unfold xLiIf15
  rfl
theorem pure_list15 (vs : List V) (H : Hp) (Q : VK) (E : XK) (h : spList15 K vs H Q E) : t_list15 K { nx := fun _ H' => Q .non H', rt := Q } (start ["state", "base", "found", "room", "turn", "size", "more"] vs) H := by
  obtain ⟨d, g, c, b, rfl, S, q⟩ := h
  unfold t_list15
  rw [← xLiSize15_eq, ← xLiMore15_eq, ← xLiIf15_eq]
  refine ⟨_, rfl, 5, rfl, 10, 29, rfl, rfl, ⟨by decide, by decide, by decide⟩, sz (by show 4 ≤ 1000; decide), fun l hl => ?_⟩
  obtain ⟨l1, l2, l3⟩ := S.off hl
  have e0 := same_new (o := .lst [.int 0, .int 0, .int (-5), .int (10 ^ (29 : Int).toNat)]) hl
  refine ⟨d, g, c, b + 29, l, _, rfl, S.new hl, SqL.of upd_same, l1, l2, by show 0 < 4; decide, by show 4 < 1000; decide, fun v H1 hv S1 k1 => ?_⟩
  have k01 : Kp d g H H1 := Kp.of e0 k1
  obtain ⟨p, rfl, p0, p1⟩ : ∃ p : Int, v = .int p ∧ -5 ≤ p ∧ p ≤ 10 ^ 29 := by
    simp only [List.mem_cons, List.not_mem_nil, or_false] at hv
    rcases hv with rfl | rfl | rfl | rfl <;> exact ⟨_, rfl, by decide, by decide⟩
  clear hv
  refine ⟨sz (Nat.zero_le _), fun F hF => ?_⟩
  obtain ⟨f1, f2, f3⟩ := S1.off hF
  have hF0 : H F = none := by
    cases e : H F with
    | none => rfl
    | some o => exact absurd (k01 _ _ f1 f2 e) (by rw [hF]; intro z; cases z)
  have S2 := S1.new (o := .lst []) hF
  have e2 := same_new (o := .lst []) hF
  have F2 : PairsL (upd H1 F (.lst [])) F [] := ⟨[], upd_same, .nil⟩
  generalize upd H1 F (.lst []) = H2 at S2 e2 F2 ⊢
  refine ⟨_, rfl, sz (by show 3 ≤ 1000; decide), fun l' hl' => ?_⟩
  obtain ⟨r1, r2, r3⟩ := S2.off hl'
  refine ⟨d, g, c, b + 28, l', _, rfl, S2.new hl', SqL.of upd_same, r1, r2, by show 0 < 3; decide, by show 3 < 1000; decide, fun v H3 hv S3 k3 => ?_⟩
  have k23 : Kp d g H2 H3 := Kp.of (same_new hl') k3
  obtain ⟨room, rfl, m0, m1⟩ : ∃ p : Int, v = .int p ∧ 8 ≤ p ∧ p ≤ 40 := by
    simp only [List.mem_cons, List.not_mem_nil, or_false] at hv
    rcases hv with rfl | rfl | rfl <;> exact ⟨_, rfl, by decide, by decide⟩
  clear hv
  refine ⟨_, _, _, rfl, ?_⟩
  refine ⟨_, rfl, d, g, c, b + 27, 9, rfl, S3, by decide, by decide, fun u H4 u0 u1 S4 k4 => ⟨_, rfl, by omega, by omega, ?_⟩⟩
  have k24 := k23.trans k4
  have n8 : u.toNat ≤ 8 := by omega
  generalize u.toNat = n at n8
  have T4 : Tn15 H4 d g c (b + 27) F [] room := ⟨S4, f1, f2, f3, PairsL.kp F2 S2 k24 f1 f2, fun _ m => (nomatch m), by show 0 + room ≤ 40; omega, by omega, fun _ m => (nomatch m)⟩
  refine for_range (lo := 0) (n := n) (fun i σ H5 => ∃ ts r w4 w5 w6, Tn15 H5 d g c (b + (27 - 3 * i)) F ts r ∧ ts.length ≤ i ∧ (ts.map Prod.fst).sum + r = room ∧ (∀ x o, x ≠ F → x ≠ d → x ≠ g → H x = some o → H5 x = some o) ∧ σ = [some (.ref d), some (.int p), some (.ref F), some (.int r), w4, w5, w6])
    ⟨[], room, none, none, none, T4, Nat.le_refl _, by show 0 + room = room; omega, fun x o z1 z2 z3 h => k24 _ _ z2 z3 (e2 _ _ (k01 _ _ z2 z3 h)), rfl⟩ ?_ ?_
  · rintro i σ H5 hi ⟨ts, r, w4, w5, w6, T5, tl, sm, k5, rfl⟩
    have e : b + (27 - 3 * i) = ((b + (27 - 3 * (i + 1))) + 2) + 1 := by omega
    have S5 := T5.S
    rw [e] at S5
    show xLiSize15 K _ [some (.ref d), some (.int p), some (.ref F), some (.int r), some (.int (0 + i)), w5, w6] H5
    rw [xLiSize15_eq]
    refine liSize15 S5 T5.r0 fun s H6 s0 s1 S6 k6 => ?_
    show xLiMore15 K _ [some (.ref d), some (.int p), some (.ref F), some (.int r), some (.int (0 + i)), some (.int s), w6] H6
    rw [xLiMore15_eq]
    refine liMore15 S6 fun o H7 o0 o1 S7 k7 => ?_
    have T7 := T5.kp S7 (k6.trans k7)
    show xLiIf15 K _ [some (.ref d), some (.int p), some (.ref F), some (.int r), some (.int (0 + i)), some (.int s), some (.int o)] H7
    rw [xLiIf15_eq]
    refine liIf15 T7 s0 s1 (by omega) fun H8 qs r' T8 ql qe k8 => ⟨qs, r', _, _, _, T8, by omega, by omega, fun x o z1 z2 z3 h => k8 _ _ z1 z2 z3 (k7 _ _ z2 z3 (k6 _ _ z2 z3 (k5 _ _ z1 z2 z3 h))), rfl⟩
  · rintro σ H5 ⟨ts, r, w4, w5, w6, T5, tl, sm, k5, rfl⟩
    have r0 := T5.r0
    exact ⟨_, rfl, q F H5 ts r ⟨T5.S.mono (by omega), T5.f1, T5.f2, T5.f3, T5.hF, T5.pos, T5.sum, T5.r0, T5.bd⟩ (by omega) (by omega) fun x o z2 z3 h => k5 _ _ (ne_of_none h hF0) z2 z3 h⟩
end
end SR
set_option Elab.async false
set_option linter.all false
set_option maxRecDepth 100000
set_option maxHeartbeats 4000000
namespace SR
open PySem PySem.Spec PyProof.Rows L2
/-- a list or a tuple of anything (its items as Val2 knows them), or another value -/
inductive Tv15 (K : PySem.W.Frag) (H : Hp) : V → Option (List (Option (List V))) → Prop where
  | oth {v : V} {t : String} (h : AnyT K H v t) (h1 : (t == "list") = false) (h2 : (t == "tuple") = false) : Tv15 K H v none
  | sq {a : Addr} {xs : List V} {os : List (Option (List V))} (h : SqL K H a xs ∨ SqT K H a xs) (hx : Paired (Val2 K H) xs os) (l : os.length ≤ 100) : Tv15 K H (.ref a) (some os)
theorem Tv15.same {K : PySem.W.Frag} {H H' : Hp} {v : V} {o : Option (List (Option (List V)))} (s : Same H H') (h : Tv15 K H v o) : Tv15 K H' v o := by
  cases h with
  | oth h h1 h2 => exact .oth (h.same s) h1 h2
  | sq h hx l => exact .sq (h.imp (SqL.same s) (SqT.same s)) (paired_imp (fun _ _ z => z.same s) hx) l
def lenO : Option (List V) → Int
  | some (.int i :: _) => i
  | _ => 0
def okT : Option (List (Option (List V))) → Bool
  | none => false
  | some os => os.all pairO && (os.all fun o => decide (lenO o ≥ 1)) && decide ((os.map lenO).sum ≤ 40)
theorem val2_rel {K : PySem.W.Frag} {H : Hp} {xs : List V} {os : List (Option (List V))} (h : Paired (Val2 K H) xs os) : ∀ (i : Nat) (x : V), xs[i]? = some x → ∃ o, os[i]? = some o ∧ Val2 K H x o := fun i x e => by
  obtain ⟨o, h1, h2⟩ := paired_at h e
  exact ⟨o, h1, h2⟩
theorem pairO_two {o : Option (List V)} (h : pairO o = true) : ∃ i j : Int, o = some [.int i, .int j] := by
  match o, h with
  | some [x, y], h =>
    have h : (isI x && isI y) = true := h
    rw [Bool.and_eq_true] at h
    obtain ⟨i, rfl⟩ : ∃ i, x = .int i := by
      have := h.1
      cases x <;> first | exact ⟨_, rfl⟩ | cases this
    obtain ⟨j, rfl⟩ : ∃ j, y = .int j := by
      have := h.2
      cases y <;> first | exact ⟨_, rfl⟩ | cases this
    exact ⟨i, j, rfl⟩
theorem two_at {K : PySem.W.Frag} {H : Hp} {x : V} {i j : Int} (h : Val2 K H x (some [.int i, .int j])) : ∃ t, x = .ref t ∧ SqT K H t [.int i, .int j] := by
  cases h with
  | tup h _ => exact ⟨_, rfl, h⟩
section
variable {K : PySem.W.Frag} {H : Hp}
def spAreTrX (K : PySem.W.Frag) : Sp := fun vs H Q _ => ∃ (v : V) (o : Option (List (Option (List V)))), vs = [v] ∧ Tv15 K H v o ∧ ∀ H', Same H H' → Q (.bl (okT o)) H'
theorem pure_are_trainsX (vs : List V) (H : Hp) (Q : VK) (E : XK) (h : spAreTrX K vs H Q E) : t_are_trains K { nx := fun _ H' => Q .non H', rt := Q } (start ["value", "part", "length", "_"] vs) H := by
  obtain ⟨v, o, rfl, tv, q⟩ := h
  refine seq_go ⟨_, rfl, sz (by show 2 ≤ 1000; decide), fun T hT => ?_⟩
  have s1 := same_new (o := .tup [.ty "list", .ty "tuple"]) hT
  have tv1 := tv.same s1
  have T1 : upd H T (.tup [.ty "list", .ty "tuple"]) T = some (.tup [.ty "list", .ty "tuple"]) := upd_same
  generalize upd H T (.tup [.ty "list", .ty "tuple"]) = H1 at s1 tv1 T1 ⊢
  cases tv1 with
  | oth any n1 n2 => exact ⟨_, T, _, _, [.type "list", .type "tuple"], false, rfl, T1, .cons (.ty _) (.cons (.ty _) .nil), any.ty, kit_no any n1 n2, _, rfl, iteT (q H1 s1)⟩
  | @sq a xs os hs hx l =>
    obtain ⟨ty, any, hty⟩ : ∃ ty, AnyT K H1 (.ref a) ty ∧ (ty = "list" ∨ ty = "tuple") := hs.elim (fun z => ⟨_, .lst z, .inl rfl⟩) fun z => ⟨_, .tup z, .inr rfl⟩
    refine ⟨_, T, _, _, [.type "list", .type "tuple"], true, rfl, T1, .cons (.ty _) (.cons (.ty _) .nil), any.ty, kit_seq any hty, _, rfl, iteF ?_⟩
    have xl := paired_len hx
    refine seq_go (ifs_go (not_go (tb_go (cb_go (cons1_go (lcO (G := Val2 K) (ys := os) (fun _ => true) (fun o => V.bl (pairO o)) (fun R r => ⟨_, rfl, r⟩) hs (val2_rel hx) xl (by omega) (fun _ _ _ s z => z.same s) ?_ fun D H2 hD s2 d2 => ?_))))))
    · rintro v o H' Rt Rf s' hv m rt rf
      exact ⟨rfl, yes_if ⟨_, rfl, v, o, rfl, hv, rt rfl _ (fun _ _ h => h)⟩⟩
    rw [all_true] at d2
    refine ⟨D, os.map pairO, rfl, by rw [List.map_map]; exact SqL.of d2, _, rfl, ?_⟩
    have e1 : (os.map pairO).all id = os.all pairO := by rw [List.all_map]; rfl
    rw [e1]
    cases a1 : os.all pairO with
    | false =>
      have ok : okT (some os) = false := by
        show (os.all pairO && _ && _) = false
        rw [a1]
        rfl
      rw [ok] at q
      exact iteT (q H2 (s1.trans s2))
    | true =>
      refine iteF ?_
      have two : ∀ o ∈ os, ∃ i j : Int, o = some [.int i, .int j] := fun o m => pairO_two (List.all_eq_true.mp a1 o m)
      have hs2 := hs.imp (SqL.same s2) (SqT.same s2)
      have hx2 := paired_imp (fun _ _ z => Val2.same s2 z) hx
      refine seq_go (ifs_go (not_go (tb_go (cb_go (cons1_go (lcO (G := Val2 K) (ys := os) (fun _ => true) (fun o => V.bl (decide (lenO o ≥ 1))) (fun R r => ⟨_, rfl, r⟩) hs2 (val2_rel hx2) xl (by omega) (fun _ _ _ s z => z.same s) ?_ fun D3 H3 hD3 s3 d3 => ?_))))))
      · rintro v o H' Rt Rf s' hv m rt rf
        obtain ⟨i, j, rfl⟩ := two o m
        obtain ⟨t, rfl, ht⟩ := two_at hv
        exact ⟨t, _, rfl, ht, rfl, _, _, rfl, _, _, rfl, rfl, rfl, yes_if ⟨_, rfl, _, _, rfl, rfl, rt rfl _ (fun _ _ h => h)⟩⟩
      rw [all_true] at d3
      refine ⟨D3, os.map fun o => decide (lenO o ≥ 1), rfl, by rw [List.map_map]; exact SqL.of d3, _, rfl, ?_⟩
      have e2 : (os.map fun o => decide (lenO o ≥ 1)).all id = os.all fun o => decide (lenO o ≥ 1) := by rw [List.all_map]; rfl
      rw [e2]
      cases a2 : os.all fun o => decide (lenO o ≥ 1) with
      | false =>
        have ok : okT (some os) = false := by
          show (os.all pairO && (os.all fun o => decide (lenO o ≥ 1)) && _) = false
          rw [a1, a2]
          rfl
        rw [ok] at q
        exact iteT (q H3 (s1.trans (s2.trans s3)))
      | true =>
        refine iteF ?_
        have hs3 := hs2.imp (SqL.same s3) (SqT.same s3)
        have hx3 := paired_imp (fun _ _ z => Val2.same s3 z) hx2
        refine ret_go (op_go (cb_go (cons1_go (lcO (G := Val2 K) (ys := os) (fun _ => true) (fun o => V.int (lenO o)) (fun R r => ⟨_, rfl, r⟩) hs3 (val2_rel hx3) xl (by omega) (fun _ _ _ s z => z.same s) ?_ fun D4 H4 hD4 s4 d4 => ?_))))
        · rintro v o H' Rt Rf s' hv m rt rf
          obtain ⟨i, j, rfl⟩ := two o m
          obtain ⟨t, rfl, ht⟩ := two_at hv
          exact ⟨t, _, rfl, ht, rfl, _, _, rfl, _, _, rfl, rfl, rfl, yes_if ⟨_, rfl, rt rfl _ (fun _ _ h => h)⟩⟩
        rw [all_true] at d4
        refine ⟨D4, os.map lenO, rfl, by rw [List.map_map]; exact SqL.of d4, _, _, rfl, rfl, ?_⟩
        have ok : okT (some os) = decide ((os.map lenO).sum ≤ 40) := by
          show (os.all pairO && (os.all fun o => decide (lenO o ≥ 1)) && _) = _
          rw [a1, a2]
          rfl
        rw [ok] at q
        exact q H4 (s1.trans (s2.trans (s3.trans s4)))
end
end SR
set_option Elab.async false
set_option linter.all false
set_option maxRecDepth 100000
set_option maxHeartbeats 2000000
namespace SR
open PySem PySem.Spec PyProof.Rows L2
theorem lcVt_c {α : Type} {K : PySem.W.Frag} {te : TE} {g : TG} {tt : TT} {telt : TE} {vs : List Nat} {σ : L2.St} {ys : List α} {Q : VK} {Cc : Addr → Hp → Prop} {H0 : Hp} (P : α → Bool) (f : α → V) (hte : ∀ R : VK, (∀ a H, Cc a H → R (.ref a) H) → te σ H0 R)
    (go : ∀ a H, Cc a H → ∃ (xs : List V) (G : Hp → V → α → Prop), SqT K H a xs ∧ (∀ (i : Nat) (x : V), xs[i]? = some x → ∃ y, ys[i]? = some y ∧ G H x y) ∧ xs.length = ys.length ∧ (∀ H' x y, Same H H' → G H x y → G H' x y) ∧ TurnV g tt telt vs σ H G ys P f ∧ ∀ D H', H D = none → Same H H' → H' D = some (.lst ((ys.filter P).map f)) → Q (.ref D) H')
    (hl : ys.length ≤ 5000) : tLc (iTup K te) g tt telt vs σ H0 Q := by
  refine hte _ fun a H hc => ?_
  obtain ⟨xs, G, h1, h2, h3, h4, h5, h6⟩ := go a H hc
  refine ⟨a, rfl, ⟨_, h1⟩, fun D hD => ?_⟩
  refine lc_it (walk_tup (K := K) (a := a) (xs := xs)) (fun i H1 => Same H H1 ∧ H1 D = some (.lst (((ys.take i).filter P).map f))) ⟨same_new hD, upd_same⟩ (fun i H1 _ h => SqT.same h.1 h1) (stepV h2 hl h4 h5 hD) fun H1 h => ?_
  have d1 := h.2
  rw [h3, List.take_length] at d1
  exact h6 D H1 hD h.1 d1
/-- what the steps keep -/
structure I19 (K : PySem.W.Frag) (C : Addr) (H : Hp) (d g c : Addr) (b : Nat) (m : Int) (ts : List (Int × Int)) (D y7 y8 y9 : Addr) {ks : List (Int × Int)} (p : Rws ks) : Prop where
  S : StB H d g c b
  r7 : RowAt K C H y7 p.1 ks
  r8 : RowAt K C H y8 (Fn (m, false) p).1 ks
  r9 : RowAt K C H y9 (Fn (m, true) p).1 ks
  du : PairsL H D ts
  d1 : D ≠ d
  d2 : D ≠ g
  e : trP p = ts
  m1 : 1 ≤ m
  m2 : m ≤ 99
section
variable {K : PySem.W.Frag} {C B I : Addr} {ks : List (Int × Int)} {N N2 N3 : L2.St → Hp → Prop} {R : VK} {H : Hp} {d g c D y7 y8 y9 : Addr} {b : Nat} {m : Int} {ts : List (Int × Int)} {p : Rws ks}
theorem I19.same {H' : Hp} (s : Same H H') (J : I19 K C H d g c b m ts D y7 y8 y9 p) : I19 K C H' d g c b m ts D y7 y8 y9 p :=
  ⟨StB.same s J.S, J.r7.same s, J.r8.same s, J.r9.same s, J.du.same s, J.d1, J.d2, J.e, J.m1, J.m2⟩
theorem pairs_kp {H H' : Hp} {d g c D : Addr} {b : Nat} {ps : List (Int × Int)} (h : PairsL H D ps) (S : StB H d g c b) (k : Kp d g H H') (n1 : D ≠ d) (n2 : D ≠ g) : PairsL H' D ps := by
  obtain ⟨us, h1, h2⟩ := h
  exact ⟨us, k _ _ n1 n2 h1, paired_imp (fun t p z => kp_at (o := .tup [.int p.1, .int p.2]) S k z (fun _ z => nomatch z) fun _ _ z => nomatch z) h2⟩
theorem I19.kp {H' : Hp} {b' : Nat} (k : Kp d g H H') (S : StB H' d g c b') (J : I19 K C H d g c b m ts D y7 y8 y9 p) : I19 K C H' d g c b' m ts D y7 y8 y9 p :=
  ⟨S, J.r7.kp J.S k, J.r8.kp J.S k, J.r9.kp J.S k, pairs_kp J.du J.S k J.d1 J.d2, J.d1, J.d2, J.e, J.m1, J.m2⟩
end
end SR
set_option Elab.async false
set_option linter.all false
set_option maxRecDepth 100000
set_option maxHeartbeats 4000000
namespace SR
open PySem PySem.Spec PyProof.Rows L2
section
variable {K : PySem.W.Frag} {H : Hp} {N N2 N3 : L2.St → Hp → Prop} {R : VK}
def t_arKind (K : PySem.W.Frag) : TS := (tIfS (tOr (tNot (tB (tCB (rIsi K) (tCons (tVar 1) (tCons (tC (.ty "tuple")) tNil))))) (tTest (tOp rNe (tCB (qLen K) (tCons (tVar 1) (tNil))) (tC (.int 2)))))
  (tRet (tC (.bl false)))
  (tNext))
def t_arPart (K : PySem.W.Frag) : TS := (tIfS (tOr (tTest (tOp (rNeE K) (tLc (iTup K (tVar 1)) (gName 2) (tOr (tNot (tB (tCB (rIsi K) (tCons (tVar 2) (tCons (tC (.ty "int")) tNil))))) (tB (tCB (rIsi K) (tCons (tVar 2) (tCons (tC (.ty "bool")) tNil))))) (tC (.int 1)) [2]) (tLst (tNil)))) (tTest (tOp qLt (tOp (rIxT K) (tVar 1) (tC (.int 0))) (tC (.int 1)))))
  (tRet (tC (.bl false)))
  (tNext))
def t_arSum (K : PySem.W.Frag) : TS := (tRet (tOp qLe (tCB (rSum K) (tCons (tLc ((fun σ H R => iList K (tVar 0) σ H R ∨ iTup K (tVar 0) σ H R)) (gName 1) (tYes) (tOp (rIxT K) (tVar 1) (tC (.int 0))) [1]) (tNil))) (tC (.int 40))))
def t_aretr15 (K : PySem.W.Frag) : TS := tSeq (tIfS (tNot (tB (tCB (rIsiT K) (tCons (tVar 0) (tCons (tTup (tCons (tC (.ty "list")) (tCons (tC (.ty "tuple")) (tNil)))) tNil)))))
  (tRet (tC (.bl false)))
  (tNext))
  (tSeq (tFor ((fun σ H R => iList K (tVar 0) σ H R ∨ iTup K (tVar 0) σ H R)) (gName 1)
  (tSeq (t_arKind K)
  (t_arPart K)))
  (t_arSum K))
theorem or_go15 {σ : L2.St} {ta tb : TT} {Q : Bool → Hp → Prop} (h : ta σ H fun c H1 => if c = true then Q true H1 else tb σ H1 Q) : tOr ta tb σ H Q := h
theorem tt_go15 {σ : L2.St} {te : TE} {Q : Bool → Hp → Prop} (h : te σ H fun x H1 => ∃ c, x = .bl c ∧ Q c H1) : tTest te σ H Q := h
theorem arPart {x0 x2 : Option V} {a : Addr} {x y : V} {t1 t2 : String} (h : SqT K H a [x, y]) (h1 : AnyT K H x t1) (h2 : AnyT K H y t2)
    (hR : (isI x && isI y) = false ∨ lenO (some [x, y]) < 1 → ∀ H', Same H H' → R (.bl false) H') (hN : (isI x && isI y) = true → lenO (some [x, y]) ≥ 1 → ∀ H', Same H H' → N [x0, some (.ref a), x2] H') :
    t_arPart K { nx := N, rt := R, bk := N2, ct := N3 } [x0, some (.ref a), x2] H := by
  unfold t_arPart
  refine ifs_go (or_go15 (tt_go15 (op_go ?_)))
  refine lcVt_c (ys := [x, y]) (Cc := fun b H2 => b = a ∧ H2 = H) (fun v => !isI v) (fun _ => V.int 1) (fun R r => ⟨_, rfl, r a H ⟨rfl, rfl⟩⟩) (fun b H2 hc => ?_) (by show 2 ≤ 5000; decide)
  obtain ⟨e1, e2⟩ := hc
  subst e1 e2
  refine ⟨[x, y], fun _ v z => v = z, h, fun i v e => ⟨v, e, rfl⟩, rfl, fun _ _ _ _ z => z, ?_, fun D H1 hD s1 d1 => ?_⟩
  · rintro v z H' Rt Rf s' rfl m rt rf
    obtain ⟨t, hv⟩ : ∃ t, AnyT K H' v t := by
      simp only [List.mem_cons, List.not_mem_nil, or_false] at m
      rcases m with rfl | rfl
      · exact ⟨_, h1.same s'⟩
      · exact ⟨_, h2.same s'⟩
    obtain ⟨k1, k2, _⟩ := hv.kit
    refine ⟨rfl, _, rfl, _, _, _, _, _, rfl, .ty _, hv.ty, k1, _, rfl, ?_⟩
    cases hi : isI v with
    | true =>
      refine iteF ⟨_, rfl, _, _, _, _, _, rfl, .ty _, hv.ty, k2, _, rfl, ?_⟩
      rw [hv.notB hi]
      exact iteF (rf (by show (!isI v) = false; rw [hi]; rfl) _ fun _ _ h => h)
    | false =>
      cases hb : t == "bool" with
      | true =>
        refine iteF ⟨_, rfl, _, _, _, _, _, rfl, .ty _, hv.ty, k2, _, rfl, ?_⟩
        rw [hb]
        exact iteT (rt (by show (!isI v) = true; rw [hi]; rfl) _ fun _ _ h => h)
      | false => exact iteT (iteT (rt (by show (!isI v) = true; rw [hi]; rfl) _ fun _ _ h => h))
  · refine ⟨sz (Nat.zero_le _), fun E hE => ?_⟩
    have s2 := same_new (o := .lst []) hE
    refine ⟨D, E, _, rfl, rfl, SqL.of (s2 _ _ d1), SqL.of upd_same, _, rfl, ?_⟩
    have s12 := s1.trans s2
    generalize upd H1 E (.lst []) = H2 at s2 s12 ⊢
    have ea : (!(([x, y].filter fun v => !isI v).map fun _ => V.int 1).isEmpty) = !(isI x && isI y) := by
      cases hx : isI x <;> cases hy : isI y <;> simp [hx, hy]
    rw [ea]
    cases c : isI x && isI y with
    | false => exact iteT (iteT (hR (.inl c) H2 s12))
    | true =>
      obtain ⟨i, rfl⟩ : ∃ i, x = .int i := by
        rw [Bool.and_eq_true] at c
        have := c.1
        cases x <;> first | exact ⟨_, rfl⟩ | cases this
      refine iteF ⟨_, rfl, _, _, 0, _, rfl, rfl, SqT.same s12 h, rfl, _, _, rfl, rfl, _, rfl, ?_⟩
      by_cases l : i < 1
      · rw [decide_eq_true l]
        exact iteT (hR (.inr l) H2 s12)
      · rw [decide_eq_false l]
        exact iteF (hN c (by show i ≥ 1; omega) H2 s12)
theorem arKind {x0 x2 : Option V} {v : V} {o : Option (List V)} (h : Val2 K H v o)
    (hR : ∀ H', Same H H' → pairO o = false → R (.bl false) H') (hN : ∀ a x y, v = .ref a → o = some [x, y] → SqT K H a [x, y] → (∃ t, AnyT K H x t) → (∃ t, AnyT K H y t) → N [x0, some v, x2] H) :
    t_arKind K { nx := N, rt := R, bk := N2, ct := N3 } [x0, some v, x2] H := by
  cases h with
  | oth h ht =>
    refine ⟨_, rfl, _, _, _, _, _, rfl, .ty _, h.ty, h.kit.2.2.1, _, rfl, ?_⟩
    rw [ht]
    exact iteT (iteT (hR H (fun _ _ h => h) rfl))
  | @tup a xs h hx =>
    have hy : AnyT K H (.ref a) "tuple" := .tup h
    refine ⟨_, rfl, _, _, _, _, _, rfl, .ty _, hy.ty, hy.kit.2.2.1, _, rfl, iteF ⟨_, rfl, a, xs, rfl, .inr h, rfl, _, rfl, ?_⟩⟩
    by_cases hl : xs.length = 2
    · match xs, hl with
      | [x, y], _ => exact iteNS rfl (hN a x y rfl rfl h (hx x (by simp)) (hx y (by simp)))
    · have e : ¬ V.int (xs.length : Int) = V.int 2 := fun z => hl (by have := V.int.inj z; omega)
      have e2 : pairO (some xs) = false := by
        match xs, hl with
        | [], _ => rfl
        | [_], _ => rfl
        | [_, _], hl => exact absurd rfl hl
        | _ :: _ :: _ :: _, _ => rfl
      rw [decide_eq_false e]
      exact iteT (hR H (fun _ _ h => h) e2)
@[irreducible] def xArKind := @t_arKind
theorem xArKind_eq : @xArKind = @t_arKind := by
  unfold xArKind
  rfl
@[irreducible] def xArPart := @t_arPart
theorem xArPart_eq : @xArPart = @t_arPart := by
  unfold xArPart
  rfl
@[irreducible] def xArSum := @t_arSum
theorem xArSum_eq : @xArSum = @t_arSum := by
  unfold xArSum
  rfl
theorem okT_bad {os : List (Option (List V))} {o : Option (List V)} (m : o ∈ os) (h : pairO o = false ∨ lenO o < 1) : okT (some os) = false := by
  cases e : okT (some os) with
  | false => rfl
  | true =>
    have e : (os.all pairO && (os.all fun o => decide (lenO o ≥ 1)) && decide ((os.map lenO).sum ≤ 40)) = true := e
    rw [Bool.and_eq_true, Bool.and_eq_true] at e
    have a := List.all_eq_true.mp e.1.1 o m
    have b := of_decide_eq_true (List.all_eq_true.mp e.1.2 o m)
    rcases h with h | h
    · rw [h] at a
      cases a
    · omega
theorem arTurn {x0 x2 : Option V} {v : V} {o : Option (List V)} (h : Val2 K H v o) (hR : pairO o = false ∨ lenO o < 1 → ∀ H', Same H H' → R (.bl false) H') (hN : pairO o = true → lenO o ≥ 1 → ∀ H', Same H H' → N [x0, some v, x2] H') :
    (tSeq (xArKind K) (xArPart K)) { nx := N, rt := R, bk := N2, ct := N3 } [x0, some v, x2] H := by
  refine seq_go ?_
  rw [xArKind_eq]
  refine arKind h (fun H' s e => hR (.inl e) H' s) fun a x y ev eo ht ⟨t1, h1⟩ ⟨t2, h2⟩ => ?_
  subst ev eo
  show xArPart K _ [x0, some (.ref a), x2] H
  rw [xArPart_eq]
  exact arPart ht h1 h2 hR hN
def spAreTr15 (K : PySem.W.Frag) : Sp := spAreTrX K
theorem pure_aretr15 (vs : List V) (H : Hp) (Q : VK) (E : XK) (h : spAreTr15 K vs H Q E) : t_aretr15 K { nx := fun _ H' => Q .non H', rt := Q } (start ["value", "train", "part"] vs) H := by
  obtain ⟨v, o, rfl, tv, q⟩ := h
  unfold t_aretr15
  rw [← xArKind_eq, ← xArPart_eq, ← xArSum_eq]
  refine seq_go ⟨_, rfl, sz (by show 2 ≤ 1000; decide), fun T hT => ?_⟩
  have s1 := same_new (o := .tup [.ty "list", .ty "tuple"]) hT
  have tv1 := tv.same s1
  have T1 : upd H T (.tup [.ty "list", .ty "tuple"]) T = some (.tup [.ty "list", .ty "tuple"]) := upd_same
  generalize upd H T (.tup [.ty "list", .ty "tuple"]) = H1 at s1 tv1 T1 ⊢
  cases tv1 with
  | oth any n1 n2 => exact ⟨_, T, _, _, [.type "list", .type "tuple"], false, rfl, T1, .cons (.ty _) (.cons (.ty _) .nil), any.ty, kit_no any n1 n2, _, rfl, iteT (q H1 s1)⟩
  | @sq a xs os hs hx l =>
    obtain ⟨ty, any, hty⟩ : ∃ ty, AnyT K H1 (.ref a) ty ∧ (ty = "list" ∨ ty = "tuple") := hs.elim (fun z => ⟨_, .lst z, .inl rfl⟩) fun z => ⟨_, .tup z, .inr rfl⟩
    refine ⟨_, T, _, _, [.type "list", .type "tuple"], true, rfl, T1, .cons (.ty _) (.cons (.ty _) .nil), any.ty, kit_seq any hty, _, rfl, iteF ?_⟩
    have xl := paired_len hx
    have Qf : ∀ o ∈ os, pairO o = false ∨ lenO o < 1 → ∀ H', Same H1 H' → Q (.bl false) H' := fun o m b H' s => by
      have := q H' (s1.trans s)
      rw [okT_bad m b] at this
      exact this
    let I : Nat → L2.St → Hp → Prop := fun i σ H2 => Same H1 H2 ∧ (∀ o ∈ os.take i, pairO o = true ∧ lenO o ≥ 1) ∧ ∃ x1, σ = [some (.ref a), x1, none]
    have step : ∀ (N2 : L2.St → Hp → Prop) (i : Nat) (v : V) (σ : L2.St) (H2 : Hp), i < xs.length → I i σ H2 → xs[i]? = some v → gName 1 v σ H2 fun σ' H3 => (tSeq (xArKind K) (xArPart K)) { nx := I (i + 1), rt := Q, bk := N2, ct := I (i + 1) } σ' H3 := by
      rintro N2 i v σ H2 hi ⟨s2, good, x1, rfl⟩ e
      obtain ⟨o, ho, hv⟩ := paired_at hx e
      have mo : o ∈ os := List.mem_of_getElem? ho
      show (tSeq (xArKind K) (xArPart K)) _ [some (.ref a), some v, none] H2
      refine arTurn (hv.same s2) (fun b H3 s3 => Qf o mo b H3 (s2.trans s3)) fun a1 a2 H3 s3 => ⟨s2.trans s3, fun z m => ?_, _, rfl⟩
      rw [List.take_succ, ho] at m
      rcases List.mem_append.mp m with m | m
      · exact good z m
      · have : z = o := by simpa using m
        rw [this]
        exact ⟨a1, a2⟩
    have fin : ∀ (σ : L2.St) (H2 : Hp), I xs.length σ H2 → xArSum K { nx := fun _ H' => Q .non H', rt := Q } σ H2 := by
      rintro σ H2 ⟨s2, good, x1, rfl⟩
      rw [xl, List.take_length] at good
      rw [xArSum_eq]
      have hs2 := hs.imp (SqL.same s2) (SqT.same s2)
      have hx2 := paired_imp (fun _ _ z => Val2.same s2 z) hx
      refine ret_go (op_go (cb_go (cons1_go (lcO (G := Val2 K) (ys := os) (fun _ => true) (fun o => V.int (lenO o)) (fun R r => ⟨_, rfl, r⟩) hs2 (val2_rel hx2) xl (by omega) (fun _ _ _ s z => z.same s) ?_ fun D4 H4 hD4 s4 d4 => ?_))))
      · rintro v o H' Rt Rf s' hv m rt rf
        obtain ⟨i, j, rfl⟩ := pairO_two (good o m).1
        obtain ⟨t, rfl, ht⟩ := two_at hv
        exact ⟨rfl, yes_if ⟨_, rfl, t, _, 0, _, rfl, rfl, ht, rfl, rt rfl _ (fun _ _ h => h)⟩⟩
      rw [all_true] at d4
      refine ⟨D4, os.map lenO, rfl, by rw [List.map_map]; exact SqL.of d4, _, _, rfl, rfl, ?_⟩
      have ok : okT (some os) = decide ((os.map lenO).sum ≤ 40) := by
        show (os.all pairO && (os.all fun o => decide (lenO o ≥ 1)) && _) = _
        rw [List.all_eq_true.mpr fun o m => (good o m).1, List.all_eq_true.mpr fun o m => decide_eq_true (good o m).2]
        rfl
      rw [ok] at q
      exact q H4 (s1.trans (s2.trans s4))
    have I0 : I 0 [some (.ref a), none, none] H1 := ⟨fun _ _ h => h, (fun _ m => by rw [List.take_zero] at m; cases m), none, rfl⟩
    rcases hs with hL | hT
    · refine .inl ⟨_, rfl, a, rfl, ⟨_, hL⟩, ?_⟩
      refine for_it (walk_list (K := K) (a := a) (xs := xs)) I I0 (fun i σ H2 _ h => SqL.same h.1 hL) ?_ fun σ H2 h => fin σ H2 h
      rintro i v σ H2 H3 hi hI ⟨rfl, hv⟩
      exact step _ i v σ _ hi hI hv
    · refine .inr ⟨_, rfl, a, rfl, ⟨_, hT⟩, ?_⟩
      refine for_it (walk_tup (K := K) (a := a) (xs := xs)) I I0 (fun i σ H2 _ h => SqT.same h.1 hT) ?_ fun σ H2 h => fin σ H2 h
      rintro i v σ H2 H3 hi hI ⟨rfl, hv⟩
      exact step _ i v σ _ hi hI hv
end
end SR
set_option Elab.async false
set_option linter.all false
set_option maxRecDepth 100000
set_option maxHeartbeats 4000000
namespace SR
open PySem PySem.Spec PyProof.Rows L2
def spRowOfX (K : PySem.W.Frag) (C T B : Addr) : Sp := fun vs H Q E => ∃ (u v : V) (o : Option (List (Option (List V)))), vs = [u, v] ∧ Tv15 K H u o ∧
  ((okT o = false ∧ ∀ H', Same H H' → E (.ref T) none H') ∨ (okT o = true ∧ spRowOf K C T B [u, v] H Q E))
def t_row_ofX (K : PySem.W.Frag) (a00 a0 : Addr) (c_BadRow : Addr) (c_BadTrains : Addr) (c_Row : Addr) (E : XK) : TS := tSeq (tIfS (tNot (tB (tCall (spAreTrX K) [] E0 (tCons (tVar 0) (tNil)))))
  (tOut (.ref c_BadTrains) E)
  (tNext))
  (tSeq (tAsg (tMake c_Row (spRowInit K c_Row) [.ref a00, .ref a0] E0 (tNil)) (gName 2))
  (t_roLoop K c_Row c_BadRow E))
theorem pure_row_ofX {K : PySem.W.Frag} {C T B a00 a0 : Addr} (hE0 : BareK K a00 []) (hE : BareK K a0 []) (vs : List V) (H : Hp) (Q : VK) (E : XK) (h : spRowOfX K C T B vs H Q E) : t_row_ofX K a00 a0 B T C E { nx := fun _ H' => Q .non H', rt := Q } (start ["trains", "capacities", "row", "level", "begun", "length", "offset", "_"] vs) H := by
  obtain ⟨u0, v0, o, rfl, tv, h⟩ := h
  rcases h with ⟨no, q⟩ | ⟨ok, a, v, ts, L, ev, hp, asc, len, pm, q⟩
  · refine seq_go (ifs_go (not_go (tb_go ⟨_, rfl, u0, o, rfl, tv, fun H1 s1 => ⟨_, rfl, ?_⟩⟩)))
    rw [no]
    exact iteT (q H1 s1)
  obtain ⟨eu, e2⟩ : u0 = V.ref a ∧ v = v0 := by
    cases ev
    exact ⟨rfl, rfl⟩
  subst eu
  subst e2
  have tl : ts.length ≤ 40 := by
    have := tr_many_le asc
    rw [pm.length_eq]
    omega
  have one : ∀ t ∈ ts, 1 ≤ t.1 := fun t m => trL_one t (pm.mem_iff.mp m)
  have sum : (ts.map Prod.fst).sum ≤ 40 := by
    rw [perm_sum (pm.map Prod.fst), trL_sum asc]
    omega
  refine seq_go (ifs_go (not_go (tb_go ⟨_, rfl, .ref a, o, rfl, tv, fun H1 s1 => ⟨_, rfl, ?_⟩⟩)))
  rw [ok]
  refine iteF ?_
  show tSeq (tAsg (tMake C (spRowInit K C) [.ref a00, .ref a0] E0 (tNil)) (gName 2)) (t_roLoop K C B E) _ [some (.ref a), some v, none, none, none, none, none, none] H1
  have e1 : PairsAt K H1 a00 [] := ⟨[], .inr (.inr hE0), .nil⟩
  have e2 : PairsAt K H1 a0 [] := ⟨[], .inr (.inr hE), .nil⟩
  refine seq_go (asg_go (make_go (nil0_go ?_)))
  refine make_row (C := C) (E := E0) (Q := fun y H6 => t_roLoop K C B E { nx := fun _ H' => Q .non H', rt := Q } [some (.ref a), some v, some y, none, none, none, none, none] H6) e1 e2 (ones_ok (L := []) .nil (by decide)) fun x H2 qs ls hx s2 row p1 p2 _ _ => ?_
  have eq1 : qs = [] := List.Perm.eq_nil p1
  have eq2 : ls = [] := List.Perm.eq_nil p2
  subst eq1 eq2
  have s02 := s1.trans s2
  show t_roLoop K C B E _ [some (.ref a), some v, some (.ref x), none, none, none, none, none] H2
  refine seq_go (ro_max (K := K) (hp.same s02) (by omega) one fun m H3 s3 hm hm2 => ?_)
  have m40 : m ≤ 40 := by
    rcases hm2 with rfl | ⟨t, ht, e⟩
    · omega
    · have := trL_le asc t (pm.mem_iff.mp ht)
      omega
  have s03 := s02.trans s3
  refine ⟨_, rfl, m, 0, -1, m, rfl, ?_, ?_⟩
  · have := RgC.neg (i := m) (j := 0) (by omega) (by omega) (by decide) (by decide)
    rw [show ((m : Int) - 0).toNat = m by omega] at this
    exact this
  refine for_it (walk_rangeC (lo := m) (c := -1) (n := m)) (fun i σ H4 => Same H3 H4 ∧ ∃ y w3 w4, RowAt K C H4 y (ones (cuts (m - i) L)) [] ∧ σ = [some (.ref a), some v, some (.ref y), w3, w4, none, none, none]) ⟨fun _ _ h => h, x, none, none, ?_, rfl⟩ (fun _ _ _ _ _ => True.intro) ?_ ?_
  · rw [Nat.sub_zero, cuts_end asc fun t ht => hm t (pm.mem_iff.mpr ht)]
    exact row.same s3
  · rintro i w σ H4 H5 hi ⟨s4, y, w3, w4, ry, rfl⟩ ⟨rfl, rfl⟩
    obtain ⟨j, hj⟩ : ∃ j, m - i = j + 1 := ⟨m - i - 1, by omega⟩
    rw [hj] at ry
    have e : (m : Int) + (i : Int) * -1 = (j : Int) + 1 := by omega
    show t_roBody K C _ [some (.ref a), some v, some (.ref y), some (.int ((m : Int) + (i : Int) * -1)), w4, none, none, none] H5
    rw [e]
    refine ro_body (hp.same (s03.trans s4)) asc len pm ry fun y4 y' H6 s6 r6 => ⟨s4.trans s6, y', _, y4, ?_, rfl⟩
    rw [show m - (i + 1) = j by omega]
    exact r6
  · rintro σ H4 ⟨s4, y, w3, w4, ry, rfl⟩
    rw [Nat.sub_self] at ry
    have s04 := s03.trans s4
    refine ⟨_, rfl, _, rfl, y, v, ones L, [], rfl, ry, ⟨ones_ok asc len, ones_asc asc, .nil⟩, ?_⟩
    rcases q with ⟨od, q⟩ | ⟨ls, rs, cp, pr, ko, q⟩
    · exact .inr (.inl ⟨rfl, od.same s04, fun d H5 s5 hd => q d H5 (s04.trans s5) hd⟩)
    · exact .inr (.inr ⟨rfl, ls, rs, cp.same s04, pr, ko, fun z H5 hz s5 r5 => q z H5 (none_back s04 hz) (s04.trans s5) r5⟩)
end SR
set_option Elab.async false
set_option linter.all false
set_option maxRecDepth 100000
set_option maxHeartbeats 4000000
namespace L2
open PySem PySem.Spec PyProof.Rows
end L2
namespace SR
open PySem PySem.Spec PyProof.Rows L2
/-- an error class without __init__ that is a ValueError and none of another one -/
structure ErrN (K : PySem.W.Frag) (B O S : Addr) : Prop where
  exm : PySem.W.exmOne K (.ref B) (.ref S) = some true
  ec : ExcC K B
  kit : PySem.W.kitOne K (.ref B) (.ref B) = some true
  no : PySem.W.kitOne K (.ref B) (.ref O) = some false
  v : PySem.W.kitOne K (.ref B) (.type "ValueError") = some true
end SR
set_option Elab.async false
set_option linter.all false
set_option maxRecDepth 100000
set_option maxHeartbeats 4000000
namespace SR
open PySem PySem.Spec PyProof.Rows L2
/-- isinstance of a caught error, with fields or without -/
def rIsHB (K : PySem.W.Frag) : List V → Hp → VK → Prop := fun xs H Q => rIsH K xs H Q ∨ rIsHD K xs H Q
def t_told15 (K : PySem.W.Frag) (c_BadRow : Addr) (c_BadTrains : Addr) (c_Row : Addr) (c_ScoopError : Addr) : TS := tSeq (tAsg (tC .non) (gName 2))
  (tSeq (fun D σ H => (fun W => tDrop (tCallS (spRowOfX K c_Row c_BadTrains c_BadRow) (WE W) (tCons (tVar 0) (tCons (tVar 1) (tNil))))) (wKeepH K (.ref c_ScoopError) 3 2 (fun _ _ _ _ => False) D) D σ H)
  (tSeq (tIfS (tTest (tOp qIsN (tVar 2) (tC .non)))
  (tRet (tC .non))
  (tNext))
  (tSeq (tIfS (tB (tCB (rIsHB K) (tCons (tVar 2) (tCons (tC (.ref c_BadTrains)) (tNil)))))
  (tRet (tC (.str "trains")))
  (tNext))
  (tRet (tIf (tB (tCB (rIsHB K) (tCons (tVar 2) (tCons (tC (.ref c_BadRow)) (tNil))))) (tXfH K "field" (tVar 2)) (tC (.str "other")))))))
def spTold15 (K : PySem.W.Frag) (C T B : Addr) : Sp := fun vs H Q _ => ∃ (u v : V) (o : Option (List (Option (List V)))), vs = [u, v] ∧ Tv15 K H u o ∧
  ((okT o = false ∧ ∀ H', Same H H' → Q (.str "trains") H') ∨
   (okT o = true ∧ ∃ (a : Addr) (ts : List (Int × Int)) (L : List Int), u = .ref a ∧ PairsAt K H a ts ∧ L.Pairwise (· < ·) ∧ L.length ≤ 40 ∧ ts.Perm (trL L) ∧
    ((OddC K H v ∧ ∀ H', Same H H' → Q (.str "capacities") H') ∨ (∃ ls rs, CapsAt K H v ls ∧ ls.Perm rs ∧ KsOk rs ∧ ∀ H', Same H H' → Q .non H'))))
theorem pure_told15 {K : PySem.W.Frag} {C T B S : Addr} (ZB : ErrK K B S "field") (ZT : ErrN K T B S) (Zn : PySem.W.kitOne K (.ref B) (.ref T) = some false) (vs : List V) (H : Hp) (Q : VK) (E : XK) (h : spTold15 K C T B vs H Q E) : t_told15 K B T C S { nx := fun _ H' => Q .non H', rt := Q } (start ["value", "wide", "caught", "error"] vs) H := by
  obtain ⟨u, v, o, rfl, tv, h⟩ := h
  refine ⟨_, rfl, _, rfl, u, v, o, rfl, tv, ?_⟩
  rcases h with ⟨no, q⟩ | ⟨ok, a, ts, L, rfl, hp, asc, len, pm, h⟩
  · refine .inl ⟨no, fun H1 s1 => ⟨true, ZT.exm, fun _ a ha => ?_, fun z => (nomatch z)⟩⟩
    have s3 := same_new (o := CauO (.ref T) none a) ha
    have A3 : upd H1 a (CauO (.ref T) none a) a = some (CauO (.ref T) none a) := upd_same
    generalize upd H1 a (CauO (.ref T) none a) = H3 at s3 A3 ⊢
    refine ⟨_, rfl, rfl, _, rfl, iteF ?_⟩
    exact ⟨_, rfl, .inl ⟨a, T, _, _, true, A3, ZT.ec, rfl, fun u z => z, ZT.kit, _, rfl, iteT (q H3 (s1.trans s3))⟩⟩
  · refine .inr ⟨ok, a, v, ts, L, rfl, hp, asc, len, pm, ?_⟩
    rcases h with ⟨od, q⟩ | ⟨ls, rs, cs, pr, k, q⟩
    · refine .inl ⟨od, fun d H1 s1 hd => ⟨true, ZB.exm, fun _ a ha => ?_, fun z => (nomatch z)⟩⟩
      have s2 := same_new (o := .xd [("field", .str "capacities")]) hd
      have D2 : upd H1 d (.xd [("field", .str "capacities")]) d = some (.xd [("field", .str "capacities")]) := upd_same
      generalize upd H1 d (.xd [("field", .str "capacities")]) = H2 at s2 D2 ha ⊢
      have s3 := same_new (o := CauO (.ref B) (some d) a) ha
      have A3 : upd H2 a (CauO (.ref B) (some d) a) a = some (CauO (.ref B) (some d) a) := upd_same
      have D3 := s3 _ _ D2
      generalize upd H2 a (CauO (.ref B) (some d) a) = H3 at s3 A3 D3 ⊢
      refine ⟨_, rfl, rfl, _, rfl, iteF ?_⟩
      refine ⟨_, rfl, .inr ⟨a, B, d, _, .ref T, .ref T, false, A3, D3, ZB.ec, rfl, fun u r => r, Zn, _, rfl, iteF ?_⟩⟩
      refine ⟨_, rfl, .inr ⟨a, B, d, _, .ref B, .ref B, true, A3, D3, ZB.ec, rfl, fun u r => r, ZB.kit, _, rfl, ?_⟩⟩
      exact iteT ⟨_, rfl, a, B, d, _, .str "capacities", rfl, ZB.xf, ZB.no, A3, D3, rfl, q H3 (s1.trans (s2.trans s3))⟩
    · refine .inr ⟨ls, rs, cs, pr, k, fun y H1 hy s1 _ => ?_⟩
      exact ⟨_, rfl, rfl, _, rfl, iteT (q H1 s1)⟩
end SR
set_option Elab.async false
set_option linter.all false
set_option maxRecDepth 100000
set_option maxHeartbeats 4000000
namespace SR
open PySem PySem.Spec PyProof.Rows L2
section
variable {K : PySem.W.Frag} {H : Hp} {N N2 N3 : L2.St → Hp → Prop} {R : VK} {d g c : Addr} {b : Nat}
/-- no list of trains, or one -/
def BentAt (K : PySem.W.Frag) (H : Hp) (v : V) : Prop := (∃ o, Tv15 K H v o ∧ okT o = false) ∨ ∃ (a : Addr) (ts : List (Int × Int)), v = .ref a ∧ PairsL H a ts ∧ (∀ t ∈ ts, 1 ≤ t.1) ∧ (ts.map Prod.fst).sum ≤ 40
theorem new1 {l : Addr} {o : HO} (S : StB H d g c b) (hl : H l = none) : Same H (upd H l o) ∧ StB (upd H l o) d g c b ∧ ∀ H'', Kp d g (upd H l o) H'' → H'' l = some o := by
  obtain ⟨l1, l2, _⟩ := S.off hl
  exact ⟨same_new hl, S.new hl, fun H'' k => k _ _ l1 l2 upd_same⟩
def t_be1 (K : PySem.W.Frag) : TE := (tCall (spPick K) [] E0 (tCons (tVar 0) (tCons (tLst (tCons (tC .non) (tCons (tC (.int 5)) (tCons (tDNewK) (tCons (tC (.str "ab")) (tCons (tLst (tCons (tC .non) (tNil))) (tCons (tLst (tCons (tTup (tNil)) (tNil))) (tCons (tLst (tCons (tTup (tCons (tC (.int 1)) (tNil))) (tNil))) (tCons (tLst (tCons (tTup (tCons (tC (.int 1)) (tCons (tC (.int 2)) (tCons (tC (.int 3)) (tNil))))) (tNil))) (tCons (tLst (tCons (tLst (tCons (tC (.int 1)) (tCons (tC (.int 2)) (tNil)))) (tNil))) (tCons (tLst (tCons (tTup (tCons (tC (.int 0)) (tCons (tC (.int 0)) (tNil)))) (tNil))) (tCons (tLst (tCons (tTup (tCons (tC (.int 41)) (tCons (tC (.int 0)) (tNil)))) (tNil))) (tNil))))))))))))) (tNil))))
theorem be1 {x1 x2 x3 x4 x5 : Option V} (S : StB H d g c (b + 1)) (hR : ∀ v H', StB H' d g c b → Kp d g H H' → (∀ H'', Kp d g H' H'' → BentAt K H'' v) → R v H') :
    t_be1 K [some (.ref d), x1, x2, x3, x4, x5] H R := by
  refine ⟨_, rfl, fun e he => ?_⟩
  obtain ⟨s1, S1, k1⟩ := new1 (o := .dK []) S he
  generalize upd H e (.dK []) = H1 at s1 S1 k1 ⊢
  refine ⟨sz (by show 1 ≤ 1000; decide), fun l5 h5 => ?_⟩
  obtain ⟨s2, S2, k2⟩ := new1 (o := .lst [.non]) S1 h5
  generalize upd H1 l5 (.lst [.non]) = H2 at s2 S2 k2 ⊢
  refine ⟨sz (Nat.zero_le _), fun t6 h6 => ?_⟩
  obtain ⟨s3, S3, k3⟩ := new1 (o := .tup []) S2 h6
  generalize upd H2 t6 (.tup []) = H3 at s3 S3 k3 ⊢
  refine ⟨sz (by show 1 ≤ 1000; decide), fun l6 h6' => ?_⟩
  obtain ⟨s4, S4, k4⟩ := new1 (o := .lst [.ref t6]) S3 h6'
  generalize upd H3 l6 (.lst [.ref t6]) = H4 at s4 S4 k4 ⊢
  refine ⟨sz (by show 1 ≤ 1000; decide), fun t7 h7 => ?_⟩
  obtain ⟨s5, S5, k5⟩ := new1 (o := .tup [.int 1]) S4 h7
  generalize upd H4 t7 (.tup [.int 1]) = H5 at s5 S5 k5 ⊢
  refine ⟨sz (by show 1 ≤ 1000; decide), fun l7 h7' => ?_⟩
  obtain ⟨s6, S6, k6⟩ := new1 (o := .lst [.ref t7]) S5 h7'
  generalize upd H5 l7 (.lst [.ref t7]) = H6 at s6 S6 k6 ⊢
  refine ⟨sz (by show 3 ≤ 1000; decide), fun t8 h8 => ?_⟩
  obtain ⟨s7, S7, k7⟩ := new1 (o := .tup [.int 1, .int 2, .int 3]) S6 h8
  generalize upd H6 t8 (.tup [.int 1, .int 2, .int 3]) = H7 at s7 S7 k7 ⊢
  refine ⟨sz (by show 1 ≤ 1000; decide), fun l8 h8' => ?_⟩
  obtain ⟨s8, S8, k8⟩ := new1 (o := .lst [.ref t8]) S7 h8'
  generalize upd H7 l8 (.lst [.ref t8]) = H8 at s8 S8 k8 ⊢
  refine ⟨sz (by show 2 ≤ 1000; decide), fun t9 h9 => ?_⟩
  obtain ⟨s9, S9, k9⟩ := new1 (o := .lst [.int 1, .int 2]) S8 h9
  generalize upd H8 t9 (.lst [.int 1, .int 2]) = H9 at s9 S9 k9 ⊢
  refine ⟨sz (by show 1 ≤ 1000; decide), fun l9 h9' => ?_⟩
  obtain ⟨sA, SA, kA⟩ := new1 (o := .lst [.ref t9]) S9 h9'
  generalize upd H9 l9 (.lst [.ref t9]) = HA at sA SA kA ⊢
  refine ⟨sz (by show 2 ≤ 1000; decide), fun tB hB => ?_⟩
  obtain ⟨sB, SB, kB⟩ := new1 (o := .tup [.int 0, .int 0]) SA hB
  generalize upd HA tB (.tup [.int 0, .int 0]) = HB at sB SB kB ⊢
  refine ⟨sz (by show 1 ≤ 1000; decide), fun lB hB' => ?_⟩
  obtain ⟨sC, SC, kC⟩ := new1 (o := .lst [.ref tB]) SB hB'
  generalize upd HB lB (.lst [.ref tB]) = HC at sC SC kC ⊢
  refine ⟨sz (by show 2 ≤ 1000; decide), fun tD hD => ?_⟩
  obtain ⟨sD, SD, kD⟩ := new1 (o := .tup [.int 41, .int 0]) SC hD
  generalize upd HC tD (.tup [.int 41, .int 0]) = HD at sD SD kD ⊢
  refine ⟨sz (by show 1 ≤ 1000; decide), fun lD hD' => ?_⟩
  obtain ⟨sE, SE, kE⟩ := new1 (o := .lst [.ref tD]) SD hD'
  generalize upd HD lD (.lst [.ref tD]) = HE at sE SE kE ⊢
  refine ⟨sz (by show 11 ≤ 1000; decide), fun A hA => ?_⟩
  obtain ⟨a1, a2, _⟩ := SE.off hA
  have sF := same_new (o := .lst [.non, .int 5, .ref e, .str "ab", .ref l5, .ref l6, .ref l7, .ref l8, .ref l9, .ref lB, .ref lD]) hA
  refine ⟨d, g, c, b, A, _, rfl, SE.new hA, SqL.of upd_same, a1, a2, by show 0 < 11; decide, by show 11 < 1000; decide, fun v H' hv S' k' => ?_⟩
  have kE' : ∀ H'', Kp d g H' H'' → Kp d g HE H'' := fun H'' k => Kp.of sF (k'.trans k)
  have kD' : ∀ H'', Kp d g H' H'' → Kp d g HD H'' := fun H'' k => Kp.of sE (kE' H'' k)
  have kC' : ∀ H'', Kp d g H' H'' → Kp d g HC H'' := fun H'' k => Kp.of sD (kD' H'' k)
  have kB' : ∀ H'', Kp d g H' H'' → Kp d g HB H'' := fun H'' k => Kp.of sC (kC' H'' k)
  have kA' : ∀ H'', Kp d g H' H'' → Kp d g HA H'' := fun H'' k => Kp.of sB (kB' H'' k)
  have k9' : ∀ H'', Kp d g H' H'' → Kp d g H9 H'' := fun H'' k => Kp.of sA (kA' H'' k)
  have k8' : ∀ H'', Kp d g H' H'' → Kp d g H8 H'' := fun H'' k => Kp.of s9 (k9' H'' k)
  have k7' : ∀ H'', Kp d g H' H'' → Kp d g H7 H'' := fun H'' k => Kp.of s8 (k8' H'' k)
  have k6' : ∀ H'', Kp d g H' H'' → Kp d g H6 H'' := fun H'' k => Kp.of s7 (k7' H'' k)
  have k5' : ∀ H'', Kp d g H' H'' → Kp d g H5 H'' := fun H'' k => Kp.of s6 (k6' H'' k)
  have k4' : ∀ H'', Kp d g H' H'' → Kp d g H4 H'' := fun H'' k => Kp.of s5 (k5' H'' k)
  have k3' : ∀ H'', Kp d g H' H'' → Kp d g H3 H'' := fun H'' k => Kp.of s4 (k4' H'' k)
  have k2' : ∀ H'', Kp d g H' H'' → Kp d g H2 H'' := fun H'' k => Kp.of s3 (k3' H'' k)
  have k1' : ∀ H'', Kp d g H' H'' → Kp d g H1 H'' := fun H'' k => Kp.of s2 (k2' H'' k)
  have k0 : Kp d g H H' := Kp.of s1 (k1' H' (Kp.refl _))
  refine hR v H' S' k0 fun H'' k => ?_
  simp only [List.mem_cons, List.not_mem_nil, or_false] at hv
  rcases hv with rfl | rfl | rfl | rfl | rfl | rfl | rfl | rfl | rfl | rfl | rfl
  · exact .inl ⟨none, .oth .non rfl rfl, rfl⟩
  · exact .inl ⟨none, .oth (.int 5) rfl rfl, rfl⟩
  · exact .inl ⟨none, .oth (.dct (.inl (k1 H'' (k1' H'' k)))) rfl rfl, rfl⟩
  · exact .inl ⟨none, .oth (.str _) rfl rfl, rfl⟩
  · exact .inl ⟨some [none], .sq (.inl (SqL.of (k2 H'' (k2' H'' k)))) (.cons (.oth .non rfl) .nil) (by simp), rfl⟩
  · exact .inl ⟨some [some []], .sq (.inl (SqL.of (k4 H'' (k4' H'' k)))) (.cons (.tup (SqT.of (k3 H'' (k3' H'' k))) fun _ m => (nomatch m)) .nil) (by simp), rfl⟩
  · exact .inl ⟨some [some [.int 1]], .sq (.inl (SqL.of (k6 H'' (k6' H'' k)))) (.cons (.tup (SqT.of (k5 H'' (k5' H'' k))) fun x m => by rw [List.mem_singleton.mp m]; exact ⟨_, .int 1⟩) .nil) (by simp), rfl⟩
  · refine .inl ⟨some [some [.int 1, .int 2, .int 3]], .sq (.inl (SqL.of (k8 H'' (k8' H'' k)))) (.cons (.tup (SqT.of (k7 H'' (k7' H'' k))) fun x m => ?_) .nil) (by simp), rfl⟩
    simp only [List.mem_cons, List.not_mem_nil, or_false] at m
    rcases m with rfl | rfl | rfl <;> exact ⟨_, .int _⟩
  · exact .inl ⟨some [none], .sq (.inl (SqL.of (kA H'' (kA' H'' k)))) (.cons (.oth (.lst (SqL.of (k9 H'' (k9' H'' k)))) rfl) .nil) (by simp), rfl⟩
  · refine .inl ⟨some [some [.int 0, .int 0]], .sq (.inl (SqL.of (kC H'' (kC' H'' k)))) (.cons (.tup (SqT.of (kB H'' (kB' H'' k))) fun x m => ?_) .nil) (by simp), rfl⟩
    simp only [List.mem_cons, List.not_mem_nil, or_false] at m
    rcases m with rfl | rfl <;> exact ⟨_, .int _⟩
  · refine .inl ⟨some [some [.int 41, .int 0]], .sq (.inl (SqL.of (kE H'' (kE' H'' k)))) (.cons (.tup (SqT.of (kD H'' (kD' H'' k))) fun x m => ?_) .nil) (by simp), rfl⟩
    simp only [List.mem_cons, List.not_mem_nil, or_false] at m
    rcases m with rfl | rfl <;> exact ⟨_, .int _⟩
end
end SR
set_option Elab.async false
set_option linter.all false
set_option maxRecDepth 100000
set_option maxHeartbeats 4000000
namespace SR
open PySem PySem.Spec PyProof.Rows L2
section
variable {K : PySem.W.Frag} {H : Hp} {N N2 N3 : L2.St → Hp → Prop} {R : VK} {d g c : Addr} {b : Nat}
def two2 (p : Int × Int) : Option (List V) := some [.int p.1, .int p.2]
theorem val2_prs {us : List Addr} {ts : List (Int × Int)} (h : Paired (TupAt H) us ts) : Paired (Val2 K H) (us.map V.ref) (ts.map two2) := by
  induction h with
  | nil => exact .nil
  | cons f _ ih => exact .cons (val2_tup f) ih
theorem paired_app {α β : Type} {F : α → β → Prop} {a c : List α} {b d : List β} (h1 : Paired F a b) (h2 : Paired F c d) : Paired F (a ++ c) (b ++ d) := by
  induction h1 with
  | nil => exact h2
  | cons f _ ih => exact .cons f ih
theorem okT_sum {os : List (Option (List V))} (h : 40 < (os.map lenO).sum) : okT (some os) = false := by
  show (os.all pairO && (os.all fun o => decide (lenO o ≥ 1)) && decide ((os.map lenO).sum ≤ 40)) = false
  rw [decide_eq_false (by omega), Bool.and_false]
theorem len_two (ts : List (Int × Int)) : (ts.map two2).map lenO = ts.map Prod.fst := by
  rw [List.map_map]
  rfl
theorem sum_nn {ts : List (Int × Int)} (h : ∀ t ∈ ts, 1 ≤ t.1) : 0 ≤ (ts.map Prod.fst).sum := by
  have := len_sum1 ts h
  omega
/-- the list with v in place of one item -/
theorem bent_at {D : Addr} {us ws : List Addr} {ps qs : List (Int × Int)} {v : V} (hD : H D = some (.lst (us.map V.ref ++ [v] ++ ws.map V.ref))) (p1 : Paired (TupAt H) us ps) (p2 : Paired (TupAt H) ws qs) (o1 : ∀ t ∈ ps, 1 ≤ t.1) (o2 : ∀ t ∈ qs, 1 ≤ t.1) (l : ps.length + qs.length ≤ 50)
    (hv : (∃ o, Val2 K H v o ∧ (pairO o = false ∨ lenO o < 1 ∨ 40 < lenO o)) ∨ ∃ t s f, v = .ref t ∧ TupAt H t (s, f) ∧ 1 ≤ s ∧ (ps.map Prod.fst).sum + s + (qs.map Prod.fst).sum ≤ 40) : BentAt K H (.ref D) := by
  have n1 := sum_nn o1
  have n2 := sum_nn o2
  rcases hv with ⟨o, vo, bad⟩ | ⟨t, s, f, rfl, ht, s1, sm⟩
  · refine .inl ⟨some (ps.map two2 ++ [o] ++ qs.map two2), .sq (.inl (SqL.of hD)) (paired_app (paired_app (val2_prs p1) (.cons vo .nil)) (val2_prs p2)) ?_, ?_⟩
    · rw [List.length_append, List.length_append, List.length_map, List.length_map]
      show ps.length + 1 + qs.length ≤ 100
      omega
    · have m : o ∈ ps.map two2 ++ [o] ++ qs.map two2 := by simp
      rcases bad with e | e | e
      · exact okT_bad m (.inl e)
      · exact okT_bad m (.inr e)
      · refine okT_sum ?_
        rw [List.map_append, List.map_append, len_two, len_two, List.sum_append, List.sum_append]
        show 40 < _ + (lenO o + 0) + _
        omega
  · refine .inr ⟨D, ps ++ [(s, f)] ++ qs, rfl, ⟨us ++ [t] ++ ws, ?_, paired_app (paired_app p1 (.cons ht .nil)) p2⟩, fun u m => ?_, ?_⟩
    · rw [hD, List.map_append, List.map_append]
      rfl
    · rcases List.mem_append.mp m with m | m
      · rcases List.mem_append.mp m with m | m
        · exact o1 u m
        · rw [List.mem_singleton.mp m]
          exact s1
      · exact o2 u m
    · rw [List.map_append, List.map_append, List.sum_append, List.sum_append]
      show _ + (s + 0) + _ ≤ 40
      omega
def rStrI : List V → Hp → VK → Prop := fun xs H Q => ∃ i, xs = [.int i] ∧ i.natAbs.log2 < 1920 ∧ Q (.str (toString i)) H
end
end SR
set_option Elab.async false
set_option linter.all false
set_option maxRecDepth 100000
set_option maxHeartbeats 4000000
namespace SR
open PySem PySem.Spec PyProof.Rows L2
theorem cut_to (xs : List V) (n : Nat) (h : n ≤ xs.length) : cutV xs none (some (n : Int)) = xs.take n := by
  unfold cutV
  rw [HT.sIx_none, HT.sIx_nat, List.drop_zero, Nat.sub_zero, Nat.min_eq_left h]
theorem cut_from (xs : List V) (n : Nat) (h : n ≤ xs.length) : cutV xs (some (n : Int)) none = xs.drop n := by
  unfold cutV
  rw [HT.sIx_none, HT.sIx_nat, Nat.min_eq_left h]
  exact List.take_of_length_le (by rw [List.length_drop]; exact Nat.le_refl _)
section
variable {K : PySem.W.Frag} {H : Hp} {N N2 N3 : L2.St → Hp → Prop} {R : VK} {d g c : Addr} {b : Nat}
/-- an item for the bent list -/
def OdI (K : PySem.W.Frag) (H : Hp) (s f : Int) (v : V) : Prop := (∃ o, Val2 K H v o ∧ (pairO o = false ∨ lenO o < 1 ∨ 40 < lenO o)) ∨ ∃ t f', v = .ref t ∧ TupAt H t (s, f')
def t_odd15 : TE := (tLst (tCons (tTup (tCons (tC (.int 0)) (tCons (tVar 4) (tNil)))) (tCons (tTup (tCons (tUn (rU fun i => .int (-i)) (tC (.int 1))) (tCons (tVar 4) (tNil)))) (tCons (tTup (tCons (tC (.bl true)) (tCons (tVar 4) (tNil)))) (tCons (tTup (tCons (tVar 3) (tCons (tC (.bl true)) (tNil)))) (tCons (tTup (tCons (tVar 3) (tCons (tC .non) (tNil)))) (tCons (tTup (tCons (tCB rStrI (tCons (tVar 3) (tNil))) (tCons (tVar 4) (tNil)))) (tCons (tLst (tCons (tVar 3) (tCons (tVar 4) (tNil)))) (tNil)))))))))
theorem odd15 {x0 x1 x2 x5 : Option V} {s f : Int} (S : StB H d g c b) (s1 : 1 ≤ s) (s2 : s ≤ 40) (hR : ∀ O H' vs, StB H' d g c b → Same H H' → O ≠ d → O ≠ g → H' O = some (.lst vs) → vs.length = 7 → (∀ v ∈ vs, ∀ H'', Kp d g H' H'' → OdI K H'' s f v) → R (.ref O) H') :
    t_odd15 [x0, x1, x2, some (.int s), some (.int f), x5] H R := by
  refine ⟨_, rfl, sz (by show 2 ≤ 1000; decide), fun t1 h1 => ?_⟩
  obtain ⟨e1, S1, k1⟩ := new1 (o := .tup [.int 0, .int f]) S h1
  generalize upd H t1 (.tup [.int 0, .int f]) = H1 at e1 S1 k1 ⊢
  refine ⟨1, rfl, _, rfl, sz (by show 2 ≤ 1000; decide), fun t2 h2 => ?_⟩
  obtain ⟨e2, S2, k2⟩ := new1 (o := .tup [.int (-1), .int f]) S1 h2
  generalize upd H1 t2 (.tup [.int (-1), .int f]) = H2 at e2 S2 k2 ⊢
  refine ⟨_, rfl, sz (by show 2 ≤ 1000; decide), fun t3 h3 => ?_⟩
  obtain ⟨e3, S3, k3⟩ := new1 (o := .tup [.bl true, .int f]) S2 h3
  generalize upd H2 t3 (.tup [.bl true, .int f]) = H3 at e3 S3 k3 ⊢
  refine ⟨_, rfl, sz (by show 2 ≤ 1000; decide), fun t4 h4 => ?_⟩
  obtain ⟨e4, S4, k4⟩ := new1 (o := .tup [.int s, .bl true]) S3 h4
  generalize upd H3 t4 (.tup [.int s, .bl true]) = H4 at e4 S4 k4 ⊢
  refine ⟨_, rfl, sz (by show 2 ≤ 1000; decide), fun t5 h5 => ?_⟩
  obtain ⟨e5, S5, k5⟩ := new1 (o := .tup [.int s, .non]) S4 h5
  generalize upd H4 t5 (.tup [.int s, .non]) = H5 at e5 S5 k5 ⊢
  refine ⟨_, rfl, s, rfl, ?_, _, rfl, sz (by show 2 ≤ 1000; decide), fun t6 h6 => ?_⟩
  · have := (Nat.log2_lt (show s.natAbs ≠ 0 by omega)).mpr (show s.natAbs < 2 ^ 10 by omega)
    omega
  obtain ⟨e6, S6, k6⟩ := new1 (o := .tup [.str (toString s), .int f]) S5 h6
  generalize upd H5 t6 (.tup [.str (toString s), .int f]) = H6 at e6 S6 k6 ⊢
  refine ⟨_, rfl, _, rfl, sz (by show 2 ≤ 1000; decide), fun t7 h7 => ?_⟩
  obtain ⟨e7, S7, k7⟩ := new1 (o := .lst [.int s, .int f]) S6 h7
  generalize upd H6 t7 (.lst [.int s, .int f]) = H7 at e7 S7 k7 ⊢
  refine ⟨sz (by show 7 ≤ 1000; decide), fun O hO => ?_⟩
  obtain ⟨o1, o2, _⟩ := S7.off hO
  have e8 := same_new (o := .lst [.ref t1, .ref t2, .ref t3, .ref t4, .ref t5, .ref t6, .ref t7]) hO
  refine hR O _ _ (S7.new hO) (e1.trans (e2.trans (e3.trans (e4.trans (e5.trans (e6.trans (e7.trans e8))))))) o1 o2 upd_same rfl fun v hv H'' k => ?_
  have q7 : Kp d g H7 H'' := Kp.of e8 k
  have q6 : Kp d g H6 H'' := Kp.of e7 q7
  have q5 : Kp d g H5 H'' := Kp.of e6 q6
  have q4 : Kp d g H4 H'' := Kp.of e5 q5
  have q3 : Kp d g H3 H'' := Kp.of e4 q4
  have q2 : Kp d g H2 H'' := Kp.of e3 q3
  have q1 : Kp d g H1 H'' := Kp.of e2 q2
  have any2 : ∀ {x y : V}, (∃ t, AnyT K H'' x t) → (∃ t, AnyT K H'' y t) → ∀ z ∈ [x, y], ∃ t, AnyT K H'' z t := fun {x y} a b z m => by
    simp only [List.mem_cons, List.not_mem_nil, or_false] at m
    rcases m with rfl | rfl
    · exact a
    · exact b
  simp only [List.mem_cons, List.not_mem_nil, or_false] at hv
  rcases hv with rfl | rfl | rfl | rfl | rfl | rfl | rfl
  · exact .inl ⟨_, .tup (SqT.of (k1 H'' q1)) (any2 ⟨_, .int _⟩ ⟨_, .int _⟩), .inr (.inl (by show (0 : Int) < 1; decide))⟩
  · exact .inl ⟨_, .tup (SqT.of (k2 H'' q2)) (any2 ⟨_, .int _⟩ ⟨_, .int _⟩), .inr (.inl (by show (-1 : Int) < 1; decide))⟩
  · exact .inl ⟨_, .tup (SqT.of (k3 H'' q3)) (any2 ⟨_, .bl _⟩ ⟨_, .int _⟩), .inl rfl⟩
  · exact .inl ⟨_, .tup (SqT.of (k4 H'' q4)) (any2 ⟨_, .int _⟩ ⟨_, .bl _⟩), .inl rfl⟩
  · exact .inl ⟨_, .tup (SqT.of (k5 H'' q5)) (any2 ⟨_, .int _⟩ ⟨_, .non⟩), .inl rfl⟩
  · exact .inl ⟨_, .tup (SqT.of (k6 H'' q6)) (any2 ⟨_, .str _⟩ ⟨_, .int _⟩), .inl rfl⟩
  · exact .inl ⟨none, .oth (.lst (SqL.of (k7 H'' q7))) rfl, .inl rfl⟩
end
end SR
set_option Elab.async false
set_option linter.all false
set_option maxRecDepth 100000
set_option maxHeartbeats 4000000
namespace SR
open PySem PySem.Spec PyProof.Rows L2
section
variable {K : PySem.W.Frag} {H : Hp} {N N2 N3 : L2.St → Hp → Prop} {R : VK} {d g c : Addr} {b : Nat}
def t_pk15 (K : PySem.W.Frag) : TE := (tCall (spPick K) [] E0 (tCons (tVar 0) (tCons (tOp rCat (tVar 5) (tLst (tCons (tTup (tCons (tC (.int 41)) (tCons (tVar 4) (tNil)))) (tCons (tTup (tCons (tOp qAdd (tVar 3) (tC (.int 40))) (tCons (tVar 4) (tNil)))) (tCons (tTup (tCons (tVar 3) (tCons (tOp qAdd (tVar 4) (tC (.int 1))) (tNil)))) (tNil)))))) (tNil))))
theorem pk15 {x1 x2 : Option V} {O : Addr} {s f : Int} {vs : List V} (S : StB H d g c (b + 1)) (s1 : 1 ≤ s) (hO : H O = some (.lst vs)) (vl : vs.length = 7) (od : ∀ v ∈ vs, ∀ H'', Kp d g H H'' → OdI K H'' s f v)
    (hR : ∀ v H', StB H' d g c b → Kp d g H H' → (∀ H'', Kp d g H' H'' → OdI K H'' s f v) → R v H') :
    t_pk15 K [some (.ref d), x1, x2, some (.int s), some (.int f), some (.ref O)] H R := by
  refine ⟨_, rfl, _, rfl, _, rfl, sz (by show 2 ≤ 1000; decide), fun t1 h1 => ?_⟩
  obtain ⟨e1, S1, k1⟩ := new1 (o := .tup [.int 41, .int f]) S h1
  generalize upd H t1 (.tup [.int 41, .int f]) = H1 at e1 S1 k1 ⊢
  refine ⟨_, rfl, _, _, rfl, rfl, _, rfl, sz (by show 2 ≤ 1000; decide), fun t2 h2 => ?_⟩
  obtain ⟨e2, S2, k2⟩ := new1 (o := .tup [.int (s + 40), .int f]) S1 h2
  generalize upd H1 t2 (.tup [.int (s + 40), .int f]) = H2 at e2 S2 k2 ⊢
  refine ⟨_, rfl, _, rfl, _, _, rfl, rfl, sz (by show 2 ≤ 1000; decide), fun t3 h3 => ?_⟩
  obtain ⟨e3, S3, k3⟩ := new1 (o := .tup [.int s, .int (f + 1)]) S2 h3
  generalize upd H2 t3 (.tup [.int s, .int (f + 1)]) = H3 at e3 S3 k3 ⊢
  refine ⟨sz (by show 3 ≤ 1000; decide), fun l hl => ?_⟩
  obtain ⟨e4, S4, k4⟩ := new1 (o := .lst [.ref t1, .ref t2, .ref t3]) S3 hl
  have L4 : upd H3 l (.lst [.ref t1, .ref t2, .ref t3]) l = some (.lst [.ref t1, .ref t2, .ref t3]) := upd_same
  generalize upd H3 l (.lst [.ref t1, .ref t2, .ref t3]) = H4 at e4 S4 k4 L4 ⊢
  have e14 := e1.trans (e2.trans (e3.trans e4))
  refine ⟨O, l, _, _, rfl, rfl, e14 _ _ hO, L4, by rw [vl]; exact sz (by show 10 ≤ 1000; decide), fun A hA => ?_⟩
  obtain ⟨a1, a2, _⟩ := S4.off hA
  have e5 := same_new (o := .lst (vs ++ [.ref t1, .ref t2, .ref t3])) hA
  refine ⟨d, g, c, b, A, _, rfl, S4.new hA, SqL.of upd_same, a1, a2, by rw [List.length_append, vl]; show 0 < 7 + 3; decide, by rw [List.length_append, vl]; show 7 + 3 < 1000; decide, fun v H' hv S' k' => ?_⟩
  have q4 : ∀ H'', Kp d g H' H'' → Kp d g H4 H'' := fun H'' k => Kp.of e5 (k'.trans k)
  have q3 : ∀ H'', Kp d g H' H'' → Kp d g H3 H'' := fun H'' k => Kp.of e4 (q4 H'' k)
  have q2 : ∀ H'', Kp d g H' H'' → Kp d g H2 H'' := fun H'' k => Kp.of e3 (q3 H'' k)
  have q1 : ∀ H'', Kp d g H' H'' → Kp d g H1 H'' := fun H'' k => Kp.of e2 (q2 H'' k)
  have q0 : ∀ H'', Kp d g H' H'' → Kp d g H H'' := fun H'' k => Kp.of e1 (q1 H'' k)
  refine hR v H' S' (q0 H' (Kp.refl _)) fun H'' k => ?_
  have any2 : ∀ {x y : Int}, ∀ z ∈ [V.int x, V.int y], ∃ t, AnyT K H'' z t := fun {x y} z m => by
    simp only [List.mem_cons, List.not_mem_nil, or_false] at m
    rcases m with rfl | rfl <;> exact ⟨_, .int _⟩
  rcases List.mem_append.mp hv with m | m
  · exact od v m H'' (q0 H'' k)
  · simp only [List.mem_cons, List.not_mem_nil, or_false] at m
    rcases m with rfl | rfl | rfl
    · exact .inl ⟨_, .tup (SqT.of (k1 H'' (q1 H'' k))) any2, .inr (.inr (by show (40 : Int) < 41; decide))⟩
    · exact .inl ⟨_, .tup (SqT.of (k2 H'' (q2 H'' k))) any2, .inr (.inr (by show 40 < s + 40; omega))⟩
    · exact .inr ⟨t3, f + 1, rfl, k3 H'' (q3 H'' k)⟩
@[irreducible] def xPk15 := @t_pk15
theorem xPk15_eq : @xPk15 = @t_pk15 := by
  unfold xPk15
  rfl
def t_be2 (K : PySem.W.Frag) : TS := (tRet (tOp rCat (tOp rCat (tSl (rSlL K) (tVar 1) (tNoPart) (tPart (tVar 2))) (tLst (tCons (t_pk15 K) (tNil)))) (tSl (rSlL K) (tVar 1) (tPart (tOp qAdd (tVar 2) (tC (.int 1)))) (tNoPart))))
theorem be2 {F O : Addr} {ts : List (Int × Int)} {n : Nat} {s f : Int} {vs : List V} (S : StB H d g c (b + 1)) (f1 : F ≠ d) (f2 : F ≠ g) (hF : PairsL H F ts) (pos : ∀ t ∈ ts, 1 ≤ t.1) (sm : (ts.map Prod.fst).sum ≤ 40) (hn : ts[n]? = some (s, f)) (hO : H O = some (.lst vs)) (vl : vs.length = 7) (od : ∀ v ∈ vs, ∀ H'', Kp d g H H'' → OdI K H'' s f v)
    (hR : ∀ v H', StB H' d g c b → Kp d g H H' → (∀ H'', Kp d g H' H'' → BentAt K H'' v) → R v H') :
    t_be2 K { nx := N, rt := R, bk := N2, ct := N3 } [some (.ref d), some (.ref F), some (.int (n : Int)), some (.int s), some (.int f), some (.ref O)] H := by
  obtain ⟨us, F0, pr⟩ := hF
  have ul := paired_len pr
  have nl : n < ts.length := (List.getElem?_eq_some_iff.mp hn).1
  have s1 := pos _ (List.mem_of_getElem? hn)
  have tl := len_sum1 ts pos
  have el : (us.map V.ref).length = us.length := List.length_map _
  unfold t_be2
  rw [← xPk15_eq]
  refine ⟨_, rfl, _, rfl, (n : Int), rfl, F, _, rfl, SqL.of F0, fun P hP => ?_⟩
  rw [cut_to _ n (by omega)]
  obtain ⟨e1, S1, k1⟩ := new1 (o := .lst ((us.map V.ref).take n)) S hP
  have P1 : upd H P (.lst ((us.map V.ref).take n)) P = some (.lst ((us.map V.ref).take n)) := upd_same
  obtain ⟨p1, p2, _⟩ := S.off hP
  generalize upd H P (.lst ((us.map V.ref).take n)) = H1 at e1 S1 k1 P1 ⊢
  show xPk15 K [some (.ref d), some (.ref F), some (.int (n : Int)), some (.int s), some (.int f), some (.ref O)] H1 _
  rw [xPk15_eq]
  refine pk15 S1 s1 (e1 _ _ hO) vl (fun v m H'' k => od v m H'' (Kp.of e1 k)) fun v H2 S2 k2 ov => ?_
  refine ⟨sz (by show 1 ≤ 1000; decide), fun l hl => ?_⟩
  obtain ⟨e3, S3, k3⟩ := new1 (o := .lst [v]) S2 hl
  have L3 : upd H2 l (.lst [v]) l = some (.lst [v]) := upd_same
  generalize upd H2 l (.lst [v]) = H3 at e3 S3 k3 L3 ⊢
  have P3 := e3 _ _ (k2 _ _ p1 p2 P1)
  refine ⟨P, l, _, _, rfl, rfl, P3, L3, ?_, fun M hM => ?_⟩
  · rw [List.length_take]
    exact sz (by show min n _ + 1 ≤ 1000; omega)
  obtain ⟨e4, S4, k4⟩ := new1 (o := .lst ((us.map V.ref).take n ++ [v])) S3 hM
  have M4 : upd H3 M (.lst ((us.map V.ref).take n ++ [v])) M = some (.lst ((us.map V.ref).take n ++ [v])) := upd_same
  generalize upd H3 M (.lst ((us.map V.ref).take n ++ [v])) = H4 at e4 S4 k4 M4 ⊢
  have kH4 : Kp d g H H4 := Kp.of e1 (k2.trans (Kp.of_same (e3.trans e4)))
  refine ⟨_, rfl, _, rfl, _, _, rfl, rfl, (n : Int) + 1, rfl, F, _, rfl, SqL.of (kH4 _ _ f1 f2 F0), fun Z hZ => ?_⟩
  rw [show (n : Int) + 1 = ((n + 1 : Nat) : Int) by omega, cut_from _ (n + 1) (by omega)]
  obtain ⟨e5, S5, k5⟩ := new1 (o := .lst ((us.map V.ref).drop (n + 1))) S4 hZ
  have Z5 : upd H4 Z (.lst ((us.map V.ref).drop (n + 1))) Z = some (.lst ((us.map V.ref).drop (n + 1))) := upd_same
  generalize upd H4 Z (.lst ((us.map V.ref).drop (n + 1))) = H5 at e5 S5 k5 Z5 ⊢
  refine ⟨M, Z, _, _, rfl, rfl, e5 _ _ M4, Z5, ?_, fun D hD => ?_⟩
  · rw [List.length_append, List.length_take, List.length_drop]
    exact sz (by show min n _ + 1 + _ ≤ 1000; omega)
  obtain ⟨e6, S6, k6⟩ := new1 (o := .lst ((us.map V.ref).take n ++ [v] ++ (us.map V.ref).drop (n + 1))) S5 hD
  generalize upd H5 D (.lst ((us.map V.ref).take n ++ [v] ++ (us.map V.ref).drop (n + 1))) = H6 at e6 S6 k6 ⊢
  have k26 : Kp d g H2 H6 := Kp.of_same (e3.trans (e4.trans (e5.trans e6)))
  have k06 : Kp d g H H6 := kH4.trans (Kp.of_same (e5.trans e6))
  refine hR _ H6 S6 k06 fun H'' k => ?_
  have k0 := k06.trans k
  have prK : Paired (TupAt H'') us ts := paired_imp (fun t p z => kp_at (o := .tup [.int p.1, .int p.2]) S k0 z (fun _ z => nomatch z) fun _ _ z => nomatch z) pr
  have dropP : Paired (TupAt H'') (us.drop (n + 1)) (ts.drop (n + 1)) := by
    have : ∀ {us : List Addr} {ts : List (Int × Int)}, Paired (TupAt H'') us ts → ∀ m : Nat, Paired (TupAt H'') (us.drop m) (ts.drop m) := fun {us ts} h => by
      induction h with
      | nil => intro m; rw [List.drop_nil, List.drop_nil]; exact .nil
      | cons f t ih =>
        intro m
        cases m with
        | zero => exact .cons f t
        | succ m => exact ih m
    exact this prK _
  have split : ts = ts.take n ++ [(s, f)] ++ ts.drop (n + 1) := by
    rw [List.append_assoc]
    have : ts.drop n = (s, f) :: ts.drop (n + 1) := by
      rw [List.drop_eq_getElem_cons nl]
      congr 1
      exact Option.some.inj ((List.getElem?_eq_getElem nl).symm.trans hn)
    show ts = ts.take n ++ ((s, f) :: ts.drop (n + 1))
    rw [← this, List.take_append_drop]
  have sum3 : (ts.map Prod.fst).sum = ((ts.take n).map Prod.fst).sum + s + ((ts.drop (n + 1)).map Prod.fst).sum := by
    have := congrArg (fun l : List (Int × Int) => (l.map Prod.fst).sum) split
    rw [List.map_append, List.map_append, List.sum_append, List.sum_append] at this
    have this : (ts.map Prod.fst).sum = ((ts.take n).map Prod.fst).sum + (s + 0) + ((ts.drop (n + 1)).map Prod.fst).sum := this
    omega
  refine bent_at (us := us.take n) (ws := us.drop (n + 1)) (ps := ts.take n) (qs := ts.drop (n + 1)) (v := v) ?_ (paired_take prK n) dropP (fun t m => pos t (List.mem_of_mem_take m)) (fun t m => pos t (List.mem_of_mem_drop m)) ?_ ?_
  · rw [k6 H'' k, List.map_take, List.map_drop]
  · rw [List.length_take, List.length_drop]
    omega
  · rcases ov H'' (k26.trans k) with z | ⟨t, f', rfl, ht⟩
    · exact .inl z
    · exact .inr ⟨t, s, f', rfl, ht, s1, by omega⟩
end
end SR
set_option Elab.async false
set_option linter.all false
set_option maxRecDepth 100000
set_option maxHeartbeats 4000000
namespace SR
open PySem PySem.Spec PyProof.Rows L2
section
variable {K : PySem.W.Frag} {H : Hp} {N N2 N3 : L2.St → Hp → Prop} {R : VK} {d g c : Addr} {b : Nat}
def spBent15 (K : PySem.W.Frag) : Sp := fun vs H Q _ => ∃ (d g c : Addr) (b : Nat) (F : Addr) (ts : List (Int × Int)), vs = [.ref d, .ref F] ∧ StB H d g c (b + 3) ∧ F ≠ d ∧ F ≠ g ∧ PairsL H F ts ∧ (∀ t ∈ ts, 1 ≤ t.1) ∧ (ts.map Prod.fst).sum ≤ 40 ∧
  ∀ v H', StB H' d g c b → Kp d g H H' → (∀ H'', Kp d g H' H'' → BentAt K H'' v) → Q v H'
@[irreducible] def xBe1 := @t_be1
theorem xBe1_eq : @xBe1 = @t_be1 := by
  unfold xBe1
  rfl
@[irreducible] def xBe2 := @t_be2
theorem xBe2_eq : @xBe2 = @t_be2 := by
  unfold xBe2
  rfl
@[irreducible] def xOdd15 := @t_odd15
theorem xOdd15_eq : @xOdd15 = @t_odd15 := by
  unfold xOdd15
  rfl
def t_beRest (K : PySem.W.Frag) : TS := (tSeq (tAsg (tCall spTake [] E0 (tCons (tVar 0) (tCons (tCB (qLen K) (tCons (tVar 1) (tNil))) (tNil)))) (gName 2))
  (tSeq (tAsg (tOp (rIxL K) (tVar 1) (tVar 2)) (gTup K 2 (gCons (gName 3) (gCons (gName 4) (gNil)))))
  (tSeq (tAsg t_odd15 (gName 5))
  (t_be2 K))))
def t_bent15 (K : PySem.W.Frag) : TS := tSeq (tIfS (tOr (tTest (tOp (rEqD K) (tVar 1) (tLst (tNil)))) (tTest (tOp rEq (tCall spTake [] E0 (tCons (tVar 0) (tCons (tC (.int 4)) (tNil)))) (tC (.int 0)))))
  (tRet (t_be1 K))
  (tNext))
  (t_beRest K)
theorem beRest {F : Addr} {ts : List (Int × Int)} (S : StB H d g c (b + 2)) (f1 : F ≠ d) (f2 : F ≠ g) (hF : PairsL H F ts) (pos : ∀ t ∈ ts, 1 ≤ t.1) (sm : (ts.map Prod.fst).sum ≤ 40) (ne : ts ≠ [])
    (hR : ∀ v H', StB H' d g c b → Kp d g H H' → (∀ H'', Kp d g H' H'' → BentAt K H'' v) → R v H') :
    t_beRest K { nx := N, rt := R, bk := N2, ct := N3 } [some (.ref d), some (.ref F), none, none, none, none] H := by
  obtain ⟨us, F0, pr⟩ := hF
  have ul := paired_len pr
  have tl := len_sum1 ts pos
  have t0 : 0 < ts.length := List.length_pos_iff.mpr ne
  unfold t_beRest
  rw [← xOdd15_eq, ← xBe2_eq]
  refine ⟨_, rfl, _, rfl, F, _, rfl, .inl (SqL.of F0), d, g, c, b + 1, ((us.map V.ref).length : Int), rfl, S, by rw [List.length_map]; omega, by rw [List.length_map]; omega, fun u H1 u0 u1 S1 k1 => ?_⟩
  rw [List.length_map] at u1
  obtain ⟨n, rfl⟩ : ∃ n : Nat, u = (n : Int) := ⟨u.toNat, by omega⟩
  have nl : n < us.length := by omega
  obtain ⟨p, hp, hat⟩ := paired_at pr (List.getElem?_eq_getElem nl)
  have hF1 : PairsL H1 F ts := PairsL.kp ⟨us, F0, pr⟩ S k1 f1 f2
  have F1 := k1 _ _ f1 f2 F0
  have hat1 : TupAt H1 us[n] p := kp_at (o := .tup [.int p.1, .int p.2]) S k1 hat (fun _ z => nomatch z) fun _ _ z => nomatch z
  have at_ : atI (us.map V.ref) (n : Int) = some (.ref us[n]) := by
    have ix : ixN (us.map V.ref).length (n : Int) = some n := by
      unfold ixN
      rw [if_pos (Int.natCast_nonneg n), if_pos (by rw [List.length_map]; omega)]
      rw [Int.toNat_natCast]
    unfold atI
    rw [ix]
    show (us.map V.ref)[n]? = _
    rw [List.getElem?_map, List.getElem?_eq_getElem nl]
    rfl
  refine ⟨_, rfl, _, rfl, F, _, (n : Int), _, rfl, rfl, SqL.of F1, at_, us[n], _, rfl, SqT.of hat1, rfl, _, _, rfl, _, _, rfl, rfl, ?_⟩
  have s1 := pos p (List.mem_of_getElem? hp)
  have s2 : p.1 ≤ 40 := by
    have : ∀ l : List (Int × Int), (∀ t ∈ l, 1 ≤ t.1) → ∀ t ∈ l, t.1 ≤ (l.map Prod.fst).sum := fun l => by
      induction l with
      | nil => intro _ t m; cases m
      | cons q l ih =>
        intro h t m
        have a := sum_nn fun t m => h t (List.mem_cons_of_mem _ m)
        have q1 := h q List.mem_cons_self
        rw [List.map_cons, List.sum_cons]
        rcases List.mem_cons.mp m with rfl | m
        · omega
        · have := ih (fun t m => h t (List.mem_cons_of_mem _ m)) t m
          omega
    have := this ts pos p (List.mem_of_getElem? hp)
    omega
  show xOdd15 [some (.ref d), some (.ref F), some (.int (n : Int)), some (.int p.1), some (.int p.2), none] H1 _
  rw [xOdd15_eq]
  refine odd15 (K := K) S1 s1 s2 fun O H2 vs S2 e2 o1 o2 hO vl od => ?_
  show xBe2 K _ [some (.ref d), some (.ref F), some (.int (n : Int)), some (.int p.1), some (.int p.2), some (.ref O)] H2
  rw [xBe2_eq]
  exact be2 S2 f1 f2 (hF1.same e2) pos sm hp hO vl od fun v H3 S3 k3 bt => hR v H3 S3 (k1.trans (Kp.of e2 k3)) bt
@[irreducible] def xBeRest := @t_beRest
theorem xBeRest_eq : @xBeRest = @t_beRest := by
  unfold xBeRest
  rfl
theorem pure_bent15 (vs : List V) (H : Hp) (Q : VK) (E : XK) (h : spBent15 K vs H Q E) : t_bent15 K { nx := fun _ H' => Q .non H', rt := Q } (start ["state", "some", "at", "size", "offset", "odd"] vs) H := by
  obtain ⟨d, g, c, b, F, ts, rfl, S, f1, f2, hF, pos, sm, q⟩ := h
  unfold t_bent15
  rw [← xBe1_eq, ← xBeRest_eq]
  refine seq_go (ifs_go (or_go15 (tt_go15 ⟨_, rfl, sz (Nat.zero_le _), fun E hE => ?_⟩)))
  obtain ⟨e1, S1, k1⟩ := new1 (o := .lst []) S hE
  have E1 : upd H E (.lst []) E = some (.lst []) := upd_same
  generalize upd H E (.lst []) = H1 at e1 S1 k1 E1 ⊢
  refine ⟨lstD ts, .list [], dp_pairs (hF.same e1), .lst (SqL.of E1) .nil, lst_shaped ts, shaped_ints [], _, rfl, ?_⟩
  have fin : ∀ H2, StB H2 d g c (b + 1) → Kp d g H H2 → xBe1 K [some (.ref d), some (.ref F), none, none, none, none] H2 Q := fun H2 S2 k2 => by
    rw [xBe1_eq]
    exact be1 S2 fun v H3 S3 k3 bt => q v H3 S3 (k2.trans k3) bt
  cases ts with
  | nil => exact iteT (iteT (fin H1 (S1.mono (by omega)) (Kp.of_same e1)))
  | cons t ts =>
    refine iteF (tt_go15 ⟨_, rfl, d, g, c, b + 2, 4, rfl, S1, by decide, by decide, fun u H2 u0 u1 S2 k2 => ⟨rfl, _, rfl, ?_⟩⟩)
    have k02 : Kp d g H H2 := Kp.of e1 k2
    by_cases z : V.int u = V.int 0
    · rw [decide_eq_true z]
      exact iteT (fin H2 (S2.mono (by omega)) k02)
    · rw [decide_eq_false z]
      refine iteF ?_
      show xBeRest K _ [some (.ref d), some (.ref F), none, none, none, none] H2
      rw [xBeRest_eq]
      exact beRest S2 f1 f2 (PairsL.kp hF S k02 f1 f2) pos sm (by simp) fun v H3 S3 k3 bt => q v H3 S3 (k02.trans k3) bt
end
end SR
set_option Elab.async false
set_option linter.all false
set_option maxRecDepth 100000
set_option maxHeartbeats 1000000
namespace SR
open PySem PySem.Spec PyProof.Rows L2
theorem kb_ofD {K : PySem.W.Frag} {x qual : Str} {params : Arguments} {body : List Stmt} {scope : Scope} {dvs : List V} {kws : List (Str × V)} {f : Addr} {fd : FuncData} {ps : List Str} (F : FunD K x qual params body scope dvs kws f fd) (hd : dvs ≠ []) (n : Nat) (ks : List Str) (g : {α : Type} → List α → List α → List α)
    (hrel : ∀ {vs zs : List V} {us ws : List Value}, Vals vs us → Vals zs ws → Vals (g vs zs) (g us ws))
    (h : ∀ (T : Addr) (kV doc pm : Value) (an : Option Addr) (cdv ct : Value) (us ws its : List Value), us.length = n → ws.length = ks.length → its.length = dvs.length →
      ∃ k, bindArgs (PySem.W.fnOf x qual params body scope (.ref T) kV doc pm an cdv ct) ⟨us, ks.zip ws⟩ = seqItems? (.ref T) >>= k ∧ k (some its.toArray) = pure (ps.zip (g us ws))) :
    KBn K fd ps n ks (fun us ws => g us ws) (fun vs zs => g vs zs) := by
  obtain ⟨oc, od, dV, kV, doc, pm, an, cdv, ct, osl, rfl, lk, hcd, hD, hK⟩ := F.ex
  rcases hD with ⟨e, _⟩ | ⟨_, T, o, its, m, rfl, lo, od', rv⟩
  · exact absurd e hd
  · refine ⟨fun s us ws X l1 l2 M A E Q q => ?_, hrel⟩
    obtain ⟨k, e1, e2⟩ := h T kV doc pm an cdv ct us ws its l1 l2 rv.length.symm
    rw [e1]
    refine wpAny_bind (wpAny_seqItems (X _ _ lo) od' ?_)
    rw [e2]
    exact wpAny_pure q
end SR
set_option Elab.async false
set_option linter.all false
set_option maxRecDepth 100000
set_option maxHeartbeats 1000000
namespace PySem.W
open PySem PySem.Calls PyProof.Rows PyProof.V PySem.Spec
section
variable {prog : Program} {w : World} {K : Type} [DecidableEq K] {knd : KeyKind prog w K} {A : Around} {E : Value → Shared → Prop} {s : Shared} {r d : Addr} {kvs : List (K × Value)} {ep : Nat}
theorem code_tuple_items {Q₁ : Value → Shared → Prop} (hh : A.handled = none) (hv : s.heap.IsItemsView r d) (hm : s.heap.DictAt knd d kvs ep) (hn : kvs.length ≤ sizeLine)
    (h : ∀ (h' : Heap) (tk : Nat) (as : List Addr), (∀ b o, s.heap.get? b = some o → h'.get? b = some o) → as.length = kvs.length → KdxG knd kvs s.heap.objs.size h' as → Q₁ (.ref h'.objs.size) { s with heap := h'.push { cls := .type "tuple", data := .seq (as.map Value.ref).toArray }, toks := tk }) :
    codeAny (model prog w) A (.call (.builtin "tuple.__new__") ⟨[.type "tuple", .ref r], []⟩) (wants Q₁ E) s := by
  refine codeAny_of_tree ?_
  show wpAny _ A.in1 (do
    checkBuiltinCall "tuple.__new__" ⟨[.type "tuple", .ref r], []⟩
    again (.builtin "tuple.__new__" ⟨[.type "tuple", .ref r], []⟩)) _ _ s
  have quiet := plainId_quiet F.plain_tuple_new
  refine wpAny_bind (wpAny_of_eq (F.newCall_tuple_1 _) (wpAny_pure ⟨quiet _, ?_⟩))
  refine codeAny_builtin F.entry_tuple_new ?_
  rw [Around.under_plainId F.plain_tuple_new]
  have k1 := sub_tuple_self
  have k2 := init_tuple_lookup
  have k3 := madeHere_tuple
  have hTI : s.TypeIs (.ref r) "dict_items" := let ⟨o, ho, hc, _⟩ := hv; ⟨o, ho, hc⟩
  have hh1 : A.in1.handled = none := hh
  wp_walk using wpAny_typeOf hTI, kdx_collect (A := A.in1) hh1 hv hm hn
  intro h' tk as hk hl hG
  show wpAny _ _ (Builtin.Tuple.tupleExact (as.map Value.ref).toArray >>= fun v => ret v) _ _ _
  delta Builtin.Tuple.tupleExact
  refine wpAny_bind (wpAny_newObj_type ?_ (by show (as.map Value.ref).toArray.size ≤ sizeLine; rw [List.size_toArray, List.length_map, hl]; exact hn))
  refine wpAny_pure ?_
  exact h h' tk as hk hl hG
theorem call_tuple_items {Q : Value → Shared → Prop} (hh : A.handled = none) (hv : s.heap.IsItemsView r d) (hm : s.heap.DictAt knd d kvs ep) (hn : kvs.length ≤ sizeLine)
    (hQ : ∀ (h' : Heap) (tk : Nat) (as : List Addr), (∀ b o, s.heap.get? b = some o → h'.get? b = some o) → as.length = kvs.length → KdxG knd kvs s.heap.objs.size h' as → Q (.ref h'.objs.size) { s with heap := h'.push { cls := .type "tuple", data := .seq (as.map Value.ref).toArray }, toks := tk }) :
    wpAny (model prog w) A (call (.type "tuple") [.ref r]) Q E s := by
  refine callType_codes F.called_tuple (F.typeCall_tuple_1 _) F.entry_object_init (Q₁ := fun o s' => s'.TypeIs o "tuple" ∧ Q o s') ?_ fun o s' ho => ?_
  · exact code_tuple_items (A := A.in1) hh hv hm hn fun h' tk as hk hl hG => ⟨⟨_, Heap.get?_push_size _ rfl, rfl⟩, hQ h' tk as hk hl hG⟩
  · refine ⟨ho.1, F.args_object_init_2 o _, ?_⟩
    exact object_init_meets F.called_tuple.init.lookup F.called_tuple.made (by decide) prog w _ _ s' ⟨ho.1, rfl, ho.2⟩
end
end PySem.W
set_option Elab.async false
set_option linter.all false
set_option maxRecDepth 100000
set_option maxHeartbeats 2000000
namespace SR
open PySem PySem.Spec PyProof.Rows L2
/-- tuple(d.items()): the new tuple stands behind the new pairs -/
def rItemsT : V → Hp → VK → Prop := fun x H Q => ∃ (d : Addr) (kvs : List (Key × V)), x = .ref d ∧ H d = some (.dK kvs) ∧
  ∀ (H' : Hp) (p : Addr) (ts : List Addr), (∀ b o, H b = some o → H' b = some o) → H p = none → (∀ t ∈ ts, H t = none) → p ∉ ts → H' p = some (.tup (ts.map V.ref)) → Paired (fun (t : Addr) (q : Key × V) => H' t = some (.tup [kV q.1, q.2])) ts kvs → Q (.ref p) H'
def tTupItems (te : TE) : TE := fun σ H Q => te σ H fun x H1 => rItemsT x H1 Q
section
variable {X : Cx} {e : Expr} {te : TE} {p apos cpos pos : Pos}
theorem items_tup {pins : List (Addr × Obj)} {σ : L2.St} {H : Hp} {s : Shared} {h' : Heap} {tk : Nat} {kvs : List (Key × V)} {vs : List (Key × Value)} {as : List Addr} (I : Inv X pins σ H s) (hz : kvs.length ≤ sizeLine) (kv : KV kvs vs) (hsz : s.heap.objs.size ≤ h'.objs.size)
    (hk : ∀ b o, s.heap.get? b = some o → h'.get? b = some o) (hl : as.length = vs.length) (hG : PySem.W.KdxG (mixKind X.prog X.w) vs s.heap.objs.size h' as) :
    ∃ H' : Hp, (∀ b o, H b = some o → H' b = some o) ∧ H h'.objs.size = none ∧ (∀ t ∈ as, H t = none) ∧ h'.objs.size ∉ as ∧ H' h'.objs.size = some (.tup (as.map V.ref)) ∧ Paired (fun (t : Addr) (q : Key × V) => H' t = some (.tup [kV q.1, q.2])) as kvs ∧ Inv X pins σ H' { s with heap := h'.push { cls := .type "tuple", data := .seq (as.map Value.ref).toArray }, toks := tk } := by
  have lk : kvs.length = vs.length := Paired.length kv
  have up : ∀ t ∈ as, t < h'.objs.size := fun t ht => by
    obtain ⟨j, hj, e⟩ := List.mem_iff_getElem.mp ht
    obtain ⟨key, k, x, f1, f2, f3⟩ := hG.pairs j t (by rw [List.getElem?_eq_getElem hj, e])
    exact Heap.lt_size f3
  have hSn : h'.objs.size ∉ as := fun z => Nat.lt_irrefl _ (up _ z)
  have nd : as.Nodup := List.Pairwise.imp (fun {a b} (h : a < b) => Nat.ne_of_lt h) hG.rise
  have new : ∀ t ∈ as, H t = none := fun t ht => I.hok.fresh (Nat.le_of_lt (hG.above t ht))
  have newS : H h'.objs.size = none := I.hok.fresh hsz
  have off : ∀ b, b ∉ as → b ≠ h'.objs.size → LiI.putT (upd H h'.objs.size (.tup (as.map V.ref))) as kvs b = H b := fun b h1 h2 => by rw [LiI.putT_off as kvs _ h1, upd_ne h2]
  have low : ∀ b o, s.heap.get? b = some o → b ∉ as ∧ b ≠ h'.objs.size := fun b o e => ⟨fun z => absurd (Heap.lt_size e) (Nat.not_lt.mpr (Nat.le_of_lt (hG.above b z))), fun z => absurd (Heap.lt_size e) (by rw [z]; exact Nat.not_lt.mpr hsz)⟩
  have atP := LiI.putT_at as kvs (upd H h'.objs.size (.tup (as.map V.ref))) (by omega) nd
  have kp : ∀ b u, H b = some u → (LiI.putT (upd H h'.objs.size (.tup (as.map V.ref))) as kvs) b = some u := fun b u e => by
    rw [off b (fun z => by rw [new b z] at e; cases e) (fun z => by rw [z, newS] at e; cases e)]
    exact e
  have eS : LiI.putT (upd H h'.objs.size (.tup (as.map V.ref))) as kvs h'.objs.size = some (.tup (as.map V.ref)) := by rw [LiI.putT_off as kvs _ hSn, upd_same]
  have hk2 : ∀ b o, h'.get? b = some o → (h'.push { cls := .type "tuple", data := .seq (as.map Value.ref).toArray }).get? b = some o := fun b o q => Heap.get?_push_of_some _ q
  refine ⟨LiI.putT (upd H h'.objs.size (.tup (as.map V.ref))) as kvs, kp, newS, new, hSn, eS, atP, ?_⟩
  refine I.call' (ch := []) rfl ⟨fun b o q _ _ _ => hk2 b o (hk b o q), fun b o q _ _ _ => ⟨o.slots, hk2 b o (hk b o q)⟩, fun b o q n _ => ?_, fun b o q _ => ⟨o, hk2 b o (hk b o q)⟩, fun b xs q => kp b _ q, fun b o u q => kp b _ q, fun b ps q => ⟨#[], by rw [kp b _ q]; simp⟩⟩ (fun b u q => ?_) I.bare fun b z => by simp at z
  · obtain ⟨z1, z2⟩ := low b o q
    rw [off b z1 z2]
    exact n
  · by_cases hb : b ∈ as
    · obtain ⟨j, pk, e1, e2, e3⟩ := LiI.paired_ix atP hb
      rw [e3] at q
      cases q
      obtain ⟨key, k, x, f1, f2, f3⟩ := hG.pairs j b e1
      obtain ⟨qv, g1, g2, g3⟩ := LiI.paired_get kv e2
      rw [f1] at g1
      cases g1
      have rk : RelV (kV pk.1) key := by
        rw [g2]
        exact relV_key (show keyIs k key = true from f2)
      exact ⟨by show 2 ≤ sizeLine; decide, [key, x], .cons rk (.cons g3 .nil), ⟨_, hk2 b _ f3, rfl, _, rfl⟩⟩
    · by_cases hb2 : b = h'.objs.size
      · rw [hb2] at q ⊢
        rw [eS] at q
        cases q
        exact ⟨by rw [List.length_map]; omega, as.map Value.ref, LiI.vals_refs as, ⟨_, Heap.get?_push_size _ rfl, rfl, _, rfl⟩⟩
      · rw [off b hb hb2] at q
        exact (I.hok b u q).stay (fun d v _ y => hk2 d v (hk d v y)) (fun d y => kp d _ y) fun d xs y => kp d _ y
/-- tuple(e.items()) -/
theorem pe_tupItems (hc : X.calm = true) (he : PE X e te) (hg : Gl X "tuple") (hm : X.mg "tuple" = none) (hv : bootBuiltins "tuple" = some (.type "tuple")) (hbase : attributeBase e "items" X.env (eval e X.env) = eval e X.env := by rfl) (hline : (apos.endLine == cpos.line) = true := by rfl)
    (hs : starEach [.Call (.Attribute e "items" apos) [] [] cpos] X.env = (false, eval (.Call (.Attribute e "items" apos) [] [] cpos) X.env) :: starEach [] X.env := by rfl) :
    PE X (.Call (.Name "tuple" p) [.Call (.Attribute e "items" apos) [] [] cpos] [] pos) (tTupItems te) := by
  refine ⟨fun pins s σ H Q I hq => ?_⟩
  refine wpAny_Call_Name_kw (ld_blt I hg hm hv ?_)
  refine PyProof.Rows.callWith_type1 ?_ hs rfl
  rw [hs]
  show wpAny _ _ (spliced ((false, eval (.Call (.Attribute e "items" apos) [] [] cpos) X.env) :: backTo pos (starEach [] X.env))) _ _ s
  refine Calls.spliced_cons ?_
  refine wpAny_Call_method (T := "dict") (id := "dict.items") hbase rfl hline F.plainAttrs_dict F.slot_dict_items F.type_dict_items (thn (he.run pins s σ H _ I hq) fun u s1 ⟨x, H1, I1, rx, d, kvs, ex, hd, q⟩ => ?_)
  subst ex
  obtain rfl : u = Value.ref d := rx
  obtain ⟨hz, hs0, vs, kv, hdo⟩ := I1.hok d _ hd
  obtain ⟨ep, hat⟩ := hdo.dictAt
  have lk : kvs.length = vs.length := Paired.length kv
  have I2 : Inv X pins σ H1 { s1 with heap := s1.heap.push { cls := .type "dict_items", data := .fields #[.ref d] } } := I1.kept (t' := s1.toks) fun b ob q => Heap.get?_push_of_some _ q
  refine ⟨hdo.typeIs, hdo.mapOf.noDict, ?_⟩
  show wpAny _ _ (callWith cpos (.builtin "dict.items") [.ref d] [] []) _ X.xe s1
  refine method_meetsIn F.slot_dict_items F.entry_dict_items rfl (PySem.evalArgs_none ⟨rfl, hdo.typeIs, F.args_dict_items_1 _, _, meets_dict_items (mixKind X.prog X.w) d hs0, ⟨vs, hdo⟩, ?_⟩)
  refine Calls.spliced_nil ?_
  refine PySem.W.call_tuple_items (knd := mixKind X.prog X.w) (kvs := vs) (ep := ep) (I1.ok.hd hc) ⟨_, Heap.get?_push_size _ rfl, rfl, rfl⟩ (hat.push _) (by omega) fun h' tk as hk hl hG => ?_
  have hsz : (s1.heap.push { cls := .type "dict_items", data := .fields #[.ref d] }).objs.size ≤ h'.objs.size := by
    have low : s1.heap.objs.size < h'.objs.size := Heap.lt_size (hk _ _ (Heap.get?_push_size s1.heap rfl))
    show (s1.heap.objs.push _).size ≤ h'.objs.size
    rw [Array.size_push]
    exact low
  obtain ⟨H', k1, k2, k3, k4, k5, k6, J⟩ := items_tup (tk := tk) I2 hz kv hsz hk hl hG
  exact ⟨.ref _, H', J, rfl, q H' _ as k1 k2 k3 k4 k5 k6⟩
end
end SR
set_option Elab.async false
set_option linter.all false
set_option maxRecDepth 100000
set_option maxHeartbeats 4000000
namespace SR
open PySem PySem.Spec PyProof.Rows L2
/-- a def that is called without its last arguments -/
structure KnD (P : Program) (w : World) (K : PySem.W.Frag) (mg : Str → Option Value) (base : Heap) (CX : CXT) (k : Nat) (x : Str) (ps : List Str) (sp : Sp) (dvs : List V) : Prop where
  ex : ∃ f fd ds, FnOk P w K mg base CX k f fd ps sp ∧ mg x = some (.ref f) ∧ PySem.W.keepIn K (.ref f) = true ∧ L2.Binds K fd ps ds ∧ Vals dvs ds
theorem pe_kD {X : Cx} {CX : CXT} {k j : Nat} {ps : List Str} {sp : Sp} {dvs : List V} {E : XK} {x : Str} {p pos : Pos} {e : Expr} {es : List Expr} {t : TA} (c : KnD X.prog X.w X.K X.mg X.base CX k x ps sp dvs) (hr : Room j X.A) (hk : k ≤ j) (hg : Gl X x) (hx : Passes CX X E) (ha : PA X (e :: es) t) (hdb : (x == ("__debug__" : Str)) = false := by decide)
    (he : starEach (e :: es) X.env = (false, eval e X.env) :: starEach es X.env := by rfl) (hpl : (backTo pos (starEach es X.env)).any (·.1) = false := by rfl) : PE X (.Call (.Name x p) (e :: es) [] pos) (tCall sp dvs E t) := by
  obtain ⟨f, fd, ds, F, hm, kp, b, dv⟩ := c.ex
  exact pe_call F (hr.mono hk) hg hm kp b dv hx ha hdb he hpl
def gkw_row_of {α : Type} (_ zs : List α) : List α := match zs with
  | [a, b] => [b, a]
  | _ => []
theorem gkw_row_of_rel {vs zs : List V} {us ws : List Value} (_ : Vals vs us) (r : Vals zs ws) : Vals (gkw_row_of vs zs) (gkw_row_of us ws) := by
  match zs, ws, r with
  | [], _, .nil => exact .nil
  | [_], _, .cons _ .nil => exact .nil
  | [_, _], _, .cons a (.cons b .nil) => exact .cons b (.cons a .nil)
  | _ :: _ :: _ :: _, _, .cons _ (.cons _ (.cons _ _)) => exact .nil
theorem okT_prs {ts : List (Int × Int)} (h : ∀ t ∈ ts, 1 ≤ t.1) (s : (ts.map Prod.fst).sum ≤ 40) : okT (some (ts.map two2)) = true := by
  show ((ts.map two2).all pairO && ((ts.map two2).all fun o => decide (lenO o ≥ 1)) && decide (((ts.map two2).map lenO).sum ≤ 40)) = true
  rw [len_two, decide_eq_true s, Bool.and_true, Bool.and_eq_true]
  refine ⟨List.all_eq_true.mpr fun o m => ?_, List.all_eq_true.mpr fun o m => ?_⟩
  · obtain ⟨t, mt, rfl⟩ := List.mem_map.mp m
    rfl
  · obtain ⟨t, mt, rfl⟩ := List.mem_map.mp m
    have := h t mt
    exact decide_eq_true (by show t.1 ≥ 1; omega)
theorem tv_prs {K : PySem.W.Frag} {H : Hp} {a : Addr} {ts : List (Int × Int)} (h : PairsAt K H a ts) (l : ts.length ≤ 100) : Tv15 K H (.ref a) (some (ts.map two2)) := by
  obtain ⟨us, h1, h2⟩ := h
  refine .sq ?_ (val2_prs h2) (by rw [List.length_map]; exact l)
  rcases h1 with h | h
  · exact .inl h
  · exact .inr (h.elim Bare.sq BareK.sq)
/-- what is known of a list of trains -/
structure Ts15 (ts : List (Int × Int)) (L : List Int) : Prop where
  pos : ∀ t ∈ ts, 1 ≤ t.1
  sum : (ts.map Prod.fst).sum ≤ 40
  asc : L.Pairwise (· < ·)
  len : L.length ≤ 40
  pm : ts.Perm (trL L)
theorem ts15 {ts : List (Int × Int)} (pos : ∀ t ∈ ts, 1 ≤ t.1) (sum : (ts.map Prod.fst).sum ≤ 40) : ∃ L, Ts15 ts L := by
  obtain ⟨L, asc, pm, ll⟩ := inv_trains 40 ts pos sum
  exact ⟨L, pos, sum, asc, by omega, pm⟩
theorem Ts15.perm {ts us : List (Int × Int)} {L : List Int} (h : Ts15 ts L) (pm : us.Perm ts) : Ts15 us L :=
  ⟨fun t m => h.pos t (pm.mem_iff.mp m), by rw [perm_sum (pm.map Prod.fst)]; exact h.sum, h.asc, h.len, pm.trans h.pm⟩
theorem Ts15.l40 {ts : List (Int × Int)} {L : List Int} (h : Ts15 ts L) : ts.length ≤ 40 := by
  have := len_sum1 ts h.pos
  have := h.sum
  omega
section
variable {K : PySem.W.Frag} {C T B : Addr} {H : Hp} {N N2 N3 : L2.St → Hp → Prop} {R : VK} {d g c : Addr} {b : Nat}
/-- row_of of a list of trains -/
theorem rowX_ok {a : Addr} {v : V} {ts qs rs : List (Int × Int)} {L : List Int} {Q : VK} {E : XK} (h : Ts15 ts L) (hp : PairsAt K H a ts) (cs : CapsAt K H v qs) (pm : qs.Perm rs) (ks : KsOk rs) (q : ∀ y H', H y = none → Same H H' → RowAt K C H' y (withF rs (ones L)) rs → Q (.ref y) H') :
    spRowOfX K C T B [.ref a, v] H Q E :=
  ⟨.ref a, v, _, rfl, tv_prs hp (by have := h.l40; omega), .inr ⟨okT_prs h.pos h.sum, a, v, ts, L, rfl, hp, h.asc, h.len, h.pm, .inr ⟨qs, rs, cs, pm, ks, q⟩⟩⟩
theorem ks0 : KsOk [] := ⟨.nil, Nat.zero_le _, fun p m => nomatch m⟩
theorem caps0 {p : Addr} {o : Obj} (hp : H p = some (.frz o (.tup []))) (o1 : o.cls = .type "tuple") (o2 : o.dict = none) : CapsAt K H (.ref p) [] :=
  ⟨p, rfl, ⟨[], .inr (.inl ⟨o, hp, o1, o2⟩), .nil⟩, .nil, Nat.zero_le _, fun p m => nomatch m⟩
theorem caps0K {p : Addr} (hp : BareK K p []) : CapsAt K H (.ref p) [] := ⟨p, rfl, ⟨[], .inr (.inr hp), .nil⟩, .nil, Nat.zero_le _, fun p m => nomatch m⟩
def t_odds15 : TE := (tLst (tCons (tC .non) (tCons (tLst (tCons (tTup (tCons (tC (.int 0)) (tCons (tC (.int 1)) (tNil)))) (tNil))) (tCons (tLst (tCons (tTup (tCons (tC (.int 0)) (tCons (tC (.int 2)) (tNil)))) (tCons (tTup (tCons (tC (.int 0)) (tCons (tC (.int 2)) (tNil)))) (tNil)))) (tCons (tLst (tCons (tTup (tCons (tC (.int 61)) (tCons (tC (.int 2)) (tNil)))) (tNil))) (tCons (tC (.int 5)) (tCons (tDNewK) (tNil))))))))
theorem odds15_run {σ : L2.St} {Q : VK} (S : StB H d g c b) (q : ∀ A H' xs, Same H H' → StB H' d g c b → A ≠ d → A ≠ g → H' A = some (.lst xs) → 0 < xs.length → xs.length < 1000 → (∀ v ∈ xs, ∀ H'', Kp d g H' H'' → OddC K H'' v) → Q (.ref A) H') : t_odds15 σ H Q := by
  unfold t_odds15
  refine lst_run (cons_c (cons_run (mk_lt S fun t1 l1 H1 s1 S1 k1 => cons_run (mk_dup S1 fun t2 t2' l2 H2 s2 S2 k2 => cons_run (mk_lt S2 fun t3 l3 H3 s3 S3 k3 => cons_c (cons_run fun e he => ?_))))))
  obtain ⟨s4, S4, k4⟩ := new1 (o := .dK []) S3 he
  generalize upd H3 e (.dK []) = H4 at s4 S4 k4 ⊢
  refine nil_run ⟨sz (by show 6 ≤ 1000; decide), fun A hA => ?_⟩
  obtain ⟨a1, a2, _⟩ := S4.off hA
  have s5 := same_new (o := .lst [.non, .ref l1, .ref l2, .ref l3, .int 5, .ref e]) hA
  have s35 := s4.trans s5
  have s25 := s3.trans s35
  have s15 := s2.trans s25
  refine q A _ [.non, .ref l1, .ref l2, .ref l3, .int 5, .ref e] (s1.trans s15) (S4.new hA) a1 a2 upd_same (by show 0 < 6; decide) (by show 6 < 1000; decide) fun v hv H'' k => ?_
  simp only [List.mem_cons, List.not_mem_nil, or_false] at hv
  rcases hv with rfl | rfl | rfl | rfl | rfl | rfl
  · exact .odd (.kind .non rfl rfl)
  · obtain ⟨h1, h2⟩ := k1 H'' (Kp.of s15 k)
    exact .size (p := (0, 1)) (SqL.of h2) h1 (by decide)
  · obtain ⟨h1, h2, h3⟩ := k2 H'' (Kp.of s25 k)
    exact .odd (.dup (i := 0) (m := 2) (n := 2) (SqL.of h3) h1 h2)
  · obtain ⟨h1, h2⟩ := k3 H'' (Kp.of s35 k)
    exact .size (p := (61, 2)) (SqL.of h2) h1 (by decide)
  · exact .odd (.kind (.int 5) rfl rfl)
  · exact .odd (.kind (.dct (.inl (k4 H'' (Kp.of s5 k)))) rfl rfl)
def t_end15 (K : PySem.W.Frag) (C T B : Addr) : TS := (tSeq (tAsg (tIf (tB (tCall (spAreTr15 K) [] E0 (tCons (tVar 12) (tNil)))) (tC .non) (tC (.str "trains"))) (gName 14))
  (tIfS (tOr (tTest (tOp rNe (tCall (spTold15 K C T B) [] E0 (tCons (tVar 12) (tCons (tTup0) (tNil)))) (tVar 14))) (tTest (tOp rNe (tCall (spTold15 K C T B) [] E0 (tCons (tVar 12) (tCons (tVar 13) (tNil)))) (tOrT K (tVar 14) (tC (.str "capacities"))))))
  (tRet (tC (.bl false)))
  (tNext)))
variable {x0 x1 x2 x3 x4 x5 x6 x7 x8 x9 x10 x11 x12 x13 x14 : Option V}
theorem end15 {v w : V} (hv : BentAt K H v) (hw : OddC K H w) (hN : ∀ y14 H', Same H H' → N [x0, x1, x2, x3, x4, x5, x6, x7, x8, x9, x10, x11, some v, some w, y14] H') :
    t_end15 K C T B { nx := N, rt := R, bk := N2, ct := N3 } [x0, x1, x2, x3, x4, x5, x6, x7, x8, x9, x10, x11, some v, some w, x14] H := by
  rcases hv with ⟨o, tv, no⟩ | ⟨a, ts, rfl, hp, pos, sum⟩
  · refine ⟨_, rfl, v, o, rfl, tv, fun H1 s1 => ⟨_, rfl, ?_⟩⟩
    rw [no]
    refine iteF ⟨_, rfl, fun p o' hp o1 o2 => ?_⟩
    have s2 := same_new (o := .frz o' (.tup [])) hp
    generalize upd H1 p (.frz o' (.tup [])) = H2 at s2 ⊢
    have s02 := s1.trans s2
    refine ⟨v, .ref p, o, rfl, tv.same s02, .inl ⟨no, fun H3 s3 => ⟨_, rfl, rfl, _, rfl, ?_⟩⟩⟩
    rw [decide_eq_true rfl]
    have s03 := s02.trans s3
    refine iteF ⟨_, rfl, _, rfl, v, w, o, rfl, tv.same s03, .inl ⟨no, fun H4 s4 => ⟨_, rfl, true, ⟨by decide, by decide⟩, iteT ⟨rfl, _, rfl, ?_⟩⟩⟩⟩
    rw [decide_eq_true rfl]
    exact iteF (hN _ H4 (s03.trans s4))
  · obtain ⟨L, h⟩ := ts15 pos sum
    have ok := okT_prs h.pos h.sum
    have l100 : ts.length ≤ 100 := by
      have := h.l40
      omega
    refine ⟨_, rfl, .ref a, _, rfl, tv_prs hp.at l100, fun H1 s1 => ⟨_, rfl, ?_⟩⟩
    rw [ok]
    refine iteT ⟨_, rfl, fun p o' hp' o1 o2 => ?_⟩
    have s2 := same_new (o := .frz o' (.tup [])) hp'
    have P2 : upd H1 p (.frz o' (.tup [])) p = some (.frz o' (.tup [])) := upd_same
    generalize upd H1 p (.frz o' (.tup [])) = H2 at s2 P2 ⊢
    have s02 := s1.trans s2
    have hp2 := hp.same s02
    refine ⟨.ref a, .ref p, _, rfl, tv_prs hp2.at l100, .inr ⟨ok, a, ts, L, rfl, hp2.at, h.asc, h.len, h.pm, .inr ⟨[], [], caps0 P2 o1 o2, .refl _, ks0, fun H3 s3 => ⟨_, rfl, rfl, _, rfl, ?_⟩⟩⟩⟩
    rw [decide_eq_true rfl]
    have s03 := s02.trans s3
    have hp3 := hp.same s03
    refine iteF ⟨_, rfl, _, rfl, .ref a, w, _, rfl, tv_prs hp3.at l100, .inr ⟨ok, a, ts, L, rfl, hp3.at, h.asc, h.len, h.pm, .inl ⟨hw.same s03, fun H4 s4 => ⟨_, rfl, false, rfl, iteF ⟨rfl, _, rfl, ?_⟩⟩⟩⟩⟩
    rw [decide_eq_true rfl]
    exact iteF (hN _ H4 (s03.trans s4))
end
end SR
set_option Elab.async false
set_option linter.all false
set_option maxRecDepth 100000
set_option maxHeartbeats 4000000
namespace SR
open PySem PySem.Spec PyProof.Rows L2
@[irreducible] def xEnd15 := @t_end15
theorem xEnd15_eq : @xEnd15 = @t_end15 := by
  unfold xEnd15
  rfl
section
variable {K : PySem.W.Frag} {C T B : Addr} {H : Hp} {N N2 N3 : L2.St → Hp → Prop} {R : VK} {d g c : Addr} {b : Nat}
variable {x0 x1 x2 x3 x4 x5 x6 x7 x8 x9 x10 x11 x12 x13 x14 : Option V}
def t_od15 (K : PySem.W.Frag) (C T B : Addr) : TS := (tSeq (tAsg (tCall (spPick K) [] E0 (tCons (tVar 1) (tCons t_odds15 (tNil)))) (gName 13))
  (t_end15 K C T B))
theorem od15 {v : V} (S : StB H d g c (b + 1)) (hv : ∀ H'', Kp d g H H'' → BentAt K H'' v) (hN : ∀ y13 y14 H', StB H' d g c b → N [x0, some (.ref d), x2, x3, x4, x5, x6, x7, x8, x9, x10, x11, some v, y13, y14] H') :
    t_od15 K C T B { nx := N, rt := R, bk := N2, ct := N3 } [x0, some (.ref d), x2, x3, x4, x5, x6, x7, x8, x9, x10, x11, some v, x13, x14] H := by
  unfold t_od15
  rw [← xEnd15_eq]
  refine ⟨_, rfl, ?_⟩
  refine odds15_run (K := K) S fun A H1 xs s1 S1 a1 a2 hA l0 l1 od => ?_
  refine ⟨d, g, c, b, A, xs, rfl, S1, SqL.of hA, a1, a2, l0, l1, fun w H2 hw S2 k2 => ?_⟩
  show xEnd15 K C T B { nx := N, rt := R, bk := N2, ct := N3 } [x0, some (.ref d), x2, x3, x4, x5, x6, x7, x8, x9, x10, x11, some v, some w, x14] H2
  rw [xEnd15_eq]
  exact end15 (hv H2 (Kp.of s1 k2)) (od w hw H2 k2) fun y14 H' s => hN _ _ H' (StB.same s S2)
@[irreducible] def xOd15 := @t_od15
theorem xOd15_eq : @xOd15 = @t_od15 := by
  unfold xOd15
  rfl
def t_bn15 (K : PySem.W.Frag) (C T B : Addr) : TS := (tSeq (tAsg (tCall (spBent15 K) [] E0 (tCons (tVar 1) (tCons (tVar 3) (tNil)))) (gName 12))
  (t_od15 K C T B))
theorem bn15 {F : Addr} {ts : List (Int × Int)} {L : List Int} (S : StB H d g c (b + 4)) (hF : PairsL H F ts) (f1 : F ≠ d) (f2 : F ≠ g) (h : Ts15 ts L) (hN : ∀ y12 y13 y14 H', StB H' d g c b → N [x0, some (.ref d), x2, some (.ref F), x4, x5, x6, x7, x8, x9, x10, x11, y12, y13, y14] H') :
    t_bn15 K C T B { nx := N, rt := R, bk := N2, ct := N3 } [x0, some (.ref d), x2, some (.ref F), x4, x5, x6, x7, x8, x9, x10, x11, x12, x13, x14] H := by
  unfold t_bn15
  rw [← xOd15_eq]
  refine ⟨_, rfl, _, rfl, d, g, c, b + 1, F, ts, rfl, S, f1, f2, hF, h.pos, h.sum, fun v H1 S1 k1 hv => ?_⟩
  show xOd15 K C T B { nx := N, rt := R, bk := N2, ct := N3 } [x0, some (.ref d), x2, some (.ref F), x4, x5, x6, x7, x8, x9, x10, x11, some v, x13, x14] H1
  rw [xOd15_eq]
  exact od15 S1 hv fun y13 y14 H' S' => hN _ _ _ H' S'
@[irreducible] def xBn15 := @t_bn15
theorem xBn15_eq : @xBn15 = @t_bn15 := by
  unfold xBn15
  rfl
theorem ts_trP {ks : List (Int × Int)} (p : Rws ks) : Ts15 (trP p) (plL p) := by
  refine ⟨fun t m => trL_one t m, ?_, plL_asc p, plL_40 p, .refl _⟩
  have := trL_sum (plL_asc p)
  have e : ((trP p).map Prod.fst).sum = (plL p).length := this
  have := plL_40 p
  omega
theorem back_trP {ks : List (Int × Int)} (p : Rws ks) : withF ks (ones (plL p)) = p.1 := by
  rw [← plL_ones p]
  exact with_plain p.2
def t_bk15 (K : PySem.W.Frag) (C T B : Addr) : TS := (tSeq (tIfS (tTest (tOp (rNeR K C) (tCall (spRowOfX K C T B) [] E0 (tCons (tCall (spTrains K C) [] E0 (tCons (tVar 11) (tNil))) (tCons (tProp C (spCapacities K C) [] E0 (tVar 11)) (tNil)))) (tVar 11)))
  (tRet (tC (.bl false)))
  (tNext))
  (t_bn15 K C T B))
theorem bk15 {m F : Addr} {ks ts : List (Int × Int)} {L : List Int} (p : Rws ks) (row : RowAt K C H m p.1 ks) (S : StB H d g c (b + 4)) (hF : PairsL H F ts) (f1 : F ≠ d) (f2 : F ≠ g) (h : Ts15 ts L) (hN : ∀ y12 y13 y14 H', StB H' d g c b → N [x0, some (.ref d), x2, some (.ref F), x4, x5, x6, x7, x8, x9, x10, some (.ref m), y12, y13, y14] H') :
    t_bk15 K C T B { nx := N, rt := R, bk := N2, ct := N3 } [x0, some (.ref d), x2, some (.ref F), x4, x5, x6, x7, x8, x9, x10, some (.ref m), x12, x13, x14] H := by
  unfold t_bk15
  rw [← xBn15_eq]
  refine ⟨_, rfl, m, ks, p, rfl, row, fun D H1 hD s1 hDp => ?_⟩
  have row1 := row.same s1
  obtain ⟨dm, fm, hm, nm⟩ := row1.ins2'
  refine ⟨_, rfl, m, dm, fm, rfl, hm, m, p.1, ks, rfl, row1, fun cc hc => ?_⟩
  generalize hz : spRowOfX K C T B = zz
  show zz [.ref D, .ref cc] H1 _ E0
  subst hz
  refine rowX_ok (ts_trP p) hDp.at ⟨cc, rfl, hc.at, asc_nd p.2.ks.ak, p.2.ks.kl, p.2.ks.ko⟩ (.refl _) p.2.ks fun y H2 hy s2 ry => ?_
  rw [back_trP p] at ry
  refine ⟨_, rfl, y, m, p.1, ks, rfl, rfl, ry, row1.same s2, fun H3 s3 => ⟨_, rfl, iteF ?_⟩⟩
  have s03 := s1.trans (s2.trans s3)
  show xBn15 K C T B { nx := N, rt := R, bk := N2, ct := N3 } [x0, some (.ref d), x2, some (.ref F), x4, x5, x6, x7, x8, x9, x10, some (.ref m), x12, x13, x14] H3
  rw [xBn15_eq]
  exact bn15 (StB.same s03 S) (hF.same s03) f1 f2 h hN
@[irreducible] def xBk15 := @t_bk15
theorem xBk15_eq : @xBk15 = @t_bk15 := by
  unfold xBk15
  rfl
def t_ot15 (K : PySem.W.Frag) (C T B : Addr) : TS := (tSeq (tAsg (tCall (spSizes K) [] E0 (tCons (tVar 1) (tCons (tC (.int 6)) (tNil)))) (gName 10))
  (tSeq (tAsg (tCall (spMade K C) [] E0 (tCons (tCall (spBoxes K) [] E0 (tCons (tVar 1) (tCons (tVar 10) (tCons (tC (.int 12)) (tNil))))) (tCons (tVar 10) (tNil)))) (gName 11))
  (t_bk15 K C T B)))
theorem ot15 {F : Addr} {ts : List (Int × Int)} {L : List Int} (S : StB H d g c (b + 69)) (hF : PairsL H F ts) (f1 : F ≠ d) (f2 : F ≠ g) (h : Ts15 ts L) (hN : ∀ y10 y11 y12 y13 y14 H', StB H' d g c b → N [x0, some (.ref d), x2, some (.ref F), x4, x5, x6, x7, x8, x9, y10, y11, y12, y13, y14] H') :
    t_ot15 K C T B { nx := N, rt := R, bk := N2, ct := N3 } [x0, some (.ref d), x2, some (.ref F), x4, x5, x6, x7, x8, x9, x10, x11, x12, x13, x14] H := by
  unfold t_ot15
  rw [← xBk15_eq]
  refine ⟨_, rfl, d, g, c, b + 44, 6, rfl, S, by decide, by decide, fun Z H1 ot S1 q1 z1 z2 z3 hZ Z' ak ko kl => ?_⟩
  have hF1 := hF.kp S q1 f1 f2
  refine ⟨_, rfl, _, rfl, d, g, c, b + 4, Z, 12, ot, rfl, S1, z1, z2, z3, Z', asc_nd ak, ko, kl, by decide, by decide, fun G H2 it S2 q2 g1 g2 g3 hG G' ap2 ok2 bd2 sm2 => ?_⟩
  have hF2 := hF1.kp S1 q2 f1 f2
  have v : Vd it ot := ⟨⟨asc_nd ap2, asc_nd ak, kl, ko, ok2, by omega⟩, ap2, ak⟩
  refine ⟨_, rfl, G, Z, it, ot, rfl, G', kp_dict S1 q2 Z', v.ok, ap2, ak, fun m H3 hm s3 rm => ?_⟩
  show xBk15 K C T B { nx := N, rt := R, bk := N2, ct := N3 } [x0, some (.ref d), x2, some (.ref F), x4, x5, x6, x7, x8, x9, some (.ref Z), some (.ref m), x12, x13, x14] H3
  rw [xBk15_eq]
  exact bk15 ⟨it, v⟩ rm (StB.same s3 S2) (hF2.same s3) f1 f2 h fun y12 y13 y14 H' S' => hN _ _ _ _ _ H' S'
@[irreducible] def xOt15 := @t_ot15
theorem xOt15_eq : @xOt15 = @t_ot15 := by
  unfold xOt15
  rfl
def t_pl15 (K : PySem.W.Frag) (a C T B : Addr) : TS := (tSeq (tIfS (tOr (tNot (tB (tMeth C "is_plain" (spIsPlain K C) [] E0 (tCall (spRowOfX K C T B) [.ref a] E0 (tCons (tVar 5) (tNil))) tNil))) (tTest (tOp (rNeR K C) (tCall (spRowOfX K C T B) [.ref a] E0 (tCons (tVar 5) (tNil))) (tCall (spRowOfX K C T B) [] E0 (tCons (tVar 5) (tCons (tTup0) (tNil)))))))
  (tRet (tC (.bl false)))
  (tNext))
  (t_ot15 K C T B))
theorem pl15 {a F l : Addr} {ts ls : List (Int × Int)} {L : List Int} (hE : BareK K a []) (S : StB H d g c (b + 69)) (hF : PairsL H F ts) (f1 : F ≠ d) (f2 : F ≠ g) (h : Ts15 ts L) (hl : PairsL H l ls) (pm : ls.Perm ts) (hN : ∀ y10 y11 y12 y13 y14 H', StB H' d g c b → N [x0, some (.ref d), x2, some (.ref F), x4, some (.ref l), x6, x7, x8, x9, y10, y11, y12, y13, y14] H') :
    t_pl15 K a C T B { nx := N, rt := R, bk := N2, ct := N3 } [x0, some (.ref d), x2, some (.ref F), x4, some (.ref l), x6, x7, x8, x9, x10, x11, x12, x13, x14] H := by
  unfold t_pl15
  rw [← xOt15_eq]
  have h' := h.perm pm
  refine ⟨_, rfl, ?_⟩
  generalize hz : spRowOfX K C T B = zz
  show zz [.ref l, .ref a] H _ E0
  subst hz
  refine rowX_ok h' hl.at (caps0K hE) (.refl _) ks0 fun y H1 hy s1 ry => ?_
  obtain ⟨dy, fy, hy', ny⟩ := ry.insP
  refine ⟨y, dy, fy, rfl, hy', ny, y, _, [], rfl, ry, _, rfl, iteF ?_⟩
  refine ⟨_, rfl, ?_⟩
  generalize hz : spRowOfX K C T B = zz
  show zz [.ref l, .ref a] H1 _ E0
  subst hz
  refine rowX_ok h' (hl.same s1).at (caps0K hE) (.refl _) ks0 fun y2 H2 hy2 s2 ry2 => ?_
  have s02 := s1.trans s2
  refine ⟨_, rfl, fun p o hp o1 o2 => ?_⟩
  have s3 := same_new (o := .frz o (.tup [])) hp
  have P3 : upd H2 p (.frz o (.tup [])) p = some (.frz o (.tup [])) := upd_same
  generalize upd H2 p (.frz o (.tup [])) = H3 at s3 P3 ⊢
  have s03 := s02.trans s3
  generalize hz : spRowOfX K C T B = zz
  show zz [.ref l, .ref p] H3 _ E0
  subst hz
  refine rowX_ok h' (hl.same s03).at (caps0 P3 o1 o2) (.refl _) ks0 fun y3 H4 hy3 s4 ry3 => ?_
  have s04 := s03.trans s4
  refine ⟨y2, y3, _, [], rfl, rfl, ry2.same (s3.trans s4), ry3, fun H5 s5 => ⟨_, rfl, iteF ?_⟩⟩
  have s05 := s04.trans s5
  show xOt15 K C T B { nx := N, rt := R, bk := N2, ct := N3 } [x0, some (.ref d), x2, some (.ref F), x4, some (.ref l), x6, x7, x8, x9, x10, x11, x12, x13, x14] H5
  rw [xOt15_eq]
  exact ot15 (StB.same s05 S) (hF.same s05) f1 f2 h hN
@[irreducible] def xPl15 := @t_pl15
theorem xPl15_eq : @xPl15 = @t_pl15 := by
  unfold xPl15
  rfl
end
end SR
set_option Elab.async false
set_option linter.all false
set_option maxRecDepth 100000
set_option maxHeartbeats 4000000
namespace SR
open PySem PySem.Spec PyProof.Rows L2
section
variable {K : PySem.W.Frag} {a C T B : Addr} {H : Hp} {N N2 N3 : L2.St → Hp → Prop} {R : VK} {d g c : Addr} {b : Nat}
variable {x0 x1 x2 x3 x4 x5 x6 x7 x8 x9 x10 x11 x12 x13 x14 : Option V}
/-- what a turn has drawn: the trains, the capacities, both shuffled -/
structure Y15 (ts sz ls ws : List (Int × Int)) (L : List Int) : Prop where
  h : Ts15 ts L
  ks : KsOk sz
  pl : ls.Perm ts
  pw : ws.Perm sz
  bd : ∀ t ∈ ts, -(10 ^ 31) ≤ t.2 ∧ t.2 ≤ 10 ^ 31
structure X15 (H : Hp) (d g c : Addr) (b : Nat) (F Z l w : Addr) (ts sz ls ws : List (Int × Int)) : Prop where
  S : StB H d g c b
  hF : PairsL H F ts
  f1 : F ≠ d
  f2 : F ≠ g
  z : H Z = some (.dK (kvsOf sz))
  hl : PairsL H l ls
  hw : PairsL H w ws
theorem X15.same {H' : Hp} {F Z l w : Addr} {ts sz ls ws : List (Int × Int)} (s : Same H H') (X : X15 H d g c b F Z l w ts sz ls ws) : X15 H' d g c b F Z l w ts sz ls ws :=
  ⟨StB.same s X.S, X.hF.same s, X.f1, X.f2, s _ _ X.z, X.hl.same s, X.hw.same s⟩
variable {F Z l w u : Addr} {ts sz ls ws : List (Int × Int)} {L : List Int}
theorem Y15.caps {w : Addr} (Y : Y15 ts sz ls ws L) (h : PairsAt K H w ws) : CapsAt K H (.ref w) ws :=
  ⟨w, rfl, h, (Y.pw.map _).nodup_iff.mpr (asc_nd Y.ks.ak), by rw [Y.pw.length_eq]; exact Y.ks.kl, fun p m => Y.ks.ko p (Y.pw.mem_iff.mp m)⟩
/-- trains(row) != sorted(some) -/
theorem sorted15 {ks : List (Int × Int)} {D : Addr} {Q : VK} (p : Rws ks) (h : Ts15 ts L) (e : trP p = trL L) (hF : PairsL H F ts) (hD : PairsL H D (trP p)) (q : ∀ H', Same H H' → Q (.bl false) H') : qSorted K [.ref F] H fun y H' => rNeD K (.ref D) y H' Q := by
  refine .inl (sort_pairs (qs := trL L) hF h.pm (trL_up h.asc) fun D2 H2 hD2 s2 h2 => ?_)
  refine ne_dd (d := lstD (trL L)) ?_ (dp_pairs h2) (lst_shaped _) (q H2 s2)
  rw [← e]
  exact dp_pairs (hD.same s2)
theorem rw_ones (h : Ts15 ts L) : trP (⟨ones L, ones_vd h.asc h.len⟩ : Rws []) = trL L := trP_ones _
theorem rw_with (h : Ts15 ts L) (k : KsOk sz) : trP (⟨withF sz (ones L), (with_vd k (ones_vd h.asc h.len)).1⟩ : Rws sz) = trL L := by
  show trL ((plainF sz (withF sz (ones L))).map Prod.fst) = trL L
  rw [plain_with k (ones_vd h.asc h.len), ones_fst]
def t_kw15 (K : PySem.W.Frag) (a C T B : Addr) : TS := (tSeq (tIfS (tOr (tTest (tOp (rNeR K C) (tKw 2 (spRowOfX K C T B) gkw_row_of (fun _ => E0) tNil (tCons (tCB (qTupOf K) (tCons (tVar 6) (tNil))) (tCons (tCB (qTupOf K) (tCons (tVar 5) (tNil))) (tNil)))) (tVar 8))) (tTest (tOp (rNeD K) (tCall (spTrains K C) [] E0 (tCons (tCall (spRowOfX K C T B) [.ref a] E0 (tCons (tVar 5) (tNil))) (tNil))) (tCB (qSorted K) (tCons (tVar 3) (tNil))))))
  (tRet (tC (.bl false)))
  (tNext))
  (t_pl15 K a C T B))
theorem kw15 (hE : BareK K a []) (Y : Y15 ts sz ls ws L) (X : X15 H d g c (b + 69) F Z l w ts sz ls ws) (ru : RowAt K C H u (withF sz (ones L)) sz) (hN : ∀ y10 y11 y12 y13 y14 H', StB H' d g c b → N [x0, some (.ref d), x2, some (.ref F), some (.ref Z), some (.ref l), some (.ref w), x7, some (.ref u), x9, y10, y11, y12, y13, y14] H') :
    t_kw15 K a C T B { nx := N, rt := R, bk := N2, ct := N3 } [x0, some (.ref d), x2, some (.ref F), some (.ref Z), some (.ref l), some (.ref w), x7, some (.ref u), x9, x10, x11, x12, x13, x14] H := by
  unfold t_kw15
  rw [← xPl15_eq]
  have h' := Y.h.perm Y.pl
  obtain ⟨us, hw0, pw⟩ := X.hw
  refine ⟨_, rfl, w, _, rfl, SqL.of hw0, fun W o hW o1 o2 => ?_⟩
  have s1 := same_new (o := .frz o (.tup (us.map V.ref))) hW
  have P1 : PairsAt K (upd H W (.frz o (.tup (us.map V.ref)))) W ws := ⟨us, .inr (.inl ⟨o, upd_same, o1, o2⟩), paired_imp (fun _ _ z => s1 _ _ z) pw⟩
  generalize upd H W (.frz o (.tup (us.map V.ref))) = H1 at s1 P1 ⊢
  obtain ⟨vs, hl0, pl⟩ := X.hl.same s1
  refine ⟨_, rfl, l, _, rfl, SqL.of hl0, fun V1 o' hV o3 o4 => ?_⟩
  have s2 := same_new (o := .frz o' (.tup (vs.map V.ref))) hV
  have P2 : PairsAt K (upd H1 V1 (.frz o' (.tup (vs.map V.ref)))) V1 ls := ⟨vs, .inr (.inl ⟨o', upd_same, o3, o4⟩), paired_imp (fun _ _ z => s2 _ _ z) pl⟩
  generalize upd H1 V1 (.frz o' (.tup (vs.map V.ref))) = H2 at s2 P2 ⊢
  have s02 := s1.trans s2
  refine ⟨rfl, ?_⟩
  generalize hz : spRowOfX K C T B = zz
  show zz [.ref V1, .ref W] H2 _ E0
  subst hz
  refine rowX_ok h' P2 (Y.caps (P1.same s2)) Y.pw Y.ks fun y H3 hy s3 ry => ?_
  have s03 := s02.trans s3
  refine ⟨_, rfl, y, u, _, sz, rfl, rfl, ry, ru.same s03, fun H4 s4 => ⟨_, rfl, iteF ?_⟩⟩
  have s04 := s03.trans s4
  have X4 := X.same s04
  refine ⟨_, rfl, ?_⟩
  generalize hz : spRowOfX K C T B = zz
  show zz [.ref l, .ref a] H4 _ E0
  subst hz
  refine rowX_ok h' X4.hl.at (caps0K hE) (.refl _) ks0 fun y2 H5 hy2 s5 ry2 => ?_
  refine ⟨y2, [], ⟨ones L, ones_vd Y.h.asc Y.h.len⟩, rfl, ry2, fun D H6 hD s6 hDp => ?_⟩
  have X6 := (X4.same s5).same s6
  refine ⟨_, rfl, sorted15 _ Y.h (rw_ones Y.h) X6.hF hDp fun H7 s7 => ⟨_, rfl, iteF ?_⟩⟩
  have X7 := X6.same s7
  show xPl15 K a C T B { nx := N, rt := R, bk := N2, ct := N3 } [x0, some (.ref d), x2, some (.ref F), some (.ref Z), some (.ref l), some (.ref w), x7, some (.ref u), x9, x10, x11, x12, x13, x14] H7
  rw [xPl15_eq]
  exact pl15 hE X7.S X7.hF X7.f1 X7.f2 Y.h X7.hl Y.pl hN
@[irreducible] def xKw15 := @t_kw15
theorem xKw15_eq : @xKw15 = @t_kw15 := by
  unfold xKw15
  rfl
def t_to15 (K : PySem.W.Frag) (a C T B : Addr) : TS := (tSeq (tIfS (tTest (tOp rNe (tMeth C "total" (spTotal K C) [] E0 (tVar 8) tNil) (tCB (rSum K) (tCons (tLc (iList K (tVar 3)) (gName 9) (tYes) (tOp (rIxT K) (tVar 9) (tC (.int 0))) [9]) (tNil)))))
  (tRet (tC (.bl false)))
  (tNext))
  (t_kw15 K a C T B))
theorem to15 (hE : BareK K a []) (Y : Y15 ts sz ls ws L) (X : X15 H d g c (b + 69) F Z l w ts sz ls ws) (ru : RowAt K C H u (withF sz (ones L)) sz) (hN : ∀ y9 y10 y11 y12 y13 y14 H', StB H' d g c b → N [x0, some (.ref d), x2, some (.ref F), some (.ref Z), some (.ref l), some (.ref w), x7, some (.ref u), y9, y10, y11, y12, y13, y14] H') :
    t_to15 K a C T B { nx := N, rt := R, bk := N2, ct := N3 } [x0, some (.ref d), x2, some (.ref F), some (.ref Z), some (.ref l), some (.ref w), x7, some (.ref u), x9, x10, x11, x12, x13, x14] H := by
  unfold t_to15
  rw [← xKw15_eq]
  obtain ⟨du, fu, hu, nu⟩ := ru.ins2'
  have wv := with_vd Y.ks (ones_vd Y.h.asc Y.h.len)
  refine ⟨_, rfl, u, du, fu, rfl, hu, nu, u, _, sz, rfl, ru, by have := vd_len wv.1; omega, fun H1 s1 => ?_⟩
  have X1 := X.same s1
  obtain ⟨us, hF0, pr⟩ := X1.hF
  have l40 := Y.h.l40
  have tot : ((withF sz (ones L)).map Prod.snd).sum = (ts.map Prod.fst).sum := by
    have e1 : ((withF sz (ones L)).map Prod.snd).sum = ((ones L).map Prod.snd).sum := wv.2
    rw [e1, perm_sum (Y.h.pm.map Prod.fst), trL_sum Y.h.asc]
    exact ones_sum L
  refine cb_go (cons1_go ?_)
  refine lcV (G := GT) (ys := ts) (fun _ => true) (fun t : Int × Int => .int t.1) (fun R r => ⟨_, rfl, r⟩) (SqL.of hF0) (pairs_rel pr) (by rw [List.length_map, paired_len pr]) (by omega) (fun _ _ _ s z => z.same s) ?_ fun D H2 hD s2 d2 => ?_
  · rintro v t H' Rt Rf s' ⟨t1, rfl, hat⟩ m rt rf
    exact ⟨rfl, yes_if ⟨_, rfl, t1, _, 0, _, rfl, rfl, SqT.of hat, rfl, rt rfl H' fun _ _ h => h⟩⟩
  rw [all_true] at d2
  have d2' : H2 D = some (.lst ((ts.map Prod.fst).map V.int)) := by
    rw [d2, List.map_map]
    rfl
  refine ⟨D, _, rfl, SqL.of d2', rfl, _, rfl, ?_⟩
  rw [tot, decide_eq_true rfl]
  refine iteF ?_
  have s02 := s1.trans s2
  show xKw15 K a C T B { nx := N, rt := R, bk := N2, ct := N3 } [x0, some (.ref d), x2, some (.ref F), some (.ref Z), some (.ref l), some (.ref w), x7, some (.ref u), x9, x10, x11, x12, x13, x14] H2
  rw [xKw15_eq]
  exact kw15 hE Y (X.same s02) (ru.same s02) fun y10 y11 y12 y13 y14 H' S' => hN _ _ _ _ _ _ H' S'
@[irreducible] def xTo15 := @t_to15
theorem xTo15_eq : @xTo15 = @t_to15 := by
  unfold xTo15
  rfl
end
end SR
set_option Elab.async false
set_option linter.all false
set_option maxRecDepth 100000
set_option maxHeartbeats 4000000
namespace SR
open PySem PySem.Spec PyProof.Rows L2
def hd15 (ls ws : List (Int × Int)) : PyData := .tuple [lstD ls, lstD ws]
theorem lst_depth2 (ps : List (Int × Int)) : (lstD ps).depth ≤ 3 := by
  have : PyData.depthAll (ps.map fun p => pr2 p.1 p.2) ≤ 1 := by
    induction ps with
    | nil => exact Nat.zero_le _
    | cons s st ih =>
      show max (pr2 s.1 s.2).depth (PyData.depthAll (st.map fun p => pr2 p.1 p.2)) ≤ 1
      have : (pr2 s.1 s.2).depth ≤ 1 := by simp [pr2, PyData.depth, PyData.depthAll]
      omega
  simp only [lstD, PyData.depth]
  omega
theorem hd_show {ls ws : List (Int × Int)} (h1 : Small ls) (h2 : Small ws) : (hd15 ls ws).showable = true := by
  show (PyData.showable (lstD ls) && (PyData.showable (lstD ws) && true)) = true
  rw [lst_show h1, lst_show h2]
  rfl
theorem hd_depth (ls ws : List (Int × Int)) : (hd15 ls ws).depth ≤ 60 := by
  have a := lst_depth2 ls
  have b := lst_depth2 ws
  simp only [hd15, PyData.depth, PyData.depthAll]
  omega
theorem hd_cost {ls ws : List (Int × Int)} (h1 : ls.length ≤ 40) (h2 : ws.length ≤ 6) : cost (hd15 ls ws) ≤ 1000000 := by
  have a := lst_cost ls
  have b := lst_cost ws
  simp only [hd15, cost, costAll]
  omega
section
variable {K : PySem.W.Frag} {a C T B : Addr} {H : Hp} {N N2 N3 : L2.St → Hp → Prop} {R : VK} {d g c : Addr} {b : Nat}
variable {x0 x1 x2 x3 x4 x5 x6 x7 x8 x9 x10 x11 x12 x13 x14 : Option V}
variable {F Z l w u : Addr} {ts sz ls ws : List (Int × Int)} {L : List Int}
theorem small_bd2 {qs : List (Int × Int)} (h : ∀ q ∈ qs, (-(10 ^ 31) ≤ q.1 ∧ q.1 ≤ 10 ^ 31) ∧ -(10 ^ 31) ≤ q.2 ∧ q.2 ≤ 10 ^ 31) : Small qs := fun q m => by
  have a := h q m
  have b : (10 : Int) ^ 31 = 10000000000000000000000000000000 := by decide
  have e : (2 : Nat) ^ 110 ≤ 2 ^ 1900 := Nat.pow_le_pow_right (by decide) (by decide)
  have e2 : (2 : Nat) ^ 110 = 1298074214633706907132624082305024 := by decide
  constructor <;> omega
theorem Y15.sl (Y : Y15 ts sz ls ws L) : Small ls := small_bd2 fun q m => by
  have m' := Y.pl.mem_iff.mp m
  have h1 := Y.h.pos q m'
  have h2 := Y.bd q m'
  have h3 : q.1 ≤ 40 := by
    have := sum_pos_le (M := ts.map Prod.fst) (fun x mx => by
      obtain ⟨t, mt, rfl⟩ := List.mem_map.mp mx
      exact Y.h.pos t mt) q.1 (List.mem_map.mpr ⟨q, m', rfl⟩)
    have := Y.h.sum
    omega
  have e31 : (10 : Int) ^ 31 = 10000000000000000000000000000000 := by decide
  omega
theorem Y15.sw (Y : Y15 ts sz ls ws L) : Small ws := small_bd2 fun q m => by
  have := Y.ks.ko q (Y.pw.mem_iff.mp m)
  unfold sizeOk at this
  have e31 : (10 : Int) ^ 31 = 10000000000000000000000000000000 := by decide
  omega
/-- repr((line, wide)) -/
def t_rp15 (K : PySem.W.Frag) : TE := (tCB (rRepr K) (tCons (tTup (tCons (tVar 5) (tCons (tVar 6) (tNil)))) (tNil)))
theorem rp15 {Q : VK} (Y : Y15 ts sz ls ws L) (hl : PairsL H l ls) (hw : PairsL H w ws) (q : ∀ H', Same H H' → Q (.str (dRepr (hd15 ls ws))) H') : t_rp15 K [x0, x1, x2, x3, x4, some (.ref l), some (.ref w), x7, x8, x9, x10, x11, x12, x13, x14] H Q := by
  refine ⟨_, rfl, _, rfl, SR.sz (by show 2 ≤ 1000; decide), fun t ht => ?_⟩
  have s1 := same_new (o := .tup [.ref l, .ref w]) ht
  have T1 : upd H t (.tup [.ref l, .ref w]) t = some (.tup [.ref l, .ref w]) := upd_same
  generalize upd H t (.tup [.ref l, .ref w]) = H1 at s1 T1 ⊢
  have D : Dp K H1 (.ref t) (hd15 ls ws) := .tup (SqT.of T1) (.cons (dp_pairs (hl.same s1)) (.cons (dp_pairs (hw.same s1)) .nil))
  have sh := hd_show Y.sl Y.sw
  have l40 := (Y.h.perm Y.pl).l40
  have w6 : ws.length ≤ 6 := by
    rw [Y.pw.length_eq]
    exact Y.ks.kl
  exact ⟨.ref t, _, rfl, D, sh, hd_depth ls ws, repr_fit (K := K) (H := H1) sh D (hd_cost l40 w6), q H1 s1⟩
@[irreducible] def xRp15 := @t_rp15
theorem xRp15_eq : @xRp15 = @t_rp15 := by
  unfold xRp15
  rfl
def t_tr15 (K : PySem.W.Frag) (a C T B : Addr) : TS := (tSeq (tIfS (tOr (tTest (tOp (rNeD K) (tCall (spTrains K C) [] E0 (tCons (tVar 8) (tNil))) (tCB (qSorted K) (tCons (tVar 3) (tNil))))) (tOr (tTest (tOp (rNeD K) (tProp C (spCapacities K C) [] E0 (tVar 8)) (tTupItems (tVar 4)))) (tTest (tOp rNe (t_rp15 K) (tVar 7)))))
  (tRet (tC (.bl false)))
  (tNext))
  (t_to15 K a C T B))
theorem tr15 (hE : BareK K a []) (Y : Y15 ts sz ls ws L) (X : X15 H d g c (b + 69) F Z l w ts sz ls ws) (ru : RowAt K C H u (withF sz (ones L)) sz) (hN : ∀ y9 y10 y11 y12 y13 y14 H', StB H' d g c b → N [x0, some (.ref d), x2, some (.ref F), some (.ref Z), some (.ref l), some (.ref w), some (.str (dRepr (hd15 ls ws))), some (.ref u), y9, y10, y11, y12, y13, y14] H') :
    t_tr15 K a C T B { nx := N, rt := R, bk := N2, ct := N3 } [x0, some (.ref d), x2, some (.ref F), some (.ref Z), some (.ref l), some (.ref w), some (.str (dRepr (hd15 ls ws))), some (.ref u), x9, x10, x11, x12, x13, x14] H := by
  unfold t_tr15
  rw [← xTo15_eq, ← xRp15_eq]
  have wv := with_vd Y.ks (ones_vd Y.h.asc Y.h.len)
  refine ⟨_, rfl, u, sz, ⟨_, wv.1⟩, rfl, ru, fun D H1 hD s1 hDp => ?_⟩
  have X1 := X.same s1
  refine ⟨_, rfl, sorted15 _ Y.h (rw_with Y.h Y.ks) X1.hF hDp fun H2 s2 => ⟨_, rfl, iteF ?_⟩⟩
  have s02 := s1.trans s2
  have X2 := X.same s02
  have ru2 := ru.same s02
  obtain ⟨du, fu, hu, nu⟩ := ru2.ins2'
  refine ⟨_, rfl, u, du, fu, rfl, hu, u, _, sz, rfl, ru2, fun cc hc => ?_⟩
  refine ⟨_, rfl, Z, _, rfl, X2.z, fun H3 p t1 s3 n3 _ _ d3 p3 => ?_⟩
  have pl : Paired (TupAt H3) t1 sz := items_paired p3
  refine ⟨_, _, pairsT_dp (hc.same s3), dp_row (SqT.of d3) pl, row_shaped sz, row_shaped sz, _, rfl, ?_⟩
  rw [eqv_same (row_shaped sz)]
  refine iteF ?_
  have s03 := s02.trans s3
  have X3 := X.same s03
  refine op_go ?_
  show xRp15 K [x0, some (.ref d), x2, some (.ref F), some (.ref Z), some (.ref l), some (.ref w), some (.str (dRepr (hd15 ls ws))), some (.ref u), x9, x10, x11, x12, x13, x14] H3 _
  rw [xRp15_eq]
  refine rp15 Y X3.hl X3.hw fun H4 s4 => ⟨_, rfl, rfl, _, rfl, ?_⟩
  rw [decide_eq_true rfl]
  refine iteF ?_
  have s04 := s03.trans s4
  show xTo15 K a C T B { nx := N, rt := R, bk := N2, ct := N3 } [x0, some (.ref d), x2, some (.ref F), some (.ref Z), some (.ref l), some (.ref w), some (.str (dRepr (hd15 ls ws))), some (.ref u), x9, x10, x11, x12, x13, x14] H4
  rw [xTo15_eq]
  exact to15 hE Y (X.same s04) (ru.same s04) hN
@[irreducible] def xTr15 := @t_tr15
theorem xTr15_eq : @xTr15 = @t_tr15 := by
  unfold xTr15
  rfl
def t_re15 (K : PySem.W.Frag) (a C T B : Addr) : TS := (tSeq (tAsg (t_rp15 K) (gName 7))
  (tSeq (tAsg (tCall (spRowOfX K C T B) [] E0 (tCons (tVar 5) (tCons (tVar 6) (tNil)))) (gName 8))
  (t_tr15 K a C T B)))
theorem re15 (hE : BareK K a []) (Y : Y15 ts sz ls ws L) (X : X15 H d g c (b + 69) F Z l w ts sz ls ws) (hN : ∀ y7 y8 y9 y10 y11 y12 y13 y14 H', StB H' d g c b → N [x0, some (.ref d), x2, some (.ref F), some (.ref Z), some (.ref l), some (.ref w), y7, y8, y9, y10, y11, y12, y13, y14] H') :
    t_re15 K a C T B { nx := N, rt := R, bk := N2, ct := N3 } [x0, some (.ref d), x2, some (.ref F), some (.ref Z), some (.ref l), some (.ref w), x7, x8, x9, x10, x11, x12, x13, x14] H := by
  unfold t_re15
  rw [← xTr15_eq, ← xRp15_eq]
  refine seq_go (asg_go ?_)
  show xRp15 K [x0, some (.ref d), x2, some (.ref F), some (.ref Z), some (.ref l), some (.ref w), x7, x8, x9, x10, x11, x12, x13, x14] H _
  rw [xRp15_eq]
  refine rp15 Y X.hl X.hw fun H1 s1 => ?_
  have X1 := X.same s1
  refine ⟨_, rfl, _, rfl, ?_⟩
  generalize hz : spRowOfX K C T B = zz
  show zz [.ref l, .ref w] H1 _ E0
  subst hz
  refine rowX_ok (Y.h.perm Y.pl) X1.hl.at (Y.caps X1.hw.at) Y.pw Y.ks fun y H2 hy s2 ry => ?_
  show xTr15 K a C T B { nx := N, rt := R, bk := N2, ct := N3 } [x0, some (.ref d), x2, some (.ref F), some (.ref Z), some (.ref l), some (.ref w), some (.str (dRepr (hd15 ls ws))), some (.ref y), x9, x10, x11, x12, x13, x14] H2
  rw [xTr15_eq]
  exact tr15 hE Y (X1.same s2) ry fun y9 y10 y11 y12 y13 y14 H' S' => hN _ _ _ _ _ _ _ _ H' S'
@[irreducible] def xRe15 := @t_re15
theorem xRe15_eq : @xRe15 = @t_re15 := by
  unfold xRe15
  rfl
def t_sh15 (K : PySem.W.Frag) (a C T B : Addr) : TS := (tSeq (tPar 5 6 (tCons (tCall (spShuffled K) [] E0 (tCons (tVar 1) (tCons (tVar 3) (tNil)))) (tCons (tCall (spShuffled K) [] E0 (tCons (tVar 1) (tCons (LiI.tListItems (tVar 4)) (tNil)))) (tNil))))
  (t_re15 K a C T B))
theorem sh15 (hE : BareK K a []) (h : Ts15 ts L) (bd : ∀ t ∈ ts, -(10 ^ 31) ≤ t.2 ∧ t.2 ≤ 10 ^ 31) (ks : KsOk sz) (S : StB H d g c (b + 197)) (hF : PairsL H F ts) (f1 : F ≠ d) (f2 : F ≠ g) (z : H Z = some (.dK (kvsOf sz))) (hN : ∀ y5 y6 y7 y8 y9 y10 y11 y12 y13 y14 H', StB H' d g c b → N [x0, some (.ref d), x2, some (.ref F), some (.ref Z), y5, y6, y7, y8, y9, y10, y11, y12, y13, y14] H') :
    t_sh15 K a C T B { nx := N, rt := R, bk := N2, ct := N3 } [x0, some (.ref d), x2, some (.ref F), some (.ref Z), x5, x6, x7, x8, x9, x10, x11, x12, x13, x14] H := by
  unfold t_sh15
  rw [← xRe15_eq]
  obtain ⟨us, hF0, pr⟩ := hF
  have l40 := h.l40
  have ul := paired_len pr
  refine ⟨_, rfl, _, rfl, d, g, c, b + 133, F, us, rfl, S, SqL.of hF0, by omega, fun t m => ?_, fun l H1 vs S1 q1 l1 l2 l3 hl hl2 pm => ?_⟩
  · obtain ⟨p, _, hp⟩ := paired_mem pr t m
    exact flat2 hp
  obtain ⟨ls, prl, pml⟩ := perm_paired pm (tups_kp2 S q1 pr)
  have hL1 : PairsL H1 l ls := ⟨vs, hl2, prl⟩
  have hF1 : PairsL H1 F ts := PairsL.kp ⟨us, hF0, pr⟩ S q1 f1 f2
  have z1 := kp_dict S q1 z
  refine ⟨_, rfl, _, rfl, Z, _, rfl, z1, fun H2 i1 t1 s2 n2 _ _ d2 p2 => ?_⟩
  have pl : Paired (TupAt H2) t1 sz := items_paired p2
  have tl := paired_len pl
  have kl := ks.kl
  have S2 := StB.same s2 S1
  refine ⟨d, g, c, b + 69, i1, t1, rfl, S2, SqL.of d2, by omega, fun t m => ?_, fun w H3 ws' S3 q3 w1 w2 w3 hw hw2 pm2 => ⟨_, _, rfl, ?_⟩⟩
  · obtain ⟨p, _, hp⟩ := paired_mem pl t m
    exact flat2 hp
  obtain ⟨ws, prw, pmw⟩ := perm_paired pm2 (tups_kp2 S2 q3 pl)
  show xRe15 K a C T B { nx := N, rt := R, bk := N2, ct := N3 } [x0, some (.ref d), x2, some (.ref F), some (.ref Z), some (.ref l), some (.ref w), x7, x8, x9, x10, x11, x12, x13, x14] H3
  rw [xRe15_eq]
  exact re15 hE ⟨h, ks, pml, pmw, bd⟩ ⟨S3, (hF1.same s2).kp S2 q3 f1 f2, f1, f2, kp_dict S2 q3 (s2 _ _ z1), (hL1.same s2).kp S2 q3 l1 l2, ⟨ws', hw2, prw⟩⟩ fun y7 y8 y9 y10 y11 y12 y13 y14 H' S' => hN _ _ _ _ _ _ _ _ _ _ H' S'
@[irreducible] def xSh15 := @t_sh15
theorem xSh15_eq : @xSh15 = @t_sh15 := by
  unfold xSh15
  rfl
def t_cr15 (K : PySem.W.Frag) (a C T B : Addr) : TS := (tSeq (tIfS (tTest (tOp rEq (tCall spTake [] E0 (tCons (tVar 1) (tCons (tC (.int 4)) (tNil)))) (tC (.int 0))))
  (tAsg (tCall (spCrowd15 K) [] E0 (tCons (tVar 1) (tNil))) (gName 3))
  (tNext))
  (t_sh15 K a C T B))
theorem cr15 (hE : BareK K a []) (pos : ∀ t ∈ ts, 1 ≤ t.1) (sum : (ts.map Prod.fst).sum ≤ 40) (bd : ∀ t ∈ ts, -(10 ^ 31) ≤ t.2 ∧ t.2 ≤ 10 ^ 31) (ks : KsOk sz) (S : StB H d g c (b + 288)) (hF : PairsL H F ts) (f1 : F ≠ d) (f2 : F ≠ g) (z : H Z = some (.dK (kvsOf sz))) (hN : ∀ y3 y5 y6 y7 y8 y9 y10 y11 y12 y13 y14 H', StB H' d g c b → N [x0, some (.ref d), x2, y3, some (.ref Z), y5, y6, y7, y8, y9, y10, y11, y12, y13, y14] H') :
    t_cr15 K a C T B { nx := N, rt := R, bk := N2, ct := N3 } [x0, some (.ref d), x2, some (.ref F), some (.ref Z), x5, x6, x7, x8, x9, x10, x11, x12, x13, x14] H := by
  unfold t_cr15
  rw [← xSh15_eq]
  refine ⟨_, rfl, d, g, c, b + 287, 4, rfl, S, by decide, by decide, fun t H1 t0 t1 S1 q1 => ⟨rfl, _, rfl, ?_⟩⟩
  have z1 := kp_dict S q1 z
  refine ite2 (fun _ => ?_) (fun _ => ?_)
  · refine ⟨_, rfl, d, g, c, b + 197, rfl, S1, fun F' H2 ts' T' ne q2 => ?_⟩
    obtain ⟨L, h⟩ := ts15 T'.pos (by have := T'.sum; have := T'.r0; omega)
    show xSh15 K a C T B { nx := N, rt := R, bk := N2, ct := N3 } [x0, some (.ref d), x2, some (.ref F'), some (.ref Z), x5, x6, x7, x8, x9, x10, x11, x12, x13, x14] H2
    rw [xSh15_eq]
    exact sh15 hE h (fun t m => by
      have := T'.bd t m
      have e30 : (10 : Int) ^ 30 = 1000000000000000000000000000000 := by decide
      have e31 : (10 : Int) ^ 31 = 10000000000000000000000000000000 := by decide
      omega) ks T'.S T'.hF T'.f1 T'.f2 (kp_dict S1 q2 z1) fun y5 y6 y7 y8 y9 y10 y11 y12 y13 y14 H' S' => hN _ _ _ _ _ _ _ _ _ _ _ H' S'
  · obtain ⟨L, h⟩ := ts15 pos sum
    show xSh15 K a C T B { nx := N, rt := R, bk := N2, ct := N3 } [x0, some (.ref d), x2, some (.ref F), some (.ref Z), x5, x6, x7, x8, x9, x10, x11, x12, x13, x14] H1
    rw [xSh15_eq]
    exact sh15 (b := b + 90) hE h bd ks S1 (hF.kp S q1 f1 f2) f1 f2 z1 fun y5 y6 y7 y8 y9 y10 y11 y12 y13 y14 H' S' => hN _ _ _ _ _ _ _ _ _ _ _ H' (S'.mono (by omega))
@[irreducible] def xCr15 := @t_cr15
theorem xCr15_eq : @xCr15 = @t_cr15 := by
  unfold xCr15
  rfl
def t_tu15 (K : PySem.W.Frag) (a C T B : Addr) : TS := (tSeq (tPar 3 4 (tCons (tCall (spList15 K) [] E0 (tCons (tVar 1) (tNil))) (tCons (tCall (spSizes K) [] E0 (tCons (tVar 1) (tCons (tC (.int 6)) (tNil)))) (tNil))))
  (t_cr15 K a C T B))
theorem tu15 (hE : BareK K a []) (S : StB H d g c (b + 343)) (hN : ∀ y3 y4 y5 y6 y7 y8 y9 y10 y11 y12 y13 y14 H', StB H' d g c b → N [x0, some (.ref d), x2, y3, y4, y5, y6, y7, y8, y9, y10, y11, y12, y13, y14] H') :
    t_tu15 K a C T B { nx := N, rt := R, bk := N2, ct := N3 } [x0, some (.ref d), x2, x3, x4, x5, x6, x7, x8, x9, x10, x11, x12, x13, x14] H := by
  unfold t_tu15
  rw [← xCr15_eq]
  refine ⟨_, rfl, d, g, c, b + 313, rfl, S, fun F H1 ts room Tn tl sum q1 => ?_⟩
  refine ⟨_, rfl, d, g, c, b + 288, 6, rfl, Tn.S, by decide, by decide, fun Z H2 sz S2 q2 z1 z2 z3 hZ Z' ak ko kl => ⟨_, _, rfl, ?_⟩⟩
  show xCr15 K a C T B { nx := N, rt := R, bk := N2, ct := N3 } [x0, some (.ref d), x2, some (.ref F), some (.ref Z), x5, x6, x7, x8, x9, x10, x11, x12, x13, x14] H2
  rw [xCr15_eq]
  exact cr15 hE Tn.pos sum (fun t m => by
      have := Tn.bd t m
      have e30 : (10 : Int) ^ 30 = 1000000000000000000000000000000 := by decide
      have e31 : (10 : Int) ^ 31 = 10000000000000000000000000000000 := by decide
      omega) ⟨ak, kl, ko⟩ S2 (Tn.hF.kp Tn.S q2 Tn.f1 Tn.f2) Tn.f1 Tn.f2 Z' fun y3 y5 y6 y7 y8 y9 y10 y11 y12 y13 y14 H' S' => hN _ _ _ _ _ _ _ _ _ _ _ _ H' S'
@[irreducible] def xTu15 := @t_tu15
theorem xTu15_eq : @xTu15 = @t_tu15 := by
  unfold xTu15
  rfl
def t_law15 (K : PySem.W.Frag) (a C T B : Addr) : TS := tSeq (tAsg (tCall (spBegun K) [] E0 (tCons (tVar 0) (tNil))) (gName 1))
  (tSeq (tFor (iRng1 (tCons (tOp qAdd (tC (.int 2)) (tCB qMin2 (tCons (tCB (qLen K) (tCons (tVar 0) (tNil))) (tCons (tC (.int 2)) (tNil))))) (tNil))) (gName 2)
  (t_tu15 K a C T B))
  (tRet (tC (.bl true))))
theorem pure_law15 (hE : BareK K a []) (vs : List V) (H : Hp) (Q : VK) (E : XK) (h : spLaw K vs H Q E) : t_law15 K a C T B { nx := fun _ H' => Q .non H', rt := Q } (start ["script", "state", "turn", "some", "sizes", "line", "wide", "handed", "told", "one", "others", "made", "bad", "odd", "due"] vs) H := by
  obtain ⟨a', ns, rfl, hL, hlen, k⟩ := h
  refine ⟨_, rfl, a', ns, rfl, hL, hlen, fun d g c H1 S1 e1 _ _ _ => ?_⟩
  have hL1 : SqL K H1 a' (ns.map V.int) := Same.seq e1 hL
  refine ⟨_, rfl, a', _, rfl, .inl hL1, _, _, rfl, _, _, rfl, rfl, _, rfl, ?_, ?_, ?_⟩
  · show -(2 ^ 62) ≤ 2 + (if (2 : Int) < ((ns.map V.int).length : Int) then 2 else ((ns.map V.int).length : Int))
    split <;> omega
  · show 2 + (if (2 : Int) < ((ns.map V.int).length : Int) then 2 else ((ns.map V.int).length : Int)) < 2 ^ 62
    rw [List.length_map]
    split <;> omega
  have hn : (2 + (if (2 : Int) < ((ns.map V.int).length : Int) then 2 else ((ns.map V.int).length : Int))).toNat ≤ 4 := by
    split <;> omega
  generalize (2 + (if (2 : Int) < ((ns.map V.int).length : Int) then 2 else ((ns.map V.int).length : Int))).toNat = n at hn
  refine for_range (lo := 0) (n := n) (fun i σ H2 => StB H2 d g c (5000 - 343 * i) ∧ ∃ x2 x3 x4 x5 x6 x7 x8 x9 x10 x11 x12 x13 x14, σ = [some (.ref a'), some (.ref d), x2, x3, x4, x5, x6, x7, x8, x9, x10, x11, x12, x13, x14]) ⟨S1.mono (by decide), _, _, _, _, _, _, _, _, _, _, _, _, _, rfl⟩ ?_ ?_
  · rintro i σ H2 hi ⟨S2, x2, x3, x4, x5, x6, x7, x8, x9, x10, x11, x12, x13, x14, rfl⟩
    have e : 5000 - 343 * i = (5000 - 343 * (i + 1)) + 343 := by omega
    rw [e] at S2
    rw [← xTu15_eq]
    show xTu15 K a C T B _ [some (.ref a'), some (.ref d), some (.int (0 + i)), x3, x4, x5, x6, x7, x8, x9, x10, x11, x12, x13, x14] H2
    rw [xTu15_eq]
    exact tu15 hE S2 fun y3 y4 y5 y6 y7 y8 y9 y10 y11 y12 y13 y14 H' S' => ⟨S', _, _, _, _, _, _, _, _, _, _, _, _, _, rfl⟩
  · rintro σ H2 _
    exact k H2
end
end SR
set_option Elab.async false
set_option linter.all false
set_option maxRecDepth 100000
set_option maxHeartbeats 8000000
namespace SR
open PySem PySem.Spec PyProof.Rows L2
def topS (i : Nat) : Stmt := PySem.Challenge.pw_scooprow_k15_whole_rows_of_trains.main.body.getD i (.Pass ⟨0, 0, 0, 0⟩)
abbrev s_is_integer : Stmt := topS 14
abbrev s_is_between : Stmt := topS 15
abbrev s_is_pair : Stmt := topS 16
abbrev s_are_pairs : Stmt := topS 17
abbrev s_is_wide_box : Stmt := topS 18
abbrev s_are_capacities : Stmt := topS 19
abbrev s_are_contents : Stmt := topS 20
abbrev s_is_row_like : Stmt := topS 21
abbrev s_Row_init : Stmt := inClass (topS 22) 0
abbrev s_Row_contents : Stmt := inClass (topS 22) 1
abbrev s_Row_capacities : Stmt := inClass (topS 22) 2
abbrev s_Row_held : Stmt := inClass (topS 22) 3
abbrev s_Row_capacity : Stmt := inClass (topS 22) 4
abbrev s_Row_is_plain : Stmt := inClass (topS 22) 6
abbrev s_Row_total : Stmt := inClass (topS 22) 5
abbrev s_Row_eq : Stmt := inClass (topS 22) 7
abbrev s_is_plain_row : Stmt := topS 23
abbrev s_is_capacity : Stmt := topS 26
abbrev s_handled : Stmt := topS 27
abbrev s_passed : Stmt := topS 28
abbrev s_steps_from : Stmt := topS 29
abbrev s_trace : Stmt := topS 30
abbrev s_left_by : Stmt := topS 31
abbrev s_sweep : Stmt := topS 32
abbrev s_mirrored : Stmt := topS 33
abbrev s_unsweep : Stmt := topS 34
abbrev s_without_box : Stmt := topS 36
abbrev s_plain_form : Stmt := topS 37
abbrev s_with_box : Stmt := topS 38
abbrev s_with_capacities : Stmt := topS 39
abbrev s_runs_in : Stmt := topS 41
abbrev s_cut : Stmt := topS 42
abbrev s_behind_runs : Stmt := topS 43
abbrev s_trains : Stmt := topS 44
abbrev s_are_trains : Stmt := topS 45
abbrev s_uncut : Stmt := topS 46
abbrev s_row_of : Stmt := topS 47
abbrev s_begun : Stmt := topS 49
abbrev s_mixed : Stmt := topS 50
abbrev s_take : Stmt := topS 51
abbrev s_pick : Stmt := topS 52
abbrev s_shuffled : Stmt := topS 53
abbrev s_sizes : Stmt := topS 54
abbrev s_boxes : Stmt := topS 55
abbrev s_made : Stmt := topS 56
abbrev s_list : Stmt := topS 57
abbrev s_crowd : Stmt := topS 58
abbrev s_lare_trains : Stmt := topS 59
abbrev s_told : Stmt := topS 60
abbrev s_bent : Stmt := topS 61
abbrev s_law : Stmt := topS 62
theorem sc_is_integer : FnScope ["value"] ["value"] (defScope s_is_integer) := ⟨rfl, rfl, rfl, by decide +kernel, rfl, by decide +kernel, by decide +kernel⟩
theorem sc_is_between : FnScope ["value", "low", "high"] ["value", "low", "high"] (defScope s_is_between) := ⟨rfl, rfl, rfl, by decide +kernel, rfl, by decide +kernel, by decide +kernel⟩
theorem sc_is_pair : FnScope ["value"] ["value"] (defScope s_is_pair) := ⟨rfl, rfl, rfl, by decide +kernel, rfl, by decide +kernel, by decide +kernel⟩
theorem sc_are_pairs : FnScope ["value", "part", "first", "_"] ["value"] (defScope s_are_pairs) := ⟨rfl, rfl, rfl, by decide +kernel, rfl, by decide +kernel, by decide +kernel⟩
theorem sc_is_wide_box : FnScope ["index", "capacity"] ["index", "capacity"] (defScope s_is_wide_box) := ⟨rfl, rfl, rfl, by decide +kernel, rfl, by decide +kernel, by decide +kernel⟩
theorem sc_are_capacities : FnScope ["value", "index", "capacity"] ["value"] (defScope s_are_capacities) := ⟨rfl, rfl, rfl, by decide +kernel, rfl, by decide +kernel, by decide +kernel⟩
theorem sc_are_contents : FnScope ["value", "capacities", "wide", "index", "count", "_"] ["value", "capacities"] (defScope s_are_contents) := ⟨rfl, rfl, rfl, by decide +kernel, rfl, by decide +kernel, by decide +kernel⟩
theorem sc_is_row_like : FnScope ["contents", "capacities"] ["contents", "capacities"] (defScope s_is_row_like) := ⟨rfl, rfl, rfl, by decide +kernel, rfl, by decide +kernel, by decide +kernel⟩
theorem sc_Row_init : FnScope ["self", "contents", "capacities"] ["self", "contents", "capacities"] (defScope s_Row_init) := ⟨rfl, rfl, rfl, by decide +kernel, rfl, by decide +kernel, by decide +kernel⟩
theorem sc_Row_contents : FnScope ["self"] ["self"] (defScope s_Row_contents) := ⟨rfl, rfl, rfl, by decide +kernel, rfl, by decide +kernel, by decide +kernel⟩
theorem sc_Row_capacities : FnScope ["self"] ["self"] (defScope s_Row_capacities) := ⟨rfl, rfl, rfl, by decide +kernel, rfl, by decide +kernel, by decide +kernel⟩
theorem sc_Row_held : FnScope ["self", "index"] ["self", "index"] (defScope s_Row_held) := ⟨rfl, rfl, rfl, by decide +kernel, rfl, by decide +kernel, by decide +kernel⟩
theorem sc_Row_capacity : FnScope ["self", "index"] ["self", "index"] (defScope s_Row_capacity) := ⟨rfl, rfl, rfl, by decide +kernel, rfl, by decide +kernel, by decide +kernel⟩
theorem sc_Row_is_plain : FnScope ["self"] ["self"] (defScope s_Row_is_plain) := ⟨rfl, rfl, rfl, by decide +kernel, rfl, by decide +kernel, by decide +kernel⟩
theorem sc_Row_total : FnScope ["self", "count", "_"] ["self"] (defScope s_Row_total) := ⟨rfl, rfl, rfl, by decide +kernel, rfl, by decide +kernel, by decide +kernel⟩
theorem sc_Row_eq : FnScope ["self", "other"] ["self", "other"] (defScope s_Row_eq) := ⟨rfl, rfl, rfl, by decide +kernel, rfl, by decide +kernel, by decide +kernel⟩
theorem sc_is_plain_row : FnScope ["value"] ["value"] (defScope s_is_plain_row) := ⟨rfl, rfl, rfl, by decide +kernel, rfl, by decide +kernel, by decide +kernel⟩
theorem sc_is_capacity : FnScope ["value"] ["value"] (defScope s_is_capacity) := ⟨rfl, rfl, rfl, by decide +kernel, rfl, by decide +kernel, by decide +kernel⟩
theorem sc_handled : FnScope ["capacity", "load", "box_capacity", "count"] ["capacity", "load", "box_capacity", "count"] (defScope s_handled) := ⟨rfl, rfl, rfl, by decide +kernel, rfl, by decide +kernel, by decide +kernel⟩
theorem sc_passed : FnScope ["capacity", "load", "box_capacity", "count", "up", "down"] ["capacity", "load", "box_capacity", "count"] (defScope s_passed) := ⟨rfl, rfl, rfl, by decide +kernel, rfl, by decide +kernel, by decide +kernel⟩
theorem sc_steps_from : FnScope ["row", "capacity", "start", "steps", "index", "load", "count", "new_count", "new_load"] ["row", "capacity", "start"] (defScope s_steps_from) := ⟨rfl, rfl, rfl, by decide +kernel, rfl, by decide +kernel, by decide +kernel⟩
theorem sc_trace : FnScope ["row", "capacity", "steps", "start", "_"] ["row", "capacity"] (defScope s_trace) := ⟨rfl, rfl, rfl, by decide +kernel, rfl, by decide +kernel, by decide +kernel⟩
theorem sc_left_by : FnScope ["steps", "index", "_", "new_count"] ["steps"] (defScope s_left_by) := ⟨rfl, rfl, rfl, by decide +kernel, rfl, by decide +kernel, by decide +kernel⟩
theorem sc_sweep : FnScope ["row", "capacity"] ["row", "capacity"] (defScope s_sweep) := ⟨rfl, rfl, rfl, by decide +kernel, rfl, by decide +kernel, by decide +kernel⟩
theorem sc_mirrored : FnScope ["row", "contents", "index", "count", "capacity"] ["row"] (defScope s_mirrored) := ⟨rfl, rfl, rfl, by decide +kernel, rfl, by decide +kernel, by decide +kernel⟩
theorem sc_unsweep : FnScope ["row", "capacity"] ["row", "capacity"] (defScope s_unsweep) := ⟨rfl, rfl, rfl, by decide +kernel, rfl, by decide +kernel, by decide +kernel⟩
theorem sc_without_box : FnScope ["contents", "index", "capacity", "near", "pair", "place", "count"] ["contents", "index", "capacity"] (defScope s_without_box) := ⟨rfl, rfl, rfl, by decide +kernel, rfl, by decide +kernel, by decide +kernel⟩
theorem sc_plain_form : FnScope ["row", "contents", "index", "capacity", "behind", "pair"] ["row"] (defScope s_plain_form) := ⟨rfl, rfl, rfl, by decide +kernel, rfl, by decide +kernel, by decide +kernel⟩
theorem sc_with_box : FnScope ["contents", "index", "capacity", "near", "place", "count"] ["contents", "index", "capacity"] (defScope s_with_box) := ⟨rfl, rfl, rfl, by decide +kernel, rfl, by decide +kernel, by decide +kernel⟩
theorem sc_with_capacities : FnScope ["row", "capacities", "contents", "index", "capacity", "behind", "pair"] ["row", "capacities"] (defScope s_with_capacities) := ⟨rfl, rfl, rfl, by decide +kernel, rfl, by decide +kernel, by decide +kernel⟩
theorem sc_runs_in : FnScope ["row", "found", "index", "_"] ["row"] (defScope s_runs_in) := ⟨rfl, rfl, rfl, by decide +kernel, rfl, by decide +kernel, by decide +kernel⟩
theorem sc_cut : FnScope ["row", "kept", "offsets", "first", "length", "start", "place"] ["row"] (defScope s_cut) := ⟨rfl, rfl, rfl, by decide +kernel, rfl, by decide +kernel, by decide +kernel⟩
theorem sc_behind_runs : FnScope ["row", "first", "length"] ["row"] (defScope s_behind_runs) := ⟨rfl, rfl, rfl, by decide +kernel, rfl, by decide +kernel, by decide +kernel⟩
theorem sc_trains : FnScope ["row", "found", "rest", "length", "offsets", "index", "offset"] ["row"] (defScope s_trains) := ⟨rfl, rfl, rfl, by decide +kernel, rfl, by decide +kernel, by decide +kernel⟩
theorem sc_are_trains : FnScope ["value", "part", "length", "_"] ["value"] (defScope s_are_trains) := ⟨rfl, rfl, rfl, by decide +kernel, rfl, by decide +kernel, by decide +kernel⟩
theorem sc_uncut : FnScope ["row", "offsets", "added", "moved", "before", "offset", "index", "_"] ["row", "offsets"] (defScope s_uncut) := ⟨rfl, rfl, rfl, by decide +kernel, rfl, by decide +kernel, by decide +kernel⟩
theorem sc_row_of : FnScope ["trains", "capacities", "row", "level", "begun", "length", "offset", "_"] ["trains", "capacities"] (defScope s_row_of) := ⟨rfl, rfl, rfl, by decide +kernel, rfl, by decide +kernel, by decide +kernel⟩
theorem sc_begun : FnScope ["script", "wide", "cell"] ["script"] (defScope s_begun) := ⟨rfl, rfl, rfl, by decide +kernel, rfl, by decide +kernel, by decide +kernel⟩
theorem sc_mixed : FnScope ["state", "turn", "found", "prime", "blend", "cell"] ["state"] (defScope s_mixed) := ⟨rfl, rfl, rfl, by decide +kernel, rfl, by decide +kernel, by decide +kernel⟩
theorem sc_take : FnScope ["state", "size", "found"] ["state", "size"] (defScope s_take) := ⟨rfl, rfl, rfl, by decide +kernel, rfl, by decide +kernel, by decide +kernel⟩
theorem sc_pick : FnScope ["state", "some"] ["state", "some"] (defScope s_pick) := ⟨rfl, rfl, rfl, by decide +kernel, rfl, by decide +kernel, by decide +kernel⟩
theorem sc_shuffled : FnScope ["state", "some", "spare", "found"] ["state", "some"] (defScope s_shuffled) := ⟨rfl, rfl, rfl, by decide +kernel, rfl, by decide +kernel, by decide +kernel⟩
theorem sc_sizes : FnScope ["state", "most", "found", "turn", "place"] ["state", "most"] (defScope s_sizes) := ⟨rfl, rfl, rfl, by decide +kernel, rfl, by decide +kernel, by decide +kernel⟩
theorem sc_boxes : FnScope ["state", "sizes", "most", "place", "found", "spare", "turn", "step", "amount"] ["state", "sizes", "most"] (defScope s_boxes) := ⟨rfl, rfl, rfl, by decide +kernel, rfl, by decide +kernel, by decide +kernel⟩
theorem sc_made : FnScope ["boxes", "sizes"] ["boxes", "sizes"] (defScope s_made) := ⟨rfl, rfl, rfl, by decide +kernel, rfl, by decide +kernel, by decide +kernel⟩
theorem sc_list : FnScope ["state", "base", "found", "room", "turn", "size", "more"] ["state"] (defScope s_list) := ⟨rfl, rfl, rfl, by decide +kernel, rfl, by decide +kernel, by decide +kernel⟩
theorem sc_crowd : FnScope ["state", "found", "room", "size"] ["state"] (defScope s_crowd) := ⟨rfl, rfl, rfl, by decide +kernel, rfl, by decide +kernel, by decide +kernel⟩
theorem sc_lare_trains : FnScope ["value", "train", "part"] ["value"] (defScope s_lare_trains) := ⟨rfl, rfl, rfl, by decide +kernel, rfl, by decide +kernel, by decide +kernel⟩
theorem sc_told : FnScope ["value", "wide", "caught", "error"] ["value", "wide"] (defScope s_told) := ⟨rfl, rfl, rfl, by decide +kernel, rfl, by decide +kernel, by decide +kernel⟩
theorem sc_bent : FnScope ["state", "some", "at", "size", "offset", "odd"] ["state", "some"] (defScope s_bent) := ⟨rfl, rfl, rfl, by decide +kernel, rfl, by decide +kernel, by decide +kernel⟩
theorem sc_law : FnScope ["script", "state", "turn", "some", "sizes", "line", "wide", "handed", "told", "one", "others", "made", "bad", "odd", "due"] ["script"] (defScope s_law) := ⟨rfl, rfl, rfl, by decide +kernel, rfl, by decide +kernel, by decide +kernel⟩
structure Tx (K : PySem.W.Frag) (mg : Str → Option Value) (c_Row : Addr) (c_BadNumber : Addr) (c_BadCapacity : Addr) (c_BadRow : Addr) (c_BadTrains : Addr) (c_ScoopError : Addr) : Prop where
  n_isinstance : mg "isinstance" = none
  n_int : mg "int" = none
  n_bool : mg "bool" = none
  n_list : mg "list" = none
  n_tuple : mg "tuple" = none
  n_all : mg "all" = none
  n_len : mg "len" = none
  n_dict : mg "dict" = none
  n_sum : mg "sum" = none
  n_sorted : mg "sorted" = none
  n_range : mg "range" = none
  n_min : mg "min" = none
  n_max : mg "max" = none
  n_repr : mg "repr" = none
  n_super : mg "super" = none
  n_enumerate : mg "enumerate" = none
  n_zip : mg "zip" = none
  n_abs : mg "abs" = none
  n_str : mg "str" = none
  c_GREATEST_CAPACITY : ∃ u, mg "GREATEST_CAPACITY" = some u ∧ RelV (.int (99)) u
  c_FIRST_WIDE_INDEX : ∃ u, mg "FIRST_WIDE_INDEX" = some u ∧ RelV (.int (-60)) u
  c_LAST_WIDE_INDEX : ∃ u, mg "LAST_WIDE_INDEX" = some u ∧ RelV (.int (60)) u
  c_LEAST_WIDE_CAPACITY : ∃ u, mg "LEAST_WIDE_CAPACITY" = some u ∧ RelV (.int (2)) u
  c_GREATEST_WIDE_CAPACITY : ∃ u, mg "GREATEST_WIDE_CAPACITY" = some u ∧ RelV (.int (9)) u
  c_MOST_WIDE_BOXES : ∃ u, mg "MOST_WIDE_BOXES" = some u ∧ RelV (.int (6)) u
  c_MOST_ITEMS : ∃ u, mg "MOST_ITEMS" = some u ∧ RelV (.int (40)) u
  g_Row : mg "Row" = some (.ref c_Row)
  g_BadNumber : mg "BadNumber" = some (.ref c_BadNumber)
  g_BadCapacity : mg "BadCapacity" = some (.ref c_BadCapacity)
  g_BadRow : mg "BadRow" = some (.ref c_BadRow)
  g_BadTrains : mg "BadTrains" = some (.ref c_BadTrains)
  g_ScoopError : mg "ScoopError" = some (.ref c_ScoopError)
  x_BadNumber : PySem.W.excIn K c_BadNumber He.veBase "ValueError.__new__" = true
  k_BadNumber : PySem.W.keepIn K (.ref c_BadNumber) = true
  s_BadNumber : PySem.W.subIn K (.ref c_BadNumber) (.type "BaseException") = some true
  t_BadNumber : PySem.W.typeIn K (.ref c_BadNumber) = some (.type "type")
  x_BadCapacity : PySem.W.excIn K c_BadCapacity He.veBase "ValueError.__new__" = true
  k_BadCapacity : PySem.W.keepIn K (.ref c_BadCapacity) = true
  s_BadCapacity : PySem.W.subIn K (.ref c_BadCapacity) (.type "BaseException") = some true
  t_BadCapacity : PySem.W.typeIn K (.ref c_BadCapacity) = some (.type "type")
  x_BadTrains : PySem.W.excIn K c_BadTrains He.veBase "ValueError.__new__" = true
  k_BadTrains : PySem.W.keepIn K (.ref c_BadTrains) = true
  s_BadTrains : PySem.W.subIn K (.ref c_BadTrains) (.type "BaseException") = some true
  t_BadTrains : PySem.W.typeIn K (.ref c_BadTrains) = some (.type "type")
section
variable {P : Program} {w : World} {K : PySem.W.Frag} {mg : Str → Option Value} {base : Heap} {c_Row : Addr} {c_BadNumber : Addr} {c_BadCapacity : Addr} {c_BadRow : Addr} {c_BadTrains : Addr} {c_ScoopError : Addr}
theorem dfn_is_integer (T : Tx K mg c_Row c_BadNumber c_BadCapacity c_BadRow c_BadTrains c_ScoopError) {f : Addr} {fd : FuncData} (F : FunD K "is_integer" "is_integer" (defArgs s_is_integer) (defBody s_is_integer) (defScope s_is_integer) [] [] f fd) :
    FnOk P w K mg base CX0 1 f fd ["value"] (spIsInt K) := by
  have D : ∀ (cdv : Value) (A : Around) (outer : List Env) (s : Shared) (H : Hp) (vs : List V) (Q : VK) (E : XK), Room 0 (A.deeper (envOfC "is_integer" (defScope s_is_integer) s.heap.objs.size f cdv)) → (spIsInt K) vs H Q E →
      ∃ t, PSs (cxOf CX0 P w K mg base ["value"] "is_integer" (defScope s_is_integer) f cdv A outer s H E) (defBody s_is_integer) t ∧ t { nx := fun _ H' => Q .non H', rt := Q } (start ["value"] vs) H := by
    intro cdv A outer s H vs Q E hr h
    refine ⟨t_is_integer K, PSs.nox ?_, pure_is_integer vs H Q E h⟩
    exact pss_one (ps_ret (pe_and (pe_callB call_isi (by rfl) T.n_isinstance PyProof.Rows.boot_isinstance (pa_cons (pv 0) (pa_cons (pe_bltn (v := .ty "int") (by rfl) T.n_int (by decide +kernel) rfl) pa_nil))) (pe_one (pe_not (pe_callB call_isi (by rfl) T.n_isinstance PyProof.Rows.boot_isinstance (pa_cons (pv 0) (pa_cons (pe_bltn (v := .ty "bool") (by rfl) T.n_bool (by decide +kernel) rfl) pa_nil)))))))
  exact F.ok sc_is_integer (fun vs H Q E h => by
    repeat (first | (obtain ⟨rfl, _⟩ := h; rfl) | obtain ⟨_, h⟩ := h)) D
theorem dfn_is_between (T : Tx K mg c_Row c_BadNumber c_BadCapacity c_BadRow c_BadTrains c_ScoopError) (C_is_integer : Kn P w K mg base CX0 1 "is_integer" ["value"] (spIsInt K)) {f : Addr} {fd : FuncData} (F : FunD K "is_between" "is_between" (defArgs s_is_between) (defBody s_is_between) (defScope s_is_between) [] [] f fd) :
    FnOk P w K mg base CX0 2 f fd ["value", "low", "high"] (spBetween K) := by
  have D : ∀ (cdv : Value) (A : Around) (outer : List Env) (s : Shared) (H : Hp) (vs : List V) (Q : VK) (E : XK), Room 1 (A.deeper (envOfC "is_between" (defScope s_is_between) s.heap.objs.size f cdv)) → (spBetween K) vs H Q E →
      ∃ t, PSs (cxOf CX0 P w K mg base ["value", "low", "high"] "is_between" (defScope s_is_between) f cdv A outer s H E) (defBody s_is_between) t ∧ t { nx := fun _ H' => Q .non H', rt := Q } (start ["value", "low", "high"] vs) H := by
    intro cdv A outer s H vs Q E hr h
    refine ⟨t_is_between K, PSs.nox ?_, pure_is_between vs H Q E h⟩
    exact pss_one (ps_ret (pe_and (pe_k C_is_integer hr (by decide) rfl pass0 (pa_cons (pv 0) (pa_nil))) (pe_one (pe_chain op_le op_le (pv 1) (pv 0) (pv 2)))))
  exact F.ok sc_is_between (fun vs H Q E h => by
    repeat (first | (obtain ⟨rfl, _⟩ := h; rfl) | obtain ⟨_, h⟩ := h)) D
theorem dfn_is_pair (T : Tx K mg c_Row c_BadNumber c_BadCapacity c_BadRow c_BadTrains c_ScoopError) (C_is_integer : Kn P w K mg base CX0 1 "is_integer" ["value"] (spIsInt K)) {f : Addr} {fd : FuncData} (F : FunD K "is_pair" "is_pair" (defArgs s_is_pair) (defBody s_is_pair) (defScope s_is_pair) [] [] f fd) :
    FnOk P w K mg base CX0 2 f fd ["value"] (spIsPair K) := by
  have D : ∀ (cdv : Value) (A : Around) (outer : List Env) (s : Shared) (H : Hp) (vs : List V) (Q : VK) (E : XK), Room 1 (A.deeper (envOfC "is_pair" (defScope s_is_pair) s.heap.objs.size f cdv)) → (spIsPair K) vs H Q E →
      ∃ t, PSs (cxOf CX0 P w K mg base ["value"] "is_pair" (defScope s_is_pair) f cdv A outer s H E) (defBody s_is_pair) t ∧ t { nx := fun _ H' => Q .non H', rt := Q } (start ["value"] vs) H := by
    intro cdv A outer s H vs Q E hr h
    refine ⟨t_is_pair K, PSs.nox ?_, pure_is_pair vs H Q E h⟩
    exact pss_cons (ps_if (PW.pt (pw_or (pt_not (pt_val (pe_callB call_isi (by rfl) T.n_isinstance PyProof.Rows.boot_isinstance (pa_cons (pv 0) (pa_cons (pe_bltn (v := .ty "tuple") (by rfl) T.n_tuple (by decide +kernel) rfl) pa_nil))))) (pw_or1 (pt_cmpR op_ne (pe_callB call_len_seq (by rfl) T.n_len PySem.boot_len (pa_cons (pv 0) (pa_nil))) (pe_int) (nomark _)))))
      (pss_one (ps_ret (pe_bl)))
      (pss_nil))
      (pss_one (ps_ret (pe_and (pe_k C_is_integer hr (by decide) rfl pass0 (pa_cons (pe_ix ix_tup (pv 0) (pe_int) (fun _ _ => rfl)) (pa_nil))) (pe_one (pe_k C_is_integer hr (by decide) rfl pass0 (pa_cons (pe_ix ix_tup (pv 0) (pe_int) (fun _ _ => rfl)) (pa_nil)))))))
  exact F.ok sc_is_pair (fun vs H Q E h => by
    repeat (first | (obtain ⟨rfl, _⟩ := h; rfl) | obtain ⟨_, h⟩ := h)) D
theorem dfn_are_pairs (T : Tx K mg c_Row c_BadNumber c_BadCapacity c_BadRow c_BadTrains c_ScoopError) (C_is_pair : Kn P w K mg base CX0 2 "is_pair" ["value"] (spIsPair K)) {f : Addr} {fd : FuncData} (F : FunD K "are_pairs" "are_pairs" (defArgs s_are_pairs) (defBody s_are_pairs) (defScope s_are_pairs) [] [] f fd) :
    FnOk P w K mg base CX0 3 f fd ["value"] (spArePairs2 K) := by
  have D : ∀ (cdv : Value) (A : Around) (outer : List Env) (s : Shared) (H : Hp) (vs : List V) (Q : VK) (E : XK), Room 2 (A.deeper (envOfC "are_pairs" (defScope s_are_pairs) s.heap.objs.size f cdv)) → (spArePairs2 K) vs H Q E →
      ∃ t, PSs (cxOf CX0 P w K mg base ["value", "part", "first", "_"] "are_pairs" (defScope s_are_pairs) f cdv A outer s H E) (defBody s_are_pairs) t ∧ t { nx := fun _ H' => Q .non H', rt := Q } (start ["value", "part", "first", "_"] vs) H := by
    intro cdv A outer s H vs Q E hr h
    refine ⟨t_are_pairs w K, PSs.nox ?_, pure_are_pairs2 vs H Q E h⟩
    exact pss_cons (ps_if (pt_not (pt_val (pe_callB call_isiT (by rfl) T.n_isinstance PyProof.Rows.boot_isinstance (pa_cons (pv 0) (pa_cons (pe_tup (pa_cons (pe_bltn (v := .ty "list") (by rfl) T.n_list (by decide +kernel) rfl) (pa_cons (pe_bltn (v := .ty "tuple") (by rfl) T.n_tuple (by decide +kernel) rfl) (pa_nil)))) pa_nil)))))
      (pss_one (ps_ret (pe_bl)))
      (pss_nil))
      (pss_cons (ps_if (pt_not (pt_val (pe_callB (cr_all rfl) (by rfl) T.n_all (by decide +kernel) (pa_cons (pe_lc (own := [("part", 1)]) (g := gName 1) (tt := tYes) rfl sc_are_pairs.nd (pi_or (pi_list (pv 0)) (pi_tup (pv 0))) (blkOk_by (own := [("part", 1)]) (N := ["value", "part", "first", "_"]) (sc := defScope s_are_pairs) (by decide +kernel)) (fun _ _ _ _ _ => pg_name (i := 1) sc_are_pairs.nd rfl (Or.inl rfl)) (fun _ _ _ _ _ => pts_nil) (fun _ _ _ _ _ => pe_k C_is_pair hr (by decide) rfl pass0 (pa_cons (pv 1) (pa_nil)))) (pa_nil)))))
      (pss_one (ps_ret (pe_bl)))
      (pss_nil))
      (pss_one (ps_ret (pe_cmpR op_eq (pe_callB cr_lenSet (by rfl) T.n_len PySem.boot_len (pa_cons (pe_scN (own := [("first", 2), ("_", 3)]) (g := gTup K 2 (gCons (gName 2) (gCons (gName 3) (gNil)))) (tt := tYes) rfl sc_are_pairs.nd (pi_or (pi_list (pv 0)) (pi_tup (pv 0))) (blkOk_by (own := [("first", 2), ("_", 3)]) (N := ["value", "part", "first", "_"]) (sc := defScope s_are_pairs) (by decide +kernel)) (fun _ _ _ _ _ => pg_tup rfl (pgs_cons (pg_name (i := 2) sc_are_pairs.nd rfl (Or.inl rfl)) (pgs_cons (pg_name (i := 3) sc_are_pairs.nd rfl (Or.inl rfl)) (pgs_nil)))) (fun _ _ _ _ _ => pts_nil) (fun _ _ _ _ _ => pv 2)) (pa_nil))) (pe_callB call_len_seq (by rfl) T.n_len PySem.boot_len (pa_cons (pv 0) (pa_nil))) (nomark _)))))
  exact F.ok sc_are_pairs (fun vs H Q E h => by
    repeat (first | (obtain ⟨rfl, _⟩ := h; rfl) | obtain ⟨_, h⟩ := h)) D
theorem dfn_is_wide_box (T : Tx K mg c_Row c_BadNumber c_BadCapacity c_BadRow c_BadTrains c_ScoopError) (C_is_between : Kn P w K mg base CX0 2 "is_between" ["value", "low", "high"] (spBetween K)) {f : Addr} {fd : FuncData} (F : FunD K "_is_wide_box" "_is_wide_box" (defArgs s_is_wide_box) (defBody s_is_wide_box) (defScope s_is_wide_box) [] [] f fd) :
    FnOk P w K mg base CX0 3 f fd ["index", "capacity"] (spWideBox2 K) := by
  have D : ∀ (cdv : Value) (A : Around) (outer : List Env) (s : Shared) (H : Hp) (vs : List V) (Q : VK) (E : XK), Room 2 (A.deeper (envOfC "_is_wide_box" (defScope s_is_wide_box) s.heap.objs.size f cdv)) → (spWideBox2 K) vs H Q E →
      ∃ t, PSs (cxOf CX0 P w K mg base ["index", "capacity"] "_is_wide_box" (defScope s_is_wide_box) f cdv A outer s H E) (defBody s_is_wide_box) t ∧ t { nx := fun _ H' => Q .non H', rt := Q } (start ["index", "capacity"] vs) H := by
    intro cdv A outer s H vs Q E hr h
    refine ⟨t_is_wide_box K, PSs.nox ?_, pure_wide_box2 vs H Q E h⟩
    exact pss_cons (ps_if (pt_not (pt_val (pe_k C_is_between hr (by decide) rfl pass0 (pa_cons (pv 0) (pa_cons (pe_gl (by rfl) T.c_FIRST_WIDE_INDEX) (pa_cons (pe_gl (by rfl) T.c_LAST_WIDE_INDEX) (pa_nil)))))))
      (pss_one (ps_ret (pe_bl)))
      (pss_nil))
      (pss_one (ps_ret (pe_k C_is_between hr (by decide) rfl pass0 (pa_cons (pv 1) (pa_cons (pe_gl (by rfl) T.c_LEAST_WIDE_CAPACITY) (pa_cons (pe_gl (by rfl) T.c_GREATEST_WIDE_CAPACITY) (pa_nil)))))))
  exact F.ok sc_is_wide_box (fun vs H Q E h => by
    repeat (first | (obtain ⟨rfl, _⟩ := h; rfl) | obtain ⟨_, h⟩ := h)) D
theorem dfn_are_capacities (T : Tx K mg c_Row c_BadNumber c_BadCapacity c_BadRow c_BadTrains c_ScoopError) (C_are_pairs : Kn P w K mg base CX0 3 "are_pairs" ["value"] (spArePairs2 K)) (C_is_wide_box : Kn P w K mg base CX0 3 "_is_wide_box" ["index", "capacity"] (spWideBox2 K)) {f : Addr} {fd : FuncData} (F : FunD K "_are_capacities" "_are_capacities" (defArgs s_are_capacities) (defBody s_are_capacities) (defScope s_are_capacities) [] [] f fd) :
    FnOk P w K mg base CX0 4 f fd ["value"] (spAreCap2 K) := by
  have D : ∀ (cdv : Value) (A : Around) (outer : List Env) (s : Shared) (H : Hp) (vs : List V) (Q : VK) (E : XK), Room 3 (A.deeper (envOfC "_are_capacities" (defScope s_are_capacities) s.heap.objs.size f cdv)) → (spAreCap2 K) vs H Q E →
      ∃ t, PSs (cxOf CX0 P w K mg base ["value", "index", "capacity"] "_are_capacities" (defScope s_are_capacities) f cdv A outer s H E) (defBody s_are_capacities) t ∧ t { nx := fun _ H' => Q .non H', rt := Q } (start ["value", "index", "capacity"] vs) H := by
    intro cdv A outer s H vs Q E hr h
    refine ⟨t_are_capacities2 K, PSs.nox ?_, pure_are_cap2 vs H Q E h⟩
    exact pss_cons (ps_if (PW.pt (pw_or (pt_not (pt_val (pe_k C_are_pairs hr (by decide) rfl pass0 (pa_cons (pv 0) (pa_nil))))) (pw_or1 (pt_cmpR op_gt (pe_callB call_len_seq (by rfl) T.n_len PySem.boot_len (pa_cons (pv 0) (pa_nil))) (pe_gl (by rfl) T.c_MOST_WIDE_BOXES) (nomark _)))))
      (pss_one (ps_ret (pe_bl)))
      (pss_nil))
      (pss_one (ps_ret (pe_callB (cr_all rfl) (by rfl) T.n_all (by decide +kernel) (pa_cons (pe_lc (own := [("index", 1), ("capacity", 2)]) (g := gTup K 2 (gCons (gName 1) (gCons (gName 2) (gNil)))) (tt := tYes) rfl sc_are_capacities.nd (pi_or (pi_list (pv 0)) (pi_tup (pv 0))) (blkOk_by (own := [("index", 1), ("capacity", 2)]) (N := ["value", "index", "capacity"]) (sc := defScope s_are_capacities) (by decide +kernel)) (fun _ _ _ _ _ => pg_tup rfl (pgs_cons (pg_name (i := 1) sc_are_capacities.nd rfl (Or.inl rfl)) (pgs_cons (pg_name (i := 2) sc_are_capacities.nd rfl (Or.inl rfl)) (pgs_nil)))) (fun _ _ _ _ _ => pts_nil) (fun _ _ _ _ _ => pe_k C_is_wide_box hr (by decide) rfl pass0 (pa_cons (pv 1) (pa_cons (pv 2) (pa_nil))))) (pa_nil)))))
  exact F.ok sc_are_capacities (fun vs H Q E h => by
    repeat (first | (obtain ⟨rfl, _⟩ := h; rfl) | obtain ⟨_, h⟩ := h)) D
theorem dfn_are_contents (T : Tx K mg c_Row c_BadNumber c_BadCapacity c_BadRow c_BadTrains c_ScoopError) (C_are_pairs : Kn P w K mg base CX0 3 "are_pairs" ["value"] (spArePairs2 K)) {f : Addr} {fd : FuncData} (F : FunD K "_are_contents" "_are_contents" (defArgs s_are_contents) (defBody s_are_contents) (defScope s_are_contents) [] [] f fd) :
    FnOk P w K mg base CX0 4 f fd ["value", "capacities"] (spAreContents K) := by
  have D : ∀ (cdv : Value) (A : Around) (outer : List Env) (s : Shared) (H : Hp) (vs : List V) (Q : VK) (E : XK), Room 3 (A.deeper (envOfC "_are_contents" (defScope s_are_contents) s.heap.objs.size f cdv)) → (spAreContents K) vs H Q E →
      ∃ t, PSs (cxOf CX0 P w K mg base ["value", "capacities", "wide", "index", "count", "_"] "_are_contents" (defScope s_are_contents) f cdv A outer s H E) (defBody s_are_contents) t ∧ t { nx := fun _ H' => Q .non H', rt := Q } (start ["value", "capacities", "wide", "index", "count", "_"] vs) H := by
    intro cdv A outer s H vs Q E hr h
    refine ⟨t_are_contents2 K, PSs.nox ?_, pure_are_contents2 vs H Q E h⟩
    exact pss_cons (ps_if (pt_not (pt_val (pe_k C_are_pairs hr (by decide) rfl pass0 (pa_cons (pv 0) (pa_nil)))))
      (pss_one (ps_ret (pe_bl)))
      (pss_nil))
      (pss_cons (ps_set (i := 2) sc_are_contents.nd rfl (Or.inr rfl) (pe_callTy (cr_or (call_dictP rfl) (cr_dictPT rfl)) (by rfl) T.n_dict (by decide +kernel) (pa_cons (pv 1) (pa_nil))))
      (pss_cons (ps_if (pt_not (pt_val (pe_callB (cr_all rfl) (by rfl) T.n_all (by decide +kernel) (pa_cons (pe_lc (own := [("index", 3), ("count", 4)]) (g := gTup K 2 (gCons (gName 3) (gCons (gName 4) (gNil)))) (tt := tYes) rfl sc_are_contents.nd (pi_or (pi_list (pv 0)) (pi_tup (pv 0))) (blkOk_by (own := [("index", 3), ("count", 4)]) (N := ["value", "capacities", "wide", "index", "count", "_"]) (sc := defScope s_are_contents) (by decide +kernel)) (fun _ _ _ _ _ => pg_tup rfl (pgs_cons (pg_name (i := 3) sc_are_contents.nd rfl (Or.inl rfl)) (pgs_cons (pg_name (i := 4) sc_are_contents.nd rfl (Or.inl rfl)) (pgs_nil)))) (fun _ _ _ _ _ => pts_nil) (fun _ _ _ _ _ => pe_chain op_le op_le (pe_int) (pv 4) (pe_dget2 (hu_of hr) (pv 2) (pv 3) (pe_int) ⟨rfl, rfl, rfl, rfl⟩))) (pa_nil)))))
      (pss_one (ps_ret (pe_bl)))
      (pss_nil))
      (pss_one (ps_ret (pe_cmpR op_le (pe_callB (cr_sum rfl) (by rfl) T.n_sum (by decide +kernel) (pa_cons (pe_lc (own := [("count", 4), ("_", 5)]) (g := gTup K 2 (gCons (gName 5) (gCons (gName 4) (gNil)))) (tt := tYes) rfl sc_are_contents.nd (pi_or (pi_list (pv 0)) (pi_tup (pv 0))) (blkOk_by (own := [("count", 4), ("_", 5)]) (N := ["value", "capacities", "wide", "index", "count", "_"]) (sc := defScope s_are_contents) (by decide +kernel)) (fun _ _ _ _ _ => pg_tup rfl (pgs_cons (pg_name (i := 5) sc_are_contents.nd rfl (Or.inl rfl)) (pgs_cons (pg_name (i := 4) sc_are_contents.nd rfl (Or.inl rfl)) (pgs_nil)))) (fun _ _ _ _ _ => pts_nil) (fun _ _ _ _ _ => pv 4)) (pa_nil))) (pe_gl (by rfl) T.c_MOST_ITEMS) (nomark _))))))
  exact F.ok sc_are_contents (fun vs H Q E h => by
    repeat (first | (obtain ⟨rfl, _⟩ := h; rfl) | obtain ⟨_, h⟩ := h)) D
theorem dfn_is_row_like (T : Tx K mg c_Row c_BadNumber c_BadCapacity c_BadRow c_BadTrains c_ScoopError) (C_are_capacities : Kn P w K mg base CX0 4 "_are_capacities" ["value"] (spAreCap2 K)) (C_are_contents : Kn P w K mg base CX0 4 "_are_contents" ["value", "capacities"] (spAreContents K)) {f : Addr} {fd : FuncData} (F : FunD K "is_row_like" "is_row_like" (defArgs s_is_row_like) (defBody s_is_row_like) (defScope s_is_row_like) [] [] f fd) :
    FnOk P w K mg base CX0 6 f fd ["contents", "capacities"] (spRowLike K) := by
  have D : ∀ (cdv : Value) (A : Around) (outer : List Env) (s : Shared) (H : Hp) (vs : List V) (Q : VK) (E : XK), Room 5 (A.deeper (envOfC "is_row_like" (defScope s_is_row_like) s.heap.objs.size f cdv)) → (spRowLike K) vs H Q E →
      ∃ t, PSs (cxOf CX0 P w K mg base ["contents", "capacities"] "is_row_like" (defScope s_is_row_like) f cdv A outer s H E) (defBody s_is_row_like) t ∧ t { nx := fun _ H' => Q .non H', rt := Q } (start ["contents", "capacities"] vs) H := by
    intro cdv A outer s H vs Q E hr h
    refine ⟨t_is_row_like K, PSs.nox ?_, pure_row_like vs H Q E h⟩
    exact pss_one (ps_ret (pe_and (pe_k C_are_capacities hr (by decide) rfl pass0 (pa_cons (pv 1) (pa_nil))) (pe_one (pe_k C_are_contents hr (by decide) rfl pass0 (pa_cons (pv 0) (pa_cons (pv 1) (pa_nil)))))))
  exact F.ok sc_is_row_like (fun vs H Q E h => by
    repeat (first | (obtain ⟨rfl, _⟩ := h; rfl) | obtain ⟨_, h⟩ := h)) D
theorem dfn_Row_init (T : Tx K mg c_Row c_BadNumber c_BadCapacity c_BadRow c_BadTrains c_ScoopError) (C_are_capacities : Kn P w K mg base CX0 4 "_are_capacities" ["value"] (spAreCap2 K)) (C_are_contents : Kn P w K mg base CX0 4 "_are_contents" ["value", "capacities"] (spAreContents K)) (R_Row : RowC K c_Row) {f : Addr} {fd : FuncData} {dv : List V} (F : FunD K "__init__" "Row.__init__" (defArgs s_Row_init) (defBody s_Row_init) (defScope s_Row_init) dv [] f fd) :
    FnOk P w K mg base CX0 5 f fd ["self", "contents", "capacities"] (spRowInit K c_Row) := by
  have D : ∀ (cdv : Value) (A : Around) (outer : List Env) (s : Shared) (H : Hp) (vs : List V) (Q : VK) (E : XK), Room 4 (A.deeper (envOfC "Row.__init__" (defScope s_Row_init) s.heap.objs.size f cdv)) → (spRowInit K c_Row) vs H Q E →
      ∃ t, PSs (cxOf CX0 P w K mg base ["self", "contents", "capacities"] "Row.__init__" (defScope s_Row_init) f cdv A outer s H E) (defBody s_Row_init) t ∧ t { nx := fun _ H' => Q .non H', rt := Q } (start ["self", "contents", "capacities"] vs) H := by
    intro cdv A outer s H vs Q E hr h
    refine ⟨t_Row_init2 K, PSs.nox ?_, pure_row_init2 R_Row vs H Q E h⟩
    exact pss_cons (ps_if (pt_not (pt_val (pe_k C_are_capacities hr (by decide) rfl pass0 (pa_cons (pv 2) (pa_nil)))))
      (pss_one (ps_no))
      (pss_nil))
      (pss_cons (ps_if (pt_not (pt_val (pe_k C_are_contents hr (by decide) rfl pass0 (pa_cons (pv 1) (pa_cons (pv 2) (pa_nil))))))
      (pss_one (ps_no))
      (pss_nil))
      (pss_cons (ps_fld (pv 0) (pe_callTy cr_tupB (by rfl) T.n_tuple (by decide +kernel) (pa_cons (pe_callB (cr_or cr_sortedPO cr_sortedPT) (by rfl) T.n_sorted (by decide +kernel) (pa_cons (pv 1) (pa_nil))) (pa_nil))) rfl)
      (pss_cons (ps_fld (pv 0) (pe_callTy cr_tupB (by rfl) T.n_tuple (by decide +kernel) (pa_cons (pe_callB (cr_or cr_sortedPO cr_sortedPT) (by rfl) T.n_sorted (by decide +kernel) (pa_cons (pv 2) (pa_nil))) (pa_nil))) rfl)
      (pss_cons (ps_fld (pv 0) (pe_callTy (cr_or (call_dictP rfl) (cr_dictPT rfl)) (by rfl) T.n_dict (by decide +kernel) (pa_cons (pv 1) (pa_nil))) rfl)
      (pss_one (ps_fld (pv 0) (pe_callTy (cr_or (call_dictP rfl) (cr_dictPT rfl)) (by rfl) T.n_dict (by decide +kernel) (pa_cons (pv 2) (pa_nil))) rfl))))))
  exact F.ok sc_Row_init (fun vs H Q E h => by
    repeat (first | (obtain ⟨rfl, _⟩ := h; rfl) | obtain ⟨_, h⟩ := h)) D
theorem dfn_Row_contents (T : Tx K mg c_Row c_BadNumber c_BadCapacity c_BadRow c_BadTrains c_ScoopError) (R_Row : RowC K c_Row) {f : Addr} {fd : FuncData} {dv : List V} (F : FunD K "contents" "Row.contents" (defArgs s_Row_contents) (defBody s_Row_contents) (defScope s_Row_contents) dv [] f fd) :
    FnOk P w K mg base CX0 1 f fd ["self"] (spContents K c_Row) := by
  have D : ∀ (cdv : Value) (A : Around) (outer : List Env) (s : Shared) (H : Hp) (vs : List V) (Q : VK) (E : XK), Room 0 (A.deeper (envOfC "Row.contents" (defScope s_Row_contents) s.heap.objs.size f cdv)) → (spContents K c_Row) vs H Q E →
      ∃ t, PSs (cxOf CX0 P w K mg base ["self"] "Row.contents" (defScope s_Row_contents) f cdv A outer s H E) (defBody s_Row_contents) t ∧ t { nx := fun _ H' => Q .non H', rt := Q } (start ["self"] vs) H := by
    intro cdv A outer s H vs Q E hr h
    refine ⟨t_Row_contents K, PSs.nox ?_, pure_contents R_Row vs H Q E h⟩
    exact pss_one (ps_ret (pe_fld (pv 0) rfl))
  exact F.ok sc_Row_contents (fun vs H Q E h => by
    repeat (first | (obtain ⟨rfl, _⟩ := h; rfl) | obtain ⟨_, h⟩ := h)) D
theorem dfn_Row_capacities (T : Tx K mg c_Row c_BadNumber c_BadCapacity c_BadRow c_BadTrains c_ScoopError) (R_Row : RowC K c_Row) {f : Addr} {fd : FuncData} {dv : List V} (F : FunD K "capacities" "Row.capacities" (defArgs s_Row_capacities) (defBody s_Row_capacities) (defScope s_Row_capacities) dv [] f fd) :
    FnOk P w K mg base CX0 1 f fd ["self"] (spCapacities K c_Row) := by
  have D : ∀ (cdv : Value) (A : Around) (outer : List Env) (s : Shared) (H : Hp) (vs : List V) (Q : VK) (E : XK), Room 0 (A.deeper (envOfC "Row.capacities" (defScope s_Row_capacities) s.heap.objs.size f cdv)) → (spCapacities K c_Row) vs H Q E →
      ∃ t, PSs (cxOf CX0 P w K mg base ["self"] "Row.capacities" (defScope s_Row_capacities) f cdv A outer s H E) (defBody s_Row_capacities) t ∧ t { nx := fun _ H' => Q .non H', rt := Q } (start ["self"] vs) H := by
    intro cdv A outer s H vs Q E hr h
    refine ⟨t_Row_capacities K, PSs.nox ?_, pure_capacities R_Row vs H Q E h⟩
    exact pss_one (ps_ret (pe_fld (pv 0) rfl))
  exact F.ok sc_Row_capacities (fun vs H Q E h => by
    repeat (first | (obtain ⟨rfl, _⟩ := h; rfl) | obtain ⟨_, h⟩ := h)) D
theorem dfn_Row_held (T : Tx K mg c_Row c_BadNumber c_BadCapacity c_BadRow c_BadTrains c_ScoopError) (C_is_integer : Kn P w K mg base CX0 1 "is_integer" ["value"] (spIsInt K)) (R_Row : RowC K c_Row) {f : Addr} {fd : FuncData} {dv : List V} (F : FunD K "held" "Row.held" (defArgs s_Row_held) (defBody s_Row_held) (defScope s_Row_held) dv [] f fd) :
    FnOk P w K mg base CX0 2 f fd ["self", "index"] (spHeld K c_Row) := by
  have D : ∀ (cdv : Value) (A : Around) (outer : List Env) (s : Shared) (H : Hp) (vs : List V) (Q : VK) (E : XK), Room 1 (A.deeper (envOfC "Row.held" (defScope s_Row_held) s.heap.objs.size f cdv)) → (spHeld K c_Row) vs H Q E →
      ∃ t, PSs (cxOf CX0 P w K mg base ["self", "index"] "Row.held" (defScope s_Row_held) f cdv A outer s H E) (defBody s_Row_held) t ∧ t { nx := fun _ H' => Q .non H', rt := Q } (start ["self", "index"] vs) H := by
    intro cdv A outer s H vs Q E hr h
    refine ⟨t_Row_held K, PSs.nox ?_, pure_held R_Row vs H Q E h⟩
    exact pss_cons (ps_if (pt_not (pt_val (pe_k C_is_integer hr (by decide) rfl pass0 (pa_cons (pv 1) (pa_nil)))))
      (pss_one (ps_no))
      (pss_nil))
      (pss_one (ps_ret (pe_dget2 (hu_of hr) (pe_fld (pv 0) rfl) (pv 1) (pe_int) ⟨rfl, rfl, rfl, rfl⟩)))
  exact F.ok sc_Row_held (fun vs H Q E h => by
    repeat (first | (obtain ⟨rfl, _⟩ := h; rfl) | obtain ⟨_, h⟩ := h)) D
theorem dfn_Row_capacity (T : Tx K mg c_Row c_BadNumber c_BadCapacity c_BadRow c_BadTrains c_ScoopError) (C_is_integer : Kn P w K mg base CX0 1 "is_integer" ["value"] (spIsInt K)) (R_Row : RowC K c_Row) {f : Addr} {fd : FuncData} {dv : List V} (F : FunD K "capacity" "Row.capacity" (defArgs s_Row_capacity) (defBody s_Row_capacity) (defScope s_Row_capacity) dv [] f fd) :
    FnOk P w K mg base CX0 2 f fd ["self", "index"] (spCapacityOf K c_Row) := by
  have D : ∀ (cdv : Value) (A : Around) (outer : List Env) (s : Shared) (H : Hp) (vs : List V) (Q : VK) (E : XK), Room 1 (A.deeper (envOfC "Row.capacity" (defScope s_Row_capacity) s.heap.objs.size f cdv)) → (spCapacityOf K c_Row) vs H Q E →
      ∃ t, PSs (cxOf CX0 P w K mg base ["self", "index"] "Row.capacity" (defScope s_Row_capacity) f cdv A outer s H E) (defBody s_Row_capacity) t ∧ t { nx := fun _ H' => Q .non H', rt := Q } (start ["self", "index"] vs) H := by
    intro cdv A outer s H vs Q E hr h
    refine ⟨t_Row_capacity K, PSs.nox ?_, pure_capacity_of R_Row vs H Q E h⟩
    exact pss_cons (ps_if (pt_not (pt_val (pe_k C_is_integer hr (by decide) rfl pass0 (pa_cons (pv 1) (pa_nil)))))
      (pss_one (ps_no))
      (pss_nil))
      (pss_one (ps_ret (pe_dget2 (hu_of hr) (pe_fld (pv 0) rfl) (pv 1) (pe_int) ⟨rfl, rfl, rfl, rfl⟩)))
  exact F.ok sc_Row_capacity (fun vs H Q E h => by
    repeat (first | (obtain ⟨rfl, _⟩ := h; rfl) | obtain ⟨_, h⟩ := h)) D
theorem dfn_Row_is_plain (T : Tx K mg c_Row c_BadNumber c_BadCapacity c_BadRow c_BadTrains c_ScoopError) (R_Row : RowC K c_Row) {f : Addr} {fd : FuncData} {dv : List V} (F : FunD K "is_plain" "Row.is_plain" (defArgs s_Row_is_plain) (defBody s_Row_is_plain) (defScope s_Row_is_plain) dv [] f fd) :
    FnOk P w K mg base CX0 1 f fd ["self"] (spIsPlain K c_Row) := by
  have D : ∀ (cdv : Value) (A : Around) (outer : List Env) (s : Shared) (H : Hp) (vs : List V) (Q : VK) (E : XK), Room 0 (A.deeper (envOfC "Row.is_plain" (defScope s_Row_is_plain) s.heap.objs.size f cdv)) → (spIsPlain K c_Row) vs H Q E →
      ∃ t, PSs (cxOf CX0 P w K mg base ["self"] "Row.is_plain" (defScope s_Row_is_plain) f cdv A outer s H E) (defBody s_Row_is_plain) t ∧ t { nx := fun _ H' => Q .non H', rt := Q } (start ["self"] vs) H := by
    intro cdv A outer s H vs Q E hr h
    refine ⟨t_Row_is_plain K, PSs.nox ?_, pure_is_plain R_Row vs H Q E h⟩
    exact pss_one (ps_ret (pe_notT (pe_fld (pv 0) rfl)))
  exact F.ok sc_Row_is_plain (fun vs H Q E h => by
    repeat (first | (obtain ⟨rfl, _⟩ := h; rfl) | obtain ⟨_, h⟩ := h)) D
theorem dfn_Row_total (T : Tx K mg c_Row c_BadNumber c_BadCapacity c_BadRow c_BadTrains c_ScoopError) (R_Row : RowC K c_Row) {f : Addr} {fd : FuncData} {dv : List V} (F : FunD K "total" "Row.total" (defArgs s_Row_total) (defBody s_Row_total) (defScope s_Row_total) dv [] f fd) :
    FnOk P w K mg base CX0 1 f fd ["self"] (spTotal K c_Row) := by
  have D : ∀ (cdv : Value) (A : Around) (outer : List Env) (s : Shared) (H : Hp) (vs : List V) (Q : VK) (E : XK), Room 0 (A.deeper (envOfC "Row.total" (defScope s_Row_total) s.heap.objs.size f cdv)) → (spTotal K c_Row) vs H Q E →
      ∃ t, PSs (cxOf CX0 P w K mg base ["self", "count", "_"] "Row.total" (defScope s_Row_total) f cdv A outer s H E) (defBody s_Row_total) t ∧ t { nx := fun _ H' => Q .non H', rt := Q } (start ["self", "count", "_"] vs) H := by
    intro cdv A outer s H vs Q E hr h
    refine ⟨t_Row_total K, PSs.nox ?_, pure_total R_Row vs H Q E h⟩
    exact pss_one (ps_ret (pe_callB (cr_sum rfl) (by rfl) T.n_sum (by decide +kernel) (pa_cons (pe_lc (own := [("_", 2), ("count", 1)]) (g := gTup K 2 (gCons (gName 2) (gCons (gName 1) (gNil)))) (tt := tYes) rfl sc_Row_total.nd (pi_tup (pe_fld (pv 0) rfl)) (blkOk_by (own := [("_", 2), ("count", 1)]) (N := ["self", "count", "_"]) (sc := defScope s_Row_total) (by decide +kernel)) (fun _ _ _ _ _ => pg_tup rfl (pgs_cons (pg_name (i := 2) sc_Row_total.nd rfl (Or.inl rfl)) (pgs_cons (pg_name (i := 1) sc_Row_total.nd rfl (Or.inl rfl)) (pgs_nil)))) (fun _ _ _ _ _ => pts_nil) (fun _ _ _ _ _ => pv 1)) (pa_nil))))
  exact F.ok sc_Row_total (fun vs H Q E h => by
    repeat (first | (obtain ⟨rfl, _⟩ := h; rfl) | obtain ⟨_, h⟩ := h)) D
theorem dfn_Row_eq (T : Tx K mg c_Row c_BadNumber c_BadCapacity c_BadRow c_BadTrains c_ScoopError) (R_Row : RowC K c_Row) (Z_Row : RowK K c_Row) {f : Addr} {fd : FuncData} {dv : List V} (F : FunD K "__eq__" "Row.__eq__" (defArgs s_Row_eq) (defBody s_Row_eq) (defScope s_Row_eq) dv [] f fd) :
    FnOk P w K mg base CX0 1 f fd ["self", "other"] (spRowEq K c_Row) := by
  have D : ∀ (cdv : Value) (A : Around) (outer : List Env) (s : Shared) (H : Hp) (vs : List V) (Q : VK) (E : XK), Room 0 (A.deeper (envOfC "Row.__eq__" (defScope s_Row_eq) s.heap.objs.size f cdv)) → (spRowEq K c_Row) vs H Q E →
      ∃ t, PSs (cxOf CX0 P w K mg base ["self", "other"] "Row.__eq__" (defScope s_Row_eq) f cdv A outer s H E) (defBody s_Row_eq) t ∧ t { nx := fun _ H' => Q .non H', rt := Q } (start ["self", "other"] vs) H := by
    intro cdv A outer s H vs Q E hr h
    refine ⟨t_Row_eq K c_Row, PSs.nox ?_, pure_row_eq R_Row Z_Row vs H Q E h⟩
    exact pss_one (ps_ret (pe_and (pe_callB call_isi (by rfl) T.n_isinstance PyProof.Rows.boot_isinstance (pa_cons (pv 1) (pa_cons (pe_gl (by rfl) ⟨_, T.g_Row, rfl⟩) pa_nil))) (pe_and (pe_cmpR (op_eqD hr.units) (pe_fld (pv 0) rfl) (pe_fld (pv 1) rfl) (nomark _)) (pe_one (pe_cmpR (op_eqD hr.units) (pe_fld (pv 0) rfl) (pe_fld (pv 1) rfl) (nomark _))))))
  exact F.ok sc_Row_eq (fun vs H Q E h => by
    repeat (first | (obtain ⟨rfl, _⟩ := h; rfl) | obtain ⟨_, h⟩ := h)) D
theorem dfn_is_plain_row (T : Tx K mg c_Row c_BadNumber c_BadCapacity c_BadRow c_BadTrains c_ScoopError) (C_is_plain : C8.Met P w K mg base 1 c_Row "is_plain" (spIsPlain K c_Row) []) (R_Row : RowC K c_Row) (Z_Row : RowK K c_Row) {f : Addr} {fd : FuncData} (F : FunD K "is_plain_row" "is_plain_row" (defArgs s_is_plain_row) (defBody s_is_plain_row) (defScope s_is_plain_row) [] [] f fd) :
    FnOk P w K mg base CX0 2 f fd ["value"] (spPlainRow K c_Row) := by
  have D : ∀ (cdv : Value) (A : Around) (outer : List Env) (s : Shared) (H : Hp) (vs : List V) (Q : VK) (E : XK), Room 1 (A.deeper (envOfC "is_plain_row" (defScope s_is_plain_row) s.heap.objs.size f cdv)) → (spPlainRow K c_Row) vs H Q E →
      ∃ t, PSs (cxOf CX0 P w K mg base ["value"] "is_plain_row" (defScope s_is_plain_row) f cdv A outer s H E) (defBody s_is_plain_row) t ∧ t { nx := fun _ H' => Q .non H', rt := Q } (start ["value"] vs) H := by
    intro cdv A outer s H vs Q E hr h
    refine ⟨t_is_plain_row K c_Row, PSs.nox ?_, pure_plain_row R_Row Z_Row vs H Q E h⟩
    exact pss_one (ps_ret (pe_and (pe_callB call_isi (by rfl) T.n_isinstance PyProof.Rows.boot_isinstance (pa_cons (pv 0) (pa_cons (pe_gl (by rfl) ⟨_, T.g_Row, rfl⟩) pa_nil))) (pe_one (C8.pe_mt0 C_is_plain hr (by decide) (pv 0)))))
  exact F.ok sc_is_plain_row (fun vs H Q E h => by
    repeat (first | (obtain ⟨rfl, _⟩ := h; rfl) | obtain ⟨_, h⟩ := h)) D
theorem dfn_is_capacity (T : Tx K mg c_Row c_BadNumber c_BadCapacity c_BadRow c_BadTrains c_ScoopError) (C_is_between : Kn P w K mg base CX0 2 "is_between" ["value", "low", "high"] (spBetween K)) {f : Addr} {fd : FuncData} (F : FunD K "is_capacity" "is_capacity" (defArgs s_is_capacity) (defBody s_is_capacity) (defScope s_is_capacity) [] [] f fd) :
    FnOk P w K mg base CX0 3 f fd ["value"] (spCapacity K) := by
  have D : ∀ (cdv : Value) (A : Around) (outer : List Env) (s : Shared) (H : Hp) (vs : List V) (Q : VK) (E : XK), Room 2 (A.deeper (envOfC "is_capacity" (defScope s_is_capacity) s.heap.objs.size f cdv)) → (spCapacity K) vs H Q E →
      ∃ t, PSs (cxOf CX0 P w K mg base ["value"] "is_capacity" (defScope s_is_capacity) f cdv A outer s H E) (defBody s_is_capacity) t ∧ t { nx := fun _ H' => Q .non H', rt := Q } (start ["value"] vs) H := by
    intro cdv A outer s H vs Q E hr h
    refine ⟨t_is_capacity K, PSs.nox ?_, pure_is_capacity vs H Q E h⟩
    exact pss_one (ps_ret (pe_k C_is_between hr (by decide) rfl pass0 (pa_cons (pv 0) (pa_cons (pe_int) (pa_cons (pe_gl (by rfl) T.c_GREATEST_CAPACITY) (pa_nil))))))
  exact F.ok sc_is_capacity (fun vs H Q E h => by
    repeat (first | (obtain ⟨rfl, _⟩ := h; rfl) | obtain ⟨_, h⟩ := h)) D
theorem dfn_handled (T : Tx K mg c_Row c_BadNumber c_BadCapacity c_BadRow c_BadTrains c_ScoopError) {f : Addr} {fd : FuncData} (F : FunD K "handled" "handled" (defArgs s_handled) (defBody s_handled) (defScope s_handled) [] [] f fd) :
    FnOk P w K mg base CX0 1 f fd ["capacity", "load", "box_capacity", "count"] spHandled := by
  have D : ∀ (cdv : Value) (A : Around) (outer : List Env) (s : Shared) (H : Hp) (vs : List V) (Q : VK) (E : XK), Room 0 (A.deeper (envOfC "handled" (defScope s_handled) s.heap.objs.size f cdv)) → spHandled vs H Q E →
      ∃ t, PSs (cxOf CX0 P w K mg base ["capacity", "load", "box_capacity", "count"] "handled" (defScope s_handled) f cdv A outer s H E) (defBody s_handled) t ∧ t { nx := fun _ H' => Q .non H', rt := Q } (start ["capacity", "load", "box_capacity", "count"] vs) H := by
    intro cdv A outer s H vs Q E hr h
    refine ⟨t_handled, PSs.nox ?_, pure_handled vs H Q E h⟩
    exact pss_one (ps_ret (pe_tup (pa_cons (pe_callB (call_min2 rfl) (by rfl) T.n_min (by decide +kernel) (pa_cons (pe_op op_sub (pv 0) (pv 1)) (pa_cons (pv 3) (pa_nil)))) (pa_cons (pe_callB (call_min2 rfl) (by rfl) T.n_min (by decide +kernel) (pa_cons (pv 1) (pa_cons (pe_op op_sub (pv 2) (pv 3)) (pa_nil)))) (pa_nil)))))
  exact F.ok sc_handled (fun vs H Q E h => by
    repeat (first | (obtain ⟨rfl, _⟩ := h; rfl) | obtain ⟨_, h⟩ := h)) D
theorem dfn_passed (T : Tx K mg c_Row c_BadNumber c_BadCapacity c_BadRow c_BadTrains c_ScoopError) (C_is_capacity : Kn P w K mg base CX0 3 "is_capacity" ["value"] (spCapacity K)) (C_is_between : Kn P w K mg base CX0 2 "is_between" ["value", "low", "high"] (spBetween K)) (C_handled : Kn P w K mg base CX0 1 "handled" ["capacity", "load", "box_capacity", "count"] spHandled) {f : Addr} {fd : FuncData} (F : FunD K "passed" "passed" (defArgs s_passed) (defBody s_passed) (defScope s_passed) [] [] f fd) :
    FnOk P w K mg base (L2.CX P w) 4 f fd ["capacity", "load", "box_capacity", "count"] (spPassed K c_BadNumber) := by
  have D : ∀ (cdv : Value) (A : Around) (outer : List Env) (s : Shared) (H : Hp) (vs : List V) (Q : VK) (E : XK), Room 3 (A.deeper (envOfC "passed" (defScope s_passed) s.heap.objs.size f cdv)) → (spPassed K c_BadNumber) vs H Q E →
      ∃ t, PSs (cxOf (L2.CX P w) P w K mg base ["capacity", "load", "box_capacity", "count", "up", "down"] "passed" (defScope s_passed) f cdv A outer s H E) (defBody s_passed) t ∧ t { nx := fun _ H' => Q .non H', rt := Q } (start ["capacity", "load", "box_capacity", "count", "up", "down"] vs) H := by
    intro cdv A outer s H vs Q E hr h
    refine ⟨t_passed K c_BadNumber E, ?_, pure_passed vs H Q E h⟩
    exact pss_cons (ps_if (PW.pt (pw_or (pt_not (pt_val (pe_k C_is_capacity hr (by decide) rfl pass0 (pa_cons (pv 0) (pa_nil))))) (pw_or1 (pt_not (pt_val (pe_k C_is_between hr (by decide) rfl pass0 (pa_cons (pv 1) (pa_cons (pe_int) (pa_cons (pv 0) (pa_nil))))))))))
      (pss_one (ps_raise rfl (takes_of rfl rfl rfl rfl) (pmk_own PySem.F.excBase_ValueError T.x_BadNumber T.g_BadNumber T.k_BadNumber (raises_own T.s_BadNumber T.t_BadNumber) (by exact rfl))))
      (pss_nil))
      (pss_cons (ps_if (PW.pt (pw_or (pt_not (pt_val (pe_k C_is_capacity hr (by decide) rfl pass0 (pa_cons (pv 2) (pa_nil))))) (pw_or1 (pt_not (pt_val (pe_k C_is_between hr (by decide) rfl pass0 (pa_cons (pv 3) (pa_cons (pe_int) (pa_cons (pv 2) (pa_nil))))))))))
      (pss_one (ps_raise rfl (takes_of rfl rfl rfl rfl) (pmk_own PySem.F.excBase_ValueError T.x_BadNumber T.g_BadNumber T.k_BadNumber (raises_own T.s_BadNumber T.t_BadNumber) (by exact rfl))))
      (pss_nil))
      (pss_cons (ps_asg (pe_k C_handled hr (by decide) rfl pass0 (pa_cons (pv 0) (pa_cons (pv 1) (pa_cons (pv 2) (pa_cons (pv 3) (pa_nil)))))) (pg_tup rfl (pgs_cons (pg_name (i := 4) sc_passed.nd rfl (Or.inl rfl)) (pgs_cons (pg_name (i := 5) sc_passed.nd rfl (Or.inl rfl)) (pgs_nil)))))
      (pss_one (ps_ret (pe_tup (pa_cons (pe_op op_add (pe_op op_sub (pv 3) (pv 4)) (pv 5)) (pa_cons (pe_op op_sub (pe_op op_add (pv 1) (pv 4)) (pv 5)) (pa_nil))))))))
  exact F.ok sc_passed (fun vs H Q E h => by
    repeat (first | (obtain ⟨rfl, _⟩ := h; rfl) | obtain ⟨_, h⟩ := h)) D
theorem dfn_steps_from (T : Tx K mg c_Row c_BadNumber c_BadCapacity c_BadRow c_BadTrains c_ScoopError) (C_passed : Kn P w K mg base (L2.CX P w) 4 "passed" ["capacity", "load", "box_capacity", "count"] (spPassed K c_BadNumber)) (C_held : C8.Met P w K mg base 2 c_Row "held" (spHeld K c_Row) []) (C_capacity : C8.Met P w K mg base 2 c_Row "capacity" (spCapacityOf K c_Row) []) {f : Addr} {fd : FuncData} (F : FunD K "_steps_from" "_steps_from" (defArgs s_steps_from) (defBody s_steps_from) (defScope s_steps_from) [] [] f fd) :
    FnOk P w K mg base CX0 6 f fd ["row", "capacity", "start"] (spStepsFrom K c_Row) := by
  have D : ∀ (cdv : Value) (A : Around) (outer : List Env) (s : Shared) (H : Hp) (vs : List V) (Q : VK) (E : XK), Room 5 (A.deeper (envOfC "_steps_from" (defScope s_steps_from) s.heap.objs.size f cdv)) → (spStepsFrom K c_Row) vs H Q E →
      ∃ t, PSs (cxOf CX0 P w K mg base ["row", "capacity", "start", "steps", "index", "load", "count", "new_count", "new_load"] "_steps_from" (defScope s_steps_from) f cdv A outer s H E) (defBody s_steps_from) t ∧ t { nx := fun _ H' => Q .non H', rt := Q } (start ["row", "capacity", "start", "steps", "index", "load", "count", "new_count", "new_load"] vs) H := by
    intro cdv A outer s H vs Q E hr h
    refine ⟨t_steps_from K c_BadNumber c_Row, PSs.nox ?_, pure_steps_from vs H Q E h⟩
    exact pss_cons (ps_set (i := 3) sc_steps_from.nd rfl (Or.inl rfl) (pe_lst (pa_nil)))
      (pss_cons (ps_set (i := 4) sc_steps_from.nd rfl (Or.inl rfl) (pv 2))
      (pss_cons (ps_set (i := 5) sc_steps_from.nd rfl (Or.inl rfl) (pe_int))
      (pss_cons (ps_while PassesOwn.never (PW.pt (pw_or (pt_cmpR op_gt (pv 5) (pe_int) (nomark _)) (pw_or1 (pt_not (pt_truth (pv 3) (fun _ => rfl))))))
      (pss_cons (ps_set (i := 6) sc_steps_from.nd rfl (Or.inl rfl) (C8.pe_mt C_held hr (by decide) (pv 0) (pa_cons (pv 4) (pa_nil))))
      (pss_cons (ps_asg (pe_k C_passed hr (by decide) rfl passL (pa_cons (pv 1) (pa_cons (pv 5) (pa_cons (C8.pe_mt C_capacity hr (by decide) (pv 0) (pa_cons (pv 4) (pa_nil))) (pa_cons (pv 6) (pa_nil)))))) (pg_tup rfl (pgs_cons (pg_name (i := 7) sc_steps_from.nd rfl (Or.inl rfl)) (pgs_cons (pg_name (i := 8) sc_steps_from.nd rfl (Or.inl rfl)) (pgs_nil)))))
      (pss_cons (ps_expr (pe_bm PySem.F.plainAttrs_list PySem.F.slot_list_append PySem.F.type_list_append mt_append (pv 3) (pa_cons (pe_tup (pa_cons (pv 4) (pa_cons (pv 5) (pa_cons (pv 6) (pa_cons (pv 8) (pa_cons (pv 7) (pa_nil))))))) (pa_nil))))
      (pss_cons (ps_aug (i := 4) sc_steps_from.nd rfl (Or.inl rfl) (pe_int) ip_add)
      (pss_one (ps_set (i := 5) sc_steps_from.nd rfl (Or.inl rfl) (pv 8))))))))
      (pss_one (ps_ret (pv 3))))))
  exact F.ok sc_steps_from (fun vs H Q E h => by
    repeat (first | (obtain ⟨rfl, _⟩ := h; rfl) | obtain ⟨_, h⟩ := h)) D
theorem dfn_trace (T : Tx K mg c_Row c_BadNumber c_BadCapacity c_BadRow c_BadTrains c_ScoopError) (C_is_capacity : Kn P w K mg base CX0 3 "is_capacity" ["value"] (spCapacity K)) (C_steps_from : Kn P w K mg base CX0 6 "_steps_from" ["row", "capacity", "start"] (spStepsFrom K c_Row)) (C_contents : Prp P w K mg base 1 c_Row "contents" (spContents K c_Row)) {f : Addr} {fd : FuncData} (F : FunD K "trace" "trace" (defArgs s_trace) (defBody s_trace) (defScope s_trace) [] [] f fd) :
    FnOk P w K mg base (L2.CX P w) 7 f fd ["row", "capacity"] (spTrace K c_Row c_BadCapacity) := by
  have D : ∀ (cdv : Value) (A : Around) (outer : List Env) (s : Shared) (H : Hp) (vs : List V) (Q : VK) (E : XK), Room 6 (A.deeper (envOfC "trace" (defScope s_trace) s.heap.objs.size f cdv)) → (spTrace K c_Row c_BadCapacity) vs H Q E →
      ∃ t, PSs (cxOf (L2.CX P w) P w K mg base ["row", "capacity", "steps", "start", "_"] "trace" (defScope s_trace) f cdv A outer s H E) (defBody s_trace) t ∧ t { nx := fun _ H' => Q .non H', rt := Q } (start ["row", "capacity", "steps", "start", "_"] vs) H := by
    intro cdv A outer s H vs Q E hr h
    refine ⟨t_trace K c_BadCapacity c_Row E, ?_, pure_trace vs H Q E h⟩
    exact pss_cons (ps_if (pt_not (pt_val (pe_k C_is_capacity hr (by decide) rfl pass0 (pa_cons (pv 1) (pa_nil)))))
      (pss_one (ps_raise rfl (takes_of rfl rfl rfl rfl) (pmk_own PySem.F.excBase_ValueError T.x_BadCapacity T.g_BadCapacity T.k_BadCapacity (raises_own T.s_BadCapacity T.t_BadCapacity) (by exact rfl))))
      (pss_nil))
      (pss_cons (ps_set (i := 2) sc_trace.nd rfl (Or.inl rfl) (pe_lst (pa_nil)))
      (pss_cons (ps_for (passes_of rfl) rfl (pi_tup (pe_pr C_contents hr (by decide) (pv 0))) (pg_tup rfl (pgs_cons (pg_name (i := 3) sc_trace.nd rfl (Or.inl rfl)) (pgs_cons (pg_name (i := 4) sc_trace.nd rfl (Or.inl rfl)) (pgs_nil))))
      (pss_one (ps_if (PW.pt (pw_or (pt_not (pt_truth (pv 2) (fun _ => rfl))) (pw_or1 (pt_cmpR op_lt (pe_ix ix_tup (pe_ix ix_list (pv 2) (pe_un un_neg (pe_int)) (fun _ _ => rfl)) (pe_int) (fun _ _ => rfl)) (pv 3) (nomark _)))))
      (pss_one (ps_expr (pe_bm PySem.F.plainAttrs_list PySem.F.slot_list_extend PySem.F.type_list_extend mt_extend (pv 2) (pa_cons (pe_k C_steps_from hr (by decide) rfl pass0 (pa_cons (pv 0) (pa_cons (pv 1) (pa_cons (pv 3) (pa_nil))))) (pa_nil)))))
      (pss_nil))))
      (pss_one (ps_ret (pv 2)))))
  exact F.ok sc_trace (fun vs H Q E h => by
    repeat (first | (obtain ⟨rfl, _⟩ := h; rfl) | obtain ⟨_, h⟩ := h)) D
theorem dfn_left_by (T : Tx K mg c_Row c_BadNumber c_BadCapacity c_BadRow c_BadTrains c_ScoopError) {f : Addr} {fd : FuncData} (F : FunD K "_left_by" "_left_by" (defArgs s_left_by) (defBody s_left_by) (defScope s_left_by) [] [] f fd) :
    FnOk P w K mg base CX0 1 f fd ["steps"] (spLeftBy K) := by
  have D : ∀ (cdv : Value) (A : Around) (outer : List Env) (s : Shared) (H : Hp) (vs : List V) (Q : VK) (E : XK), Room 0 (A.deeper (envOfC "_left_by" (defScope s_left_by) s.heap.objs.size f cdv)) → (spLeftBy K) vs H Q E →
      ∃ t, PSs (cxOf CX0 P w K mg base ["steps", "index", "_", "new_count"] "_left_by" (defScope s_left_by) f cdv A outer s H E) (defBody s_left_by) t ∧ t { nx := fun _ H' => Q .non H', rt := Q } (start ["steps", "index", "_", "new_count"] vs) H := by
    intro cdv A outer s H vs Q E hr h
    refine ⟨t_left_by K, PSs.nox ?_, pure_left_by vs H Q E h⟩
    exact pss_one (ps_ret (pe_lc (own := [("index", 1), ("_", 2), ("new_count", 3)]) (g := gTup K 5 (gCons (gName 1) (gCons (gName 2) (gCons (gName 2) (gCons (gName 2) (gCons (gName 3) (gNil))))))) (tt := tTest (tOp qGt (tVar 3) (tC (.int 0)))) rfl sc_left_by.nd (pi_list (pv 0)) (blkOk_by (own := [("index", 1), ("_", 2), ("new_count", 3)]) (N := ["steps", "index", "_", "new_count"]) (sc := defScope s_left_by) (by decide +kernel)) (fun _ _ _ _ _ => pg_tup rfl (pgs_cons (pg_name (i := 1) sc_left_by.nd rfl (Or.inl rfl)) (pgs_cons (pg_name (i := 2) sc_left_by.nd rfl (Or.inl rfl)) (pgs_cons (pg_name (i := 2) sc_left_by.nd rfl (Or.inl rfl)) (pgs_cons (pg_name (i := 2) sc_left_by.nd rfl (Or.inl rfl)) (pgs_cons (pg_name (i := 3) sc_left_by.nd rfl (Or.inl rfl)) (pgs_nil))))))) (fun _ _ _ _ _ => pts_one (pt_cmpR op_gt (pv 3) (pe_int) (nomark _))) (fun _ _ _ _ _ => pe_tup (pa_cons (pv 1) (pa_cons (pv 3) (pa_nil))))))
  exact F.ok sc_left_by (fun vs H Q E h => by
    repeat (first | (obtain ⟨rfl, _⟩ := h; rfl) | obtain ⟨_, h⟩ := h)) D
theorem dfn_sweep (T : Tx K mg c_Row c_BadNumber c_BadCapacity c_BadRow c_BadTrains c_ScoopError) (C_trace : Kn P w K mg base (L2.CX P w) 7 "trace" ["row", "capacity"] (spTrace K c_Row c_BadCapacity)) (C_left_by : Kn P w K mg base CX0 1 "_left_by" ["steps"] (spLeftBy K)) (C_Row : C8.Mak P w K mg base 5 "Row" c_Row (spRowInit K c_Row) []) (C_capacities : Prp P w K mg base 1 c_Row "capacities" (spCapacities K c_Row)) {f : Addr} {fd : FuncData} (F : FunD K "sweep" "sweep" (defArgs s_sweep) (defBody s_sweep) (defScope s_sweep) [] [] f fd) :
    FnOk P w K mg base (L2.CX P w) 8 f fd ["row", "capacity"] (spSweep K c_Row c_BadCapacity) := by
  have D : ∀ (cdv : Value) (A : Around) (outer : List Env) (s : Shared) (H : Hp) (vs : List V) (Q : VK) (E : XK), Room 7 (A.deeper (envOfC "sweep" (defScope s_sweep) s.heap.objs.size f cdv)) → (spSweep K c_Row c_BadCapacity) vs H Q E →
      ∃ t, PSs (cxOf (L2.CX P w) P w K mg base ["row", "capacity"] "sweep" (defScope s_sweep) f cdv A outer s H E) (defBody s_sweep) t ∧ t { nx := fun _ H' => Q .non H', rt := Q } (start ["row", "capacity"] vs) H := by
    intro cdv A outer s H vs Q E hr h
    refine ⟨t_sweep K c_BadCapacity c_Row E, ?_, pure_sweep vs H Q E h⟩
    exact pss_one (ps_ret (C8.pe_mk C_Row hr (by decide) (by rfl) (pa_cons (pe_k C_left_by hr (by decide) rfl pass0 (pa_cons (pe_k C_trace hr (by decide) rfl (passes_call (takes_of rfl rfl rfl rfl) (fun _ _ _ _ h => h)) (pa_cons (pv 0) (pa_cons (pv 1) (pa_nil)))) (pa_nil))) (pa_cons (pe_pr C_capacities hr (by decide) (pv 0)) (pa_nil)))))
  exact F.ok sc_sweep (fun vs H Q E h => by
    repeat (first | (obtain ⟨rfl, _⟩ := h; rfl) | obtain ⟨_, h⟩ := h)) D
theorem dfn_mirrored (T : Tx K mg c_Row c_BadNumber c_BadCapacity c_BadRow c_BadTrains c_ScoopError) (C_Row : C8.Mak P w K mg base 5 "Row" c_Row (spRowInit K c_Row) []) (C_contents : Prp P w K mg base 1 c_Row "contents" (spContents K c_Row)) (C_capacities : Prp P w K mg base 1 c_Row "capacities" (spCapacities K c_Row)) {f : Addr} {fd : FuncData} (F : FunD K "mirrored" "mirrored" (defArgs s_mirrored) (defBody s_mirrored) (defScope s_mirrored) [] [] f fd) :
    FnOk P w K mg base CX0 7 f fd ["row"] (spMirrored K c_Row) := by
  have D : ∀ (cdv : Value) (A : Around) (outer : List Env) (s : Shared) (H : Hp) (vs : List V) (Q : VK) (E : XK), Room 6 (A.deeper (envOfC "mirrored" (defScope s_mirrored) s.heap.objs.size f cdv)) → (spMirrored K c_Row) vs H Q E →
      ∃ t, PSs (cxOf CX0 P w K mg base ["row", "contents", "index", "count", "capacity"] "mirrored" (defScope s_mirrored) f cdv A outer s H E) (defBody s_mirrored) t ∧ t { nx := fun _ H' => Q .non H', rt := Q } (start ["row", "contents", "index", "count", "capacity"] vs) H := by
    intro cdv A outer s H vs Q E hr h
    refine ⟨t_mirrored K c_Row, PSs.nox ?_, pure_mirrored vs H Q E h⟩
    exact pss_cons (ps_setLc (i := 1) (own := [("index", 2), ("count", 3)]) (g := gTup K 2 (gCons (gName 2) (gCons (gName 3) (gNil)))) (tt := tYes) rfl sc_mirrored.nd rfl rfl (sw_true rfl rfl rfl (by decide +kernel)) (pi_tup (pe_pr C_contents hr (by decide) (pv 0))) (blkOk_by (own := [("index", 2), ("count", 3)]) (N := ["row", "contents", "index", "count", "capacity"]) (sc := defScope s_mirrored) (by decide +kernel)) (fun _ _ _ _ _ => pg_tup rfl (pgs_cons (pg_name (i := 2) sc_mirrored.nd rfl (Or.inl rfl)) (pgs_cons (pg_name (i := 3) sc_mirrored.nd rfl (Or.inl rfl)) (pgs_nil)))) (fun _ _ _ _ _ => pts_nil) (fun _ _ _ _ _ => pe_tup (pa_cons (pe_un un_neg (pv 2)) (pa_cons (pv 3) (pa_nil)))))
      (pss_one (ps_ret (C8.pe_mk C_Row hr (by decide) (by rfl) (pa_cons (pv 1) (pa_cons (pe_lc (own := [("index", 2), ("capacity", 4)]) (g := gTup K 2 (gCons (gName 2) (gCons (gName 4) (gNil)))) (tt := tYes) rfl sc_mirrored.nd (pi_tup (pe_pr C_capacities hr (by decide) (pv 0))) (blkOk_by (own := [("index", 2), ("capacity", 4)]) (N := ["row", "contents", "index", "count", "capacity"]) (sc := defScope s_mirrored) (by decide +kernel)) (fun _ _ _ _ _ => pg_tup rfl (pgs_cons (pg_name (i := 2) sc_mirrored.nd rfl (Or.inl rfl)) (pgs_cons (pg_name (i := 4) sc_mirrored.nd rfl (Or.inl rfl)) (pgs_nil)))) (fun _ _ _ _ _ => pts_nil) (fun _ _ _ _ _ => pe_tup (pa_cons (pe_un un_neg (pv 2)) (pa_cons (pv 4) (pa_nil))))) (pa_nil))))))
  exact F.ok sc_mirrored (fun vs H Q E h => by
    repeat (first | (obtain ⟨rfl, _⟩ := h; rfl) | obtain ⟨_, h⟩ := h)) D
theorem dfn_unsweep (T : Tx K mg c_Row c_BadNumber c_BadCapacity c_BadRow c_BadTrains c_ScoopError) (C_mirrored : Kn P w K mg base CX0 7 "mirrored" ["row"] (spMirrored K c_Row)) (C_sweep : Kn P w K mg base (L2.CX P w) 8 "sweep" ["row", "capacity"] (spSweep K c_Row c_BadCapacity)) {f : Addr} {fd : FuncData} (F : FunD K "unsweep" "unsweep" (defArgs s_unsweep) (defBody s_unsweep) (defScope s_unsweep) [] [] f fd) :
    FnOk P w K mg base (L2.CX P w) 9 f fd ["row", "capacity"] (spUnsweep K c_Row c_BadCapacity) := by
  have D : ∀ (cdv : Value) (A : Around) (outer : List Env) (s : Shared) (H : Hp) (vs : List V) (Q : VK) (E : XK), Room 8 (A.deeper (envOfC "unsweep" (defScope s_unsweep) s.heap.objs.size f cdv)) → (spUnsweep K c_Row c_BadCapacity) vs H Q E →
      ∃ t, PSs (cxOf (L2.CX P w) P w K mg base ["row", "capacity"] "unsweep" (defScope s_unsweep) f cdv A outer s H E) (defBody s_unsweep) t ∧ t { nx := fun _ H' => Q .non H', rt := Q } (start ["row", "capacity"] vs) H := by
    intro cdv A outer s H vs Q E hr h
    refine ⟨t_unsweep K c_BadCapacity c_Row E, ?_, pure_unsweep vs H Q E h⟩
    exact pss_one (ps_ret (pe_k C_mirrored hr (by decide) rfl pass0 (pa_cons (pe_k C_sweep hr (by decide) rfl (passes_call (takes_of rfl rfl rfl rfl) (fun _ _ _ _ h => h)) (pa_cons (pe_k C_mirrored hr (by decide) rfl pass0 (pa_cons (pv 0) (pa_nil))) (pa_cons (pv 1) (pa_nil)))) (pa_nil))))
  exact F.ok sc_unsweep (fun vs H Q E h => by
    repeat (first | (obtain ⟨rfl, _⟩ := h; rfl) | obtain ⟨_, h⟩ := h)) D
theorem dfn_without_box (T : Tx K mg c_Row c_BadNumber c_BadCapacity c_BadRow c_BadTrains c_ScoopError) (C_unsweep : Kn P w K mg base (L2.CX P w) 9 "unsweep" ["row", "capacity"] (spUnsweep K c_Row c_BadCapacity)) (C_Row : C8.Mak P w K mg base 5 "Row" c_Row (spRowInit K c_Row) []) (C_contents : Prp P w K mg base 1 c_Row "contents" (spContents K c_Row)) {f : Addr} {fd : FuncData} (F : FunD K "_without_box" "_without_box" (defArgs s_without_box) (defBody s_without_box) (defScope s_without_box) [] [] f fd) :
    FnOk P w K mg base CX0 11 f fd ["contents", "index", "capacity"] (spWithout K) := by
  have D : ∀ (cdv : Value) (A : Around) (outer : List Env) (s : Shared) (H : Hp) (vs : List V) (Q : VK) (E : XK), Room 10 (A.deeper (envOfC "_without_box" (defScope s_without_box) s.heap.objs.size f cdv)) → (spWithout K) vs H Q E →
      ∃ t, PSs (cxOf CX0 P w K mg base ["contents", "index", "capacity", "near", "pair", "place", "count"] "_without_box" (defScope s_without_box) f cdv A outer s H E) (defBody s_without_box) t ∧ t { nx := fun _ H' => Q .non H', rt := Q } (start ["contents", "index", "capacity", "near", "pair", "place", "count"] vs) H := by
    intro cdv A outer s H vs Q E hr h
    refine ⟨t_without_box K c_BadCapacity c_Row, PSs.nox ?_, pure_without vs H Q E h⟩
    exact pss_cons (ps_set (i := 3) sc_without_box.nd rfl (Or.inl rfl) (C8.pe_mk C_Row hr (by decide) (by rfl) (pa_cons (pe_lc (own := [("pair", 4)]) (g := gName 4) (tt := tTest (tOp qLe (tOp (rIxT K) (tVar 4) (tC (.int 0))) (tVar 1))) rfl sc_without_box.nd (pi_or (pi_list (pv 0)) (pi_tup (pv 0))) (blkOk_by (own := [("pair", 4)]) (N := ["contents", "index", "capacity", "near", "pair", "place", "count"]) (sc := defScope s_without_box) (by decide +kernel)) (fun _ _ _ _ _ => pg_name (i := 4) sc_without_box.nd rfl (Or.inl rfl)) (fun _ _ _ _ _ => pts_one (pt_cmpR op_le (pe_ix ix_tup (pv 4) (pe_int) (fun _ _ => rfl)) (pv 1) (nomark _))) (fun _ _ _ _ _ => pv 4)) (pa_cons (pe_lst (pa_cons (pe_tup (pa_cons (pv 1) (pa_cons (pv 2) (pa_nil)))) (pa_nil))) (pa_nil)))))
      (pss_one (ps_ret (pe_lc (own := [("place", 5), ("count", 6)]) (g := gTup K 2 (gCons (gName 5) (gCons (gName 6) (gNil)))) (tt := tYes) rfl sc_without_box.nd (pi_tup (pe_pr C_contents hr (by decide) (pe_k C_unsweep hr (by decide) rfl passL (pa_cons (pv 3) (pa_cons (pv 2) (pa_nil)))))) (blkOk_by (own := [("place", 5), ("count", 6)]) (N := ["contents", "index", "capacity", "near", "pair", "place", "count"]) (sc := defScope s_without_box) (by decide +kernel)) (fun _ _ _ _ _ => pg_tup rfl (pgs_cons (pg_name (i := 5) sc_without_box.nd rfl (Or.inl rfl)) (pgs_cons (pg_name (i := 6) sc_without_box.nd rfl (Or.inl rfl)) (pgs_nil)))) (fun _ _ _ _ _ => pts_nil) (fun _ _ _ _ _ => pe_tup (pa_cons (pe_op op_add (pv 5) (pe_int)) (pa_cons (pv 6) (pa_nil)))))))
  exact F.ok sc_without_box (fun vs H Q E h => by
    repeat (first | (obtain ⟨rfl, _⟩ := h; rfl) | obtain ⟨_, h⟩ := h)) D
theorem dfn_plain_form (T : Tx K mg c_Row c_BadNumber c_BadCapacity c_BadRow c_BadTrains c_ScoopError) (C_without_box : Kn P w K mg base CX0 11 "_without_box" ["contents", "index", "capacity"] (spWithout K)) (C_contents : Prp P w K mg base 1 c_Row "contents" (spContents K c_Row)) (C_capacities : Prp P w K mg base 1 c_Row "capacities" (spCapacities K c_Row)) {a0 : Addr} (C_Row1 : C8.Mak P w K mg base 5 "Row" c_Row (spRowInit K c_Row) [.ref a0]) (hE : BareK K a0 []) {f : Addr} {fd : FuncData} (F : FunD K "plain_form" "plain_form" (defArgs s_plain_form) (defBody s_plain_form) (defScope s_plain_form) [] [] f fd) :
    FnOk P w K mg base CX0 12 f fd ["row"] (spPlainForm K c_Row) := by
  have D : ∀ (cdv : Value) (A : Around) (outer : List Env) (s : Shared) (H : Hp) (vs : List V) (Q : VK) (E : XK), Room 11 (A.deeper (envOfC "plain_form" (defScope s_plain_form) s.heap.objs.size f cdv)) → (spPlainForm K c_Row) vs H Q E →
      ∃ t, PSs (cxOf CX0 P w K mg base ["row", "contents", "index", "capacity", "behind", "pair"] "plain_form" (defScope s_plain_form) f cdv A outer s H E) (defBody s_plain_form) t ∧ t { nx := fun _ H' => Q .non H', rt := Q } (start ["row", "contents", "index", "capacity", "behind", "pair"] vs) H := by
    intro cdv A outer s H vs Q E hr h
    refine ⟨t_plain_form K a0 c_Row, PSs.nox ?_, pure_plain_form hE vs H Q E h⟩
    exact pss_cons (ps_set (i := 1) sc_plain_form.nd rfl (Or.inl rfl) (pe_pr C_contents hr (by decide) (pv 0)))
      (pss_cons (ps_for PassesOwn.never rfl (pi_tup (pe_pr C_capacities hr (by decide) (pv 0))) (pg_tup rfl (pgs_cons (pg_name (i := 2) sc_plain_form.nd rfl (Or.inr rfl)) (pgs_cons (pg_name (i := 3) sc_plain_form.nd rfl (Or.inl rfl)) (pgs_nil))))
      (pss_cons (ps_setLc (i := 4) (own := [("pair", 5)]) (g := gName 5) (tt := tTest (tOp qGt (tOp (rIxT K) (tVar 5) (tC (.int 0))) (tVar 2))) rfl sc_plain_form.nd rfl rfl (sw_true rfl rfl rfl (by decide +kernel)) (pi_or (pi_list (pv 1)) (pi_tup (pv 1))) (blkOk_by (own := [("pair", 5)]) (N := ["row", "contents", "index", "capacity", "behind", "pair"]) (sc := defScope s_plain_form) (by decide +kernel)) (fun _ _ _ _ _ => pg_name (i := 5) sc_plain_form.nd rfl (Or.inl rfl)) (fun _ _ _ _ _ => pts_one (pt_cmpR op_gt (pe_ix ix_tup (pv 5) (pe_int) (fun _ _ => rfl)) (pv 2) (nomark _))) (fun _ _ _ _ _ => pv 5))
      (pss_one (ps_set (i := 1) sc_plain_form.nd rfl (Or.inl rfl) (pe_op op_cat (pe_k C_without_box hr (by decide) rfl pass0 (pa_cons (pv 1) (pa_cons (pv 2) (pa_cons (pv 3) (pa_nil))))) (pv 4))))))
      (pss_one (ps_ret (C8.pe_mk C_Row1 hr (by decide) (by rfl) (pa_cons (pv 1) (pa_nil))))))
  exact F.ok sc_plain_form (fun vs H Q E h => by
    repeat (first | (obtain ⟨rfl, _⟩ := h; rfl) | obtain ⟨_, h⟩ := h)) D
theorem dfn_with_box (T : Tx K mg c_Row c_BadNumber c_BadCapacity c_BadRow c_BadTrains c_ScoopError) (C_sweep : Kn P w K mg base (L2.CX P w) 8 "sweep" ["row", "capacity"] (spSweep K c_Row c_BadCapacity)) (C_Row : C8.Mak P w K mg base 5 "Row" c_Row (spRowInit K c_Row) []) (C_contents : Prp P w K mg base 1 c_Row "contents" (spContents K c_Row)) {f : Addr} {fd : FuncData} (F : FunD K "_with_box" "_with_box" (defArgs s_with_box) (defBody s_with_box) (defScope s_with_box) [] [] f fd) :
    FnOk P w K mg base CX0 11 f fd ["contents", "index", "capacity"] (spWith K) := by
  have D : ∀ (cdv : Value) (A : Around) (outer : List Env) (s : Shared) (H : Hp) (vs : List V) (Q : VK) (E : XK), Room 10 (A.deeper (envOfC "_with_box" (defScope s_with_box) s.heap.objs.size f cdv)) → (spWith K) vs H Q E →
      ∃ t, PSs (cxOf CX0 P w K mg base ["contents", "index", "capacity", "near", "place", "count"] "_with_box" (defScope s_with_box) f cdv A outer s H E) (defBody s_with_box) t ∧ t { nx := fun _ H' => Q .non H', rt := Q } (start ["contents", "index", "capacity", "near", "place", "count"] vs) H := by
    intro cdv A outer s H vs Q E hr h
    refine ⟨t_with_box K c_BadCapacity c_Row, PSs.nox ?_, pure_with vs H Q E h⟩
    exact pss_cons (ps_set (i := 3) sc_with_box.nd rfl (Or.inl rfl) (C8.pe_mk C_Row hr (by decide) (by rfl) (pa_cons (pe_lc (own := [("place", 4), ("count", 5)]) (g := gTup K 2 (gCons (gName 4) (gCons (gName 5) (gNil)))) (tt := tTest (tOp qLe (tVar 4) (tVar 1))) rfl sc_with_box.nd (pi_or (pi_list (pv 0)) (pi_tup (pv 0))) (blkOk_by (own := [("place", 4), ("count", 5)]) (N := ["contents", "index", "capacity", "near", "place", "count"]) (sc := defScope s_with_box) (by decide +kernel)) (fun _ _ _ _ _ => pg_tup rfl (pgs_cons (pg_name (i := 4) sc_with_box.nd rfl (Or.inl rfl)) (pgs_cons (pg_name (i := 5) sc_with_box.nd rfl (Or.inl rfl)) (pgs_nil)))) (fun _ _ _ _ _ => pts_one (pt_cmpR op_le (pv 4) (pv 1) (nomark _))) (fun _ _ _ _ _ => pe_tup (pa_cons (pe_op op_sub (pv 4) (pe_int)) (pa_cons (pv 5) (pa_nil))))) (pa_cons (pe_lst (pa_cons (pe_tup (pa_cons (pv 1) (pa_cons (pv 2) (pa_nil)))) (pa_nil))) (pa_nil)))))
      (pss_one (ps_ret (pe_callTy call_list_of (by rfl) T.n_list (by decide +kernel) (pa_cons (pe_pr C_contents hr (by decide) (pe_k C_sweep hr (by decide) rfl passL (pa_cons (pv 3) (pa_cons (pv 2) (pa_nil))))) (pa_nil)))))
  exact F.ok sc_with_box (fun vs H Q E h => by
    repeat (first | (obtain ⟨rfl, _⟩ := h; rfl) | obtain ⟨_, h⟩ := h)) D
theorem dfn_with_capacities (T : Tx K mg c_Row c_BadNumber c_BadCapacity c_BadRow c_BadTrains c_ScoopError) (C_is_plain_row : Kn P w K mg base CX0 2 "is_plain_row" ["value"] (spPlainRow K c_Row)) (C_is_row_like : Kn P w K mg base CX0 6 "is_row_like" ["contents", "capacities"] (spRowLike K)) (C_with_box : Kn P w K mg base CX0 11 "_with_box" ["contents", "index", "capacity"] (spWith K)) (C_Row : C8.Mak P w K mg base 5 "Row" c_Row (spRowInit K c_Row) []) (C_contents : Prp P w K mg base 1 c_Row "contents" (spContents K c_Row)) (M_BadRow : ErrM P w K mg base "BadRow" c_BadRow "field" "field") {f : Addr} {fd : FuncData} (F : FunD K "with_capacities" "with_capacities" (defArgs s_with_capacities) (defBody s_with_capacities) (defScope s_with_capacities) [] [] f fd) :
    FnOk P w K mg base (L2.CX P w) 12 f fd ["row", "capacities"] (spWithCap K c_Row c_BadRow) := by
  have D : ∀ (cdv : Value) (A : Around) (outer : List Env) (s : Shared) (H : Hp) (vs : List V) (Q : VK) (E : XK), Room 11 (A.deeper (envOfC "with_capacities" (defScope s_with_capacities) s.heap.objs.size f cdv)) → (spWithCap K c_Row c_BadRow) vs H Q E →
      ∃ t, PSs (cxOf (L2.CX P w) P w K mg base ["row", "capacities", "contents", "index", "capacity", "behind", "pair"] "with_capacities" (defScope s_with_capacities) f cdv A outer s H E) (defBody s_with_capacities) t ∧ t { nx := fun _ H' => Q .non H', rt := Q } (start ["row", "capacities", "contents", "index", "capacity", "behind", "pair"] vs) H := by
    intro cdv A outer s H vs Q E hr h
    refine ⟨t_with_capacities K c_BadRow c_Row E, ?_, pure_with_cap vs H Q E h⟩
    exact pss_cons (ps_if (pt_not (pt_val (pe_k C_is_plain_row hr (by decide) rfl pass0 (pa_cons (pv 0) (pa_nil)))))
      (pss_one (ps_raise rfl (takes_of rfl rfl rfl rfl) (pmk_err M_BadRow hr (by decide) (by rfl))))
      (pss_nil))
      (pss_cons (ps_if (pt_not (pt_val (pe_k C_is_row_like hr (by decide) rfl pass0 (pa_cons (pe_tup0) (pa_cons (pv 1) (pa_nil))))))
      (pss_one (ps_raise rfl (takes_of rfl rfl rfl rfl) (pmk_err M_BadRow hr (by decide) (by rfl))))
      (pss_nil))
      (pss_cons (ps_set (i := 2) sc_with_capacities.nd rfl (Or.inl rfl) (pe_pr C_contents hr (by decide) (pv 0)))
      (pss_cons (ps_for (passes_of rfl) rfl (pi_list (pe_callBK cr_sortedPR (by rfl) T.n_sorted (by decide +kernel) (pa_cons (pv 1) (pa_nil)) (pk_cons (pe_bl) pk_nil))) (pg_tup rfl (pgs_cons (pg_name (i := 3) sc_with_capacities.nd rfl (Or.inr rfl)) (pgs_cons (pg_name (i := 4) sc_with_capacities.nd rfl (Or.inl rfl)) (pgs_nil))))
      (pss_cons (ps_setLc (i := 5) (own := [("pair", 6)]) (g := gName 6) (tt := tTest (tOp qGt (tOp (rIxT K) (tVar 6) (tC (.int 0))) (tVar 3))) rfl sc_with_capacities.nd rfl rfl (sw_true rfl rfl rfl (by decide +kernel)) (pi_or (pi_list (pv 2)) (pi_tup (pv 2))) (blkOk_by (own := [("pair", 6)]) (N := ["row", "capacities", "contents", "index", "capacity", "behind", "pair"]) (sc := defScope s_with_capacities) (by decide +kernel)) (fun _ _ _ _ _ => pg_name (i := 6) sc_with_capacities.nd rfl (Or.inl rfl)) (fun _ _ _ _ _ => pts_one (pt_cmpR op_gt (pe_ix ix_tup (pv 6) (pe_int) (fun _ _ => rfl)) (pv 3) (nomark _))) (fun _ _ _ _ _ => pv 6))
      (pss_one (ps_set (i := 2) sc_with_capacities.nd rfl (Or.inl rfl) (pe_op op_cat (pe_k C_with_box hr (by decide) rfl pass0 (pa_cons (pv 2) (pa_cons (pv 3) (pa_cons (pv 4) (pa_nil))))) (pv 5))))))
      (pss_one (ps_ret (C8.pe_mk C_Row hr (by decide) (by rfl) (pa_cons (pv 2) (pa_cons (pv 1) (pa_nil)))))))))
  exact F.ok sc_with_capacities (fun vs H Q E h => by
    repeat (first | (obtain ⟨rfl, _⟩ := h; rfl) | obtain ⟨_, h⟩ := h)) D
theorem dfn_runs_in (T : Tx K mg c_Row c_BadNumber c_BadCapacity c_BadRow c_BadTrains c_ScoopError) (C_contents : Prp P w K mg base 1 c_Row "contents" (spContents K c_Row)) {f : Addr} {fd : FuncData} (F : FunD K "runs_in" "runs_in" (defArgs s_runs_in) (defBody s_runs_in) (defScope s_runs_in) [] [] f fd) :
    FnOk P w K mg base CX0 3 f fd ["row"] (spRunsIn K c_Row) := by
  have D : ∀ (cdv : Value) (A : Around) (outer : List Env) (s : Shared) (H : Hp) (vs : List V) (Q : VK) (E : XK), Room 2 (A.deeper (envOfC "runs_in" (defScope s_runs_in) s.heap.objs.size f cdv)) → (spRunsIn K c_Row) vs H Q E →
      ∃ t, PSs (cxOf CX0 P w K mg base ["row", "found", "index", "_"] "runs_in" (defScope s_runs_in) f cdv A outer s H E) (defBody s_runs_in) t ∧ t { nx := fun _ H' => Q .non H', rt := Q } (start ["row", "found", "index", "_"] vs) H := by
    intro cdv A outer s H vs Q E hr h
    refine ⟨t_runs_in K c_Row, PSs.nox ?_, pure_runs_in vs H Q E h⟩
    exact pss_cons (ps_set (i := 1) sc_runs_in.nd rfl (Or.inl rfl) (pe_lst (pa_nil)))
      (pss_cons (ps_for PassesOwn.never rfl (pi_tup (pe_pr C_contents hr (by decide) (pv 0))) (pg_tup rfl (pgs_cons (pg_name (i := 2) sc_runs_in.nd rfl (Or.inl rfl)) (pgs_cons (pg_name (i := 3) sc_runs_in.nd rfl (Or.inl rfl)) (pgs_nil))))
      (pss_one (ps_if (PW.pt (pw_and (pt_truth (pv 1) (fun _ => rfl)) (pw_and1 (pt_cmpR op_eq (pe_callB (cr_sumT rfl) (by rfl) T.n_sum (by decide +kernel) (pa_cons (pe_ix ix_list (pv 1) (pe_un un_neg (pe_int)) (fun _ _ => rfl)) (pa_nil))) (pv 2) (nomark _)))))
      (pss_one (ps_asg (pe_tup (pa_cons (pe_ix ix_tup (pe_ix ix_list (pv 1) (pe_un un_neg (pe_int)) (fun _ _ => rfl)) (pe_int) (fun _ _ => rfl)) (pa_cons (pe_op op_add (pe_ix ix_tup (pe_ix ix_list (pv 1) (pe_un un_neg (pe_int)) (fun _ _ => rfl)) (pe_int) (fun _ _ => rfl)) (pe_int)) (pa_nil)))) (pg_sub (pv 1) (pe_un un_neg (pe_int)) set_list)))
      (pss_one (ps_expr (pe_bm PySem.F.plainAttrs_list PySem.F.slot_list_append PySem.F.type_list_append mt_append (pv 1) (pa_cons (pe_tup (pa_cons (pv 2) (pa_cons (pe_int) (pa_nil)))) (pa_nil))))))))
      (pss_one (ps_ret (pv 1))))
  exact F.ok sc_runs_in (fun vs H Q E h => by
    repeat (first | (obtain ⟨rfl, _⟩ := h; rfl) | obtain ⟨_, h⟩ := h)) D
theorem dfn_cut (T : Tx K mg c_Row c_BadNumber c_BadCapacity c_BadRow c_BadTrains c_ScoopError) (C_is_plain_row : Kn P w K mg base CX0 2 "is_plain_row" ["value"] (spPlainRow K c_Row)) (C_runs_in : Kn P w K mg base CX0 3 "runs_in" ["row"] (spRunsIn K c_Row)) {a0 : Addr} (C_Row1 : C8.Mak P w K mg base 5 "Row" c_Row (spRowInit K c_Row) [.ref a0]) (hE : BareK K a0 []) (M_BadRow : ErrM P w K mg base "BadRow" c_BadRow "field" "field") {f : Addr} {fd : FuncData} (F : FunD K "cut" "cut" (defArgs s_cut) (defBody s_cut) (defScope s_cut) [] [] f fd) :
    FnOk P w K mg base (L2.CX P w) 7 f fd ["row"] (spCut K c_Row c_BadRow) := by
  have D : ∀ (cdv : Value) (A : Around) (outer : List Env) (s : Shared) (H : Hp) (vs : List V) (Q : VK) (E : XK), Room 6 (A.deeper (envOfC "cut" (defScope s_cut) s.heap.objs.size f cdv)) → (spCut K c_Row c_BadRow) vs H Q E →
      ∃ t, PSs (cxOf (L2.CX P w) P w K mg base ["row", "kept", "offsets", "first", "length", "start", "place"] "cut" (defScope s_cut) f cdv A outer s H E) (defBody s_cut) t ∧ t { nx := fun _ H' => Q .non H', rt := Q } (start ["row", "kept", "offsets", "first", "length", "start", "place"] vs) H := by
    intro cdv A outer s H vs Q E hr h
    refine ⟨t_cut K a0 c_BadRow c_Row E, ?_, pure_cut hE vs H Q E h⟩
    exact pss_cons (ps_if (pt_not (pt_val (pe_k C_is_plain_row hr (by decide) rfl pass0 (pa_cons (pv 0) (pa_nil)))))
      (pss_one (ps_raise rfl (takes_of rfl rfl rfl rfl) (pmk_err M_BadRow hr (by decide) (by rfl))))
      (pss_nil))
      (pss_cons (ps_set (i := 1) sc_cut.nd rfl (Or.inl rfl) (pe_lst (pa_nil)))
      (pss_cons (ps_set (i := 2) sc_cut.nd rfl (Or.inl rfl) (pe_lst (pa_nil)))
      (pss_cons (ps_for (passes_of rfl) rfl (pi_list (pe_k C_runs_in hr (by decide) rfl pass0 (pa_cons (pv 0) (pa_nil)))) (pg_tup rfl (pgs_cons (pg_name (i := 3) sc_cut.nd rfl (Or.inl rfl)) (pgs_cons (pg_name (i := 4) sc_cut.nd rfl (Or.inl rfl)) (pgs_nil))))
      (pss_cons (ps_set (i := 5) sc_cut.nd rfl (Or.inr rfl) (pe_op op_sub (pv 3) (pe_op op_mul (pe_int) (pe_callB call_len_seq (by rfl) T.n_len PySem.boot_len (pa_cons (pv 2) (pa_nil))))))
      (pss_cons (ps_expr (pe_bm PySem.F.plainAttrs_list PySem.F.slot_list_extend PySem.F.type_list_extend mt_extend (pv 1) (pa_cons (pe_lc (own := [("place", 6)]) (g := gName 6) (tt := tYes) rfl sc_cut.nd (pi_range1 rfl T.n_range (pa_cons (pe_op op_sub (pv 4) (pe_int)) (pa_nil))) (blkOk_by (own := [("place", 6)]) (N := ["row", "kept", "offsets", "first", "length", "start", "place"]) (sc := defScope s_cut) (by decide +kernel)) (fun _ _ _ _ _ => pg_name (i := 6) sc_cut.nd rfl (Or.inl rfl)) (fun _ _ _ _ _ => pts_nil) (fun _ _ _ _ _ => pe_tup (pa_cons (pe_op op_add (pv 5) (pv 6)) (pa_cons (pe_int) (pa_nil))))) (pa_nil))))
      (pss_one (ps_expr (pe_bm PySem.F.plainAttrs_list PySem.F.slot_list_append PySem.F.type_list_append mt_append (pv 2) (pa_cons (pe_op op_sub (pe_op op_add (pv 5) (pv 4)) (pe_int)) (pa_nil))))))))
      (pss_one (ps_ret (pe_tup (pa_cons (C8.pe_mk C_Row1 hr (by decide) (by rfl) (pa_cons (pv 1) (pa_nil))) (pa_cons (pv 2) (pa_nil)))))))))
  exact F.ok sc_cut (fun vs H Q E h => by
    repeat (first | (obtain ⟨rfl, _⟩ := h; rfl) | obtain ⟨_, h⟩ := h)) D
theorem dfn_behind_runs (T : Tx K mg c_Row c_BadNumber c_BadCapacity c_BadRow c_BadTrains c_ScoopError) (C_runs_in : Kn P w K mg base CX0 3 "runs_in" ["row"] (spRunsIn K c_Row)) {f : Addr} {fd : FuncData} (F : FunD K "_behind_runs" "_behind_runs" (defArgs s_behind_runs) (defBody s_behind_runs) (defScope s_behind_runs) [] [] f fd) :
    FnOk P w K mg base CX0 4 f fd ["row"] (spBehind K c_Row) := by
  have D : ∀ (cdv : Value) (A : Around) (outer : List Env) (s : Shared) (H : Hp) (vs : List V) (Q : VK) (E : XK), Room 3 (A.deeper (envOfC "_behind_runs" (defScope s_behind_runs) s.heap.objs.size f cdv)) → (spBehind K c_Row) vs H Q E →
      ∃ t, PSs (cxOf CX0 P w K mg base ["row", "first", "length"] "_behind_runs" (defScope s_behind_runs) f cdv A outer s H E) (defBody s_behind_runs) t ∧ t { nx := fun _ H' => Q .non H', rt := Q } (start ["row", "first", "length"] vs) H := by
    intro cdv A outer s H vs Q E hr h
    refine ⟨t_behind_runs K c_Row, PSs.nox ?_, pure_behind vs H Q E h⟩
    exact pss_one (ps_ret (pe_lc (own := [("first", 1), ("length", 2)]) (g := gTup K 2 (gCons (gName 1) (gCons (gName 2) (gNil)))) (tt := tYes) rfl sc_behind_runs.nd (pi_list (pe_k C_runs_in hr (by decide) rfl pass0 (pa_cons (pv 0) (pa_nil)))) (blkOk_by (own := [("first", 1), ("length", 2)]) (N := ["row", "first", "length"]) (sc := defScope s_behind_runs) (by decide +kernel)) (fun _ _ _ _ _ => pg_tup rfl (pgs_cons (pg_name (i := 1) sc_behind_runs.nd rfl (Or.inl rfl)) (pgs_cons (pg_name (i := 2) sc_behind_runs.nd rfl (Or.inl rfl)) (pgs_nil)))) (fun _ _ _ _ _ => pts_nil) (fun _ _ _ _ _ => pe_op op_add (pv 1) (pv 2))))
  exact F.ok sc_behind_runs (fun vs H Q E h => by
    repeat (first | (obtain ⟨rfl, _⟩ := h; rfl) | obtain ⟨_, h⟩ := h)) D
theorem dfn_trains (T : Tx K mg c_Row c_BadNumber c_BadCapacity c_BadRow c_BadTrains c_ScoopError) (C_plain_form : Kn P w K mg base CX0 12 "plain_form" ["row"] (spPlainForm K c_Row)) (C_cut : Kn P w K mg base (L2.CX P w) 7 "cut" ["row"] (spCut K c_Row c_BadRow)) (C_behind_runs : Kn P w K mg base CX0 4 "_behind_runs" ["row"] (spBehind K c_Row)) (C_contents : Prp P w K mg base 1 c_Row "contents" (spContents K c_Row)) {f : Addr} {fd : FuncData} (F : FunD K "trains" "trains" (defArgs s_trains) (defBody s_trains) (defScope s_trains) [] [] f fd) :
    FnOk P w K mg base CX0 13 f fd ["row"] (spTrains K c_Row) := by
  have D : ∀ (cdv : Value) (A : Around) (outer : List Env) (s : Shared) (H : Hp) (vs : List V) (Q : VK) (E : XK), Room 12 (A.deeper (envOfC "trains" (defScope s_trains) s.heap.objs.size f cdv)) → (spTrains K c_Row) vs H Q E →
      ∃ t, PSs (cxOf CX0 P w K mg base ["row", "found", "rest", "length", "offsets", "index", "offset"] "trains" (defScope s_trains) f cdv A outer s H E) (defBody s_trains) t ∧ t { nx := fun _ H' => Q .non H', rt := Q } (start ["row", "found", "rest", "length", "offsets", "index", "offset"] vs) H := by
    intro cdv A outer s H vs Q E hr h
    refine ⟨t_trains K c_BadRow c_Row, PSs.nox ?_, pure_trains vs H Q E h⟩
    exact pss_cons (ps_set (i := 1) sc_trains.nd rfl (Or.inl rfl) (pe_lst (pa_nil)))
      (pss_cons (ps_set (i := 2) sc_trains.nd rfl (Or.inl rfl) (pe_k C_plain_form hr (by decide) rfl pass0 (pa_cons (pv 0) (pa_nil))))
      (pss_cons (ps_set (i := 3) sc_trains.nd rfl (Or.inr rfl) (pe_int))
      (pss_cons (ps_while PassesOwn.never (pt_truth (pe_pr C_contents hr (by decide) (pv 2)) (fun _ => rfl))
      (pss_cons (ps_asg (pe_k C_cut hr (by decide) rfl passL (pa_cons (pv 2) (pa_nil))) (pg_tup rfl (pgs_cons (pg_name (i := 2) sc_trains.nd rfl (Or.inl rfl)) (pgs_cons (pg_name (i := 4) sc_trains.nd rfl (Or.inl rfl)) (pgs_nil)))))
      (pss_cons (ps_for PassesOwn.never rfl (pi_list (pe_k C_behind_runs hr (by decide) rfl pass0 (pa_cons (pv 2) (pa_nil)))) (pg_name (i := 5) sc_trains.nd rfl (Or.inl rfl))
      (pss_one (ps_expr (pe_bm PySem.F.plainAttrs_list PySem.F.slot_list_remove PySem.F.type_list_remove mt_remove (pv 4) (pa_cons (pv 5) (pa_nil))))))
      (pss_cons (ps_expr (pe_bm PySem.F.plainAttrs_list PySem.F.slot_list_extend PySem.F.type_list_extend mt_extend (pv 1) (pa_cons (pe_lc (own := [("offset", 6)]) (g := gName 6) (tt := tYes) rfl sc_trains.nd (pi_list (pv 4)) (blkOk_by (own := [("offset", 6)]) (N := ["row", "found", "rest", "length", "offsets", "index", "offset"]) (sc := defScope s_trains) (by decide +kernel)) (fun _ _ _ _ _ => pg_name (i := 6) sc_trains.nd rfl (Or.inl rfl)) (fun _ _ _ _ _ => pts_nil) (fun _ _ _ _ _ => pe_tup (pa_cons (pv 3) (pa_cons (pv 6) (pa_nil))))) (pa_nil))))
      (pss_one (ps_aug (i := 3) sc_trains.nd rfl (Or.inr rfl) (pe_int) ip_add))))))
      (pss_one (ps_ret (pv 1))))))
  exact F.ok sc_trains (fun vs H Q E h => by
    repeat (first | (obtain ⟨rfl, _⟩ := h; rfl) | obtain ⟨_, h⟩ := h)) D
theorem dfn_are_trains (T : Tx K mg c_Row c_BadNumber c_BadCapacity c_BadRow c_BadTrains c_ScoopError) (C_is_pair : Kn P w K mg base CX0 2 "is_pair" ["value"] (spIsPair K)) {f : Addr} {fd : FuncData} (F : FunD K "_are_trains" "_are_trains" (defArgs s_are_trains) (defBody s_are_trains) (defScope s_are_trains) [] [] f fd) :
    FnOk P w K mg base CX0 3 f fd ["value"] (spAreTrX K) := by
  have D : ∀ (cdv : Value) (A : Around) (outer : List Env) (s : Shared) (H : Hp) (vs : List V) (Q : VK) (E : XK), Room 2 (A.deeper (envOfC "_are_trains" (defScope s_are_trains) s.heap.objs.size f cdv)) → (spAreTrX K) vs H Q E →
      ∃ t, PSs (cxOf CX0 P w K mg base ["value", "part", "length", "_"] "_are_trains" (defScope s_are_trains) f cdv A outer s H E) (defBody s_are_trains) t ∧ t { nx := fun _ H' => Q .non H', rt := Q } (start ["value", "part", "length", "_"] vs) H := by
    intro cdv A outer s H vs Q E hr h
    refine ⟨t_are_trains K, PSs.nox ?_, pure_are_trainsX vs H Q E h⟩
    exact pss_cons (ps_if (pt_not (pt_val (pe_callB call_isiT (by rfl) T.n_isinstance PyProof.Rows.boot_isinstance (pa_cons (pv 0) (pa_cons (pe_tup (pa_cons (pe_bltn (v := .ty "list") (by rfl) T.n_list (by decide +kernel) rfl) (pa_cons (pe_bltn (v := .ty "tuple") (by rfl) T.n_tuple (by decide +kernel) rfl) (pa_nil)))) pa_nil)))))
      (pss_one (ps_ret (pe_bl)))
      (pss_nil))
      (pss_cons (ps_if (pt_not (pt_val (pe_callB (cr_all rfl) (by rfl) T.n_all (by decide +kernel) (pa_cons (pe_lc (own := [("part", 1)]) (g := gName 1) (tt := tYes) rfl sc_are_trains.nd (pi_or (pi_list (pv 0)) (pi_tup (pv 0))) (blkOk_by (own := [("part", 1)]) (N := ["value", "part", "length", "_"]) (sc := defScope s_are_trains) (by decide +kernel)) (fun _ _ _ _ _ => pg_name (i := 1) sc_are_trains.nd rfl (Or.inl rfl)) (fun _ _ _ _ _ => pts_nil) (fun _ _ _ _ _ => pe_k C_is_pair hr (by decide) rfl pass0 (pa_cons (pv 1) (pa_nil)))) (pa_nil)))))
      (pss_one (ps_ret (pe_bl)))
      (pss_nil))
      (pss_cons (ps_if (pt_not (pt_val (pe_callB (cr_all rfl) (by rfl) T.n_all (by decide +kernel) (pa_cons (pe_lc (own := [("length", 2), ("_", 3)]) (g := gTup K 2 (gCons (gName 2) (gCons (gName 3) (gNil)))) (tt := tYes) rfl sc_are_trains.nd (pi_or (pi_list (pv 0)) (pi_tup (pv 0))) (blkOk_by (own := [("length", 2), ("_", 3)]) (N := ["value", "part", "length", "_"]) (sc := defScope s_are_trains) (by decide +kernel)) (fun _ _ _ _ _ => pg_tup rfl (pgs_cons (pg_name (i := 2) sc_are_trains.nd rfl (Or.inl rfl)) (pgs_cons (pg_name (i := 3) sc_are_trains.nd rfl (Or.inl rfl)) (pgs_nil)))) (fun _ _ _ _ _ => pts_nil) (fun _ _ _ _ _ => pe_cmpR op_ge (pv 2) (pe_int) (nomark _))) (pa_nil)))))
      (pss_one (ps_ret (pe_bl)))
      (pss_nil))
      (pss_one (ps_ret (pe_cmpR op_le (pe_callB (cr_sum rfl) (by rfl) T.n_sum (by decide +kernel) (pa_cons (pe_lc (own := [("length", 2), ("_", 3)]) (g := gTup K 2 (gCons (gName 2) (gCons (gName 3) (gNil)))) (tt := tYes) rfl sc_are_trains.nd (pi_or (pi_list (pv 0)) (pi_tup (pv 0))) (blkOk_by (own := [("length", 2), ("_", 3)]) (N := ["value", "part", "length", "_"]) (sc := defScope s_are_trains) (by decide +kernel)) (fun _ _ _ _ _ => pg_tup rfl (pgs_cons (pg_name (i := 2) sc_are_trains.nd rfl (Or.inl rfl)) (pgs_cons (pg_name (i := 3) sc_are_trains.nd rfl (Or.inl rfl)) (pgs_nil)))) (fun _ _ _ _ _ => pts_nil) (fun _ _ _ _ _ => pv 2)) (pa_nil))) (pe_gl (by rfl) T.c_MOST_ITEMS) (nomark _))))))
  exact F.ok sc_are_trains (fun vs H Q E h => by
    repeat (first | (obtain ⟨rfl, _⟩ := h; rfl) | obtain ⟨_, h⟩ := h)) D
theorem dfn_uncut (T : Tx K mg c_Row c_BadNumber c_BadCapacity c_BadRow c_BadTrains c_ScoopError) (C_contents : Prp P w K mg base 1 c_Row "contents" (spContents K c_Row)) {a0 : Addr} (C_Row1 : C8.Mak P w K mg base 5 "Row" c_Row (spRowInit K c_Row) [.ref a0]) (hE : BareK K a0 []) {f : Addr} {fd : FuncData} (F : FunD K "_uncut" "_uncut" (defArgs s_uncut) (defBody s_uncut) (defScope s_uncut) [] [] f fd) :
    FnOk P w K mg base CX0 7 f fd ["row", "offsets"] (spUncut K c_Row) := by
  have D : ∀ (cdv : Value) (A : Around) (outer : List Env) (s : Shared) (H : Hp) (vs : List V) (Q : VK) (E : XK), Room 6 (A.deeper (envOfC "_uncut" (defScope s_uncut) s.heap.objs.size f cdv)) → (spUncut K c_Row) vs H Q E →
      ∃ t, PSs (cxOf CX0 P w K mg base ["row", "offsets", "added", "moved", "before", "offset", "index", "_"] "_uncut" (defScope s_uncut) f cdv A outer s H E) (defBody s_uncut) t ∧ t { nx := fun _ H' => Q .non H', rt := Q } (start ["row", "offsets", "added", "moved", "before", "offset", "index", "_"] vs) H := by
    intro cdv A outer s H vs Q E hr h
    refine ⟨t_uncut K a0 c_Row, PSs.nox ?_, pure_uncut hE vs H Q E h⟩
    exact pss_cons (ps_setLc (i := 2) (own := [("before", 4), ("offset", 5)]) (g := gTup K 2 (gCons (gName 4) (gCons (gName 5) (gNil)))) (tt := tYes) rfl sc_uncut.nd rfl rfl (sw_true rfl rfl rfl (by decide +kernel)) (pi_enum (by rfl) T.n_enumerate (pa_cons (pe_callB cr_sortedI (by rfl) T.n_sorted (by decide +kernel) (pa_cons (pv 1) (pa_nil))) (pa_nil))) (blkOk_by (own := [("before", 4), ("offset", 5)]) (N := ["row", "offsets", "added", "moved", "before", "offset", "index", "_"]) (sc := defScope s_uncut) (by decide +kernel)) (fun _ _ _ _ _ => pg_tup rfl (pgs_cons (pg_name (i := 4) sc_uncut.nd rfl (Or.inl rfl)) (pgs_cons (pg_name (i := 5) sc_uncut.nd rfl (Or.inl rfl)) (pgs_nil)))) (fun _ _ _ _ _ => pts_nil) (fun _ _ _ _ _ => pe_tup (pa_cons (pe_op op_add (pv 5) (pe_op op_mul (pe_int) (pv 4))) (pa_cons (pe_int) (pa_nil)))))
      (pss_cons (ps_setLc (i := 3) (own := [("index", 6), ("_", 7)]) (g := gTup K 2 (gCons (gName 6) (gCons (gName 7) (gNil)))) (tt := tYes) rfl sc_uncut.nd rfl rfl (sw_true rfl rfl rfl (by decide +kernel)) (pi_tup (pe_pr C_contents hr (by decide) (pv 0))) (blkOk_by (own := [("index", 6), ("_", 7)]) (N := ["row", "offsets", "added", "moved", "before", "offset", "index", "_"]) (sc := defScope s_uncut) (by decide +kernel)) (fun _ _ _ _ _ => pg_tup rfl (pgs_cons (pg_name (i := 6) sc_uncut.nd rfl (Or.inr rfl)) (pgs_cons (pg_name (i := 7) sc_uncut.nd rfl (Or.inl rfl)) (pgs_nil)))) (fun _ _ _ _ _ => pts_nil) (fun _ _ _ _ _ => pe_tup (pa_cons (pe_op op_add (pv 6) (pe_op op_mul (pe_int) (pe_callB call_len_seq (by rfl) T.n_len PySem.boot_len (pa_cons (pe_lc (own := [("offset", 5)]) (g := gName 5) (tt := tTest (tOp qLe (tVar 5) (tVar 6))) rfl sc_uncut.nd (pi_list (pv 1)) (blkOk_by (own := [("offset", 5)]) (N := ["row", "offsets", "added", "moved", "before", "offset", "index", "_"]) (sc := _) (by kernel_rfl)) (fun _ _ _ _ _ => pg_name (i := 5) sc_uncut.nd rfl (Or.inl rfl)) (fun _ _ _ _ _ => pts_one (pt_cmpR op_le (pv 5) (pv 6) (nomark _))) (fun _ _ _ _ _ => pv 5)) (pa_nil))))) (pa_cons (pe_int) (pa_nil)))))
      (pss_one (ps_ret (C8.pe_mk C_Row1 hr (by decide) (by rfl) (pa_cons (pe_op op_cat (pv 3) (pv 2)) (pa_nil))))))
  exact F.ok sc_uncut (fun vs H Q E h => by
    repeat (first | (obtain ⟨rfl, _⟩ := h; rfl) | obtain ⟨_, h⟩ := h)) D
theorem dfn_row_of (T : Tx K mg c_Row c_BadNumber c_BadCapacity c_BadRow c_BadTrains c_ScoopError) (C_are_trains : Kn P w K mg base CX0 3 "_are_trains" ["value"] (spAreTrX K)) (C_behind_runs : Kn P w K mg base CX0 4 "_behind_runs" ["row"] (spBehind K c_Row)) (C_uncut : Kn P w K mg base CX0 7 "_uncut" ["row", "offsets"] (spUncut K c_Row)) (C_with_capacities : Kn P w K mg base (L2.CX P w) 12 "with_capacities" ["row", "capacities"] (spWithCap K c_Row c_BadRow)) {a00 a0 : Addr} (C_Row0 : C8.Mak P w K mg base 5 "Row" c_Row (spRowInit K c_Row) [.ref a00, .ref a0]) (hE0 : BareK K a00 []) (hE : BareK K a0 []) {f : Addr} {fd : FuncData} {dv : List V} (F : FunD K "row_of" "row_of" (defArgs s_row_of) (defBody s_row_of) (defScope s_row_of) dv [] f fd) :
    FnOk P w K mg base (L2.CX P w) 13 f fd ["trains", "capacities"] (spRowOfX K c_Row c_BadTrains c_BadRow) := by
  have D : ∀ (cdv : Value) (A : Around) (outer : List Env) (s : Shared) (H : Hp) (vs : List V) (Q : VK) (E : XK), Room 12 (A.deeper (envOfC "row_of" (defScope s_row_of) s.heap.objs.size f cdv)) → (spRowOfX K c_Row c_BadTrains c_BadRow) vs H Q E →
      ∃ t, PSs (cxOf (L2.CX P w) P w K mg base ["trains", "capacities", "row", "level", "begun", "length", "offset", "_"] "row_of" (defScope s_row_of) f cdv A outer s H E) (defBody s_row_of) t ∧ t { nx := fun _ H' => Q .non H', rt := Q } (start ["trains", "capacities", "row", "level", "begun", "length", "offset", "_"] vs) H := by
    intro cdv A outer s H vs Q E hr h
    refine ⟨t_row_ofX K a00 a0 c_BadRow c_BadTrains c_Row E, ?_, pure_row_ofX hE0 hE vs H Q E h⟩
    exact pss_cons (ps_if (pt_not (pt_val (pe_k C_are_trains hr (by decide) rfl pass0 (pa_cons (pv 0) (pa_nil)))))
      (pss_one (ps_raise rfl (takes_of rfl rfl rfl rfl) (pmk_own PySem.F.excBase_ValueError T.x_BadTrains T.g_BadTrains T.k_BadTrains (raises_own T.s_BadTrains T.t_BadTrains) (by exact rfl))))
      (pss_nil))
      (pss_cons (ps_set (i := 2) sc_row_of.nd rfl (Or.inl rfl) (pe_mk0 C_Row0 hr (by decide) (by rfl)))
      (pss_cons (ps_for (passes_of rfl) rfl (pi_range3 rfl T.n_range (pa_cons (pe_callBK (cr_maxDf rfl) (by rfl) T.n_max (by decide +kernel) (pa_cons (pe_lc (own := [("length", 5), ("_", 7)]) (g := gTup K 2 (gCons (gName 5) (gCons (gName 7) (gNil)))) (tt := tYes) rfl sc_row_of.nd (pi_or (pi_list (pv 0)) (pi_tup (pv 0))) (blkOk_by (own := [("length", 5), ("_", 7)]) (N := ["trains", "capacities", "row", "level", "begun", "length", "offset", "_"]) (sc := defScope s_row_of) (by decide +kernel)) (fun _ _ _ _ _ => pg_tup rfl (pgs_cons (pg_name (i := 5) sc_row_of.nd rfl (Or.inl rfl)) (pgs_cons (pg_name (i := 7) sc_row_of.nd rfl (Or.inl rfl)) (pgs_nil)))) (fun _ _ _ _ _ => pts_nil) (fun _ _ _ _ _ => pv 5)) (pa_nil)) (pk_cons (pe_int) pk_nil)) (pa_cons (pe_int) (pa_cons (pe_un un_neg (pe_int)) (pa_nil))))) (pg_name (i := 3) sc_row_of.nd rfl (Or.inr rfl))
      (pss_cons (ps_setLc (i := 4) (own := [("length", 5), ("offset", 6)]) (g := gTup K 2 (gCons (gName 5) (gCons (gName 6) (gNil)))) (tt := tTest (tOp rEq (tVar 5) (tVar 3))) rfl sc_row_of.nd rfl rfl (sw_true rfl rfl rfl (by decide +kernel)) (pi_or (pi_list (pv 0)) (pi_tup (pv 0))) (blkOk_by (own := [("length", 5), ("offset", 6)]) (N := ["trains", "capacities", "row", "level", "begun", "length", "offset", "_"]) (sc := defScope s_row_of) (by decide +kernel)) (fun _ _ _ _ _ => pg_tup rfl (pgs_cons (pg_name (i := 5) sc_row_of.nd rfl (Or.inl rfl)) (pgs_cons (pg_name (i := 6) sc_row_of.nd rfl (Or.inl rfl)) (pgs_nil)))) (fun _ _ _ _ _ => pts_one (pt_cmpR op_eq (pv 5) (pv 3) (nomark _))) (fun _ _ _ _ _ => pv 6))
      (pss_one (ps_set (i := 2) sc_row_of.nd rfl (Or.inl rfl) (pe_k C_uncut hr (by decide) rfl pass0 (pa_cons (pv 2) (pa_cons (pe_op op_cat (pe_k C_behind_runs hr (by decide) rfl pass0 (pa_cons (pv 2) (pa_nil))) (pv 4)) (pa_nil))))))))
      (pss_one (ps_ret (pe_k C_with_capacities hr (by decide) rfl (passes_call (takes_of rfl rfl rfl rfl) (fun _ _ _ _ h => h)) (pa_cons (pv 2) (pa_cons (pv 1) (pa_nil))))))))
  exact F.ok sc_row_of (fun vs H Q E h => by
    repeat (first | (obtain ⟨rfl, _⟩ := h; rfl) | obtain ⟨_, h⟩ := h)) D
theorem dfn_begun (T : Tx K mg c_Row c_BadNumber c_BadCapacity c_BadRow c_BadTrains c_ScoopError) {f : Addr} {fd : FuncData} (F : FunD K "_law_begun" "_law_begun" (defArgs s_begun) (defBody s_begun) (defScope s_begun) [] [] f fd) :
    FnOk P w K mg base CX0 1 f fd ["script"] (spBegun K) := by
  have D : ∀ (cdv : Value) (A : Around) (outer : List Env) (s : Shared) (H : Hp) (vs : List V) (Q : VK) (E : XK), Room 0 (A.deeper (envOfC "_law_begun" (defScope s_begun) s.heap.objs.size f cdv)) → (spBegun K) vs H Q E →
      ∃ t, PSs (cxOf CX0 P w K mg base ["script", "wide", "cell"] "_law_begun" (defScope s_begun) f cdv A outer s H E) (defBody s_begun) t ∧ t { nx := fun _ H' => Q .non H', rt := Q } (start ["script", "wide", "cell"] vs) H := by
    intro cdv A outer s H vs Q E hr h
    refine ⟨t_begun K, PSs.nox ?_, pure_begun vs H Q E h⟩
    exact pss_cons (ps_setLc (i := 1) (own := [("cell", 2)]) (g := gName 2) (tt := tTest (tOp qGe (tVar 2) (tOp qPow (tC (.int 10)) (tC (.int 18))))) rfl sc_begun.nd rfl rfl (sw_true rfl rfl rfl (by decide +kernel)) (pi_list (pv 0)) (blkOk_by (own := [("cell", 2)]) (N := ["script", "wide", "cell"]) (sc := defScope s_begun) (by decide +kernel)) (fun _ _ _ _ _ => pg_name (i := 2) sc_begun.nd rfl (Or.inl rfl)) (fun _ _ _ _ _ => pts_one (pt_cmpR op_ge (pv 2) (pe_op op_pow (pe_int) (pe_int)) (nomark _))) (fun _ _ _ _ _ => pe_op op_sub (pv 2) (pe_op op_pow (pe_int) (pe_int))))
      (pss_one (ps_ret (pe_disp (pps_cons (pe_str) (pv 1) (pps_cons (pe_str) (pe_callTy call_list_of (by rfl) T.n_list (by decide +kernel) (pa_cons (pv 0) (pa_nil))) (pps_cons (pe_str) (pe_int) (pps_cons (pe_str) (pe_int) (pps_nil))))) (by rfl) (by rfl) (fun z => by cases z) (by decide))))
  exact F.ok sc_begun (fun vs H Q E h => by
    repeat (first | (obtain ⟨rfl, _⟩ := h; rfl) | obtain ⟨_, h⟩ := h)) D
theorem dfn_mixed (T : Tx K mg c_Row c_BadNumber c_BadCapacity c_BadRow c_BadTrains c_ScoopError) {f : Addr} {fd : FuncData} (F : FunD K "_law_mixed" "_law_mixed" (defArgs s_mixed) (defBody s_mixed) (defScope s_mixed) [] [] f fd) :
    FnOk P w K mg base CX0 1 f fd ["state"] spMixed := by
  have D : ∀ (cdv : Value) (A : Around) (outer : List Env) (s : Shared) (H : Hp) (vs : List V) (Q : VK) (E : XK), Room 0 (A.deeper (envOfC "_law_mixed" (defScope s_mixed) s.heap.objs.size f cdv)) → spMixed vs H Q E →
      ∃ t, PSs (cxOf CX0 P w K mg base ["state", "turn", "found", "prime", "blend", "cell"] "_law_mixed" (defScope s_mixed) f cdv A outer s H E) (defBody s_mixed) t ∧ t { nx := fun _ H' => Q .non H', rt := Q } (start ["state", "turn", "found", "prime", "blend", "cell"] vs) H := by
    intro cdv A outer s H vs Q E hr h
    refine ⟨t_mixed K, PSs.nox ?_, pure_mixed vs H Q E h⟩
    exact pss_cons (ps_set (i := 1) sc_mixed.nd rfl (Or.inl rfl) (pe_op op_add (pe_dget (hu_of hr) (pv 0) (pe_str) (fun _ _ => rfl)) (pe_int)))
      (pss_cons (ps_dput (hu_of hr) (pv 0) (pe_str) (pv 1) rfl)
      (pss_cons (ps_set (i := 2) sc_mixed.nd rfl (Or.inl rfl) (pe_int))
      (pss_cons (ps_for PassesOwn.never rfl (pi_list (pe_lst (pa_cons (pe_int) (pa_cons (pe_int) (pa_cons (pe_int) (pa_cons (pe_int) (pa_cons (pe_int) (pa_cons (pe_int) (pa_nil))))))))) (pg_name (i := 3) sc_mixed.nd rfl (Or.inl rfl))
      (pss_cons (ps_set (i := 4) sc_mixed.nd rfl (Or.inl rfl) (pe_op op_add (pe_op op_mul (pe_int) (pv 1)) (pe_op op_fdivN (pv 3) (pe_int))))
      (pss_cons (ps_for PassesOwn.never rfl (pi_list (pe_dget (hu_of hr) (pv 0) (pe_str) (fun _ _ => rfl))) (pg_name (i := 5) sc_mixed.nd rfl (Or.inl rfl))
      (pss_one (ps_set (i := 4) sc_mixed.nd rfl (Or.inl rfl) (pe_op op_modN (pe_callTy call_int1 (by rfl) T.n_int (by decide +kernel) (pa_cons (pe_op op_add (pe_op op_mul (pv 4) (pe_int)) (pv 5)) (pa_nil))) (pv 3)))))
      (pss_one (ps_set (i := 2) sc_mixed.nd rfl (Or.inl rfl) (pe_op op_add (pe_op op_mul (pv 2) (pe_int)) (pe_op op_modN (pe_callTy call_int1 (by rfl) T.n_int (by decide +kernel) (pa_cons (pe_op op_pow (pv 4) (pe_int)) (pa_nil))) (pv 3))))))))
      (pss_one (ps_ret (pv 2))))))
  exact F.ok sc_mixed (fun vs H Q E h => by
    repeat (first | (obtain ⟨rfl, _⟩ := h; rfl) | obtain ⟨_, h⟩ := h)) D
theorem dfn_take (T : Tx K mg c_Row c_BadNumber c_BadCapacity c_BadRow c_BadTrains c_ScoopError) (C_mixed : Kn P w K mg base CX0 1 "_law_mixed" ["state"] spMixed) {f : Addr} {fd : FuncData} (F : FunD K "_law_take" "_law_take" (defArgs s_take) (defBody s_take) (defScope s_take) [] [] f fd) :
    FnOk P w K mg base CX0 2 f fd ["state", "size"] spTake := by
  have D : ∀ (cdv : Value) (A : Around) (outer : List Env) (s : Shared) (H : Hp) (vs : List V) (Q : VK) (E : XK), Room 1 (A.deeper (envOfC "_law_take" (defScope s_take) s.heap.objs.size f cdv)) → spTake vs H Q E →
      ∃ t, PSs (cxOf CX0 P w K mg base ["state", "size", "found"] "_law_take" (defScope s_take) f cdv A outer s H E) (defBody s_take) t ∧ t { nx := fun _ H' => Q .non H', rt := Q } (start ["state", "size", "found"] vs) H := by
    intro cdv A outer s H vs Q E hr h
    refine ⟨t_take K, PSs.nox ?_, pure_take vs H Q E h⟩
    exact pss_cons (ps_if (PW.pt (pw_and (pt_cmpR op_eq (pe_dget (hu_of hr) (pv 0) (pe_str) (fun _ _ => rfl)) (pe_int) (nomark _)) (pw_and1 (pt_cmpR (op_neD hr.units) (pe_dget (hu_of hr) (pv 0) (pe_str) (fun _ _ => rfl)) (pe_lst (pa_nil)) (nomark _)))))
      (pss_one (ps_dput (hu_of hr) (pv 0) (pe_str) (pe_bm PySem.F.plainAttrs_list PySem.F.slot_list_pop PySem.F.type_list_pop mt_popAt (pe_dget (hu_of hr) (pv 0) (pe_str) (fun _ _ => rfl)) (pa_cons (pe_int) (pa_nil))) rfl))
      (pss_one (ps_if (pt_cmpR op_eq (pe_dget (hu_of hr) (pv 0) (pe_str) (fun _ _ => rfl)) (pe_int) (nomark _))
      (pss_one (ps_dput (hu_of hr) (pv 0) (pe_str) (pe_k C_mixed hr (by decide) rfl pass0 (pa_cons (pv 0) (pa_nil))) rfl))
      (pss_nil))))
      (pss_cons (ps_set (i := 2) sc_take.nd rfl (Or.inl rfl) (pe_op op_modN (pe_callTy call_int1 (by rfl) T.n_int (by decide +kernel) (pa_cons (pe_dget (hu_of hr) (pv 0) (pe_str) (fun _ _ => rfl)) (pa_nil))) (pv 1)))
      (pss_cons (ps_dput (hu_of hr) (pv 0) (pe_str) (pe_op op_fdivN (pe_dget (hu_of hr) (pv 0) (pe_str) (fun _ _ => rfl)) (pv 1)) rfl)
      (pss_one (ps_ret (pv 2)))))
  exact F.ok sc_take (fun vs H Q E h => by
    repeat (first | (obtain ⟨rfl, _⟩ := h; rfl) | obtain ⟨_, h⟩ := h)) D
theorem dfn_pick (T : Tx K mg c_Row c_BadNumber c_BadCapacity c_BadRow c_BadTrains c_ScoopError) (C_take : Kn P w K mg base CX0 2 "_law_take" ["state", "size"] spTake) {f : Addr} {fd : FuncData} (F : FunD K "_law_pick" "_law_pick" (defArgs s_pick) (defBody s_pick) (defScope s_pick) [] [] f fd) :
    FnOk P w K mg base CX0 3 f fd ["state", "some"] (spPick K) := by
  have D : ∀ (cdv : Value) (A : Around) (outer : List Env) (s : Shared) (H : Hp) (vs : List V) (Q : VK) (E : XK), Room 2 (A.deeper (envOfC "_law_pick" (defScope s_pick) s.heap.objs.size f cdv)) → (spPick K) vs H Q E →
      ∃ t, PSs (cxOf CX0 P w K mg base ["state", "some"] "_law_pick" (defScope s_pick) f cdv A outer s H E) (defBody s_pick) t ∧ t { nx := fun _ H' => Q .non H', rt := Q } (start ["state", "some"] vs) H := by
    intro cdv A outer s H vs Q E hr h
    refine ⟨t_pick K, PSs.nox ?_, pure_pick vs H Q E h⟩
    exact pss_one (ps_ret (pe_ix ix_list (pv 1) (pe_k C_take hr (by decide) rfl pass0 (pa_cons (pv 0) (pa_cons (pe_callB call_len_seq (by rfl) T.n_len PySem.boot_len (pa_cons (pv 1) (pa_nil))) (pa_nil)))) (fun _ _ => rfl)))
  exact F.ok sc_pick (fun vs H Q E h => by
    repeat (first | (obtain ⟨rfl, _⟩ := h; rfl) | obtain ⟨_, h⟩ := h)) D
theorem dfn_shuffled (T : Tx K mg c_Row c_BadNumber c_BadCapacity c_BadRow c_BadTrains c_ScoopError) (C_take : Kn P w K mg base CX0 2 "_law_take" ["state", "size"] spTake) {f : Addr} {fd : FuncData} (F : FunD K "_law_shuffled" "_law_shuffled" (defArgs s_shuffled) (defBody s_shuffled) (defScope s_shuffled) [] [] f fd) :
    FnOk P w K mg base CX0 3 f fd ["state", "some"] (spShuffled K) := by
  have D : ∀ (cdv : Value) (A : Around) (outer : List Env) (s : Shared) (H : Hp) (vs : List V) (Q : VK) (E : XK), Room 2 (A.deeper (envOfC "_law_shuffled" (defScope s_shuffled) s.heap.objs.size f cdv)) → (spShuffled K) vs H Q E →
      ∃ t, PSs (cxOf CX0 P w K mg base ["state", "some", "spare", "found"] "_law_shuffled" (defScope s_shuffled) f cdv A outer s H E) (defBody s_shuffled) t ∧ t { nx := fun _ H' => Q .non H', rt := Q } (start ["state", "some", "spare", "found"] vs) H := by
    intro cdv A outer s H vs Q E hr h
    refine ⟨t_shuffled K, PSs.nox ?_, pure_shuffled vs H Q E h⟩
    exact pss_cons (ps_par (by rfl) sc_shuffled.nd rfl rfl (by decide) rfl rfl (pa_cons (pe_callTy call_list_of (by rfl) T.n_list (by decide +kernel) (pa_cons (pv 1) (pa_nil))) (pa_cons (pe_lst (pa_nil)) (pa_nil))) (by rfl))
      (pss_cons (ps_while PassesOwn.never (pt_cmpR (op_neD hr.units) (pv 2) (pe_lst (pa_nil)) (nomark _))
      (pss_one (ps_expr (pe_bm PySem.F.plainAttrs_list PySem.F.slot_list_append PySem.F.type_list_append mt_append (pv 3) (pa_cons (pe_bm PySem.F.plainAttrs_list PySem.F.slot_list_pop PySem.F.type_list_pop mt_popAt (pv 2) (pa_cons (pe_k C_take hr (by decide) rfl pass0 (pa_cons (pv 0) (pa_cons (pe_callB call_len_seq (by rfl) T.n_len PySem.boot_len (pa_cons (pv 2) (pa_nil))) (pa_nil)))) (pa_nil))) (pa_nil))))))
      (pss_one (ps_ret (pv 3))))
  exact F.ok sc_shuffled (fun vs H Q E h => by
    repeat (first | (obtain ⟨rfl, _⟩ := h; rfl) | obtain ⟨_, h⟩ := h)) D
theorem dfn_sizes (T : Tx K mg c_Row c_BadNumber c_BadCapacity c_BadRow c_BadTrains c_ScoopError) (C_take : Kn P w K mg base CX0 2 "_law_take" ["state", "size"] spTake) (C_pick : Kn P w K mg base CX0 3 "_law_pick" ["state", "some"] (spPick K)) {f : Addr} {fd : FuncData} (F : FunD K "_law_sizes" "_law_sizes" (defArgs s_sizes) (defBody s_sizes) (defScope s_sizes) [] [] f fd) :
    FnOk P w K mg base CX0 4 f fd ["state", "most"] (spSizes K) := by
  have D : ∀ (cdv : Value) (A : Around) (outer : List Env) (s : Shared) (H : Hp) (vs : List V) (Q : VK) (E : XK), Room 3 (A.deeper (envOfC "_law_sizes" (defScope s_sizes) s.heap.objs.size f cdv)) → (spSizes K) vs H Q E →
      ∃ t, PSs (cxOf CX0 P w K mg base ["state", "most", "found", "turn", "place"] "_law_sizes" (defScope s_sizes) f cdv A outer s H E) (defBody s_sizes) t ∧ t { nx := fun _ H' => Q .non H', rt := Q } (start ["state", "most", "found", "turn", "place"] vs) H := by
    intro cdv A outer s H vs Q E hr h
    refine ⟨t_sizes K, PSs.nox ?_, pure_sizes vs H Q E h⟩
    exact pss_cons (ps_set (i := 2) sc_sizes.nd rfl (Or.inr rfl) (pe_dnewK))
      (pss_cons (ps_for PassesOwn.never rfl (pi_range1 rfl T.n_range (pa_cons (pe_k C_take hr (by decide) rfl pass0 (pa_cons (pv 0) (pa_cons (pe_op op_add (pv 1) (pe_int)) (pa_nil)))) (pa_nil))) (pg_name (i := 3) sc_sizes.nd rfl (Or.inl rfl))
      (pss_one (ps_dput (hu_of hr) (pv 2) (pe_k C_pick hr (by decide) rfl pass0 (pa_cons (pv 0) (pa_cons (pe_lst (pa_cons (pe_op op_sub (pe_k C_take hr (by decide) rfl pass0 (pa_cons (pv 0) (pa_cons (pe_int) (pa_nil)))) (pe_int)) (pa_cons (pe_op op_sub (pe_k C_take hr (by decide) rfl pass0 (pa_cons (pv 0) (pa_cons (pe_int) (pa_nil)))) (pe_int)) (pa_cons (pe_int) (pa_cons (pe_un un_neg (pe_int)) (pa_nil)))))) (pa_nil)))) (pe_op op_add (pe_int) (pe_k C_take hr (by decide) rfl pass0 (pa_cons (pv 0) (pa_cons (pe_int) (pa_nil))))) rfl)))
      (pss_one (ps_ret (pe_callTy (call_dictP rfl) (by rfl) T.n_dict (by decide +kernel) (pa_cons (pe_lc (own := [("place", 4)]) (g := gName 4) (tt := tYes) rfl sc_sizes.nd (pi_list (pe_callB (call_sortedDI rfl) (by rfl) T.n_sorted (by decide +kernel) (pa_cons (pv 2) (pa_nil)))) (blkOk_by (own := [("place", 4)]) (N := ["state", "most", "found", "turn", "place"]) (sc := defScope s_sizes) (by decide +kernel)) (fun _ _ _ _ _ => pg_name (i := 4) sc_sizes.nd rfl (Or.inl rfl)) (fun _ _ _ _ _ => pts_nil) (fun _ _ _ _ _ => pe_tup (pa_cons (pv 4) (pa_cons (pe_dget (hu_of hr) (pv 2) (pv 4) (fun _ _ => rfl)) (pa_nil))))) (pa_nil))))))
  exact F.ok sc_sizes (fun vs H Q E h => by
    repeat (first | (obtain ⟨rfl, _⟩ := h; rfl) | obtain ⟨_, h⟩ := h)) D
theorem dfn_boxes (T : Tx K mg c_Row c_BadNumber c_BadCapacity c_BadRow c_BadTrains c_ScoopError) (C_take : Kn P w K mg base CX0 2 "_law_take" ["state", "size"] spTake) (C_pick : Kn P w K mg base CX0 3 "_law_pick" ["state", "some"] (spPick K)) {f : Addr} {fd : FuncData} (F : FunD K "_law_boxes" "_law_boxes" (defArgs s_boxes) (defBody s_boxes) (defScope s_boxes) [] [] f fd) :
    FnOk P w K mg base CX0 4 f fd ["state", "sizes", "most"] (spBoxes K) := by
  have D : ∀ (cdv : Value) (A : Around) (outer : List Env) (s : Shared) (H : Hp) (vs : List V) (Q : VK) (E : XK), Room 3 (A.deeper (envOfC "_law_boxes" (defScope s_boxes) s.heap.objs.size f cdv)) → (spBoxes K) vs H Q E →
      ∃ t, PSs (cxOf CX0 P w K mg base ["state", "sizes", "most", "place", "found", "spare", "turn", "step", "amount"] "_law_boxes" (defScope s_boxes) f cdv A outer s H E) (defBody s_boxes) t ∧ t { nx := fun _ H' => Q .non H', rt := Q } (start ["state", "sizes", "most", "place", "found", "spare", "turn", "step", "amount"] vs) H := by
    intro cdv A outer s H vs Q E hr h
    refine ⟨t_boxes K, PSs.nox ?_, pure_boxes vs H Q E h⟩
    exact pss_cons (ps_asg (pe_tup (pa_cons (pe_k C_pick hr (by decide) rfl pass0 (pa_cons (pv 0) (pa_cons (pe_lst (pa_cons (pe_int) (pa_cons (pe_int) (pa_cons (pe_un un_neg (pe_int)) (pa_cons (pe_un un_neg (pe_int)) (pa_cons (pe_int) (pa_cons (pe_op op_pow (pe_int) (pe_int)) (pa_cons (pe_un un_neg (pe_op op_pow (pe_int) (pe_int))) (pa_nil))))))))) (pa_nil)))) (pa_cons (pe_dnewK) (pa_cons (pv 2) (pa_nil))))) (pg_tup rfl (pgs_cons (pg_name (i := 3) sc_boxes.nd rfl (Or.inl rfl)) (pgs_cons (pg_name (i := 4) sc_boxes.nd rfl (Or.inr rfl)) (pgs_cons (pg_name (i := 5) sc_boxes.nd rfl (Or.inl rfl)) (pgs_nil))))))
      (pss_cons (ps_for PassesOwn.never rfl (pi_range1 rfl T.n_range (pa_cons (pe_k C_take hr (by decide) rfl pass0 (pa_cons (pv 0) (pa_cons (pe_int) (pa_nil)))) (pa_nil))) (pg_name (i := 6) sc_boxes.nd rfl (Or.inl rfl))
      (pss_cons (ps_for PassesOwn.never rfl (pi_range1 rfl T.n_range (pa_cons (pe_op op_add (pe_int) (pe_k C_take hr (by decide) rfl pass0 (pa_cons (pv 0) (pa_cons (pe_int) (pa_nil))))) (pa_nil))) (pg_name (i := 7) sc_boxes.nd rfl (Or.inl rfl))
      (pss_cons (ps_set (i := 8) sc_boxes.nd rfl (Or.inl rfl) (pe_callB (call_min2 rfl) (by rfl) T.n_min (by decide +kernel) (pa_cons (pv 5) (pa_cons (pe_op op_add (pe_int) (pe_k C_take hr (by decide) rfl pass0 (pa_cons (pv 0) (pa_cons (pe_dget2 (hu_of hr) (pv 1) (pv 3) (pe_int) ⟨rfl, rfl, rfl, rfl⟩) (pa_nil))))) (pa_nil)))))
      (pss_cons (ps_if (pt_cmpR op_gt (pv 8) (pe_int) (nomark _))
      (pss_one (ps_dput (hu_of hr) (pv 4) (pv 3) (pv 8) rfl))
      (pss_nil))
      (pss_one (ps_par (by rfl) sc_boxes.nd rfl rfl (by decide) rfl rfl (pa_cons (pe_op op_sub (pv 5) (pv 8)) (pa_cons (pe_op op_add (pv 3) (pe_int)) (pa_nil))) (by rfl))))))
      (pss_one (ps_set (i := 3) sc_boxes.nd rfl (Or.inl rfl) (pe_op op_add (pv 3) (pe_k C_pick hr (by decide) rfl pass0 (pa_cons (pv 0) (pa_cons (pe_lst (pa_cons (pe_int) (pa_cons (pe_int) (pa_cons (pe_int) (pa_cons (pe_int) (pa_cons (pe_int) (pa_cons (pe_int) (pa_cons (pe_op op_pow (pe_int) (pe_int)) (pa_nil))))))))) (pa_nil)))))))))
      (pss_cons (ps_lock (ps_for PassesOwn.never rfl (pi_keys (pv 1)) (pg_name (i := 3) sc_boxes.nd rfl (Or.inl rfl))
      (pss_cons (ps_set (i := 8) sc_boxes.nd rfl (Or.inl rfl) (pe_callB (call_min2 rfl) (by rfl) T.n_min (by decide +kernel) (pa_cons (pv 5) (pa_cons (pe_k C_take hr (by decide) rfl pass0 (pa_cons (pv 0) (pa_cons (pe_op op_add (pe_dget (hu_of hr) (pv 1) (pv 3) (fun _ _ => rfl)) (pe_int)) (pa_nil)))) (pa_nil)))))
      (pss_one (ps_if (PW.pt (pw_and (pt_cmp (pc_dnotin (hu_of hr) (pv 3) (pv 4))) (pw_and1 (pt_cmpR op_gt (pv 8) (pe_int) (nomark _)))))
      (pss_one (ps_asg (pe_tup (pa_cons (pv 8) (pa_cons (pe_op op_sub (pv 5) (pv 8)) (pa_nil)))) (pg_tup rfl (pgs_cons (pg_sub (pv 4) (pv 3) (set_dict (hu_of hr))) (pgs_cons (pg_name (i := 5) sc_boxes.nd rfl (Or.inl rfl)) (pgs_nil))))))
      (pss_nil))))))
      (pss_one (ps_ret (pe_callTy (call_dictP rfl) (by rfl) T.n_dict (by decide +kernel) (pa_cons (pe_lc (own := [("place", 3)]) (g := gName 3) (tt := tYes) rfl sc_boxes.nd (pi_list (pe_callB (call_sortedDI rfl) (by rfl) T.n_sorted (by decide +kernel) (pa_cons (pv 4) (pa_nil)))) (blkOk_by (own := [("place", 3)]) (N := ["state", "sizes", "most", "place", "found", "spare", "turn", "step", "amount"]) (sc := defScope s_boxes) (by decide +kernel)) (fun _ _ _ _ _ => pg_name (i := 3) sc_boxes.nd rfl (Or.inl rfl)) (fun _ _ _ _ _ => pts_nil) (fun _ _ _ _ _ => pe_tup (pa_cons (pv 3) (pa_cons (pe_dget (hu_of hr) (pv 4) (pv 3) (fun _ _ => rfl)) (pa_nil))))) (pa_nil)))))))
  exact F.ok sc_boxes (fun vs H Q E h => by
    repeat (first | (obtain ⟨rfl, _⟩ := h; rfl) | obtain ⟨_, h⟩ := h)) D
theorem dfn_made (T : Tx K mg c_Row c_BadNumber c_BadCapacity c_BadRow c_BadTrains c_ScoopError) (C_Row : C8.Mak P w K mg base 5 "Row" c_Row (spRowInit K c_Row) []) {f : Addr} {fd : FuncData} (F : FunD K "_law_made" "_law_made" (defArgs s_made) (defBody s_made) (defScope s_made) [] [] f fd) :
    FnOk P w K mg base CX0 7 f fd ["boxes", "sizes"] (spMade K c_Row) := by
  have D : ∀ (cdv : Value) (A : Around) (outer : List Env) (s : Shared) (H : Hp) (vs : List V) (Q : VK) (E : XK), Room 6 (A.deeper (envOfC "_law_made" (defScope s_made) s.heap.objs.size f cdv)) → (spMade K c_Row) vs H Q E →
      ∃ t, PSs (cxOf CX0 P w K mg base ["boxes", "sizes"] "_law_made" (defScope s_made) f cdv A outer s H E) (defBody s_made) t ∧ t { nx := fun _ H' => Q .non H', rt := Q } (start ["boxes", "sizes"] vs) H := by
    intro cdv A outer s H vs Q E hr h
    refine ⟨t_made K c_Row, PSs.nox ?_, pure_made vs H Q E h⟩
    exact pss_one (ps_ret (C8.pe_mk C_Row hr (by decide) (by rfl) (pa_cons (LiI.pe_listItems rfl (pv 0) (by rfl) T.n_list (by decide +kernel)) (pa_cons (LiI.pe_listItems rfl (pv 1) (by rfl) T.n_list (by decide +kernel)) (pa_nil)))))
  exact F.ok sc_made (fun vs H Q E h => by
    repeat (first | (obtain ⟨rfl, _⟩ := h; rfl) | obtain ⟨_, h⟩ := h)) D
theorem dfn_list (T : Tx K mg c_Row c_BadNumber c_BadCapacity c_BadRow c_BadTrains c_ScoopError) (C_take : Kn P w K mg base CX0 2 "_law_take" ["state", "size"] spTake) (C_pick : Kn P w K mg base CX0 3 "_law_pick" ["state", "some"] (spPick K)) {f : Addr} {fd : FuncData} (F : FunD K "_law_list" "_law_list" (defArgs s_list) (defBody s_list) (defScope s_list) [] [] f fd) :
    FnOk P w K mg base CX0 4 f fd ["state"] (spList15 K) := by
  have D : ∀ (cdv : Value) (A : Around) (outer : List Env) (s : Shared) (H : Hp) (vs : List V) (Q : VK) (E : XK), Room 3 (A.deeper (envOfC "_law_list" (defScope s_list) s.heap.objs.size f cdv)) → (spList15 K) vs H Q E →
      ∃ t, PSs (cxOf CX0 P w K mg base ["state", "base", "found", "room", "turn", "size", "more"] "_law_list" (defScope s_list) f cdv A outer s H E) (defBody s_list) t ∧ t { nx := fun _ H' => Q .non H', rt := Q } (start ["state", "base", "found", "room", "turn", "size", "more"] vs) H := by
    intro cdv A outer s H vs Q E hr h
    refine ⟨t_list15 K, PSs.nox ?_, pure_list15 vs H Q E h⟩
    exact pss_cons (ps_par3 (by rfl) sc_list.nd rfl rfl rfl (by decide) (by decide) (by decide) rfl rfl rfl (pa_cons (pe_k C_pick hr (by decide) rfl pass0 (pa_cons (pv 0) (pa_cons (pe_lst (pa_cons (pe_int) (pa_cons (pe_int) (pa_cons (pe_un un_neg (pe_int)) (pa_cons (pe_op op_pow (pe_int) (pe_int)) (pa_nil)))))) (pa_nil)))) (pa_cons (pe_lst (pa_nil)) (pa_cons (pe_k C_pick hr (by decide) rfl pass0 (pa_cons (pv 0) (pa_cons (pe_lst (pa_cons (pe_int) (pa_cons (pe_int) (pa_cons (pe_int) (pa_nil))))) (pa_nil)))) (pa_nil)))) (by rfl))
      (pss_cons (ps_for PassesOwn.never rfl (pi_range1 rfl T.n_range (pa_cons (pe_k C_take hr (by decide) rfl pass0 (pa_cons (pv 0) (pa_cons (pe_int) (pa_nil)))) (pa_nil))) (pg_name (i := 4) sc_list.nd rfl (Or.inl rfl))
      (pss_cons (ps_set (i := 5) sc_list.nd rfl (Or.inl rfl) (pe_callB (call_min2 rfl) (by rfl) T.n_min (by decide +kernel) (pa_cons (pv 3) (pa_cons (pe_k C_pick hr (by decide) rfl pass0 (pa_cons (pv 0) (pa_cons (pe_lst (pa_cons (pe_int) (pa_cons (pe_int) (pa_cons (pe_int) (pa_cons (pe_int) (pa_cons (pe_int) (pa_cons (pe_int) (pa_cons (pe_int) (pa_cons (pe_int) (pa_nil)))))))))) (pa_nil)))) (pa_nil)))))
      (pss_cons (ps_set (i := 6) sc_list.nd rfl (Or.inl rfl) (pe_k C_pick hr (by decide) rfl pass0 (pa_cons (pv 0) (pa_cons (pe_lst (pa_cons (pe_int) (pa_cons (pe_int) (pa_cons (pe_int) (pa_cons (pe_int) (pa_cons (pe_int) (pa_cons (pe_un un_neg (pe_int)) (pa_cons (pe_k C_take hr (by decide) rfl pass0 (pa_cons (pv 0) (pa_cons (pe_int) (pa_nil)))) (pa_cons (pe_op op_pow (pe_int) (pe_int)) (pa_nil)))))))))) (pa_nil)))))
      (pss_one (ps_if (pt_cmpR op_gt (pv 5) (pe_int) (nomark _))
      (pss_cons (ps_expr (pe_bm PySem.F.plainAttrs_list PySem.F.slot_list_append PySem.F.type_list_append mt_append (pv 2) (pa_cons (pe_tup (pa_cons (pv 5) (pa_cons (pe_op op_add (pv 1) (pv 6)) (pa_nil)))) (pa_nil))))
      (pss_one (ps_set (i := 3) sc_list.nd rfl (Or.inl rfl) (pe_op op_sub (pv 3) (pv 5)))))
      (pss_nil))))))
      (pss_one (ps_ret (pv 2))))
  exact F.ok sc_list (fun vs H Q E h => by
    repeat (first | (obtain ⟨rfl, _⟩ := h; rfl) | obtain ⟨_, h⟩ := h)) D
theorem dfn_crowd (T : Tx K mg c_Row c_BadNumber c_BadCapacity c_BadRow c_BadTrains c_ScoopError) (C_take : Kn P w K mg base CX0 2 "_law_take" ["state", "size"] spTake) (C_pick : Kn P w K mg base CX0 3 "_law_pick" ["state", "some"] (spPick K)) {f : Addr} {fd : FuncData} (F : FunD K "_law_crowd" "_law_crowd" (defArgs s_crowd) (defBody s_crowd) (defScope s_crowd) [] [] f fd) :
    FnOk P w K mg base CX0 4 f fd ["state"] (spCrowd15 K) := by
  have D : ∀ (cdv : Value) (A : Around) (outer : List Env) (s : Shared) (H : Hp) (vs : List V) (Q : VK) (E : XK), Room 3 (A.deeper (envOfC "_law_crowd" (defScope s_crowd) s.heap.objs.size f cdv)) → (spCrowd15 K) vs H Q E →
      ∃ t, PSs (cxOf CX0 P w K mg base ["state", "found", "room", "size"] "_law_crowd" (defScope s_crowd) f cdv A outer s H E) (defBody s_crowd) t ∧ t { nx := fun _ H' => Q .non H', rt := Q } (start ["state", "found", "room", "size"] vs) H := by
    intro cdv A outer s H vs Q E hr h
    refine ⟨t_crowd15 K, PSs.nox ?_, pure_crowd15 vs H Q E h⟩
    exact pss_cons (ps_par (by rfl) sc_crowd.nd rfl rfl (by decide) rfl rfl (pa_cons (pe_lst (pa_nil)) (pa_cons (pe_op op_add (pe_int) (pe_k C_take hr (by decide) rfl pass0 (pa_cons (pv 0) (pa_cons (pe_int) (pa_nil))))) (pa_nil))) (by rfl))
      (pss_cons (ps_while PassesOwn.never (pt_cmpR op_gt (pv 2) (pe_int) (nomark _))
      (pss_cons (ps_set (i := 3) sc_crowd.nd rfl (Or.inl rfl) (pe_callB (call_min2 rfl) (by rfl) T.n_min (by decide +kernel) (pa_cons (pv 2) (pa_cons (pe_k C_pick hr (by decide) rfl pass0 (pa_cons (pv 0) (pa_cons (pe_lst (pa_cons (pe_int) (pa_cons (pe_int) (pa_cons (pe_int) (pa_cons (pe_int) (pa_nil)))))) (pa_nil)))) (pa_nil)))))
      (pss_cons (ps_expr (pe_bm PySem.F.plainAttrs_list PySem.F.slot_list_append PySem.F.type_list_append mt_append (pv 1) (pa_cons (pe_tup (pa_cons (pv 3) (pa_cons (pe_op op_sub (pe_k C_take hr (by decide) rfl pass0 (pa_cons (pv 0) (pa_cons (pe_int) (pa_nil)))) (pe_int)) (pa_nil)))) (pa_nil))))
      (pss_one (ps_set (i := 2) sc_crowd.nd rfl (Or.inl rfl) (pe_op op_sub (pv 2) (pv 3)))))))
      (pss_one (ps_ret (pv 1))))
  exact F.ok sc_crowd (fun vs H Q E h => by
    repeat (first | (obtain ⟨rfl, _⟩ := h; rfl) | obtain ⟨_, h⟩ := h)) D
theorem dfn_lare_trains (T : Tx K mg c_Row c_BadNumber c_BadCapacity c_BadRow c_BadTrains c_ScoopError) {f : Addr} {fd : FuncData} (F : FunD K "_law_are_trains" "_law_are_trains" (defArgs s_lare_trains) (defBody s_lare_trains) (defScope s_lare_trains) [] [] f fd) :
    FnOk P w K mg base CX0 1 f fd ["value"] (spAreTr15 K) := by
  have D : ∀ (cdv : Value) (A : Around) (outer : List Env) (s : Shared) (H : Hp) (vs : List V) (Q : VK) (E : XK), Room 0 (A.deeper (envOfC "_law_are_trains" (defScope s_lare_trains) s.heap.objs.size f cdv)) → (spAreTr15 K) vs H Q E →
      ∃ t, PSs (cxOf CX0 P w K mg base ["value", "train", "part"] "_law_are_trains" (defScope s_lare_trains) f cdv A outer s H E) (defBody s_lare_trains) t ∧ t { nx := fun _ H' => Q .non H', rt := Q } (start ["value", "train", "part"] vs) H := by
    intro cdv A outer s H vs Q E hr h
    refine ⟨t_aretr15 K, PSs.nox ?_, pure_aretr15 vs H Q E h⟩
    exact pss_cons (ps_if (pt_not (pt_val (pe_callB call_isiT (by rfl) T.n_isinstance PyProof.Rows.boot_isinstance (pa_cons (pv 0) (pa_cons (pe_tup (pa_cons (pe_bltn (v := .ty "list") (by rfl) T.n_list (by decide +kernel) rfl) (pa_cons (pe_bltn (v := .ty "tuple") (by rfl) T.n_tuple (by decide +kernel) rfl) (pa_nil)))) pa_nil)))))
      (pss_one (ps_ret (pe_bl)))
      (pss_nil))
      (pss_cons (ps_for PassesOwn.never rfl (pi_or (pi_list (pv 0)) (pi_tup (pv 0))) (pg_name (i := 1) sc_lare_trains.nd rfl (Or.inl rfl))
      (pss_cons (ps_if (PW.pt (pw_or (pt_not (pt_val (pe_callB call_isi (by rfl) T.n_isinstance PyProof.Rows.boot_isinstance (pa_cons (pv 1) (pa_cons (pe_bltn (v := .ty "tuple") (by rfl) T.n_tuple (by decide +kernel) rfl) pa_nil))))) (pw_or1 (pt_cmpR op_ne (pe_callB call_len_seq (by rfl) T.n_len PySem.boot_len (pa_cons (pv 1) (pa_nil))) (pe_int) (nomark _)))))
      (pss_one (ps_ret (pe_bl)))
      (pss_nil))
      (pss_one (ps_if (PW.pt (pw_or (pt_cmpR (op_neE hr.units) (pe_lc (own := [("part", 2)]) (g := gName 2) (tt := tOr (tNot (tB (tCB (rIsi K) (tCons (tVar 2) (tCons (tC (.ty "int")) tNil))))) (tB (tCB (rIsi K) (tCons (tVar 2) (tCons (tC (.ty "bool")) tNil))))) rfl sc_lare_trains.nd (pi_tup (pv 1)) (blkOk_by (own := [("part", 2)]) (N := ["value", "train", "part"]) (sc := defScope s_lare_trains) (by decide +kernel)) (fun _ _ _ _ _ => pg_name (i := 2) sc_lare_trains.nd rfl (Or.inl rfl)) (fun _ _ _ _ _ => pts_one (PW.pt (pw_or (pt_not (pt_val (pe_callB call_isi (by rfl) T.n_isinstance PyProof.Rows.boot_isinstance (pa_cons (pv 2) (pa_cons (pe_bltn (v := .ty "int") (by rfl) T.n_int (by decide +kernel) rfl) pa_nil))))) (pw_or1 (pt_val (pe_callB call_isi (by rfl) T.n_isinstance PyProof.Rows.boot_isinstance (pa_cons (pv 2) (pa_cons (pe_bltn (v := .ty "bool") (by rfl) T.n_bool (by decide +kernel) rfl) pa_nil)))))))) (fun _ _ _ _ _ => pe_int)) (pe_lst (pa_nil)) (nomark _)) (pw_or1 (pt_cmpR op_lt (pe_ix ix_tup (pv 1) (pe_int) (fun _ _ => rfl)) (pe_int) (nomark _)))))
      (pss_one (ps_ret (pe_bl)))
      (pss_nil)))))
      (pss_one (ps_ret (pe_cmpR op_le (pe_callB (cr_sum rfl) (by rfl) T.n_sum (by decide +kernel) (pa_cons (pe_lc (own := [("train", 1)]) (g := gName 1) (tt := tYes) rfl sc_lare_trains.nd (pi_or (pi_list (pv 0)) (pi_tup (pv 0))) (blkOk_by (own := [("train", 1)]) (N := ["value", "train", "part"]) (sc := defScope s_lare_trains) (by decide +kernel)) (fun _ _ _ _ _ => pg_name (i := 1) sc_lare_trains.nd rfl (Or.inl rfl)) (fun _ _ _ _ _ => pts_nil) (fun _ _ _ _ _ => pe_ix ix_tup (pv 1) (pe_int) (fun _ _ => rfl))) (pa_nil))) (pe_int) (nomark _)))))
  exact F.ok sc_lare_trains (fun vs H Q E h => by
    repeat (first | (obtain ⟨rfl, _⟩ := h; rfl) | obtain ⟨_, h⟩ := h)) D
theorem dfn_told (T : Tx K mg c_Row c_BadNumber c_BadCapacity c_BadRow c_BadTrains c_ScoopError) (C_row_of : Kn P w K mg base (L2.CX P w) 13 "row_of" ["trains", "capacities"] (spRowOfX K c_Row c_BadTrains c_BadRow)) (Z_BadRow : ErrK K c_BadRow c_ScoopError "field") (Z_BadTrains : ErrN K c_BadTrains c_BadRow c_ScoopError) (Z_no : PySem.W.kitOne K (.ref c_BadRow) (.ref c_BadTrains) = some false) {f : Addr} {fd : FuncData} (F : FunD K "_law_told" "_law_told" (defArgs s_told) (defBody s_told) (defScope s_told) [] [] f fd) :
    FnOk P w K mg base CX0 20 f fd ["value", "wide"] (spTold15 K c_Row c_BadTrains c_BadRow) := by
  have D : ∀ (cdv : Value) (A : Around) (outer : List Env) (s : Shared) (H : Hp) (vs : List V) (Q : VK) (E : XK), Room 19 (A.deeper (envOfC "_law_told" (defScope s_told) s.heap.objs.size f cdv)) → (spTold15 K c_Row c_BadTrains c_BadRow) vs H Q E →
      ∃ t, PSs (cxOf CX0 P w K mg base ["value", "wide", "caught", "error"] "_law_told" (defScope s_told) f cdv A outer s H E) (defBody s_told) t ∧ t { nx := fun _ H' => Q .non H', rt := Q } (start ["value", "wide", "caught", "error"] vs) H := by
    intro cdv A outer s H vs Q E hr h
    refine ⟨t_told15 K c_BadRow c_BadTrains c_Row c_ScoopError, PSs.nox ?_, pure_told15 Z_BadRow Z_BadTrains Z_no vs H Q E h⟩
    exact pss_cons (ps_set (i := 2) sc_told.nd rfl (Or.inl rfl) (pe_non))
      (pss_cons (ps_try_keepH (i := 3) (j := 2) (tb := fun W => tDrop (tCallS (spRowOfX K c_Row c_BadTrains c_BadRow) (WE W) (tCons (tVar 0) (tCons (tVar 1) (tNil))))) (Wout := fun _ _ _ _ => False) rfl rfl rfl sc_told.nd rfl rfl rfl rfl ⟨rfl, by decide, .inl T.g_ScoopError⟩ takes0 (fun W pn xe tk _ => pss_one (ps_expr (pe_kS C_row_of hr (by decide) (by exact rfl) (fun σ => passAt tk σ) (pa_cons (pv 0) (pa_cons (pv 1) (pa_nil)))))) (fun _ _ => rfl)) (pss_cons (ps_if (pt_cmpR op_isN (pv 2) (pe_non) (nomark _))
      (pss_one (ps_ret (pe_non)))
      (pss_nil))
      (pss_cons (ps_if (pt_val (pe_callB (cr_or cr_isH cr_isHD) (by rfl) T.n_isinstance PyProof.Rows.boot_isinstance (pa_cons (pv 2) (pa_cons (pe_gl (by rfl) ⟨_, T.g_BadTrains, rfl⟩) (pa_nil)))))
      (pss_one (ps_ret (pe_str)))
      (pss_nil))
      (pss_one (ps_ret (pe_ifExp (pt_val (pe_callB (cr_or cr_isH cr_isHD) (by rfl) T.n_isinstance PyProof.Rows.boot_isinstance (pa_cons (pv 2) (pa_cons (pe_gl (by rfl) ⟨_, T.g_BadRow, rfl⟩) (pa_nil))))) (pe_xfH (pv 2)) (pe_str)))))))
  exact F.ok sc_told (fun vs H Q E h => by
    repeat (first | (obtain ⟨rfl, _⟩ := h; rfl) | obtain ⟨_, h⟩ := h)) D
theorem dfn_bent (T : Tx K mg c_Row c_BadNumber c_BadCapacity c_BadRow c_BadTrains c_ScoopError) (C_take : Kn P w K mg base CX0 2 "_law_take" ["state", "size"] spTake) (C_pick : Kn P w K mg base CX0 3 "_law_pick" ["state", "some"] (spPick K)) {f : Addr} {fd : FuncData} (F : FunD K "_law_bent" "_law_bent" (defArgs s_bent) (defBody s_bent) (defScope s_bent) [] [] f fd) :
    FnOk P w K mg base CX0 4 f fd ["state", "some"] (spBent15 K) := by
  have D : ∀ (cdv : Value) (A : Around) (outer : List Env) (s : Shared) (H : Hp) (vs : List V) (Q : VK) (E : XK), Room 3 (A.deeper (envOfC "_law_bent" (defScope s_bent) s.heap.objs.size f cdv)) → (spBent15 K) vs H Q E →
      ∃ t, PSs (cxOf CX0 P w K mg base ["state", "some", "at", "size", "offset", "odd"] "_law_bent" (defScope s_bent) f cdv A outer s H E) (defBody s_bent) t ∧ t { nx := fun _ H' => Q .non H', rt := Q } (start ["state", "some", "at", "size", "offset", "odd"] vs) H := by
    intro cdv A outer s H vs Q E hr h
    refine ⟨t_bent15 K, PSs.nox ?_, pure_bent15 vs H Q E h⟩
    exact pss_cons (ps_if (PW.pt (pw_or (pt_cmpR (op_eqD hr.units) (pv 1) (pe_lst (pa_nil)) (nomark _)) (pw_or1 (pt_cmpR op_eq (pe_k C_take hr (by decide) rfl pass0 (pa_cons (pv 0) (pa_cons (pe_int) (pa_nil)))) (pe_int) (nomark _)))))
      (pss_one (ps_ret (pe_k C_pick hr (by decide) rfl pass0 (pa_cons (pv 0) (pa_cons (pe_lst (pa_cons (pe_non) (pa_cons (pe_int) (pa_cons (pe_dnewK) (pa_cons (pe_str) (pa_cons (pe_lst (pa_cons (pe_non) (pa_nil))) (pa_cons (pe_lst (pa_cons (pe_tup (pa_nil)) (pa_nil))) (pa_cons (pe_lst (pa_cons (pe_tup (pa_cons (pe_int) (pa_nil))) (pa_nil))) (pa_cons (pe_lst (pa_cons (pe_tup (pa_cons (pe_int) (pa_cons (pe_int) (pa_cons (pe_int) (pa_nil))))) (pa_nil))) (pa_cons (pe_lst (pa_cons (pe_lst (pa_cons (pe_int) (pa_cons (pe_int) (pa_nil)))) (pa_nil))) (pa_cons (pe_lst (pa_cons (pe_tup (pa_cons (pe_int) (pa_cons (pe_int) (pa_nil)))) (pa_nil))) (pa_cons (pe_lst (pa_cons (pe_tup (pa_cons (pe_int) (pa_cons (pe_int) (pa_nil)))) (pa_nil))) (pa_nil))))))))))))) (pa_nil))))))
      (pss_nil))
      (pss_cons (ps_set (i := 2) sc_bent.nd rfl (Or.inl rfl) (pe_k C_take hr (by decide) rfl pass0 (pa_cons (pv 0) (pa_cons (pe_callB call_len_seq (by rfl) T.n_len PySem.boot_len (pa_cons (pv 1) (pa_nil))) (pa_nil)))))
      (pss_cons (ps_asg (pe_ix ix_list (pv 1) (pv 2) (fun _ _ => rfl)) (pg_tup rfl (pgs_cons (pg_name (i := 3) sc_bent.nd rfl (Or.inl rfl)) (pgs_cons (pg_name (i := 4) sc_bent.nd rfl (Or.inl rfl)) (pgs_nil)))))
      (pss_cons (ps_set (i := 5) sc_bent.nd rfl (Or.inl rfl) (pe_lst (pa_cons (pe_tup (pa_cons (pe_int) (pa_cons (pv 4) (pa_nil)))) (pa_cons (pe_tup (pa_cons (pe_un un_neg (pe_int)) (pa_cons (pv 4) (pa_nil)))) (pa_cons (pe_tup (pa_cons (pe_bl) (pa_cons (pv 4) (pa_nil)))) (pa_cons (pe_tup (pa_cons (pv 3) (pa_cons (pe_bl) (pa_nil)))) (pa_cons (pe_tup (pa_cons (pv 3) (pa_cons (pe_non) (pa_nil)))) (pa_cons (pe_tup (pa_cons (pe_callTy call_str_int (by rfl) T.n_str (by decide +kernel) (pa_cons (pv 3) (pa_nil))) (pa_cons (pv 4) (pa_nil)))) (pa_cons (pe_lst (pa_cons (pv 3) (pa_cons (pv 4) (pa_nil)))) (pa_nil))))))))))
      (pss_one (ps_ret (pe_op op_cat (pe_op op_cat (pe_slice sl_list (pv 1) (po_none) (po_some (pv 2))) (pe_lst (pa_cons (pe_k C_pick hr (by decide) rfl pass0 (pa_cons (pv 0) (pa_cons (pe_op op_cat (pv 5) (pe_lst (pa_cons (pe_tup (pa_cons (pe_int) (pa_cons (pv 4) (pa_nil)))) (pa_cons (pe_tup (pa_cons (pe_op op_add (pv 3) (pe_int)) (pa_cons (pv 4) (pa_nil)))) (pa_cons (pe_tup (pa_cons (pv 3) (pa_cons (pe_op op_add (pv 4) (pe_int)) (pa_nil)))) (pa_nil)))))) (pa_nil)))) (pa_nil)))) (pe_slice sl_list (pv 1) (po_some (pe_op op_add (pv 2) (pe_int))) (po_none))))))))
  exact F.ok sc_bent (fun vs H Q E h => by
    repeat (first | (obtain ⟨rfl, _⟩ := h; rfl) | obtain ⟨_, h⟩ := h)) D
theorem dfn_law (T : Tx K mg c_Row c_BadNumber c_BadCapacity c_BadRow c_BadTrains c_ScoopError) (C_begun : Kn P w K mg base CX0 1 "_law_begun" ["script"] (spBegun K)) (C_list : Kn P w K mg base CX0 4 "_law_list" ["state"] (spList15 K)) (C_sizes : Kn P w K mg base CX0 4 "_law_sizes" ["state", "most"] (spSizes K)) (C_take : Kn P w K mg base CX0 2 "_law_take" ["state", "size"] spTake) (C_pick : Kn P w K mg base CX0 3 "_law_pick" ["state", "some"] (spPick K)) (C_crowd : Kn P w K mg base CX0 4 "_law_crowd" ["state"] (spCrowd15 K)) (C_shuffled : Kn P w K mg base CX0 3 "_law_shuffled" ["state", "some"] (spShuffled K)) (C_boxes : Kn P w K mg base CX0 4 "_law_boxes" ["state", "sizes", "most"] (spBoxes K)) (C_made : Kn P w K mg base CX0 7 "_law_made" ["boxes", "sizes"] (spMade K c_Row)) (C_bent : Kn P w K mg base CX0 4 "_law_bent" ["state", "some"] (spBent15 K)) (C_lare_trains : Kn P w K mg base CX0 1 "_law_are_trains" ["value"] (spAreTr15 K)) (C_told : Kn P w K mg base CX0 20 "_law_told" ["value", "wide"] (spTold15 K c_Row c_BadTrains c_BadRow)) (C_row_of : Kn P w K mg base (L2.CX P w) 13 "row_of" ["trains", "capacities"] (spRowOfX K c_Row c_BadTrains c_BadRow)) (C_trains : Kn P w K mg base CX0 13 "trains" ["row"] (spTrains K c_Row)) (C_row_of_kw : KnK P w K mg base (L2.CX P w) 13 "row_of" ["trains", "capacities"] (spRowOfX K c_Row c_BadTrains c_BadRow) 0 ["capacities", "trains"] (fun vs zs => gkw_row_of vs zs)) (C_total : C8.Met P w K mg base 1 c_Row "total" (spTotal K c_Row) []) (C_is_plain : C8.Met P w K mg base 1 c_Row "is_plain" (spIsPlain K c_Row) []) (C_capacities : Prp P w K mg base 1 c_Row "capacities" (spCapacities K c_Row)) (C_eq : EqM P w K mg base 1 c_Row) {aR : Addr} (C_row_of1 : KnD P w K mg base (L2.CX P w) 13 "row_of" ["trains", "capacities"] (spRowOfX K c_Row c_BadTrains c_BadRow) [.ref aR]) (hER : BareK K aR []) {f : Addr} {fd : FuncData} (F : FunD K "law" "law" (defArgs s_law) (defBody s_law) (defScope s_law) [] [] f fd) :
    FnG P w K mg base CX0 24 f fd ["script"] (spLaw K) := by
  have D : ∀ (cdv : Value) (A : Around) (outer : List Env) (s : Shared) (H : Hp) (vs : List V) (Q : VK) (E : XK), Gs A → Room 23 (A.deeper (envOfC "law" (defScope s_law) s.heap.objs.size f cdv)) → (spLaw K) vs H Q E →
      ∃ t, PSs (cxOf CX0 P w K mg base ["script", "state", "turn", "some", "sizes", "line", "wide", "handed", "told", "one", "others", "made", "bad", "odd", "due"] "law" (defScope s_law) f cdv A outer s H E) (defBody s_law) t ∧ t { nx := fun _ H' => Q .non H', rt := Q } (start ["script", "state", "turn", "some", "sizes", "line", "wide", "handed", "told", "one", "others", "made", "bad", "odd", "due"] vs) H := by
    intro cdv A outer s H vs Q E hgs hr h
    refine ⟨t_law15 K aR c_Row c_BadTrains c_BadRow, PSs.nox ?_, pure_law15 hER vs H Q E h⟩
    exact pss_cons (ps_set (i := 1) sc_law.nd rfl (Or.inl rfl) (pe_k C_begun hr (by decide) rfl pass0 (pa_cons (pv 0) (pa_nil))))
      (pss_cons (ps_for PassesOwn.never rfl (pi_range1 rfl T.n_range (pa_cons (pe_op op_add (pe_int) (pe_callB (call_min2 rfl) (by rfl) T.n_min (by decide +kernel) (pa_cons (pe_callB call_len_seq (by rfl) T.n_len PySem.boot_len (pa_cons (pv 0) (pa_nil))) (pa_cons (pe_int) (pa_nil))))) (pa_nil))) (pg_name (i := 2) sc_law.nd rfl (Or.inl rfl))
      (pss_cons (ps_par (by rfl) sc_law.nd rfl rfl (by decide) rfl rfl (pa_cons (pe_k C_list hr (by decide) rfl pass0 (pa_cons (pv 1) (pa_nil))) (pa_cons (pe_k C_sizes hr (by decide) rfl pass0 (pa_cons (pv 1) (pa_cons (pe_int) (pa_nil)))) (pa_nil))) (by rfl))
      (pss_cons (ps_if (pt_cmpR op_eq (pe_k C_take hr (by decide) rfl pass0 (pa_cons (pv 1) (pa_cons (pe_int) (pa_nil)))) (pe_int) (nomark _))
      (pss_one (ps_set (i := 3) sc_law.nd rfl (Or.inl rfl) (pe_k C_crowd hr (by decide) rfl pass0 (pa_cons (pv 1) (pa_nil)))))
      (pss_nil))
      (pss_cons (ps_par (by rfl) sc_law.nd rfl rfl (by decide) rfl rfl (pa_cons (pe_k C_shuffled hr (by decide) rfl pass0 (pa_cons (pv 1) (pa_cons (pv 3) (pa_nil)))) (pa_cons (pe_k C_shuffled hr (by decide) rfl pass0 (pa_cons (pv 1) (pa_cons (LiI.pe_listItems rfl (pv 4) (by rfl) T.n_list (by decide +kernel)) (pa_nil)))) (pa_nil))) (by rfl))
      (pss_cons (ps_set (i := 7) sc_law.nd rfl (Or.inl rfl) (pe_callB (call_reprD hgs hr.units) (by rfl) T.n_repr (by decide +kernel) (pa_cons (pe_tup (pa_cons (pv 5) (pa_cons (pv 6) (pa_nil)))) (pa_nil))))
      (pss_cons (ps_set (i := 8) sc_law.nd rfl (Or.inl rfl) (pe_k C_row_of hr (by decide) rfl passL (pa_cons (pv 5) (pa_cons (pv 6) (pa_nil)))))
      (pss_cons (ps_if (PW.pt (pw_or (pt_cmpR (op_neD hr.units) (pe_k C_trains hr (by decide) rfl pass0 (pa_cons (pv 8) (pa_nil))) (pe_callB (cr_or cr_sortedPO cr_sortedPT) (by rfl) T.n_sorted (by decide +kernel) (pa_cons (pv 3) (pa_nil))) (nomark _)) (pw_or (pt_cmpR (op_neD hr.units) (pe_pr C_capacities hr (by decide) (pv 8)) (pe_tupItems rfl (pv 4) (by rfl) T.n_tuple (by decide +kernel)) (nomark _)) (pw_or1 (pt_cmpR op_ne (pe_callB (call_reprD hgs hr.units) (by rfl) T.n_repr (by decide +kernel) (pa_cons (pe_tup (pa_cons (pv 5) (pa_cons (pv 6) (pa_nil)))) (pa_nil))) (pv 7) (nomark _))))))
      (pss_one (ps_ret (pe_bl)))
      (pss_nil))
      (pss_cons (ps_if (pt_cmpR op_ne (C8.pe_mt0 C_total hr (by decide) (pv 8)) (pe_callB (cr_sum rfl) (by rfl) T.n_sum (by decide +kernel) (pa_cons (pe_lc (own := [("one", 9)]) (g := gName 9) (tt := tYes) rfl sc_law.nd (pi_list (pv 3)) (blkOk_by (own := [("one", 9)]) (N := ["script", "state", "turn", "some", "sizes", "line", "wide", "handed", "told", "one", "others", "made", "bad", "odd", "due"]) (sc := defScope s_law) (by decide +kernel)) (fun _ _ _ _ _ => pg_name (i := 9) sc_law.nd rfl (Or.inl rfl)) (fun _ _ _ _ _ => pts_nil) (fun _ _ _ _ _ => pe_ix ix_tup (pv 9) (pe_int) (fun _ _ => rfl))) (pa_nil))) (nomark _))
      (pss_one (ps_ret (pe_bl)))
      (pss_nil))
      (pss_cons (ps_if (PW.pt (pw_or (pt_cmpR (op_neR C_eq hr (by decide)) (pe_kK1 C_row_of_kw hr (by decide) (by exact rfl) (fun σ pins H s e s2 => passL pins σ H s e s2) (pk_cons (pe_callTy cr_tupB (by rfl) T.n_tuple (by decide +kernel) (pa_cons (pv 6) (pa_nil))) (pk_cons (pe_callTy cr_tupB (by rfl) T.n_tuple (by decide +kernel) (pa_cons (pv 5) (pa_nil))) (pk_nil)))) (pv 8) (nomark _)) (pw_or1 (pt_cmpR (op_neD hr.units) (pe_k C_trains hr (by decide) rfl pass0 (pa_cons (pe_kD C_row_of1 hr (by decide) rfl passL (pa_cons (pv 5) (pa_nil))) (pa_nil))) (pe_callB (cr_or cr_sortedPO cr_sortedPT) (by rfl) T.n_sorted (by decide +kernel) (pa_cons (pv 3) (pa_nil))) (nomark _)))))
      (pss_one (ps_ret (pe_bl)))
      (pss_nil))
      (pss_cons (ps_if (PW.pt (pw_or (pt_not (pt_val (C8.pe_mt0 C_is_plain hr (by decide) (pe_kD C_row_of1 hr (by decide) rfl passL (pa_cons (pv 5) (pa_nil)))))) (pw_or1 (pt_cmpR (op_neR C_eq hr (by decide)) (pe_kD C_row_of1 hr (by decide) rfl passL (pa_cons (pv 5) (pa_nil))) (pe_k C_row_of hr (by decide) rfl passL (pa_cons (pv 5) (pa_cons (pe_tup0) (pa_nil)))) (nomark _)))))
      (pss_one (ps_ret (pe_bl)))
      (pss_nil))
      (pss_cons (ps_set (i := 10) sc_law.nd rfl (Or.inl rfl) (pe_k C_sizes hr (by decide) rfl pass0 (pa_cons (pv 1) (pa_cons (pe_int) (pa_nil)))))
      (pss_cons (ps_set (i := 11) sc_law.nd rfl (Or.inl rfl) (pe_k C_made hr (by decide) rfl pass0 (pa_cons (pe_k C_boxes hr (by decide) rfl pass0 (pa_cons (pv 1) (pa_cons (pv 10) (pa_cons (pe_int) (pa_nil))))) (pa_cons (pv 10) (pa_nil)))))
      (pss_cons (ps_if (pt_cmpR (op_neR C_eq hr (by decide)) (pe_k C_row_of hr (by decide) rfl passL (pa_cons (pe_k C_trains hr (by decide) rfl pass0 (pa_cons (pv 11) (pa_nil))) (pa_cons (pe_pr C_capacities hr (by decide) (pv 11)) (pa_nil)))) (pv 11) (nomark _))
      (pss_one (ps_ret (pe_bl)))
      (pss_nil))
      (pss_cons (ps_set (i := 12) sc_law.nd rfl (Or.inl rfl) (pe_k C_bent hr (by decide) rfl pass0 (pa_cons (pv 1) (pa_cons (pv 3) (pa_nil)))))
      (pss_cons (ps_set (i := 13) sc_law.nd rfl (Or.inl rfl) (pe_k C_pick hr (by decide) rfl pass0 (pa_cons (pv 1) (pa_cons (pe_lst (pa_cons (pe_non) (pa_cons (pe_lst (pa_cons (pe_tup (pa_cons (pe_int) (pa_cons (pe_int) (pa_nil)))) (pa_nil))) (pa_cons (pe_lst (pa_cons (pe_tup (pa_cons (pe_int) (pa_cons (pe_int) (pa_nil)))) (pa_cons (pe_tup (pa_cons (pe_int) (pa_cons (pe_int) (pa_nil)))) (pa_nil)))) (pa_cons (pe_lst (pa_cons (pe_tup (pa_cons (pe_int) (pa_cons (pe_int) (pa_nil)))) (pa_nil))) (pa_cons (pe_int) (pa_cons (pe_dnewK) (pa_nil)))))))) (pa_nil)))))
      (pss_cons (ps_set (i := 14) sc_law.nd rfl (Or.inl rfl) (pe_ifExp (pt_val (pe_k C_lare_trains hr (by decide) rfl pass0 (pa_cons (pv 12) (pa_nil)))) (pe_non) (pe_str)))
      (pss_one (ps_if (PW.pt (pw_or (pt_cmpR op_ne (pe_k C_told hr (by decide) rfl pass0 (pa_cons (pv 12) (pa_cons (pe_tup0) (pa_nil)))) (pv 14) (nomark _)) (pw_or1 (pt_cmpR op_ne (pe_k C_told hr (by decide) rfl pass0 (pa_cons (pv 12) (pa_cons (pv 13) (pa_nil)))) (pe_orT (pv 14) (pe_one pe_str)) (nomark _)))))
      (pss_one (ps_ret (pe_bl)))
      (pss_nil)))))))))))))))))))
      (pss_one (ps_ret (pe_bl))))
  exact okG F sc_law (fun vs H Q E h => by
    repeat (first | (obtain ⟨rfl, _⟩ := h; rfl) | obtain ⟨_, h⟩ := h)) D
end
abbrev s_BadRow_init : Stmt := inClass (topS 2) 0
def e_BadRow : SupD := ⟨"BadRow", "field", "field", defArgs s_BadRow_init, defBody s_BadRow_init, defScope s_BadRow_init, "/claim/cut.py"⟩
def supDs : List SupD := [e_BadRow]
def d_is_integer : He.DefD := ⟨("is_integer", none), "is_integer", "is_integer", defArgs s_is_integer, defBody s_is_integer, defScope s_is_integer, [], []⟩
def d_is_between : He.DefD := ⟨("is_between", none), "is_between", "is_between", defArgs s_is_between, defBody s_is_between, defScope s_is_between, [], []⟩
def d_is_pair : He.DefD := ⟨("is_pair", none), "is_pair", "is_pair", defArgs s_is_pair, defBody s_is_pair, defScope s_is_pair, [], []⟩
def d_are_pairs : He.DefD := ⟨("are_pairs", none), "are_pairs", "are_pairs", defArgs s_are_pairs, defBody s_are_pairs, defScope s_are_pairs, [], []⟩
def d_is_wide_box : He.DefD := ⟨("_is_wide_box", none), "_is_wide_box", "_is_wide_box", defArgs s_is_wide_box, defBody s_is_wide_box, defScope s_is_wide_box, [], []⟩
def d_are_capacities : He.DefD := ⟨("_are_capacities", none), "_are_capacities", "_are_capacities", defArgs s_are_capacities, defBody s_are_capacities, defScope s_are_capacities, [], []⟩
def d_are_contents : He.DefD := ⟨("_are_contents", none), "_are_contents", "_are_contents", defArgs s_are_contents, defBody s_are_contents, defScope s_are_contents, [], []⟩
def d_is_row_like : He.DefD := ⟨("is_row_like", none), "is_row_like", "is_row_like", defArgs s_is_row_like, defBody s_is_row_like, defScope s_is_row_like, [], []⟩
def d_Row_init : He.DefD := ⟨("Row", some "__init__"), "__init__", "Row.__init__", defArgs s_Row_init, defBody s_Row_init, defScope s_Row_init, [.adr (He.dflAt ("Row", some "__init__") 0), .adr (He.dflAt ("Row", some "__init__") 1)], []⟩
def d_Row_contents : He.DefD := ⟨("Row", some "contents"), "contents", "Row.contents", defArgs s_Row_contents, defBody s_Row_contents, defScope s_Row_contents, [], []⟩
def d_Row_capacities : He.DefD := ⟨("Row", some "capacities"), "capacities", "Row.capacities", defArgs s_Row_capacities, defBody s_Row_capacities, defScope s_Row_capacities, [], []⟩
def d_Row_held : He.DefD := ⟨("Row", some "held"), "held", "Row.held", defArgs s_Row_held, defBody s_Row_held, defScope s_Row_held, [], []⟩
def d_Row_capacity : He.DefD := ⟨("Row", some "capacity"), "capacity", "Row.capacity", defArgs s_Row_capacity, defBody s_Row_capacity, defScope s_Row_capacity, [], []⟩
def d_Row_is_plain : He.DefD := ⟨("Row", some "is_plain"), "is_plain", "Row.is_plain", defArgs s_Row_is_plain, defBody s_Row_is_plain, defScope s_Row_is_plain, [], []⟩
def d_Row_total : He.DefD := ⟨("Row", some "total"), "total", "Row.total", defArgs s_Row_total, defBody s_Row_total, defScope s_Row_total, [], []⟩
def d_Row_eq : He.DefD := ⟨("Row", some "__eq__"), "__eq__", "Row.__eq__", defArgs s_Row_eq, defBody s_Row_eq, defScope s_Row_eq, [], []⟩
def d_is_plain_row : He.DefD := ⟨("is_plain_row", none), "is_plain_row", "is_plain_row", defArgs s_is_plain_row, defBody s_is_plain_row, defScope s_is_plain_row, [], []⟩
def d_is_capacity : He.DefD := ⟨("is_capacity", none), "is_capacity", "is_capacity", defArgs s_is_capacity, defBody s_is_capacity, defScope s_is_capacity, [], []⟩
def d_handled : He.DefD := ⟨("handled", none), "handled", "handled", defArgs s_handled, defBody s_handled, defScope s_handled, [], []⟩
def d_passed : He.DefD := ⟨("passed", none), "passed", "passed", defArgs s_passed, defBody s_passed, defScope s_passed, [], []⟩
def d_steps_from : He.DefD := ⟨("_steps_from", none), "_steps_from", "_steps_from", defArgs s_steps_from, defBody s_steps_from, defScope s_steps_from, [], []⟩
def d_trace : He.DefD := ⟨("trace", none), "trace", "trace", defArgs s_trace, defBody s_trace, defScope s_trace, [], []⟩
def d_left_by : He.DefD := ⟨("_left_by", none), "_left_by", "_left_by", defArgs s_left_by, defBody s_left_by, defScope s_left_by, [], []⟩
def d_sweep : He.DefD := ⟨("sweep", none), "sweep", "sweep", defArgs s_sweep, defBody s_sweep, defScope s_sweep, [], []⟩
def d_mirrored : He.DefD := ⟨("mirrored", none), "mirrored", "mirrored", defArgs s_mirrored, defBody s_mirrored, defScope s_mirrored, [], []⟩
def d_unsweep : He.DefD := ⟨("unsweep", none), "unsweep", "unsweep", defArgs s_unsweep, defBody s_unsweep, defScope s_unsweep, [], []⟩
def d_without_box : He.DefD := ⟨("_without_box", none), "_without_box", "_without_box", defArgs s_without_box, defBody s_without_box, defScope s_without_box, [], []⟩
def d_plain_form : He.DefD := ⟨("plain_form", none), "plain_form", "plain_form", defArgs s_plain_form, defBody s_plain_form, defScope s_plain_form, [], []⟩
def d_with_box : He.DefD := ⟨("_with_box", none), "_with_box", "_with_box", defArgs s_with_box, defBody s_with_box, defScope s_with_box, [], []⟩
def d_with_capacities : He.DefD := ⟨("with_capacities", none), "with_capacities", "with_capacities", defArgs s_with_capacities, defBody s_with_capacities, defScope s_with_capacities, [], []⟩
def d_runs_in : He.DefD := ⟨("runs_in", none), "runs_in", "runs_in", defArgs s_runs_in, defBody s_runs_in, defScope s_runs_in, [], []⟩
def d_cut : He.DefD := ⟨("cut", none), "cut", "cut", defArgs s_cut, defBody s_cut, defScope s_cut, [], []⟩
def d_behind_runs : He.DefD := ⟨("_behind_runs", none), "_behind_runs", "_behind_runs", defArgs s_behind_runs, defBody s_behind_runs, defScope s_behind_runs, [], []⟩
def d_trains : He.DefD := ⟨("trains", none), "trains", "trains", defArgs s_trains, defBody s_trains, defScope s_trains, [], []⟩
def d_are_trains : He.DefD := ⟨("_are_trains", none), "_are_trains", "_are_trains", defArgs s_are_trains, defBody s_are_trains, defScope s_are_trains, [], []⟩
def d_uncut : He.DefD := ⟨("_uncut", none), "_uncut", "_uncut", defArgs s_uncut, defBody s_uncut, defScope s_uncut, [], []⟩
def d_row_of : He.DefD := ⟨("row_of", none), "row_of", "row_of", defArgs s_row_of, defBody s_row_of, defScope s_row_of, [.adr (He.dflAt ("row_of", none) 0)], []⟩
def d_begun : He.DefD := ⟨("_law_begun", none), "_law_begun", "_law_begun", defArgs s_begun, defBody s_begun, defScope s_begun, [], []⟩
def d_mixed : He.DefD := ⟨("_law_mixed", none), "_law_mixed", "_law_mixed", defArgs s_mixed, defBody s_mixed, defScope s_mixed, [], []⟩
def d_take : He.DefD := ⟨("_law_take", none), "_law_take", "_law_take", defArgs s_take, defBody s_take, defScope s_take, [], []⟩
def d_pick : He.DefD := ⟨("_law_pick", none), "_law_pick", "_law_pick", defArgs s_pick, defBody s_pick, defScope s_pick, [], []⟩
def d_shuffled : He.DefD := ⟨("_law_shuffled", none), "_law_shuffled", "_law_shuffled", defArgs s_shuffled, defBody s_shuffled, defScope s_shuffled, [], []⟩
def d_sizes : He.DefD := ⟨("_law_sizes", none), "_law_sizes", "_law_sizes", defArgs s_sizes, defBody s_sizes, defScope s_sizes, [], []⟩
def d_boxes : He.DefD := ⟨("_law_boxes", none), "_law_boxes", "_law_boxes", defArgs s_boxes, defBody s_boxes, defScope s_boxes, [], []⟩
def d_made : He.DefD := ⟨("_law_made", none), "_law_made", "_law_made", defArgs s_made, defBody s_made, defScope s_made, [], []⟩
def d_list : He.DefD := ⟨("_law_list", none), "_law_list", "_law_list", defArgs s_list, defBody s_list, defScope s_list, [], []⟩
def d_crowd : He.DefD := ⟨("_law_crowd", none), "_law_crowd", "_law_crowd", defArgs s_crowd, defBody s_crowd, defScope s_crowd, [], []⟩
def d_lare_trains : He.DefD := ⟨("_law_are_trains", none), "_law_are_trains", "_law_are_trains", defArgs s_lare_trains, defBody s_lare_trains, defScope s_lare_trains, [], []⟩
def d_told : He.DefD := ⟨("_law_told", none), "_law_told", "_law_told", defArgs s_told, defBody s_told, defScope s_told, [], []⟩
def d_bent : He.DefD := ⟨("_law_bent", none), "_law_bent", "_law_bent", defArgs s_bent, defBody s_bent, defScope s_bent, [], []⟩
def d_law : He.DefD := ⟨("law", none), "law", "law", defArgs s_law, defBody s_law, defScope s_law, [], []⟩
def fns : List He.DefD := [d_is_integer, d_is_between, d_is_pair, d_are_pairs, d_is_wide_box, d_are_capacities, d_are_contents, d_is_row_like, d_Row_init, d_Row_held, d_Row_capacity, d_Row_is_plain, d_Row_total, d_Row_eq, d_is_plain_row, d_is_capacity, d_handled, d_passed, d_steps_from, d_trace, d_left_by, d_sweep, d_mirrored, d_unsweep, d_without_box, d_plain_form, d_with_box, d_with_capacities, d_runs_in, d_cut, d_behind_runs, d_trains, d_are_trains, d_uncut, d_row_of, d_begun, d_mixed, d_take, d_pick, d_shuffled, d_sizes, d_boxes, d_made, d_list, d_crowd, d_lare_trains, d_told, d_bent, d_law]
def propDs : List PropD := [⟨"Row", "contents", d_Row_contents⟩, ⟨"Row", "capacities", d_Row_capacities⟩]
def fas : List He.Fa := [.glo "is_integer", .glo "is_between", .glo "is_pair", .glo "are_pairs", .glo "_is_wide_box", .glo "_are_capacities", .glo "_are_contents", .glo "is_row_like", .glo "is_plain_row", .glo "is_capacity", .glo "handled", .glo "passed", .glo "_steps_from", .glo "trace", .glo "_left_by", .glo "sweep", .glo "mirrored", .glo "unsweep", .glo "_without_box", .glo "plain_form", .glo "_with_box", .glo "with_capacities", .glo "runs_in", .glo "cut", .glo "_behind_runs", .glo "trains", .glo "_are_trains", .glo "_uncut", .glo "row_of", .glo "_law_begun", .glo "_law_mixed", .glo "_law_take", .glo "_law_pick", .glo "_law_shuffled", .glo "_law_sizes", .glo "_law_boxes", .glo "_law_made", .glo "_law_list", .glo "_law_crowd", .glo "_law_are_trains", .glo "_law_told", .glo "_law_bent", .glo "law", .glo "Row", .glo "BadNumber", .glo "BadCapacity", .glo "BadRow", .glo "BadTrains", .glo "ScoopError", .free "isinstance", .free "int", .free "bool", .free "list", .free "tuple", .free "all", .free "len", .free "dict", .free "sum", .free "sorted", .free "range", .free "min", .free "max", .free "repr", .free "super", .free "enumerate", .free "zip", .free "abs", .free "str", .int "GREATEST_CAPACITY" (99), .int "FIRST_WIDE_INDEX" (-60), .int "LAST_WIDE_INDEX" (60), .int "LEAST_WIDE_CAPACITY" (2), .int "GREATEST_WIDE_CAPACITY" (9), .int "MOST_WIDE_BOXES" (6), .int "MOST_ITEMS" (40), .exc "BadNumber", .exc "BadCapacity", .exc "BadTrains", .exm "BadRow" "ScoopError" true, .exm "BadTrains" "ScoopError" true, .cls "Row", .noat "Row" "_contents", .noat "Row" "_capacities", .noat "Row" "_count_at", .noat "Row" "_capacity_at", .mkr "Row", .meth "Row" "held", .meth "Row" "capacity", .meth "Row" "is_plain", .meth "Row" "total", .meth "Row" "__eq__"]
def more (K : PySem.W.Frag) : Bool := (rowKB K (He.ga K "Row")) && (emptyB K (He.dflAt ("Row", some "__init__") 1 K)) && (emptyB K (He.dflAt ("Row", some "__init__") 0 K)) && (excB K (He.ga K "BadTrains")) && (kitIs K (.ref (He.ga K "BadTrains")) (.ref (He.ga K "BadTrains")) true) && (kitIs K (.ref (He.ga K "BadTrains")) (.ref (He.ga K "BadRow")) false) && (kitIs K (.ref (He.ga K "BadTrains")) (.type "ValueError") true) && (excB K (He.ga K "BadRow")) && (kitIs K (.ref (He.ga K "BadRow")) (.ref (He.ga K "BadRow")) true) && (kitIs K (.ref (He.ga K "BadRow")) (.ref (He.ga K "BadTrains")) false) && (emptyB K (He.dflAt ("row_of", none) 0 K))
abbrev Rw : PySem.W.OpenRow := PySem.W.OpenLaw.row PySem.Challenge.rw_scooprow_k15_whole_rows_of_trains
abbrev hk : PySem.W.Hook := hookS 6 fas fns propDs supDs more
def ob (s : PySem.W.SharedT) : AlS := obsS 6 fas fns propDs supDs more (HandSHeadRun.getT s)
theorem ob_eq (s : PySem.W.SharedT) : ob s = hk.obs s.abs := obsS_eq (HandSHeadRun.getT_eq s)
def others0 : List Str := ["ScoopError", "BadRow", "BadIndex", "BadNumber", "BadCapacity", "BadTrains", "MOST_ITEMS", "MOST_WIDE_BOXES", "FIRST_WIDE_INDEX", "LAST_WIDE_INDEX", "LEAST_WIDE_CAPACITY", "GREATEST_WIDE_CAPACITY", "is_integer", "is_between", "is_pair", "are_pairs", "_is_wide_box", "_are_capacities", "_are_contents", "is_row_like", "Row", "is_plain_row", "GREATEST_CAPACITY", "is_capacity", "handled", "passed", "_steps_from", "trace", "_left_by", "sweep"]
def others1 : List Str := ["mirrored", "unsweep", "_without_box", "plain_form", "_with_box", "with_capacities", "runs_in", "cut", "_behind_runs", "trains", "_are_trains", "_uncut", "row_of", "_law_begun", "_law_mixed", "_law_take", "_law_pick", "_law_shuffled", "_law_sizes", "_law_boxes", "_law_made", "_law_list", "_law_crowd", "_law_are_trains", "_law_told", "_law_bent"]
def others : List Str := others0 ++ others1
theorem run (w : World) : HandSHeadRun.RunEq Rw (PySem.W.view Rw.prog [62]) hk ob 4000 others w := by
  intro os
  kernel_rfl
theorem facts {P : Program} {w : World} {K : PySem.W.Frag} {h : Heap} {mg : Str → Option Value} {f : Addr} (X : K.In h) (G : h.Ns mainGlobals mg) (hfa : mg ("law" : Str) = some (.ref f)) (c : SaysS fas fns propDs supDs more w K) (hPf : P.main.file = "/claim/cut.py") (hPt : (P.main.scope.names.lookup ("super" : Str)).isSome = false) :
    ∃ fd : FuncData, (∀ (s : Shared) (v : Value), BindsTo s fd ⟨[v], []⟩ [("script", v)]) ∧ ∀ base : Heap, K.In base → base.Ns mainGlobals mg → FnG P w K mg base CX0 24 f fd ["script"] (spLaw K) := by
  have c1 := c.t.d
  have cm := c.more
  unfold more at cm
  simp only [Bool.and_eq_true] at cm
  obtain ⟨⟨⟨⟨⟨⟨⟨⟨⟨⟨m_Z_Row, m_hE⟩, m_hE0⟩, m_ec_BadTrains⟩, m_kit_BadTrains⟩, m_kno_BadTrains⟩, m_kitV_BadTrains⟩, m_ec_BadRow⟩, m_kit_BadRow⟩, m_Z_no⟩, m_hER⟩ := cm
  have Z_Row := rowKB_ok m_Z_Row
  have hE := emptyB_ok m_hE
  have hE0 := emptyB_ok m_hE0
  have ec_BadTrains := excB_ok m_ec_BadTrains
  have kit_BadTrains := kitIs_ok m_kit_BadTrains
  have kno_BadTrains := kitIs_ok m_kno_BadTrains
  have kitV_BadTrains := kitIs_ok m_kitV_BadTrains
  have ec_BadRow := excB_ok m_ec_BadRow
  have kit_BadRow := kitIs_ok m_kit_BadRow
  have Z_no := kitIs_ok m_Z_no
  have hER := emptyB_ok m_hER
  obtain ⟨x_BadNumber, k_BadNumber, s_BadNumber, t_BadNumber⟩ := He.exc_ok (c1.fact 75 (f := .exc "BadNumber") rfl)
  obtain ⟨x_BadCapacity, k_BadCapacity, s_BadCapacity, t_BadCapacity⟩ := He.exc_ok (c1.fact 76 (f := .exc "BadCapacity") rfl)
  obtain ⟨x_BadTrains, k_BadTrains, s_BadTrains, t_BadTrains⟩ := He.exc_ok (c1.fact 77 (f := .exc "BadTrains") rfl)
  have T : Tx K mg (He.ga K "Row") (He.ga K "BadNumber") (He.ga K "BadCapacity") (He.ga K "BadRow") (He.ga K "BadTrains") (He.ga K "ScoopError") := ⟨He.free_ok X G (c1.fact 49 (f := .free "isinstance") rfl),
    He.free_ok X G (c1.fact 50 (f := .free "int") rfl),
    He.free_ok X G (c1.fact 51 (f := .free "bool") rfl),
    He.free_ok X G (c1.fact 52 (f := .free "list") rfl),
    He.free_ok X G (c1.fact 53 (f := .free "tuple") rfl),
    He.free_ok X G (c1.fact 54 (f := .free "all") rfl),
    He.free_ok X G (c1.fact 55 (f := .free "len") rfl),
    He.free_ok X G (c1.fact 56 (f := .free "dict") rfl),
    He.free_ok X G (c1.fact 57 (f := .free "sum") rfl),
    He.free_ok X G (c1.fact 58 (f := .free "sorted") rfl),
    He.free_ok X G (c1.fact 59 (f := .free "range") rfl),
    He.free_ok X G (c1.fact 60 (f := .free "min") rfl),
    He.free_ok X G (c1.fact 61 (f := .free "max") rfl),
    He.free_ok X G (c1.fact 62 (f := .free "repr") rfl),
    He.free_ok X G (c1.fact 63 (f := .free "super") rfl),
    He.free_ok X G (c1.fact 64 (f := .free "enumerate") rfl),
    He.free_ok X G (c1.fact 65 (f := .free "zip") rfl),
    He.free_ok X G (c1.fact 66 (f := .free "abs") rfl),
    He.free_ok X G (c1.fact 67 (f := .free "str") rfl),
    (let ⟨t, e⟩ := He.int_ok X G (c1.fact 68 (f := .int "GREATEST_CAPACITY" (99)) rfl); ⟨_, e, ⟨t, rfl⟩⟩),
    (let ⟨t, e⟩ := He.int_ok X G (c1.fact 69 (f := .int "FIRST_WIDE_INDEX" (-60)) rfl); ⟨_, e, ⟨t, rfl⟩⟩),
    (let ⟨t, e⟩ := He.int_ok X G (c1.fact 70 (f := .int "LAST_WIDE_INDEX" (60)) rfl); ⟨_, e, ⟨t, rfl⟩⟩),
    (let ⟨t, e⟩ := He.int_ok X G (c1.fact 71 (f := .int "LEAST_WIDE_CAPACITY" (2)) rfl); ⟨_, e, ⟨t, rfl⟩⟩),
    (let ⟨t, e⟩ := He.int_ok X G (c1.fact 72 (f := .int "GREATEST_WIDE_CAPACITY" (9)) rfl); ⟨_, e, ⟨t, rfl⟩⟩),
    (let ⟨t, e⟩ := He.int_ok X G (c1.fact 73 (f := .int "MOST_WIDE_BOXES" (6)) rfl); ⟨_, e, ⟨t, rfl⟩⟩),
    (let ⟨t, e⟩ := He.int_ok X G (c1.fact 74 (f := .int "MOST_ITEMS" (40)) rfl); ⟨_, e, ⟨t, rfl⟩⟩),
    He.glo_ok X G (c1.fact 43 (f := .glo "Row") rfl),
    He.glo_ok X G (c1.fact 44 (f := .glo "BadNumber") rfl),
    He.glo_ok X G (c1.fact 45 (f := .glo "BadCapacity") rfl),
    He.glo_ok X G (c1.fact 46 (f := .glo "BadRow") rfl),
    He.glo_ok X G (c1.fact 47 (f := .glo "BadTrains") rfl),
    He.glo_ok X G (c1.fact 48 (f := .glo "ScoopError") rfl),
    x_BadNumber,
    k_BadNumber,
    s_BadNumber,
    t_BadNumber,
    x_BadCapacity,
    k_BadCapacity,
    s_BadCapacity,
    t_BadCapacity,
    x_BadTrains,
    k_BadTrains,
    s_BadTrains,
    t_BadTrains⟩
  have L_Row := He.cls_ok (c1.fact 80 (f := .cls "Row") rfl)
  have R_Row : RowC K (He.ga K "Row") := ⟨L_Row, He.noat_ok (c1.fact 81 (f := .noat "Row" "_contents") rfl), He.noat_ok (c1.fact 82 (f := .noat "Row" "_capacities") rfl), He.noat_ok (c1.fact 83 (f := .noat "Row" "_count_at") rfl), He.noat_ok (c1.fact 84 (f := .noat "Row" "_capacity_at") rfl)⟩
  obtain ⟨fd_is_integer, F_is_integer⟩ := c1.def_ 0 (d := d_is_integer) rfl
  obtain ⟨fd_is_between, F_is_between⟩ := c1.def_ 1 (d := d_is_between) rfl
  obtain ⟨fd_is_pair, F_is_pair⟩ := c1.def_ 2 (d := d_is_pair) rfl
  obtain ⟨fd_are_pairs, F_are_pairs⟩ := c1.def_ 3 (d := d_are_pairs) rfl
  obtain ⟨fd_is_wide_box, F_is_wide_box⟩ := c1.def_ 4 (d := d_is_wide_box) rfl
  obtain ⟨fd_are_capacities, F_are_capacities⟩ := c1.def_ 5 (d := d_are_capacities) rfl
  obtain ⟨fd_are_contents, F_are_contents⟩ := c1.def_ 6 (d := d_are_contents) rfl
  obtain ⟨fd_is_row_like, F_is_row_like⟩ := c1.def_ 7 (d := d_is_row_like) rfl
  obtain ⟨fd_Row_init, F_Row_init⟩ := c1.def_ 8 (d := d_Row_init) rfl
  obtain ⟨fd_Row_held, F_Row_held⟩ := c1.def_ 9 (d := d_Row_held) rfl
  obtain ⟨fd_Row_capacity, F_Row_capacity⟩ := c1.def_ 10 (d := d_Row_capacity) rfl
  obtain ⟨fd_Row_is_plain, F_Row_is_plain⟩ := c1.def_ 11 (d := d_Row_is_plain) rfl
  obtain ⟨fd_Row_total, F_Row_total⟩ := c1.def_ 12 (d := d_Row_total) rfl
  obtain ⟨fd_Row_eq, F_Row_eq⟩ := c1.def_ 13 (d := d_Row_eq) rfl
  obtain ⟨fd_is_plain_row, F_is_plain_row⟩ := c1.def_ 14 (d := d_is_plain_row) rfl
  obtain ⟨fd_is_capacity, F_is_capacity⟩ := c1.def_ 15 (d := d_is_capacity) rfl
  obtain ⟨fd_handled, F_handled⟩ := c1.def_ 16 (d := d_handled) rfl
  obtain ⟨fd_passed, F_passed⟩ := c1.def_ 17 (d := d_passed) rfl
  obtain ⟨fd_steps_from, F_steps_from⟩ := c1.def_ 18 (d := d_steps_from) rfl
  obtain ⟨fd_trace, F_trace⟩ := c1.def_ 19 (d := d_trace) rfl
  obtain ⟨fd_left_by, F_left_by⟩ := c1.def_ 20 (d := d_left_by) rfl
  obtain ⟨fd_sweep, F_sweep⟩ := c1.def_ 21 (d := d_sweep) rfl
  obtain ⟨fd_mirrored, F_mirrored⟩ := c1.def_ 22 (d := d_mirrored) rfl
  obtain ⟨fd_unsweep, F_unsweep⟩ := c1.def_ 23 (d := d_unsweep) rfl
  obtain ⟨fd_without_box, F_without_box⟩ := c1.def_ 24 (d := d_without_box) rfl
  obtain ⟨fd_plain_form, F_plain_form⟩ := c1.def_ 25 (d := d_plain_form) rfl
  obtain ⟨fd_with_box, F_with_box⟩ := c1.def_ 26 (d := d_with_box) rfl
  obtain ⟨fd_with_capacities, F_with_capacities⟩ := c1.def_ 27 (d := d_with_capacities) rfl
  obtain ⟨fd_runs_in, F_runs_in⟩ := c1.def_ 28 (d := d_runs_in) rfl
  obtain ⟨fd_cut, F_cut⟩ := c1.def_ 29 (d := d_cut) rfl
  obtain ⟨fd_behind_runs, F_behind_runs⟩ := c1.def_ 30 (d := d_behind_runs) rfl
  obtain ⟨fd_trains, F_trains⟩ := c1.def_ 31 (d := d_trains) rfl
  obtain ⟨fd_are_trains, F_are_trains⟩ := c1.def_ 32 (d := d_are_trains) rfl
  obtain ⟨fd_uncut, F_uncut⟩ := c1.def_ 33 (d := d_uncut) rfl
  obtain ⟨fd_row_of, F_row_of⟩ := c1.def_ 34 (d := d_row_of) rfl
  obtain ⟨fd_begun, F_begun⟩ := c1.def_ 35 (d := d_begun) rfl
  obtain ⟨fd_mixed, F_mixed⟩ := c1.def_ 36 (d := d_mixed) rfl
  obtain ⟨fd_take, F_take⟩ := c1.def_ 37 (d := d_take) rfl
  obtain ⟨fd_pick, F_pick⟩ := c1.def_ 38 (d := d_pick) rfl
  obtain ⟨fd_shuffled, F_shuffled⟩ := c1.def_ 39 (d := d_shuffled) rfl
  obtain ⟨fd_sizes, F_sizes⟩ := c1.def_ 40 (d := d_sizes) rfl
  obtain ⟨fd_boxes, F_boxes⟩ := c1.def_ 41 (d := d_boxes) rfl
  obtain ⟨fd_made, F_made⟩ := c1.def_ 42 (d := d_made) rfl
  obtain ⟨fd_list, F_list⟩ := c1.def_ 43 (d := d_list) rfl
  obtain ⟨fd_crowd, F_crowd⟩ := c1.def_ 44 (d := d_crowd) rfl
  obtain ⟨fd_lare_trains, F_lare_trains⟩ := c1.def_ 45 (d := d_lare_trains) rfl
  obtain ⟨fd_told, F_told⟩ := c1.def_ 46 (d := d_told) rfl
  obtain ⟨fd_bent, F_bent⟩ := c1.def_ 47 (d := d_bent) rfl
  obtain ⟨fd_law, F_law⟩ := c1.def_ 48 (d := d_law) rfl
  obtain ⟨po_Row_contents, fd_Row_contents, F_Row_contents⟩ := c.p ⟨"Row", "contents", d_Row_contents⟩ (List.mem_of_getElem? (l := propDs) (i := 0) rfl)
  obtain ⟨po_Row_capacities, fd_Row_capacities, F_Row_capacities⟩ := c.p ⟨"Row", "capacities", d_Row_capacities⟩ (List.mem_of_getElem? (l := propDs) (i := 1) rfl)
  have e := hfa.symm.trans (He.glo_ok X G (c1.fact 42 (f := .glo "law") rfl))
  cases e
  have b := FunD.bindsA (ps := ["script"]) F_law fun _ _ _ _ _ _ us hl => match us, hl with | [_], _ => rfl
  refine ⟨fd_law, fun s v => b s [v] rfl, fun base _ _ => ?_⟩
  have Z_BadTrains : ErrN K (He.ga K "BadTrains") (He.ga K "BadRow") (He.ga K "ScoopError") := ⟨He.exm_ok (c1.fact 79 (f := .exm "BadTrains" "ScoopError" true) rfl), ec_BadTrains, kit_BadTrains, kno_BadTrains, kitV_BadTrains⟩
  have O_BadRow := c.s e_BadRow (List.mem_of_getElem? (l := supDs) (i := 0) rfl)
  have B_BadRow : SupS (defScope s_BadRow_init) "field" := ⟨rfl, rfl, rfl, rfl, rfl, rfl, rfl, by decide +kernel, by decide +kernel, by decide⟩
  have M_BadRow : ErrM P w K mg base "BadRow" (He.ga K "BadRow") "field" "field" := err_of (p := e_BadRow) O_BadRow hPf hPt rfl (fun env => ⟨_, rfl⟩) B_BadRow T.n_super T.g_BadRow rfl rfl (fun _ _ _ _ _ _ _ us hl => match us, hl with | [_, _], _ => rfl)
  have Z_BadRow : ErrK K (He.ga K "BadRow") (He.ga K "ScoopError") "field" := ⟨He.exm_ok (c1.fact 78 (f := .exm "BadRow" "ScoopError" true) rfl), ec_BadRow, kit_BadRow, O_BadRow.xf, O_BadRow.no⟩
  have G_is_integer := dfn_is_integer (P := P) (w := w) (base := base) T F_is_integer
  have C_is_integer : Kn P w K mg base CX0 1 "is_integer" ["value"] _ := ⟨_, _, G_is_integer, (He.glo_ok X G (c1.fact 0 (f := .glo "is_integer") rfl)), F_is_integer.kp, (FunD.bindsN F_is_integer fun _ _ _ _ _ _ us hl => match us, hl with | [_], _ => rfl)⟩
  have G_is_between := dfn_is_between (P := P) (w := w) (base := base) T C_is_integer F_is_between
  have C_is_between : Kn P w K mg base CX0 2 "is_between" ["value", "low", "high"] _ := ⟨_, _, G_is_between, (He.glo_ok X G (c1.fact 1 (f := .glo "is_between") rfl)), F_is_between.kp, (FunD.bindsN F_is_between fun _ _ _ _ _ _ us hl => match us, hl with | [_, _, _], _ => rfl)⟩
  have G_is_pair := dfn_is_pair (P := P) (w := w) (base := base) T C_is_integer F_is_pair
  have C_is_pair : Kn P w K mg base CX0 2 "is_pair" ["value"] _ := ⟨_, _, G_is_pair, (He.glo_ok X G (c1.fact 2 (f := .glo "is_pair") rfl)), F_is_pair.kp, (FunD.bindsN F_is_pair fun _ _ _ _ _ _ us hl => match us, hl with | [_], _ => rfl)⟩
  have G_are_pairs := dfn_are_pairs (P := P) (w := w) (base := base) T C_is_pair F_are_pairs
  have C_are_pairs : Kn P w K mg base CX0 3 "are_pairs" ["value"] _ := ⟨_, _, G_are_pairs, (He.glo_ok X G (c1.fact 3 (f := .glo "are_pairs") rfl)), F_are_pairs.kp, (FunD.bindsN F_are_pairs fun _ _ _ _ _ _ us hl => match us, hl with | [_], _ => rfl)⟩
  have G_is_wide_box := dfn_is_wide_box (P := P) (w := w) (base := base) T C_is_between F_is_wide_box
  have C_is_wide_box : Kn P w K mg base CX0 3 "_is_wide_box" ["index", "capacity"] _ := ⟨_, _, G_is_wide_box, (He.glo_ok X G (c1.fact 4 (f := .glo "_is_wide_box") rfl)), F_is_wide_box.kp, (FunD.bindsN F_is_wide_box fun _ _ _ _ _ _ us hl => match us, hl with | [_, _], _ => rfl)⟩
  have G_are_capacities := dfn_are_capacities (P := P) (w := w) (base := base) T C_are_pairs C_is_wide_box F_are_capacities
  have C_are_capacities : Kn P w K mg base CX0 4 "_are_capacities" ["value"] _ := ⟨_, _, G_are_capacities, (He.glo_ok X G (c1.fact 5 (f := .glo "_are_capacities") rfl)), F_are_capacities.kp, (FunD.bindsN F_are_capacities fun _ _ _ _ _ _ us hl => match us, hl with | [_], _ => rfl)⟩
  have G_are_contents := dfn_are_contents (P := P) (w := w) (base := base) T C_are_pairs F_are_contents
  have C_are_contents : Kn P w K mg base CX0 4 "_are_contents" ["value", "capacities"] _ := ⟨_, _, G_are_contents, (He.glo_ok X G (c1.fact 6 (f := .glo "_are_contents") rfl)), F_are_contents.kp, (FunD.bindsN F_are_contents fun _ _ _ _ _ _ us hl => match us, hl with | [_, _], _ => rfl)⟩
  have G_is_row_like := dfn_is_row_like (P := P) (w := w) (base := base) T C_are_capacities C_are_contents F_is_row_like
  have C_is_row_like : Kn P w K mg base CX0 6 "is_row_like" ["contents", "capacities"] _ := ⟨_, _, G_is_row_like, (He.glo_ok X G (c1.fact 7 (f := .glo "is_row_like") rfl)), F_is_row_like.kp, (FunD.bindsN F_is_row_like fun _ _ _ _ _ _ us hl => match us, hl with | [_, _], _ => rfl)⟩
  have G_Row_init := dfn_Row_init (P := P) (w := w) (base := base) T C_are_capacities C_are_contents R_Row F_Row_init
  obtain ⟨ds_Row, dv_Row, db_Row⟩ := FunD.binds1 (ps := ["self", "contents", "capacities"]) F_Row_init 3 2 (List.cons_ne_nil _ _) rfl fun _ _ _ _ _ _ _ us its h1 h2 => match us, its, h1, h2 with | [_, _, _], [_, _], _, _ => ⟨_, rfl, rfl⟩
  have C_Row : C8.Mak P w K mg base 5 "Row" (He.ga K "Row") _ [] := ⟨_, _, _, ds_Row, He.mkr_ok (c1.fact 85 (f := .mkr "Row") rfl), G_Row_init, He.glo_ok X G (c1.fact 43 (f := .glo "Row") rfl), db_Row, dv_Row⟩
  obtain ⟨ds_Row1, dv_Row1, db_Row1⟩ := FunD.binds1 (ps := ["self", "contents", "capacities"]) F_Row_init 2 1 (List.cons_ne_nil _ _) rfl fun _ _ _ _ _ _ _ us its h1 h2 => match us, its, h1, h2 with | [_, _], [_, _], _, _ => ⟨_, rfl, rfl⟩
  have C_Row1 : C8.Mak P w K mg base 5 "Row" (He.ga K "Row") _ [.ref (He.dflAt ("Row", some "__init__") 1 K)] := ⟨_, _, _, ds_Row1, He.mkr_ok (c1.fact 85 (f := .mkr "Row") rfl), G_Row_init, He.glo_ok X G (c1.fact 43 (f := .glo "Row") rfl), db_Row1, dv_Row1⟩
  obtain ⟨ds_Row0, dv_Row0, db_Row0⟩ := FunD.binds1 (ps := ["self", "contents", "capacities"]) F_Row_init 1 0 (List.cons_ne_nil _ _) rfl fun _ _ _ _ _ _ _ us its h1 h2 => match us, its, h1, h2 with | [_], [_, _], _, _ => ⟨_, rfl, rfl⟩
  have C_Row0 : C8.Mak P w K mg base 5 "Row" (He.ga K "Row") _ [.ref (He.dflAt ("Row", some "__init__") 0 K), .ref (He.dflAt ("Row", some "__init__") 1 K)] := ⟨_, _, _, ds_Row0, He.mkr_ok (c1.fact 85 (f := .mkr "Row") rfl), G_Row_init, He.glo_ok X G (c1.fact 43 (f := .glo "Row") rfl), db_Row0, dv_Row0⟩
  have G_Row_contents := dfn_Row_contents (P := P) (w := w) (base := base) T R_Row F_Row_contents
  have C_contents : Prp P w K mg base 1 (He.ga K "Row") "contents" _ := ⟨_, _, _, _, L_Row, po_Row_contents, G_Row_contents, (FunD.bindsN F_Row_contents fun _ _ _ _ _ _ us hl => match us, hl with | [_], _ => rfl)⟩
  have G_Row_capacities := dfn_Row_capacities (P := P) (w := w) (base := base) T R_Row F_Row_capacities
  have C_capacities : Prp P w K mg base 1 (He.ga K "Row") "capacities" _ := ⟨_, _, _, _, L_Row, po_Row_capacities, G_Row_capacities, (FunD.bindsN F_Row_capacities fun _ _ _ _ _ _ us hl => match us, hl with | [_], _ => rfl)⟩
  have G_Row_held := dfn_Row_held (P := P) (w := w) (base := base) T C_is_integer R_Row F_Row_held
  have C_held : C8.Met P w K mg base 2 (He.ga K "Row") "held" _ [] := ⟨_, _, _, [], L_Row, He.meth_ok (c1.fact 86 (f := .meth "Row" "held") rfl), G_Row_held, (FunD.bindsN F_Row_held fun _ _ _ _ _ _ us hl => match us, hl with | [_, _], _ => rfl), .nil⟩
  have G_Row_capacity := dfn_Row_capacity (P := P) (w := w) (base := base) T C_is_integer R_Row F_Row_capacity
  have C_capacity : C8.Met P w K mg base 2 (He.ga K "Row") "capacity" _ [] := ⟨_, _, _, [], L_Row, He.meth_ok (c1.fact 87 (f := .meth "Row" "capacity") rfl), G_Row_capacity, (FunD.bindsN F_Row_capacity fun _ _ _ _ _ _ us hl => match us, hl with | [_, _], _ => rfl), .nil⟩
  have G_Row_is_plain := dfn_Row_is_plain (P := P) (w := w) (base := base) T R_Row F_Row_is_plain
  have C_is_plain : C8.Met P w K mg base 1 (He.ga K "Row") "is_plain" _ [] := ⟨_, _, _, [], L_Row, He.meth_ok (c1.fact 88 (f := .meth "Row" "is_plain") rfl), G_Row_is_plain, (FunD.bindsN F_Row_is_plain fun _ _ _ _ _ _ us hl => match us, hl with | [_], _ => rfl), .nil⟩
  have G_Row_total := dfn_Row_total (P := P) (w := w) (base := base) T R_Row F_Row_total
  have C_total : C8.Met P w K mg base 1 (He.ga K "Row") "total" _ [] := ⟨_, _, _, [], L_Row, He.meth_ok (c1.fact 89 (f := .meth "Row" "total") rfl), G_Row_total, (FunD.bindsN F_Row_total fun _ _ _ _ _ _ us hl => match us, hl with | [_], _ => rfl), .nil⟩
  have G_Row_eq := dfn_Row_eq (P := P) (w := w) (base := base) T R_Row Z_Row F_Row_eq
  have C_eq : EqM P w K mg base 1 (He.ga K "Row") := ⟨_, _, _, G_Row_eq, He.meth_ok (c1.fact 90 (f := .meth "Row" "__eq__") rfl), Z_Row, (FunD.bindsN F_Row_eq fun _ _ _ _ _ _ us hl => match us, hl with | [_, _], _ => rfl)⟩
  have G_is_plain_row := dfn_is_plain_row (P := P) (w := w) (base := base) T C_is_plain R_Row Z_Row F_is_plain_row
  have C_is_plain_row : Kn P w K mg base CX0 2 "is_plain_row" ["value"] _ := ⟨_, _, G_is_plain_row, (He.glo_ok X G (c1.fact 8 (f := .glo "is_plain_row") rfl)), F_is_plain_row.kp, (FunD.bindsN F_is_plain_row fun _ _ _ _ _ _ us hl => match us, hl with | [_], _ => rfl)⟩
  have G_is_capacity := dfn_is_capacity (P := P) (w := w) (base := base) T C_is_between F_is_capacity
  have C_is_capacity : Kn P w K mg base CX0 3 "is_capacity" ["value"] _ := ⟨_, _, G_is_capacity, (He.glo_ok X G (c1.fact 9 (f := .glo "is_capacity") rfl)), F_is_capacity.kp, (FunD.bindsN F_is_capacity fun _ _ _ _ _ _ us hl => match us, hl with | [_], _ => rfl)⟩
  have G_handled := dfn_handled (P := P) (w := w) (base := base) T F_handled
  have C_handled : Kn P w K mg base CX0 1 "handled" ["capacity", "load", "box_capacity", "count"] _ := ⟨_, _, G_handled, (He.glo_ok X G (c1.fact 10 (f := .glo "handled") rfl)), F_handled.kp, (FunD.bindsN F_handled fun _ _ _ _ _ _ us hl => match us, hl with | [_, _, _, _], _ => rfl)⟩
  have G_passed := dfn_passed (P := P) (w := w) (base := base) T C_is_capacity C_is_between C_handled F_passed
  have C_passed : Kn P w K mg base (L2.CX P w) 4 "passed" ["capacity", "load", "box_capacity", "count"] _ := ⟨_, _, G_passed, (He.glo_ok X G (c1.fact 11 (f := .glo "passed") rfl)), F_passed.kp, (FunD.bindsN F_passed fun _ _ _ _ _ _ us hl => match us, hl with | [_, _, _, _], _ => rfl)⟩
  have G_steps_from := dfn_steps_from (P := P) (w := w) (base := base) T C_passed C_held C_capacity F_steps_from
  have C_steps_from : Kn P w K mg base CX0 6 "_steps_from" ["row", "capacity", "start"] _ := ⟨_, _, G_steps_from, (He.glo_ok X G (c1.fact 12 (f := .glo "_steps_from") rfl)), F_steps_from.kp, (FunD.bindsN F_steps_from fun _ _ _ _ _ _ us hl => match us, hl with | [_, _, _], _ => rfl)⟩
  have G_trace := dfn_trace (P := P) (w := w) (base := base) T C_is_capacity C_steps_from C_contents F_trace
  have C_trace : Kn P w K mg base (L2.CX P w) 7 "trace" ["row", "capacity"] _ := ⟨_, _, G_trace, (He.glo_ok X G (c1.fact 13 (f := .glo "trace") rfl)), F_trace.kp, (FunD.bindsN F_trace fun _ _ _ _ _ _ us hl => match us, hl with | [_, _], _ => rfl)⟩
  have G_left_by := dfn_left_by (P := P) (w := w) (base := base) T F_left_by
  have C_left_by : Kn P w K mg base CX0 1 "_left_by" ["steps"] _ := ⟨_, _, G_left_by, (He.glo_ok X G (c1.fact 14 (f := .glo "_left_by") rfl)), F_left_by.kp, (FunD.bindsN F_left_by fun _ _ _ _ _ _ us hl => match us, hl with | [_], _ => rfl)⟩
  have G_sweep := dfn_sweep (P := P) (w := w) (base := base) T C_trace C_left_by C_Row C_capacities F_sweep
  have C_sweep : Kn P w K mg base (L2.CX P w) 8 "sweep" ["row", "capacity"] _ := ⟨_, _, G_sweep, (He.glo_ok X G (c1.fact 15 (f := .glo "sweep") rfl)), F_sweep.kp, (FunD.bindsN F_sweep fun _ _ _ _ _ _ us hl => match us, hl with | [_, _], _ => rfl)⟩
  have G_mirrored := dfn_mirrored (P := P) (w := w) (base := base) T C_Row C_contents C_capacities F_mirrored
  have C_mirrored : Kn P w K mg base CX0 7 "mirrored" ["row"] _ := ⟨_, _, G_mirrored, (He.glo_ok X G (c1.fact 16 (f := .glo "mirrored") rfl)), F_mirrored.kp, (FunD.bindsN F_mirrored fun _ _ _ _ _ _ us hl => match us, hl with | [_], _ => rfl)⟩
  have G_unsweep := dfn_unsweep (P := P) (w := w) (base := base) T C_mirrored C_sweep F_unsweep
  have C_unsweep : Kn P w K mg base (L2.CX P w) 9 "unsweep" ["row", "capacity"] _ := ⟨_, _, G_unsweep, (He.glo_ok X G (c1.fact 17 (f := .glo "unsweep") rfl)), F_unsweep.kp, (FunD.bindsN F_unsweep fun _ _ _ _ _ _ us hl => match us, hl with | [_, _], _ => rfl)⟩
  have G_without_box := dfn_without_box (P := P) (w := w) (base := base) T C_unsweep C_Row C_contents F_without_box
  have C_without_box : Kn P w K mg base CX0 11 "_without_box" ["contents", "index", "capacity"] _ := ⟨_, _, G_without_box, (He.glo_ok X G (c1.fact 18 (f := .glo "_without_box") rfl)), F_without_box.kp, (FunD.bindsN F_without_box fun _ _ _ _ _ _ us hl => match us, hl with | [_, _, _], _ => rfl)⟩
  have G_plain_form := dfn_plain_form (P := P) (w := w) (base := base) T C_without_box C_contents C_capacities C_Row1 hE F_plain_form
  have C_plain_form : Kn P w K mg base CX0 12 "plain_form" ["row"] _ := ⟨_, _, G_plain_form, (He.glo_ok X G (c1.fact 19 (f := .glo "plain_form") rfl)), F_plain_form.kp, (FunD.bindsN F_plain_form fun _ _ _ _ _ _ us hl => match us, hl with | [_], _ => rfl)⟩
  have G_with_box := dfn_with_box (P := P) (w := w) (base := base) T C_sweep C_Row C_contents F_with_box
  have C_with_box : Kn P w K mg base CX0 11 "_with_box" ["contents", "index", "capacity"] _ := ⟨_, _, G_with_box, (He.glo_ok X G (c1.fact 20 (f := .glo "_with_box") rfl)), F_with_box.kp, (FunD.bindsN F_with_box fun _ _ _ _ _ _ us hl => match us, hl with | [_, _, _], _ => rfl)⟩
  have G_with_capacities := dfn_with_capacities (P := P) (w := w) (base := base) T C_is_plain_row C_is_row_like C_with_box C_Row C_contents M_BadRow F_with_capacities
  have C_with_capacities : Kn P w K mg base (L2.CX P w) 12 "with_capacities" ["row", "capacities"] _ := ⟨_, _, G_with_capacities, (He.glo_ok X G (c1.fact 21 (f := .glo "with_capacities") rfl)), F_with_capacities.kp, (FunD.bindsN F_with_capacities fun _ _ _ _ _ _ us hl => match us, hl with | [_, _], _ => rfl)⟩
  have G_runs_in := dfn_runs_in (P := P) (w := w) (base := base) T C_contents F_runs_in
  have C_runs_in : Kn P w K mg base CX0 3 "runs_in" ["row"] _ := ⟨_, _, G_runs_in, (He.glo_ok X G (c1.fact 22 (f := .glo "runs_in") rfl)), F_runs_in.kp, (FunD.bindsN F_runs_in fun _ _ _ _ _ _ us hl => match us, hl with | [_], _ => rfl)⟩
  have G_cut := dfn_cut (P := P) (w := w) (base := base) T C_is_plain_row C_runs_in C_Row1 hE M_BadRow F_cut
  have C_cut : Kn P w K mg base (L2.CX P w) 7 "cut" ["row"] _ := ⟨_, _, G_cut, (He.glo_ok X G (c1.fact 23 (f := .glo "cut") rfl)), F_cut.kp, (FunD.bindsN F_cut fun _ _ _ _ _ _ us hl => match us, hl with | [_], _ => rfl)⟩
  have G_behind_runs := dfn_behind_runs (P := P) (w := w) (base := base) T C_runs_in F_behind_runs
  have C_behind_runs : Kn P w K mg base CX0 4 "_behind_runs" ["row"] _ := ⟨_, _, G_behind_runs, (He.glo_ok X G (c1.fact 24 (f := .glo "_behind_runs") rfl)), F_behind_runs.kp, (FunD.bindsN F_behind_runs fun _ _ _ _ _ _ us hl => match us, hl with | [_], _ => rfl)⟩
  have G_trains := dfn_trains (P := P) (w := w) (base := base) T C_plain_form C_cut C_behind_runs C_contents F_trains
  have C_trains : Kn P w K mg base CX0 13 "trains" ["row"] _ := ⟨_, _, G_trains, (He.glo_ok X G (c1.fact 25 (f := .glo "trains") rfl)), F_trains.kp, (FunD.bindsN F_trains fun _ _ _ _ _ _ us hl => match us, hl with | [_], _ => rfl)⟩
  have G_are_trains := dfn_are_trains (P := P) (w := w) (base := base) T C_is_pair F_are_trains
  have C_are_trains : Kn P w K mg base CX0 3 "_are_trains" ["value"] _ := ⟨_, _, G_are_trains, (He.glo_ok X G (c1.fact 26 (f := .glo "_are_trains") rfl)), F_are_trains.kp, (FunD.bindsN F_are_trains fun _ _ _ _ _ _ us hl => match us, hl with | [_], _ => rfl)⟩
  have G_uncut := dfn_uncut (P := P) (w := w) (base := base) T C_contents C_Row1 hE F_uncut
  have C_uncut : Kn P w K mg base CX0 7 "_uncut" ["row", "offsets"] _ := ⟨_, _, G_uncut, (He.glo_ok X G (c1.fact 27 (f := .glo "_uncut") rfl)), F_uncut.kp, (FunD.bindsN F_uncut fun _ _ _ _ _ _ us hl => match us, hl with | [_, _], _ => rfl)⟩
  have G_row_of := dfn_row_of (P := P) (w := w) (base := base) T C_are_trains C_behind_runs C_uncut C_with_capacities C_Row0 hE0 hE F_row_of
  have C_row_of : Kn P w K mg base (L2.CX P w) 13 "row_of" ["trains", "capacities"] _ := ⟨_, _, G_row_of, (He.glo_ok X G (c1.fact 28 (f := .glo "row_of") rfl)), F_row_of.kp, (bindsFull (ps := ["trains", "capacities"]) F_row_of (List.cons_ne_nil _ _) fun _ _ _ _ _ _ _ us its h1 h2 => match us, its, h1, h2 with | [_, _], [_], _, _ => ⟨_, rfl, rfl⟩)⟩
  obtain ⟨ds_r1, dv_r1, db_r1⟩ := FunD.binds1 (ps := ["trains", "capacities"]) F_row_of 1 0 (List.cons_ne_nil _ _) rfl fun _ _ _ _ _ _ _ us its h1 h2 => match us, its, h1, h2 with | [_], [_], _, _ => ⟨_, rfl, rfl⟩
  have C_row_of1 : KnD P w K mg base (L2.CX P w) 13 "row_of" ["trains", "capacities"] _ [.ref (He.dflAt ("row_of", none) 0 K)] := ⟨_, _, ds_r1, G_row_of, (He.glo_ok X G (c1.fact 28 (f := .glo "row_of") rfl)), F_row_of.kp, db_r1, dv_r1⟩
  have C_row_of_kw : KnK P w K mg base (L2.CX P w) 13 "row_of" ["trains", "capacities"] _ 0 ["capacities", "trains"] (fun vs zs => gkw_row_of vs zs) := ⟨_, _, _, G_row_of, (He.glo_ok X G (c1.fact 28 (f := .glo "row_of") rfl)), F_row_of.kp, kb_ofD F_row_of (List.cons_ne_nil _ _) 0 ["capacities", "trains"] (fun us ws => gkw_row_of us ws) gkw_row_of_rel (fun _ _ _ _ _ _ _ us ws its h1 h2 h3 => match us, ws, its, h1, h2, h3 with | [], [_, _], [_], _, _, _ => ⟨_, rfl, rfl⟩)⟩
  have G_begun := dfn_begun (P := P) (w := w) (base := base) T F_begun
  have C_begun : Kn P w K mg base CX0 1 "_law_begun" ["script"] _ := ⟨_, _, G_begun, (He.glo_ok X G (c1.fact 29 (f := .glo "_law_begun") rfl)), F_begun.kp, (FunD.bindsN F_begun fun _ _ _ _ _ _ us hl => match us, hl with | [_], _ => rfl)⟩
  have G_mixed := dfn_mixed (P := P) (w := w) (base := base) T F_mixed
  have C_mixed : Kn P w K mg base CX0 1 "_law_mixed" ["state"] _ := ⟨_, _, G_mixed, (He.glo_ok X G (c1.fact 30 (f := .glo "_law_mixed") rfl)), F_mixed.kp, (FunD.bindsN F_mixed fun _ _ _ _ _ _ us hl => match us, hl with | [_], _ => rfl)⟩
  have G_take := dfn_take (P := P) (w := w) (base := base) T C_mixed F_take
  have C_take : Kn P w K mg base CX0 2 "_law_take" ["state", "size"] _ := ⟨_, _, G_take, (He.glo_ok X G (c1.fact 31 (f := .glo "_law_take") rfl)), F_take.kp, (FunD.bindsN F_take fun _ _ _ _ _ _ us hl => match us, hl with | [_, _], _ => rfl)⟩
  have G_pick := dfn_pick (P := P) (w := w) (base := base) T C_take F_pick
  have C_pick : Kn P w K mg base CX0 3 "_law_pick" ["state", "some"] _ := ⟨_, _, G_pick, (He.glo_ok X G (c1.fact 32 (f := .glo "_law_pick") rfl)), F_pick.kp, (FunD.bindsN F_pick fun _ _ _ _ _ _ us hl => match us, hl with | [_, _], _ => rfl)⟩
  have G_shuffled := dfn_shuffled (P := P) (w := w) (base := base) T C_take F_shuffled
  have C_shuffled : Kn P w K mg base CX0 3 "_law_shuffled" ["state", "some"] _ := ⟨_, _, G_shuffled, (He.glo_ok X G (c1.fact 33 (f := .glo "_law_shuffled") rfl)), F_shuffled.kp, (FunD.bindsN F_shuffled fun _ _ _ _ _ _ us hl => match us, hl with | [_, _], _ => rfl)⟩
  have G_sizes := dfn_sizes (P := P) (w := w) (base := base) T C_take C_pick F_sizes
  have C_sizes : Kn P w K mg base CX0 4 "_law_sizes" ["state", "most"] _ := ⟨_, _, G_sizes, (He.glo_ok X G (c1.fact 34 (f := .glo "_law_sizes") rfl)), F_sizes.kp, (FunD.bindsN F_sizes fun _ _ _ _ _ _ us hl => match us, hl with | [_, _], _ => rfl)⟩
  have G_boxes := dfn_boxes (P := P) (w := w) (base := base) T C_take C_pick F_boxes
  have C_boxes : Kn P w K mg base CX0 4 "_law_boxes" ["state", "sizes", "most"] _ := ⟨_, _, G_boxes, (He.glo_ok X G (c1.fact 35 (f := .glo "_law_boxes") rfl)), F_boxes.kp, (FunD.bindsN F_boxes fun _ _ _ _ _ _ us hl => match us, hl with | [_, _, _], _ => rfl)⟩
  have G_made := dfn_made (P := P) (w := w) (base := base) T C_Row F_made
  have C_made : Kn P w K mg base CX0 7 "_law_made" ["boxes", "sizes"] _ := ⟨_, _, G_made, (He.glo_ok X G (c1.fact 36 (f := .glo "_law_made") rfl)), F_made.kp, (FunD.bindsN F_made fun _ _ _ _ _ _ us hl => match us, hl with | [_, _], _ => rfl)⟩
  have G_list := dfn_list (P := P) (w := w) (base := base) T C_take C_pick F_list
  have C_list : Kn P w K mg base CX0 4 "_law_list" ["state"] _ := ⟨_, _, G_list, (He.glo_ok X G (c1.fact 37 (f := .glo "_law_list") rfl)), F_list.kp, (FunD.bindsN F_list fun _ _ _ _ _ _ us hl => match us, hl with | [_], _ => rfl)⟩
  have G_crowd := dfn_crowd (P := P) (w := w) (base := base) T C_take C_pick F_crowd
  have C_crowd : Kn P w K mg base CX0 4 "_law_crowd" ["state"] _ := ⟨_, _, G_crowd, (He.glo_ok X G (c1.fact 38 (f := .glo "_law_crowd") rfl)), F_crowd.kp, (FunD.bindsN F_crowd fun _ _ _ _ _ _ us hl => match us, hl with | [_], _ => rfl)⟩
  have G_lare_trains := dfn_lare_trains (P := P) (w := w) (base := base) T F_lare_trains
  have C_lare_trains : Kn P w K mg base CX0 1 "_law_are_trains" ["value"] _ := ⟨_, _, G_lare_trains, (He.glo_ok X G (c1.fact 39 (f := .glo "_law_are_trains") rfl)), F_lare_trains.kp, (FunD.bindsN F_lare_trains fun _ _ _ _ _ _ us hl => match us, hl with | [_], _ => rfl)⟩
  have G_told := dfn_told (P := P) (w := w) (base := base) T C_row_of Z_BadRow Z_BadTrains Z_no F_told
  have C_told : Kn P w K mg base CX0 20 "_law_told" ["value", "wide"] _ := ⟨_, _, G_told, (He.glo_ok X G (c1.fact 40 (f := .glo "_law_told") rfl)), F_told.kp, (FunD.bindsN F_told fun _ _ _ _ _ _ us hl => match us, hl with | [_, _], _ => rfl)⟩
  have G_bent := dfn_bent (P := P) (w := w) (base := base) T C_take C_pick F_bent
  have C_bent : Kn P w K mg base CX0 4 "_law_bent" ["state", "some"] _ := ⟨_, _, G_bent, (He.glo_ok X G (c1.fact 41 (f := .glo "_law_bent") rfl)), F_bent.kp, (FunD.bindsN F_bent fun _ _ _ _ _ _ us hl => match us, hl with | [_, _], _ => rfl)⟩
  exact dfn_law (P := P) (w := w) (base := base) T C_begun C_list C_sizes C_take C_pick C_crowd C_shuffled C_boxes C_made C_bent C_lare_trains C_told C_row_of C_trains C_row_of_kw C_total C_is_plain C_capacities C_eq C_row_of1 hER F_law
end SR
open PySem PySem.W PySem.Calls PyProof.Rows
set_option maxRecDepth 100000 in
set_option maxHeartbeats 0 in
theorem PySem.Challenge.cw_scooprow_k15_whole_rows_of_trains_holds : PySem.Challenge.rw_scooprow_k15_whole_rows_of_trains.Holds := by
  w_on; o_law
  refine HandSHeadRun.head_any (r := OpenLaw.row PySem.Challenge.rw_scooprow_k15_whole_rows_of_trains) (q := view (OpenLaw.row PySem.Challenge.rw_scooprow_k15_whole_rows_of_trains).prog [62]) (H := SR.hk) (ob := SR.ob) (M := 4000) (loose := SR.others) (d := HandSHeadRun.topDef (OpenLaw.row PySem.Challenge.rw_scooprow_k15_whole_rows_of_trains).prog 62) (kwd := []) SR.ob_eq
    (by kernel_rfl) (fun s => by kernel_rfl) SR.run (by kernel_rfl) (by kernel_rfl) (by kernel_rfl) (by rfl) (by first | assumption | decide +kernel) (by decide +kernel) ⟨rfl, rfl, rfl, rfl, rfl, by decide +kernel⟩ ?hw ?hc
  case hw => w_witness2
  case hc =>
    refine SR.walk_ofG (l := PySem.Challenge.rw_scooprow_k15_whole_rows_of_trains) (n := 63) (k := 24) (x := "script") (CX := L2.CX0) rfl (by decide) (by kernel_rfl) ⟨rfl, by decide, by decide⟩ ?F (fun _ _ _ _ z => z)
    intro w mg fa h Y G hmg0
    obtain ⟨K, KX, c⟩ := Y
    have hmg : mg ("law" : PySem.Str) = some (.ref fa) := by
      have e : (HandSHeadRun.topDef (OpenLaw.row PySem.Challenge.rw_scooprow_k15_whole_rows_of_trains).prog 62).name = ("law" : PySem.Str) := by kernel_rfl
      rw [← e]
      exact hmg0
    obtain ⟨fd, hb, hF⟩ := SR.facts (P := (PySem.Challenge.rw_scooprow_k15_whole_rows_of_trains).prog) (w := w) KX G hmg c rfl rfl
    exact ⟨K, fd, (SR.spLaw K), KX, hb, fun H a ns hl _ hS => ⟨a, ns, rfl, hS, hl, fun _ => rfl⟩, hF⟩
