import PyProof.Rows.All
import Wide.All
import OpenK.AllK
import Wide.FinOn
import HandS.ForMost
import HandS.Base
import HandS.Call
import HandS.List
import HandS.Comp
import HandS.Ends
import HandS.Dict
import HandS.Iter
import HandS.Text
import HandS.Words
import HandS.WordsList
import HandS.WordsDict
import HandS.ForExc
import HandS.Defaults
import HandS.HeadEnd
import HandS.IsInst
import HandS.ExcIs
import PyProof.ReprRoads
import PyProof.CallFns
import HandS.ExcField
import HandS.CallSlots
import HandS.Codes
import HandS.HeadHook2
import HandS.HeadHook4
import HandS.Head0
import HandS.Head1
import HandS.Head2
import HandS.SetBool
import HandS.Strs
import HandS.Sort
import HandS.SortRule
import HandS.Conv
import HandS.Zip
import HandS.Walk
import KE.KDictPairs
import HandS.Style
import HandS.Small
import HandS.More
import HandS.ListItems
import HandS.Property
import HandS.OwnEq
import PyProof.InstNe
import PyProof.NeKinds
import HandS.SortInts
import HandS.Flow
import HandS.Exc
import HandS.ExcInit
import KE.KSuper
import KE.KExcSuper
import HandS.ExcValue
import HandS.DictComp
import KE.KItemsList
import KE.KDictList
import HandS.SortKw
import HandS.SetFor
import HandS.TupAny
import HandS.Star
import HandS.TryOnly
import KE.KTryMore
import HandS.Remove
import HandS.Finally
import HandS.Lambda
import HandS.EndTab
import HandS.EndBits
import PySem.Challenge.RW_scooprow_k29_walks_refused
set_option Elab.async false
set_option linter.all false
set_option maxRecDepth 100000
set_option maxHeartbeats 1000000
namespace SR
inductive Lx
  | z | o | m
def bw : List Lx → List Bool
  | [] => []
  | .z :: w => false :: bw w
  | .o :: w => true :: bw w
  | .m :: w => true :: false :: bw w
def bk : List Lx → List Bool
  | [] => []
  | .z :: w => false :: bk w
  | .o :: w => true :: bk w
  | .m :: w => bk w
def swB (c : Nat) : Nat → List Bool → List Bool
  | _, [] => []
  | u, true :: bs => if u < c then false :: swB c (u + 1) bs else true :: swB c u bs
  | u, false :: bs => if 0 < u then true :: swB c (u - 1) bs else false :: swB c 0 bs
def ends : Bool → List Bool → Int → List Int
  | true, [], n => [n]
  | false, [], _ => []
  | _, true :: bs, n => ends true bs (n + 1)
  | true, false :: bs, n => n :: ends false bs (n + 1)
  | false, false :: bs, n => ends false bs (n + 1)
def marks : List Lx → Int → List Int
  | [], _ => []
  | .z :: w, n => marks w (n + 1)
  | .o :: w, n => marks w (n + 1)
  | .m :: w, n => n :: marks w n
/-- the word does not begin with an empty box, nor is it over -/
def hdB : List Lx → Bool
  | [] => false
  | .z :: _ => false
  | _ => true
def gdB : List Lx → Bool
  | [] => true
  | .o :: w => hdB w && gdB w
  | _ :: w => gdB w
def zs (k : Nat) : List Lx := List.replicate k .z
theorem zs_succ (k : Nat) : zs (k + 1) = .z :: zs k := rfl
theorem bk_zs (k : Nat) : bk (zs k) = List.replicate k false := by
  induction k with
  | zero => rfl
  | succ k ih => rw [zs_succ, List.replicate_succ, ← ih]; rfl
/-- what becomes of a word in a sweep, from a state on: pend, a full box not yet told; mem, the letters of the cut row not yet told -/
structure Res (c : Nat) (pend : Bool) (u u' : Nat) (mem : List Bool) (w out : List Lx) : Prop where
  gd : gdB out = true
  hd : pend = true → hdB out = true
  bits : bw out = bif pend then true :: swB c u (bw w) else swB c u (bw w)
  kept : bk out ++ [false] = mem ++ swB (c - 1) u' (bk w)
/-- the removed pairs -/
def Mks (d : Int) (owed : Bool) (e f : Bool) (c u' : Nat) (w out : List Lx) : Prop :=
  ∀ (N x : Int), (marks out (N - d)).count x + (ends e (bk w) N).count x = (bif owed then if N == x then 1 else 0 else 0) + (marks w N).count x + (ends f (swB (c - 1) u' (bk w)) N).count x
theorem swB_t {c u : Nat} {bs : List Bool} (h : u < c) : swB c u (true :: bs) = false :: swB c (u + 1) bs := by
  show (if u < c then _ else _) = _
  rw [if_pos h]
theorem swB_tf {c u : Nat} {bs : List Bool} (h : ¬u < c) : swB c u (true :: bs) = true :: swB c u bs := by
  show (if u < c then _ else _) = _
  rw [if_neg h]
theorem swB_f {c u : Nat} {bs : List Bool} (h : 0 < u) : swB c u (false :: bs) = true :: swB c (u - 1) bs := by
  show (if 0 < u then _ else _) = _
  rw [if_pos h]
theorem swB_z {c : Nat} {bs : List Bool} : swB c 0 (false :: bs) = false :: swB c 0 bs := by
  show (if 0 < 0 then _ else _) = _
  rw [if_neg (Nat.lt_irrefl 0)]
section
variable {c : Nat}
def SA (c u : Nat) (w : List Lx) : Prop := ∃ out, Res c false u (min u (c - 1)) [decide (u = c)] w out ∧ Mks 1 false (decide (0 < u)) (decide (u = c)) c (min u (c - 1)) w out
def SB1 (c u : Nat) (e f : Bool) (w : List Lx) : Prop := ∃ out, Res c true u u [] w out ∧ Mks 0 true e f c u w out
def SB2 (c u : Nat) (w : List Lx) : Prop := ∃ out, Res c true u u [] w out ∧ Mks 0 false false true c u w out
def SC (c : Nat) (w : List Lx) : Prop := ∃ out, Res c true c (c - 1) [true, true] w out ∧ Mks 2 false true true c (c - 1) w out
/-- only empty boxes ahead -/
theorem sA_zs (c1 : 1 ≤ c) (k : Nat) : SA c 0 (zs k) := by
  have d0 : decide (0 = c) = false := decide_eq_false (by omega)
  induction k with
  | zero =>
    refine ⟨[], ⟨rfl, (fun z => nomatch z), rfl, ?_⟩, ?_⟩
    · rw [d0]
      rfl
    · rw [d0]
      exact fun N x => rfl
  | succ k ih =>
    obtain ⟨out, r, mk⟩ := ih
    have m0 : min 0 (c - 1) = 0 := by omega
    rw [m0] at r mk
    rw [d0] at r mk
    unfold SA
    rw [m0, d0]
    refine ⟨.z :: out, ⟨r.gd, (fun z => nomatch z), ?_, ?_⟩, fun N x => ?_⟩
    · show false :: bw out = swB c 0 (false :: bw (zs k))
      rw [swB_z, r.bits]
      rfl
    · show false :: (bk out ++ [false]) = [false] ++ swB (c - 1) 0 (false :: bk (zs k))
      rw [swB_z, r.kept]
      rfl
    · have := mk (N + 1) x
      rw [Int.add_sub_cancel] at this
      show (marks out (N - 1 + 1)).count x + (ends false (bk (zs k)) (N + 1)).count x = 0 + (marks (zs k) (N + 1)).count x + (ends false (swB (c - 1) 0 (false :: bk (zs k))) N).count x
      rw [Int.sub_add_cancel, swB_z]
      exact this
theorem sB2_zs (c1 : 1 ≤ c) : ∀ (u k : Nat), u + 1 ≤ k → SB2 c u (zs k)
  | 0, k + 1, _ => by
    obtain ⟨out, r, mk⟩ := sA_zs c1 k
    have d0 : decide (0 = c) = false := decide_eq_false (by omega)
    have m0 : min 0 (c - 1) = 0 := by omega
    rw [m0, d0] at r mk
    refine ⟨.m :: out, ⟨r.gd, fun _ => rfl, ?_, ?_⟩, fun N x => ?_⟩
    · show true :: false :: bw out = true :: swB c 0 (false :: bw (zs k))
      rw [swB_z, r.bits]
      rfl
    · show bk out ++ [false] = swB (c - 1) 0 (false :: bk (zs k))
      rw [swB_z, r.kept]
      rfl
    · have := mk (N + 1) x
      rw [Int.add_sub_cancel] at this
      show ((N - 0) :: marks out (N - 0)).count x + (ends false (bk (zs k)) (N + 1)).count x = 0 + (marks (zs k) (N + 1)).count x + (ends true (swB (c - 1) 0 (false :: bk (zs k))) N).count x
      rw [swB_z, Int.sub_zero]
      show _ = _ + (N :: ends false (swB (c - 1) 0 (bk (zs k))) (N + 1)).count x
      rw [List.count_cons, List.count_cons]
      have e1 : (ends (decide (0 < 0)) (bk (zs k)) (N + 1)) = ends false (bk (zs k)) (N + 1) := rfl
      rw [e1] at this
      simp only [cond_false] at this
      omega
  | u + 1, k + 1, h => by
    obtain ⟨out, r, mk⟩ := sB2_zs c1 u k (by omega)
    refine ⟨.o :: out, ⟨?_, fun _ => rfl, ?_, ?_⟩, fun N x => ?_⟩
    · show (hdB out && gdB out) = true
      rw [r.hd rfl, r.gd]
      rfl
    · show true :: bw out = true :: swB c (u + 1) (false :: bw (zs k))
      rw [swB_f (Nat.succ_pos u), r.bits]
      rfl
    · show true :: (bk out ++ [false]) = swB (c - 1) (u + 1) (false :: bk (zs k))
      rw [swB_f (Nat.succ_pos u), r.kept]
      rfl
    · have := mk (N + 1) x
      show (marks out (N - 0 + 1)).count x + (ends false (bk (zs k)) (N + 1)).count x = 0 + (marks (zs k) (N + 1)).count x + (ends true (swB (c - 1) (u + 1) (false :: bk (zs k))) N).count x
      rw [swB_f (Nat.succ_pos u)]
      show _ = _ + (ends true (swB (c - 1) u (bk (zs k))) (N + 1)).count x
      rw [Int.sub_zero] at this ⊢
      exact this
/-- one step of state B, over an empty box: the carrier has items -/
theorem sB1_zs (c1 : 1 ≤ c) (u k : Nat) (h : u + 1 ≤ k) (e f : Bool) (ok : (u = 0 ∧ e = f) ∨ (0 < u ∧ e = true)) : SB1 c u e f (zs k) := by
  obtain ⟨k, rfl⟩ : ∃ j, k = j + 1 := ⟨k - 1, by omega⟩
  rcases ok with ⟨rfl, rfl⟩ | ⟨u0, rfl⟩
  · obtain ⟨out, r, mk⟩ := sA_zs c1 k
    have d0 : decide (0 = c) = false := decide_eq_false (by omega)
    have m0 : min 0 (c - 1) = 0 := by omega
    rw [m0, d0] at r mk
    refine ⟨.m :: out, ⟨r.gd, fun _ => rfl, ?_, ?_⟩, fun N x => ?_⟩
    · show true :: false :: bw out = true :: swB c 0 (false :: bw (zs k))
      rw [swB_z, r.bits]
      rfl
    · show bk out ++ [false] = swB (c - 1) 0 (false :: bk (zs k))
      rw [swB_z, r.kept]
      rfl
    · have := mk (N + 1) x
      rw [Int.add_sub_cancel] at this
      show ((N - 0) :: marks out (N - 0)).count x + (ends e (false :: bk (zs k)) N).count x = (if N == x then 1 else 0) + (marks (zs k) (N + 1)).count x + (ends e (swB (c - 1) 0 (false :: bk (zs k))) N).count x
      rw [swB_z, Int.sub_zero]
      have e1 : (ends (decide (0 < 0)) (bk (zs k)) (N + 1)) = ends false (bk (zs k)) (N + 1) := rfl
      rw [e1] at this
      simp only [cond_false] at this
      rw [List.count_cons]
      cases e with
      | true =>
        show _ + (N :: ends false (bk (zs k)) (N + 1)).count x = _ + (N :: ends false (swB (c - 1) 0 (bk (zs k))) (N + 1)).count x
        rw [List.count_cons, List.count_cons]
        omega
      | false =>
        show _ + (ends false (bk (zs k)) (N + 1)).count x = _ + (ends false (swB (c - 1) 0 (bk (zs k))) (N + 1)).count x
        omega
  · obtain ⟨u, rfl⟩ : ∃ j, u = j + 1 := ⟨u - 1, by omega⟩
    obtain ⟨out, r, mk⟩ := sB2_zs c1 u k (by omega)
    refine ⟨.o :: out, ⟨?_, fun _ => rfl, ?_, ?_⟩, fun N x => ?_⟩
    · show (hdB out && gdB out) = true
      rw [r.hd rfl, r.gd]
      rfl
    · show true :: bw out = true :: swB c (u + 1) (false :: bw (zs k))
      rw [swB_f (Nat.succ_pos u), r.bits]
      rfl
    · show true :: (bk out ++ [false]) = swB (c - 1) (u + 1) (false :: bk (zs k))
      rw [swB_f (Nat.succ_pos u), r.kept]
      rfl
    · have := mk (N + 1) x
      show (marks out (N - 0 + 1)).count x + (N :: ends false (bk (zs k)) (N + 1)).count x = (if N == x then 1 else 0) + (marks (zs k) (N + 1)).count x + (ends f (swB (c - 1) (u + 1) (false :: bk (zs k))) N).count x
      rw [swB_f (Nat.succ_pos u), List.count_cons]
      show _ = _ + (ends f (true :: swB (c - 1) u (bk (zs k))) N).count x
      have e2 : ends f (true :: swB (c - 1) u (bk (zs k))) N = ends true (swB (c - 1) u (bk (zs k))) (N + 1) := by cases f <;> rfl
      rw [e2, Int.sub_zero]
      rw [Int.sub_zero] at this
      simp only [cond_false] at this
      omega
end
end SR
set_option Elab.async false
set_option linter.all false
set_option maxRecDepth 100000
set_option maxHeartbeats 1000000
namespace SR
section
variable {c u : Nat} {w : List Lx} {e f : Bool}
theorem dec0 (c1 : 1 ≤ c) : decide (0 = c) = false := decide_eq_false (by omega)
theorem min0 : min 0 (c - 1) = 0 := by omega
theorem endsT (q : Bool) (bs : List Bool) (n : Int) : ends q (true :: bs) n = ends true bs (n + 1) := by cases q <;> rfl
theorem A_z (c1 : 1 ≤ c) (h : SA c 0 w) : SA c 0 (.z :: w) := by
  obtain ⟨out, r, mk⟩ := h
  have d0 := dec0 c1
  rw [min0] at r mk
  rw [d0] at r mk
  unfold SA
  rw [min0, d0]
  refine ⟨.z :: out, ⟨r.gd, (fun z => nomatch z), ?_, ?_⟩, fun N x => ?_⟩
  · show false :: bw out = swB c 0 (false :: bw w)
    rw [swB_z, r.bits]
    rfl
  · show false :: (bk out ++ [false]) = [false] ++ swB (c - 1) 0 (false :: bk w)
    rw [swB_z, r.kept]
    rfl
  · have := mk (N + 1) x
    rw [Int.add_sub_cancel] at this
    show (marks out (N - 1 + 1)).count x + (ends false (bk w) (N + 1)).count x = 0 + (marks w (N + 1)).count x + (ends false (swB (c - 1) 0 (false :: bk w)) N).count x
    rw [Int.sub_add_cancel, swB_z]
    exact this
theorem B2_z0 (c1 : 1 ≤ c) (h : SA c 0 w) : SB2 c 0 (.z :: w) := by
  obtain ⟨out, r, mk⟩ := h
  have d0 := dec0 c1
  rw [min0, d0] at r mk
  refine ⟨.m :: out, ⟨r.gd, fun _ => rfl, ?_, ?_⟩, fun N x => ?_⟩
  · show true :: false :: bw out = true :: swB c 0 (false :: bw w)
    rw [swB_z, r.bits]
    rfl
  · show bk out ++ [false] = swB (c - 1) 0 (false :: bk w)
    rw [swB_z, r.kept]
    rfl
  · have := mk (N + 1) x
    rw [Int.add_sub_cancel] at this
    show ((N - 0) :: marks out (N - 0)).count x + (ends false (bk w) (N + 1)).count x = 0 + (marks w (N + 1)).count x + (ends true (swB (c - 1) 0 (false :: bk w)) N).count x
    rw [swB_z, Int.sub_zero]
    show _ = _ + (N :: ends false (swB (c - 1) 0 (bk w)) (N + 1)).count x
    rw [List.count_cons, List.count_cons]
    have e1 : (ends (decide (0 < 0)) (bk w) (N + 1)) = ends false (bk w) (N + 1) := rfl
    rw [e1] at this
    simp only [cond_false] at this
    omega
theorem B1_z0 (c1 : 1 ≤ c) (h : SA c 0 w) : SB1 c 0 e e (.z :: w) := by
  obtain ⟨out, r, mk⟩ := h
  have d0 := dec0 c1
  rw [min0, d0] at r mk
  refine ⟨.m :: out, ⟨r.gd, fun _ => rfl, ?_, ?_⟩, fun N x => ?_⟩
  · show true :: false :: bw out = true :: swB c 0 (false :: bw w)
    rw [swB_z, r.bits]
    rfl
  · show bk out ++ [false] = swB (c - 1) 0 (false :: bk w)
    rw [swB_z, r.kept]
    rfl
  · have := mk (N + 1) x
    rw [Int.add_sub_cancel] at this
    show ((N - 0) :: marks out (N - 0)).count x + (ends e (false :: bk w) N).count x = (if N == x then 1 else 0) + (marks w (N + 1)).count x + (ends e (swB (c - 1) 0 (false :: bk w)) N).count x
    rw [swB_z, Int.sub_zero]
    have e1 : (ends (decide (0 < 0)) (bk w) (N + 1)) = ends false (bk w) (N + 1) := rfl
    rw [e1] at this
    simp only [cond_false] at this
    rw [List.count_cons]
    cases e with
    | true =>
      show _ + (N :: ends false (bk w) (N + 1)).count x = _ + (N :: ends false (swB (c - 1) 0 (bk w)) (N + 1)).count x
      rw [List.count_cons, List.count_cons]
      omega
    | false =>
      show _ + (ends false (bk w) (N + 1)).count x = _ + (ends false (swB (c - 1) 0 (bk w)) (N + 1)).count x
      omega
theorem B2_z (h : SB2 c u w) : SB2 c (u + 1) (.z :: w) := by
  obtain ⟨out, r, mk⟩ := h
  refine ⟨.o :: out, ⟨?_, fun _ => rfl, ?_, ?_⟩, fun N x => ?_⟩
  · show (hdB out && gdB out) = true
    rw [r.hd rfl, r.gd]
    rfl
  · show true :: bw out = true :: swB c (u + 1) (false :: bw w)
    rw [swB_f (Nat.succ_pos u), r.bits]
    rfl
  · show true :: (bk out ++ [false]) = swB (c - 1) (u + 1) (false :: bk w)
    rw [swB_f (Nat.succ_pos u), r.kept]
    rfl
  · have := mk (N + 1) x
    show (marks out (N - 0 + 1)).count x + (ends false (bk w) (N + 1)).count x = 0 + (marks w (N + 1)).count x + (ends true (swB (c - 1) (u + 1) (false :: bk w)) N).count x
    rw [swB_f (Nat.succ_pos u)]
    show _ = _ + (ends true (swB (c - 1) u (bk w)) (N + 1)).count x
    rw [Int.sub_zero] at this ⊢
    exact this
theorem B1_z (h : SB2 c u w) : SB1 c (u + 1) true f (.z :: w) := by
  obtain ⟨out, r, mk⟩ := h
  refine ⟨.o :: out, ⟨?_, fun _ => rfl, ?_, ?_⟩, fun N x => ?_⟩
  · show (hdB out && gdB out) = true
    rw [r.hd rfl, r.gd]
    rfl
  · show true :: bw out = true :: swB c (u + 1) (false :: bw w)
    rw [swB_f (Nat.succ_pos u), r.bits]
    rfl
  · show true :: (bk out ++ [false]) = swB (c - 1) (u + 1) (false :: bk w)
    rw [swB_f (Nat.succ_pos u), r.kept]
    rfl
  · have := mk (N + 1) x
    show (marks out (N - 0 + 1)).count x + (N :: ends false (bk w) (N + 1)).count x = (if N == x then 1 else 0) + (marks w (N + 1)).count x + (ends f (swB (c - 1) (u + 1) (false :: bk w)) N).count x
    rw [swB_f (Nat.succ_pos u), List.count_cons]
    show _ = _ + (ends f (true :: swB (c - 1) u (bk w)) N).count x
    rw [endsT, Int.sub_zero]
    rw [Int.sub_zero] at this
    simp only [cond_false] at this
    omega
theorem A_o (h1 : u < c) (h : SA c (u + 1) w) : SA c u (.o :: w) := by
  obtain ⟨out, r, mk⟩ := h
  have d1 : decide (u = c) = false := decide_eq_false (by omega)
  have m1 : min u (c - 1) = u := by omega
  have key : decide (u + 1 = c) :: swB (c - 1) (min (u + 1) (c - 1)) (bk w) = swB (c - 1) u (true :: bk w) := by
    by_cases z : u < c - 1
    · rw [swB_t z, decide_eq_false (by omega), show min (u + 1) (c - 1) = u + 1 by omega]
    · rw [swB_tf z, decide_eq_true (by omega), show min (u + 1) (c - 1) = u by omega]
  unfold SA
  rw [d1, m1]
  refine ⟨.z :: out, ⟨r.gd, (fun z => nomatch z), ?_, ?_⟩, fun N x => ?_⟩
  · show false :: bw out = swB c u (true :: bw w)
    rw [swB_t h1, r.bits]
    rfl
  · show false :: (bk out ++ [false]) = [false] ++ swB (c - 1) u (true :: bk w)
    rw [← key, r.kept]
    rfl
  · have := mk (N + 1) x
    rw [Int.add_sub_cancel] at this
    show (marks out (N - 1 + 1)).count x + (ends (decide (0 < u)) (true :: bk w) N).count x = 0 + (marks w (N + 1)).count x + (ends false (swB (c - 1) u (true :: bk w)) N).count x
    rw [Int.sub_add_cancel, endsT, ← key]
    have t : decide (0 < u + 1) = true := decide_eq_true (Nat.succ_pos u)
    rw [t] at this
    have e2 : ends false (decide (u + 1 = c) :: swB (c - 1) (min (u + 1) (c - 1)) (bk w)) N = ends (decide (u + 1 = c)) (swB (c - 1) (min (u + 1) (c - 1)) (bk w)) (N + 1) := by
      cases decide (u + 1 = c) <;> rfl
    rw [e2]
    exact this
theorem A_oc (c1 : 1 ≤ c) (h : SC c w) : SA c c (.o :: w) := by
  obtain ⟨out, r, mk⟩ := h
  have d1 : decide (c = c) = true := decide_eq_true rfl
  have m1 : min c (c - 1) = c - 1 := by omega
  have t : decide (0 < c) = true := decide_eq_true c1
  unfold SA
  rw [d1, m1, t]
  refine ⟨out, ⟨r.gd, (fun z => nomatch z), ?_, ?_⟩, fun N x => ?_⟩
  · show bw out = swB c c (true :: bw w)
    rw [swB_tf (Nat.lt_irrefl c), r.bits]
    rfl
  · show bk out ++ [false] = [true] ++ swB (c - 1) (c - 1) (true :: bk w)
    rw [swB_tf (Nat.lt_irrefl _), r.kept]
    rfl
  · have := mk (N + 1) x
    show (marks out (N - 1)).count x + (ends true (true :: bk w) N).count x = 0 + (marks w (N + 1)).count x + (ends true (swB (c - 1) (c - 1) (true :: bk w)) N).count x
    rw [swB_tf (Nat.lt_irrefl _), endsT, endsT]
    have e1 : N + 1 - 2 = N - 1 := by omega
    rw [e1] at this
    exact this
theorem A_m (h1 : u < c) (h : SB1 c u (decide (0 < u)) false w) : SA c u (.m :: w) := by
  obtain ⟨out, r, mk⟩ := h
  have d1 : decide (u = c) = false := decide_eq_false (by omega)
  have m1 : min u (c - 1) = u := by omega
  unfold SA
  rw [d1, m1]
  refine ⟨.z :: out, ⟨r.gd, (fun z => nomatch z), ?_, ?_⟩, fun N x => ?_⟩
  · show false :: bw out = swB c u (true :: false :: bw w)
    rw [swB_t h1, swB_f (Nat.succ_pos u), r.bits]
    rfl
  · show false :: (bk out ++ [false]) = [false] ++ swB (c - 1) u (bk w)
    rw [r.kept]
    rfl
  · have := mk N x
    show (marks out (N - 1 + 1)).count x + (ends (decide (0 < u)) (bk w) N).count x = 0 + (N :: marks w N).count x + (ends false (swB (c - 1) u (bk w)) N).count x
    rw [Int.sub_add_cancel, List.count_cons]
    rw [Int.sub_zero] at this
    simp only [cond_true] at this
    omega
theorem A_mc (c1 : 1 ≤ c) (h : SB1 c (c - 1) true true w) : SA c c (.m :: w) := by
  obtain ⟨out, r, mk⟩ := h
  have d1 : decide (c = c) = true := decide_eq_true rfl
  have m1 : min c (c - 1) = c - 1 := by omega
  have t : decide (0 < c) = true := decide_eq_true c1
  unfold SA
  rw [d1, m1, t]
  refine ⟨.o :: out, ⟨?_, (fun z => nomatch z), ?_, ?_⟩, fun N x => ?_⟩
  · show (hdB out && gdB out) = true
    rw [r.hd rfl, r.gd]
    rfl
  · show true :: bw out = swB c c (true :: false :: bw w)
    rw [swB_tf (Nat.lt_irrefl c), swB_f c1, r.bits]
    rfl
  · show true :: (bk out ++ [false]) = [true] ++ swB (c - 1) (c - 1) (bk w)
    rw [r.kept]
    rfl
  · have := mk N x
    show (marks out (N - 1 + 1)).count x + (ends true (bk w) N).count x = 0 + (N :: marks w N).count x + (ends true (swB (c - 1) (c - 1) (bk w)) N).count x
    rw [Int.sub_add_cancel, List.count_cons]
    rw [Int.sub_zero] at this
    simp only [cond_true] at this
    omega
theorem aft (h1 : u < c) (h : SA c (u + 1) w) : ∃ out, Res c false (u + 1) (min (u + 1) (c - 1)) [decide (u + 1 = c)] w out ∧ Mks 1 false true (decide (u + 1 = c)) c (min (u + 1) (c - 1)) w out ∧
    decide (u + 1 = c) :: swB (c - 1) (min (u + 1) (c - 1)) (bk w) = swB (c - 1) u (true :: bk w) := by
  obtain ⟨out, r, mk⟩ := h
  have t : decide (0 < u + 1) = true := decide_eq_true (Nat.succ_pos u)
  rw [t] at mk
  refine ⟨out, r, mk, ?_⟩
  by_cases z : u < c - 1
  · rw [swB_t z, decide_eq_false (by omega), show min (u + 1) (c - 1) = u + 1 by omega]
  · rw [swB_tf z, decide_eq_true (by omega), show min (u + 1) (c - 1) = u by omega]
theorem B1_o (h1 : u < c) (hf : f = true → u = c - 1) (h : SA c (u + 1) w) : SB1 c u e f (.o :: w) := by
  obtain ⟨out, r, mk, key⟩ := aft h1 h
  refine ⟨.m :: out, ⟨r.gd, fun _ => rfl, ?_, ?_⟩, fun N x => ?_⟩
  · show true :: false :: bw out = true :: swB c u (true :: bw w)
    rw [swB_t h1, r.bits]
    rfl
  · show bk out ++ [false] = swB (c - 1) u (true :: bk w)
    rw [← key, r.kept]
    rfl
  · have := mk (N + 1) x
    rw [Int.add_sub_cancel] at this
    show ((N - 0) :: marks out (N - 0)).count x + (ends e (true :: bk w) N).count x = (if N == x then 1 else 0) + (marks w (N + 1)).count x + (ends f (swB (c - 1) u (true :: bk w)) N).count x
    have e2 : ends f (decide (u + 1 = c) :: swB (c - 1) (min (u + 1) (c - 1)) (bk w)) N = ends (decide (u + 1 = c)) (swB (c - 1) (min (u + 1) (c - 1)) (bk w)) (N + 1) := by
      cases f with
      | true =>
        rw [decide_eq_true (show u + 1 = c by have := hf rfl; omega)]
        rfl
      | false => cases decide (u + 1 = c) <;> rfl
    rw [Int.sub_zero, endsT, ← key, e2, List.count_cons]
    simp only [cond_false] at this
    omega
theorem B2_o (h1 : u + 1 < c) (h : SA c (u + 1) w) : SB2 c u (.o :: w) := by
  obtain ⟨out, r, mk, key⟩ := aft (by omega) h
  have d : decide (u + 1 = c) = false := decide_eq_false (by omega)
  refine ⟨.m :: out, ⟨r.gd, fun _ => rfl, ?_, ?_⟩, fun N x => ?_⟩
  · show true :: false :: bw out = true :: swB c u (true :: bw w)
    rw [swB_t (by omega), r.bits]
    rfl
  · show bk out ++ [false] = swB (c - 1) u (true :: bk w)
    rw [← key, r.kept]
    rfl
  · have := mk (N + 1) x
    rw [Int.add_sub_cancel] at this
    show ((N - 0) :: marks out (N - 0)).count x + (ends false (true :: bk w) N).count x = 0 + (marks w (N + 1)).count x + (ends true (swB (c - 1) u (true :: bk w)) N).count x
    rw [Int.sub_zero, endsT, ← key]
    rw [d] at this ⊢
    show _ = _ + (N :: ends false (swB (c - 1) (min (u + 1) (c - 1)) (bk w)) (N + 1)).count x
    rw [List.count_cons, List.count_cons]
    simp only [cond_false] at this
    omega
theorem B1_m (h1 : u < c) (h : SB1 c u e f w) : SB1 c u e f (.m :: w) := by
  obtain ⟨out, r, mk⟩ := h
  refine ⟨.m :: out, ⟨r.gd, fun _ => rfl, ?_, ?_⟩, fun N x => ?_⟩
  · show true :: false :: bw out = true :: swB c u (true :: false :: bw w)
    rw [swB_t h1, swB_f (Nat.succ_pos u), r.bits]
    rfl
  · show bk out ++ [false] = swB (c - 1) u (bk w)
    rw [r.kept]
    rfl
  · have := mk N x
    show ((N - 0) :: marks out (N - 0)).count x + (ends e (bk w) N).count x = (if N == x then 1 else 0) + (N :: marks w N).count x + (ends f (swB (c - 1) u (bk w)) N).count x
    rw [Int.sub_zero, List.count_cons, List.count_cons]
    rw [Int.sub_zero] at this
    simp only [cond_true] at this
    omega
theorem B2_m (h1 : u < c) (h : SB2 c u w) : SB2 c u (.m :: w) := by
  obtain ⟨out, r, mk⟩ := h
  refine ⟨.m :: out, ⟨r.gd, fun _ => rfl, ?_, ?_⟩, fun N x => ?_⟩
  · show true :: false :: bw out = true :: swB c u (true :: false :: bw w)
    rw [swB_t h1, swB_f (Nat.succ_pos u), r.bits]
    rfl
  · show bk out ++ [false] = swB (c - 1) u (bk w)
    rw [r.kept]
    rfl
  · have := mk N x
    show ((N - 0) :: marks out (N - 0)).count x + (ends false (bk w) N).count x = 0 + (N :: marks w N).count x + (ends true (swB (c - 1) u (bk w)) N).count x
    rw [Int.sub_zero, List.count_cons, List.count_cons]
    rw [Int.sub_zero] at this
    simp only [cond_false] at this
    omega
theorem C_o (h : SC c w) : SC c (.o :: w) := by
  obtain ⟨out, r, mk⟩ := h
  refine ⟨.o :: out, ⟨?_, fun _ => rfl, ?_, ?_⟩, fun N x => ?_⟩
  · show (hdB out && gdB out) = true
    rw [r.hd rfl, r.gd]
    rfl
  · show true :: bw out = true :: swB c c (true :: bw w)
    rw [swB_tf (Nat.lt_irrefl c), r.bits]
    rfl
  · show true :: (bk out ++ [false]) = [true, true] ++ swB (c - 1) (c - 1) (true :: bk w)
    rw [swB_tf (Nat.lt_irrefl _), r.kept]
    rfl
  · have := mk (N + 1) x
    show (marks out (N - 2 + 1)).count x + (ends true (true :: bk w) N).count x = 0 + (marks w (N + 1)).count x + (ends true (swB (c - 1) (c - 1) (true :: bk w)) N).count x
    rw [swB_tf (Nat.lt_irrefl _), endsT, endsT]
    have e1 : N + 1 - 2 = N - 2 + 1 := by omega
    rw [e1] at this
    exact this
theorem C_m (c1 : 1 ≤ c) (h : SB1 c (c - 1) true true w) : SC c (.m :: w) := by
  obtain ⟨out, r, mk⟩ := h
  refine ⟨.o :: .o :: out, ⟨?_, fun _ => rfl, ?_, ?_⟩, fun N x => ?_⟩
  · show (true && (hdB out && gdB out)) = true
    rw [r.hd rfl, r.gd]
    rfl
  · show true :: true :: bw out = true :: swB c c (true :: false :: bw w)
    rw [swB_tf (Nat.lt_irrefl c), swB_f c1, r.bits]
    rfl
  · show true :: true :: (bk out ++ [false]) = [true, true] ++ swB (c - 1) (c - 1) (bk w)
    rw [r.kept]
    rfl
  · have := mk N x
    show (marks out (N - 2 + 1 + 1)).count x + (ends true (bk w) N).count x = 0 + (N :: marks w N).count x + (ends true (swB (c - 1) (c - 1) (bk w)) N).count x
    have e1 : N - 2 + 1 + 1 = N := by omega
    rw [e1, List.count_cons]
    rw [Int.sub_zero] at this
    simp only [cond_true] at this
    omega
/-- every state, over a word with enough empty boxes behind it -/
theorem sim (c1 : 1 ≤ c) (k : Nat) : ∀ (w : List Lx), gdB w = true →
    (∀ u, u ≤ c → (0 < u → hdB w = true) → u + w.length + 1 ≤ k → SA c u (w ++ zs k)) ∧
    (∀ u e f, u < c → ((u = 0 ∧ e = f) ∨ (0 < u ∧ e = true)) → (f = true → u = c - 1) → u + w.length + 1 ≤ k → SB1 c u e f (w ++ zs k)) ∧
    (∀ u, u + 1 < c → u + w.length + 1 ≤ k → SB2 c u (w ++ zs k)) ∧
    (hdB w = true → c + w.length + 1 ≤ k → SC c (w ++ zs k)) := by
  intro w
  induction w with
  | nil =>
    intro _
    refine ⟨fun u _ h _ => ?_, fun u e f h1 ok hf hk => sB1_zs c1 u k (by simpa using hk) e f ok, fun u _ hk => sB2_zs c1 u k (by simpa using hk), fun h => nomatch h⟩
    obtain rfl : u = 0 := by
      rcases Nat.eq_zero_or_pos u with z | z
      · exact z
      · cases h z
    exact sA_zs c1 k
  | cons l w ih =>
    intro g
    cases l with
    | z =>
      obtain ⟨ia, ib, ib2, ic⟩ := ih g
      refine ⟨fun u h1 h2 hk => ?_, fun u e f h1 ok hf hk => ?_, fun u h1 hk => ?_, fun h => nomatch h⟩
      · obtain rfl : u = 0 := by
          rcases Nat.eq_zero_or_pos u with z | z
          · exact z
          · cases h2 z
        exact A_z c1 (ia 0 (by omega) (fun z => absurd z (Nat.lt_irrefl 0)) (by rw [List.length_cons] at hk; omega))
      · rw [List.length_cons] at hk
        rcases ok with ⟨rfl, rfl⟩ | ⟨u0, rfl⟩
        · exact B1_z0 c1 (ia 0 (by omega) (fun z => absurd z (Nat.lt_irrefl 0)) (by omega))
        · obtain ⟨u, rfl⟩ : ∃ j, u = j + 1 := ⟨u - 1, by omega⟩
          exact B1_z (ib2 u (by omega) (by omega))
      · rw [List.length_cons] at hk
        cases u with
        | zero => exact B2_z0 c1 (ia 0 (by omega) (fun z => absurd z (Nat.lt_irrefl 0)) (by omega))
        | succ u => exact B2_z (ib2 u (by omega) (by omega))
    | o =>
      have g2 : (hdB w && gdB w) = true := g
      rw [Bool.and_eq_true] at g2
      obtain ⟨ia, ib, ib2, ic⟩ := ih g2.2
      refine ⟨fun u h1 h2 hk => ?_, fun u e f h1 ok hf hk => ?_, fun u h1 hk => ?_, fun h hk => ?_⟩
      · rw [List.length_cons] at hk
        by_cases z : u < c
        · exact A_o z (ia (u + 1) (by omega) (fun _ => g2.1) (by omega))
        · obtain rfl : u = c := by omega
          exact A_oc c1 (ic g2.1 (by omega))
      · rw [List.length_cons] at hk
        exact B1_o h1 hf (ia (u + 1) (by omega) (fun _ => g2.1) (by omega))
      · rw [List.length_cons] at hk
        exact B2_o h1 (ia (u + 1) (by omega) (fun _ => g2.1) (by omega))
      · rw [List.length_cons] at hk
        exact C_o (ic g2.1 (by omega))
    | m =>
      obtain ⟨ia, ib, ib2, ic⟩ := ih g
      refine ⟨fun u h1 h2 hk => ?_, fun u e f h1 ok hf hk => ?_, fun u h1 hk => ?_, fun h hk => ?_⟩
      · rw [List.length_cons] at hk
        by_cases z : u < c
        · refine A_m z (ib u _ false z ?_ (fun q => nomatch q) (by omega))
          rcases Nat.eq_zero_or_pos u with q | q
          · exact .inl ⟨q, decide_eq_false (by omega)⟩
          · exact .inr ⟨q, decide_eq_true q⟩
        · obtain rfl : u = c := by omega
          refine A_mc c1 (ib (u - 1) true true (by omega) ?_ (fun _ => rfl) (by omega))
          rcases Nat.eq_zero_or_pos (u - 1) with q | q
          · exact .inl ⟨q, rfl⟩
          · exact .inr ⟨q, rfl⟩
      · rw [List.length_cons] at hk
        exact B1_m h1 (ib u e f h1 ok hf (by omega))
      · rw [List.length_cons] at hk
        exact B2_m (by omega) (ib2 u h1 (by omega))
      · rw [List.length_cons] at hk
        refine C_m c1 (ib (c - 1) true true (by omega) ?_ (fun _ => rfl) (by omega))
        rcases Nat.eq_zero_or_pos (c - 1) with q | q
        · exact .inl ⟨q, rfl⟩
        · exact .inr ⟨q, rfl⟩
end
end SR
set_option Elab.async false
set_option linter.all false
set_option maxRecDepth 100000
set_option maxHeartbeats 4000000
namespace SR
open PySem L2
abbrev qAdd : R2 := rI0 fun i j => .int (i + j)
abbrev qSub : R2 := rI0 fun i j => .int (i - j)
abbrev qMul : R2 := rI CMul fun i j => .int (i * j)
abbrev qFd : R2 := rI CDivN fun i j => .int (i.fdiv j)
abbrev qMod : R2 := rI (fun _ j => j ≠ 0) fun i j => .int (i.fmod j)
abbrev qPow : R2 := rI CPow fun i j => .int (i ^ j.toNat)
abbrev qLe : R2 := rI0 fun i j => .bl (decide (i ≤ j))
abbrev qGt : R2 := rI0 fun i j => .bl (decide (j < i))
abbrev qGe : R2 := rI0 fun i j => .bl (decide (j ≤ i))
abbrev qInt1 : List V → Hp → VK → Prop := fun xs H Q => (∃ i, xs = [.int i] ∧ Q (.int i) H) ∨ ∃ k, xs = [.bl k] ∧ Q (.int (if k then 1 else 0)) H
abbrev qListOf (K : PySem.W.Frag) : List V → Hp → VK → Prop := fun xs H Q => ∃ p ys, xs = [.ref p] ∧ (SqL K H p ys ∨ SqT K H p ys) ∧ ∀ l, H l = none → Q (.ref l) (upd H l (.lst ys))
abbrev qLen (K : PySem.W.Frag) : List V → Hp → VK → Prop := fun xs H Q => ∃ p ys, xs = [.ref p] ∧ (SqL K H p ys ∨ SqT K H p ys) ∧ Q (.int ys.length) H
abbrev qMin2 : List V → Hp → VK → Prop := fun xs H Q => ∃ i j, xs = [.int i, .int j] ∧ Q (.int (if j < i then j else i)) H
def stK (g c : Addr) (r t : Int) : List (Key × V) := [(.inr "great", .ref g), (.inr "cells", .ref c), (.inr "rest", .int r), (.inr "turn", .int t)]
def St0 (H : Hp) (d g c : Addr) (b : Nat) (r t : Int) (gs cs : List Int) : Prop :=
  H d = some (.dK (stK g c r t)) ∧ H g = some (.lst (gs.map V.int)) ∧ H c = some (.lst (cs.map V.int)) ∧ g ≠ c ∧ 0 ≤ t ∧ t + b ≤ 2 ^ 40
def StB (H : Hp) (d g c : Addr) (b : Nat) : Prop := ∃ r t gs cs, St0 H d g c b r t gs cs
/-- all but the state's dict and its great cells stay -/
def Kp (d g : Addr) (H H' : Hp) : Prop := ∀ a o, a ≠ d → a ≠ g → H a = some o → H' a = some o
theorem Kp.refl {d g : Addr} (H : Hp) : Kp d g H H := fun _ _ _ _ h => h
theorem Kp.trans {d g : Addr} {H H1 H2 : Hp} (x : Kp d g H H1) (y : Kp d g H1 H2) : Kp d g H H2 := fun a o h1 h2 h => y a o h1 h2 (x a o h1 h2 h)
theorem Kp.new {d g : Addr} {H : Hp} {p : Addr} {o : HO} (h : H p = none) : Kp d g H (upd H p o) := fun a u _ _ e => by
  rw [upd_ne (ne_of_none e h)]
  exact e
theorem StB.mono {H : Hp} {d g c : Addr} {b b' : Nat} (h : StB H d g c b) (e : b' ≤ b) : StB H d g c b' := by
  obtain ⟨r, t, gs, cs, h1, h2, h3, h4, h5, h6⟩ := h
  exact ⟨r, t, gs, cs, h1, h2, h3, h4, h5, by omega⟩
theorem St0.dg {H : Hp} {d g c : Addr} {b : Nat} {r t : Int} {gs cs : List Int} (h : St0 H d g c b r t gs cs) : d ≠ g := ne_of h.1 h.2.1 (by intro z; cases z)
theorem St0.dc {H : Hp} {d g c : Addr} {b : Nat} {r t : Int} {gs cs : List Int} (h : St0 H d g c b r t gs cs) : d ≠ c := ne_of h.1 h.2.2.1 (by intro z; cases z)
/-- a new object leaves the state -/
theorem StB.new {H : Hp} {d g c : Addr} {b : Nat} (h : StB H d g c b) {p : Addr} {o : HO} (hp : H p = none) : StB (upd H p o) d g c b := by
  obtain ⟨r, t, gs, cs, h1, h2, h3, h4, h5⟩ := h
  exact ⟨r, t, gs, cs, by rw [upd_ne (ne_of_none h1 hp)]; exact h1, by rw [upd_ne (ne_of_none h2 hp)]; exact h2, by rw [upd_ne (ne_of_none h3 hp)]; exact h3, h4, h5⟩
/-- an object that is none of the state's is changed -/
theorem StB.upd {H : Hp} {d g c : Addr} {b : Nat} (h : StB H d g c b) {p : Addr} {o : HO} (h1 : p ≠ d) (h2 : p ≠ g) (h3 : p ≠ c) : StB (upd H p o) d g c b := by
  obtain ⟨r, t, gs, cs, e1, e2, e3, e4⟩ := h
  exact ⟨r, t, gs, cs, by rw [upd_ne h1.symm]; exact e1, by rw [upd_ne h2.symm]; exact e2, by rw [upd_ne h3.symm]; exact e3, e4⟩
def spMixed : Sp := fun vs H Q _ => ∃ (d g c : Addr) (b : Nat), vs = [.ref d] ∧ ∃ r t gs cs, St0 H d g c (b + 1) r t gs cs ∧
  ∀ (i : Int) H', St0 H' d g c b r (t + 1) gs cs → Kp d g H H' → Q (.int i) H'
def spTake : Sp := fun vs H Q _ => ∃ (d g c : Addr) (b : Nat) (n : Int), vs = [.ref d, .int n] ∧ StB H d g c (b + 1) ∧ 0 < n ∧ n < 2 ^ 29 ∧
  ∀ (i : Int) H', 0 ≤ i → i < n → StB H' d g c b → Kp d g H H' → Q (.int i) H'
def spPick (K : PySem.W.Frag) : Sp := fun vs H Q _ => ∃ (d g c : Addr) (b : Nat) (a : Addr) (xs : List V), vs = [.ref d, .ref a] ∧ StB H d g c (b + 1) ∧ SqL K H a xs ∧ a ≠ d ∧ a ≠ g ∧ 0 < xs.length ∧ xs.length < 1000 ∧
  ∀ v H', v ∈ xs → StB H' d g c b → Kp d g H H' → Q v H'
def spBegun (K : PySem.W.Frag) : Sp := fun vs H Q _ => ∃ (a : Addr) (ns : List Int), vs = [.ref a] ∧ SqL K H a (ns.map V.int) ∧ ns.length ≤ 63 ∧
  ∀ d g c H', StB H' d g c (2 ^ 39) → (∀ x o, H x = some o → H' x = some o) → H d = none → H g = none → H c = none → Q (.ref d) H'
theorem kstr {x y : Str} (h : x ≠ y) : ¬ (Sum.inr x : Key) = Sum.inr y := fun e => h (Sum.inr.inj e)
end SR
set_option Elab.async false
set_option linter.all false
set_option maxRecDepth 100000
set_option maxHeartbeats 4000000
namespace SR
open PySem L2
section
variable {H : Hp} {d g c : Addr} {r t : Int} {K : PySem.W.Frag}
theorem get_great (h : H d = some (.dK (stK g c r t))) : DGet H d (.str "great") (some (.ref g)) := .inl ⟨_, .inr "great", .inl h, rfl, by rw [stK, valV_pos rfl]⟩
theorem get_cells (h : H d = some (.dK (stK g c r t))) : DGet H d (.str "cells") (some (.ref c)) := .inl ⟨_, .inr "cells", .inl h, rfl, by rw [stK, valV_neg (kstr (by decide +kernel)), valV_pos rfl]⟩
theorem get_rest (h : H d = some (.dK (stK g c r t))) : DGet H d (.str "rest") (some (.int r)) := .inl ⟨_, .inr "rest", .inl h, rfl, by rw [stK, valV_neg (kstr (by decide +kernel)), valV_neg (kstr (by decide +kernel)), valV_pos rfl]⟩
theorem get_turn (h : H d = some (.dK (stK g c r t))) : DGet H d (.str "turn") (some (.int t)) := .inl ⟨_, .inr "turn", .inl h, rfl, by rw [stK, valV_neg (kstr (by decide +kernel)), valV_neg (kstr (by decide +kernel)), valV_neg (kstr (by decide +kernel)), valV_pos rfl]⟩
theorem putK_rest (y : Int) : putK (stK g c r t) (.inr "rest") (.int y) = stK g c y t := by
  have n1 : ¬ ("great" : Str) = "rest" := by decide +kernel
  have n2 : ¬ ("cells" : Str) = "rest" := by decide +kernel
  have n3 : ¬ ("turn" : Str) = "rest" := by decide +kernel
  simp [putK, stK, n1, n2, n3]
theorem putK_turn (y : Int) : putK (stK g c r t) (.inr "turn") (.int y) = stK g c r y := by
  have n1 : ¬ ("great" : Str) = "turn" := by decide +kernel
  have n2 : ¬ ("cells" : Str) = "turn" := by decide +kernel
  have n3 : ¬ ("rest" : Str) = "turn" := by decide +kernel
  simp [putK, stK, n1, n2, n3]
theorem put_rest (y : Int) (h : H d = some (.dK (stK g c r t))) : DPut H d (.str "rest") (.int y) (upd H d (.dK (stK g c y t))) :=
  .inl ⟨_, .inr "rest", h, rfl, small1000 (by show 4 ≤ 1000; decide), by rw [putK_rest]⟩
theorem put_turn (y : Int) (h : H d = some (.dK (stK g c r t))) : DPut H d (.str "turn") (.int y) (upd H d (.dK (stK g c r y))) :=
  .inl ⟨_, .inr "turn", h, rfl, small1000 (by show 4 ≤ 1000; decide), by rw [putK_turn]⟩
/-- the state with another rest, another turn -/
theorem St0.rest {b : Nat} {gs cs : List Int} (h : St0 H d g c b r t gs cs) (y : Int) : St0 (upd H d (.dK (stK g c y t))) d g c b y t gs cs :=
  ⟨upd_same, by rw [upd_ne h.dg.symm]; exact h.2.1, by rw [upd_ne h.dc.symm]; exact h.2.2.1, h.2.2.2⟩
theorem St0.turn {b : Nat} {gs cs : List Int} (h : St0 H d g c (b + 1) r t gs cs) : St0 (upd H d (.dK (stK g c r (t + 1)))) d g c b r (t + 1) gs cs :=
  ⟨upd_same, by rw [upd_ne h.dg.symm]; exact h.2.1, by rw [upd_ne h.dc.symm]; exact h.2.2.1, h.2.2.2.1, by have := h.2.2.2.2; omega, by have := h.2.2.2.2; omega⟩
theorem St0.pop {b : Nat} {x : Int} {gs cs : List Int} (h : St0 H d g c b r t (x :: gs) cs) : St0 (upd H g (.lst (gs.map V.int))) d g c b r t gs cs :=
  ⟨by rw [upd_ne h.dg]; exact h.1, upd_same, by rw [upd_ne h.2.2.2.1.symm]; exact h.2.2.1, h.2.2.2⟩
theorem St0.new {b : Nat} {gs cs : List Int} (h : St0 H d g c b r t gs cs) {p : Addr} {o : HO} (hp : H p = none) : St0 (upd H p o) d g c b r t gs cs :=
  ⟨by rw [upd_ne (ne_of_none h.1 hp)]; exact h.1, by rw [upd_ne (ne_of_none h.2.1 hp)]; exact h.2.1, by rw [upd_ne (ne_of_none h.2.2.1 hp)]; exact h.2.2.1, h.2.2.2⟩
theorem Kp.own {o : HO} : Kp d g H (upd H d o) := fun a u h1 _ e => by rw [upd_ne h1]; exact e
theorem Kp.ownG {o : HO} : Kp d g H (upd H g o) := fun a u _ h2 e => by rw [upd_ne h2]; exact e
end
def primes : List Int := [2147483629, 2147483587, 2147483579, 2147483563, 2147483549, 2147483543]
theorem primes_mem {i : Nat} {x : V} (h : (primes.map V.int)[i]? = some x) : ∃ p : Int, x = .int p ∧ 2147483543 ≤ p ∧ p ≤ 2147483629 := by
  have hx := List.mem_of_getElem? h
  obtain ⟨p, hp, rfl⟩ := List.mem_map.mp hx
  refine ⟨p, rfl, ?_⟩
  simp [primes] at hp
  omega
theorem ints_at {ns : List Int} {i : Nat} {x : V} (h : (ns.map V.int)[i]? = some x) : ∃ z, ns[i]? = some z ∧ x = .int z := by
  rw [List.getElem?_map] at h
  cases e : ns[i]? with
  | none => rw [e] at h; cases h
  | some z => rw [e] at h; exact ⟨z, rfl, (Option.some.inj h).symm⟩
def t_mixed (K : PySem.W.Frag) : TS := tSeq (tAsg (tOp qAdd (tDGet (tVar 0) (tC (.str "turn"))) (tC (.int 1))) (gName 1))
  (tSeq (sDPut (tVar 0) (tC (.str "turn")) (tVar 1))
  (tSeq (tAsg (tC (.int 0)) (gName 2))
  (tSeq (tFor (iList K (tLst (tCons (tC (.int 2147483629)) (tCons (tC (.int 2147483587)) (tCons (tC (.int 2147483579)) (tCons (tC (.int 2147483563)) (tCons (tC (.int 2147483549)) (tCons (tC (.int 2147483543)) (tNil))))))))) (gName 3)
  (tSeq (tAsg (tOp qAdd (tOp qMul (tC (.int 130363)) (tVar 1)) (tOp qFd (tVar 3) (tC (.int 13)))) (gName 4))
  (tSeq (tFor (iList K (tDGet (tVar 0) (tC (.str "cells")))) (gName 5)
  (tAsg (tOp qMod (tCB qInt1 (tCons (tOp qAdd (tOp qMul (tVar 4) (tC (.int 48271))) (tVar 5)) (tNil))) (tVar 3)) (gName 4)))
  (tAsg (tOp qAdd (tOp qMul (tVar 2) (tC (.int 2147483647))) (tOp qMod (tCB qInt1 (tCons (tOp qPow (tVar 4) (tC (.int 5))) (tNil))) (tVar 3))) (gName 2)))))
  (tRet (tVar 2)))))
theorem pure_mixed {K : PySem.W.Frag} (vs : List V) (H : Hp) (Q : VK) (E : XK) (h : spMixed vs H Q E) : t_mixed K { nx := fun _ H' => Q .non H', rt := Q } (start ["state", "turn", "found", "prime", "blend", "cell"] vs) H := by
  obtain ⟨d, g, c, b, rfl, r, t, gs, cs, S, k⟩ := h
  -- turn = state["turn"] + 1
  refine ⟨_, rfl, d, _, rfl, get_turn S.1, _, _, rfl, rfl, ?_⟩
  -- state["turn"] = turn
  refine ⟨_, rfl, _, rfl, d, _, rfl, put_turn (t + 1) S.1, ?_⟩
  have S1 := S.turn
  have kp1 : Kp d g H (upd H d (.dK (stK g c r (t + 1)))) := Kp.own
  generalize upd H d (.dK (stK g c r (t + 1))) = H1 at S1 kp1 ⊢
  -- found = 0; for prime in [..]
  refine ⟨by show 6 ≤ sizeLine; exact Nat.le_of_lt (small1000 (by decide)), fun l hl => ⟨l, rfl, ⟨_, SqL.of upd_same⟩, ?_⟩⟩
  have S2 := S1.new (o := .lst (primes.map V.int)) hl
  have kp2 : Kp d g H (upd H1 l (.lst (primes.map V.int))) := kp1.trans (Kp.new hl)
  have hL : upd H1 l (.lst (primes.map V.int)) l = some (.lst (primes.map V.int)) := upd_same
  have ht := S2.2.2.2.2
  refine for_list (K := K) (a := l) (xs := primes.map V.int) (fun i σ H2 => H2 = upd H1 l (.lst (primes.map V.int)) ∧ ∃ (f : Int) (v3 v4 v5 : Option V), σ = [some (.ref d), some (.int (t + 1)), some (.int f), v3, v4, v5])
    ⟨rfl, 0, none, none, none, rfl⟩ (fun i σ H2 _ e => e.1 ▸ SqL.of hL) ?_ ?_
  · rintro i x σ H2 hi ⟨rfl, f, v3, v4, v5, rfl⟩
    obtain ⟨p, rfl, hp1, hp2⟩ := primes_mem hi
    generalize upd H1 l (.lst (primes.map V.int)) = H3 at S2 kp2 hL
    -- blend = 130363 * turn + prime // 13
    refine ⟨_, rfl, 130363, t + 1, rfl, rfl, .inl ⟨by decide, by decide⟩, _, rfl, _, _, rfl, rfl, ⟨by decide, by decide⟩, _, _, rfl, rfl, ?_⟩
    -- for cell in state["cells"]
    refine ⟨_, rfl, d, _, rfl, get_cells S2.1, c, rfl, ⟨_, SqL.of S2.2.2.1⟩, ?_⟩
    refine for_list (K := K) (a := c) (xs := cs.map V.int) (fun j σ H4 => H4 = H3 ∧ ∃ (bl : Int) (w5 : Option V), σ = [some (.ref d), some (.int (t + 1)), some (.int f), some (.int p), some (.int bl), w5] ∧ bl.natAbs < 2 ^ 64)
      ⟨rfl, _, v5, rfl, ?_⟩ (fun j σ H4 _ e => e.1 ▸ SqL.of S2.2.2.1) ?_ ?_
    · have : p.fdiv 13 = p / 13 := Int.fdiv_eq_ediv_of_nonneg _ (by decide)
      rw [this]; omega
    · rintro j x σ H4 hj ⟨rfl, bl, w5, rfl, hb⟩
      obtain ⟨z, _, rfl⟩ := ints_at hj
      refine ⟨_, rfl, bl, 48271, rfl, rfl, .inr ⟨by decide, by decide⟩, _, rfl, _, _, rfl, rfl, .inl ⟨_, rfl, _, rfl, _, p, rfl, rfl, by omega, ?_⟩⟩
      refine ⟨rfl, _, _, rfl, ?_⟩
      have h0 : 0 ≤ (bl * 48271 + z).fmod p := Int.fmod_nonneg_of_pos _ (by omega)
      have h1 : (bl * 48271 + z).fmod p < p := Int.fmod_lt_of_pos _ (by omega)
      omega
    · rintro σ H4 ⟨rfl, bl, w5, rfl, hb⟩
      -- found = found * 2147483647 + int(blend ** 5) % prime
      refine ⟨_, rfl, f, 2147483647, rfl, rfl, .inr ⟨by decide, by decide⟩, _, rfl, bl, 5, rfl, rfl, ⟨by decide, by decide, hb⟩, .inl ⟨_, rfl, _, rfl, _, p, rfl, rfl, by omega, _, _, rfl, rfl, ?_⟩⟩
      exact ⟨rfl, _, _, _, _, rfl⟩
  · rintro σ H2 ⟨rfl, f, v3, v4, v5, rfl⟩
    exact ⟨_, rfl, k f _ S2 kp2⟩
end SR
set_option Elab.async false
set_option linter.all false
set_option maxRecDepth 100000
set_option maxHeartbeats 4000000
namespace SR
open PySem L2
theorem SqL.same {K : PySem.W.Frag} {H H' : Hp} {a : Addr} {xs : List V} (e : Same H H') (h : SqL K H a xs) : SqL K H' a xs := Same.seq e h
theorem SqT.same {K : PySem.W.Frag} {H H' : Hp} {a : Addr} {xs : List V} (e : Same H H') (h : SqT K H a xs) : SqT K H' a xs := by
  rcases h with (h | ⟨o, h⟩) | h
  · exact .inl (.inl (e _ _ h))
  · exact .inl (.inr ⟨o, e _ _ h⟩)
  · exact .inr h
mutual
theorem Dp.same {K : PySem.W.Frag} {H H' : Hp} (e : Same H H') : ∀ (d : PyData) (v : V), Dp K H v d → Dp K H' v d
  | .none, _, h => by cases h; exact .non
  | .bool _, _, h => by cases h; exact .bl _
  | .int _, _, h => by cases h; exact .int _
  | .str _, _, h => by cases h; exact .str _
  | .list ds, _, h => by
    cases h with
    | lst h1 h2 => exact .lst (SqL.same e h1) (DpAll.same e ds _ h2)
  | .tuple ds, _, h => by
    cases h with
    | tup h1 h2 => exact .tup (SqT.same e h1) (DpAll.same e ds _ h2)
  | .dict _, _, h => nomatch h
theorem DpAll.same {K : PySem.W.Frag} {H H' : Hp} (e : Same H H') : ∀ (ds : List PyData) (vs : List V), DpAll K H vs ds → DpAll K H' vs ds
  | [], _, h => by cases h; exact .nil
  | d :: ds, _, h => by
    cases h with
    | cons h1 h2 => exact .cons (Dp.same e d _ h1) (DpAll.same e ds _ h2)
end
theorem dp_ints {K : PySem.W.Frag} {H : Hp} : ∀ ns : List Int, DpAll K H (ns.map V.int) (ns.map PyData.int)
  | [] => .nil
  | n :: ns => .cons (.int n) (dp_ints ns)
theorem lay_ints : ∀ ns : List Int, PyData.canLayAll0 (ns.map PyData.int) = true
  | [] => rfl
  | n :: ns => by
    show (PyData.canLay0 (PyData.int n) && PyData.canLayAll0 (ns.map PyData.int)) = true
    rw [lay_ints ns] <;> rfl
theorem depth_ints : ∀ ns : List Int, PyData.depthAll (ns.map PyData.int) = 0
  | [] => rfl
  | n :: ns => by
    show max (PyData.depth (PyData.int n)) (PyData.depthAll (ns.map PyData.int)) = 0
    rw [depth_ints ns]
    simp [PyData.depth]
theorem shaped_list {ds : List PyData} (h : PyData.canLayAll0 ds = true) (h2 : PyData.depthAll ds ≤ 60) : SeqAt.shaped (.list ds) = true := by
  have e1 : PyData.canLay0 (.list ds) = true := h
  have e2 : PyData.depth (.list ds) ≤ 64 := by simp only [PyData.depth]; omega
  unfold SeqAt.shaped
  rw [e1, decide_eq_true e2] <;> rfl
theorem shaped_tup {ds : List PyData} (h : PyData.canLayAll0 ds = true) (h2 : PyData.depthAll ds ≤ 60) : SeqAt.shaped (.tuple ds) = true := by
  have e1 : PyData.canLay0 (.tuple ds) = true := h
  have e2 : PyData.depth (.tuple ds) ≤ 64 := by simp only [PyData.depth]; omega
  unfold SeqAt.shaped
  rw [e1, decide_eq_true e2] <;> rfl
theorem shaped_ints (ns : List Int) : SeqAt.shaped (.list (ns.map PyData.int)) = true := shaped_list (lay_ints ns) (by rw [depth_ints]; decide)
def hid (d g : Addr) (H : Hp) : Hp := fun a => if a = d ∨ a = g then none else H a
theorem hid_some {d g : Addr} {H : Hp} {a : Addr} {o : HO} (h : hid d g H a = some o) : H a = some o ∧ a ≠ d ∧ a ≠ g := by
  unfold hid at h
  by_cases e : a = d ∨ a = g
  · rw [if_pos e] at h; cases h
  · rw [if_neg e] at h
    exact ⟨h, fun z => e (.inl z), fun z => e (.inr z)⟩
theorem hid_of {d g : Addr} {H : Hp} {a : Addr} {o : HO} (h : H a = some o) (h1 : a ≠ d) (h2 : a ≠ g) : hid d g H a = some o := by
  unfold hid
  rw [if_neg (fun e => e.elim h1 h2)]
  exact h
theorem Kp.hid {d g : Addr} {H H' : Hp} (k : Kp d g H H') : Same (hid d g H) (hid d g H') := fun a o h => by
  obtain ⟨h0, h1, h2⟩ := hid_some h
  exact hid_of (k a o h1 h2 h0) h1 h2
def t_take (K : PySem.W.Frag) : TS := tSeq (tIfS (tAnd (tTest (tOp rEq (tDGet (tVar 0) (tC (.str "rest"))) (tC (.int 0)))) (tTest (tOp (rNeD K) (tDGet (tVar 0) (tC (.str "great"))) (tLst (tNil)))))
  (sDPut (tVar 0) (tC (.str "rest")) (tBM K "list" rPopAt (tDGet (tVar 0) (tC (.str "great"))) (tCons (tC (.int 0)) (tNil))))
  (tIfS (tTest (tOp rEq (tDGet (tVar 0) (tC (.str "rest"))) (tC (.int 0))))
  (sDPut (tVar 0) (tC (.str "rest")) (tCall spMixed [] E0 (tCons (tVar 0) (tNil))))
  (tNext)))
  (tSeq (tAsg (tOp qMod (tCB qInt1 (tCons (tDGet (tVar 0) (tC (.str "rest"))) (tNil))) (tVar 1)) (gName 2))
  (tSeq (sDPut (tVar 0) (tC (.str "rest")) (tOp qFd (tDGet (tVar 0) (tC (.str "rest"))) (tVar 1)))
  (tRet (tVar 2))))
theorem pure_take {K : PySem.W.Frag} (vs : List V) (H : Hp) (Q : VK) (E : XK) (h : spTake vs H Q E) : t_take K { nx := fun _ H' => Q .non H', rt := Q } (start ["state", "size", "found"] vs) H := by
  obtain ⟨d, g, c, b, n, rfl, ⟨r, t, gs, cs, S⟩, hn0, hn1, k⟩ := h
  -- behind the if
  have fin : ∀ (H1 : Hp) (r1 t1 : Int) (gs1 : List Int), St0 H1 d g c b r1 t1 gs1 cs → Kp d g H H1 →
      (tSeq (tAsg (tOp qMod (tCB qInt1 (tCons (tDGet (tVar 0) (tC (.str "rest"))) (tNil))) (tVar 1)) (gName 2))
        (tSeq (sDPut (tVar 0) (tC (.str "rest")) (tOp qFd (tDGet (tVar 0) (tC (.str "rest"))) (tVar 1))) (tRet (tVar 2)))) { nx := fun _ H' => Q .non H', rt := Q } [some (.ref d), some (.int n), none] H1 := by
    intro H1 r1 t1 gs1 S1 kp
    refine ⟨_, rfl, d, _, rfl, get_rest S1.1, .inl ⟨_, rfl, _, rfl, r1, n, rfl, rfl, by omega, ?_⟩⟩
    refine ⟨_, rfl, d, _, rfl, get_rest S1.1, _, rfl, r1, n, rfl, rfl, ⟨by omega, by omega⟩, _, rfl, d, _, rfl, put_rest _ S1.1, _, rfl, ?_⟩
    exact k _ _ (Int.fmod_nonneg_of_pos _ hn0) (Int.fmod_lt_of_pos _ hn0) ⟨_, _, _, _, S1.rest _⟩ (kp.trans Kp.own)
  have S' : St0 H d g c b r t gs cs := ⟨S.1, S.2.1, S.2.2.1, S.2.2.2.1, S.2.2.2.2.1, by have := S.2.2.2.2.2; omega⟩
  refine ⟨_, rfl, d, _, rfl, get_rest S.1, rfl, _, rfl, ?_⟩
  by_cases e : r = 0
  · subst e
    rw [decide_eq_true (rfl : V.int 0 = V.int 0)]
    refine iteT ⟨_, rfl, d, _, rfl, get_great S.1, by show 0 ≤ sizeLine; exact Nat.zero_le _, fun p hp => ⟨.list (gs.map PyData.int), .list [], ?_, ?_, shaped_ints gs, shaped_ints [], _, rfl, ?_⟩⟩
    · exact .lst (SqL.of (by rw [upd_ne (ne_of_none S.2.1 hp)]; exact S.2.1)) (dp_ints gs)
    · exact .lst (SqL.of upd_same) .nil
    have S2 := S'.new (o := .lst []) hp
    have S2b := S.new (o := .lst []) hp
    have kp2 : Kp d g H (upd H p (.lst [])) := Kp.new hp
    cases gs with
    | nil =>
      -- great is empty: the state is mixed
      rw [show (!PyData.eqv (.list (([] : List Int).map PyData.int)) (.list [])) = false from rfl]
      refine iteF ⟨_, rfl, d, _, rfl, get_rest S2.1, rfl, _, rfl, ?_⟩
      rw [decide_eq_true (rfl : V.int 0 = V.int 0)]
      refine iteT ⟨_, rfl, d, g, c, b, rfl, _, _, _, _, S2b, fun i H3 S3 kp3 => ⟨_, rfl, d, _, rfl, put_rest i S3.1, ?_⟩⟩
      exact fin _ _ _ _ (S3.rest i) ((kp2.trans kp3).trans Kp.own)
    | cons x gs =>
      rw [show (!PyData.eqv (.list ((x :: gs).map PyData.int)) (.list [])) = true from rfl]
      refine iteT ⟨_, rfl, d, _, rfl, get_great S2.1, .inl ⟨rfl, _, .inl (.inl S2.2.1)⟩, g, _, 0, 0, .int x, rfl, rfl, S2.2.1, by decide, by decide, ?_, rfl, ?_⟩
      · simp [seqIndex?]
      have S3 := S2.pop
      refine ⟨_, rfl, d, _, rfl, put_rest x S3.1, ?_⟩
      exact fin _ _ _ _ (S3.rest x) ((kp2.trans Kp.ownG).trans Kp.own)
  · have e1 : ¬ V.int r = V.int 0 := fun z => e (by injection z)
    rw [decide_eq_false e1]
    refine iteF ⟨_, rfl, d, _, rfl, get_rest S.1, rfl, _, rfl, ?_⟩
    rw [decide_eq_false e1]
    exact iteF (fin _ _ _ _ S' (Kp.refl H))
def t_pick (K : PySem.W.Frag) : TS := tRet (tOp (rIxL K) (tVar 1) (tCall spTake [] E0 (tCons (tVar 0) (tCons (tCB (qLen K) (tCons (tVar 1) (tNil))) (tNil)))))
theorem SqL.kp {K : PySem.W.Frag} {d g a : Addr} {H H' : Hp} {xs : List V} (k : Kp d g H H') (h : SqL K H a xs) (h1 : a ≠ d) (h2 : a ≠ g) : SqL K H' a xs := by
  rcases h with (h | ⟨o, h⟩) | h
  · exact .inl (.inl (k _ _ h1 h2 h))
  · exact .inl (.inr ⟨o, k _ _ h1 h2 h⟩)
  · exact .inr h
theorem pure_pick {K : PySem.W.Frag} (vs : List V) (H : Hp) (Q : VK) (E : XK) (h : spPick K vs H Q E) : t_pick K { nx := fun _ H' => Q .non H', rt := Q } (start ["state", "some"] vs) H := by
  obtain ⟨d, g, c, b, a, xs, rfl, S, hL, h1, h2, h3, h4, k⟩ := h
  refine ⟨_, rfl, _, rfl, _, rfl, _, xs, rfl, .inl hL, d, g, c, b, xs.length, rfl, S, by omega, by omega, fun i H1 hi0 hi1 S1 kp => ?_⟩
  obtain ⟨j, rfl⟩ : ∃ j : Nat, i = (j : Int) := ⟨i.toNat, by omega⟩
  have hj : j < xs.length := by omega
  exact ⟨a, xs, j, xs[j], rfl, rfl, SqL.kp kp hL h1 h2, atI_nat (List.getElem?_eq_getElem hj), k _ _ (List.getElem_mem hj) S1 kp⟩
def t_begun (K : PySem.W.Frag) : TS := tSeq (tAsg (tLc (iList K (tVar 0)) (gName 2) (tTest (tOp qGe (tVar 2) (tOp qPow (tC (.int 10)) (tC (.int 18))))) (tOp qSub (tVar 2) (tOp qPow (tC (.int 10)) (tC (.int 18)))) [2]) (gName 1))
  (tRet (tDisp ((tC (.str "great"), tVar 1) :: (tC (.str "cells"), tCB (qListOf K) (tCons (tVar 0) (tNil))) :: (tC (.str "rest"), tC (.int 0)) :: (tC (.str "turn"), tC (.int 0)) :: [])))
theorem merge_st {g c : Addr} : mergeK [] [((.inr "great" : Key), V.ref g), (.inr "cells", .ref c), (.inr "rest", .int 0), (.inr "turn", .int 0)] = stK g c 0 0 := by
  have n1 : ¬ ("great" : Str) = "cells" := by decide +kernel
  have n2 : ¬ ("great" : Str) = "rest" := by decide +kernel
  have n3 : ¬ ("cells" : Str) = "rest" := by decide +kernel
  have n4 : ¬ ("great" : Str) = "turn" := by decide +kernel
  have n5 : ¬ ("cells" : Str) = "turn" := by decide +kernel
  have n6 : ¬ ("rest" : Str) = "turn" := by decide +kernel
  simp [mergeK, putK, stK, n1, n2, n3, n4, n5, n6]
theorem pure_begun {K : PySem.W.Frag} (vs : List V) (H : Hp) (Q : VK) (E : XK) (h : spBegun K vs H Q E) : t_begun K { nx := fun _ H' => Q .non H', rt := Q } (start ["script", "wide", "cell"] vs) H := by
  obtain ⟨a, ns, rfl, hL, hlen, k⟩ := h
  refine ⟨_, rfl, a, rfl, ⟨_, hL⟩, fun D hD => lc_list (K := K) (a := a) (xs := ns.map V.int) (fun i H2 => ∃ zs : List Int, H2 D = some (.lst (zs.map V.int)) ∧ zs.length ≤ i ∧ Same H H2)
    ⟨[], upd_same, Nat.le_refl _, fun b o e => by rw [upd_ne (ne_of_none e hD)]; exact e⟩ (fun i H2 _ ⟨_, _, _, s⟩ => Same.seq s hL) ?_ ?_⟩
  · rintro i x H2 hi ⟨zs, h1, h2, s⟩
    have hil := (List.getElem?_eq_some_iff.mp hi).1
    rw [List.length_map] at hil
    obtain ⟨z, _, rfl⟩ := ints_at hi
    refine ⟨rfl, _, rfl, 10, 18, rfl, rfl, ⟨by decide, by decide, by decide⟩, z, _, rfl, rfl, _, rfl, ?_⟩
    refine ite2 (fun _ => ?_) (fun _ => ⟨zs, h1, by omega, s⟩)
    refine ⟨_, rfl, 10, 18, rfl, rfl, ⟨by decide, by decide, by decide⟩, z, _, rfl, rfl, _, h1, small1000 (by rw [List.length_map]; omega), ?_⟩
    refine ⟨zs ++ [z - 10 ^ (18 : Int).toNat], by rw [upd_same, List.map_append]; rfl, by rw [List.length_append, List.length_singleton]; omega, fun b o e => ?_⟩
    rw [upd_ne (ne_of_none e hD)]
    exact s b o e
  · rintro H2 ⟨zs, h1, h2, s⟩
    -- return {..}
    refine fun p hp => ?_
    have npD : p ≠ D := fun e => by rw [e] at hp; rw [h1] at hp; cases hp
    refine ⟨_, rfl, _, rfl, a, _, rfl, .inl (Same.seq (fun b o e => by rw [upd_ne (ne_of_none e hp)]; exact e) (Same.seq s hL)), fun l hl => ?_⟩
    have nlp : p ≠ l := fun e => by rw [← e, upd_same] at hl; cases hl
    have hl2 : H2 l = none := by rw [upd_ne nlp.symm] at hl; exact hl
    have nlD : D ≠ l := ne_of_none h1 hl2
    refine ⟨by rw [upd_ne nlp, upd_same], [((.inr "great" : Key), V.ref D), (.inr "cells", .ref l), (.inr "rest", .int 0), (.inr "turn", .int 0)], rfl, by show 4 ≤ 15; decide, ?_⟩
    rw [merge_st]
    refine k p D l _ ⟨0, 0, zs, ns, upd_same, ?_, ?_, nlD, by decide, by decide⟩ (fun x o e => ?_) ?_ hD ?_
    · rw [upd_ne npD.symm, upd_ne nlD, upd_ne npD.symm]; exact h1
    · rw [upd_ne nlp.symm, upd_same]
    · have e2 := s x o e
      rw [upd_ne (ne_of_none e2 hp), upd_ne (ne_of_none e2 hl2), upd_ne (ne_of_none e2 hp)]
      exact e2
    · exact Same.free s hp
    · exact Same.free s hl2
end SR
set_option Elab.async false
set_option linter.all false
set_option maxRecDepth 100000
set_option maxHeartbeats 4000000
namespace SR
open PySem PySem.Spec PyProof.Rows L2
abbrev Gs (A : Around) : Prop := A.guards = some []
/-- as FnOk, but promised only under Gs -/
structure FnG (P : Program) (w : World) (K : PySem.W.Frag) (mg : Str → Option Value) (base : Heap) (CX : CXT) (k : Nat) (f : Addr) (fd : FuncData) (ps : List Str) (sp : Sp) : Prop where
  size : ∀ vs H Q E, sp vs H Q E → vs.length = ps.length
  goes : ∀ (A : Around) (out : List Env) (s : Shared) (H : Hp) (gv : Args) (us : List Value) (vs : List V) (Q : VK) (E : XK), Gs A → Room k A → Env0 P w K mg base A out s H → BindsTo s fd gv (ps.zip us) → Vals vs us → sp vs H Q E →
    codeAny (model P w) A (.call (.ref f) gv) (CR CX out P w H s Q E) s
section
variable {X : Cx} {CX : CXT} {k : Nat} {f : Addr} {fd : FuncData} {ps : List Str} {sp : Sp} {dvs : List V} {ds : List Value} {E : XK} {x : Str} {p pos : Pos} {e : Expr} {es : List Expr} {t : TA}
theorem FnG.at (F : FnG X.prog X.w X.K X.mg X.base CX k f fd ps sp) (hgs : Gs X.A) {pins : List (Addr × Obj)} {σ : L2.St} {H : Hp} {s : Shared} {Q : VK} {us : List Value} {vs : List V} (hr : Room k X.A) (hb : Binds X.K fd ps ds) (hd : Vals dvs ds) (hx : Passes CX X E)
    (I : Inv X pins σ H s) (r : Vals vs us) (h : sp (vs ++ dvs) H Q E) : wpAny (model X.prog X.w) X.A (call (.ref f) us) (EP X pins σ Q) X.xe s := by
  have both : Vals (vs ++ dvs) (us ++ ds) := r.append hd
  have lens : (us ++ ds).length = ps.length := both.length.symm.trans (F.size _ _ _ _ h)
  refine wpAny_call (codeAny_mono (F.goes _ _ s H _ _ _ Q E hgs hr I.env0 (hb s us I.kIn lens) both h) fun out s2 hq => ?_)
  match out, hq with
  | .error e, hq => exact hx _ _ _ _ e s2 I hq
  | .ok (.ret u), hq => exact I.after hq
end
def dRepr : PyData → Str
  | .none => "None"
  | .bool b => if b then "True" else "False"
  | .int i => toString i
  | .str x => reprText x
  | d => d.shown
section
variable {X : Cx}
/-- repr(x), x data that can be shown -/
def rRepr (K : PySem.W.Frag) : List V → Hp → VK → Prop := fun xs H Q => ∃ x d, xs = [x] ∧ Dp K H x d ∧ d.showable = true ∧ d.depth ≤ 60 ∧ (dRepr d).length ≤ sizeLine ∧ Q (.str (dRepr d)) H
mutual
theorem dp_nodict {K : PySem.W.Frag} {H : Hp} : ∀ (d : PyData) (v : V), Dp K H v d → d.hasDict = false
  | .none, _, _ => rfl
  | .bool _, _, _ => rfl
  | .int _, _, _ => rfl
  | .str _, _, _ => rfl
  | .list ds, _, h => by
    cases h with
    | lst _ h2 => exact dp_nodicts ds _ h2
  | .tuple ds, _, h => by
    cases h with
    | tup _ h2 => exact dp_nodicts ds _ h2
  | .dict _, _, h => nomatch h
theorem dp_nodicts {K : PySem.W.Frag} {H : Hp} : ∀ (ds : List PyData) (vs : List V), DpAll K H vs ds → PyData.hasDictAll ds = false
  | [], _, _ => rfl
  | d :: ds, _, h => by
    cases h with
    | cons h1 h2 =>
      show (PyData.hasDict d || PyData.hasDictAll ds) = false
      rw [dp_nodict d _ h1, dp_nodicts ds _ h2] <;> rfl
end
theorem call_reprD (hgs : Gs X.A) (hu : X.A.units + 64 < cLine) : CallR X (.builtin "repr") (rRepr X.K) := by
  intro pins s σ H xs us Q I r h
  obtain ⟨x, d, rfl, hd, hsh, hdep, hz, q⟩ := h
  obtain ⟨u, rfl, ru⟩ := vals1 r
  cases hd with
  | non => cases (show u = Value.none from ru); exact PySem.P.repr_of_none ⟨.str _, H, I.tok _, ⟨_, rfl⟩, q⟩
  | bl b => cases (show u = Value.bool b from ru); exact PySem.P.repr_of_bool ⟨.str _, H, I.tok _, ⟨_, rfl⟩, q⟩
  | int i =>
    obtain ⟨t, rfl⟩ := (show ∃ t, u = Value.int i t from ru)
    exact PySem.P.repr_of_int (of_decide_eq_true hsh) ⟨.str _, H, I.tok _, ⟨_, rfl⟩, q⟩
  | str y =>
    obtain ⟨t, rfl⟩ := (show ∃ t, u = Value.str y t from ru)
    exact PySem.P.repr_of_str ⟨.str _, H, I.tok _, ⟨_, rfl⟩, q⟩ hz
  | @lst a xs ds h1 h2 =>
    have hd : Dp X.K H (.ref a) (.list ds) := .lst h1 h2
    obtain ⟨as, rd⟩ := Dp.reads I _ _ _ hd ru
    cases (show u = Value.ref a from ru)
    exact repr_of_reads' rd hsh (fun z => by rw [dp_nodict _ _ hd] at z; cases z) hgs (by omega) (fun _ _ z => z) (fun h' u' tk hk => ⟨.str _, H, I.kept hk, ⟨_, rfl⟩, q⟩) hz
  | @tup a xs ds h1 h2 =>
    have hd : Dp X.K H (.ref a) (.tuple ds) := .tup h1 h2
    obtain ⟨as, rd⟩ := Dp.reads I _ _ _ hd ru
    cases (show u = Value.ref a from ru)
    exact repr_of_reads' rd hsh (fun z => by rw [dp_nodict _ _ hd] at z; cases z) hgs (by omega) (fun _ _ z => z) (fun h' u' tk hk => ⟨.str _, H, I.kept hk, ⟨_, rfl⟩, q⟩) hz
end
end SR
set_option Elab.async false
set_option linter.all false
set_option maxRecDepth 100000
set_option maxHeartbeats 4000000
namespace SR
open PySem PySem.Spec PyProof.Rows L2
/-- X, with one more object known -/
abbrev keepX (X : Cx) (pn : List (Addr × Obj)) : Cx := { X with pn := pn }
section
variable {X : Cx} {pins : List (Addr × Obj)} {σ : L2.St} {H : Hp} {s : Shared}
theorem ok_keep {X : Cx} (ok : X.Ok) (pn : List (Addr × Obj)) : (keepX X pn).Ok :=
  ⟨ok.mod, ok.kind, ok.glob, ok.blt, ok.above, ok.inj, ok.has, ok.cab, ok.hd, ok.frames, ok.stk, ok.exf, ok.bs, ok.bsz, ok.noex, ok.exfs, ok.funs, ok.frf⟩
theorem inv_keep {a : Addr} {q : List (Addr × Obj)} (I : Inv (X.suite a q) [] σ H s) (ok : X.Ok) : Inv (keepX X q) [] σ H s :=
  ⟨ok_keep ok _, I.os, I.bare, I.base, I.loc, I.cell, I.free, I.freeC, I.pin, I.hok, I.len⟩
end
end SR
set_option Elab.async false
set_option linter.all false
set_option maxRecDepth 100000
set_option maxHeartbeats 4000000
namespace SR
open PySem L2
/-- a value of any kind, with its class -/
inductive AnyT (K : PySem.W.Frag) (H : Hp) : V → String → Prop where
  | non : AnyT K H .non "NoneType"
  | bl (b : Bool) : AnyT K H (.bl b) "bool"
  | int (i : Int) : AnyT K H (.int i) "int"
  | str (x : Str) : AnyT K H (.str x) "str"
  | lst {a : Addr} {xs : List V} (h : SqL K H a xs) : AnyT K H (.ref a) "list"
  | tup {a : Addr} {xs : List V} (h : SqT K H a xs) : AnyT K H (.ref a) "tuple"
  | dct {a : Addr} {kvs : List (Key × V)} (h : Rd H a (.dK kvs)) : AnyT K H (.ref a) "dict"
theorem AnyT.ty {K : PySem.W.Frag} {H : Hp} {v : V} {t : String} (h : AnyT K H v t) : TyX K H v (.type t) := by
  cases h with
  | non => exact .base .non
  | bl b => exact .base (.bl b)
  | int i => exact .base (.int i)
  | str x => exact .base (.str x)
  | lst h =>
    rcases h with (h | ⟨o, h⟩) | ⟨o, its, n, hk, hc, _⟩
    · exact .base (.lst h)
    · exact .base (.frz h)
    · exact .kList hk hc
  | tup h =>
    rcases h with (h | ⟨o, h⟩) | ⟨o, its, n, hk, hc, _⟩
    · exact .base (.tup h)
    · exact .fTuple h
    · exact .kTuple hk hc
  | dct h =>
    rcases h with h | ⟨o, h⟩
    · exact .base (.dK h)
    · exact .fDict h
theorem AnyT.same {K : PySem.W.Frag} {H H' : Hp} {v : V} {t : String} (e : Same H H') (h : AnyT K H v t) : AnyT K H' v t := by
  cases h with
  | non => exact .non
  | bl b => exact .bl b
  | int i => exact .int i
  | str x => exact .str x
  | lst h => exact .lst (SqL.same e h)
  | tup h => exact .tup (SqT.same e h)
  | dct h =>
    rcases h with h | ⟨o, h⟩
    · exact .dct (.inl (e _ _ h))
    · exact .dct (.inr ⟨o, e _ _ h⟩)
def isI : V → Bool
  | .int _ => true
  | _ => false
/-- which class a value's class is, asked of a built-in one -/
theorem AnyT.kit {K : PySem.W.Frag} {H : Hp} {v : V} {t : String} (h : AnyT K H v t) :
    PySem.W.kitOne K (.type t) (.type "int") = some (isI v || t == "bool") ∧ PySem.W.kitOne K (.type t) (.type "bool") = some (t == "bool") ∧
    PySem.W.kitOne K (.type t) (.type "tuple") = some (t == "tuple") ∧ PySem.W.kitOne K (.type t) (.type "list") = some (t == "list") ∧ PySem.W.kitOne K (.type t) (.type "str") = some (t == "str") ∧ PySem.W.kitOne K (.type t) (.type "dict") = some (t == "dict") := by
  cases h with
  | non => exact ⟨kit_ty (show kitB "NoneType" "int" = some false by decide +kernel), kit_ty (by decide +kernel), kit_ty (by decide +kernel), kit_ty (by decide +kernel), kit_ty (by decide +kernel), kit_ty (by decide +kernel)⟩
  | bl b => exact ⟨kit_ty (show kitB "bool" "int" = some true by decide +kernel), kit_ty (by decide +kernel), kit_ty (by decide +kernel), kit_ty (by decide +kernel), kit_ty (by decide +kernel), kit_ty (by decide +kernel)⟩
  | int i => exact ⟨kit_ty (show kitB "int" "int" = some true by decide +kernel), kit_ty (by decide +kernel), kit_ty (by decide +kernel), kit_ty (by decide +kernel), kit_ty (by decide +kernel), kit_ty (by decide +kernel)⟩
  | str x => exact ⟨kit_ty (show kitB "str" "int" = some false by decide +kernel), kit_ty (by decide +kernel), kit_ty (by decide +kernel), kit_ty (by decide +kernel), kit_ty (by decide +kernel), kit_ty (by decide +kernel)⟩
  | lst h => exact ⟨kit_ty (show kitB "list" "int" = some false by decide +kernel), kit_ty (by decide +kernel), kit_ty (by decide +kernel), kit_ty (by decide +kernel), kit_ty (by decide +kernel), kit_ty (by decide +kernel)⟩
  | tup h => exact ⟨kit_ty (show kitB "tuple" "int" = some false by decide +kernel), kit_ty (by decide +kernel), kit_ty (by decide +kernel), kit_ty (by decide +kernel), kit_ty (by decide +kernel), kit_ty (by decide +kernel)⟩
  | dct h => exact ⟨kit_ty (show kitB "dict" "int" = some false by decide +kernel), kit_ty (by decide +kernel), kit_ty (by decide +kernel), kit_ty (by decide +kernel), kit_ty (by decide +kernel), kit_ty (by decide +kernel)⟩
theorem AnyT.notB {K : PySem.W.Frag} {H : Hp} {v : V} {t : String} (h : AnyT K H v t) (hi : isI v = true) : (t == "bool") = false := by
  cases h <;> first | rfl | (cases hi)
def spIsInt (K : PySem.W.Frag) : Sp := fun vs H Q _ => ∃ v t, vs = [v] ∧ AnyT K H v t ∧ Q (.bl (isI v)) H
def t_is_integer (K : PySem.W.Frag) : TS := tRet (tAndV (tCB (rIsi K) (tCons (tVar 0) (tCons (tC (.ty "int")) tNil))) (tNotV (tCB (rIsi K) (tCons (tVar 0) (tCons (tC (.ty "bool")) tNil)))))
theorem pure_is_integer {K : PySem.W.Frag} (vs : List V) (H : Hp) (Q : VK) (E : XK) (h : spIsInt K vs H Q E) : t_is_integer K { nx := fun _ H' => Q .non H', rt := Q } (start ["value"] vs) H := by
  obtain ⟨v, t, rfl, hv, q⟩ := h
  obtain ⟨k1, k2, _⟩ := hv.kit
  refine ⟨_, rfl, _, _, _, _, _, rfl, .ty _, hv.ty, k1, _, rfl, ?_⟩
  cases hi : isI v with
  | true =>
    refine iteT ⟨_, rfl, _, _, _, _, _, rfl, .ty _, hv.ty, k2, _, rfl, ?_⟩
    rw [hv.notB hi]
    rw [hi] at q
    exact q
  | false =>
    rw [hi] at q
    cases hb : t == "bool" with
    | true =>
      refine iteT ⟨_, rfl, _, _, _, _, _, rfl, .ty _, hv.ty, k2, _, rfl, ?_⟩
      rw [hb]
      exact q
    | false => exact iteF q
/-- an integer from lo to hi -/
def btw (lo hi : Int) : V → Bool
  | .int i => decide (lo ≤ i) && decide (i ≤ hi)
  | _ => false
def spBetween (K : PySem.W.Frag) : Sp := fun vs H Q _ => ∃ v t lo hi, vs = [v, lo, hi] ∧ AnyT K H v t ∧ (isI v = true → ∃ i j, lo = .int i ∧ hi = .int j ∧ Q (.bl (btw i j v)) H) ∧ (isI v = false → Q (.bl false) H)
def t_is_between (K : PySem.W.Frag) : TS := tRet (tAndV (tCall (spIsInt K) [] E0 (tCons (tVar 0) (tNil))) (tChain qLe qLe (tVar 1) (tVar 0) (tVar 2)))
theorem pure_is_between {K : PySem.W.Frag} (vs : List V) (H : Hp) (Q : VK) (E : XK) (h : spBetween K vs H Q E) : t_is_between K { nx := fun _ H' => Q .non H', rt := Q } (start ["value", "low", "high"] vs) H := by
  obtain ⟨v, t, lo, hi, rfl, hv, q, q'⟩ := h
  refine ⟨_, rfl, v, t, rfl, hv, _, rfl, ?_⟩
  cases e : isI v with
  | false => exact iteF (q' e)
  | true =>
    obtain ⟨i, j, rfl, rfl, q2⟩ := q e
    cases v with
    | int z =>
      refine iteT ⟨_, rfl, _, rfl, i, z, rfl, rfl, _, rfl, ?_⟩
      have q2 : Q (.bl (decide (i ≤ z) && decide (z ≤ j))) H := q2
      by_cases h1 : i ≤ z
      · rw [decide_eq_true h1] at q2 ⊢
        exact iteT ⟨_, rfl, z, j, rfl, rfl, q2⟩
      · rw [decide_eq_false h1] at q2 ⊢
        exact iteF q2
    | _ => cases e
def spCapacity (K : PySem.W.Frag) : Sp := fun vs H Q _ => ∃ v t, vs = [v] ∧ AnyT K H v t ∧ Q (.bl (btw 1 99 v)) H
def t_is_capacity (K : PySem.W.Frag) : TS := tRet (tCall (spBetween K) [] E0 (tCons (tVar 0) (tCons (tC (.int 1)) (tCons (tC (.int 99)) (tNil)))))
theorem btw_not {v : V} (h : isI v = false) (i j : Int) : btw i j v = false := by
  cases v <;> first | rfl | (cases h)
theorem pure_is_capacity {K : PySem.W.Frag} (vs : List V) (H : Hp) (Q : VK) (E : XK) (h : spCapacity K vs H Q E) : t_is_capacity K { nx := fun _ H' => Q .non H', rt := Q } (start ["value"] vs) H := by
  obtain ⟨v, t, rfl, hv, q⟩ := h
  exact ⟨_, rfl, v, t, _, _, rfl, hv, fun _ => ⟨1, 99, rfl, rfl, q⟩, fun e => by rw [btw_not e] at q; exact q⟩
end SR
set_option Elab.async false
set_option linter.all false
set_option maxRecDepth 100000
set_option maxHeartbeats 4000000
namespace SR
open PySem L2
/-- the way out of a def that raises: an error of the class, without a dict of its own -/
def tOut (C : Value) (E : XK) : TS := fun _ _ H => E C none H
/-- what a carrier of capacity c with load u leaves of a box of capacity d with x items: the count, the load -/
def stC (c u d x : Int) : Int := x - min (c - u) x + min u (d - x)
def stL (c u d x : Int) : Int := u + min (c - u) x - min u (d - x)
/-- an integer from 0 to what w is -/
def upto (w v : V) : Bool := match w with
  | .int c => btw 0 c v
  | _ => false
theorem btw_iff {lo hi : Int} {v : V} : btw lo hi v = true ↔ ∃ i, v = .int i ∧ lo ≤ i ∧ i ≤ hi := by
  cases v with
  | int i =>
    show (decide (lo ≤ i) && decide (i ≤ hi)) = true ↔ _
    rw [Bool.and_eq_true, decide_eq_true_iff, decide_eq_true_iff]
    exact ⟨fun h => ⟨i, rfl, h⟩, fun ⟨j, e, h⟩ => by cases e; exact h⟩
  | _ => exact Iff.intro (fun h => nomatch h) (fun ⟨j, e, _⟩ => nomatch e)
end SR
set_option Elab.async false
set_option linter.all false
set_option maxRecDepth 100000
set_option maxHeartbeats 4000000
namespace SR
open PySem L2
theorem StB.d {H : Hp} {d g c : Addr} {b : Nat} (S : StB H d g c b) : ∃ o, H d = some o := let ⟨_, _, _, _, h, _⟩ := S; ⟨_, h⟩
theorem StB.g {H : Hp} {d g c : Addr} {b : Nat} (S : StB H d g c b) : ∃ o, H g = some o := let ⟨_, _, _, _, _, h, _⟩ := S; ⟨_, h⟩
theorem StB.c {H : Hp} {d g c : Addr} {b : Nat} (S : StB H d g c b) : ∃ o, H c = some o := let ⟨_, _, _, _, _, _, h, _⟩ := S; ⟨_, h⟩
/-- a new address is none of the state's -/
theorem StB.off {H : Hp} {d g c p : Addr} {b : Nat} (S : StB H d g c b) (h : H p = none) : p ≠ d ∧ p ≠ g ∧ p ≠ c := by
  obtain ⟨_, h1⟩ := S.d
  obtain ⟨_, h2⟩ := S.g
  obtain ⟨_, h3⟩ := S.c
  exact ⟨(ne_of_none h1 h).symm, (ne_of_none h2 h).symm, (ne_of_none h3 h).symm⟩
theorem hid_new {d g p : Addr} {H : Hp} {o : HO} (h1 : p ≠ d) (h2 : p ≠ g) : hid d g (upd H p o) p = some o := hid_of upd_same h1 h2
theorem sz {n : Nat} (h : n ≤ 1000) : n ≤ sizeLine := Nat.le_of_lt (small1000 h)
abbrev qIsN : R2 := fun x y H Q => y = .non ∧ Q (.bl (decide (x = .non))) H
/-- a <= b <= c as a value -/
theorem chain_le {σ : L2.St} {H : Hp} {Q : VK} {ta tb tc : TE} {i j k : Int} (ha : ∀ Q' : VK, Q' (.int i) H → ta σ H Q') (hb : ∀ Q' : VK, Q' (.int j) H → tb σ H Q') (hc : ∀ Q' : VK, Q' (.int k) H → tc σ H Q') (q : Q (.bl (decide (i ≤ j) && decide (j ≤ k))) H) : tChain qLe qLe ta tb tc σ H Q := by
  refine ha _ (hb _ ⟨i, j, rfl, rfl, _, rfl, ?_⟩)
  by_cases h : i ≤ j
  · rw [decide_eq_true h] at q ⊢
    exact iteT (hc _ ⟨j, k, rfl, rfl, q⟩)
  · rw [decide_eq_false h] at q ⊢
    exact iteF q
end SR
set_option Elab.async false
set_option linter.all false
set_option maxRecDepth 100000
set_option maxHeartbeats 4000000
set_option Elab.async false
set_option linter.all false
set_option maxRecDepth 100000
set_option maxHeartbeats 4000000
namespace SR
open PySem L2
mutual
def cost : PyData → Nat
  | .none => 4
  | .bool _ => 5
  | .int _ => 1921
  | .str x => (reprText x).length
  | .list xs => costAll xs + 4
  | .tuple xs => costAll xs + 4
  | .dict _ => 0
def costAll : List PyData → Nat
  | [] => 0
  | x :: xs => cost x + 2 + costAll xs
end
theorem listText_len (ts : List Str) : (listText ts).length ≤ piled ts + 2 := by
  cases ts with
  | nil => decide
  | cons t r =>
    have h := textFrom_length_pos r 1 (("[" : Str) ++ (if (0 : Nat) > 0 then ", " else "" : String) ++ t) (Nat.succ_pos 0)
    have e : ((("[" : Str) ++ (if (0 : Nat) > 0 then ", " else "" : String) ++ t)).length = 1 + t.length := by
      simp only [strLen_append] <;> rfl
    have e2 : (listText (t :: r)).length = (textFrom 1 (("[" : Str) ++ (if (0 : Nat) > 0 then ", " else "" : String) ++ t) r).length + 1 := by
      show (textFrom 1 (("[" : Str) ++ (if (0 : Nat) > 0 then ", " else "" : String) ++ t) r ++ "]").length = _
      simp only [strLen_append] <;> rfl
    rw [e2, h, e, piled_cons]
    omega
theorem tupleText_len (ts : List Str) : (tupleText ts).length ≤ piled ts + 4 := by
  unfold tupleText
  rw [strLen_append, strLen_append]
  have e1 : ((("(" : String) : Str)).length = 1 := rfl
  have e3 : (((if ts.length == 1 then ",)" else ")" : String) : Str)).length ≤ 2 := by split <;> decide
  by_cases h : ts = []
  · subst h
    have e4 : (Str.join ", " []).length = 0 := rfl
    omega
  · have := join_length_add ts h
    omega
mutual
theorem shown_cost : ∀ d : PyData, d.showable = true → d.hasDict = false → d.shown.length ≤ cost d
  | .none, _, _ => by show (("None" : String) : Str).length ≤ 4; decide
  | .bool b, _, _ => by cases b <;> (simp only [PyData.shown, cost]; decide)
  | .int i, h, _ => by
    have e := int_text_length_le (k := 1920) (by decide) (of_decide_eq_true h)
    show (Str.ofString (toString i)).length ≤ 1921
    rw [ofString_length]
    exact e
  | .str x, _, _ => Nat.le_refl _
  | .list xs, h, hd => by
    have q := shownAll_cost xs h hd
    have := listText_len (PyData.shownAll xs)
    show (listText (PyData.shownAll xs)).length ≤ costAll xs + 4
    omega
  | .tuple xs, h, hd => by
    have q := shownAll_cost xs h hd
    have := tupleText_len (PyData.shownAll xs)
    show (tupleText (PyData.shownAll xs)).length ≤ costAll xs + 4
    omega
  | .dict _, _, hd => nomatch hd
theorem shownAll_cost : ∀ ds : List PyData, PyData.showableAll ds = true → PyData.hasDictAll ds = false → piled (PyData.shownAll ds) ≤ costAll ds
  | [], _, _ => Nat.le_refl _
  | d :: ds, h, hd => by
    have h' : (PyData.showable d && PyData.showableAll ds) = true := h
    have hd' : (PyData.hasDict d || PyData.hasDictAll ds) = false := hd
    rw [Bool.and_eq_true] at h'
    rw [Bool.or_eq_false_iff] at hd'
    have q1 := shown_cost d h'.1 hd'.1
    have q2 := shownAll_cost ds h'.2 hd'.2
    show piled (PyData.shown d :: PyData.shownAll ds) ≤ cost d + 2 + costAll ds
    rw [piled_cons]
    omega
end
theorem dRepr_cost {d : PyData} (h : d.showable = true) (hd : d.hasDict = false) : (dRepr d).length ≤ cost d := by
  cases d with
  | dict _ => cases hd
  | _ => exact shown_cost _ h hd
theorem show_int {i : Int} (h : i.natAbs < 2 ^ 1900) : (PyData.int i).showable = true := by
  show decide (i.natAbs.log2 < 1920) = true
  refine decide_eq_true ?_
  by_cases e : i.natAbs = 0
  · rw [e]; decide
  · exact Nat.lt_of_lt_of_le ((Nat.log2_lt e).mpr h) (by decide)
theorem repr_fit {K : PySem.W.Frag} {H : Hp} {x : V} {d : PyData} (hs : d.showable = true) (hx : Dp K H x d) (hc : cost d ≤ 1000000) : (dRepr d).length ≤ sizeLine :=
  Nat.le_trans (dRepr_cost hs (dp_nodict _ _ hx)) (Nat.le_trans hc (by decide))
theorem eq_same {K : PySem.W.Frag} {H : Hp} {x y : V} {d : PyData} {Q : VK} (hx : Dp K H x d) (hy : Dp K H y d) (hs : SeqAt.shaped d = true) (q : Q (.bl true) H) : rEqD K x y H Q := by
  refine ⟨d, d, hx, hy, hs, hs, ?_⟩
  have e : PyData.eqv d d = true := SeqAt.eqv_refl d (by
    unfold SeqAt.shaped at hs
    rw [Bool.and_eq_true] at hs
    exact hs.1)
  rw [e]
  exact q
end SR
set_option Elab.async false
set_option linter.all false
set_option maxRecDepth 100000
set_option maxHeartbeats 4000000
namespace SR
open PySem L2
section
variable {K : PySem.W.Frag} {B : Addr}
theorem StB.same {H H' : Hp} {d g c : Addr} {b : Nat} (e : Same H H') (S : StB H d g c b) : StB H' d g c b := by
  obtain ⟨r, t, gs, cs, h1, h2, h3, h4⟩ := S
  exact ⟨r, t, gs, cs, e _ _ h1, e _ _ h2, e _ _ h3, h4⟩
/-- the list of four, as the rest of a turn finds it -/
structure Four (K : PySem.W.Frag) (H : Hp) (d g c s : Addr) (v1 v2 v3 v4 : V) : Prop where
  at_ : H s = some (.lst [v1, v2, v3, v4])
  nd : s ≠ d
  ng : s ≠ g
  nc : s ≠ c
  k1 : ∃ t, AnyT K (hid d g H) v1 t
  k2 : ∃ t, AnyT K (hid d g H) v2 t
  k3 : ∃ t, AnyT K (hid d g H) v3 t
  k4 : ∃ t, AnyT K (hid d g H) v4 t
theorem Four.kp {H H' : Hp} {d g c s : Addr} {v1 v2 v3 v4 : V} (F : Four K H d g c s v1 v2 v3 v4) (k : Kp d g H H') : Four K H' d g c s v1 v2 v3 v4 :=
  ⟨k _ _ F.nd F.ng F.at_, F.nd, F.ng, F.nc, let ⟨t, h⟩ := F.k1; ⟨t, h.same k.hid⟩, let ⟨t, h⟩ := F.k2; ⟨t, h.same k.hid⟩, let ⟨t, h⟩ := F.k3; ⟨t, h.same k.hid⟩, let ⟨t, h⟩ := F.k4; ⟨t, h.same k.hid⟩⟩
def pr2 (i j : Int) : PyData := .tuple [.int i, .int j]
theorem dp_pr2 {H : Hp} {p : Addr} {i j : Int} (h : H p = some (.tup [.int i, .int j])) : Dp K H (.ref p) (pr2 i j) := .tup (SqT.of h) (.cons (.int i) (.cons (.int j) .nil))
end
end SR
set_option Elab.async false
set_option linter.all false
set_option maxRecDepth 100000
set_option maxHeartbeats 4000000
namespace SR
open PySem PySem.Spec PyProof.Rows L2
structure Kn (P : Program) (w : World) (K : PySem.W.Frag) (mg : Str → Option Value) (base : Heap) (CX : CXT) (k : Nat) (x : Str) (ps : List Str) (sp : Sp) : Prop where
  ex : ∃ f fd, FnOk P w K mg base CX k f fd ps sp ∧ mg x = some (.ref f) ∧ PySem.W.keepIn K (.ref f) = true ∧ L2.Binds K fd ps []
section
variable {X : Cx} {CX : CXT} {k j : Nat} {ps ks : List Str} {sp : Sp} {E : XK} {x : Str} {p pos : Pos} {e : Expr} {es : List Expr} {t tk : TA} {kws : List Keyword} {gV : List V → List V → List V}
theorem pe_k (c : Kn X.prog X.w X.K X.mg X.base CX k x ps sp) (hr : Room j X.A) (hk : k ≤ j) (hg : Gl X x) (hx : Passes CX X E) (ha : PA X (e :: es) t) (hdb : (x == ("__debug__" : Str)) = false := by decide)
    (he : starEach (e :: es) X.env = (false, eval e X.env) :: starEach es X.env := by rfl) (hpl : (backTo pos (starEach es X.env)).any (·.1) = false := by rfl) : PE X (.Call (.Name x p) (e :: es) [] pos) (tCall sp [] E t) := by
  obtain ⟨f, fd, F, hm, kp, b⟩ := c.ex
  exact pe_call F (hr.mono hk) hg hm kp b .nil hx ha hdb he hpl
end
/-- a module's name by its value -/
theorem pe_gl {X : Cx} {x : Str} {pos : Pos} {v : V} (hg : Gl X x) (h : ∃ u, X.mg x = some u ∧ RelV v u) (hdb : (x == ("__debug__" : Str)) = false := by decide) : PE X (.Name x pos) (tC v) := by
  obtain ⟨u, h1, h2⟩ := h
  exact pe_glob hg h1 h2 hdb
def excB (K : PySem.W.Frag) (D : Addr) : Bool :=
  decide (PySem.W.findIn K (.ref D) "__getattribute__" = some (some (.builtin "BaseException.__getattribute__"))) && (decide (PySem.W.findIn K (.ref D) "__getattr__" = some none) && (decide (PySem.W.subIn K (.ref D) (.type "BaseException") = some true) && (PySem.W.hasDictIn K D &&
  (decide (PySem.W.findIn K (.ref D) "__class__" = some (some (.builtin "object.__class__"))) && (decide (PySem.W.specialIn K (.builtin "object.__class__") "__get__" = some (some (.builtin "getset_descriptor.__get__"))) && (decide (PySem.W.takesIn K (.builtin "object.__class__") = some true) && decide (PySem.W.mroIn K D (.type "object") = some true)))))))
theorem excB_ok {K : PySem.W.Frag} {D : Addr} (h : excB K D = true) : ExcC K D := by
  unfold excB at h
  simp only [Bool.and_eq_true, decide_eq_true_eq] at h
  obtain ⟨h1, h2, h3, h4, h5, h6, h7, h8⟩ := h
  exact ⟨h1, h2, h3, h4, h5, h6, h7, h8⟩
def kitIs (K : PySem.W.Frag) (t c : Value) (b : Bool) : Bool := decide (PySem.W.kitOne K t c = some b)
theorem kitIs_ok {K : PySem.W.Frag} {t c : Value} {b : Bool} (h : kitIs K t c b = true) : PySem.W.kitOne K t c = some b := of_decide_eq_true h
end SR
set_option Elab.async false
set_option linter.all false
set_option maxRecDepth 100000
set_option maxHeartbeats 4000000
namespace SR
open PySem PySem.Spec L2
/-- {elt for tg in iter if ..}, each item a whole number -/
def tScN (w : World) (wi : TI) (g : TG) (tt : TT) (te : TE) (vs : List Nat) : TE := fun σ H Q => wi σ H fun J H1 => ∀ D, H1 D = none →
  ∃ W : Nat → Nat → Hp → Prop, (∃ m, W 0 m (upd H1 D (SetO w D (fun _ => false) 0))) ∧ ∀ i m H2, W i m H2 →
    (J.stop i H2 ∧ Q (.ref D) H2) ∨ (J.go i H2 ∧ ∃ Nx : Hp → Prop, (∀ H', Nx H' → ∃ m', m' < m ∧ W (i + 1) m' H') ∧ ∀ x H', J.yld i H2 x H' → g x (wipe σ vs) H' fun σ2 H3 => wipe σ2 vs = wipe σ vs ∧ tt σ2 H3 fun b H4 =>
      if b = true then te σ2 H4 fun y H5 => rSAdd w (.ref D) [y] H5 fun _ H6 => Nx H6 else Nx H4)
section
variable {X : Cx}
/-- the places that a block's walk keeps to itself -/
def Apart (X : Cx) (fp : List Addr) (H : Hp) : Prop := ∀ b ∈ fp, H b = none
theorem apart_ok {s : Shared} {H3 : Hp} {scope : Scope} {ce : Env} {fp : List Addr} {σ : L2.St} {H : Hp} {s' : Shared} (I : L2.Inv (X.blk s H3 scope ce fp) [] σ H s') (h : Apart X fp H) : ∀ b ∈ fp, FpOk (X.blk s H3 scope ce fp) [] H b := by
  intro b hb
  have a := I.ok.exf b hb
  exact ⟨h b hb, a.1, I.ok.exfs b hb, Or.inl hb, fun x c e => a.2 x c e, fun p hp => nomatch hp⟩
theorem pe_scN {elt tg iter : Expr} {ifs : List Expr} {scope : Scope} {own : List (PySem.Str × Nat)} {pos : Pos} {wi : TI} {g : TG} {tt : TT} {te : TE} (hc : X.calm = true) (hN : X.N.Nodup) (hi : PI X tg iter wi) (ok : BlkOk X.N X.env.scope scope own)
    (hg : ∀ s H C cl fp, PG (X.blk s H scope (compEnvC scope cl C X.env) fp) tg g) (ht : ∀ s H C cl fp, PTs (X.blk s H scope (compEnvC scope cl C X.env) fp) ifs tt)
    (he : ∀ s H C cl fp, PE (X.blk s H scope (compEnvC scope cl C X.env) fp) elt te) (hs : ∀ x, foldedSetIterable iter X.env x = pure x := by intro _; rfl) :
    PE X (.SetComp elt [⟨tg, iter, ifs, 0⟩] scope pos) (tScN X.w wi g tt te (own.map (·.2))) := by
  constructor
  intro pins s σ H Q I h
  rw [PpSet.eval_SetComp]
  have cells : ∀ y ∈ scope.names, y.2 = .free → ∃ c, X.env.cells.lookup y.1 = some c := by
    intro y hy e
    cases ok.free y hy e with
    | inl k => exact I.ok.has _ (Or.inl k)
    | inr k => exact I.ok.has _ (Or.inr k)
  apply wpAny_comprehension_free rfl hs (closure_ok cells) ok.kind (fun y hy e => by rw [ok.uniq y hy, e])
  refine thn (hi.run pins s σ H _ I h) fun xv s1 hx => thn hx fun itv s2 h2 => ?_
  obtain ⟨it, fp, tn, J, H2, rfl, I2, T, run2, f2, q⟩ := h2
  have hfr := I2.hok.fresh (Nat.le_refl s2.heap.objs.size)
  obtain ⟨W, ⟨m0, w0⟩, turn⟩ := q _ hfr
  apply PpSet.newSet_ok
  -- the heap with the empty set
  have new := setO_new (P := X.prog) (H := upd H2 s2.heap.objs.size (SetO X.w s2.heap.objs.size (fun _ => false) 0)) (setR_fresh (h := s2.heap) X.w)
  have I3 : L2.Inv X pins σ (upd H2 s2.heap.objs.size (SetO X.w s2.heap.objs.size (fun _ => false) 0)) { s2 with heap := s2.heap.push ⟨.type "set", none, .set #[] 0 (.fresh 0 0 (!X.w.params.followText "set-order")), #[]⟩ } :=
    I2.laid (t' := s2.toks) (fun b o e => Heap.get?_push_of_some _ e) (Nat.le_refl _) new
  have run3 : tn 0 (s2.heap.push ⟨.type "set", none, .set #[] 0 (.fresh 0 0 (!X.w.params.followText "set-order")), #[]⟩) := T.keep _ _ _ run2 fun b _ o e => Heap.get?_push_of_some _ e
  have low : ∀ b ∈ fp, b < s2.heap.objs.size := fun b hb => let ⟨o, e, _⟩ := T.obj _ _ run2 b hb; Heap.lt_size e
  have f3 : ∀ b ∈ fp, FpOk X pins (upd H2 s2.heap.objs.size (SetO X.w s2.heap.objs.size (fun _ => false) 0)) b ∧ b < (s2.heap.push ⟨.type "set", none, .set #[] 0 (.fresh 0 0 (!X.w.params.followText "set-order")), #[]⟩).objs.size := by
    intro b hb
    have l := low b hb
    refine ⟨⟨(upd_ne (Nat.ne_of_lt l)).trans (f2 b hb).1, (f2 b hb).2⟩, ?_⟩
    rw [Heap.size_push]
    exact Nat.lt_succ_of_lt l
  clear new low f2 run2 hx h I2 I hi hfr q
  generalize upd H2 s2.heap.objs.size (SetO X.w s2.heap.objs.size (fun _ => false) 0) = H3 at I3 w0 f3
  generalize s2.heap.objs.size = D at turn
  generalize hs3 : ({ s2 with heap := s2.heap.push ⟨.type "set", none, .set #[] 0 (.fresh 0 0 (!X.w.params.followText "set-order")), #[]⟩ } : Shared) = s3 at I3 ⊢
  have e3 : s2.heap.push ⟨.type "set", none, .set #[] 0 (.fresh 0 0 (!X.w.params.followText "set-order")), #[]⟩ = s3.heap := by rw [← hs3]
  rw [e3] at run3 f3
  clear hs3 e3
  apply newEnv_comp
  have I4 := block_start I3 ok hN f3
  have run4 : tn 0 (pushCells (s3.heap.push { cls := .type "dict", data := .dict #[] }) scope.names) := T.keep _ _ _ run3 fun b _ o e => pushCells_keeps _ _ _ _ (Heap.get?_push_of_some _ e)
  have pg := hg s3 H3 s3.heap.objs.size (cellsFrom (s3.heap.objs.size + 1) scope.names (cloFrom X.env.cells scope.names [])) fp
  have pt := ht s3 H3 s3.heap.objs.size (cellsFrom (s3.heap.objs.size + 1) scope.names (cloFrom X.env.cells scope.names [])) fp
  have pe := he s3 H3 s3.heap.objs.size (cellsFrom (s3.heap.objs.size + 1) scope.names (cloFrom X.env.cells scope.names [])) fp
  show codeAny _ _ (.compStart _ 0 (.ref it) (.ref D) (compEnvC scope (cellsFrom (s3.heap.objs.size + 1) scope.names (cloFrom X.env.cells scope.names [])) s3.heap.objs.size X.env)) (compPost _ _ _ none _ (.ref D) s3.heap.objs.size) _
  have here : (compEnvC scope (cellsFrom (s3.heap.objs.size + 1) scope.names (cloFrom X.env.cells scope.names [])) s3.heap.objs.size X.env).locals = s3.heap.objs.size := rfl
  generalize compEnvC scope (cellsFrom (s3.heap.objs.size + 1) scope.names (cloFrom X.env.cells scope.names [])) s3.heap.objs.size X.env = ce at I4 pg pt pe here ⊢
  refine (fun loop => PpSet.codeAny_compStart_set loop (T.self X.A 0 _ _ _ run4 loop)) ?_
  replace run4 : tn 0 ({ s3 with heap := pushCells (s3.heap.push { cls := .type "dict", data := .dict #[] }) scope.names } : Shared).heap := run4
  generalize ({ s3 with heap := pushCells (s3.heap.push { cls := .type "dict", data := .dict #[] }) scope.names } : Shared) = s4 at I4 run4 ⊢
  refine PpSet.compLoopS_any (fun n s' => ∃ i H', L2.Inv (X.blk s3 H3 scope ce fp) [] (wipe σ (own.map (·.2))) H' s' ∧ tn i s'.heap ∧ Apart X fp H' ∧ W i n H') ?_ m0 ⟨0, H3, I4, run4, fun b hb => (f3 b hb).1.1, w0⟩
  rintro n s5 ⟨i, H5, I5, t5, a5, w5⟩
  cases turn i n H5 w5 with
  | inl over =>
    refine thnF (T.done (X.blk s3 H3 scope ce fp) rfl rfl rfl hc i [] s5 _ H5 (fun _ _ => False) I5 (apart_ok I5 a5) t5 over.1) ?_
    rintro r s6 ⟨rfl, I6⟩
    have I7 : L2.Inv X pins σ H5 s6 := I3.call' (ch := fp) I6.os I6.base I6.hok I6.bare fun b hb => let z := (f3 b hb).1.2; ⟨z.2.2.1, z.1, z.2.2.2.1, z.2.2.2.2⟩
    obtain ⟨m, ns, _⟩ := I6.loc
    have fr := I6.free
    change H5 ce.locals = none at fr
    change s6.heap.Ns ce.locals m at ns
    rw [here] at fr ns
    obtain ⟨c0, c1, c2, c3, c4, c5⟩ := I3.fpOk (Nat.le_refl _) fr
    exact ⟨m, ns, fun h2 sb => ⟨.ref D, H5, I7.turned (t' := s6.toks) (fun b o hb e => (sb.2 b hb).trans e) c0 c1 c3 c4 c5, rfl, over.2⟩⟩
  | inr more =>
    obtain ⟨go, Nx, hNx, step⟩ := more
    refine thnF (T.item (X.blk s3 H3 scope ce fp) rfl rfl rfl hc i [] s5 _ H5 (fun _ _ => False) I5 (apart_ok I5 a5) t5 go) ?_
    rintro r s6 ⟨u, rfl, h6⟩
    refine thnF h6 ?_
    rintro _ s7 ⟨x, H7, I7, r7, y7, t7, a7⟩
    refine thnF (pg.run _ s7 _ H7 x u _ (I7.pinned (apart_ok I7 a7) (T.obj _ _ t7)) r7 (step x H7 y7)) ?_
    rintro _ s8 ⟨σ8, H8, I8, hw, q8⟩
    refine thnF (pt.run _ s8 σ8 H8 _ I8 q8) ?_
    rintro b s9 ⟨H9, I9, q9⟩
    -- a turn's end
    have done : ∀ (s' : Shared) (H' : Hp), L2.Inv (X.blk s3 H3 scope ce fp) ([] ++ pinsAt fp s7.heap) σ8 H' s' → Nx H' →
        ∃ m, m < n ∧ ∃ i H', L2.Inv (X.blk s3 H3 scope ce fp) [] (wipe σ (own.map (·.2))) H' s' ∧ tn i s'.heap ∧ Apart X fp H' ∧ W i m H' := by
      intro s' H' I' nx
      obtain ⟨m', less, w'⟩ := hNx H' nx
      have kept : ∀ b ∈ fp, ∀ o, s7.heap.get? b = some o → s'.heap.get? b = some o ∧ H' b = none := by
        intro b hb o e
        have z := I'.pin (b, o) (List.mem_append_right _ (List.mem_append_right _ (mem_pinsAt hb e)))
        exact ⟨z.1, z.2.1⟩
      have ln : (wipe σ (own.map (·.2))).length = σ8.length := by rw [← hw, wipe_length]
      have low : L2.Inv (X.blk s3 H3 scope ce fp) [] (wipe σ (own.map (·.2))) H' s' := (I'.unpinned (pins := [])).weak ln fun j v e => by
        rw [← hw] at e
        exact (wipe_some e).1
      have ap : Apart X fp H' := fun b hb => let ⟨o, e, _⟩ := T.obj _ _ t7 b hb; (kept b hb o e).2
      exact ⟨m', less, i + 1, H', low, T.keep _ _ _ t7 (fun b hb o e => (kept b hb o e).1), ap, w'⟩
    cases b with
    | false =>
      rw [if_neg Bool.false_ne_true] at q9 ⊢
      exact done _ _ I9 q9
    | true =>
      rw [if_pos rfl] at q9 ⊢
      refine thnF (pe.run _ s9 σ8 H9 _ I9 q9) ?_
      rintro z s10 ⟨y, H10, I10, ry, q10⟩
      refine thnF (mt_sadd (X := X.blk s3 H3 scope ce fp) _ s10 σ8 H10 (.ref D) [y] (.ref D) [z] _ I10 rfl (.cons ry .nil) q10) ?_
      rintro _ s11 ⟨_, H11, I11, _, q11⟩
      exact done _ _ I11 q11
end
end SR
set_option Elab.async false
set_option linter.all false
set_option maxRecDepth 100000
set_option maxHeartbeats 4000000
namespace SR
open PySem PySem.Spec PyProof.Rows L2
/-- a walk for a set display -/
theorem scN_it {J : It} {n : Nat} {G : Hp → Prop} {Y : Nat → Hp → V → Hp → Prop} (wk : Walk J n G Y) {w : World} {g : TG} {tt : TT} {te : TE} {vs : List Nat} {σ : L2.St} {H1 : Hp} {D : Addr} {Qd : Hp → Prop} (Pv : Nat → Hp → Prop)
    (h0 : Pv 0 (upd H1 D (SetO w D (fun _ => false) 0))) (hG : ∀ i H, i ≤ n → Pv i H → G H)
    (hs : ∀ i x H H', i < n → Pv i H → Y i H x H' → g x (wipe σ vs) H' fun σ2 H3 => wipe σ2 vs = wipe σ vs ∧ tt σ2 H3 fun b H4 => if b = true then te σ2 H4 fun y H5 => rSAdd w (.ref D) [y] H5 fun _ H6 => Pv (i + 1) H6 else Pv (i + 1) H4)
    (hd : ∀ H, Pv n H → Qd H) : ∃ W : Nat → Nat → Hp → Prop, (∃ m, W 0 m (upd H1 D (SetO w D (fun _ => false) 0))) ∧ ∀ i m H2, W i m H2 →
      (J.stop i H2 ∧ Qd H2) ∨ (J.go i H2 ∧ ∃ Nx : Hp → Prop, (∀ H', Nx H' → ∃ m', m' < m ∧ W (i + 1) m' H') ∧ ∀ x H', J.yld i H2 x H' → g x (wipe σ vs) H' fun σ2 H3 => wipe σ2 vs = wipe σ vs ∧ tt σ2 H3 fun b H4 =>
        if b = true then te σ2 H4 fun y H5 => rSAdd w (.ref D) [y] H5 fun _ H6 => Nx H6 else Nx H4) := by
  refine ⟨fun i m H => i + m = n ∧ Pv i H, ⟨n, Nat.zero_add n, h0⟩, ?_⟩
  rintro i m H ⟨rfl, p⟩
  have gh := hG i H (Nat.le_add_right i m) p
  cases m with
  | zero => exact .inl ⟨wk.stops H gh, hd H p⟩
  | succ m =>
    have lt : i < i + (m + 1) := by omega
    exact .inr ⟨wk.goes i H lt gh, Pv (i + 1), fun H' p' => ⟨m, Nat.lt_succ_self m, by omega, p'⟩, fun x H' y => hs i x H H' lt p (wk.yields i H x H' lt gh y)⟩
section
variable {X : Cx}
theorem pi_or {tg l : Expr} {a b : TI} (ha : PI X tg l a) (hb : PI X tg l b) : PI X tg l (fun σ H R => a σ H R ∨ b σ H R) :=
  ⟨fun pins s σ H R I h => h.elim (ha.run pins s σ H R I) (hb.run pins s σ H R I)⟩
theorem cr_or {f : Value} {a b : List V → Hp → VK → Prop} (ha : CallR X f a) (hb : CallR X f b) : CallR X f (fun xs H Q => a xs H Q ∨ b xs H Q) :=
  fun pins s σ H xs us Q I r h => h.elim (ha pins s σ H xs us Q I r) (hb pins s σ H xs us Q I r)
/-- what is never come to -/
theorem ps_no {st : Stmt} : PS X st (fun _ _ _ => False) := ⟨fun _ _ _ _ _ _ h => h.elim⟩
/-- len of a set of whole numbers -/
theorem cr_lenSet : CallR X (.builtin "len") (fun xs H Q => ∃ a S n, xs = [V.ref a] ∧ H a = some (SetO X.w a S n) ∧ Q (.int n) H) := by
  intro pins s σ H xs us Q I r h
  obtain ⟨a, S, n, rfl, ha, q⟩ := h
  obtain ⟨u, rfl, ru⟩ := vals1 r
  cases ru
  obtain ⟨o, es, ep, t, ho, ex, hd, _, _, _, hb, hf, hn, _, _⟩ := setO_get I ha
  have fit : (scanBound : Int) < 2 ^ 63 := by unfold scanBound; decide
  refine call_len_set ho ex hd hf (by omega) ⟨.int n, H, I.tok _, ⟨_, by rw [hn]⟩, q⟩
/-- a tuple whose object has no dict of its own -/
def Bare (H : Hp) (a : Addr) (xs : List V) : Prop := ∃ o, H a = some (.frz o (.tup xs)) ∧ o.cls = .type "tuple" ∧ o.dict = none
theorem Bare.sq {K : PySem.W.Frag} {H : Hp} {a : Addr} {xs : List V} (h : Bare H a xs) : SqT K H a xs := let ⟨o, e, _⟩ := h; .inl (.inr ⟨o, e⟩)
/-- such a tuple of the written part -/
def BareK (K : PySem.W.Frag) (a : Addr) (xs : List V) : Prop := ∃ (o : Obj) (its : List Value) (n : Nat), K.lookup a = some o ∧ o.cls = .type "tuple" ∧ o.dict = none ∧ o.data = .seq its.toArray n ∧ xs.length ≤ sizeLine ∧ Vals xs its
theorem BareK.sq {K : PySem.W.Frag} {H : Hp} {a : Addr} {xs : List V} (h : BareK K a xs) : SqT K H a xs := by
  obtain ⟨o, its, n, h1, h2, _, h4, h5, h6⟩ := h
  refine .inr ⟨o, its.toArray, n, h1, h2, h4, ?_, h6⟩
  rw [List.size_toArray, ← h6.length]
  exact h5
def BareW (K : PySem.W.Frag) (H : Hp) (a : Addr) (xs : List V) : Prop := Bare H a xs ∨ BareK K a xs
theorem BareW.sq {K : PySem.W.Frag} {H : Hp} {a : Addr} {xs : List V} (h : BareW K H a xs) : SqT K H a xs := h.elim Bare.sq BareK.sq
/-- tuple(xs) of a list, the object known -/
theorem cr_tupB : CallR X (.type "tuple") (fun xs H Q => ∃ p ys, xs = [.ref p] ∧ SqL X.K H p ys ∧ ∀ l o, H l = none → o.cls = .type "tuple" → o.dict = none → Q (.ref l) (upd H l (.frz o (.tup ys)))) := by
  intro pins s σ H xs us Q I r h
  obtain ⟨p, ys, rfl, hq, q⟩ := h
  obtain ⟨u, rfl, rx⟩ := vals1 r
  cases rx
  obtain ⟨its, r2, pl, hz⟩ := I.list hq
  have hlen := r2.length
  refine call_tuple_list pl.isList (fun h' kp => ?_) (by simp only [List.size_toArray] <;> omega)
  have I1 : L2.Inv X pins σ H { s with heap := h' } := I.kept (t' := s.toks) kp
  have at_ : (h'.push { cls := .type "tuple", data := .seq its.toArray }).get? h'.objs.size = some { cls := .type "tuple", data := .seq its.toArray } := Heap.get?_push_size _ rfl
  have I2 : L2.Inv X pins σ (upd H h'.objs.size (.frz { cls := .type "tuple", data := .seq its.toArray } (.tup ys))) { s with heap := h'.push { cls := .type "tuple", data := .seq its.toArray } } :=
    I1.laid (t' := s.toks) (fun b o e => Heap.get?_push_of_some _ e) (Nat.le_refl _) ⟨at_, hz, its, r2, IsTup.new _ _⟩
  exact ⟨.ref h'.objs.size, _, I2, rfl, q _ _ (I1.hok.fresh (Nat.le_refl _)) rfl rfl⟩
/-- sorted of a tuple -/
theorem sorted_seq {prog : Program} {w : World} {A : Around} {E : Value → Shared → Prop} {s : Shared} {l : Addr} {vs : List Value} {ltv : Value → Value → Bool} {Q : Value → Shared → Prop} (O : SrtO.Swo ltv) (hl : IsTup s.heap l vs.toArray) (hz : vs.length ≤ sizeLine)
    (hS : 2 ≤ vs.length → ∀ (h1 : Heap) (a : Addr), h1.get? a = some (seqObj "list" vs.toArray 0) → (∀ b o, s.heap.get? b = some o → b ≠ a ∧ h1.get? b = some o) → SrtO.SortableO prog w A.in1.in1 { s with heap := h1 } a vs ltv)
    (h : ∀ (out : List Value) (h1 h' : Heap) (d : Addr), SrtO.Srtd ltv out → SrtO.Stb ltv out vs → (∀ b o, s.heap.get? b = some o → h1.get? b = some o) → (∀ b o, h1.get? b = some o → h'.get? b = some o) → h1.objs.size ≤ d → (∃ n, h'.get? d = some (seqObj "list" out.toArray n)) → Q (.ref d) { s with heap := h' }) :
    wpAny (model prog w) A (call (.builtin "sorted") [.ref l]) Q E s := by
  obtain ⟨o, ho, hcl, n, hd⟩ := hl
  apply Calls.call_function_entry kind_sorted plain_sorted entry_sorted (args_sorted1 _)
  unfold Builtin.«sorted»
  apply wpAny_bind (m := checkCount "sorted" 1 1 _)
  apply wpAny_pure
  apply wpAny_bind
  refine wpAny_collect_seq l (.inr rfl) ho hcl hd (fun h1 k1 => ?_) (by rw [List.size_toArray]; exact hz)
  rw [List.toList_toArray]
  apply wpAny_bind
  refine wpAny_newList ?_ hz
  have new : (h1.push (seqObj "list" vs.toArray 0)).get? h1.objs.size = some (seqObj "list" vs.toArray 0) := Heap.get?_push_size _ rfl
  have old : ∀ b o, s.heap.get? b = some o → b ≠ h1.objs.size ∧ (h1.push (seqObj "list" vs.toArray 0)).get? b = some o := fun b o e => ⟨Nat.ne_of_lt (Heap.lt_size (k1 b o e)), Heap.get?_push_of_some _ (k1 b o e)⟩
  show wpAny _ _ _ _ _ { s with heap := h1.push (seqObj "list" vs.toArray 0) }
  apply wpAny_bind
  refine wpAny_holding (wpAny_call_entry slot_list_sort ⟨_, new, rfl⟩ entry_list_sort (SrtO.list_sort_ord O new hz (fun h2 => hS h2 _ _ new old) fun out hs hb => ⟨_, rfl, ?_⟩) (args_list_sort _))
  refine wpAny_pure ⟨_, rfl, h out h1 _ _ hs hb k1 (fun b o e => ?_) (Nat.le_refl _) (sortedHeap_at new)⟩
  have lt := Heap.lt_size e
  rw [sortedHeap_old (Nat.ne_of_lt lt) (by rw [size_push']; exact Nat.lt_succ_of_lt lt)]
  exact Heap.get?_push_of_some _ e
/-- sorted of a tuple of pairs of whole numbers -/
theorem cr_sortedPT : CallR X (.builtin "sorted") (fun vs H Q => ∃ (a : Addr) (xs : List V) (k : V → Int × Int), vs = [V.ref a] ∧ SqT X.K H a xs ∧ (∀ x ∈ xs, ∃ t, x = V.ref t ∧ H t = some (.tup [.int (k x).1, .int (k x).2])) ∧
    ∀ ys p, SrtO.Srtd (ltP k) ys → SrtO.Stb (ltP k) ys xs → H p = none → Q (.ref p) (upd H p (.lst ys))) := by
  intro pins s σ H vs us Q I r h
  obtain ⟨a, xs, k, rfl, hs, hx, q⟩ := h
  obtain ⟨its, rv, hl, hz⟩ := I.tuple hs
  obtain ⟨u, rfl, ru⟩ := vals1 r
  cases ru
  obtain ⟨e1, e2⟩ := refs_back rv fun x m => let ⟨t, e, _⟩ := hx x m; ⟨t, e⟩
  have prs : ∀ v ∈ its, Srt.IsPair s.heap v (k (backV v)).1 (k (backV v)).2 := by
    intro v hv
    obtain ⟨t, rfl⟩ := e2 v hv
    have hm : V.ref t ∈ xs := by rw [e1]; exact List.mem_map.mpr ⟨_, hv, rfl⟩
    obtain ⟨t', e, ht⟩ := hx _ hm
    cases e
    obtain ⟨_, its2, r2, o, ho, hc, n, hd⟩ := I.hok _ _ ht
    obtain ⟨u1, u2, rfl, ⟨t1, rfl⟩, t2, rfl⟩ := vals2 r2
    exact ⟨t, o, t1, t2, n, rfl, ho, hc, hd⟩
  refine sorted_seq (SrtO.swo_lex fun u => k (backV u)) hl (by rw [← rv.length]; exact hz) (fun h2 h1 b hb kk => ?_) fun out h1 h' d o1 o2 k1 k2 far nw => ?_
  · refine SrtO.pairs_sortableO (s := { s with heap := h1 }) (by omega) (fun v hm => (prs v hm).keeps fun c o e _ => (kk c o e).2) fun o e => ?_
    cases Option.some.inj (e.symm.trans hb)
    intro c
    exact absurd (Value.type.inj c) (by decide)
  · have I1 : L2.Inv X pins σ H { s with heap := h1 } := I.kept (t' := s.toks) k1
    obtain ⟨n, hn⟩ := nw
    have rf : ∀ u ∈ out, ∃ a, u = Value.ref a := fun u hu => e2 u (o2.perm.mem_iff.mp hu)
    have st : SrtO.Stb (ltP k) (out.map backV) xs := by rw [e1]; exact SrtO.Stb.map (ltP_swo k) backV o2
    refine ⟨.ref d, upd H d (.lst (out.map backV)), I1.laid (t' := s.toks) k2 far ⟨?_, out, n, vals_back rf, hn⟩, rfl, q _ d (SrtO.srtd_map o1) st (I1.hok.fresh far)⟩
    rw [st.len]
    exact hz
theorem pairs2 {pins : List (Addr × Obj)} {σ : L2.St} {H : Hp} {s : Shared} (I : L2.Inv X pins σ H s) : ∀ {ps : List Addr} {kvs : List (Key × V)}, Paired (fun p kv => SqT X.K H p [kV kv.1, kv.2]) ps kvs →
    ∃ (prs : List (Key × Value)) (us : List (Value × Value)), KV kvs prs ∧ prs.length = ps.length ∧ us.length = ps.length ∧
      ∀ (j : Nat) (k v : Value), us[j]? = some (k, v) → ∃ b q, ps[j]? = some b ∧ IsTup s.heap b #[k, v] ∧ prs[j]? = some (q, v) ∧ (mixKind X.prog X.w).is q k = true := by
  intro ps
  induction ps with
  | nil =>
    intro kvs h
    cases h
    exact ⟨[], [], .nil, rfl, rfl, fun j k v e => nomatch e⟩
  | cons p ps ih =>
    intro kvs h
    cases h with
    | cons h t =>
      obtain ⟨prs, us, r, l1, l2, f⟩ := ih t
      obtain ⟨its, rv, ht, _⟩ := I.tuple h
      obtain ⟨u, y, rfl, ru, ry⟩ := vals2 rv
      refine ⟨(_, y) :: prs, (u, y) :: us, .cons ⟨rfl, ry⟩ r, congrArg (· + 1) l1, congrArg (· + 1) l2, fun j k v e => ?_⟩
      cases j with
      | zero =>
        cases (show (u, y) = (k, v) from Option.some.inj e)
        exact ⟨p, _, rfl, ht, rfl, kV_is ru⟩
      | succ j => exact f j k v e
/-- dict of a tuple of pairs -/
theorem cr_dictPT (hcalm : X.calm = true) : CallR X (.type "dict") (fun xs H Q => ∃ (a : Addr) (ps : List Addr) (kvs : List (Key × V)), xs = [V.ref a] ∧ BareW X.K H a (ps.map V.ref) ∧ Paired (fun p kv => SqT X.K H p [kV kv.1, kv.2]) ps kvs ∧
    ∀ p, H p = none → Q (.ref p) (upd H p (.dK (mergeK [] kvs)))) := by
  intro pins s σ H xs us Q I r h
  obtain ⟨a, ps, kvs, rfl, hbw, hp, q⟩ := h
  obtain ⟨u, rfl, ru⟩ := vals1 r
  cases ru
  have hbx : ∃ (o : Obj) (its : List Value) (n : Nat), s.heap.get? a = some o ∧ (ps.map V.ref).length ≤ sizeLine ∧ Vals (ps.map V.ref) its ∧ o.data = .seq its.toArray n ∧ o.cls = .type "tuple" ∧ o.dict = none := by
    rcases hbw with ⟨o, hb, hcl, hdn⟩ | ⟨o, its, n, h1, h2, h3, h4, h5, h6⟩
    · obtain ⟨ho, hz, its, rv, o2, ho2, _, n, hdat⟩ := I.hok _ _ hb
      cases Option.some.inj (ho.symm.trans ho2)
      exact ⟨o, its, n, ho, hz, rv, hdat, hcl, hdn⟩
    · exact ⟨o, its, n, I.kIn _ _ h1, h5, h6, h4, h2, h3⟩
  obtain ⟨o, its, n, ho, hz, rv, hdat, hcl, hdn⟩ := hbx
  have ei := refs_at rv
  subst ei
  rw [List.length_map] at hz
  obtain ⟨prs, us, rel, l1, l2, f⟩ := pairs2 I hp
  have hm : (s.heap.objs.size == sysModules) = false := beq_eq_false_iff_ne.mpr (Nat.ne_of_gt I.big)
  have hlen : (mergeK [] kvs).length ≤ sizeLine := by
    refine Nat.le_trans (length_mergeK kvs []) ?_
    rw [List.length_nil, Nat.zero_add, rel.length, l1]
    exact hz
  refine PySem.call_dict_pairs (knd := mixKind X.prog X.w) (kvs := prs) (PairArg.tuple a (ps.map Value.ref).toArray (fun j => (ps[j]?).getD 0) us) (I.ok.hd hcalm) ⟨⟨o, n, ho, hcl, hdn, hdat⟩, ?_, fun j k v e => ?_⟩ ⟨l1.trans l2.symm, fun j k v e => ?_⟩ (by rw [l2]; exact hz) fun h' tk hd k => ?_
  · rw [List.size_toArray, List.length_map, l2]
  · obtain ⟨b, q', e1, e2, _⟩ := f j k v e
    have at_ : (fun j => (ps[j]?).getD 0) j = b := by
      show (ps[j]?).getD 0 = b
      rw [e1]
      rfl
    rw [at_]
    refine ⟨?_, .inl e2⟩
    rw [List.getElem?_toArray, List.getElem?_map, e1]
    rfl
  · obtain ⟨b, q', _, _, e3, e4⟩ := f j k v e
    exact ⟨q', e3, e4⟩
  · exact ⟨.ref s.heap.objs.size, upd H s.heap.objs.size (.dK (mergeK [] kvs)), I.laid (t' := tk) (fun b o e => k b o (fun z => nomatch z) e) (Nat.le_refl _) (show ObjOk X.prog X.w _ _ _ (.dK (mergeK [] kvs)) from ⟨hlen, hm, merged [] prs, KV.merge rel .nil, hd⟩), rfl, q _ (I.hok.fresh (Nat.le_refl _))⟩
end
end SR
set_option Elab.async false
set_option linter.all false
set_option maxRecDepth 100000
set_option maxHeartbeats 4000000
namespace SR
open PySem L2
theorem same_new {H : Hp} {p : Addr} {o : HO} (h : H p = none) : Same H (upd H p o) := fun b u z => (upd_ne (ne_of_none z h)).trans z
/-- a value of any kind; where it is a tuple, what it holds -/
inductive Val2 (K : PySem.W.Frag) (H : Hp) : V → Option (List V) → Prop where
  | tup {a : Addr} {xs : List V} (h : SqT K H a xs) (hx : ∀ x ∈ xs, ∃ t, AnyT K H x t) : Val2 K H (.ref a) (some xs)
  | oth {v : V} {t : String} (h : AnyT K H v t) (ht : (t == "tuple") = false) : Val2 K H v none
theorem Val2.same {K : PySem.W.Frag} {H H' : Hp} {v : V} {o : Option (List V)} (e : Same H H') (h : Val2 K H v o) : Val2 K H' v o := by
  cases h with
  | tup h hx => exact .tup (SqT.same e h) fun x m => let ⟨t, z⟩ := hx x m; ⟨t, z.same e⟩
  | oth h ht => exact .oth (h.same e) ht
def pairO : Option (List V) → Bool
  | some [x, y] => isI x && isI y
  | _ => false
def holdO : Option (List V) → Bool
  | some [x, y] => btw 1 99 x && upto x y
  | _ => false
def spIsPair (K : PySem.W.Frag) : Sp := fun vs H Q _ => ∃ v o, vs = [v] ∧ Val2 K H v o ∧ Q (.bl (pairO o)) H
def t_is_pair (K : PySem.W.Frag) : TS := tSeq (tIfS (tOr (tNot (tB (tCB (rIsi K) (tCons (tVar 0) (tCons (tC (.ty "tuple")) tNil))))) (tTest (tOp rNe (tCB (qLen K) (tCons (tVar 0) (tNil))) (tC (.int 2)))))
  (tRet (tC (.bl false)))
  (tNext))
  (tRet (tAndV (tCall (spIsInt K) [] E0 (tCons (tOp (rIxT K) (tVar 0) (tC (.int 0))) (tNil))) (tCall (spIsInt K) [] E0 (tCons (tOp (rIxT K) (tVar 0) (tC (.int 1))) (tNil)))))
theorem pure_is_pair {K : PySem.W.Frag} (vs : List V) (H : Hp) (Q : VK) (E : XK) (h : spIsPair K vs H Q E) : t_is_pair K { nx := fun _ H' => Q .non H', rt := Q } (start ["value"] vs) H := by
  obtain ⟨v, o, rfl, hv, q⟩ := h
  cases hv with
  | oth h ht =>
    refine ⟨_, rfl, _, _, _, _, _, rfl, .ty _, h.ty, h.kit.2.2.1, _, rfl, ?_⟩
    rw [ht]
    exact iteT (iteT q)
  | @tup a xs h hx =>
    have hy : AnyT K H (.ref a) "tuple" := .tup h
    refine ⟨_, rfl, _, _, _, _, _, rfl, .ty _, hy.ty, hy.kit.2.2.1, _, rfl, iteF ⟨_, rfl, a, xs, rfl, .inr h, rfl, _, rfl, ?_⟩⟩
    by_cases hl : xs.length = 2
    · match xs, hl with
      | [x, y], _ =>
        refine iteNS rfl ?_
        obtain ⟨t1, k1⟩ := hx x (by simp)
        obtain ⟨t2, k2⟩ := hx y (by simp)
        refine ⟨_, rfl, a, _, 0, _, rfl, rfl, h, rfl, x, t1, rfl, k1, _, rfl, ?_⟩
        have q : Q (.bl (isI x && isI y)) H := q
        cases e : isI x with
        | true =>
          rw [e] at q
          exact iteT ⟨_, rfl, a, _, 1, _, rfl, rfl, h, rfl, y, t2, rfl, k2, q⟩
        | false =>
          rw [e] at q
          exact iteF q
    · have e : ¬ V.int (xs.length : Int) = V.int 2 := fun z => hl (by have := V.int.inj z; omega)
      have e2 : pairO (some xs) = false := by
        match xs, hl with
        | [], _ => rfl
        | [_], _ => rfl
        | [_, _], hl => exact absurd rfl hl
        | _ :: _ :: _ :: _, _ => rfl
      rw [decide_eq_false e]
      rw [e2] at q
      exact iteT q
end SR
namespace SR
theorem exch_cases {c u d x p q : Int} (hp : p = min (c - u) x) (hq : q = min u (d - x)) :
    (u + x ≤ c ∧ u + x ≤ d ∧ p = x ∧ q = u) ∨ (u + x ≤ c ∧ d < u + x ∧ p = x ∧ q = d - x) ∨ (c < u + x ∧ u + x ≤ d ∧ p = c - u ∧ q = u) ∨ (c < u + x ∧ d < u + x ∧ p = c - u ∧ q = d - x) := by
  omega
set_option maxHeartbeats 0 in
theorem yb (c1 c2 c3 u1 u2 u3 : Int) (h1 : 0 ≤ u1) (h2 : 0 ≤ u2) (h3 : 0 ≤ u3) (k1 : u1 ≤ c1) (k2 : u2 ≤ c2) (k3 : u3 ≤ c3)
  (p1 q1 p2 q2 p3 q3 a1 b1 a2 b2 a3 b3 : Int)
  (e1 : p1 = min (c1 - u1) u2) (f1 : q1 = min u1 (c2 - u2)) (ea1 : a1 = u2 - p1 + q1) (eb1 : b1 = u1 + p1 - q1)
  (e2 : p2 = min (c1 - b1) u3) (f2 : q2 = min b1 (c3 - u3)) (ea2 : a2 = u3 - p2 + q2) (eb2 : b2 = b1 + p2 - q2)
  (e3 : p3 = min (c2 - a1) a2) (f3 : q3 = min a1 (c3 - a2)) (ea3 : a3 = a2 - p3 + q3) (eb3 : b3 = a1 + p3 - q3)
  (r1 s1 r2 s2 r3 s3 g1 w1 g2 w2 g3 w3 : Int)
  (x1 : r1 = min (c2 - u2) u3) (y1 : s1 = min u2 (c3 - u3)) (eg1 : g1 = u3 - r1 + s1) (ew1 : w1 = u2 + r1 - s1)
  (x2 : r2 = min (c1 - u1) g1) (y2 : s2 = min u1 (c3 - g1)) (eg2 : g2 = g1 - r2 + s2) (ew2 : w2 = u1 + r2 - s2)
  (x3 : r3 = min (c1 - w2) w1) (y3 : s3 = min w2 (c2 - w1)) (eg3 : g3 = w1 - r3 + s3) (ew3 : w3 = w2 + r3 - s3) :
  a3 = g2 ∧ b3 = g3 ∧ b2 = w3 ∧ p1 + p2 = r2 + r3 ∧ p3 - p1 = r1 - r3 := by
  have E1 := exch_cases e1 f1
  have E2 := exch_cases e2 f2
  have E3 := exch_cases e3 f3
  have X1 := exch_cases x1 y1
  have X2 := exch_cases x2 y2
  have X3 := exch_cases x3 y3
  clear e1 f1 e2 f2 e3 f3 x1 y1 x2 y2 x3 y3
  rcases E1 with ⟨t1, t2, rfl, rfl⟩ | ⟨t1, t2, rfl, rfl⟩ | ⟨t1, t2, rfl, rfl⟩ | ⟨t1, t2, rfl, rfl⟩ <;> subst ea1 eb1 <;>
  rcases X1 with ⟨t3, t4, rfl, rfl⟩ | ⟨t3, t4, rfl, rfl⟩ | ⟨t3, t4, rfl, rfl⟩ | ⟨t3, t4, rfl, rfl⟩ <;> subst eg1 ew1 <;> (try (exfalso; omega)) <;>
  rcases E2 with ⟨t5, t6, rfl, rfl⟩ | ⟨t5, t6, rfl, rfl⟩ | ⟨t5, t6, rfl, rfl⟩ | ⟨t5, t6, rfl, rfl⟩ <;> subst ea2 eb2 <;> (try (exfalso; omega)) <;>
  rcases X2 with ⟨t7, t8, rfl, rfl⟩ | ⟨t7, t8, rfl, rfl⟩ | ⟨t7, t8, rfl, rfl⟩ | ⟨t7, t8, rfl, rfl⟩ <;> subst eg2 ew2 <;> (try (exfalso; omega)) <;>
  rcases E3 with ⟨t9, t10, rfl, rfl⟩ | ⟨t9, t10, rfl, rfl⟩ | ⟨t9, t10, rfl, rfl⟩ | ⟨t9, t10, rfl, rfl⟩ <;> subst ea3 eb3 <;> (try (exfalso; omega)) <;>
  rcases X3 with ⟨t11, t12, rfl, rfl⟩ | ⟨t11, t12, rfl, rfl⟩ | ⟨t11, t12, rfl, rfl⟩ | ⟨t11, t12, rfl, rfl⟩ <;> subst eg3 ew3 <;> omega
end SR
set_option Elab.async false
set_option linter.all false
set_option maxRecDepth 100000
set_option maxHeartbeats 4000000
namespace SR
open PySem L2
structure Ent where
  c : Int
  u : Int
  i : Int
  n : Int
def Ent.ok (e : Ent) : Prop := (1 ≤ e.c ∧ e.c ≤ 99) ∧ 0 ≤ e.u ∧ e.u ≤ e.c
end SR
set_option Elab.async false
set_option linter.all false
set_option maxRecDepth 100000
set_option maxHeartbeats 4000000
namespace SR
open PySem L2
def EntAt (H : Hp) (p : Addr) (e : Ent) : Prop := ∃ h, H p = some (.tup [.ref h, .int e.i, .int e.n]) ∧ H h = some (.tup [.int e.c, .int e.u])
def LineAt (H : Hp) (r : Addr) (l : Ent × Ent × Ent) : Prop := ∃ p1 p2 p3, H r = some (.lst [.ref p1, .ref p2, .ref p3]) ∧ EntAt H p1 l.1 ∧ EntAt H p2 l.2.1 ∧ EntAt H p3 l.2.2
theorem EntAt.same {H H' : Hp} {p : Addr} {e : Ent} (s : Same H H') (h : EntAt H p e) : EntAt H' p e := let ⟨a, h1, h2⟩ := h; ⟨a, s _ _ h1, s _ _ h2⟩
theorem LineAt.same {H H' : Hp} {p : Addr} {e : Ent × Ent × Ent} (s : Same H H') (h : LineAt H p e) : LineAt H' p e := let ⟨a, b, c, h1, h2, h3, h4⟩ := h; ⟨a, b, c, s _ _ h1, h2.same s, h3.same s, h4.same s⟩
theorem EntAt.upd {H : Hp} {p r : Addr} {e : Ent} {xs ys : List V} (hr : H r = some (.lst xs)) (h : EntAt H p e) : EntAt (upd H r (.lst ys)) p e := by
  obtain ⟨a, h1, h2⟩ := h
  refine ⟨a, (upd_ne ?_).trans h1, (upd_ne ?_).trans h2⟩
  · exact ne_of h1 hr (by intro z; cases z)
  · exact ne_of h2 hr (by intro z; cases z)
theorem same_upd {H H' : Hp} {r : Addr} {o : HO} (s : Same H H') (h : H r = none) : Same H (upd H' r o) := fun b u z => (upd_ne (ne_of_none z h)).trans (s b u z)
def at2 (k : Int) (l : Ent × Ent × Ent) : Ent := if k = 0 then l.2.1 else l.2.2
/-- the two tuples of pairs -/
def prs (c u d x : Int) : PyData := .tuple [pr2 c u, pr2 d x]
theorem val2_pr {K : PySem.W.Frag} {H : Hp} {p : Addr} {c u : Int} (h : H p = some (.tup [.int c, .int u])) : Val2 K H (.ref p) (some [.int c, .int u]) := .tup (SqT.of h) fun x hx => by
  simp only [List.mem_cons, List.not_mem_nil, or_false] at hx
  rcases hx with rfl | rfl
  · exact ⟨_, .int _⟩
  · exact ⟨_, .int _⟩
end SR
set_option Elab.async false
set_option linter.all false
set_option maxRecDepth 100000
set_option maxHeartbeats 4000000
namespace SR
open PySem L2
inductive F2 {α β : Type} (R : α → β → Prop) : List α → List β → Prop where
  | nil : F2 R [] []
  | cons {x : α} {y : β} {xs : List α} {ys : List β} (h : R x y) (t : F2 R xs ys) : F2 R (x :: xs) (y :: ys)
end SR
set_option Elab.async false
set_option linter.all false
set_option maxRecDepth 100000
set_option maxHeartbeats 4000000
namespace SR
open PySem L2
/-- no holder -/
def Bad (K : PySem.W.Frag) (H : Hp) (v : V) : Prop := ∃ o, Val2 K H v o ∧ holdO o = false
def Bads (K : PySem.W.Frag) (H : Hp) (vs : List V) : Prop := ∀ v ∈ vs, Bad K H v
theorem Bads.same {K : PySem.W.Frag} {H H' : Hp} {vs : List V} (s : Same H H') (h : Bads K H vs) : Bads K H' vs := fun v m => let ⟨o, a, b⟩ := h v m; ⟨o, a.same s, b⟩
theorem Bads.cons {K : PySem.W.Frag} {H : Hp} {v : V} {vs : List V} (a : Bad K H v) (h : Bads K H vs) : Bads K H (v :: vs) := fun x m => by
  rcases List.mem_cons.mp m with rfl | m
  · exact a
  · exact h x m
theorem Bads.oth {K : PySem.W.Frag} {H : Hp} {v : V} {vs : List V} {t : String} (a : AnyT K H v t) (ht : (t == "tuple") = false) (h : Bads K H vs) : Bads K H (v :: vs) := h.cons ⟨none, .oth a ht, rfl⟩
def Anys (K : PySem.W.Frag) (H : Hp) (xs : List V) : Prop := ∀ x ∈ xs, ∃ t, AnyT K H x t
/-- what holds while odd values are made: the draws' state, what it kept, the odd values -/
structure Sk (K : PySem.W.Frag) (H0 : Hp) (d g c : Addr) (b : Nat) (vs : List V) (H : Hp) : Prop where
  st : StB H d g c b
  kp : Same H0 H
  bd : Bads K (hid d g H) vs
theorem hid_same_new {d g p : Addr} {H : Hp} {o : HO} (h : H p = none) : Same (hid d g H) (hid d g (upd H p o)) := Kp.hid (Kp.new h)
theorem Sk.new {K : PySem.W.Frag} {H0 H : Hp} {d g c p : Addr} {b : Nat} {vs : List V} {o : HO} (k : Sk K H0 d g c b vs H) (h : H p = none) : Sk K H0 d g c b vs (upd H p o) := ⟨k.st.new h, k.kp.trans (same_new h), k.bd.same (hid_same_new h)⟩
theorem Sk.tup {K : PySem.W.Frag} {H0 H : Hp} {d g c p : Addr} {b : Nat} {vs xs : List V} (k : Sk K H0 d g c b vs H) (h : H p = none) (hx : Anys K (hid d g H) xs) (hf : holdO (some xs) = false) : Sk K H0 d g c b (.ref p :: vs) (upd H p (.tup xs)) := by
  obtain ⟨p1, p2, _⟩ := k.st.off h
  exact ⟨k.st.new h, k.kp.trans (same_new h), (k.bd.same (hid_same_new h)).cons ⟨some xs, .tup (SqT.of (hid_new p1 p2)) fun x m => let ⟨t, z⟩ := hx x m; ⟨t, z.same (hid_same_new h)⟩, hf⟩⟩
theorem Sk.lst {K : PySem.W.Frag} {H0 H : Hp} {d g c p : Addr} {b : Nat} {vs xs : List V} (k : Sk K H0 d g c b vs H) (h : H p = none) : Sk K H0 d g c b (.ref p :: vs) (upd H p (.lst xs)) := by
  obtain ⟨p1, p2, _⟩ := k.st.off h
  exact ⟨k.st.new h, k.kp.trans (same_new h), (k.bd.same (hid_same_new h)).oth (.lst (SqL.of (hid_new p1 p2))) rfl⟩
theorem Sk.dct {K : PySem.W.Frag} {H0 H : Hp} {d g c p : Addr} {b : Nat} {vs : List V} (k : Sk K H0 d g c b vs H) (h : H p = none) : Sk K H0 d g c b (.ref p :: vs) (upd H p (.dK [])) := by
  obtain ⟨p1, p2, _⟩ := k.st.off h
  exact ⟨k.st.new h, k.kp.trans (same_new h), (k.bd.same (hid_same_new h)).oth (.dct (.inl (hid_new p1 p2))) rfl⟩
theorem Sk.oth {K : PySem.W.Frag} {H0 H : Hp} {d g c : Addr} {b : Nat} {v : V} {vs : List V} {t : String} (k : Sk K H0 d g c b vs H) (a : AnyT K (hid d g H) v t) (ht : (t == "tuple") = false) : Sk K H0 d g c b (v :: vs) H := ⟨k.st, k.kp, k.bd.oth a ht⟩
end SR
set_option Elab.async false
set_option linter.all false
set_option maxRecDepth 100000
set_option maxHeartbeats 4000000
set_option Elab.async false
set_option linter.all false
set_option maxRecDepth 100000
set_option maxHeartbeats 4000000
set_option Elab.async false
set_option linter.all false
set_option maxRecDepth 100000
set_option maxHeartbeats 4000000
namespace SR
open PySem PySem.Spec PyProof.Rows L2
def qDictOf (K : PySem.W.Frag) : List V → Hp → VK → Prop := fun xs H Q => (∃ (a : Addr) (ps : List Addr) (kvs : List (Key × V)), xs = [.ref a] ∧ SqL K H a (ps.map V.ref) ∧ Paired (fun p kv => SqT K H p [kV kv.1, kv.2]) ps kvs ∧ ∀ p, H p = none → Q (.ref p) (upd H p (.dK (mergeK [] kvs)))) ∨
  ∃ (a : Addr) (ps : List Addr) (kvs : List (Key × V)), xs = [V.ref a] ∧ BareW K H a (ps.map V.ref) ∧ Paired (fun p kv => SqT K H p [kV kv.1, kv.2]) ps kvs ∧ ∀ p, H p = none → Q (.ref p) (upd H p (.dK (mergeK [] kvs)))
def qSorted (K : PySem.W.Frag) : List V → Hp → VK → Prop := fun vs H Q => rSortedPO K vs H Q ∨ ∃ (a : Addr) (xs : List V) (k : V → Int × Int), vs = [V.ref a] ∧ SqT K H a xs ∧ (∀ x ∈ xs, ∃ t, x = V.ref t ∧ H t = some (.tup [.int (k x).1, .int (k x).2])) ∧
    ∀ ys p, SrtO.Srtd (ltP k) ys → SrtO.Stb (ltP k) ys xs → H p = none → Q (.ref p) (upd H p (.lst ys))
def qTupOf (K : PySem.W.Frag) : List V → Hp → VK → Prop := fun xs H Q => ∃ p ys, xs = [.ref p] ∧ SqL K H p ys ∧ ∀ l o, H l = none → o.cls = .type "tuple" → o.dict = none → Q (.ref l) (upd H l (.frz o (.tup ys)))
def qLenSet (w : World) : List V → Hp → VK → Prop := fun xs H Q => ∃ a S n, xs = [V.ref a] ∧ H a = some (SetO w a S n) ∧ Q (.int n) H
def TupAt (H : Hp) (t : Addr) (p : Int × Int) : Prop := H t = some (.tup [.int p.1, .int p.2])
/-- a list, or a tuple whose object is known, of pairs of whole numbers -/
def PairsAt (K : PySem.W.Frag) (H : Hp) (a : Addr) (ps : List (Int × Int)) : Prop := ∃ ts : List Addr, (SqL K H a (ts.map V.ref) ∨ BareW K H a (ts.map V.ref)) ∧ Paired (TupAt H) ts ps
theorem Bare.same {H H' : Hp} {a : Addr} {xs : List V} (e : Same H H') (h : Bare H a xs) : Bare H' a xs := let ⟨o, h1, h2⟩ := h; ⟨o, e _ _ h1, h2⟩
theorem BareW.same {K : PySem.W.Frag} {H H' : Hp} {a : Addr} {xs : List V} (e : Same H H') (h : BareW K H a xs) : BareW K H' a xs := h.imp (Bare.same e) id
theorem paired_imp {α β : Type} {F G : α → β → Prop} (f : ∀ x y, F x y → G x y) {xs : List α} {ys : List β} (h : Paired F xs ys) : Paired G xs ys := L2.Paired.mapP h f
theorem PairsAt.same {K : PySem.W.Frag} {H H' : Hp} {a : Addr} {ps : List (Int × Int)} (e : Same H H') (h : PairsAt K H a ps) : PairsAt K H' a ps := by
  obtain ⟨ts, h1, h2⟩ := h
  exact ⟨ts, h1.imp (SqL.same e) (BareW.same e), paired_imp (fun _ _ z => e _ _ z) h2⟩
theorem paired_len {α β : Type} {F : α → β → Prop} {xs : List α} {ys : List β} (h : Paired F xs ys) : xs.length = ys.length := h.length
theorem paired_at {α β : Type} {F : α → β → Prop} : ∀ {xs : List α} {ys : List β}, Paired F xs ys → ∀ {i : Nat} {x : α}, xs[i]? = some x → ∃ y, ys[i]? = some y ∧ F x y
  | _, _, .nil, _, _, e => nomatch e
  | _, _, .cons h t, 0, _, e => ⟨_, rfl, Option.some.inj e ▸ h⟩
  | _, _, .cons h t, i + 1, _, e => paired_at t e
/-- [elt for .. in a], a pair after the other; the items change nothing -/
theorem lc_pairs {K : PySem.W.Frag} {te : TE} {g : TG} {telt : TE} {vs : List Nat} {σ : L2.St} {H : Hp} {a : Addr} {ps : List (Int × Int)} {Q : VK} (f : Int × Int → V) (hte : ∀ R : VK, R (.ref a) H → te σ H R) (hp : PairsAt K H a ps) (hl : ps.length ≤ 1000)
    (hs : ∀ t p H' (R : VK), Same H H' → p ∈ ps → TupAt H' t p → R (f p) H' → g (.ref t) (wipe σ vs) H' fun σ2 H2 => wipe σ2 vs = wipe σ vs ∧ telt σ2 H2 R)
    (hQ : ∀ D H', H D = none → Same H H' → H' D = some (.lst (ps.map f)) → Q (.ref D) H') :
    tLc (fun σ H R => iList K te σ H R ∨ iTup K te σ H R) g tYes telt vs σ H Q := by
  obtain ⟨ts, hsq, hts⟩ := hp
  have hlen : (ts.map V.ref).length = ps.length := by rw [List.length_map, paired_len hts]
  have step : ∀ (D : Addr), H D = none → ∀ i x H1 H2, i < (ts.map V.ref).length → (Same H H1 ∧ H1 D = some (.lst ((ps.take i).map f))) → YAt (ts.map V.ref) i H1 x H2 → g x (wipe σ vs) H2 fun σ2 H3 => wipe σ2 vs = wipe σ vs ∧ tYes σ2 H3 fun b H4 =>
      if b = true then telt σ2 H4 fun y H5 => ∃ acc, H5 D = some (.lst acc) ∧ acc.length < sizeLine ∧ (Same H (upd H5 D (.lst (acc ++ [y]))) ∧ upd H5 D (.lst (acc ++ [y])) D = some (.lst ((ps.take (i + 1)).map f))) else Same H H4 ∧ H4 D = some (.lst ((ps.take (i + 1)).map f)) := by
    rintro D hD i x H1 H2 hi ⟨s1, d1⟩ ⟨rfl, hx⟩
    rw [List.getElem?_map] at hx
    obtain ⟨t, ht, rfl⟩ := Option.map_eq_some_iff.mp hx
    obtain ⟨p, hpi, hat⟩ := paired_at hts ht
    refine hs t p H2 _ s1 (List.mem_of_getElem? hpi) (s1 _ _ hat) ⟨_, d1, ?_, same_upd s1 hD, ?_⟩
    · rw [List.length_map, List.length_take]
      exact Nat.lt_of_le_of_lt (Nat.le_trans (Nat.min_le_right _ _) hl) (by decide)
    · rw [upd_same, List.take_succ, hpi, List.map_append]
      rfl
  have fin : ∀ D, H D = none → ∀ H1, (Same H H1 ∧ H1 D = some (.lst ((ps.take (ts.map V.ref).length).map f))) → Q (.ref D) H1 := by
    rintro D hD H1 ⟨s1, d1⟩
    rw [hlen, List.take_length] at d1
    exact hQ D H1 hD s1 d1
  rcases hsq with hsq | hsq
  · refine .inl (hte _ ⟨a, rfl, ⟨_, hsq⟩, fun D hD => ?_⟩)
    exact lc_it (walk_list (K := K) (a := a) (xs := ts.map V.ref)) (fun i H1 => Same H H1 ∧ H1 D = some (.lst ((ps.take i).map f))) ⟨same_new hD, upd_same⟩ (fun i H1 _ h => SqL.same h.1 hsq) (step D hD) (fin D hD)
  · refine .inr (hte _ ⟨a, rfl, ⟨_, hsq.sq⟩, fun D hD => ?_⟩)
    exact lc_it (walk_tup (K := K) (a := a) (xs := ts.map V.ref)) (fun i H1 => Same H H1 ∧ H1 D = some (.lst ((ps.take i).map f))) ⟨same_new hD, upd_same⟩ (fun i H1 _ h => SqT.same h.1 hsq.sq) (step D hD) (fin D hD)
/-- {elt for .. in a}, whole numbers that differ -/
theorem sc_pairs {w : World} {K : PySem.W.Frag} {te : TE} {g : TG} {telt : TE} {vs : List Nat} {σ : L2.St} {H : Hp} {a : Addr} {ps : List (Int × Int)} {Q : VK} (f : Int × Int → Int) (hte : ∀ R : VK, R (.ref a) H → te σ H R) (hp : PairsAt K H a ps) (hl : ps.length ≤ 1000) (hd : (ps.map f).Nodup)
    (hs : ∀ t p H' (R : VK), Same H H' → p ∈ ps → TupAt H' t p → R (.int (f p)) H' → g (.ref t) (wipe σ vs) H' fun σ2 H2 => wipe σ2 vs = wipe σ vs ∧ telt σ2 H2 R)
    (hQ : ∀ D H' S, H D = none → Same H H' → H' D = some (SetO w D S ps.length) → Q (.ref D) H') :
    tScN w (fun σ H R => iList K te σ H R ∨ iTup K te σ H R) g tYes telt vs σ H Q := by
  obtain ⟨ts, hsq, hts⟩ := hp
  have hlen : (ts.map V.ref).length = ps.length := by rw [List.length_map, paired_len hts]
  have step : ∀ (D : Addr), H D = none → ∀ i x H1 H2, i < (ts.map V.ref).length → (Same H H1 ∧ ∃ S, H1 D = some (SetO w D S i) ∧ ∀ k, S k = true ↔ k ∈ (ps.take i).map f) → YAt (ts.map V.ref) i H1 x H2 → g x (wipe σ vs) H2 fun σ2 H3 => wipe σ2 vs = wipe σ vs ∧ tYes σ2 H3 fun b H4 =>
      if b = true then telt σ2 H4 fun y H5 => rSAdd w (.ref D) [y] H5 fun _ H6 => (Same H H6 ∧ ∃ S, H6 D = some (SetO w D S (i + 1)) ∧ ∀ k, S k = true ↔ k ∈ (ps.take (i + 1)).map f) else (Same H H4 ∧ ∃ S, H4 D = some (SetO w D S (i + 1)) ∧ ∀ k, S k = true ↔ k ∈ (ps.take (i + 1)).map f) := by
    rintro D hD i x H1 H2 hi ⟨s1, S, d1, m1⟩ ⟨rfl, hx⟩
    rw [List.getElem?_map] at hx
    obtain ⟨t, ht, rfl⟩ := Option.map_eq_some_iff.mp hx
    obtain ⟨p, hpi, hat⟩ := paired_at hts ht
    have tk : ps.take (i + 1) = ps.take i ++ [p] := by
      rw [List.take_succ, hpi]
      rfl
    have new : ¬ S (f p) = true := by
      intro z
      have hm := (m1 _).mp z
      have nd : ((ps.take (i + 1)).map f).Nodup := (List.Sublist.map f (List.take_sublist _ _)).nodup hd
      rw [tk, List.map_append, List.map_singleton] at nd
      exact (List.nodup_append.mp nd).2.2 _ hm _ (List.mem_singleton.mpr rfl) rfl
    refine hs t p H2 _ s1 (List.mem_of_getElem? hpi) (s1 _ _ hat) ⟨D, f p, S, i, rfl, rfl, d1, ?_, same_upd s1 hD, (fun j => S j || decide (j = f p)), ?_, fun k => ?_⟩
    · have : i < 1000 := by omega
      exact Nat.lt_of_lt_of_le (Nat.succ_lt_succ this) (by decide)
    · rw [upd_same, if_neg new]
    · rw [Bool.or_eq_true, m1 k, decide_eq_true_eq, tk, List.map_append, List.mem_append]
      exact or_congr Iff.rfl (by rw [List.map_singleton, List.mem_singleton])
  have fin : ∀ D, H D = none → ∀ H1, (Same H H1 ∧ ∃ S, H1 D = some (SetO w D S (ts.map V.ref).length) ∧ ∀ k, S k = true ↔ k ∈ (ps.take (ts.map V.ref).length).map f) → Q (.ref D) H1 := by
    rintro D hD H1 ⟨s1, S, d1, _⟩
    rw [hlen] at d1
    exact hQ D H1 S hD s1 d1
  have zero : ∀ k : Int, (false = true) ↔ k ∈ (ps.take 0).map f := fun k => ⟨(fun z => nomatch z), (fun z => nomatch z)⟩
  rcases hsq with hsq | hsq
  · refine .inl (hte _ ⟨a, rfl, ⟨_, hsq⟩, fun D hD => ?_⟩)
    exact scN_it (walk_list (K := K) (a := a) (xs := ts.map V.ref)) (fun i H1 => Same H H1 ∧ ∃ S, H1 D = some (SetO w D S i) ∧ ∀ k, S k = true ↔ k ∈ (ps.take i).map f) ⟨same_new hD, _, upd_same, zero⟩ (fun i H1 _ h => SqL.same h.1 hsq) (step D hD) (fin D hD)
  · refine .inr (hte _ ⟨a, rfl, ⟨_, hsq.sq⟩, fun D hD => ?_⟩)
    exact scN_it (walk_tup (K := K) (a := a) (xs := ts.map V.ref)) (fun i H1 => Same H H1 ∧ ∃ S, H1 D = some (SetO w D S i) ∧ ∀ k, S k = true ↔ k ∈ (ps.take i).map f) ⟨same_new hD, _, upd_same, zero⟩ (fun i H1 _ h => SqT.same h.1 hsq.sq) (step D hD) (fin D hD)
end SR
set_option Elab.async false
set_option linter.all false
set_option maxRecDepth 100000
set_option maxHeartbeats 4000000
namespace SR
open PySem PySem.Spec PyProof.Rows L2
@[irreducible] def xLc := @L2.tLc
theorem xLc_eq : @xLc = @L2.tLc := by
  unfold xLc
  rfl
@[irreducible] def xScN := @tScN
theorem xScN_eq : @xScN = @tScN := by
  unfold xScN
  rfl
theorem kit_seq {K : PySem.W.Frag} {H : Hp} {v : V} {t : String} (h : AnyT K H v t) (ht : t = "list" ∨ t = "tuple") : PySem.W.kitAny K (.type t) [.type "list", .type "tuple"] = some true := by
  obtain ⟨_, _, k1, k2, _⟩ := h.kit
  rcases ht with rfl | rfl
  · unfold PySem.W.kitAny
    rw [k2]
    rfl
  · unfold PySem.W.kitAny
    rw [k2]
    show PySem.W.kitAny K (.type "tuple") [.type "tuple"] = some true
    unfold PySem.W.kitAny
    rw [k1]
    rfl
theorem PairsAt.ty {K : PySem.W.Frag} {H : Hp} {a : Addr} {ps : List (Int × Int)} (h : PairsAt K H a ps) : ∃ t, AnyT K H (.ref a) t ∧ (t = "list" ∨ t = "tuple") := by
  obtain ⟨ts, h1 | h1, _⟩ := h
  · exact ⟨_, .lst h1, .inl rfl⟩
  · exact ⟨_, .tup h1.sq, .inr rfl⟩
theorem PairsAt.len {K : PySem.W.Frag} {H : Hp} {a : Addr} {ps : List (Int × Int)} (h : PairsAt K H a ps) : ∃ ys, (SqL K H a ys ∨ SqT K H a ys) ∧ ys.length = ps.length := by
  obtain ⟨ts, h1, h2⟩ := h
  exact ⟨_, h1.imp id BareW.sq, by rw [List.length_map, paired_len h2]⟩
theorem val2_tup {K : PySem.W.Frag} {H : Hp} {t : Addr} {p : Int × Int} (h : TupAt H t p) : Val2 K H (.ref t) (some [.int p.1, .int p.2]) := val2_pr h
def spArePairs (K : PySem.W.Frag) : Sp := fun vs H Q _ => ∃ a ps, vs = [.ref a] ∧ PairsAt K H a ps ∧ (ps.map Prod.fst).Nodup ∧ ps.length ≤ 1000 ∧ ∀ H', Same H H' → Q (.bl true) H'
def t_are_pairs (w : World) (K : PySem.W.Frag) : TS := tSeq (tIfS (tNot (tB (tCB (rIsiT K) (tCons (tVar 0) (tCons (tTup (tCons (tC (.ty "list")) (tCons (tC (.ty "tuple")) (tNil)))) tNil)))))
  (tRet (tC (.bl false)))
  (tNext))
  (tSeq (tIfS (tNot (tB (tCB (rAll K) (tCons (tLc ((fun σ H R => iList K (tVar 0) σ H R ∨ iTup K (tVar 0) σ H R)) (gName 1) (tYes) (tCall (spIsPair K) [] E0 (tCons (tVar 1) (tNil))) [1]) (tNil)))))
  (tRet (tC (.bl false)))
  (tNext))
  (tRet (tOp rEq (tCB (qLenSet w) (tCons (tScN w ((fun σ H R => iList K (tVar 0) σ H R ∨ iTup K (tVar 0) σ H R)) (gTup K 2 (gCons (gName 2) (gCons (gName 3) (gNil)))) (tYes) (tVar 2) [2, 3]) (tNil))) (tCB (qLen K) (tCons (tVar 0) (tNil))))))
theorem pure_are_pairs {w : World} {K : PySem.W.Frag} (vs : List V) (H : Hp) (Q : VK) (E : XK) (h : spArePairs K vs H Q E) : t_are_pairs w K { nx := fun _ H' => Q .non H', rt := Q } (start ["value", "part", "first", "_"] vs) H := by
  obtain ⟨a, ps, rfl, hp, hd, hl, q⟩ := h
  refine ⟨_, rfl, sz (by show 2 ≤ 1000; decide), fun T hT => ?_⟩
  have s1 := same_new (o := .tup [.ty "list", .ty "tuple"]) hT
  have p1 := hp.same s1
  obtain ⟨ty, any, hty⟩ := p1.ty
  refine ⟨_, T, _, _, [.type "list", .type "tuple"], true, rfl, upd_same, .cons (.ty _) (.cons (.ty _) .nil), any.ty, kit_seq any hty, _, rfl, iteF ?_⟩
  generalize upd H T (.tup [.ty "list", .ty "tuple"]) = H1 at s1 p1 ⊢
  try rw [← xLc_eq]
  try rw [← xScN_eq]
  show xLc (fun σ H R => iList K (tVar 0) σ H R ∨ iTup K (tVar 0) σ H R) (gName 1) tYes (tCall (spIsPair K) [] E0 (tCons (tVar 1) tNil)) [1] [some (.ref a), none, none, none] H1 _
  try rw [xLc_eq]
  try rw [xScN_eq]
  refine lc_pairs (K := K) (a := a) (ps := ps) (fun _ => .bl true) (fun R r => ⟨_, rfl, r⟩) p1 hl (fun t p H2 R s2 m2 at2 r => ?_) (fun D H2 hD s2 d2 => ?_)
  · exact ⟨rfl, _, rfl, _, _, rfl, val2_tup at2, r⟩
  have all : (ps.map fun _ => V.bl true) = (ps.map fun _ => true).map V.bl := by rw [List.map_map] <;> rfl
  rw [all] at d2
  have tr : (ps.map fun _ => true).all id = true := by
    rw [List.all_map]
    exact List.all_eq_true.mpr fun _ _ => rfl
  refine ⟨D, _, rfl, SqL.of d2, _, rfl, ?_⟩
  rw [tr]
  refine iteF ?_
  have p2 := p1.same s2
  try rw [← xLc_eq]
  try rw [← xScN_eq]
  show xScN w (fun σ H R => iList K (tVar 0) σ H R ∨ iTup K (tVar 0) σ H R) (gTup K 2 (gCons (gName 2) (gCons (gName 3) gNil))) tYes (tVar 2) [2, 3] [some (.ref a), none, none, none] H2 _
  try rw [xLc_eq]
  try rw [xScN_eq]
  refine sc_pairs (K := K) (a := a) (ps := ps) Prod.fst (fun R r => ⟨_, rfl, r⟩) p2 hl hd (fun t p H3 R s3 m3 at3 r => ?_) (fun D3 H3 S hD3 s3 d3 => ?_)
  · exact ⟨t, _, rfl, SqT.of at3, rfl, _, _, rfl, _, _, rfl, rfl, rfl, _, rfl, r⟩
  obtain ⟨ys, hys, ylen⟩ := (p2.same s3).len
  refine ⟨D3, S, _, rfl, d3, _, rfl, a, ys, rfl, hys, rfl, ?_⟩
  show Q (.bl (decide (V.int (ps.length : Int) = V.int (ys.length : Int)))) H3
  rw [ylen, decide_eq_true rfl]
  exact q H3 (s1.trans (s2.trans s3))
def t_is_wide_box (K : PySem.W.Frag) : TS := tSeq (tIfS (tNot (tB (tCall (spBetween K) [] E0 (tCons (tVar 0) (tCons (tC (.int (-60))) (tCons (tC (.int 60)) (tNil)))))))
  (tRet (tC (.bl false)))
  (tNext))
  (tRet (tCall (spBetween K) [] E0 (tCons (tVar 1) (tCons (tC (.int 2)) (tCons (tC (.int 9)) (tNil))))))
def cap (ks : List (Int × Int)) (i : Int) : Int := (ks.lookup i).getD 1
def sizeOk (p : Int × Int) : Prop := (-60 ≤ p.1 ∧ p.1 ≤ 60) ∧ 2 ≤ p.2 ∧ p.2 ≤ 9
def spAreCapacities (K : PySem.W.Frag) : Sp := fun vs H Q _ => ∃ a ps, vs = [.ref a] ∧ PairsAt K H a ps ∧ (ps.map Prod.fst).Nodup ∧ ps.length ≤ 6 ∧ (∀ p ∈ ps, sizeOk p) ∧ ∀ H', Same H H' → Q (.bl true) H'
def kvsOf (ps : List (Int × Int)) : List (Key × V) := ps.map fun p => (.inl p.1, .int p.2)
theorem merge_new : ∀ (ps : List (Int × Int)) (acc : List (Key × V)), (ps.map Prod.fst).Nodup → (∀ p ∈ ps, (acc.any fun kv => decide (kv.1 = .inl p.1)) = false) → mergeK acc (kvsOf ps) = acc ++ kvsOf ps
  | [], acc, _, _ => (List.append_nil acc).symm
  | p :: ps, acc, nd, h => by
    have nd' := List.nodup_cons.mp nd
    show mergeK (putK acc (.inl p.1) (.int p.2)) (kvsOf ps) = _
    have e : putK acc (.inl p.1) (.int p.2) = acc ++ [(.inl p.1, .int p.2)] := by
      unfold putK
      rw [h p List.mem_cons_self]
      rfl
    rw [e, merge_new ps _ nd'.2 fun q hq => ?_, List.append_assoc]
    · rfl
    · rw [List.any_append, h q (List.mem_cons_of_mem _ hq)]
      show (decide ((Sum.inl p.1 : Key) = .inl q.1) || false) = false
      rw [Bool.or_false]
      refine decide_eq_false fun z => nd'.1 ?_
      rw [Sum.inl.inj z]
      exact List.mem_map_of_mem hq
theorem merge_pairs {ps : List (Int × Int)} (nd : (ps.map Prod.fst).Nodup) : mergeK [] (kvsOf ps) = kvsOf ps := merge_new ps [] nd fun _ _ => rfl
theorem val_pairs (i : Int) : ∀ ps : List (Int × Int), valV (kvsOf ps) (.inl i) = (ps.lookup i).map V.int
  | [] => rfl
  | p :: ps => by
    obtain ⟨j, n⟩ := p
    show valV ((.inl j, .int n) :: kvsOf ps) (.inl i) = _
    rw [List.lookup_cons]
    by_cases e : i = j
    · subst e
      rw [valV_pos rfl, beq_self_eq_true]
      rfl
    · rw [valV_neg (fun z => e (Sum.inl.inj z).symm), val_pairs i ps, beq_eq_false_iff_ne.mpr e]
theorem paired_kvs {K : PySem.W.Frag} {H : Hp} : ∀ {ts : List Addr} {ps : List (Int × Int)}, Paired (TupAt H) ts ps → Paired (fun p (kv : Key × V) => SqT K H p [kV kv.1, kv.2]) ts (kvsOf ps)
  | _, _, .nil => .nil
  | _, _, .cons h t => .cons (SqT.of h) (paired_kvs t)
theorem PairsAt.dict {K : PySem.W.Frag} {H : Hp} {a : Addr} {ps : List (Int × Int)} {Q : VK} (h : PairsAt K H a ps) (nd : (ps.map Prod.fst).Nodup) (q : ∀ p, H p = none → Q (.ref p) (upd H p (.dK (kvsOf ps)))) : qDictOf K [.ref a] H Q := by
  obtain ⟨ts, h1, h2⟩ := h
  have z : ∀ p, H p = none → Q (.ref p) (upd H p (.dK (mergeK [] (kvsOf ps)))) := by
    rw [merge_pairs nd]
    exact q
  cases h1 with
  | inl h1 => exact .inl ⟨a, ts, _, rfl, h1, paired_kvs h2, z⟩
  | inr h1 => exact .inr ⟨a, ts, _, rfl, h1, paired_kvs h2, z⟩
@[irreducible] def xDictOf := @qDictOf
theorem xDictOf_eq : @xDictOf = @qDictOf := by
  unfold xDictOf
  rfl
def spAreContents (K : PySem.W.Frag) : Sp := fun vs H Q _ => ∃ a b ps ks, vs = [.ref a, .ref b] ∧ PairsAt K H a ps ∧ PairsAt K H b ks ∧ (ps.map Prod.fst).Nodup ∧ (ks.map Prod.fst).Nodup ∧ ps.length ≤ 1000 ∧ (∀ p ∈ ps, 1 ≤ p.2 ∧ p.2 ≤ cap ks p.1) ∧ (ps.map Prod.snd).sum ≤ 40 ∧ ∀ H', Same H H' → Q (.bl true) H'
def t_are_contents (K : PySem.W.Frag) : TS := tSeq (tIfS (tNot (tB (tCall (spArePairs K) [] E0 (tCons (tVar 0) (tNil)))))
  (tRet (tC (.bl false)))
  (tNext))
  (tSeq (tAsg (tCB (qDictOf K) (tCons (tVar 1) (tNil))) (gName 2))
  (tSeq (tIfS (tNot (tB (tCB (rAll K) (tCons (tLc ((fun σ H R => iList K (tVar 0) σ H R ∨ iTup K (tVar 0) σ H R)) (gTup K 2 (gCons (gName 3) (gCons (gName 4) (gNil)))) (tYes) (tChain qLe qLe (tC (.int 1)) (tVar 4) (tDGet2 (tVar 2) (tVar 3) (tC (.int 1)))) [3, 4]) (tNil)))))
  (tRet (tC (.bl false)))
  (tNext))
  (tRet (tOp qLe (tCB (rSum K) (tCons (tLc ((fun σ H R => iList K (tVar 0) σ H R ∨ iTup K (tVar 0) σ H R)) (gTup K 2 (gCons (gName 5) (gCons (gName 4) (gNil)))) (tYes) (tVar 4) [4, 5]) (tNil))) (tC (.int 40))))))
theorem pure_are_contents {K : PySem.W.Frag} (vs : List V) (H : Hp) (Q : VK) (E : XK) (h : spAreContents K vs H Q E) : t_are_contents K { nx := fun _ H' => Q .non H', rt := Q } (start ["value", "capacities", "wide", "index", "count", "_"] vs) H := by
  obtain ⟨a, b, ps, ks, rfl, hp, hk, hd, hdk, hl, hc, hsum, q⟩ := h
  refine ⟨_, rfl, a, ps, rfl, hp, hd, hl, fun H1 s1 => ⟨_, rfl, iteF ⟨_, rfl, ?_⟩⟩⟩
  try rw [← xLc_eq]
  try rw [← xScN_eq]
  try rw [← xDictOf_eq]
  show xDictOf K [.ref b] H1 _
  try rw [xLc_eq]
  try rw [xScN_eq]
  try rw [xDictOf_eq]
  refine (hk.same s1).dict hdk fun W hW => ?_
  have s2 := same_new (o := .dK (kvsOf ks)) hW
  have dW : upd H1 W (.dK (kvsOf ks)) W = some (.dK (kvsOf ks)) := upd_same
  generalize upd H1 W (.dK (kvsOf ks)) = H2 at s2 dW ⊢
  have p2 := (hp.same s1).same s2
  try rw [← xLc_eq]
  try rw [← xScN_eq]
  try rw [← xDictOf_eq]
  show xLc (fun σ H R => iList K (tVar 0) σ H R ∨ iTup K (tVar 0) σ H R) (gTup K 2 (gCons (gName 3) (gCons (gName 4) gNil))) tYes (tChain qLe qLe (tC (.int 1)) (tVar 4) (tDGet2 (tVar 2) (tVar 3) (tC (.int 1)))) [3, 4] [some (.ref a), some (.ref b), some (.ref W), none, none, none] H2 _
  try rw [xLc_eq]
  try rw [xScN_eq]
  try rw [xDictOf_eq]
  refine lc_pairs (K := K) (a := a) (ps := ps) (fun _ => .bl true) (fun R r => ⟨_, rfl, r⟩) p2 hl (fun t p H3 R s3 m3 at3 r => ?_) (fun D H3 hD s3 d3 => ?_)
  · refine ⟨t, _, rfl, SqT.of at3, rfl, _, _, rfl, _, _, rfl, rfl, rfl, ?_⟩
    obtain ⟨h1, h2⟩ := hc p m3
    have dW3 := s3 _ _ dW
    have gv : (valV (kvsOf ks) (.inl p.1)).getD (.int 1) = .int (cap ks p.1) := by
      rw [val_pairs]
      unfold cap
      cases ks.lookup p.1 <;> rfl
    refine chain_le (i := 1) (j := p.2) (k := cap ks p.1) (fun R r => r) (fun R r => ⟨_, rfl, r⟩) (fun R r => ⟨_, rfl, W, rfl, .inl ⟨_, .inl dW3⟩, _, rfl, _, DGet.k (k := .inl p.1) dW3, (by rw [gv]; exact r)⟩) ?_
    rw [decide_eq_true h1, decide_eq_true h2]
    exact r
  have all : (ps.map fun _ => V.bl true) = (ps.map fun _ => true).map V.bl := by rw [List.map_map] <;> rfl
  rw [all] at d3
  have tr : (ps.map fun _ => true).all id = true := by
    rw [List.all_map]
    exact List.all_eq_true.mpr fun _ _ => rfl
  refine ⟨D, _, rfl, SqL.of d3, _, rfl, ?_⟩
  rw [tr]
  refine iteF ?_
  have p3 := p2.same s3
  try rw [← xLc_eq]
  try rw [← xScN_eq]
  try rw [← xDictOf_eq]
  show xLc (fun σ H R => iList K (tVar 0) σ H R ∨ iTup K (tVar 0) σ H R) (gTup K 2 (gCons (gName 5) (gCons (gName 4) gNil))) tYes (tVar 4) [4, 5] [some (.ref a), some (.ref b), some (.ref W), none, none, none] H3 _
  try rw [xLc_eq]
  try rw [xScN_eq]
  try rw [xDictOf_eq]
  refine lc_pairs (K := K) (a := a) (ps := ps) (fun p => .int p.2) (fun R r => ⟨_, rfl, r⟩) p3 hl (fun t p H4 R s4 m4 at4 r => ?_) (fun D4 H4 hD4 s4 d4 => ?_)
  · exact ⟨t, _, rfl, SqT.of at4, rfl, _, _, rfl, _, _, rfl, rfl, rfl, _, rfl, r⟩
  have e4 : (ps.map fun p => V.int p.2) = (ps.map Prod.snd).map V.int := by rw [List.map_map] <;> rfl
  rw [e4] at d4
  refine ⟨D4, _, rfl, SqL.of d4, _, _, rfl, rfl, ?_⟩
  show Q (.bl (decide ((ps.map Prod.snd).sum ≤ 40))) H4
  rw [decide_eq_true hsum]
  exact q H4 (s1.trans (s2.trans (s3.trans s4)))
end SR
set_option Elab.async false
set_option linter.all false
set_option maxRecDepth 100000
set_option maxHeartbeats 4000000
namespace SR
open PySem PySem.Spec PyProof.Rows L2
/-- the pair that stands at a reference -/
def pk (H : Hp) : V → Int × Int
  | .ref t => (match H t with
    | some (.tup [.int i, .int j]) => (i, j)
    | _ => (0, 0))
  | _ => (0, 0)
theorem pk_at {H : Hp} {t : Addr} {p : Int × Int} (h : TupAt H t p) : pk H (.ref t) = p := by
  unfold TupAt at h
  show (match H t with
    | some (.tup [.int i, .int j]) => (i, j)
    | _ => (0, 0)) = p
  rw [h]
theorem paired_mem {α β : Type} {F : α → β → Prop} : ∀ {xs : List α} {ys : List β}, Paired F xs ys → ∀ x ∈ xs, ∃ y ∈ ys, F x y
  | _, _, .nil, _, m => nomatch m
  | _, _, .cons h t, x, m => by
    rcases List.mem_cons.mp m with rfl | m
    · exact ⟨_, List.mem_cons_self, h⟩
    · obtain ⟨y, hy, f⟩ := paired_mem t x m
      exact ⟨y, List.mem_cons_of_mem _ hy, f⟩
theorem paired_map {H : Hp} : ∀ {ts : List Addr}, (∀ t ∈ ts, TupAt H t (pk H (.ref t))) → Paired (TupAt H) ts (ts.map fun t => pk H (.ref t))
  | [], _ => .nil
  | t :: ts, h => .cons (h t List.mem_cons_self) (paired_map fun u m => h u (List.mem_cons_of_mem _ m))
theorem paired_eq {H : Hp} : ∀ {ts : List Addr} {ps : List (Int × Int)}, Paired (TupAt H) ts ps → ps = ts.map fun t => pk H (.ref t)
  | _, _, .nil => rfl
  | _, _, .cons h t => by rw [List.map_cons, pk_at h, ← paired_eq t]
theorem all_refs : ∀ {ys : List V}, (∀ y ∈ ys, ∃ t, y = V.ref t) → ∃ ts : List Addr, ys = ts.map V.ref
  | [], _ => ⟨[], rfl⟩
  | y :: ys, h => by
    obtain ⟨t, rfl⟩ := h y List.mem_cons_self
    obtain ⟨ts, rfl⟩ := all_refs fun z m => h z (List.mem_cons_of_mem _ m)
    exact ⟨t :: ts, rfl⟩
/-- in the order of the first numbers -/
def Asc (ps : List (Int × Int)) : Prop := ps.Pairwise fun p q => p.1 < q.1
theorem asc_of {k : V → Int × Int} {ys : List V} (h : SrtO.Srtd (ltP k) ys) (nd : (ys.map fun y => (k y).1).Nodup) : Asc (ys.map k) := by
  unfold Asc
  rw [List.pairwise_map]
  have nd' : ys.Pairwise fun x y => (k x).1 ≠ (k y).1 := List.pairwise_map.mp nd
  refine (List.Pairwise.and h nd').imp fun {x y} z => ?_
  obtain ⟨z1, z2⟩ := z
  have := SrtO.lexB_no.mp z1
  omega
theorem sorted_out {H : Hp} {ts : List Addr} {ps : List (Int × Int)} (hp : Paired (TupAt H) ts ps) (nd : (ps.map Prod.fst).Nodup) {ys : List V} (h1 : SrtO.Srtd (ltP (pk H)) ys) (h2 : SrtO.Stb (ltP (pk H)) ys (ts.map V.ref)) :
    ∃ us qs, ys = us.map V.ref ∧ Paired (TupAt H) us qs ∧ qs.Perm ps ∧ Asc qs := by
  have rf : ∀ y ∈ ys, ∃ t ∈ ts, y = V.ref t := fun y m => by
    obtain ⟨t, ht, e⟩ := List.mem_map.mp (h2.perm.mem_iff.mp m)
    exact ⟨t, ht, e.symm⟩
  obtain ⟨us, rfl⟩ := all_refs fun y m => let ⟨t, _, e⟩ := rf y m; ⟨t, e⟩
  have ups : us.Perm ts := by
    have z := h2.perm.map (fun v => match v with | V.ref t => t | _ => 0)
    rw [List.map_map, List.map_map] at z
    exact (List.map_id us).symm ▸ (List.map_id ts) ▸ z
  have at_ : ∀ t ∈ us, TupAt H t (pk H (.ref t)) := fun t m => by
    obtain ⟨p, _, hat⟩ := paired_mem hp t (ups.mem_iff.mp m)
    rw [pk_at hat]
    exact hat
  have e := paired_eq hp
  have perm : (us.map fun t => pk H (.ref t)).Perm ps := by
    rw [e]
    exact ups.map _
  refine ⟨us, us.map fun t => pk H (.ref t), rfl, paired_map at_, perm, ?_⟩
  have nd2 : ((us.map V.ref).map fun y => (pk H y).1).Nodup := by
    have z := (perm.map Prod.fst).nodup_iff.mpr nd
    rw [List.map_map] at z ⊢
    exact z
  have z := asc_of h1 nd2
  rw [List.map_map] at z
  exact z
theorem PairsAt.sorted {K : PySem.W.Frag} {H : Hp} {a : Addr} {ps : List (Int × Int)} {Q : VK} (h : PairsAt K H a ps) (nd : (ps.map Prod.fst).Nodup)
    (q : ∀ l us qs, H l = none → Paired (TupAt H) us qs → qs.Perm ps → Asc qs → Q (.ref l) (upd H l (.lst (us.map V.ref)))) : qSorted K [.ref a] H Q := by
  obtain ⟨ts, h1, h2⟩ := h
  have it : ∀ x ∈ ts.map V.ref, ∃ t, x = V.ref t ∧ H t = some (.tup [.int (pk H x).1, .int (pk H x).2]) := fun x m => by
    obtain ⟨t, ht, rfl⟩ := List.mem_map.mp m
    obtain ⟨p, _, hat⟩ := paired_mem h2 t ht
    refine ⟨t, rfl, ?_⟩
    rw [pk_at hat]
    exact hat
  have out : ∀ ys p, SrtO.Srtd (ltP (pk H)) ys → SrtO.Stb (ltP (pk H)) ys (ts.map V.ref) → H p = none → Q (.ref p) (upd H p (.lst ys)) := fun ys p a1 a2 a3 => by
    obtain ⟨us, qs, rfl, b1, b2, b3⟩ := sorted_out h2 nd a1 a2
    exact q p us qs a3 b1 b2 b3
  cases h1 with
  | inl h1 => exact .inl ⟨a, _, pk H, rfl, h1, it, out⟩
  | inr h1 => exact .inr ⟨a, _, pk H, rfl, h1.sq, it, out⟩
/-- the fields of a row -/
def rowFs (c k d e : Addr) : List (Str × V) := [("_contents", .ref c), ("_capacities", .ref k), ("_count_at", .ref d), ("_capacity_at", .ref e)]
/-- at x there stands a row, of the items ps and the wide boxes ks, both ascending -/
def RowAt (K : PySem.W.Frag) (C : Addr) (H : Hp) (x : Addr) (ps ks : List (Int × Int)) : Prop := ∃ dx c k d e ps0 ks0, H x = some (.ins C dx (rowFs c k d e)) ∧ (∃ ts, Bare H c (ts.map V.ref) ∧ Paired (TupAt H) ts ps) ∧ (∃ ts, Bare H k (ts.map V.ref) ∧ Paired (TupAt H) ts ks) ∧
  H d = some (.dK (kvsOf ps0)) ∧ H e = some (.dK (kvsOf ks0)) ∧ ps.Perm ps0 ∧ ks.Perm ks0
/-- what a row may hold -/
structure RowOk (ps ks : List (Int × Int)) : Prop where
  nd : (ps.map Prod.fst).Nodup
  kd : (ks.map Prod.fst).Nodup
  kl : ks.length ≤ 6
  ko : ∀ p ∈ ks, sizeOk p
  po : ∀ p ∈ ps, 1 ≤ p.2 ∧ p.2 ≤ cap ks p.1
  sm : (ps.map Prod.snd).sum ≤ 40
theorem len_sum : ∀ {ps : List (Int × Int)}, (∀ p ∈ ps, 1 ≤ p.2) → (ps.length : Int) ≤ (ps.map Prod.snd).sum
  | [], _ => Int.le_refl _
  | p :: ps, h => by
    have h1 := h p List.mem_cons_self
    have h2 := len_sum fun q m => h q (List.mem_cons_of_mem _ m)
    rw [List.map_cons, List.sum_cons, List.length_cons]
    omega
theorem RowOk.len {ps ks : List (Int × Int)} (h : RowOk ps ks) : ps.length ≤ 40 := by
  have h1 := len_sum fun p m => (h.po p m).1
  have h2 := h.sm
  omega
/-- all but x and its dict stay -/
def SameBut (x : Addr) (H H' : Hp) : Prop := ∀ b o, b ≠ x → H b = some o → H' b = some o
structure RowC (K : PySem.W.Frag) (C : Addr) : Prop where
  cls : Cls K C
  n1 : NoAttr K C "_contents"
  n2 : NoAttr K C "_capacities"
  n3 : NoAttr K C "_count_at"
  n4 : NoAttr K C "_capacity_at"
def spRowInit (K : PySem.W.Frag) (C : Addr) : Sp := fun vs H Q _ => ∃ x a b dx ps ks, vs = [.ref x, .ref a, .ref b] ∧ H x = some (.ins C dx []) ∧ PairsAt K H a ps ∧ PairsAt K H b ks ∧ RowOk ps ks ∧
  ∀ H' qs ls, SameBut x H H' → RowAt K C H' x qs ls → qs.Perm ps → ls.Perm ks → Asc qs → Asc ls → Q .non H'
def t_Row_init (K : PySem.W.Frag) : TS := tSeq (tIfS (tNot (tB (tCall (spAreCapacities K) [] E0 (tCons (tVar 2) (tNil)))))
  ((fun _ _ _ => False))
  (tNext))
  (tSeq (tIfS (tNot (tB (tCall (spAreContents K) [] E0 (tCons (tVar 1) (tCons (tVar 2) (tNil))))))
  ((fun _ _ _ => False))
  (tNext))
  (tSeq (sFld K (tVar 0) (tCB (qTupOf K) (tCons (tCB (qSorted K) (tCons (tVar 1) (tNil))) (tNil))) "_contents")
  (tSeq (sFld K (tVar 0) (tCB (qTupOf K) (tCons (tCB (qSorted K) (tCons (tVar 2) (tNil))) (tNil))) "_capacities")
  (tSeq (sFld K (tVar 0) (tCB (qDictOf K) (tCons (tVar 1) (tNil))) "_count_at")
  (sFld K (tVar 0) (tCB (qDictOf K) (tCons (tVar 2) (tNil))) "_capacity_at")))))
def fs1 (c : Addr) : List (Str × V) := [("_contents", .ref c)]
def fs2 (c e : Addr) : List (Str × V) := [("_contents", .ref c), ("_capacities", .ref e)]
def fs3 (c e d : Addr) : List (Str × V) := [("_contents", .ref c), ("_capacities", .ref e), ("_count_at", .ref d)]
theorem put1 (c : Addr) : putF "_contents" (.ref c) [] = fs1 c := rfl
theorem putNe {f g : Str} {v x : V} {r : List (Str × V)} (h : ¬ g = f) : putF f v ((g, x) :: r) = (g, x) :: putF f v r := by
  rw [putF, if_neg h]
theorem put2 (c e : Addr) : putF "_capacities" (.ref e) (fs1 c) = fs2 c e := by
  unfold fs1 fs2
  rw [putNe (by decide)]
  rfl
theorem put3 (c e d : Addr) : putF "_count_at" (.ref d) (fs2 c e) = fs3 c e d := by
  unfold fs2 fs3
  rw [putNe (by decide), putNe (by decide)]
  rfl
theorem put4 (c e d g : Addr) : putF "_capacity_at" (.ref g) (fs3 c e d) = rowFs c e d g := by
  unfold fs3 rowFs
  rw [putNe (by decide), putNe (by decide), putNe (by decide)]
  rfl
@[irreducible] def xSorted := @qSorted
theorem xSorted_eq : @xSorted = @qSorted := by
  unfold xSorted
  rfl
def NoIns (o : HO) : Prop := ∀ C dx fs, o ≠ .ins C dx fs
theorem SameBut.keep {x : Addr} {H H' : Hp} (s : SameBut x H H') {C dx : Addr} {fs : List (Str × V)} (hx : H x = some (.ins C dx fs)) {b : Addr} {o : HO} (h : H b = some o) (ho : NoIns o) : H' b = some o := s b o (fun e => by
  rw [e, hx] at h
  exact ho _ _ _ (Option.some.inj h).symm) h
theorem Same.but {x : Addr} {H H' : Hp} (s : Same H H') : SameBut x H H' := fun b o _ h => s b o h
theorem SameBut.trans {x : Addr} {H H1 H2 : Hp} (s : SameBut x H H1) (t : SameBut x H1 H2) : SameBut x H H2 := fun b o e h => t b o e (s b o e h)
theorem but_upd {x : Addr} {H : Hp} {o : HO} : SameBut x H (upd H x o) := fun b u e h => (upd_ne e).trans h
theorem SameBut.tups {x : Addr} {H H' : Hp} (s : SameBut x H H') {C dx : Addr} {fs : List (Str × V)} (hx : H x = some (.ins C dx fs)) {ts : List Addr} {ps : List (Int × Int)} (h : Paired (TupAt H) ts ps) : Paired (TupAt H') ts ps :=
  paired_imp (fun t p z => s.keep (o := .tup [.int p.1, .int p.2]) hx z (fun _ _ _ e => nomatch e)) h
theorem SameBut.bare {x : Addr} {H H' : Hp} (s : SameBut x H H') {C dx : Addr} {fs : List (Str × V)} (hx : H x = some (.ins C dx fs)) {a : Addr} {xs : List V} (h : Bare H a xs) : Bare H' a xs :=
  let ⟨o, h1, h2⟩ := h; ⟨o, s.keep hx h1 (fun _ _ _ e => nomatch e), h2⟩
theorem SameBut.pairs {K : PySem.W.Frag} {x : Addr} {H H' : Hp} (s : SameBut x H H') {C dx : Addr} {fs : List (Str × V)} (hx : H x = some (.ins C dx fs)) {a : Addr} {ps : List (Int × Int)} (h : PairsAt K H a ps) : PairsAt K H' a ps := by
  obtain ⟨ts, h1, h2⟩ := h
  refine ⟨ts, ?_, s.tups hx h2⟩
  rcases h1 with ((h1 | ⟨ob, h1⟩) | h1) | h1
  · exact .inl (.inl (.inl (s.keep hx h1 fun _ _ _ e => nomatch e)))
  · exact .inl (.inl (.inr ⟨ob, s.keep hx h1 fun _ _ _ e => nomatch e⟩))
  · exact .inl (.inr h1)
  · exact .inr (h1.imp (s.bare hx) id)
theorem pure_row_init {K : PySem.W.Frag} {C : Addr} (R : RowC K C) (vs : List V) (H : Hp) (Q : VK) (E : XK) (h : spRowInit K C vs H Q E) : t_Row_init K { nx := fun _ H' => Q .non H', rt := Q } (start ["self", "contents", "capacities"] vs) H := by
  obtain ⟨x, a, b, dx, ps, ks, rfl, hx, hp, hk, ok, q⟩ := h
  refine ⟨_, rfl, b, ks, rfl, hk, ok.kd, ok.kl, ok.ko, fun H1 s1 => ⟨_, rfl, iteF ?_⟩⟩
  refine ⟨_, rfl, _, rfl, a, b, ps, ks, rfl, hp.same s1, hk.same s1, ok.nd, ok.kd, (by have := ok.len; omega), ok.po, ok.sm, fun H2 s2 => ⟨_, rfl, iteF ⟨_, rfl, ?_⟩⟩⟩
  replace hp := (hp.same s1).same s2
  replace hk := (hk.same s1).same s2
  replace hx := s2 _ _ (s1 _ _ hx)
  have t2 := s1.trans s2
  clear s1 s2
  try rw [← xDictOf_eq]
  try rw [← xSorted_eq]
  show xSorted K [.ref a] H2 _
  try rw [xDictOf_eq]
  try rw [xSorted_eq]
  refine hp.sorted ok.nd fun l1 us qs hl1 hus pm1 as1 => ?_
  refine ⟨l1, _, rfl, SqL.of upd_same, fun c o hc o1 o2 => ?_⟩
  have s3 := same_new (o := .lst (us.map V.ref)) hl1
  generalize upd H2 l1 (.lst (us.map V.ref)) = H3 at s3 hc ⊢
  have s4 := same_new (o := .frz o (.tup (us.map V.ref))) hc
  have bc : Bare (upd H3 c (.frz o (.tup (us.map V.ref)))) c (us.map V.ref) := ⟨o, upd_same, o1, o2⟩
  generalize upd H3 c (.frz o (.tup (us.map V.ref))) = H4 at s4 bc ⊢
  have s34 := s3.trans s4
  refine ⟨_, rfl, x, C, dx, _, rfl, s34 _ _ hx, R.cls, R.n1, (by show 0 < 1000; decide), ?_⟩
  have hx4 := s34 _ _ hx
  rw [put1]
  have u5 := but_upd (x := x) (H := H4) (o := .ins C dx (fs1 c))
  have hx5 : upd H4 x (.ins C dx (fs1 c)) x = some (.ins C dx (fs1 c)) := upd_same
  have k5 := u5.pairs hx4 (hk.same s34)
  have p5 := u5.pairs hx4 (hp.same s34)
  have bc5 := u5.bare hx4 bc
  have us5 := u5.tups hx4 (paired_imp (fun _ _ z => s34 _ _ z) hus)
  have t5 : SameBut x H (upd H4 x (.ins C dx (fs1 c))) := (Same.but (t2.trans s34)).trans u5
  clear u5 hp hk hx hx4 s34 s3 s4 t2 bc hus hc hl1
  try rw [← xDictOf_eq]
  try rw [← xSorted_eq]
  show tSeq _ _ _ _ (upd H4 x (.ins C dx (fs1 c)))
  try rw [xDictOf_eq]
  try rw [xSorted_eq]
  generalize upd H4 x (.ins C dx (fs1 c)) = H5 at hx5 k5 p5 bc5 us5 t5 ⊢
  -- the wide boxes
  refine ⟨_, rfl, ?_⟩
  try rw [← xDictOf_eq]
  try rw [← xSorted_eq]
  show xSorted K [.ref b] H5 _
  try rw [xDictOf_eq]
  try rw [xSorted_eq]
  refine k5.sorted ok.kd fun l2 ws rs hl2 hws pm2 as2 => ?_
  refine ⟨l2, _, rfl, SqL.of upd_same, fun e o' he o3 o4 => ?_⟩
  have s6 := same_new (o := .lst (ws.map V.ref)) hl2
  generalize upd H5 l2 (.lst (ws.map V.ref)) = H6 at s6 he ⊢
  have s7 := same_new (o := .frz o' (.tup (ws.map V.ref))) he
  have be : Bare (upd H6 e (.frz o' (.tup (ws.map V.ref)))) e (ws.map V.ref) := ⟨o', upd_same, o3, o4⟩
  generalize upd H6 e (.frz o' (.tup (ws.map V.ref))) = H7 at s7 be ⊢
  have s57 := s6.trans s7
  have hx7 := s57 _ _ hx5
  refine ⟨_, rfl, x, C, dx, _, rfl, hx7, R.cls, R.n2, (by show 1 < 1000; decide), ?_⟩
  rw [put2]
  have u8 := but_upd (x := x) (H := H7) (o := .ins C dx (fs2 c e))
  have hx8 : upd H7 x (.ins C dx (fs2 c e)) x = some (.ins C dx (fs2 c e)) := upd_same
  have k8 := u8.pairs hx7 (k5.same s57)
  have p8 := u8.pairs hx7 (p5.same s57)
  have bc8 := u8.bare hx7 (bc5.same s57)
  have be8 := u8.bare hx7 be
  have us8 := u8.tups hx7 (paired_imp (fun _ _ z => s57 _ _ z) us5)
  have ws8 := u8.tups hx7 (paired_imp (fun _ _ z => s57 _ _ z) hws)
  have t8 := (t5.trans (Same.but s57)).trans u8
  clear u8 k5 p5 hx5 hx7 s57 s6 s7 t5 bc5 us5 be hws he hl2
  try rw [← xDictOf_eq]
  try rw [← xSorted_eq]
  show tSeq _ _ _ _ (upd H7 x (.ins C dx (fs2 c e)))
  try rw [xDictOf_eq]
  try rw [xSorted_eq]
  generalize upd H7 x (.ins C dx (fs2 c e)) = H8 at hx8 k8 p8 bc8 be8 us8 ws8 t8 ⊢
  -- the dicts
  refine ⟨_, rfl, ?_⟩
  try rw [← xDictOf_eq]
  try rw [← xSorted_eq]
  show xDictOf K [.ref a] H8 _
  try rw [xDictOf_eq]
  try rw [xSorted_eq]
  refine p8.dict ok.nd fun d hd => ?_
  have s9 := same_new (o := .dK (kvsOf ps)) hd
  have d9 : upd H8 d (.dK (kvsOf ps)) d = some (.dK (kvsOf ps)) := upd_same
  generalize upd H8 d (.dK (kvsOf ps)) = H9 at s9 d9 ⊢
  have hx9 := s9 _ _ hx8
  refine ⟨_, rfl, x, C, dx, _, rfl, hx9, R.cls, R.n3, (by show 2 < 1000; decide), ?_⟩
  rw [put3]
  have u10 := but_upd (x := x) (H := H9) (o := .ins C dx (fs3 c e d))
  have hx10 : upd H9 x (.ins C dx (fs3 c e d)) x = some (.ins C dx (fs3 c e d)) := upd_same
  have k10 := u10.pairs hx9 (k8.same s9)
  have bc10 := u10.bare hx9 (bc8.same s9)
  have be10 := u10.bare hx9 (be8.same s9)
  have us10 := u10.tups hx9 (paired_imp (fun _ _ z => s9 _ _ z) us8)
  have ws10 := u10.tups hx9 (paired_imp (fun _ _ z => s9 _ _ z) ws8)
  have d10 := u10.keep hx9 d9 fun _ _ _ e => nomatch e
  have t10 := (t8.trans (Same.but s9)).trans u10
  clear u10 k8 p8 hx8 hx9 s9 t8 bc8 us8 be8 ws8 d9 hd
  try rw [← xDictOf_eq]
  try rw [← xSorted_eq]
  show sFld K (tVar 0) (tCB (xDictOf K) (tCons (tVar 2) tNil)) "_capacity_at" { nx := fun _ H' => Q .non H', rt := Q } [some (.ref x), some (.ref a), some (.ref b)] (upd H9 x (.ins C dx (fs3 c e d)))
  try rw [xDictOf_eq]
  try rw [xSorted_eq]
  generalize upd H9 x (.ins C dx (fs3 c e d)) = H10 at hx10 k10 bc10 be10 us10 ws10 t10 d10 ⊢
  refine ⟨_, rfl, ?_⟩
  try rw [← xDictOf_eq]
  try rw [← xSorted_eq]
  show xDictOf K [.ref b] H10 _
  try rw [xDictOf_eq]
  try rw [xSorted_eq]
  refine k10.dict ok.kd fun g hg => ?_
  have s11 := same_new (o := .dK (kvsOf ks)) hg
  have g11 : upd H10 g (.dK (kvsOf ks)) g = some (.dK (kvsOf ks)) := upd_same
  generalize upd H10 g (.dK (kvsOf ks)) = H11 at s11 g11 ⊢
  have hx11 := s11 _ _ hx10
  refine ⟨_, rfl, x, C, dx, _, rfl, hx11, R.cls, R.n4, (by show 3 < 1000; decide), ?_⟩
  rw [put4]
  have u12 := but_upd (x := x) (H := H11) (o := .ins C dx (rowFs c e d g))
  refine q _ qs rs ((t10.trans (Same.but s11)).trans u12) ⟨dx, c, e, d, g, ps, ks, upd_same, ⟨us, u12.bare hx11 (bc10.same s11), u12.tups hx11 (paired_imp (fun _ _ z => s11 _ _ z) us10)⟩, ⟨ws, u12.bare hx11 (be10.same s11), u12.tups hx11 (paired_imp (fun _ _ z => s11 _ _ z) ws10)⟩,
    u12.keep hx11 (s11 _ _ d10) (fun _ _ _ e => nomatch e), u12.keep hx11 g11 (fun _ _ _ e => nomatch e), pm1, pm2⟩ pm1 pm2 as1 as2
end SR
set_option Elab.async false
set_option linter.all false
set_option maxRecDepth 100000
set_option maxHeartbeats 4000000
namespace SR
open PySem PySem.Spec PyProof.Rows L2
theorem lookup_none {i : Int} : ∀ {ps : List (Int × Int)}, ps.lookup i = none ↔ i ∉ ps.map Prod.fst
  | [] => ⟨fun _ => List.not_mem_nil, fun _ => rfl⟩
  | (j, n) :: ps => by
    rw [List.lookup_cons, List.map_cons, List.mem_cons]
    by_cases e : i = j
    · subst e
      rw [beq_self_eq_true]
      exact ⟨(fun z => nomatch z), fun z => absurd (Or.inl rfl) z⟩
    · rw [beq_eq_false_iff_ne.mpr e]
      show ps.lookup i = none ↔ _
      rw [lookup_none]
      exact ⟨fun z => fun w => w.elim e z, fun z => fun w => z (.inr w)⟩
theorem lookup_some {i n : Int} : ∀ {ps : List (Int × Int)}, (ps.map Prod.fst).Nodup → (ps.lookup i = some n ↔ (i, n) ∈ ps)
  | [], _ => ⟨(fun z => nomatch z), (fun z => nomatch z)⟩
  | (j, m) :: ps, nd => by
    have nd' := List.nodup_cons.mp nd
    rw [List.lookup_cons, List.mem_cons]
    by_cases e : i = j
    · subst e
      rw [beq_self_eq_true]
      refine ⟨fun z => .inl (by cases z; rfl), fun z => ?_⟩
      rcases z with z | z
      · cases z
        rfl
      · exact absurd (List.mem_map_of_mem (f := Prod.fst) z) nd'.1
    · rw [beq_eq_false_iff_ne.mpr e]
      show ps.lookup i = some n ↔ _
      rw [lookup_some nd'.2]
      exact ⟨.inr, fun z => z.elim (fun w => absurd (congrArg Prod.fst w) e) id⟩
theorem lookup_perm {ps qs : List (Int × Int)} (h : ps.Perm qs) (nd : (ps.map Prod.fst).Nodup) (i : Int) : ps.lookup i = qs.lookup i := by
  have nq : (qs.map Prod.fst).Nodup := (h.map Prod.fst).nodup_iff.mp nd
  cases e : qs.lookup i with
  | none => exact lookup_none.mpr fun m => lookup_none.mp e ((h.map Prod.fst).mem_iff.mp m)
  | some n => exact (lookup_some nd).mpr (h.mem_iff.mpr ((lookup_some nq).mp e))
def cnt (ps : List (Int × Int)) (i : Int) : Int := (ps.lookup i).getD 0
theorem RowAt.same {K : PySem.W.Frag} {C : Addr} {H H' : Hp} {x : Addr} {ps ks : List (Int × Int)} (s : Same H H') (h : RowAt K C H x ps ks) : RowAt K C H' x ps ks := by
  obtain ⟨dx, c, k, d, e, ps0, ks0, h1, ⟨t1, h2, h3⟩, ⟨t2, h4, h5⟩, h6, h7, h8⟩ := h
  exact ⟨dx, c, k, d, e, ps0, ks0, s _ _ h1, ⟨t1, h2.same s, paired_imp (fun _ _ z => s _ _ z) h3⟩, ⟨t2, h4.same s, paired_imp (fun _ _ z => s _ _ z) h5⟩, s _ _ h6, s _ _ h7, h8⟩
/-- what a row gives: its items, its wide boxes -/
def PairsT (H : Hp) (c : Addr) (ps : List (Int × Int)) : Prop := ∃ ts, Bare H c (ts.map V.ref) ∧ Paired (TupAt H) ts ps
theorem PairsT.at {K : PySem.W.Frag} {H : Hp} {c : Addr} {ps : List (Int × Int)} (h : PairsT H c ps) : PairsAt K H c ps := let ⟨ts, h1, h2⟩ := h; ⟨ts, .inr (.inl h1), h2⟩
theorem PairsT.same {H H' : Hp} {c : Addr} {ps : List (Int × Int)} (s : Same H H') (h : PairsT H c ps) : PairsT H' c ps := let ⟨ts, h1, h2⟩ := h; ⟨ts, h1.same s, paired_imp (fun _ _ z => s _ _ z) h2⟩
def spContents (K : PySem.W.Frag) (C : Addr) : Sp := fun vs H Q _ => ∃ x ps ks, vs = [.ref x] ∧ RowAt K C H x ps ks ∧ ∀ c, PairsT H c ps → Q (.ref c) H
def spCapacities (K : PySem.W.Frag) (C : Addr) : Sp := fun vs H Q _ => ∃ x ps ks, vs = [.ref x] ∧ RowAt K C H x ps ks ∧ ∀ c, PairsT H c ks → Q (.ref c) H
def t_Row_contents (K : PySem.W.Frag) : TS := tRet (tFld K (tVar 0) "_contents")
def t_Row_capacities (K : PySem.W.Frag) : TS := tRet (tFld K (tVar 0) "_capacities")
theorem fl1 (c k d e : Addr) : List.lookup ("_contents" : Str) (rowFs c k d e) = some (V.ref c) := rfl
theorem lkNe {f g : Str} {x : V} {r : List (Str × V)} (h : ¬ f = g) : List.lookup f ((g, x) :: r) = List.lookup f r := by
  rw [List.lookup_cons, beq_eq_false_iff_ne.mpr h]
theorem lkEq {f : Str} {x : V} {r : List (Str × V)} : List.lookup f ((f, x) :: r) = some x := by
  rw [List.lookup_cons, beq_self_eq_true]
theorem fl2 (c k d e : Addr) : List.lookup ("_capacities" : Str) (rowFs c k d e) = some (V.ref k) := by
  unfold rowFs
  rw [lkNe (by decide), lkEq]
theorem fl3 (c k d e : Addr) : List.lookup ("_count_at" : Str) (rowFs c k d e) = some (V.ref d) := by
  unfold rowFs
  rw [lkNe (by decide), lkNe (by decide), lkEq]
theorem fl4 (c k d e : Addr) : List.lookup ("_capacity_at" : Str) (rowFs c k d e) = some (V.ref e) := by
  unfold rowFs
  rw [lkNe (by decide), lkNe (by decide), lkNe (by decide), lkEq]
theorem pure_contents {K : PySem.W.Frag} {C : Addr} (R : RowC K C) (vs : List V) (H : Hp) (Q : VK) (E : XK) (h : spContents K C vs H Q E) : t_Row_contents K { nx := fun _ H' => Q .non H', rt := Q } (start ["self"] vs) H := by
  obtain ⟨x, ps, ks, rfl, ⟨dx, c, k, d, e, ps0, ks0, h1, h2, h3, h4⟩, q⟩ := h
  exact ⟨_, rfl, x, C, dx, _, _, rfl, h1, R.cls, R.n1, fl1 c k d e, q c h2⟩
theorem pure_capacities {K : PySem.W.Frag} {C : Addr} (R : RowC K C) (vs : List V) (H : Hp) (Q : VK) (E : XK) (h : spCapacities K C vs H Q E) : t_Row_capacities K { nx := fun _ H' => Q .non H', rt := Q } (start ["self"] vs) H := by
  obtain ⟨x, ps, ks, rfl, ⟨dx, c, k, d, e, ps0, ks0, h1, h2, h3, h4⟩, q⟩ := h
  exact ⟨_, rfl, x, C, dx, _, _, rfl, h1, R.cls, R.n2, fl2 c k d e, q k h3⟩
end SR
set_option Elab.async false
set_option linter.all false
set_option maxRecDepth 100000
set_option maxHeartbeats 4000000
namespace SR
open PySem PySem.Spec PyProof.Rows L2
def qSortedD : List V → Hp → VK → Prop := fun xs H Q => ∃ (a : Addr) (kvs : List (Key × V)) (ks : List Int), xs = [.ref a] ∧ Rd H a (.dK kvs) ∧ kvs.map (·.1) = ks.map Sum.inl ∧ ks.length < 64 ∧ ∀ (ys : List Int) (p : Addr), ys.Perm ks → ys.Pairwise (· ≤ ·) → H p = none → Q (.ref p) (upd H p (.lst (ys.map V.int)))
def qDictL (K : PySem.W.Frag) : List V → Hp → VK → Prop := fun xs H Q => ∃ (a : Addr) (ps : List Addr) (kvs : List (Key × V)), xs = [.ref a] ∧ SqL K H a (ps.map V.ref) ∧ Paired (fun p kv => SqT K H p [kV kv.1, kv.2]) ps kvs ∧ ∀ p, H p = none → Q (.ref p) (upd H p (.dK (mergeK [] kvs)))
theorem paired_snoc {α β : Type} {F : α → β → Prop} {x : α} {y : β} (h : F x y) : ∀ {xs : List α} {ys : List β}, Paired F xs ys → Paired F (xs ++ [x]) (ys ++ [y])
  | _, _, .nil => .cons h .nil
  | _, _, .cons z t => .cons z (paired_snoc h t)
theorem with_lookup {fs : List (Int × Int)} (nd : (fs.map Prod.fst).Nodup) : (fs.map Prod.fst).map (fun y => (y, (fs.lookup y).getD 0)) = fs := by
  rw [List.map_map]
  have : ∀ p ∈ fs, ((fun y => (y, (fs.lookup y).getD 0)) ∘ Prod.fst) p = p := fun p m => by
    show (p.1, (fs.lookup p.1).getD 0) = p
    rw [(lookup_some (n := p.2) nd).mpr m]
    rfl
  rw [List.map_congr_left this, List.map_id']
def t_sorted (K : PySem.W.Frag) (f p : Nat) : TE := tCB (qDictL K) (tCons (tLc (iList K (tCB qSortedD (tCons (tVar f) (tNil)))) (gName p) (tYes) (tTup (tCons (tVar p) (tCons (tDGet (tVar f) (tVar p)) (tNil)))) [p]) (tNil))
theorem sorted_dict {K : PySem.W.Frag} {f p : Nat} {F : Addr} {fs : List (Int × Int)} {σ : L2.St} {H : Hp} {Q : VK} (hF : H F = some (.dK (kvsOf fs))) (nd : (fs.map Prod.fst).Nodup) (hl : fs.length < 64)
    (h1 : σ[f]? = some (some (.ref F))) (h2 : ∀ y, ((wipe σ [p]).set p (some y))[f]? = some (some (.ref F))) (h3 : ∀ y, ((wipe σ [p]).set p (some y))[p]? = some (some y)) (h4 : ∀ y, wipe ((wipe σ [p]).set p (some y)) [p] = wipe σ [p])
    (q : ∀ r H' ps, H r = none → Same H H' → H' r = some (.dK (kvsOf ps)) → ps.Perm fs → Asc ps → Q (.ref r) H') : t_sorted K f p σ H Q := by
  have keys : (kvsOf fs).map (·.1) = (fs.map Prod.fst).map Sum.inl := by
    unfold kvsOf
    rw [List.map_map, List.map_map]
    rfl
  refine ⟨_, h1, F, _, _, rfl, .inl hF, keys, (by rw [List.length_map]; exact hl), fun ys l perm pw hlf => ?_⟩
  have s1 := same_new (o := .lst (ys.map V.int)) hlf
  have L1 : upd H l (.lst (ys.map V.int)) l = some (.lst (ys.map V.int)) := upd_same
  generalize upd H l (.lst (ys.map V.int)) = H1 at s1 L1 ⊢
  refine ⟨l, rfl, ⟨_, SqL.of L1⟩, fun D hD => ?_⟩
  have yl : ys.length = fs.length := by rw [perm.length_eq, List.length_map]
  have val : ∀ y ∈ ys, fs.lookup y = some ((fs.lookup y).getD 0) := fun y m => by
    have hm := perm.mem_iff.mp m
    cases e : fs.lookup y with
    | none => exact absurd hm (lookup_none.mp e)
    | some n => rfl
  have ndy : ys.Nodup := perm.nodup_iff.mpr nd
  have pps : (ys.map fun y => (y, (fs.lookup y).getD 0)).Perm fs := by
    have z := perm.map (fun y => (y, (fs.lookup y).getD 0))
    rw [with_lookup nd] at z
    exact z
  have asc : Asc (ys.map fun y => (y, (fs.lookup y).getD 0)) := by
    unfold Asc
    rw [List.pairwise_map]
    refine (List.Pairwise.and pw ndy).imp fun {x y} z => ?_
    have := z.1
    have := z.2
    omega
  refine lc_it (walk_list (K := K) (a := l) (xs := ys.map V.int)) (fun i H2 => Same H1 H2 ∧ ∃ ts, H2 D = some (.lst (ts.map V.ref)) ∧ ts.length = i ∧ Paired (TupAt H2) ts ((ys.map fun y => (y, (fs.lookup y).getD 0)).take i)) ⟨same_new hD, [], upd_same, rfl, .nil⟩ ?_ ?_ ?_
  · rintro i H2 _ ⟨s2, _⟩
    exact SqL.of (s2 _ _ L1)
  · rintro i x H2 H3 hi ⟨s2, ts, d2, tl, pr⟩ ⟨rfl, hx⟩
    rw [List.getElem?_map] at hx
    obtain ⟨y, hy, rfl⟩ := Option.map_eq_some_iff.mp hx
    have hv := val y (List.mem_of_getElem? hy)
    have hF3 := s2 _ _ (s1 _ _ hF)
    have gv : valV (kvsOf fs) (.inl y) = some (.int ((fs.lookup y).getD 0)) := by
      rw [val_pairs, hv]
      rfl
    refine ⟨h4 _, _, h3 _, _, h2 _, _, h3 _, F, _, rfl, (by rw [← gv]; exact DGet.k (k := .inl y) hF3), sz (by show 2 ≤ 1000; decide), fun t ht => ?_⟩
    have s3 := same_new (o := .tup [.int y, .int ((fs.lookup y).getD 0)]) ht
    have T3 : TupAt (upd H3 t (.tup [.int y, .int ((fs.lookup y).getD 0)])) t (y, (fs.lookup y).getD 0) := upd_same
    generalize upd H3 t (.tup [.int y, .int ((fs.lookup y).getD 0)]) = H4 at s3 T3 ⊢
    have d3 := s3 _ _ d2
    have li : i < ys.length := by
      rw [List.length_map] at hi
      exact hi
    have pr3 : Paired (TupAt (upd H4 D (.lst (ts.map V.ref ++ [.ref t])))) (ts ++ [t]) ((ys.map fun y => (y, (fs.lookup y).getD 0)).take (i + 1)) := by
      have tk : (ys.map fun y => (y, (fs.lookup y).getD 0)).take (i + 1) = (ys.map fun y => (y, (fs.lookup y).getD 0)).take i ++ [(y, (fs.lookup y).getD 0)] := by
        rw [List.take_succ, List.getElem?_map, hy]
        rfl
      rw [tk]
      have keep : ∀ {b : Addr} {p : Int × Int}, TupAt H4 b p → TupAt (upd H4 D (.lst (ts.map V.ref ++ [.ref t]))) b p := fun {b p} z => (upd_ne (ne_of z d3 (by intro e; cases e))).trans z
      exact paired_snoc (keep T3) (paired_imp (fun _ _ z => keep (s3 _ _ z)) pr)
    refine ⟨_, d3, ?_, same_upd (s2.trans s3) hD, ts ++ [t], ?_, ?_, pr3⟩
    · rw [List.length_map, tl]
      exact Nat.lt_of_lt_of_le (Nat.lt_of_lt_of_le li (by omega : ys.length ≤ 64)) (by decide)
    · rw [upd_same, List.map_append]
      rfl
    · rw [List.length_append, tl]
      rfl
  · rintro H2 ⟨s2, ts, d2, tl, pr⟩
    have all : (ys.map fun y => (y, (fs.lookup y).getD 0)).take (ys.map V.int).length = ys.map fun y => (y, (fs.lookup y).getD 0) := by
      rw [List.length_map]
      exact List.take_of_length_le (by rw [List.length_map]; exact Nat.le_refl _)
    rw [all] at pr
    refine ⟨D, ts, _, rfl, SqL.of d2, paired_kvs pr, fun r hr => ?_⟩
    have ndp : ((ys.map fun y => (y, (fs.lookup y).getD 0)).map Prod.fst).Nodup := (pps.map Prod.fst).nodup_iff.mpr nd
    rw [merge_pairs ndp]
    have s12 := s1.trans s2
    exact q r _ _ (Same.free s12 hr) (s12.trans (same_new hr)) upd_same pps asc
end SR
set_option Elab.async false
set_option linter.all false
set_option maxRecDepth 100000
set_option maxHeartbeats 4000000
namespace SR
open PySem PySem.Spec PyProof.Rows L2
def putI (fs : List (Int × Int)) (i n : Int) : List (Int × Int) := if i ∈ fs.map Prod.fst then fs.map (fun p => if p.1 = i then (p.1, n) else p) else fs ++ [(i, n)]
theorem any_pairs {i : Int} : ∀ fs : List (Int × Int), ((kvsOf fs).any fun kv => decide (kv.1 = (.inl i : Key))) = decide (i ∈ fs.map Prod.fst)
  | [] => rfl
  | (j, m) :: fs => by
    show (decide ((.inl j : Key) = .inl i) || (kvsOf fs).any _) = _
    rw [any_pairs fs, List.map_cons]
    by_cases e : j = i
    · subst e
      rw [decide_eq_true rfl, Bool.true_or, decide_eq_true List.mem_cons_self]
    · rw [decide_eq_false (fun z => e (Sum.inl.inj z)), Bool.false_or]
      refine decide_eq_decide.mpr ⟨fun z => List.mem_cons_of_mem _ z, fun z => ?_⟩
      rcases List.mem_cons.mp z with z | z
      · exact absurd z.symm e
      · exact z
theorem putK_pairs (fs : List (Int × Int)) (i n : Int) : putK (kvsOf fs) (.inl i) (.int n) = kvsOf (putI fs i n) := by
  unfold putK putI
  rw [any_pairs]
  by_cases h : i ∈ fs.map Prod.fst
  · rw [if_pos (decide_eq_true h), if_pos h]
    unfold kvsOf
    rw [List.map_map, List.map_map]
    refine List.map_congr_left fun p _ => ?_
    show (if (.inl p.1 : Key) = .inl i then _ else _) = _
    by_cases e : p.1 = i
    · rw [if_pos (congrArg Sum.inl e)]
      show _ = (Sum.inl (if p.1 = i then (p.1, n) else p).1, V.int (if p.1 = i then (p.1, n) else p).2)
      rw [if_pos e]
    · rw [if_neg (fun z => e (Sum.inl.inj z))]
      show _ = (Sum.inl (if p.1 = i then (p.1, n) else p).1, V.int (if p.1 = i then (p.1, n) else p).2)
      rw [if_neg e]
  · rw [if_neg (fun z => h (of_decide_eq_true z)), if_neg h]
    unfold kvsOf
    rw [List.map_append]
    rfl
theorem putI_all {P : Int × Int → Prop} {fs : List (Int × Int)} {i n : Int} (h : ∀ p ∈ fs, P p) (hn : P (i, n)) : ∀ p ∈ putI fs i n, P p := by
  unfold putI
  intro p m
  split at m
  · obtain ⟨q, hq, rfl⟩ := List.mem_map.mp m
    split
    · rename_i e
      rw [e]
      exact hn
    · exact h q hq
  · rcases List.mem_append.mp m with m | m
    · exact h p m
    · rw [List.mem_singleton.mp m]
      exact hn
theorem putI_fst {fs : List (Int × Int)} {i n : Int} : (putI fs i n).map Prod.fst = if i ∈ fs.map Prod.fst then fs.map Prod.fst else fs.map Prod.fst ++ [i] := by
  unfold putI
  split
  · rw [List.map_map]
    refine List.map_congr_left fun p _ => ?_
    show (if p.1 = i then (p.1, n) else p).1 = p.1
    split <;> rfl
  · rw [List.map_append]
    rfl
theorem putI_nd {fs : List (Int × Int)} {i n : Int} (h : (fs.map Prod.fst).Nodup) : ((putI fs i n).map Prod.fst).Nodup := by
  rw [putI_fst]
  split
  · exact h
  · rename_i z
    refine List.nodup_append.mpr ⟨h, List.pairwise_singleton _ _, fun a ha b hb e => ?_⟩
    rw [List.mem_singleton.mp hb] at e
    exact z (e ▸ ha)
theorem putI_len {fs : List (Int × Int)} {i n : Int} : (putI fs i n).length ≤ fs.length + 1 := by
  unfold putI
  split
  · rw [List.length_map]
    exact Nat.le_succ _
  · rw [List.length_append]
    exact Nat.le_refl _
theorem dput_pairs {H : Hp} {F : Addr} {fs : List (Int × Int)} {i n : Int} (h : H F = some (.dK (kvsOf fs))) (hl : fs.length < 1000) : DPut H F (.int i) (.int n) (upd H F (.dK (kvsOf (putI fs i n)))) := by
  refine .inl ⟨kvsOf fs, .inl i, h, rfl, ?_, by rw [putK_pairs]⟩
  unfold kvsOf
  rw [List.length_map]
  exact Nat.lt_trans hl (by decide)
/-- drawn sizes -/
def spSizes (K : PySem.W.Frag) : Sp := fun vs H Q _ => ∃ (d g c : Addr) (b : Nat) (n : Int), vs = [.ref d, .int n] ∧ StB H d g c (b + 25) ∧ 0 ≤ n ∧ n ≤ 6 ∧
  ∀ r H' ks, StB H' d g c b → Kp d g H H' → r ≠ d → r ≠ g → r ≠ c → H r = none → H' r = some (.dK (kvsOf ks)) → Asc ks → (∀ p ∈ ks, sizeOk p) → ks.length ≤ 6 → Q (.ref r) H'
def t_szTurn (K : PySem.W.Frag) : TS := sDPut (tVar 2) (tCall (spPick K) [] E0 (tCons (tVar 0) (tCons (tLst (tCons (tOp qSub (tCall spTake [] E0 (tCons (tVar 0) (tCons (tC (.int 12)) (tNil)))) (tC (.int 3))) (tCons (tOp qSub (tCall spTake [] E0 (tCons (tVar 0) (tCons (tC (.int 12)) (tNil)))) (tC (.int 3))) (tCons (tC (.int 60)) (tCons (tUn (rU fun i => .int (-i)) (tC (.int 60))) (tNil)))))) (tNil)))) (tOp qAdd (tC (.int 2)) (tCall spTake [] E0 (tCons (tVar 0) (tCons (tC (.int 8)) (tNil)))))
def t_sizes (K : PySem.W.Frag) : TS := tSeq (tAsg (tDNewK) (gName 2))
  (tSeq (tFor (iRng1 (tCons (tCall spTake [] E0 (tCons (tVar 0) (tCons (tOp qAdd (tVar 1) (tC (.int 1))) (tNil)))) (tNil))) (gName 3)
  (t_szTurn K))
  (tRet (t_sorted K 2 4)))
theorem sz_turn {K : PySem.W.Frag} {H : Hp} {d g c F : Addr} {b : Nat} {fs : List (Int × Int)} {w1 w3 w4 : Option V} {N N2 N3 : L2.St → Hp → Prop} {R : VK} (S : StB H d g c (b + 4)) (hF : H F = some (.dK (kvsOf fs))) (f1 : F ≠ d) (f2 : F ≠ g) (f3 : F ≠ c) (hl : fs.length < 100)
    (hN : ∀ H' i n, StB H' d g c b → (∀ x o, x ≠ F → x ≠ d → x ≠ g → H x = some o → H' x = some o) → H' F = some (.dK (kvsOf (putI fs i n))) → sizeOk (i, n) → N [some (.ref d), w1, some (.ref F), w3, w4] H') :
    t_szTurn K { nx := N, rt := R, bk := N2, ct := N3 } [some (.ref d), w1, some (.ref F), w3, w4] H := by
  refine ⟨_, rfl, d, g, c, b + 3, 8, rfl, S, by decide, by decide, fun n H1 n0 n1 S1 q1 => ⟨_, _, rfl, rfl, ?_⟩⟩
  refine ⟨_, rfl, _, rfl, _, rfl, d, g, c, b + 2, 12, rfl, S1, by decide, by decide, fun i H2 i0 i1 S2 q2 => ⟨_, _, rfl, rfl, ?_⟩⟩
  refine ⟨_, rfl, d, g, c, b + 1, 12, rfl, S2, by decide, by decide, fun j H3 j0 j1 S3 q3 => ⟨_, _, rfl, rfl, 60, rfl, sz (by show 4 ≤ 1000; decide), fun l hl => ?_⟩⟩
  obtain ⟨l1, l2, l3⟩ := S3.off hl
  refine ⟨d, g, c, b, l, _, rfl, S3.new hl, SqL.of upd_same, l1, l2, by show 0 < 4; decide, by show 4 < 1000; decide, fun v H4 hv S4 q4 => ?_⟩
  obtain ⟨k, rfl, k1, k2⟩ : ∃ k : Int, v = .int k ∧ -60 ≤ k ∧ k ≤ 60 := by
    simp only [List.mem_cons, List.not_mem_nil, or_false] at hv
    rcases hv with rfl | rfl | rfl | rfl
    · exact ⟨_, rfl, by omega, by omega⟩
    · exact ⟨_, rfl, by omega, by omega⟩
    · exact ⟨_, rfl, by decide, by decide⟩
    · exact ⟨_, rfl, by decide, by decide⟩
  clear hv
  have k4 : Kp d g H H4 := q1.trans (q2.trans (q3.trans ((Kp.new hl).trans q4)))
  have F4 := k4 _ _ f1 f2 hF
  refine ⟨F, _, rfl, dput_pairs F4 (by omega), ?_⟩
  refine hN _ k (2 + n) (S4.upd f1 f2 f3) (fun x o e0 e1 e2 hx => (upd_ne e0).trans (k4 _ _ e1 e2 hx)) upd_same ⟨⟨k1, k2⟩, by show 2 ≤ 2 + n; omega, by show 2 + n ≤ 9; omega⟩
theorem pure_sizes {K : PySem.W.Frag} (vs : List V) (H : Hp) (Q : VK) (E : XK) (h : spSizes K vs H Q E) : t_sizes K { nx := fun _ H' => Q .non H', rt := Q } (start ["state", "most", "found", "turn", "place"] vs) H := by
  obtain ⟨d, g, c, b, n, rfl, S, n0, n1, q⟩ := h
  intro F hF
  obtain ⟨f1, f2, f3⟩ := S.off hF
  have S1 := S.new (o := .dK []) hF
  have D1 : upd H F (.dK []) F = some (.dK (kvsOf [])) := upd_same
  have K1 : ∀ x o, x ≠ F → x ≠ d → x ≠ g → H x = some o → upd H F (.dK []) x = some o := fun x o e _ _ hx => (upd_ne e).trans hx
  generalize upd H F (.dK []) = H1 at S1 D1 K1 ⊢
  refine ⟨_, rfl, _, rfl, _, _, rfl, rfl, d, g, c, b + 24, n + 1, rfl, S1, by omega, by omega, fun t H2 t0 t1 S2 q2 => ⟨t, rfl, by omega, by omega, ?_⟩⟩
  refine for_range (lo := 0) (n := t.toNat) (fun i σ H3 => StB H3 d g c (b + 24 - 4 * i) ∧ (∃ fs, H3 F = some (.dK (kvsOf fs)) ∧ (fs.map Prod.fst).Nodup ∧ (∀ p ∈ fs, sizeOk p) ∧ fs.length ≤ i) ∧ (∀ x o, x ≠ F → x ≠ d → x ≠ g → H x = some o → H3 x = some o) ∧ ∃ w3 w4, σ = [some (.ref d), some (.int n), some (.ref F), w3, w4])
    ⟨S2, ⟨[], q2 _ _ f1 f2 D1, List.nodup_nil, (fun p m => nomatch m), Nat.le_refl _⟩, fun x o e0 e1 e2 hx => q2 _ _ e1 e2 (K1 x o e0 e1 e2 hx), _, _, rfl⟩ ?_ ?_
  · rintro i σ H3 hi ⟨S3, ⟨fs, D3, nd, ok, len⟩, K3, w3, w4, rfl⟩
    have hb : b + 24 - 4 * i = (b + 24 - 4 * (i + 1)) + 4 := by omega
    rw [hb] at S3
    show t_szTurn K _ [some (.ref d), some (.int n), some (.ref F), some (.int (0 + i)), w4] H3
    refine sz_turn S3 D3 f1 f2 f3 (by omega) fun H4 k m S4 K4 D4 ok4 => ⟨S4, ⟨_, D4, putI_nd nd, putI_all ok ok4, ?_⟩, fun x o e0 e1 e2 hx => K4 x o e0 e1 e2 (K3 x o e0 e1 e2 hx), _, _, rfl⟩
    have := putI_len (fs := fs) (i := k) (n := m)
    omega
  · rintro σ H3 ⟨S3, ⟨fs, D3, nd, ok, len⟩, K3, w3, w4, rfl⟩
    have lt : fs.length ≤ 6 := by omega
    refine sorted_dict D3 nd (by omega) rfl (fun y => rfl) (fun y => rfl) (fun y => rfl) fun r H4 ks hr s4 d4 pm asc => ?_
    have S4 := (StB.same s4 S3).mono (b' := b) (by omega)
    obtain ⟨r1, r2, r3⟩ := S3.off hr
    have hk : ∀ x o, x ≠ d → x ≠ g → H x = some o → H4 x = some o := fun x o e1 e2 hx => s4 _ _ (K3 x o (fun e => by rw [e, hF] at hx; cases hx) e1 e2 hx)
    have hr0 : H r = none := by
      cases e : H r with
      | none => rfl
      | some o =>
        have := K3 r o (fun z => by rw [z, hF] at e; cases e) r1 r2 e
        rw [hr] at this
        cases this
    exact q r H4 ks S4 hk r1 r2 r3 hr0 d4 asc (fun p m => ok p (pm.mem_iff.mp m)) (by rw [pm.length_eq]; exact lt)
end SR
set_option Elab.async false
set_option linter.all false
set_option maxRecDepth 100000
set_option maxHeartbeats 4000000
namespace SR
open PySem PySem.Spec PyProof.Rows L2
theorem cap_ok {ks : List (Int × Int)} (h : ∀ p ∈ ks, sizeOk p) (i : Int) : 1 ≤ cap ks i ∧ cap ks i ≤ 9 := by
  unfold cap
  cases e : ks.lookup i with
  | none => exact ⟨Int.le_refl _, by decide⟩
  | some n =>
    have m : ∃ p ∈ ks, p.2 = n := by
      clear h
      induction ks with
      | nil => cases e
      | cons p ks ih =>
        rw [List.lookup_cons] at e
        split at e
        · exact ⟨p, List.mem_cons_self, Option.some.inj e⟩
        · obtain ⟨q, hq, z⟩ := ih e
          exact ⟨q, List.mem_cons_of_mem _ hq, z⟩
    obtain ⟨p, hp, rfl⟩ := m
    have := h p hp
    exact ⟨Int.le_trans (by decide) this.2.1, this.2.2⟩
/-- what has been put into boxes: fs of n items, spare left -/
structure Bx (n : Int) (ks fs : List (Int × Int)) (spare : Int) : Prop where
  nd : (fs.map Prod.fst).Nodup
  po : ∀ p ∈ fs, 1 ≤ p.2 ∧ p.2 ≤ cap ks p.1
  sm : (fs.map Prod.snd).sum + spare = n
  sp : 0 ≤ spare
  bd : ∀ p ∈ fs, -(10 ^ 30) ≤ p.1 ∧ p.1 ≤ 10 ^ 30
theorem Bx.len {n spare : Int} {ks fs : List (Int × Int)} (h : Bx n ks fs spare) : (fs.length : Int) ≤ n - spare := by
  have h1 := len_sum fun p m => (h.po p m).1
  have h2 := h.sm
  omega
theorem putI_new {fs : List (Int × Int)} {i m : Int} (h : i ∉ fs.map Prod.fst) : putI fs i m = fs ++ [(i, m)] := if_neg h
theorem Bx.put {n spare i m : Int} {ks fs : List (Int × Int)} (h : Bx n ks fs spare) (new : i ∉ fs.map Prod.fst) (m1 : 1 ≤ m) (m2 : m ≤ spare) (m3 : m ≤ cap ks i) (bd : -(10 ^ 30) ≤ i ∧ i ≤ 10 ^ 30) : Bx n ks (putI fs i m) (spare - m) := by
  refine ⟨putI_nd h.nd, putI_all h.po ⟨m1, m3⟩, ?_, by omega, putI_all h.bd bd⟩
  have := h.sm
  rw [putI_new new, List.map_append, List.sum_append]
  show (fs.map Prod.snd).sum + (m + 0) + (spare - m) = n
  omega
def t_bxIn (K : PySem.W.Frag) : TS := (tSeq (tAsg (tCB qMin2 (tCons (tVar 5) (tCons (tOp qAdd (tC (.int 1)) (tCall spTake [] E0 (tCons (tVar 0) (tCons (tDGet2 (tVar 1) (tVar 3) (tC (.int 1))) (tNil))))) (tNil)))) (gName 8))
  (tSeq (tIfS (tTest (tOp qGt (tVar 8) (tC (.int 0))))
  (sDPut (tVar 4) (tVar 3) (tVar 8))
  (tNext))
  (tPar 5 3 (tCons (tOp qSub (tVar 5) (tVar 8)) (tCons (tOp qAdd (tVar 3) (tC (.int 1))) (tNil))))))
/-- what stays beside the boxes' dict F and the dict a -/
def KF (F a d g : Addr) (H H' : Hp) : Prop := ∀ x o, x ≠ F → x ≠ a → x ≠ d → x ≠ g → H x = some o → H' x = some o
theorem KF.trans {F a d g : Addr} {H H1 H2 : Hp} (x : KF F a d g H H1) (y : KF F a d g H1 H2) : KF F a d g H H2 := fun z o h1 h2 h3 h4 h => y z o h1 h2 h3 h4 (x z o h1 h2 h3 h4 h)
theorem Kp.kf {F a d g : Addr} {H H' : Hp} (k : Kp d g H H') : KF F a d g H H' := fun x o _ _ h1 h2 h => k x o h1 h2 h
theorem kf_upd {F a d g : Addr} {H : Hp} {o : HO} : KF F a d g H (upd H F o) := fun x _ h1 _ _ _ h => (upd_ne h1).trans h
theorem kf_updA {F a d g : Addr} {H : Hp} {o : HO} : KF F a d g H (upd H a o) := fun x _ _ h2 _ _ h => (upd_ne h2).trans h
theorem bx_in {K : PySem.W.Frag} {H : Hp} {d g c F a : Addr} {b : Nat} {n place spare : Int} {fs ks : List (Int × Int)} {w6 w7 w8 : Option V} {N N2 N3 : L2.St → Hp → Prop} {R : VK} (S : StB H d g c (b + 1)) (hF : H F = some (.dK (kvsOf fs))) (hA : H a = some (.dK (kvsOf ks)))
    (f1 : F ≠ d) (f2 : F ≠ g) (f3 : F ≠ c) (fa : F ≠ a) (a1 : a ≠ d) (a2 : a ≠ g) (hk : ∀ p ∈ ks, sizeOk p) (B : Bx n ks fs spare) (n40 : n ≤ 40) (lt : ∀ p ∈ fs, p.1 < place) (bd : -(10 ^ 30) ≤ place ∧ place ≤ 10 ^ 30)
    (hN : ∀ H' gs sp w, StB H' d g c b → KF F a d g H H' → H' F = some (.dK (kvsOf gs)) → H' a = some (.dK (kvsOf ks)) → Bx n ks gs sp → (∀ p ∈ gs, p.1 < place + 1) → N [some (.ref d), some (.ref a), some (.int n), some (.int (place + 1)), some (.ref F), some (.int sp), w6, w7, w] H') :
    t_bxIn K { nx := N, rt := R, bk := N2, ct := N3 } [some (.ref d), some (.ref a), some (.int n), some (.int place), some (.ref F), some (.int spare), w6, w7, w8] H := by
  obtain ⟨c1, c2⟩ := cap_ok hk place
  have gv : (valV (kvsOf ks) (.inl place)).getD (.int 1) = .int (cap ks place) := by
    rw [val_pairs]
    unfold cap
    cases ks.lookup place <;> rfl
  refine ⟨_, rfl, _, rfl, _, rfl, a, rfl, .inl ⟨_, .inl hA⟩, _, rfl, _, DGet.k (k := .inl place) hA, d, g, c, b, cap ks place, ?_, S, by omega, by omega, fun t H1 t0 t1 S1 q1 => ⟨_, _, rfl, rfl, _, _, rfl, ?_⟩⟩
  · rw [gv]
    rfl
  generalize hm : (if 1 + t < spare then 1 + t else spare) = m
  have m1 : m ≤ spare := by split at hm <;> omega
  have m2 : m ≤ cap ks place := by split at hm <;> omega
  have m0 : 0 ≤ m := by have := B.sp; split at hm <;> omega
  clear hm
  have F1 := q1 _ _ f1 f2 hF
  have A1 := q1 _ _ a1 a2 hA
  have new : place ∉ fs.map Prod.fst := fun z => by
    obtain ⟨p, hp, e⟩ := List.mem_map.mp z
    have := lt p hp
    omega
  refine ⟨_, rfl, _, _, rfl, rfl, _, rfl, ?_⟩
  by_cases pos : 0 < m
  · rw [decide_eq_true pos]
    have len := B.len
    have sp0 := B.sp
    refine iteT ⟨_, rfl, _, rfl, _, rfl, F, _, rfl, dput_pairs F1 (by omega), ?_⟩
    refine ⟨_, rfl, _, rfl, _, _, rfl, rfl, _, rfl, _, _, rfl, rfl, _, _, rfl, ?_⟩
    refine hN _ (putI fs place m) (spare - m) _ (S1.upd f1 f2 f3) (q1.kf.trans kf_upd) upd_same ((upd_ne (fun e => fa e.symm)).trans A1) (B.put new pos m1 m2 bd) (putI_all (fun p hp => ?_) ?_)
    · have := lt p hp
      omega
    · show place < place + 1
      omega
  · rw [decide_eq_false pos]
    have e0 : m = 0 := by omega
    subst e0
    refine iteF ⟨_, rfl, _, rfl, _, _, rfl, rfl, _, rfl, _, _, rfl, rfl, _, _, rfl, ?_⟩
    refine hN _ fs (spare - 0) _ S1 q1.kf F1 A1 (by rw [Int.sub_zero]; exact B) fun p hp => ?_
    have := lt p hp
    omega
end SR
set_option Elab.async false
set_option linter.all false
set_option maxRecDepth 100000
set_option maxHeartbeats 4000000
namespace SR
open PySem PySem.Spec PyProof.Rows L2
theorem e30 : (10 : Int) ^ 30 = 1000000000000000000000000000000 := by decide
theorem e29 : (10 : Int) ^ 29 = 100000000000000000000000000000 := by decide
theorem e28 : (10 : Int) ^ 28 = 10000000000000000000000000000 := by decide
def t_bxOut (K : PySem.W.Frag) : TS := (tSeq (tFor (iRng1 (tCons (tOp qAdd (tC (.int 1)) (tCall spTake [] E0 (tCons (tVar 0) (tCons (tC (.int 4)) (tNil))))) (tNil))) (gName 7) (t_bxIn K))
  (tAsg (tOp qAdd (tVar 3) (tCall (spPick K) [] E0 (tCons (tVar 0) (tCons (tLst (tCons (tC (.int 1)) (tCons (tC (.int 1)) (tCons (tC (.int 1)) (tCons (tC (.int 2)) (tCons (tC (.int 3)) (tCons (tC (.int 8)) (tCons (tOp qPow (tC (.int 10)) (tC (.int 28))) (tNil))))))))) (tNil))))) (gName 3)))
theorem bx_out {K : PySem.W.Frag} {H : Hp} {d g c F a : Addr} {b : Nat} {n place spare i : Int} {fs ks : List (Int × Int)} {w6 w7 w8 : Option V} {N N2 N3 : L2.St → Hp → Prop} {R : VK} (S : StB H d g c (b + 6)) (hF : H F = some (.dK (kvsOf fs))) (hA : H a = some (.dK (kvsOf ks)))
    (f1 : F ≠ d) (f2 : F ≠ g) (f3 : F ≠ c) (fa : F ≠ a) (a1 : a ≠ d) (a2 : a ≠ g) (hk : ∀ p ∈ ks, sizeOk p) (B : Bx n ks fs spare) (n40 : n ≤ 40) (lt : ∀ p ∈ fs, p.1 < place) (i0 : 0 ≤ i) (i5 : i ≤ 5) (bd : -(10 ^ 29) ≤ place ∧ place ≤ 10 ^ 29 + i * 20000000000000000000000000000)
    (hN : ∀ H' gs sp pl u7 u8, StB H' d g c b → KF F a d g H H' → H' F = some (.dK (kvsOf gs)) → H' a = some (.dK (kvsOf ks)) → Bx n ks gs sp → (∀ p ∈ gs, p.1 < pl) → (-(10 ^ 29) ≤ pl ∧ pl ≤ 10 ^ 29 + (i + 1) * 20000000000000000000000000000) → N [some (.ref d), some (.ref a), some (.int n), some (.int pl), some (.ref F), some (.int sp), w6, u7, u8] H') :
    t_bxOut K { nx := N, rt := R, bk := N2, ct := N3 } [some (.ref d), some (.ref a), some (.int n), some (.int place), some (.ref F), some (.int spare), w6, w7, w8] H := by
  refine ⟨_, rfl, d, g, c, b + 5, 4, rfl, S, by decide, by decide, fun t H1 t0 t1 S1 q1 => ⟨_, _, rfl, rfl, _, rfl, by omega, by omega, ?_⟩⟩
  have F1 := q1 _ _ f1 f2 hF
  have A1 := q1 _ _ a1 a2 hA
  have hj : (1 + t).toNat ≤ 4 := by omega
  generalize (1 + t).toNat = k at hj
  refine for_range (lo := 0) (n := k) (fun j σ H3 => StB H3 d g c (b + 5 - j) ∧ KF F a d g H H3 ∧ ∃ gs sp u7 u8, H3 F = some (.dK (kvsOf gs)) ∧ H3 a = some (.dK (kvsOf ks)) ∧ Bx n ks gs sp ∧ (∀ p ∈ gs, p.1 < place + (j : Int)) ∧ σ = [some (.ref d), some (.ref a), some (.int n), some (.int (place + (j : Int))), some (.ref F), some (.int sp), w6, u7, u8])
    ⟨S1, q1.kf, fs, spare, w7, w8, F1, A1, B, ?_, ?_⟩ ?_ ?_
  · intro p m
    have := lt p m
    omega
  · show _ = [some (V.ref d), some (V.ref a), some (V.int n), some (V.int (place + ((0 : Nat) : Int))), some (V.ref F), some (V.int spare), w6, w7, w8]
    rw [show place + ((0 : Nat) : Int) = place by omega]
  · rintro j σ H3 hj3 ⟨S3, K3, gs, sp, u7, u8, F3, A3, B3, lt3, rfl⟩
    have hb : b + 5 - j = (b + 5 - (j + 1)) + 1 := by omega
    rw [hb] at S3
    show t_bxIn K _ [some (.ref d), some (.ref a), some (.int n), some (.int (place + (j : Int))), some (.ref F), some (.int sp), w6, some (.int (0 + j)), u8] H3
    refine bx_in S3 F3 A3 f1 f2 f3 fa a1 a2 hk B3 n40 lt3 ?_ fun H4 hs sp4 w4 S4 K4 F4 A4 B4 lt4 => ⟨S4, K3.trans K4, hs, sp4, some (.int (0 + j)), w4, F4, A4, B4, ?_, ?_⟩
    · have := e29
      have := e30
      constructor <;> omega
    · intro p m
      have := lt4 p m
      omega
    · rw [show place + (j : Int) + 1 = place + ((j + 1 : Nat) : Int) by omega]
  · rintro σ H3 ⟨S3, K3, gs, sp, u7, u8, F3, A3, B3, lt3, rfl⟩
    refine ⟨_, rfl, _, rfl, 10, 28, rfl, rfl, ⟨by decide, by decide, by decide⟩, sz (by show 7 ≤ 1000; decide), fun l hl => ?_⟩
    obtain ⟨l1, l2, l3⟩ := S3.off hl
    have hb : StB H3 d g c (b + 1) := S3.mono (by omega)
    refine ⟨d, g, c, b, l, _, rfl, hb.new hl, SqL.of upd_same, l1, l2, by show 0 < 7; decide, by show 7 < 1000; decide, fun v H4 hv S4 q4 => ?_⟩
    have E28 : (10 : Int) ^ (28 : Int).toNat = 10000000000000000000000000000 := e28
    obtain ⟨m, rfl, m1, m2⟩ : ∃ m : Int, v = .int m ∧ 1 ≤ m ∧ m ≤ 10000000000000000000000000000 := by
      simp only [List.mem_cons, List.not_mem_nil, or_false] at hv
      rcases hv with rfl | rfl | rfl | rfl | rfl | rfl | rfl
      · exact ⟨1, rfl, by decide, by decide⟩
      · exact ⟨1, rfl, by decide, by decide⟩
      · exact ⟨1, rfl, by decide, by decide⟩
      · exact ⟨2, rfl, by decide, by decide⟩
      · exact ⟨3, rfl, by decide, by decide⟩
      · exact ⟨8, rfl, by decide, by decide⟩
      · exact ⟨_, rfl, by rw [E28]; decide, by rw [E28]; decide⟩
    clear hv
    have q34 : Kp d g H3 H4 := (Kp.new hl).trans q4
    refine ⟨_, _, rfl, rfl, hN H4 gs sp _ _ _ S4 (K3.trans q34.kf) (q34 _ _ f1 f2 F3) (q34 _ _ a1 a2 A3) B3 (fun p hp => ?_) ?_⟩
    · have := lt3 p hp
      omega
    · have := e29
      constructor <;> omega
def t_bxKey (K : PySem.W.Frag) : TS := (tSeq (tAsg (tCB qMin2 (tCons (tVar 5) (tCons (tCall spTake [] E0 (tCons (tVar 0) (tCons (tOp qAdd (tDGet (tVar 1) (tVar 3)) (tC (.int 1))) (tNil)))) (tNil)))) (gName 8))
  (tIfS (tAnd (tB (tDNotIn (tVar 3) (tVar 4))) (tTest (tOp qGt (tVar 8) (tC (.int 0)))))
  (tAsg (tTup (tCons (tVar 8) (tCons (tOp qSub (tVar 5) (tVar 8)) (tNil)))) (gTup K 2 (gCons (gSub (tVar 4) (tVar 3) rSetD) (gCons (gName 5) (gNil)))))
  (tNext)))
theorem bx_key {K : PySem.W.Frag} {H : Hp} {d g c F a : Addr} {b : Nat} {n place spare cp : Int} {od : Obj} {fs ks : List (Int × Int)} {w6 w7 w8 : Option V} {N N2 N3 : L2.St → Hp → Prop} {R : VK} (S : StB H d g c (b + 1)) (hF : H F = some (.dK (kvsOf fs))) (hA : H a = some (.frz od (.dK (kvsOf ks))))
    (f1 : F ≠ d) (f2 : F ≠ g) (f3 : F ≠ c) (fa : F ≠ a) (a1 : a ≠ d) (a2 : a ≠ g) (hk : ∀ p ∈ ks, sizeOk p) (hkd : (ks.map Prod.fst).Nodup) (hp : (place, cp) ∈ ks) (B : Bx n ks fs spare) (n40 : n ≤ 40)
    (hN : ∀ H' gs sp w, StB H' d g c b → KF F a d g H H' → H' F = some (.dK (kvsOf gs)) → H' a = some (.frz od (.dK (kvsOf ks))) → Bx n ks gs sp → N [some (.ref d), some (.ref a), some (.int n), some (.int place), some (.ref F), some (.int sp), w6, w7, w] H') :
    t_bxKey K { nx := N, rt := R, bk := N2, ct := N3 } [some (.ref d), some (.ref a), some (.int n), some (.int place), some (.ref F), some (.int spare), w6, w7, w8] H := by
  have ok := hk _ hp
  have lk := (lookup_some hkd).mpr hp
  have cpe : cap ks place = cp := by
    unfold cap
    rw [lk]
    rfl
  have gv : valV (kvsOf ks) (.inl place) = some (.int cp) := by
    rw [val_pairs, lk]
    rfl
  have o1 : 2 ≤ cp := ok.2.1
  have o2 : cp ≤ 9 := ok.2.2
  have o3 : -60 ≤ place := ok.1.1
  have o4 : place ≤ 60 := ok.1.2
  refine ⟨_, rfl, _, rfl, _, rfl, _, rfl, a, _, rfl, .inl ⟨_, .inl place, .inr ⟨od, hA⟩, rfl, gv.symm⟩, _, _, rfl, rfl, d, g, c, b, cp + 1, rfl, S, by omega, by omega, fun t H1 t0 t1 S1 q1 => ⟨_, _, rfl, ?_⟩⟩
  generalize hm : (if t < spare then t else spare) = m
  have m1 : m ≤ spare := by split at hm <;> omega
  have m2 : m ≤ cap ks place := by rw [cpe]; split at hm <;> omega
  have m0 : 0 ≤ m := by have := B.sp; split at hm <;> omega
  clear hm
  have F1 := q1 _ _ f1 f2 hF
  have A1 := q1 _ _ a1 a2 hA
  refine ⟨_, rfl, _, rfl, F, _, rfl, DGet.k (k := .inl place) F1, _, rfl, ?_⟩
  rw [val_pairs]
  cases e : fs.lookup place with
  | some z => exact iteF (iteF (hN _ fs spare _ S1 q1.kf F1 A1 B))
  | none =>
    have new := lookup_none.mp e
    refine iteT ⟨_, rfl, _, _, rfl, rfl, _, rfl, ?_⟩
    by_cases pos : 0 < m
    · rw [decide_eq_true pos]
      have len := B.len
      have sp0 := B.sp
      refine iteT ⟨_, rfl, _, rfl, _, rfl, _, _, rfl, rfl, sz (by show 2 ≤ 1000; decide), fun t2 ht2 => ?_⟩
      have s2 := same_new (o := .tup [.int m, .int (spare - m)]) ht2
      have S2 := S1.new (o := .tup [.int m, .int (spare - m)]) ht2
      have T2 : upd H1 t2 (.tup [.int m, .int (spare - m)]) t2 = some (.tup [.int m, .int (spare - m)]) := upd_same
      have K2 : KF F a d g H1 (upd H1 t2 (.tup [.int m, .int (spare - m)])) := fun x o _ _ _ _ h => s2 x o h
      generalize upd H1 t2 (.tup [.int m, .int (spare - m)]) = H2 at s2 S2 T2 K2 ⊢
      refine ⟨t2, _, rfl, SqT.of T2, rfl, _, _, rfl, ⟨_, rfl, _, rfl, F, _, rfl, dput_pairs (s2 _ _ F1) (by omega), _, _, rfl, rfl, ?_⟩⟩
      have bd : -(10 ^ 30) ≤ place ∧ place ≤ 10 ^ 30 := by
        have := e30
        constructor <;> omega
      exact hN _ (putI fs place m) (spare - m) _ (S2.upd f1 f2 f3) ((q1.kf.trans K2).trans kf_upd) upd_same ((upd_ne (fun e => fa e.symm)).trans (s2 _ _ A1)) (B.put new pos m1 m2 bd)
    · rw [decide_eq_false pos]
      exact iteF (hN _ fs spare _ S1 q1.kf F1 A1 B)
end SR
set_option Elab.async false
set_option linter.all false
set_option maxRecDepth 100000
set_option maxHeartbeats 4000000
namespace SR
open PySem PySem.Spec PyProof.Rows L2
theorem perm_sum {l m : List Int} (h : l.Perm m) : l.sum = m.sum := by
  induction h with
  | nil => rfl
  | cons x _ ih => rw [List.sum_cons, List.sum_cons, ih]
  | swap x y l =>
    rw [List.sum_cons, List.sum_cons, List.sum_cons, List.sum_cons]
    omega
  | trans _ _ h1 h2 => exact h1.trans h2
def spBoxes (K : PySem.W.Frag) : Sp := fun vs H Q _ => ∃ (d g c : Addr) (b : Nat) (a : Addr) (n : Int) (ks : List (Int × Int)), vs = [.ref d, .ref a, .int n] ∧ StB H d g c (b + 40) ∧ a ≠ d ∧ a ≠ g ∧ a ≠ c ∧ H a = some (.dK (kvsOf ks)) ∧ (ks.map Prod.fst).Nodup ∧ (∀ p ∈ ks, sizeOk p) ∧ ks.length ≤ 6 ∧ 0 ≤ n ∧ n ≤ 40 ∧
  ∀ r H' ps, StB H' d g c b → Kp d g H H' → r ≠ d → r ≠ g → r ≠ c → H r = none → H' r = some (.dK (kvsOf ps)) → Asc ps → (∀ p ∈ ps, 1 ≤ p.2 ∧ p.2 ≤ cap ks p.1) → (∀ p ∈ ps, -(10 ^ 30) ≤ p.1 ∧ p.1 ≤ 10 ^ 30) → (ps.map Prod.snd).sum ≤ n → Q (.ref r) H'
def t_boxes (K : PySem.W.Frag) : TS := tSeq (tAsg (tTup (tCons (tCall (spPick K) [] E0 (tCons (tVar 0) (tCons (tLst (tCons (tC (.int 0)) (tCons (tC (.int 0)) (tCons (tUn (rU fun i => .int (-i)) (tC (.int 2))) (tCons (tUn (rU fun i => .int (-i)) (tC (.int 9))) (tCons (tC (.int 30)) (tCons (tOp qPow (tC (.int 10)) (tC (.int 29))) (tCons (tUn (rU fun i => .int (-i)) (tOp qPow (tC (.int 10)) (tC (.int 29)))) (tNil))))))))) (tNil)))) (tCons (tDNewK) (tCons (tVar 2) (tNil))))) (gTup K 3 (gCons (gName 3) (gCons (gName 4) (gCons (gName 5) (gNil))))))
  (tSeq (tFor (iRng1 (tCons (tCall spTake [] E0 (tCons (tVar 0) (tCons (tC (.int 6)) (tNil)))) (tNil))) (gName 6) (t_bxOut K))
  (tSeq (tLock (tFor (iKeys (tVar 1)) (gName 3) (t_bxKey K)))
  (tRet (t_sorted K 4 3))))
theorem pure_boxes {K : PySem.W.Frag} (vs : List V) (H : Hp) (Q : VK) (E : XK) (h : spBoxes K vs H Q E) : t_boxes K { nx := fun _ H' => Q .non H', rt := Q } (start ["state", "sizes", "most", "place", "found", "spare", "turn", "step", "amount"] vs) H := by
  obtain ⟨d, g, c, b, a, n, ks, rfl, S, a1, a2, a3, hA, hkd, hk, hkl, n0, n40, q⟩ := h
  have E29 : (10 : Int) ^ (29 : Int).toNat = 100000000000000000000000000000 := e29
  refine ⟨_, rfl, 2, rfl, 9, rfl, 10, 29, rfl, rfl, ⟨by decide, by decide, by decide⟩, 10, 29, rfl, rfl, ⟨by decide, by decide, by decide⟩, _, rfl, sz (by show 7 ≤ 1000; decide), fun l hl => ?_⟩
  obtain ⟨l1, l2, l3⟩ := S.off hl
  refine ⟨d, g, c, b + 39, l, _, rfl, S.new hl, SqL.of upd_same, l1, l2, by show 0 < 7; decide, by show 7 < 1000; decide, fun v H1 hv S1 q1 => ?_⟩
  obtain ⟨pl, rfl, pl1, pl2⟩ : ∃ m : Int, v = .int m ∧ -100000000000000000000000000000 ≤ m ∧ m ≤ 100000000000000000000000000000 := by
    simp only [List.mem_cons, List.not_mem_nil, or_false] at hv
    rcases hv with rfl | rfl | rfl | rfl | rfl | rfl | rfl
    · exact ⟨0, rfl, by decide, by decide⟩
    · exact ⟨0, rfl, by decide, by decide⟩
    · exact ⟨_, rfl, by decide, by decide⟩
    · exact ⟨_, rfl, by decide, by decide⟩
    · exact ⟨30, rfl, by decide, by decide⟩
    · exact ⟨_, rfl, by rw [E29]; decide, by rw [E29]; decide⟩
    · exact ⟨_, rfl, by rw [E29]; decide, by rw [E29]; decide⟩
  clear hv
  have k1 : Kp d g H H1 := (Kp.new hl).trans q1
  intro F hF
  obtain ⟨f1, f2, f3⟩ := S1.off hF
  have A1 := k1 _ _ a1 a2 hA
  have fa : F ≠ a := fun e => by
    rw [e, A1] at hF
    cases hF
  have hF0 : H F = none := by
    cases e : H F with
    | none => rfl
    | some o =>
      have := k1 F o f1 f2 e
      rw [hF] at this
      cases this
  have S2 := S1.new (o := .dK []) hF
  have D2 : upd H1 F (.dK []) F = some (.dK (kvsOf [])) := upd_same
  have A2 : upd H1 F (.dK []) a = some (.dK (kvsOf ks)) := (upd_ne fa.symm).trans A1
  have K2 : KF F a d g H (upd H1 F (.dK [])) := k1.kf.trans kf_upd
  generalize upd H1 F (.dK []) = H2 at S2 D2 A2 K2 ⊢
  refine ⟨_, rfl, sz (by show 3 ≤ 1000; decide), fun t ht => ?_⟩
  have s3 := same_new (o := .tup [.int pl, .ref F, .int n]) ht
  have T3 : upd H2 t (.tup [.int pl, .ref F, .int n]) t = some (.tup [.int pl, .ref F, .int n]) := upd_same
  have S3 := S2.new (o := .tup [.int pl, .ref F, .int n]) ht
  generalize upd H2 t (.tup [.int pl, .ref F, .int n]) = H3 at s3 T3 S3 ⊢
  have K3 : KF F a d g H H3 := K2.trans fun x o _ _ _ _ h => s3 x o h
  refine ⟨t, _, rfl, SqT.of T3, rfl, _, _, rfl, _, _, rfl, _, _, rfl, rfl, ?_⟩
  refine ⟨_, rfl, d, g, c, b + 38, 6, rfl, S3, by decide, by decide, fun u H4 u0 u1 S4 q4 => ⟨u, rfl, by omega, by omega, ?_⟩⟩
  have B0 : Bx n ks [] n := ⟨List.nodup_nil, (fun p m => nomatch m), by show 0 + n = n; omega, n0, (fun p m => nomatch m)⟩
  have bd0 : -(10 ^ 29) ≤ pl ∧ pl ≤ 10 ^ 29 + (((0 : Nat) : Int)) * 20000000000000000000000000000 := by
    have := e29
    constructor <;> omega
  refine for_range (lo := 0) (n := u.toNat) (fun i σ H5 => StB H5 d g c (b + 38 - 6 * i) ∧ KF F a d g H H5 ∧ ∃ gs sp pl u6 u7 u8, H5 F = some (.dK (kvsOf gs)) ∧ H5 a = some (.dK (kvsOf ks)) ∧ Bx n ks gs sp ∧ (∀ p ∈ gs, p.1 < pl) ∧ (-(10 ^ 29) ≤ pl ∧ pl ≤ 10 ^ 29 + (i : Int) * 20000000000000000000000000000) ∧ σ = [some (.ref d), some (.ref a), some (.int n), some (.int pl), some (.ref F), some (.int sp), u6, u7, u8])
    ⟨S4, K3.trans q4.kf, [], n, pl, none, none, none, q4 _ _ f1 f2 (s3 _ _ D2), q4 _ _ a1 a2 (s3 _ _ A2), B0, (fun p m => nomatch m), bd0, rfl⟩ ?_ ?_
  · rintro i σ H5 hi ⟨S5, K5, gs, sp, pl5, u6, u7, u8, F5, A5, B5, lt5, bd5, rfl⟩
    have hb : b + 38 - 6 * i = (b + 38 - 6 * (i + 1)) + 6 := by omega
    rw [hb] at S5
    show t_bxOut K _ [some (.ref d), some (.ref a), some (.int n), some (.int pl5), some (.ref F), some (.int sp), some (.int (0 + i)), u7, u8] H5
    refine bx_out (i := (i : Int)) S5 F5 A5 f1 f2 f3 fa a1 a2 hk B5 n40 lt5 (by omega) (by omega) bd5 fun H6 hs sp6 pl6 v7 v8 S6 K6 F6 A6 B6 lt6 bd6 => ⟨S6, K5.trans K6, hs, sp6, pl6, some (.int (0 + i)), v7, v8, F6, A6, B6, lt6, ?_, rfl⟩
    rw [show ((i + 1 : Nat) : Int) = (i : Int) + 1 by omega]
    exact bd6
  · rintro σ H5 ⟨S5, K5, gs, sp, pl5, u6, u7, u8, F5, A5, B5, lt5, bd5, rfl⟩
    have S5' : StB H5 d g c (b + 6) := S5.mono (by omega)
    clear S5
    refine ⟨a, _, A5, trivial, fun od => ?_⟩
    have S6 := S5'.upd (o := .frz od (.dK (kvsOf ks))) a1 a2 a3
    have A6 : upd H5 a (.frz od (.dK (kvsOf ks))) a = some (.frz od (.dK (kvsOf ks))) := upd_same
    have F6 : upd H5 a (.frz od (.dK (kvsOf ks))) F = some (.dK (kvsOf gs)) := (upd_ne fa).trans F5
    have K6 : KF F a d g H (upd H5 a (.frz od (.dK (kvsOf ks)))) := K5.trans kf_updA
    generalize upd H5 a (.frz od (.dK (kvsOf ks))) = H6 at S6 A6 F6 K6 ⊢
    have kl : (kvsOf ks).length = ks.length := by unfold kvsOf; rw [List.length_map]
    refine ⟨_, rfl, a, od, rfl, .inl ⟨_, A6, ?_⟩⟩
    refine for_it (walk_keys (d := a) (o := od) (kvs := kvsOf ks)) (fun i σ H7 => StB H7 d g c (b + 6 - i) ∧ KF F a d g H H7 ∧ ∃ gs sp u3 u6 u7 u8, H7 F = some (.dK (kvsOf gs)) ∧ H7 a = some (.frz od (.dK (kvsOf ks))) ∧ Bx n ks gs sp ∧ σ = [some (.ref d), some (.ref a), some (.int n), u3, some (.ref F), some (.int sp), u6, u7, u8])
      ⟨S6, K6, gs, sp, some (.int pl5), u6, u7, u8, F6, A6, B5, rfl⟩ ?_ ?_ ?_
    · rintro i σ H7 _ ⟨_, _, gs7, sp7, u3, v6, v7, v8, F7, A7, _⟩
      exact A7
    · rintro i x σ H7 H8 hi ⟨S7, K7, gs7, sp7, u3, v6, v7, v8, F7, A7, B7, rfl⟩ ⟨rfl, k, v, hkv, rfl⟩
      obtain ⟨p, hp, e⟩ : ∃ p, ks[i]? = some p ∧ ((.inl p.1, .int p.2) : Key × V) = (k, v) := by
        unfold kvsOf at hkv
        rw [List.getElem?_map] at hkv
        obtain ⟨p, h1, h2⟩ := Option.map_eq_some_iff.mp hkv
        exact ⟨p, h1, h2⟩
      cases e
      have hb : b + 6 - i = (b + 6 - (i + 1)) + 1 := by omega
      rw [hb] at S7
      show t_bxKey K _ [some (.ref d), some (.ref a), some (.int n), some (.int p.1), some (.ref F), some (.int sp7), v6, v7, v8] H8
      refine bx_key (cp := p.2) S7 F7 A7 f1 f2 f3 fa a1 a2 hk hkd (List.mem_of_getElem? hp) B7 n40 fun H9 hs sp9 w9 S9 K9 F9 A9 B9 => ⟨S9, K7.trans K9, hs, sp9, some (.int p.1), v6, v7, w9, F9, A9, B9, rfl⟩
    · rintro σ H7 ⟨S7, K7, gs7, sp7, u3, v6, v7, v8, F7, A7, B7, rfl⟩
      refine ⟨A7, ?_⟩
      have S8 := S7.upd (o := .dK (kvsOf ks)) a1 a2 a3
      have A8 : upd H7 a (.dK (kvsOf ks)) a = some (.dK (kvsOf ks)) := upd_same
      have F8 : upd H7 a (.dK (kvsOf ks)) F = some (.dK (kvsOf gs7)) := (upd_ne fa).trans F7
      have K8 : KF F a d g H (upd H7 a (.dK (kvsOf ks))) := K7.trans kf_updA
      generalize upd H7 a (.dK (kvsOf ks)) = H8 at S8 A8 F8 K8 ⊢
      have len := B7.len
      have sp0 := B7.sp
      refine sorted_dict F8 B7.nd (by omega) rfl (fun y => rfl) (fun y => rfl) (fun y => rfl) fun r H9 ps hr s9 d9 pm asc => ?_
      obtain ⟨r1, r2, r3⟩ := S8.off hr
      have kp : Kp d g H H9 := fun x o e1 e2 hx => by
        refine s9 _ _ ?_
        by_cases ea : x = a
        · subst ea
          rw [hA] at hx
          cases hx
          exact A8
        · exact K8 x o (fun e => by rw [e, hF0] at hx; cases hx) ea e1 e2 hx
      have hr0 : H r = none := by
        cases e : H r with
        | none => rfl
        | some o =>
          have z : H8 r = some o := by
            by_cases ea : r = a
            · subst ea
              rw [A8] at hr
              cases hr
            · exact K8 r o (fun w => by rw [w, hF0] at e; cases e) ea r1 r2 e
          rw [hr] at z
          cases z
      refine q r H9 ps ((StB.same s9 S8).mono (by omega)) kp r1 r2 r3 hr0 d9 asc (fun p m => B7.po p (pm.mem_iff.mp m)) (fun p m => B7.bd p (pm.mem_iff.mp m)) ?_
      have sm := B7.sm
      have : (ps.map Prod.snd).sum = (gs7.map Prod.snd).sum := perm_sum (pm.map Prod.snd)
      omega
end SR
set_option Elab.async false
set_option linter.all false
set_option maxRecDepth 100000
set_option maxHeartbeats 4000000
namespace SR
open PySem PySem.Spec PyProof.Rows L2
theorem asc_eq : ∀ {ps qs : List (Int × Int)}, Asc ps → Asc qs → ps.Perm qs → ps = qs
  | [], qs, _, _, h => (List.nil_perm.mp h).symm
  | p :: ps, [], _, _, h => absurd (List.perm_nil.mp h) (by simp)
  | p :: ps, q :: qs, h1, h2, h => by
    have a := List.pairwise_cons.mp h1
    have b := List.pairwise_cons.mp h2
    have e : p = q := by
      rcases List.mem_cons.mp (h.mem_iff.mp List.mem_cons_self) with e | m
      · exact e
      · rcases List.mem_cons.mp (h.symm.mem_iff.mp (List.mem_cons_self (a := q) (l := qs))) with e | m2
        · exact e.symm
        · have := a.1 q m2
          have := b.1 p m
          omega
    subst e
    rw [asc_eq a.2 b.2 (List.perm_cons p |>.mp h)]
theorem RowOk.perm {ps ks qs ls : List (Int × Int)} (h : RowOk ps ks) (h1 : qs.Perm ps) (h2 : ls.Perm ks) : RowOk qs ls := by
  have ce : ∀ i, cap ls i = cap ks i := fun i => by
    unfold cap
    rw [lookup_perm h2.symm h.kd]
  exact ⟨(h1.map _).nodup_iff.mpr h.nd, (h2.map _).nodup_iff.mpr h.kd, by rw [h2.length_eq]; exact h.kl, fun p m => h.ko p (h2.mem_iff.mp m), fun p m => by rw [ce]; exact h.po p (h1.mem_iff.mp m), by rw [perm_sum (h1.map _)]; exact h.sm⟩
theorem asc_nd {ps : List (Int × Int)} (h : Asc ps) : (ps.map Prod.fst).Nodup := by
  unfold List.Nodup
  rw [List.pairwise_map]
  exact h.imp fun {a b} z e => by omega
/-- a new row -/
theorem make_row {K : PySem.W.Frag} {C : Addr} {H : Hp} {l1 l2 : Addr} {ps ks : List (Int × Int)} {Q : VK} {E : XK} (hp : PairsAt K H l1 ps) (hk : PairsAt K H l2 ks) (ok : RowOk ps ks)
    (q : ∀ x H' qs ls, H x = none → Same H H' → RowAt K C H' x qs ls → qs.Perm ps → ls.Perm ks → Asc qs → Asc ls → Q (.ref x) H') :
    ∀ x dx, H x = none → H dx = none → dx ≠ x → spRowInit K C [.ref x, .ref l1, .ref l2] (upd (upd H dx (.own x)) x (.ins C dx [])) (fun v H2 => v = .non ∧ Q (.ref x) H2) E := by
  intro x dx hx hd ne
  have hx2 : upd H dx (.own x) x = none := (upd_ne ne.symm).trans hx
  have s : Same H (upd (upd H dx (.own x)) x (.ins C dx [])) := (same_new hd).trans (same_new hx2)
  refine ⟨x, l1, l2, dx, ps, ks, rfl, upd_same, hp.same s, hk.same s, ok, fun H' qs ls sb row p1 p2 a1 a2 => ⟨rfl, q x H' qs ls hx (fun b o hb => ?_) row p1 p2 a1 a2⟩⟩
  exact sb b o (ne_of_none hb hx) (s b o hb)
def spMade (K : PySem.W.Frag) (C : Addr) : Sp := fun vs H Q _ => ∃ a b ps ks, vs = [.ref a, .ref b] ∧ H a = some (.dK (kvsOf ps)) ∧ H b = some (.dK (kvsOf ks)) ∧ RowOk ps ks ∧ Asc ps ∧ Asc ks ∧ ∀ x H', H x = none → Same H H' → RowAt K C H' x ps ks → Q (.ref x) H'
def t_made (K : PySem.W.Frag) (c_Row : Addr) : TS := tRet (tMake c_Row (spRowInit K c_Row) [] E0 (tCons (LiI.tListItems (tVar 0)) (tCons (LiI.tListItems (tVar 1)) (tNil))))
theorem items_pairs {K : PySem.W.Frag} {H : Hp} {p : Addr} {ts : List Addr} {ps : List (Int × Int)} (h1 : H p = some (.lst (ts.map V.ref))) (h2 : Paired (fun (t : Addr) (q : Key × V) => H t = some (.tup [kV q.1, q.2])) ts (kvsOf ps)) : PairsAt K H p ps := by
  refine ⟨ts, .inl (SqL.of h1), ?_⟩
  clear h1
  induction ps generalizing ts with
  | nil =>
    cases h2
    exact .nil
  | cons q ps ih =>
    cases h2 with
    | cons a b => exact .cons a (ih b)
theorem pure_made {K : PySem.W.Frag} {C : Addr} (vs : List V) (H : Hp) (Q : VK) (E : XK) (h : spMade K C vs H Q E) : t_made K C { nx := fun _ H' => Q .non H', rt := Q } (start ["boxes", "sizes"] vs) H := by
  obtain ⟨a, b, ps, ks, rfl, hA, hB, ok, ap, ak, q⟩ := h
  refine ⟨_, rfl, a, _, rfl, hA, fun H1 l1 t1 s1 n1 _ _ d1 p1 => ?_⟩
  refine ⟨_, rfl, b, _, rfl, s1 _ _ hB, fun H2 l2 t2 s2 n2 _ _ d2 p2 => ?_⟩
  have q1 : PairsAt K H2 l1 ps := (items_pairs d1 p1).same s2
  have q2 : PairsAt K H2 l2 ks := items_pairs d2 p2
  refine make_row q1 q2 ok fun x H' qs ls hx s row e1 e2 b1 b2 => ?_
  have z1 := asc_eq b1 ap e1
  have z2 := asc_eq b2 ak e2
  subst z1 z2
  exact q x H' (Same.free (Same.trans s1 s2) hx) (Same.trans s1 (Same.trans s2 s)) row
end SR
set_option Elab.async false
set_option linter.all false
set_option maxRecDepth 100000
set_option maxHeartbeats 4000000
namespace SR
open PySem PySem.Spec PyProof.Rows L2
/-- a property of the class, by its promise -/
structure Prp (P : Program) (w : World) (K : PySem.W.Frag) (mg : Str → Option Value) (base : Heap) (k : Nat) (C : Addr) (f : Str) (sp : Sp) : Prop where
  ex : ∃ (p g : Addr) (fd : FuncData) (ps : List Str), Cls K C ∧ PropOf K C f p g ∧ FnOk P w K mg base CX0 k g fd ps sp ∧ Binds K fd ps []
theorem pe_pr {X : Cx} {j k : Nat} {C : Addr} {f : Str} {sp : Sp} {e : Expr} {pos : Pos} {ta : TE} (c : Prp X.prog X.w X.K X.mg X.base k C f sp) (hr : Room j X.A) (hk : k + 1 ≤ j) (he : PE X e ta) (hab : attributeBase e f X.env (eval e X.env) = eval e X.env := by rfl) :
    PE X (.Attribute e f pos) (tProp C sp [] E0 ta) := by
  obtain ⟨p, g, fd, ps, c1, c2, F, b⟩ := c.ex
  exact pe_prop he c1 c2 F (hr.mono hk) b .nil pass0 hab
end SR
set_option Elab.async false
set_option linter.all false
set_option maxRecDepth 100000
set_option maxHeartbeats 4000000
namespace SR
open PySem PySem.Spec PyProof.Rows L2
abbrev Step := Int × Int × Int × Int × Int
def stepAt (cn cp : Int → Int) (most i l : Int) : Step := (i, l, cn i, stL most l (cp i) (cn i), stC most l (cp i) (cn i))
/-- from box i on, with the load l, until it is 0 -/
inductive Walks (cn cp : Int → Int) (most : Int) : Int → Int → List Step → Prop where
  | last {i l : Int} (h : stL most l (cp i) (cn i) = 0) : Walks cn cp most i l [stepAt cn cp most i l]
  | more {i l : Int} {r : List Step} (h : stL most l (cp i) (cn i) ≠ 0) (t : Walks cn cp most (i + 1) (stL most l (cp i) (cn i)) r) : Walks cn cp most i l (stepAt cn cp most i l :: r)
def sumFrom (i : Int) (ps : List (Int × Int)) : Int := (ps.map fun p => if i ≤ p.1 then p.2 else 0).sum
theorem sumFrom_cons (i : Int) (p : Int × Int) (ps : List (Int × Int)) : sumFrom i (p :: ps) = (if i ≤ p.1 then p.2 else 0) + sumFrom i ps := rfl
theorem cnt_cons (i : Int) (p : Int × Int) (ps : List (Int × Int)) : cnt (p :: ps) i = if i = p.1 then p.2 else cnt ps i := by
  unfold cnt
  obtain ⟨j, n⟩ := p
  rw [List.lookup_cons]
  by_cases e : i = j
  · subst e
    rw [beq_self_eq_true, if_pos rfl]
    rfl
  · rw [beq_eq_false_iff_ne.mpr e, if_neg e]
theorem sumFrom_next (i : Int) : ∀ {ps : List (Int × Int)}, (ps.map Prod.fst).Nodup → sumFrom i ps = cnt ps i + sumFrom (i + 1) ps
  | [], _ => rfl
  | p :: ps, nd => by
    have nd' := List.nodup_cons.mp nd
    have ih := sumFrom_next i nd'.2
    rw [sumFrom_cons, sumFrom_cons, cnt_cons, ih]
    by_cases e : i = p.1
    · have z : cnt ps i = 0 := by
        unfold cnt
        rw [lookup_none.mpr (by rw [e]; exact nd'.1)]
        rfl
      rw [if_pos e, if_pos (by omega), if_neg (by omega), z]
    · rw [if_neg e]
      by_cases f : i ≤ p.1
      · rw [if_pos f, if_pos (by omega)]
        omega
      · rw [if_neg f, if_neg (by omega)]
        omega
theorem sumFrom_bd (i : Int) : ∀ {ps : List (Int × Int)}, (∀ p ∈ ps, 1 ≤ p.2) → 0 ≤ sumFrom i ps ∧ sumFrom i ps ≤ (ps.map Prod.snd).sum
  | [], _ => ⟨Int.le_refl _, Int.le_refl _⟩
  | p :: ps, h => by
    have ih := sumFrom_bd i (ps := ps) fun q m => h q (List.mem_cons_of_mem _ m)
    have := h p List.mem_cons_self
    rw [sumFrom_cons, List.map_cons, List.sum_cons]
    split <;> omega
theorem cnt_bd {ps ks : List (Int × Int)} (ok : RowOk ps ks) (i : Int) : 0 ≤ cnt ps i ∧ cnt ps i ≤ cap ks i := by
  have c := cap_ok ok.ko i
  unfold cnt
  cases e : ps.lookup i with
  | none => exact ⟨Int.le_refl _, by show (0 : Int) ≤ _; omega⟩
  | some n =>
    have m := (lookup_some ok.nd).mp e
    have := ok.po _ m
    exact ⟨by show (0 : Int) ≤ n; omega, this.2⟩
theorem held_none (c k d e : Addr) : List.lookup ("held" : Str) (rowFs c k d e) = none := by
  unfold rowFs
  rw [lkNe (by decide), lkNe (by decide), lkNe (by decide), lkNe (by decide)]
  rfl
theorem capacity_none (c k d e : Addr) : List.lookup ("capacity" : Str) (rowFs c k d e) = none := by
  unfold rowFs
  rw [lkNe (by decide), lkNe (by decide), lkNe (by decide), lkNe (by decide)]
  rfl
theorem RowAt.ins {K : PySem.W.Frag} {C : Addr} {H : Hp} {x : Addr} {ps ks : List (Int × Int)} (h : RowAt K C H x ps ks) : ∃ dx fs, H x = some (.ins C dx fs) ∧ List.lookup ("held" : Str) fs = none ∧ List.lookup ("capacity" : Str) fs = none := by
  obtain ⟨dx, c, k, d, e, _, _, h1, _⟩ := h
  exact ⟨dx, _, h1, held_none c k d e, capacity_none c k d e⟩
end SR
set_option Elab.async false
set_option linter.all false
set_option maxRecDepth 100000
set_option maxHeartbeats 4000000
namespace SR
open PySem PySem.Spec PyProof.Rows L2
def lastIdx (acc : List Step) : Int := ((acc.getLast?).map Prod.fst).getD 0
/-- the steps over the items that are left -/
inductive Traces (cn cp : Int → Int) (most : Int) : List (Int × Int) → List Step → List Step → Prop where
  | nil {acc : List Step} : Traces cn cp most [] acc acc
  | skip {p : Int × Int} {ps : List (Int × Int)} {acc r : List Step} (h : acc ≠ []) (h2 : ¬ lastIdx acc < p.1) (t : Traces cn cp most ps acc r) : Traces cn cp most (p :: ps) acc r
  | walk {p : Int × Int} {ps : List (Int × Int)} {acc w r : List Step} (h : acc = [] ∨ lastIdx acc < p.1) (hw : Walks cn cp most p.1 0 w) (t : Traces cn cp most ps (acc ++ w) r) : Traces cn cp most (p :: ps) acc r
/-- what a list of the steps' own leaves of a row -/
theorem RowAt.but {K : PySem.W.Frag} {C : Addr} {H H' : Hp} {x s : Addr} {ps ks : List (Int × Int)} {xs : List V} (row : RowAt K C H x ps ks) (hs : H s = some (.lst xs)) (k : SameBut s H H') : RowAt K C H' x ps ks := by
  obtain ⟨dx, c, k0, d, e, ps0, ks0, h1, ⟨t1, h2, h3⟩, ⟨t2, h4, h5⟩, h6, h7, h8⟩ := row
  have kp : ∀ {b : Addr} {o : HO}, H b = some o → (∀ xs, o ≠ .lst xs) → H' b = some o := fun {b o} hb no => k b o (fun e => by rw [e, hs] at hb; exact no _ (Option.some.inj hb).symm) hb
  refine ⟨dx, c, k0, d, e, ps0, ks0, kp h1 (fun _ e => nomatch e), ⟨t1, ?_, paired_imp (fun _ p z => kp (o := .tup [.int p.1, .int p.2]) z (fun _ e => nomatch e)) h3⟩, ⟨t2, ?_, paired_imp (fun _ p z => kp (o := .tup [.int p.1, .int p.2]) z (fun _ e => nomatch e)) h5⟩, kp h6 (fun _ e => nomatch e), kp h7 (fun _ e => nomatch e), h8⟩
  · obtain ⟨o, a1, a2⟩ := h2
    exact ⟨o, kp a1 (fun _ e => nomatch e), a2⟩
  · obtain ⟨o, a1, a2⟩ := h4
    exact ⟨o, kp a1 (fun _ e => nomatch e), a2⟩
theorem at_last {xs : List V} {v : V} (h : xs.getLast? = some v) : atI xs (-1) = some v := by
  have ne : xs ≠ [] := fun z => by rw [z] at h; cases h
  have l1 : 0 < xs.length := List.length_pos_iff.mpr ne
  rw [List.getLast?_eq_getElem?] at h
  unfold atI ixN
  rw [if_neg (by decide), if_pos (by omega), show (-1 + (xs.length : Int)).toNat = xs.length - 1 by omega]
  exact h
theorem walks_ne {cn cp : Int → Int} {most i l : Int} {w : List Step} (h : Walks cn cp most i l w) : w ≠ [] := by
  cases h <;> simp
theorem paired_append {α β : Type} {F : α → β → Prop} : ∀ {xs xs' : List α} {ys ys' : List β}, Paired F xs ys → Paired F xs' ys' → Paired F (xs ++ xs') (ys ++ ys')
  | _, _, _, _, .nil, h => h
  | _, _, _, _, .cons a t, h => .cons a (paired_append t h)
end SR
set_option Elab.async false
set_option linter.all false
set_option maxRecDepth 100000
set_option maxHeartbeats 4000000
namespace SR
open PySem PySem.Spec PyProof.Rows L2
/-- indexes ascend -/
def AscS (st : List Step) : Prop := st.Pairwise fun a b => a.1 < b.1
/-- what every step is -/
def StepOk (ps ks : List (Int × Int)) (s : Step) : Prop := s.2.2.1 = cnt ps s.1 ∧ 0 ≤ s.2.2.2.2 ∧ s.2.2.2.2 ≤ cap ks s.1
def sumIn (st : List Step) : Int := (st.map fun s => s.2.2.1).sum
def sumOut (st : List Step) : Int := (st.map fun s => s.2.2.2.2).sum
theorem step_ok {ps ks : List (Int × Int)} (ok : RowOk ps ks) {most i l : Int} (m1 : 1 ≤ most) (l0 : 0 ≤ l) (l1 : l ≤ most) :
    StepOk ps ks (stepAt (cnt ps) (cap ks) most i l) ∧ (0 ≤ stL most l (cap ks i) (cnt ps i) ∧ stL most l (cap ks i) (cnt ps i) ≤ most) ∧ stC most l (cap ks i) (cnt ps i) + stL most l (cap ks i) (cnt ps i) = cnt ps i + l := by
  have c := cap_ok ok.ko i
  have n := cnt_bd ok i
  refine ⟨⟨rfl, ?_, ?_⟩, ?_, ?_⟩
  · show 0 ≤ stC most l (cap ks i) (cnt ps i)
    unfold stC
    omega
  · show stC most l (cap ks i) (cnt ps i) ≤ cap ks i
    unfold stC
    omega
  · unfold stL
    omega
  · unfold stC stL
    omega
theorem walks_all {ps ks : List (Int × Int)} (ok : RowOk ps ks) {most : Int} (m1 : 1 ≤ most) {i l : Int} {w : List Step} (h : Walks (cnt ps) (cap ks) most i l w) : 0 ≤ l → l ≤ most → AscS w ∧ (∀ s ∈ w, i ≤ s.1 ∧ StepOk ps ks s) ∧ sumOut w = sumIn w + l := by
  induction h with
  | @last i l h =>
    intro l0 l1
    obtain ⟨a, b, c⟩ := step_ok (i := i) ok m1 l0 l1
    refine ⟨List.pairwise_singleton _ _, fun s m => ?_, ?_⟩
    · rw [List.mem_singleton.mp m]
      exact ⟨Int.le_refl _, a⟩
    · show stC most l (cap ks i) (cnt ps i) + 0 = cnt ps i + 0 + l
      omega
  | @more i l r h t ih =>
    intro l0 l1
    obtain ⟨a, b, c⟩ := step_ok (i := i) ok m1 l0 l1
    obtain ⟨d, e, f⟩ := ih b.1 b.2
    refine ⟨List.pairwise_cons.mpr ⟨fun s m => ?_, d⟩, fun s m => ?_, ?_⟩
    · have := (e s m).1
      show i < s.1
      omega
    · rcases List.mem_cons.mp m with rfl | m
      · exact ⟨Int.le_refl _, a⟩
      · have := e s m
        exact ⟨by omega, this.2⟩
    · show stC most l (cap ks i) (cnt ps i) + sumOut r = cnt ps i + sumIn r + l
      omega
theorem sum_app (a b : List Step) : sumIn (a ++ b) = sumIn a + sumIn b ∧ sumOut (a ++ b) = sumOut a + sumOut b := by
  unfold sumIn sumOut
  rw [List.map_append, List.map_append, List.sum_append, List.sum_append]
  exact ⟨rfl, rfl⟩
theorem last_most {acc : List Step} (h : AscS acc) : ∀ s ∈ acc, s.1 ≤ lastIdx acc := by
  intro s m
  unfold lastIdx
  cases e : acc.getLast? with
  | none =>
    rw [List.getLast?_eq_none_iff.mp e] at m
    cases m
  | some z =>
    show s.1 ≤ z.1
    obtain ⟨ys, rfl⟩ := List.getLast?_eq_some_iff.mp e
    rcases List.mem_append.mp m with m | m
    · have := (List.pairwise_append.mp h).2.2 s m z (List.mem_singleton.mpr rfl)
      omega
    · rw [List.mem_singleton.mp m]
      exact Int.le_refl _
theorem traces_all {ps ks : List (Int × Int)} (ok : RowOk ps ks) {most : Int} (m1 : 1 ≤ most) {qs : List (Int × Int)} {acc st : List Step} (h : Traces (cnt ps) (cap ks) most qs acc st) : AscS acc → (∀ s ∈ acc, StepOk ps ks s) → sumOut acc = sumIn acc → AscS st ∧ (∀ s ∈ st, StepOk ps ks s) ∧ sumOut st = sumIn st := by
  induction h with
  | nil => exact fun a b c => ⟨a, b, c⟩
  | skip _ _ _ ih => exact ih
  | @walk p qs acc w r on hw t ih =>
    intro a b c
    obtain ⟨d, e, f⟩ := walks_all ok m1 hw (Int.le_refl 0) (by omega)
    obtain ⟨s1, s2⟩ := sum_app acc w
    refine ih (List.pairwise_append.mpr ⟨a, d, fun x hx y hy => ?_⟩) (fun s m => ?_) (by omega)
    · rcases on with on | on
      · rw [on] at hx
        cases hx
      · have z1 := last_most a x hx
        have z2 := (e y hy).1
        omega
    · rcases List.mem_append.mp m with m | m
      · exact b s m
      · exact (e s m).2
theorem sumFrom_mono {ps : List (Int × Int)} (h : ∀ p ∈ ps, 1 ≤ p.2) {i j : Int} (ij : i ≤ j) : sumFrom j ps ≤ sumFrom i ps := by
  induction ps with
  | nil => exact Int.le_refl _
  | cons p ps ih =>
    have a := ih fun q m => h q (List.mem_cons_of_mem _ m)
    have b := h p List.mem_cons_self
    rw [sumFrom_cons, sumFrom_cons]
    split <;> split <;> omega
theorem sumIn_le {ps ks : List (Int × Int)} (ok : RowOk ps ks) : ∀ {st : List Step} (i : Int), AscS st → (∀ s ∈ st, i ≤ s.1 ∧ StepOk ps ks s) → sumIn st ≤ sumFrom i ps
  | [], i, _, _ => (sumFrom_bd i fun p m => (ok.po p m).1).1
  | s :: st, i, a, b => by
    have a' := List.pairwise_cons.mp a
    have hs := b s List.mem_cons_self
    have ih := sumIn_le ok (s.1 + 1) a'.2 fun t m => ⟨by have := a'.1 t m; omega, (b t (List.mem_cons_of_mem _ m)).2⟩
    have nx := sumFrom_next s.1 ok.nd
    have mo := sumFrom_mono (fun p m => (ok.po p m).1) hs.1
    have e := hs.2.1
    show s.2.2.1 + sumIn st ≤ _
    omega
/-- the items that steps leave -/
def left (st : List Step) : List (Int × Int) := (st.filter fun s => decide (0 < s.2.2.2.2)).map fun s => (s.1, s.2.2.2.2)
theorem left_sum : ∀ {st : List Step}, (∀ s ∈ st, 0 ≤ s.2.2.2.2) → ((left st).map Prod.snd).sum = sumOut st
  | [], _ => rfl
  | s :: st, h => by
    have ih := left_sum (st := st) fun t m => h t (List.mem_cons_of_mem _ m)
    have z := h s List.mem_cons_self
    show _ = s.2.2.2.2 + sumOut st
    unfold left at ih ⊢
    by_cases e : 0 < s.2.2.2.2
    · rw [List.filter_cons_of_pos (p := fun s : Step => decide (0 < s.2.2.2.2)) (decide_eq_true e), List.map_cons, List.map_cons, List.sum_cons, ih]
    · rw [List.filter_cons_of_neg (p := fun s : Step => decide (0 < s.2.2.2.2)) (by rw [decide_eq_false e]; exact Bool.false_ne_true), ih]
      omega
theorem left_ok {ps ks : List (Int × Int)} (ok : RowOk ps ks) {most : Int} (m1 : 1 ≤ most) {st : List Step} (h : Traces (cnt ps) (cap ks) most ps [] st) : RowOk (left st) ks ∧ Asc (left st) ∧ ((left st).map Prod.snd).sum = sumIn st := by
  obtain ⟨a, b, c⟩ := traces_all ok m1 h List.Pairwise.nil (fun s m => nomatch m) rfl
  have asc : Asc (left st) := by
    unfold Asc left
    rw [List.pairwise_map]
    exact List.Pairwise.filter _ a
  have sm := left_sum fun s m => (b s m).2.1
  have low : ∃ i : Int, ∀ s ∈ st, i ≤ s.1 := by
    cases st with
    | nil => exact ⟨0, fun s m => nomatch m⟩
    | cons s st =>
      refine ⟨s.1, fun t m => ?_⟩
      rcases List.mem_cons.mp m with rfl | m
      · exact Int.le_refl _
      · have := (List.pairwise_cons.mp a).1 t m
        omega
  obtain ⟨i, low⟩ := low
  have le := sumIn_le ok i a fun s m => ⟨low s m, b s m⟩
  have top := (sumFrom_bd i fun p m => (ok.po p m).1).2
  have s40 := ok.sm
  refine ⟨⟨asc_nd asc, ok.kd, ok.kl, ok.ko, fun p m => ?_, by omega⟩, asc, by omega⟩
  obtain ⟨s, hs, rfl⟩ := List.mem_map.mp m
  obtain ⟨hs1, hs2⟩ := List.mem_filter.mp hs
  have := of_decide_eq_true hs2
  exact ⟨by show 1 ≤ s.2.2.2.2; omega, (b s hs1).2.2⟩
end SR
set_option Elab.async false
set_option linter.all false
set_option maxRecDepth 100000
set_option maxHeartbeats 4000000
set_option Elab.async false
set_option linter.all false
set_option maxRecDepth 100000
set_option maxHeartbeats 4000000
namespace SR
open PySem PySem.Spec PyProof.Rows L2
def neg1 (p : Int × Int) : Int × Int := (-p.1, p.2)
/-- the row seen from the other side -/
def mirror (ps : List (Int × Int)) : List (Int × Int) := (ps.map neg1).reverse
theorem mirror_perm (ps : List (Int × Int)) : (mirror ps).Perm (ps.map neg1) := List.reverse_perm _
theorem mirror_asc {ps : List (Int × Int)} (h : Asc ps) : Asc (mirror ps) := by
  unfold Asc mirror
  rw [List.pairwise_reverse, List.pairwise_map]
  refine h.imp fun {a b} z => ?_
  show -b.1 < -a.1
  omega
theorem lookup_neg (i : Int) : ∀ ps : List (Int × Int), (ps.map neg1).lookup (-i) = ps.lookup i
  | [] => rfl
  | p :: ps => by
    obtain ⟨j, n⟩ := p
    show List.lookup (-i) ((-j, n) :: ps.map neg1) = _
    rw [List.lookup_cons, List.lookup_cons, lookup_neg i ps]
    by_cases e : i = j
    · subst e
      rw [beq_self_eq_true, beq_self_eq_true]
    · rw [beq_eq_false_iff_ne.mpr e, beq_eq_false_iff_ne.mpr (fun z => e (by omega))]
theorem neg_nd {ps : List (Int × Int)} (h : (ps.map Prod.fst).Nodup) : ((ps.map neg1).map Prod.fst).Nodup := by
  unfold List.Nodup at *
  rw [List.pairwise_map, List.pairwise_map] at *
  refine h.imp fun {a b} z e => z ?_
  have : -a.1 = -b.1 := e
  omega
theorem neg_ok {ps ks : List (Int × Int)} (h : RowOk ps ks) : RowOk (ps.map neg1) (ks.map neg1) := by
  have ce : ∀ i, cap (ks.map neg1) (-i) = cap ks i := fun i => by
    unfold cap
    rw [lookup_neg]
  refine ⟨neg_nd h.nd, neg_nd h.kd, by rw [List.length_map]; exact h.kl, fun p m => ?_, fun p m => ?_, ?_⟩
  · obtain ⟨q, hq, rfl⟩ := List.mem_map.mp m
    have := h.ko q hq
    unfold sizeOk neg1 at *
    exact ⟨⟨by show -60 ≤ -q.1; omega, by show -q.1 ≤ 60; omega⟩, this.2⟩
  · obtain ⟨q, hq, rfl⟩ := List.mem_map.mp m
    have := h.po q hq
    show 1 ≤ q.2 ∧ q.2 ≤ cap (ks.map neg1) (-q.1)
    rw [ce]
    exact this
  · rw [List.map_map]
    exact h.sm
theorem mirror_mirror (ps : List (Int × Int)) : mirror (mirror ps) = ps := by
  unfold mirror
  rw [List.map_reverse, List.reverse_reverse, List.map_map]
  have : ∀ p ∈ ps, (neg1 ∘ neg1) p = p := fun p _ => by
    show (- -p.1, p.2) = p
    rw [Int.neg_neg]
  rw [List.map_congr_left this, List.map_id']
end SR
set_option Elab.async false
set_option linter.all false
set_option maxRecDepth 100000
set_option maxHeartbeats 4000000
set_option Elab.async false
set_option linter.all false
set_option maxRecDepth 100000
set_option maxHeartbeats 4000000
namespace SR
open PySem PySem.Spec PyProof.Rows L2
def rowD (ps : List (Int × Int)) : PyData := .tuple (ps.map fun p => pr2 p.1 p.2)
theorem dp_row {K : PySem.W.Frag} {H : Hp} {c : Addr} {ts : List Addr} {ps : List (Int × Int)} (h1 : SqT K H c (ts.map V.ref)) (h2 : Paired (TupAt H) ts ps) : Dp K H (.ref c) (rowD ps) := by
  refine .tup h1 ?_
  clear h1
  induction ps generalizing ts with
  | nil =>
    cases h2
    exact .nil
  | cons p ps ih =>
    cases h2 with
    | cons a b => exact .cons (dp_pr2 a) (ih b)
theorem row_depth (ps : List (Int × Int)) : (rowD ps).depth ≤ 60 := by
  have : PyData.depthAll (ps.map fun p => pr2 p.1 p.2) ≤ 1 := by
    induction ps with
    | nil => exact Nat.zero_le _
    | cons p ps ih =>
      show max (pr2 p.1 p.2).depth (PyData.depthAll (ps.map fun p => pr2 p.1 p.2)) ≤ 1
      have : (pr2 p.1 p.2).depth ≤ 1 := by simp [pr2, PyData.depth, PyData.depthAll]
      omega
  simp only [rowD, PyData.depth]
  omega
end SR
set_option Elab.async false
set_option linter.all false
set_option maxRecDepth 100000
set_option maxHeartbeats 4000000
namespace SRNe
open PySem PySem.Spec PyProof.Rows
section
variable {M : Model} {prog : Program} {wd : World} {A : Around} {Er : Value → Shared → Prop} {s : Shared} {K : PySem.W.Frag} {a C f : Addr} {oa : Obj} {od : Option Obj}
/-- the class hands the question to the built-in != -/
theorem bound_ne {bs : List Value} {Q : Option Value → Shared → Prop} (X : K.In s.heap) (I : PySem.W.InstAt s.heap a oa C od) (hn : PySem.W.findIn K (.ref C) "__ne__" = some (some (.builtin "object.__ne__")))
    (k : wpAny M A (call (.builtin "object.__ne__") (.ref a :: bs)) (fun v => Q (some v)) Er s) : wpAny M A (callSpecialIfBound? (.ref a) "__ne__" bs) Q Er s := by
  simp only [bindSpecialIfBound?, callSpecialIfBound?]
  have last : wpAny M A (do let v ← call (.builtin "object.__ne__") ([.ref a] ++ bs); pure (some v)) Q Er s := wpAny_bind (wpAny_mono k (fun _ _ z => wpAny_pure z) fun _ _ z => z)
  refine wpAny_holding (wpAny_bind (wpAny_bind (wpAny_bind (I.type.here ((PySem.W.looks_findIn X hn).here (wpAny_bind (wpAny_askSetting (wpAny_ite ?_))))))))
  split
  · exact wpAny_bind (wpAny_of_eq (F.cmp_object.ne.bind _) (wpAny_pure last))
  · exact wpAny_tryCatch (wpAny_bind (wpAny_of_eq (F.cmp_object.ne.bind _) (wpAny_pure last)))
/-- the built-in != asks the own == -/
theorem entry_ne {b : Value} {Q : Fin → Shared → Prop} (X : K.In s.heap) (I : PySem.W.InstAt s.heap a oa C od) (he : PySem.W.findIn K (.ref C) "__eq__" = some (some (.ref f))) (hf : PySem.W.isFn K (.ref f) = true) (hu : A.units < cLine)
    (k : wpAny M A (call (.ref f) [.ref a, b]) (fun v s2 => ∃ r, v = .bool r ∧ Q (.done (.ret (.bool (!r)))) s2) Er s) : wpAny M A (Builtin.«object.__ne__» ⟨[.ref a, b], []⟩) Q Er s := by
  unfold Builtin.«object.__ne__»
  repeat (first
    | with_reducible refine wpAny_cRoomFor hu ?_
    | (refine wpAny_bind (m := callSpecialIfBound? (.ref a) (Str.ofString "__eq__") [b]) (PySem.W.ifBound_K X I he hf (wpAny_mono k (fun v s2 z => by
        obtain ⟨r, e, q⟩ := z
        subst e
        repeat (first | exact q | exact wpAny_pure q | exact wpAny_truthy_bool q | (refine wpAny_bind (m := truthy (.bool _)) (wpAny_truthy_bool ?_)) | wp_step)) fun _ _ z => z)))
    | wp_step)
theorem try_ne {b : Value} {Q : Option Value → Shared → Prop} (X : K.In s.heap) (I : PySem.W.InstAt s.heap a oa C od) (hn : PySem.W.findIn K (.ref C) "__ne__" = some (some (.builtin "object.__ne__"))) (hm : PySem.W.mroIn K C (.type "object") = some true)
    (he : PySem.W.findIn K (.ref C) "__eq__" = some (some (.ref f))) (hf : PySem.W.isFn K (.ref f) = true) (hu : A.units + 1 < cLine)
    (k : wpAny (model prog wd) A.in1 (call (.ref f) [.ref a, b]) (fun v s2 => ∃ r, v = .bool r ∧ Q (some (.bool (!r))) s2) Er s) : wpAny (model prog wd) A (tryCompare (.ref a) "__ne__" b) Q Er s := by
  unfold tryCompare
  refine wpAny_bind (bound_ne X I hn (wpAny_call (codeAny_call_builtin F.cmp_object.ne.plain F.cmpEntry_ne
    (PySem.W.check_slot F.cmpKind_ne F.cmpSplit_ne (I.type.andThen (PySem.W.looks_mroIn X hm)) (F.cmpArgs_ne _ _) (entry_ne X I he hf hu (wpAny_mono k (fun v s2 z => ?_) fun _ _ z => z))))))
  obtain ⟨r, e, q⟩ := z
  subst e
  first | exact ⟨r, rfl, wpAny_pure q⟩ | exact ⟨r, rfl, wpAny_pure (wpAny_pure q)⟩ | exact ⟨r, rfl, q⟩
theorem rich_ne {b : Addr} {ob : Obj} {od2 : Option Obj} {Q : Value → Shared → Prop} (X : K.In s.heap) (I : PySem.W.InstAt s.heap a oa C od) (J : PySem.W.InstAt s.heap b ob C od2) (hn : PySem.W.findIn K (.ref C) "__ne__" = some (some (.builtin "object.__ne__"))) (hm : PySem.W.mroIn K C (.type "object") = some true)
    (he : PySem.W.findIn K (.ref C) "__eq__" = some (some (.ref f))) (hf : PySem.W.isFn K (.ref f) = true) (hu : A.units + 1 < cLine)
    (k : wpAny (model prog wd) A.in1 (call (.ref f) [.ref a, .ref b]) (fun v s2 => ∃ r, v = .bool r ∧ Q (.bool (!r)) s2) Er s) : wpAny (model prog wd) A (richCompare .NotEq (.ref a) (.ref b)) Q Er s := by
  unfold richCompare
  simp only [oneThing_ref]
  refine wpAny_holding (wpAny_bind (wpAny_cRoomFor (Nat.lt_of_succ_lt hu) ?_))
  rw [cmpInfo_NotEq]
  dsimp only
  refine wpAny_bind (I.type.here (wpAny_bind (J.type.here ?_)))
  rw [show (Value.ref C != Value.ref C) = false by simp]
  simp only [if_false, Bool.false_eq_true]
  refine wpAny_bind (wpAny_pure ?_)
  simp only [if_false, Bool.false_eq_true]
  refine wpAny_bind (try_ne X I hn hm he hf hu (wpAny_mono k (fun v s2 z => ?_) fun _ _ z => z))
  obtain ⟨r, e, q⟩ := z
  first | exact ⟨r, e, wpAny_pure q⟩ | exact ⟨r, e, wpAny_pure (wpAny_pure q)⟩
end
end SRNe
namespace L2
open PySem PySem.Spec PyProof.Rows
/-- x != y of two that are equal by the own == -/
def rNeG (D : Eqv) : R2 := fun x y H Q => D x y H ∧ ∀ H', Ext H H' → Q (.bl false) H'
section
variable {X : Cx} {n : Nat}
theorem op_neG {CX : CXT} {C f : Addr} {fd : FuncData} {ps : List Str} {R : Addr → Addr → Hp → Prop} {E : XK} (F : FnOk X.prog X.w X.K X.mg X.base CX n f fd ps (spEq R))
    (he : PySem.W.findIn X.K (.ref C) "__eq__" = some (some (.ref f))) (hf : PySem.W.isFn X.K (.ref f) = true) (hn : PySem.W.findIn X.K (.ref C) "__ne__" = some (some (.builtin "object.__ne__"))) (hm : PySem.W.mroIn X.K C (.type "object") = some true)
    (hb : Binds X.K fd ps []) (hx : Passes CX X E) (hr : Room (n + 1) X.A) : OpR X (compareOp .NotEq) (rNeG (DIns C R)) := by
  intro pins s σ H x y v u Q I rx ry hq
  obtain ⟨⟨a, b, dx, dy, fs, gs, rfl, rfl, ha, hb', hr'⟩, q⟩ := hq
  cases rx
  cases ry
  obtain ⟨mA, J, _⟩ := ins_get I.hok ha
  obtain ⟨mB, J', _⟩ := ins_get I.hok hb'
  obtain ⟨oA, J, _⟩ := J.look
  obtain ⟨oB, J', _⟩ := J'.look
  show wpAny (model X.prog X.w) X.A (richCompare .NotEq (.ref a) (.ref b)) (EP X pins σ Q) X.xe s
  have room := hr.in1
  refine SRNe.rich_ne I.kIn J J' hn hm he hf room.units0 ?_
  have told : spEq R [.ref a, .ref b] H (fun v H' => v = .bl true ∧ Ext H H') E := ⟨a, b, rfl, hr', fun H' z => ⟨rfl, z⟩⟩
  have en : Env0 X.prog X.w X.K X.mg X.base X.A.in1 X.stack s H := let z := I.env0; ⟨z.frames, z.mod, z.bs, z.bsz, z.funs, z.frf, z.hok, z.bare⟩
  have vals : Vals [V.ref a, V.ref b] [Value.ref a, Value.ref b] := .cons rfl (.cons rfl .nil)
  have two := F.len _ _ _ _ told
  have bind : BindsTo s fd ⟨[.ref a, .ref b], []⟩ (ps.zip [.ref a, .ref b]) := by
    have z := hb s [.ref a, .ref b] I.kIn (by rw [← two]; rfl)
    simpa using z
  refine wpAny_call (codeAny_mono (F.run X.A.in1 X.stack s H ⟨[.ref a, .ref b], []⟩ [.ref a, .ref b] [.ref a, .ref b] _ E room en bind vals told) fun out s2 k => ?_)
  cases out with
  | error e => exact hx pins σ H s e s2 I k
  | ok fl =>
    cases fl with
    | ret u =>
      obtain ⟨z, H2, I2, rz, ez, ex⟩ := I.after k
      subst ez
      cases rz
      exact ⟨true, rfl, .bl false, H2, I2, rfl, q H2 ex⟩
    | next => exact False.elim k
    | brk => exact False.elim k
    | cont => exact False.elim k
end
end L2
set_option Elab.async false
set_option linter.all false
set_option maxRecDepth 100000
set_option maxHeartbeats 4000000
namespace SR
open PySem PySem.Spec PyProof.Rows L2
/-- what the class of rows says beside its fields -/
structure RowK (K : PySem.W.Frag) (C : Addr) : Prop where
  kit : PySem.W.kitOne K (.ref C) (.ref C) = some true
  ha : PySem.W.findIn K (.ref C) "__class__" = some (some (.builtin "object.__class__"))
  hg : PySem.W.specialIn K (.builtin "object.__class__") "__get__" = some (some (.builtin "getset_descriptor.__get__"))
  ht : PySem.W.takesIn K (.builtin "object.__class__") = some true
  hm : PySem.W.mroIn K C (.type "object") = some true
  ne : PySem.W.findIn K (.ref C) "__ne__" = some (some (.builtin "object.__ne__"))
def rowKB (K : PySem.W.Frag) (C : Addr) : Bool := decide (PySem.W.kitOne K (.ref C) (.ref C) = some true) && (decide (PySem.W.findIn K (.ref C) "__class__" = some (some (.builtin "object.__class__"))) &&
  (decide (PySem.W.specialIn K (.builtin "object.__class__") "__get__" = some (some (.builtin "getset_descriptor.__get__"))) && (decide (PySem.W.takesIn K (.builtin "object.__class__") = some true) &&
  (decide (PySem.W.mroIn K C (.type "object") = some true) && decide (PySem.W.findIn K (.ref C) "__ne__" = some (some (.builtin "object.__ne__")))))))
theorem rowKB_ok {K : PySem.W.Frag} {C : Addr} (h : rowKB K C = true) : RowK K C := by
  unfold rowKB at h
  simp only [Bool.and_eq_true, decide_eq_true_eq] at h
  obtain ⟨h1, h2, h3, h4, h5, h6⟩ := h
  exact ⟨h1, h2, h3, h4, h5, h6⟩
theorem lay_prs : ∀ ps : List (Int × Int), PyData.canLayAll0 (ps.map fun p => pr2 p.1 p.2) = true
  | [] => rfl
  | p :: ps => by
    show (PyData.canLay0 (pr2 p.1 p.2) && PyData.canLayAll0 (ps.map fun p => pr2 p.1 p.2)) = true
    rw [lay_prs ps]
    rfl
theorem row_shaped (ps : List (Int × Int)) : SeqAt.shaped (rowD ps) = true := by
  refine shaped_tup (lay_prs ps) ?_
  have := row_depth ps
  simp only [rowD, PyData.depth] at this
  omega
/-- two rows of the same data -/
def RowEq (K : PySem.W.Frag) (C : Addr) (a b : Addr) (H : Hp) : Prop := ∃ ps ks, RowAt K C H a ps ks ∧ RowAt K C H b ps ks
abbrev spRowEq (K : PySem.W.Frag) (C : Addr) : Sp := spEq (RowEq K C)
def t_Row_eq (K : PySem.W.Frag) (c_Row : Addr) : TS := tRet (tAndV (tCB (rIsi K) (tCons (tVar 1) (tCons (tC (.ref c_Row)) tNil))) (tAndV (tOp (rEqD K) (tFld K (tVar 0) "_contents") (tFld K (tVar 1) "_contents")) (tOp (rEqD K) (tFld K (tVar 0) "_capacities") (tFld K (tVar 1) "_capacities"))))
theorem pairsT_dp {K : PySem.W.Frag} {H : Hp} {c : Addr} {ps : List (Int × Int)} (h : PairsT H c ps) : Dp K H (.ref c) (rowD ps) := let ⟨_, h1, h2⟩ := h; dp_row h1.sq h2
theorem pure_row_eq {K : PySem.W.Frag} {C : Addr} (R : RowC K C) (Z : RowK K C) (vs : List V) (H : Hp) (Q : VK) (E : XK) (h : spRowEq K C vs H Q E) : t_Row_eq K C { nx := fun _ H' => Q .non H', rt := Q } (start ["self", "other"] vs) H := by
  obtain ⟨a, b, rfl, ⟨ps, ks, ⟨dx, c, k, d, e, ps0, ks0, h1, h2, h3, _⟩, ⟨dy, c', k', d', e', _, _, g1, g2, g3, _⟩⟩, q⟩ := h
  refine ⟨_, rfl, .ref b, .ref C, .ref C, .ref C, true, rfl, .own C, .base (.ins g1 R.cls Z.ha Z.hg Z.ht Z.hm), Z.kit, ?_⟩
  refine ⟨_, rfl, iteT ⟨_, rfl, a, C, dx, _, _, rfl, h1, R.cls, R.n1, fl1 c k d e, _, rfl, b, C, dy, _, _, rfl, g1, R.cls, R.n1, fl1 c' k' d' e', ?_⟩⟩
  refine eq_same (pairsT_dp h2) (pairsT_dp g2) (row_shaped ps) ⟨_, rfl, iteT ⟨_, rfl, a, C, dx, _, _, rfl, h1, R.cls, R.n2, fl2 c k d e, _, rfl, b, C, dy, _, _, rfl, g1, R.cls, R.n2, fl2 c' k' d' e', ?_⟩⟩
  exact eq_same (pairsT_dp h3) (pairsT_dp g3) (row_shaped ks) (q H fun _ _ z => z)
/-- rows that are asked for == and != -/
structure EqM (P : Program) (w : World) (K : PySem.W.Frag) (mg : Str → Option Value) (base : Heap) (k : Nat) (C : Addr) : Prop where
  ex : ∃ (f : Addr) (fd : FuncData) (ps : List Str), FnOk P w K mg base CX0 k f fd ps (spRowEq K C) ∧ Meth K C "__eq__" f ∧ RowK K C ∧ Binds K fd ps []
theorem RowAt.at {K : PySem.W.Frag} {C : Addr} {H : Hp} {x : Addr} {ps ks : List (Int × Int)} (h : RowAt K C H x ps ks) : ∃ dx fs, H x = some (.ins C dx fs) := let ⟨dx, c, k, d, e, _, _, h1, _⟩ := h; ⟨dx, _, h1⟩
/-- x != y of equal rows -/
def rNeR (K : PySem.W.Frag) (C : Addr) : R2 := fun x y H Q => ∃ a b ps ks, x = .ref a ∧ y = .ref b ∧ RowAt K C H a ps ks ∧ RowAt K C H b ps ks ∧ ∀ H', Same H H' → Q (.bl false) H'
theorem op_neR {X : Cx} {j k : Nat} {C : Addr} (c : EqM X.prog X.w X.K X.mg X.base k C) (hr : Room j X.A) (hk : k + 1 ≤ j) : OpR X (compareOp .NotEq) (rNeR X.K C) := by
  obtain ⟨f, fd, ps, F, m, z, b⟩ := c.ex
  intro pins s σ H x y v u Q I rx ry hq
  obtain ⟨a, a', qs, ks, rfl, rfl, h1, h2, q⟩ := hq
  obtain ⟨dx, fs, e1⟩ := h1.at
  obtain ⟨dy, gs, e2⟩ := h2.at
  exact op_neG F m.at_ m.fn z.ne z.hm b pass0 (hr.mono hk) pins s σ H _ _ v u Q I rx ry ⟨⟨a, a', dx, dy, fs, gs, rfl, rfl, e1, e2, qs, ks, h1, h2⟩, q⟩
end SR
set_option Elab.async false
set_option linter.all false
set_option maxRecDepth 100000
set_option maxHeartbeats 4000000
namespace L2
open PySem PySem.Spec PyProof.Rows
end L2
set_option Elab.async false
set_option linter.all false
set_option maxRecDepth 100000
set_option maxHeartbeats 4000000
namespace SR
open PySem PySem.Spec PyProof.Rows L2
section
variable {ps : List (Int × Int)} {most : Int}
/-- one item each -/
def Ones (ps : List (Int × Int)) : Prop := ∀ p ∈ ps, p.2 = 1
def ones (r : List Int) : List (Int × Int) := r.map fun y => (y, 1)
end
end SR
set_option Elab.async false
set_option linter.all false
set_option maxRecDepth 100000
set_option maxHeartbeats 4000000
set_option Elab.async false
set_option linter.all false
set_option maxRecDepth 100000
set_option maxHeartbeats 4000000
namespace SR
open PySem PySem.Spec PyProof.Rows L2
theorem ones_fst (L : List Int) : (ones L).map Prod.fst = L := by
  unfold ones
  rw [List.map_map]
  exact List.map_id' L
theorem ones_asc {L : List Int} (h : L.Pairwise (· < ·)) : Asc (ones L) := by
  unfold Asc ones
  rw [List.pairwise_map]
  exact h
theorem ones_ones (L : List Int) : Ones (ones L) := fun p m => by
  obtain ⟨y, _, rfl⟩ := List.mem_map.mp m
  rfl
theorem ones_of {ps : List (Int × Int)} (h : Ones ps) : ps = ones (ps.map Prod.fst) := by
  unfold ones
  rw [List.map_map]
  have : ∀ p ∈ ps, ((fun y => (y, (1 : Int))) ∘ Prod.fst) p = p := fun p m => by
    show (p.1, (1 : Int)) = p
    rw [← h p m]
  rw [List.map_congr_left this, List.map_id']
theorem ones_sum (L : List Int) : ((ones L).map Prod.snd).sum = L.length := by
  unfold ones
  rw [List.map_map]
  induction L with
  | nil => rfl
  | cons a L ih => rw [List.map_cons, List.sum_cons, ih, List.length_cons]; show 1 + (L.length : Int) = _; omega
theorem ones_ok {L : List Int} (h : L.Pairwise (· < ·)) (l : L.length ≤ 40) : RowOk (ones L) [] :=
  ⟨by rw [ones_fst]; exact h.imp fun z e => by omega, .nil, Nat.zero_le _, (fun p m => nomatch m), fun p m => by rw [ones_ones L p m]; exact ⟨Int.le_refl _, Int.le_refl _⟩, by rw [ones_sum]; omega⟩
/-- all but the dict that a loop goes over -/
theorem same_lock {H H' : Hp} {F : Addr} {u : HO} (hF : H F = some u) (k : ∀ b o, b ≠ F → H b = some o → H' b = some o) : Same H (upd H' F u) := fun b o h => by
  by_cases e : b = F
  · subst e
    rw [upd_same, ← hF]
    exact h
  · rw [upd_ne e]
    exact k b o e h
abbrev qLenD : List V → Hp → VK → Prop := fun xs H Q => ∃ a kvs, xs = [V.ref a] ∧ H a = some (.dK kvs) ∧ Q (.int kvs.length) H
end SR
set_option Elab.async false
set_option linter.all false
set_option maxRecDepth 100000
set_option maxHeartbeats 4000000
namespace SR
open PySem PySem.Spec PyProof.Rows L2
section
variable {K : PySem.W.Frag} {H : Hp} {F : Addr} {L : List Int} {x0 x1 x2 x4 x5 x6 x7 x8 x9 : Option V} {Q : VK}
def turned (L : List Int) : List Int := (L.map fun y => -y).reverse
end
end SR
set_option Elab.async false
set_option linter.all false
set_option maxRecDepth 100000
set_option maxHeartbeats 4000000
namespace SR
open PySem PySem.Spec PyProof.Rows L2
section
variable {K : PySem.W.Frag} {C B : Addr}
/-- what is no state of draws stays -/
theorem kp_at {H H' : Hp} {d g c a : Addr} {b : Nat} {o : HO} (S : StB H d g c b) (k : Kp d g H H') (h : H a = some o) (n1 : ∀ xs, o ≠ .lst xs) (n2 : ∀ r t, o ≠ .dK (stK g c r t)) : H' a = some o := by
  obtain ⟨r, t, gs, cs, h1, h2, _⟩ := S
  refine k _ _ (fun z => ?_) (fun z => ?_) h
  · rw [z, h1] at h
    exact n2 r t (Option.some.inj h).symm
  · rw [z, h2] at h
    exact n1 _ (Option.some.inj h).symm
theorem kvs_no {ps : List (Int × Int)} (g c : Addr) (r t : Int) : HO.dK (kvsOf ps) ≠ .dK (stK g c r t) := fun z => by
  cases ps with
  | nil => cases z
  | cons p ps => cases z
theorem kp_dict {H H' : Hp} {d g c a : Addr} {b : Nat} {ps : List (Int × Int)} (S : StB H d g c b) (k : Kp d g H H') (h : H a = some (.dK (kvsOf ps))) : H' a = some (.dK (kvsOf ps)) := kp_at S k h (fun _ z => nomatch z) fun r t => kvs_no g c r t
theorem RowAt.kp {K : PySem.W.Frag} {C : Addr} {H H' : Hp} {d g c x : Addr} {b : Nat} {ps ks : List (Int × Int)} (row : RowAt K C H x ps ks) (S : StB H d g c b) (k : Kp d g H H') : RowAt K C H' x ps ks := by
  obtain ⟨dx, c0, k0, d0, e, ps0, ks0, h1, ⟨t1, h2, h3⟩, ⟨t2, h4, h5⟩, h6, h7, h8⟩ := row
  have tp : ∀ {t : Addr} {p : Int × Int}, TupAt H t p → TupAt H' t p := fun {t p} z => kp_at (o := .tup [.int p.1, .int p.2]) S k z (fun _ z => nomatch z) fun _ _ z => nomatch z
  refine ⟨dx, c0, k0, d0, e, ps0, ks0, kp_at S k h1 (fun _ z => nomatch z) (fun _ _ z => nomatch z), ⟨t1, ?_, paired_imp (fun _ _ z => tp z) h3⟩, ⟨t2, ?_, paired_imp (fun _ _ z => tp z) h5⟩, kp_dict S k h6, kp_dict S k h7, h8⟩
  · obtain ⟨o, a1, a2⟩ := h2
    exact ⟨o, kp_at S k a1 (fun _ z => nomatch z) (fun _ _ z => nomatch z), a2⟩
  · obtain ⟨o, a1, a2⟩ := h4
    exact ⟨o, kp_at S k a1 (fun _ z => nomatch z) (fun _ _ z => nomatch z), a2⟩
end
end SR
set_option Elab.async false
set_option linter.all false
set_option maxRecDepth 100000
set_option maxHeartbeats 4000000
set_option Elab.async false
set_option linter.all false
set_option maxRecDepth 100000
set_option maxHeartbeats 1000000
namespace SR
open PySem PySem.Spec PyProof.Rows L2
theorem paired_last2 {α β : Type} {R : α → β → Prop} {xs : List α} {ys : List β} (h : Paired R xs ys) {y : β} (e : ys.getLast? = some y) : ∃ x, xs.getLast? = some x ∧ R x y ∧ 0 < xs.length := by
  have l := paired_len h
  rw [List.getLast?_eq_getElem?] at e
  have lt := (List.getElem?_eq_some_iff.mp e).1
  have : ∃ x, xs[ys.length - 1]? = some x := ⟨xs[ys.length - 1]'(by omega), List.getElem?_eq_getElem (by omega)⟩
  obtain ⟨x, hx⟩ := this
  obtain ⟨b, hb, r⟩ := paired_at h hx
  rw [e] at hb
  cases hb
  refine ⟨x, ?_, r, by omega⟩
  rw [List.getLast?_eq_getElem?, l]
  exact hx
section
variable {K : PySem.W.Frag} {H : Hp} {A : Addr} {ts : List Addr} {acc : List (Int × Int)} {x : Int} {x0 x3 : Option V} {xs : List (Option V)}
/-- found: a list of pairs at A -/
def Blk (H : Hp) (A : Addr) (acc : List (Int × Int)) : Prop := ∃ ts : List Addr, H A = some (.lst (ts.map V.ref)) ∧ Paired (TupAt H) ts acc
theorem Blk.last (b : Blk H A acc) {q : Int × Int} (e : acc.getLast? = some q) : ∃ (vs : List V) (t : Addr), H A = some (.lst vs) ∧ atI vs (-1) = some (.ref t) ∧ TupAt H t q := by
  obtain ⟨ts, h, pr⟩ := b
  obtain ⟨t, e2, r, _⟩ := paired_last2 pr e
  refine ⟨_, t, h, at_last ?_, r⟩
  rw [List.getLast?_map, e2]
  rfl
end
end SR
set_option Elab.async false
set_option linter.all false
set_option maxRecDepth 100000
set_option maxHeartbeats 1000000
namespace SR
open PySem PySem.Spec PyProof.Rows L2
theorem Blk.same {H H' : Hp} {A : Addr} {acc : List (Int × Int)} (b : Blk H A acc) (s : Same H H') : Blk H' A acc := by
  obtain ⟨ts, h, pr⟩ := b
  exact ⟨ts, s _ _ h, paired_imp (fun _ _ z => s _ _ z) pr⟩
theorem Blk.sq {K : PySem.W.Frag} {H : Hp} {A : Addr} {acc : List (Int × Int)} (b : Blk H A acc) : ∃ xs, SqL K H A xs ∧ (!xs.isEmpty) = (!acc.isEmpty) := by
  obtain ⟨ts, h, pr⟩ := b
  refine ⟨_, SqL.of h, ?_⟩
  cases pr <;> rfl
end SR
set_option Elab.async false
set_option linter.all false
set_option maxRecDepth 100000
set_option maxHeartbeats 4000000
namespace SR
open PySem PySem.Spec PyProof.Rows L2
/-- what the written part says of an error class D and of its __init__ at f: the def's cell cc, its code cda -/
structure SupC (P : Program) (K : PySem.W.Frag) (D f cc cda : Addr) (scope : Scope) (fld : Str) : Prop where
  T : OexC K D
  no : PySem.W.findIn K (.ref D) fld = some none
  al : PySem.W.ks_superIn K D D "__init__" = some (some (.builtin "ValueError.__init__"))
  sb : PySem.W.subIn K (.ref D) (.type "ValueError") = some true
  me : PySem.W.mroIn K D (.ref D) = some true
  tp : PySem.W.nsIn K cStatics "thirdparty.any" = some none
  file : ∃ oc od vs osl s tf, K.lookup cda = some ⟨oc, od, .fields vs, osl⟩ ∧ vs[2]? = some (.str s tf) ∧ ((P.main.file : Str) == s) = true
  cell : ∃ oc od osl, K.lookup cc = some ⟨oc, od, .cell (some (.ref D)), osl⟩
  top : (P.main.scope.names.lookup ("super" : Str)).isSome = false
end SR
set_option Elab.async false
set_option linter.all false
set_option maxRecDepth 100000
set_option maxHeartbeats 4000000
namespace SR
open PySem PySem.Spec PyProof.Rows L2
/-- the getter of the class C's property f -/
def gAt (K : PySem.W.Frag) (C f : Str) : Addr := match PySem.W.recIn K (He.ma K (He.ga K C) f) "property" with
  | some (.ref g :: _) => g
  | _ => 0
def defAt (K : PySem.W.Frag) (g : Addr) : He.FnW := match K.lookup g with
  | some o => (match o.data with
    | .func fd => some (fd.name, fd.qualname, fd.params, fd.body, fd.scope, fd.globals, fd.closure, fd.builtins)
    | _ => none)
  | none => none
/-- a property: its class, its name, its getter -/
structure PropD where
  cls : Str
  f : Str
  d : He.DefD
def PropD.ok (K : PySem.W.Frag) (p : PropD) : Bool :=
  decide (PySem.W.findIn K (.ref (He.ga K p.cls)) p.f = some (some (.ref (He.ma K (He.ga K p.cls) p.f)))) &&
  (decide (PySem.W.specialIn K (.ref (He.ma K (He.ga K p.cls) p.f)) "__get__" = some (some (.builtin "property.__get__"))) &&
  (decide (PySem.W.takesIn K (.ref (He.ma K (He.ga K p.cls) p.f)) = some true) &&
  ((match PySem.W.recIn K (He.ma K (He.ga K p.cls) p.f) "property" with
    | some (.ref _ :: _) => true
    | _ => false) &&
  (PySem.W.keepIn K (.ref (gAt K p.cls p.f)) && (match K.lookup (gAt K p.cls p.f) with
    | some o => (match o.data with
      | .func fd => PySem.W.codeIn K fd.code p.d.qual && (He.dflB K fd.defaults [] && He.kwdB K fd.kwdefaults [])
      | _ => false)
    | none => false)))))
theorem PropD.of {K : PySem.W.Frag} {p : PropD} (e : defAt K (gAt K p.cls p.f) = p.d.val) (h : p.ok K = true) :
    PropOf K (He.ga K p.cls) p.f (He.ma K (He.ga K p.cls) p.f) (gAt K p.cls p.f) ∧ ∃ fd, FunD K p.d.name p.d.qual p.d.params p.d.body p.d.scope [] [] (gAt K p.cls p.f) fd := by
  unfold PropD.ok at h
  simp only [Bool.and_eq_true, decide_eq_true_eq] at h
  obtain ⟨h1, h2, h3, h4, h5, h6⟩ := h
  refine ⟨⟨h1, h2, h3, ?_⟩, ?_⟩
  · clear h6 h5 e
    unfold gAt
    generalize PySem.W.recIn K (He.ma K (He.ga K p.cls) p.f) "property" = r at h4 ⊢
    match r, h4 with
    | some (.ref g :: rest), _ => exact ⟨rest, rfl⟩
  · generalize gAt K p.cls p.f = g at *
    unfold defAt at e
    cases q : K.lookup g with
    | none =>
      rw [q] at h6
      cases h6
    | some o =>
      rw [q] at h6 e
      obtain ⟨oc, od, dt, osl⟩ := o
      cases dt with
      | func fd =>
        have h7 : (PySem.W.codeIn K fd.code p.d.qual && (He.dflB K fd.defaults [] && He.kwdB K fd.kwdefaults [])) = true := h6
        have e7 : (some (fd.name, fd.qualname, fd.params, fd.body, fd.scope, fd.globals, fd.closure, fd.builtins) : He.FnW) = p.d.val := e
        rw [Bool.and_eq_true, Bool.and_eq_true] at h7
        obtain ⟨b1, b2, b3⟩ := h7
        rcases fd with ⟨a1, a2, a3, a4, a5, a6, a7, a8, a9, a10, a11, a12, a13, a14, a15⟩
        unfold He.DefD.val at e7
        injection e7 with e7
        injection e7 with e1 e7
        injection e7 with e2 e7
        injection e7 with e3 e7
        injection e7 with e4 e7
        injection e7 with e5 e7
        injection e7 with e6 e7
        injection e7 with e8 e9
        dsimp only at e1 e2 e3 e4 e5 e6 e8 e9
        subst e1 e2 e3 e4 e5 e6 e8 e9
        exact ⟨_, ⟨oc, od, a8, a9, a10, a11, a12, a13, a14, osl, rfl, q, b1, He.dflB_ok b2, He.kwdB_ok b3⟩, h5⟩
      | _ => cases h6
abbrev AlP : Type := He.AlX × List He.FnW × Bool
end SR
set_option Elab.async false
set_option linter.all false
set_option maxRecDepth 100000
set_option maxHeartbeats 4000000
namespace SR
open PySem PySem.Spec PyProof.Rows L2
/-- the class's own object -/
def oexB (K : PySem.W.Frag) (C : Addr) : Bool := match K.lookup C with
  | some ⟨.type "type", _, .cls cd, sl⟩ => (match cd.mro, sl.toList with
    | .ref D :: bm, [_, _, _, _, some (.builtin n), _] => decide (D = C) && (decide (n = "ValueError.__new__") && (!cd.hasDel && (cd.hasDict && PySem.HandSPX.refsVE bm)))
    | _, _ => false)
  | _ => false
theorem oexB_ok {K : PySem.W.Frag} {C : Addr} (q : oexB K C = true) : ∃ nm qn N bs bm sn sub ab col dd k0 k1 k2 k3 k5, K.lookup C = some (excClassObj nm qn C N bs bm true sn sub ab col dd k0 k1 k2 k3 k5 "ValueError.__new__") ∧ PySem.HandSPX.refsVE bm = true := by
  unfold oexB at q
  split at q
  · rename_i dd cd sl ho
    split at q
    · rename_i C' bm k0 k1 k2 k3 n k5 hm hs
      simp only [Bool.and_eq_true, decide_eq_true_eq, Bool.not_eq_true'] at q
      obtain ⟨rfl, rfl, hdel, hdic, ht⟩ := q
      obtain ⟨nm, bs, mro, ns, qn, hd, sn, sb, ab, col, dl⟩ := cd
      dsimp only at hm hdel hdic
      subst hm hdel hdic
      have hsl : sl = #[k0, k1, k2, k3, some (.builtin "ValueError.__new__"), k5] := by
        obtain ⟨l⟩ := sl
        simp only at hs
        rw [hs]
      subst hsl
      exact ⟨nm, qn, ns, bs, bm, sn, sb, ab, col, dd, k0, k1, k2, k3, k5, ho, ht⟩
    · cases q
  · cases q
/-- an error class with one field: its name, the field, the parameter's name; its __init__; the file of the text -/
structure SupD where
  cls : Str
  fld : Str
  arg : Str
  params : Arguments
  body : List Stmt
  scope : Scope
  file : Str
abbrev SupW : Type := Option (Str × Str × Arguments × FuncBody × Scope × Addr × Addr)
def supAt (K : PySem.W.Frag) (f : Addr) : SupW := match K.lookup f with
  | some ⟨_, _, .func fd, _⟩ => some (fd.name, fd.qualname, fd.params, fd.body, fd.scope, fd.globals, fd.builtins)
  | _ => none
def SupD.f (K : PySem.W.Frag) (p : SupD) : Addr := He.ma K (He.ga K p.cls) "__init__"
def SupD.val (p : SupD) : SupW := some ("__init__", p.cls ++ ".__init__", p.params, .stmts p.body, p.scope, mainGlobals, builtinsNs)
def cellB (K : PySem.W.Frag) (C : Addr) (cl : List (Str × Addr)) (cd : Value) (file qual : Str) : Bool := match cl, cd with
  | [(n, cc)], .ref cda => decide (n = "__class__") && (PySem.W.codeIn K cd qual && ((match K.lookup cc with
      | some ⟨_, _, .cell (some (.ref D)), _⟩ => decide (D = C)
      | _ => false) && (match K.lookup cda with
      | some ⟨_, _, .fields vs, _⟩ => (match vs[2]? with
        | some (Value.str s _) => file == s
        | _ => false)
      | _ => false)))
  | _, _ => false
def SupD.ok1 (K : PySem.W.Frag) (p : SupD) (C f : Addr) : Bool :=
  oexB K C && (decide (PySem.W.findIn K (.ref C) "__setattr__" = some (some (.builtin "object.__setattr__"))) && (decide (PySem.W.subIn K (.ref C) (.type "BaseException") = some true) && (decide (PySem.W.typeIn K (.ref C) = some (.type "type")) &&
  (PySem.W.keepIn K (.ref C) && (decide (PySem.W.findIn K (.ref C) p.fld = some none) && (decide (PySem.W.ks_superIn K C C "__init__" = some (some (.builtin "ValueError.__init__"))) && (decide (PySem.W.subIn K (.ref C) (.type "ValueError") = some true) &&
  (decide (PySem.W.mroIn K C (.ref C) = some true) && (decide (PySem.W.nsIn K cStatics "thirdparty.any" = some none) && (decide (PySem.W.findIn K (.ref C) "__init__" = some (some (.ref f))) && (decide (PySem.W.typeIn K (.ref f) = some (.type "function")) && xfB K C)))))))))))
def SupD.ok2 (K : PySem.W.Frag) (p : SupD) (C f : Addr) : Bool := match K.lookup f with
  | some ⟨_, _, .func fd, _⟩ => (match fd.defaults with
    | .none => cellB K C fd.closure fd.code p.file (p.cls ++ ".__init__")
    | _ => false)
  | _ => false
/-- what the facts give -/
structure SupOf (K : PySem.W.Frag) (p : SupD) (C f : Addr) : Prop where
  xf : XfC K C
  no : PySem.W.findIn K (.ref C) p.fld = some none
  ex : OexC K C ∧ PySem.W.findIn K (.ref C) "__init__" = some (some (.ref f)) ∧ PySem.W.typeIn K (.ref f) = some (.type "function") ∧
    ∃ oc od osl kV doc pm an ct cc cda, K.lookup f = some ⟨oc, od, .func (PySem.W.ksFn "__init__" (p.cls ++ ".__init__") p.params p.body p.scope .none kV doc pm an (.ref cda) ct cc), osl⟩ ∧ PySem.W.codeIn K (.ref cda) (p.cls ++ ".__init__") = true ∧
      ∀ (P : Program), P.main.file = p.file → (P.main.scope.names.lookup ("super" : Str)).isSome = false → SupC P K C f cc cda p.scope p.fld
theorem SupD.of {K : PySem.W.Frag} {p : SupD} {C f : Addr} (e : supAt K f = p.val) (h1 : p.ok1 K C f = true) (h2 : p.ok2 K C f = true) : SupOf K p C f := by
  unfold SupD.ok1 at h1
  simp only [Bool.and_eq_true, decide_eq_true_eq] at h1
  obtain ⟨a1, a2, a3, a4, a5, a6, a7, a8, a9, a10, a11, a12, a13⟩ := h1
  have T : OexC K C := ⟨oexB_ok a1, a2, a3, a4, a5⟩
  refine ⟨xfB_ok a13, a6, T, a11, a12, ?_⟩
  unfold SupD.ok2 at h2
  unfold supAt at e
  cases q : K.lookup f with
  | none =>
    rw [q] at h2
    cases h2
  | some o =>
    obtain ⟨oc, od, dt, osl⟩ := o
    rw [q] at h2 e
    cases dt with
    | func fd =>
      obtain ⟨n1, n2, n3, n4, n5, n6, n7, n8, n9, n10, n11, n12, n13, n14, n15⟩ := fd
      have e2 : (some (n1, n2, n3, n4, n5, n6, n15) : SupW) = some (("__init__" : Str), p.cls ++ ".__init__", p.params, FuncBody.stmts p.body, p.scope, mainGlobals, builtinsNs) := e
      simp only [Option.some.injEq, Prod.mk.injEq] at e2
      obtain ⟨b1, b2, b3, b4, b5, b6, b8⟩ := e2
      subst b1 b2 b3 b4 b5 b6 b8
      cases n8 with
      | none =>
        have h3 : cellB K C n7 n13 p.file (p.cls ++ ".__init__") = true := h2
        unfold cellB at h3
        split at h3
        · rename_i n cc cda
          simp only [Bool.and_eq_true, decide_eq_true_eq] at h3
          obtain ⟨rfl, c1, c2, c3⟩ := h3
          refine ⟨oc, od, osl, n9, n10, n11, n12, n14, cc, cda, rfl, c1, fun P hf ht => ⟨T, a6, a7, a8, a9, a10, ?_, ?_, ht⟩⟩
          · split at c3
            · rename_i x1 x2 vs x4 hcda
              split at c3
              · rename_i s tf hvs
                exact ⟨_, _, vs, _, s, tf, hcda, hvs, by rw [hf]; exact c3⟩
              · cases c3
            · cases c3
          · split at c2
            · rename_i x1 x2 D x4 hcc
              have z : D = C := of_decide_eq_true c2
              subst z
              exact ⟨_, _, _, hcc⟩
            · cases c2
        · cases h3
      | _ => cases h2
    | _ => cases h2
abbrev AlS : Type := AlP × List SupW × Bool
def frS (n : Nat) (g : Addr → Option Obj) : PySem.W.Frag := He.frT g (cStatics :: He.asD g n)
def obsS (n : Nat) (fa : List He.Fa) (fn : List He.DefD) (pr : List PropD) (su : List SupD) (ex : PySem.W.Frag → Bool) (g : Addr → Option Obj) : AlS :=
  (((He.obsT fa fn [] (frS n g), ex (frS n g)), pr.map fun p => defAt (frS n g) (gAt (frS n g) p.cls p.f), pr.all fun p => p.ok (frS n g)),
   su.map fun p => supAt (frS n g) (p.f (frS n g)), su.all fun p => p.ok1 (frS n g) (He.ga (frS n g) p.cls) (p.f (frS n g)) && p.ok2 (frS n g) (He.ga (frS n g) p.cls) (p.f (frS n g)))
def valS (fn : List He.DefD) (pr : List PropD) (su : List SupD) (w : World) : AlS := (((He.valT fn [] w, true), pr.map fun p => p.d.val, true), su.map fun p => p.val, true)
structure SaysS (fa : List He.Fa) (fn : List He.DefD) (pr : List PropD) (su : List SupD) (ex : PySem.W.Frag → Bool) (w : World) (K : PySem.W.Frag) : Prop where
  t : He.SaysT fa fn [] w K
  more : ex K = true
  p : ∀ p ∈ pr, PropOf K (He.ga K p.cls) p.f (He.ma K (He.ga K p.cls) p.f) (gAt K p.cls p.f) ∧ ∃ fd, FunD K p.d.name p.d.qual p.d.params p.d.body p.d.scope [] [] (gAt K p.cls p.f) fd
  s : ∀ p ∈ su, SupOf K p (He.ga K p.cls) (p.f K)
theorem saysS_of {n : Nat} {fa : List He.Fa} {fn : List He.DefD} {pr : List PropD} {su : List SupD} {ex : PySem.W.Frag → Bool} {w : World} {h : Heap} (e : obsS n fa fn pr su ex h.get? = valS fn pr su w) : SaysS fa fn pr su ex w (frS n h.get?) := by
  unfold obsS at e
  generalize frS n h.get? = K at e ⊢
  have e1 : He.obsT fa fn [] K = He.valT fn [] w := congrArg (fun z : AlS => z.1.1.1) e
  have e2 : ex K = true := congrArg (fun z : AlS => z.1.1.2) e
  have e3 : (pr.map fun p => defAt K (gAt K p.cls p.f)) = pr.map fun p => p.d.val := congrArg (fun z : AlS => z.1.2.1) e
  have e4 : (pr.all fun p => p.ok K) = true := congrArg (fun z : AlS => z.1.2.2) e
  have e5 : (su.map fun p => supAt K (p.f K)) = su.map fun p => p.val := congrArg (fun z : AlS => z.2.1) e
  have e6 : (su.all fun p => p.ok1 K (He.ga K p.cls) (p.f K) && p.ok2 K (He.ga K p.cls) (p.f K)) = true := congrArg (fun z : AlS => z.2.2) e
  refine ⟨e1, e2, fun p m => PropD.of (List.map_inj_left.mp e3 p m) (List.all_eq_true.mp e4 p m), fun p m => ?_⟩
  have z := List.all_eq_true.mp e6 p m
  rw [Bool.and_eq_true] at z
  exact SupD.of (List.map_inj_left.mp e5 p m) z.1 z.2
end SR
set_option Elab.async false
set_option linter.all false
set_option maxRecDepth 100000
set_option maxHeartbeats 4000000
namespace SR
open PySem PySem.Spec PyProof.Rows L2
/-- an error of the class cls that was caught, at a, its dict at d -/
def CauO (cls : Value) (d : Option Addr) (a : Addr) : HO := .ext fun h => ∃ (oe : Obj) (vs : Array Value), h.get? a = some oe ∧ Zc cls d oe ∧ oe.data = .fields vs
theorem cauO_ok {P : Program} {w : World} {H : Hp} {h : Heap} {a : Addr} {cls : Value} {d : Option Addr} {oe : Obj} {vs : Array Value} (e : h.get? a = some oe) (z : Zc cls d oe) (dd : oe.data = .fields vs) : ObjOk P w H h a (CauO cls d a) :=
  ⟨⟨oe, vs, e, z, dd⟩, ⟨oe, e⟩, fun _ _ ⟨oe1, vs1, e1, z1, d1⟩ k => ⟨oe1, vs1, k _ e1, z1, d1⟩⟩
section
variable {X : Cx} {pins : List (Addr × Obj)} {σ : L2.St} {H : Hp} {s : Shared}
theorem inv_track {a : Addr} {oe : Obj} {o : HO} (I : Inv (keepX X ((a, oe) :: (X.pn ++ pins))) [] σ H s) (ok : X.Ok) (n0 : X.s_0.heap.get? a = none) (ne : ∀ p ∈ X.pn ++ pins, p.1 ≠ a) (new : ObjOk X.prog X.w (upd H a o) s.heap a o) :
    Inv X pins σ (upd H a o) s := by
  obtain ⟨h1, hn, h3, h4, h5⟩ := I.pin (a, oe) (List.mem_append.mpr (.inl List.mem_cons_self))
  refine ⟨ok, I.os, I.bare, ⟨I.base.keep, I.base.slot, fun b ob q n hx => ?_, I.base.there, fun b xs q => ?_, fun b ob u q => ?_, fun b ps q => ?_⟩, I.loc, I.cell, ?_, fun x c hx => ?_, fun p hp => ?_, HOk.laidN I.hok (fun _ _ e => e) hn new, I.len⟩
  · rw [upd_ne (fun z => by rw [z] at q; exact nomatch (q.symm.trans n0))]
    exact I.base.free b ob q n hx
  · have := I.base.tups b xs q
    rw [upd_ne (ne_of_none this hn)]
    exact this
  · have := I.base.frzs b ob u q
    rw [upd_ne (ne_of_none this hn)]
    exact this
  · obtain ⟨more, this⟩ := I.base.tbls b ps q
    refine ⟨more, ?_⟩
    rw [upd_ne (ne_of_none this hn)]
    exact this
  · rw [upd_ne (fun z => h3 z.symm)]
    exact I.free
  · obtain ⟨v, hv⟩ := I.cell x c hx
    rw [upd_ne (fun z => ?_)]
    · exact I.freeC x c hx
    · obtain ⟨ob, q, dd⟩ := hv
      rw [z] at q
      cases q.symm.trans h1
      exact h5 _ dd
  · obtain ⟨p1, p2, p3, p4, p5⟩ := I.pin p (List.mem_append.mpr (.inl (List.mem_cons_of_mem _ hp)))
    exact ⟨p1, (upd_ne (ne p hp)).trans p2, p3, p4, p5⟩
end
/-- what is wished of an error of the body: i the clause's own name, j the name that keeps it -/
def wKeepH (K : PySem.W.Frag) (c : Value) (i j : Nat) (Wout : WX) (D : Ends) : WX := fun cls d σ H =>
  ∃ b, PySem.W.exmOne K cls c = some b ∧ (b = true → ∀ a, H a = none → D.nx (((σ.set i (some (.ref a))).set j (some (.ref a))).set i none) (upd H a (CauO cls d a))) ∧ (b = false → Wout cls d σ H)
section
variable {X : Cx} {x n y : Str} {c : Value} {i j : Nat} {body : List Stmt} {np n2 yp ap pos pos' : Pos} {tb : WX → TS} {Wout : WX}
theorem ps_try_keepH (hs : X.stack = X.env :: X.outer) (hf : X.env.frame = some X.env.locals) (hx : X.ex = []) (hN : X.N.Nodup) (hi : X.N[i]? = some n) (hln : X.env.kindOf n = some .local) (hj : X.N[j]? = some y) (hly : X.env.scope.names.lookup y = some .local)
    (hc : Names X x c) (tk : Takes X Wout)
    (hb : ∀ (W : WX) (pn : List (Addr × Obj)) (xe : Value → Shared → Prop), Takes (X.tr pn xe) W → PassesOwn (model X.prog X.w) X.A X.env xe → PSs (X.tr pn xe) body (tb W))
    (hsw : ∀ (a : Addr) (pn : List (Addr × Obj)), swapsWith (.Name n n2) (some (.Name y yp)) ap.line (X.suite a pn).env = pure false)
    (hd1 : (n == ("__debug__" : Str)) = false := by decide) (hd2 : (n == ("__classdict__" : Str)) = false := by decide) :
    PS X (.Try body [.ExceptHandler (some (.Name x np)) (some n) [.Assign [.Name y yp] (.Name n n2) ap] pos'] [] [] pos) (fun D σ H => tb (wKeepH X.K c i j Wout D) D σ H) := by
  refine ⟨fun pins s σ H D I h => ?_⟩
  have ok := I.ok
  have hfr : X.A.frames = some (X.env :: X.outer) := ok.frames.trans (by rw [hs])
  have hloc : Loc X.env.scope n := .inl hln
  let G : Flow → Shared → Prop := fun f s1 => SP X pins D f s1
  show wpAny (model X.prog X.w) X.A _ G X.xe s
  refine wpAny_Try_except ?_
  refine wpAny_mono ((hb (wKeepH X.K c i j Wout D) (X.pn ++ pins) (fun e s₁ => wpAny (model X.prog X.w) X.A (noteFrame e X.env) (fun _ s₂ => wpAny (model X.prog X.w) X.A (setFlight e none) (fun _ s₃ =>
    wpAny (model X.prog X.w) X.A (handleBy e X.env [.ExceptHandler (some (.Name x np)) (some n) [.Assign [.Name y yp] (.Name n n2) ap] pos']) G X.xe s₃) X.xe s₂) X.xe s₁) (fun w0 s' xx => ?_) PassesOwn.looking).run [] s σ H D (I.toTry _) h) (fun f s1 hsp => ?_) (fun _ _ he => he)
  · obtain ⟨a, B, sI, pins', σ', H', cls, d, rfl, J', nb, up, sky, na, os, ag, b, hb1, hyes, hno⟩ := xx
    have J : Inv X pins σ' H' sI := J'.ofTry ok
    have sky' : Sky B (X.env :: X.outer) a (Zc cls d) X.env.locals s'.heap := by rw [← hs]; exact sky
    show wpAny (model X.prog X.w) X.A (noteFrame (.ref a) X.env) _ _ _
    refine Sky.land Zc.steady hfr hf sky' fun h3 fl3 up3 => ?_
    have J3 : Inv X pins σ' H' { s' with heap := h3 } := J.landed nb fl3.1 (up.trans up3) os ag
    obtain ⟨oe3, vs3, he3, hz3, hd3⟩ := fl3.there
    have nfr : a ∉ frs (X.env :: X.outer) := fun hm => by
      obtain ⟨_, o', e', hnf⟩ := fl3.2.2.1.mem hm
      cases he3.symm.trans e'
      exact hnf _ hd3
    have nI : sI.heap.get? a = none := by
      cases e : sI.heap.get? a with
      | none => rfl
      | some o =>
        have := nb a o e (by rw [hs]; exact nfr)
        rw [fl3.2.1] at this
        cases this
    have n0 : X.s_0.heap.get? a = none := by
      cases e : X.s_0.heap.get? a with
      | none => rfl
      | some o =>
        obtain ⟨o', q⟩ := J.base.there a o e (by rw [hx]; exact List.not_mem_nil)
        rw [nI] at q
        cases q
    have ne : ∀ p ∈ X.pn ++ pins, p.1 ≠ a := fun p hp z => by
      have := (J.pin p hp).1
      rw [z, nI] at this
      cases this
    have nL : a ≠ X.env.locals := fun z => nfr (List.mem_filterMap.mpr ⟨X.env, List.mem_cons_self, hf.trans (by rw [z])⟩)
    have nF : a ∉ X.fs := fun hm => by
      obtain ⟨e, he, q⟩ := List.mem_filterMap.mp hm
      exact nfr (List.mem_filterMap.mpr ⟨e, List.mem_cons_of_mem _ he, q⟩)
    have S3 := J3.suite he3 hd3 na nL nF
    refine wpAny_handleBy_cons (codeAny_handlers_test ?_) (by intro q; cases q)
    have LT : PySem.W.Looks (model X.prog X.w) h3 (typeOf (.ref a)) cls := fun A Q E s k q => wpAny_typeOf_ref (k _ _ he3) (by rw [hz3.1]; exact q)
    have LM := PySem.W.exm_one (M := model X.prog X.w) (J3.kIn) LT hb1
    have test : ∀ {Q : Value → Shared → Prop} {E : Value → Shared → Prop}, Q c { s' with heap := h3 } → wpAny (model X.prog X.w) (X.A.mark (some (.ref a))) (eval (.Name x np) X.env) Q E { s' with heap := h3 } := fun {Q E} q => by
      obtain ⟨hg, hdbg, hm | ⟨hm, hvv, hnn⟩⟩ := hc
      · exact ld_glob (X := X.suite a ((a, oe3) :: (X.pn ++ pins))) S3 hg hm q hdbg
      · exact ld_blt (X := X.suite a ((a, oe3) :: (X.pn ++ pins))) S3 hg hm hvv q hnn hdbg
    refine test (LM.here ?_)
    cases b with
    | true =>
      refine codeAny_handlers_suite_as ?_
      refine HandSPX.lands_againZ fl3 fun h4 fl4 up4 => ?_
      have J4 : Inv X pins σ' H' { s' with heap := h4 } := J.landed nb fl4.1 ((up.trans up3).trans up4) os ag
      obtain ⟨oe4, vs4, he4, hz4, hd4⟩ := fl4.there
      have S4 := J4.suite he4 hd4 na nL nF
      refine store_ok (X := X.suite a ((a, oe4) :: (X.pn ++ pins))) (v := .ref a) S4 hN hi hloc rfl (fun s5 S5 => ?_) (.inr hln)
      have hil : i < (σ'.set i (some (V.ref a))).length := by
        rw [S5.len]
        exact (List.getElem?_eq_some_iff.mp hi).1
      have D0 : PSs (X.suite a ((a, oe4) :: (X.pn ++ pins))) [.Assign [.Name y yp] (.Name n n2) ap] (tAsg (tVar i) (gName j)) :=
        pss_one (ps_set (i := j) hN hj (.inl hly) (pe_var hi (.inl hln) hd1 hd2) (hsw _ _) (.inr hly))
      refine wpAny_mono (D0.run [] s5 _ H' { nx := fun σ6 H6 => D.nx (σ6.set i none) (upd H6 a (CauO cls d a)), rt := fun _ _ => False, bk := fun _ _ => False, ct := fun _ _ => False } S5 ?_) (fun f s6 hsp => ?_) (fun _ _ z => False.elim z)
      · refine ⟨.ref a, ?_, hyes rfl a na⟩
        rw [List.getElem?_set_self (by simpa using hil)]
      cases f with
      | next =>
        obtain ⟨σ6, H6, S6, q6⟩ := hsp
        exact gone_ok (X := keepX X ((a, oe4) :: (X.pn ++ pins))) (inv_keep S6 ok) hN hi hln fun s7 J7 => by
          have p7 := (J7.pin (a, oe4) (List.mem_append.mpr (.inl List.mem_cons_self))).1
          exact ⟨_, _, inv_track J7 ok n0 ne (cauO_ok p7 hz4 hd4), q6⟩
      | brk => exact hsp.elim fun _ z => z.elim fun _ z => z.2.elim
      | cont => exact hsp.elim fun _ z => z.elim fun _ z => z.2.elim
      | ret w => exact hsp.elim fun _ z => z.elim fun _ z => z.elim fun _ z => z.2.2.elim
    | false =>
      show wpAny _ X.A (handleBy (.ref a) X.env []) _ _ _
      refine wpAny_handleBy_nil ?_
      obtain ⟨k1, k2, k3, oe, vs, T, oT, ts', he, hz, hd, h1, hr⟩ := id fl3
      unfold PySem.passOn
      refine wpAny_bind (wpAny_field he hd h1 ?_)
      rw [if_neg (show ¬ ((Value.ref T == Value.none) = true) from by simp)]
      have fin : wpAny (model X.prog X.w) X.A (setFlight (.ref a) X.env.frame) (fun _ s4 => wpAny (model X.prog X.w) X.A (throw (.ref a) : Sem Flow) G X.xe s4) X.xe { s' with heap := h3 } := by
        rw [hf]
        refine HandSPX.setFlight_upZ fl3 fun h4 hh4 up4 => wpAny_throw (tk _ _ ?_)
        exact ⟨a, B, sI, pins, σ', H', cls, d, rfl, J, nb, (up.trans up3).trans up4, .inr (.inr (by rw [hs]; exact hh4)), na, os, ag, hno rfl⟩
      first
        | exact wpAny_bind (wpAny_pure (wpAny_bind fin))
        | exact wpAny_bind fin
  · cases f with
    | next =>
      obtain ⟨σ', H', J', q⟩ := hsp
      exact wpAny_execs_nil ⟨σ', H', J'.ofTry ok, q⟩
    | brk =>
      obtain ⟨σ', H', J', q⟩ := hsp
      exact ⟨σ', H', J'.ofTry ok, q⟩
    | cont =>
      obtain ⟨σ', H', J', q⟩ := hsp
      exact ⟨σ', H', J'.ofTry ok, q⟩
    | ret u =>
      obtain ⟨v, σ', H', J', r, q⟩ := hsp
      exact ⟨v, σ', H', J'.ofTry ok, r, q⟩
/-- isinstance(caught, C), where the error's object is tracked -/
def rIsH (K : PySem.W.Frag) : List V → Hp → VK → Prop := fun xs H Q => ∃ (a D : Addr) (c : V) (cv : Value) (b : Bool), H a = some (CauO (.ref D) none a) ∧ ExcC K D ∧ xs = [.ref a, c] ∧ (∀ u, RelV c u → u = cv) ∧ PySem.W.kitOne K (.ref D) cv = some b ∧ Q (.bl b) H
theorem cr_isH : CallR X (.builtin "isinstance") (rIsH X.K) := by
  intro pins s σ H xs us Q I r h
  obtain ⟨a, D, c, cv, b, ha, C, rfl, hcv, e, q⟩ := h
  obtain ⟨u1, u2, rfl, r1, r2⟩ := vals2 r
  cases (show u1 = Value.ref a from r1)
  cases hcv _ r2
  have x : ObjOk X.prog X.w H s.heap a (CauO (.ref D) none a) := I.hok a _ ha
  obtain ⟨⟨oe, vs, here, hz, hv⟩, _⟩ := x
  have J : PySem.W.InstAt s.heap a oe D none := by
    obtain ⟨h1, h2⟩ := hz
    obtain ⟨oc, od, oda, osl⟩ := oe
    cases h1; cases h2; cases hv
    exact ⟨here, rfl, rfl, trivial⟩
  exact PySem.W.kia_one (PySem.W.handS_kitx_exc C.hg C.hk C.hs C.hd C.ha C.hn C.ht C.hm) I.kIn J e (fun z => nomatch z) fun tk => ⟨.bl b, H, I.tok tk, rfl, q⟩
end
end SR
set_option Elab.async false
set_option linter.all false
set_option maxRecDepth 100000
set_option maxHeartbeats 4000000
set_option Elab.async false
set_option linter.all false
set_option maxRecDepth 100000
set_option maxHeartbeats 1000000
namespace SR
open PySem PySem.Spec PyProof.Rows L2
/-- the boxes that stay and the offsets, of ascending places; g pairs are gone on their left -/
def cutL : List Int → Int → List Int × List Int
  | [], _ => ([], [])
  | x :: xs, g => if xs.head? = some (x + 1) then ((x - 2 * g) :: (cutL xs g).1, (cutL xs g).2) else ((cutL xs (g + 1)).1, (x - 2 * g) :: (cutL xs (g + 1)).2)
theorem cutL_len : ∀ (L : List Int) (g : Int), (cutL L g).1.length + (cutL L g).2.length = L.length
  | [], _ => rfl
  | x :: xs, g => by
    unfold cutL
    split
    · have := cutL_len xs g
      show ((cutL xs g).1.length + 1) + (cutL xs g).2.length = xs.length + 1
      omega
    · have := cutL_len xs (g + 1)
      show (cutL xs (g + 1)).1.length + ((cutL xs (g + 1)).2.length + 1) = xs.length + 1
      omega
end SR
set_option Elab.async false
set_option linter.all false
set_option maxRecDepth 100000
set_option maxHeartbeats 1000000
namespace SR
open PySem PySem.Spec PyProof.Rows L2
def But2 (A O : Addr) (H H' : Hp) : Prop := ∀ b o, b ≠ A → b ≠ O → H b = some o → H' b = some o
theorem But2.trans {A O : Addr} {H H1 H2 : Hp} (s : But2 A O H H1) (t : But2 A O H1 H2) : But2 A O H H2 := fun b o n1 n2 h => t b o n1 n2 (s b o n1 n2 h)
theorem yes_if {σ : L2.St} {H : Hp} {A B : Hp → Prop} (h : A H) : tYes σ H fun b H1 => if b = true then A H1 else B H1 := h
end SR
set_option Elab.async false
set_option linter.all false
set_option maxRecDepth 100000
set_option maxHeartbeats 4000000
namespace SR
open PySem PySem.Spec PyProof.Rows L2
def sumAt (f : Step → Int) (st : List Step) (i : Int) : Int := (st.map fun s => if s.1 = i then f s else 0).sum
theorem sumAt_cons (f : Step → Int) (s : Step) (st : List Step) (i : Int) : sumAt f (s :: st) i = (if s.1 = i then f s else 0) + sumAt f st i := rfl
theorem sumAt_app (f : Step → Int) (a b : List Step) (i : Int) : sumAt f (a ++ b) i = sumAt f a i + sumAt f b i := by
  unfold sumAt
  rw [List.map_append, List.sum_append]
theorem sumAt_none {f : Step → Int} {st : List Step} {i : Int} (h : ∀ s ∈ st, s.1 ≠ i) : sumAt f st i = 0 := by
  induction st with
  | nil => rfl
  | cons s st ih =>
    rw [sumAt_cons, if_neg (h s List.mem_cons_self), ih fun t m => h t (List.mem_cons_of_mem _ m)]
    rfl
theorem sumAt_mem {f : Step → Int} {st : List Step} (a : AscS st) {s : Step} (m : s ∈ st) : sumAt f st s.1 = f s := by
  induction st with
  | nil => cases m
  | cons t st ih =>
    obtain ⟨a1, a2⟩ := List.pairwise_cons.mp a
    rw [sumAt_cons]
    rcases List.mem_cons.mp m with e | m
    · subst e
      rw [if_pos rfl, sumAt_none fun z hz e => by have := a1 z hz; omega]
      omega
    · have := a1 s m
      rw [if_neg (by omega), ih a2 m]
      omega
abbrev ldF : Step → Int := fun s => s.2.1
abbrev nlF : Step → Int := fun s => s.2.2.2.1
/-- what a step is -/
def StepIs (cn cp : Int → Int) (most : Int) (s : Step) : Prop := s = stepAt cn cp most s.1 s.2.1 ∧ 0 ≤ s.2.1 ∧ s.2.1 ≤ most
section
variable {ps ks : List (Int × Int)} {most : Int}
theorem walks_more (ok : RowOk ps ks) (m1 : 1 ≤ most) {i l : Int} {w : List Step} (h : Walks (cnt ps) (cap ks) most i l w) : 0 ≤ l → l ≤ most →
    (∀ s ∈ w, StepIs (cnt ps) (cap ks) most s ∧ i ≤ s.1) ∧ (∀ j, sumAt nlF w j + (if j + 1 = i then l else 0) = sumAt ldF w (j + 1)) ∧ (∀ j, i ≤ j → j ≤ lastIdx w → ∃ s ∈ w, s.1 = j) ∧ i ≤ lastIdx w := by
  induction h with
  | @last i l h =>
    intro l0 l1
    refine ⟨fun s m => ?_, fun j => ?_, fun j j0 j1 => ⟨_, List.mem_singleton.mpr rfl, ?_⟩, Int.le_refl _⟩
    · rw [List.mem_singleton.mp m]
      exact ⟨⟨rfl, l0, l1⟩, Int.le_refl _⟩
    · rw [sumAt_cons, sumAt_cons]
      show (if i = j then stL most l (cap ks i) (cnt ps i) else 0) + 0 + _ = (if i = j + 1 then l else 0) + 0
      rw [h]
      split <;> split <;> split <;> omega
    · have : lastIdx [stepAt (cnt ps) (cap ks) most i l] = i := rfl
      rw [this] at j1
      show i = j
      omega
  | @more i l r h t ih =>
    intro l0 l1
    obtain ⟨_, b, _⟩ := step_ok (i := i) ok m1 l0 l1
    obtain ⟨a1, a2, a3, a4⟩ := ih b.1 b.2
    have ne : r ≠ [] := by cases t <;> simp
    have ll : lastIdx (stepAt (cnt ps) (cap ks) most i l :: r) = lastIdx r := by
      unfold lastIdx
      cases r with
      | nil => exact absurd rfl ne
      | cons x r => rw [List.getLast?_cons_cons]
    refine ⟨fun s m => ?_, fun j => ?_, fun j j0 j1 => ?_, by rw [ll]; omega⟩
    · rcases List.mem_cons.mp m with rfl | m
      · exact ⟨⟨rfl, l0, l1⟩, Int.le_refl _⟩
      · have := a1 s m
        exact ⟨this.1, by omega⟩
    · rw [sumAt_cons, sumAt_cons]
      have := a2 j
      show (if i = j then stL most l (cap ks i) (cnt ps i) else 0) + sumAt nlF r j + _ = (if i = j + 1 then l else 0) + sumAt ldF r (j + 1)
      by_cases e1 : i = j
      · rw [if_pos e1, if_neg (by omega), if_neg (by omega)]
        rw [if_pos (by omega)] at this
        omega
      · rw [if_neg e1]
        rw [if_neg (by omega)] at this
        by_cases e2 : j + 1 = i
        · rw [if_pos e2, if_pos e2.symm]
          omega
        · rw [if_neg e2, if_neg (by omega)]
          omega
    · rw [ll] at j1
      by_cases e : j = i
      · exact ⟨_, List.mem_cons_self, e.symm⟩
      · obtain ⟨s, hs, e2⟩ := a3 j (by omega) j1
        exact ⟨s, List.mem_cons_of_mem _ hs, e2⟩
theorem traces_more (ok : RowOk ps ks) (m1 : 1 ≤ most) {qs : List (Int × Int)} {acc st : List Step} (h : Traces (cnt ps) (cap ks) most qs acc st) : Asc qs →
    (∀ s ∈ acc, StepIs (cnt ps) (cap ks) most s) → (∀ j, sumAt nlF acc j = sumAt ldF acc (j + 1)) → (acc ≠ [] → ∃ b, (∀ q ∈ qs, b ≤ q.1) ∧ ∀ j, b ≤ j → j ≤ lastIdx acc → ∃ s ∈ acc, s.1 = j) →
    (∀ s ∈ st, StepIs (cnt ps) (cap ks) most s) ∧ (∀ j, sumAt nlF st j = sumAt ldF st (j + 1)) ∧ (∀ s ∈ acc, s ∈ st) ∧ ∀ q ∈ qs, ∃ s ∈ st, s.1 = q.1 := by
  induction h with
  | nil => exact fun _ a b _ => ⟨a, b, fun _ m => m, fun _ m => nomatch m⟩
  | @skip p qs acc r hn h2 t ih =>
    intro asc a b c
    obtain ⟨x, x1, x2⟩ := c hn
    obtain ⟨i1, i2, i3, i4⟩ := ih (List.pairwise_cons.mp asc).2 a b fun _ => ⟨x, fun q m => x1 q (List.mem_cons_of_mem _ m), x2⟩
    refine ⟨i1, i2, i3, fun q m => ?_⟩
    rcases List.mem_cons.mp m with rfl | m
    · obtain ⟨s, hs, e⟩ := x2 q.1 (x1 q List.mem_cons_self) (by omega)
      exact ⟨s, i3 s hs, e⟩
    · exact i4 q m
  | @walk p qs acc w r hon hw t ih =>
    intro asc a b c
    obtain ⟨p1, p2⟩ := List.pairwise_cons.mp asc
    obtain ⟨w1, w2, w3, w4⟩ := walks_more ok m1 hw (Int.le_refl 0) (by omega)
    have wn := walks_ne hw
    have la : lastIdx (acc ++ w) = lastIdx w := by
      unfold lastIdx
      rw [List.getLast?_append]
      cases e : w.getLast? with
      | none => exact absurd (List.getLast?_eq_none_iff.mp e) wn
      | some x => rfl
    obtain ⟨i1, i2, i3, i4⟩ := ih p2 (fun s m => (List.mem_append.mp m).elim (a s) fun m => (w1 s m).1) (fun j => by
      rw [sumAt_app, sumAt_app, b j, ← w2 j]
      split <;> omega) fun _ => ⟨p.1, fun q m => by have := p1 q m; omega, fun j j0 j1 => by
        rw [la] at j1
        obtain ⟨s, hs, e⟩ := w3 j j0 j1
        exact ⟨s, List.mem_append_right _ hs, e⟩⟩
    refine ⟨i1, i2, fun s m => i3 s (List.mem_append_left _ m), fun q m => ?_⟩
    rcases List.mem_cons.mp m with rfl | m
    · obtain ⟨s, hs, e⟩ := w3 q.1 (Int.le_refl _) w4
      exact ⟨s, i3 s (List.mem_append_right _ hs), e⟩
    · exact i4 q m
/-- qs is ps after a sweep -/
def Sw (ks : List (Int × Int)) (most : Int) (ps qs : List (Int × Int)) : Prop := ∃ ld : Int → Int, (∃ lo, ∀ i, i ≤ lo → ld i = 0) ∧ (∃ hi, ∀ i, hi ≤ i → ld i = 0) ∧ ∀ i, 0 ≤ ld i ∧ ld i ≤ most ∧ cnt qs i = stC most (ld i) (cap ks i) (cnt ps i) ∧ ld (i + 1) = stL most (ld i) (cap ks i) (cnt ps i)
theorem span (st : List Step) : ∃ lo hi : Int, ∀ s ∈ st, lo < s.1 ∧ s.1 < hi := by
  induction st with
  | nil => exact ⟨0, 0, fun _ m => nomatch m⟩
  | cons s st ih =>
    obtain ⟨lo, hi, h⟩ := ih
    refine ⟨min lo (s.1 - 1), max hi (s.1 + 1), fun t m => ?_⟩
    rcases List.mem_cons.mp m with rfl | m
    · omega
    · have := h t m
      omega
theorem cnt_left {st : List Step} (a : AscS st) {s : Step} (m : s ∈ st) (h : 0 ≤ s.2.2.2.2) (la : Asc (left st)) : cnt (left st) s.1 = s.2.2.2.2 := by
  unfold cnt
  by_cases e : 0 < s.2.2.2.2
  · have z : (s.1, s.2.2.2.2) ∈ left st := List.mem_map.mpr ⟨s, List.mem_filter.mpr ⟨m, decide_eq_true e⟩, rfl⟩
    rw [(lookup_some (asc_nd la)).mpr z]
    rfl
  · rw [lookup_none.mpr]
    · show (0 : Int) = _
      omega
    · intro z
      obtain ⟨p, hp, e2⟩ := List.mem_map.mp z
      obtain ⟨t, ht, rfl⟩ := List.mem_map.mp hp
      obtain ⟨t1, t2⟩ := List.mem_filter.mp ht
      have e3 := sumAt_mem (f := fun s => s.2.2.2.2) a t1
      have e4 := sumAt_mem (f := fun s => s.2.2.2.2) a m
      have e5 : t.1 = s.1 := e2
      rw [e5] at e3
      have := of_decide_eq_true t2
      omega
theorem cnt_left_none {st : List Step} {i : Int} (h : ∀ s ∈ st, s.1 ≠ i) : cnt (left st) i = 0 := by
  unfold cnt
  rw [lookup_none.mpr]
  · rfl
  · intro z
    obtain ⟨p, hp, e2⟩ := List.mem_map.mp z
    obtain ⟨t, ht, rfl⟩ := List.mem_map.mp hp
    exact h t (List.mem_filter.mp ht).1 e2
theorem sw_traces (ok : RowOk ps ks) (asc : Asc ps) (m1 : 1 ≤ most) {st : List Step} (h : Traces (cnt ps) (cap ks) most ps [] st) : Sw ks most ps (left st) := by
  obtain ⟨lo, la, _⟩ := left_ok ok m1 h
  obtain ⟨a, b, _⟩ := traces_all ok m1 h List.Pairwise.nil (fun s m => nomatch m) rfl
  obtain ⟨t1, t2, _, t4⟩ := traces_more ok m1 h asc (fun s m => nomatch m) (fun j => rfl) fun z => absurd rfl z
  obtain ⟨x, y, xy⟩ := span st
  refine ⟨sumAt ldF st, ⟨x, fun i hi => sumAt_none fun s m e => by have := xy s m; omega⟩, ⟨y, fun i hi => sumAt_none fun s m e => by have := xy s m; omega⟩, fun i => ?_⟩
  have nl := t2 i
  by_cases ex : ∃ s ∈ st, s.1 = i
  · obtain ⟨s, m, rfl⟩ := ex
    obtain ⟨e, l0, l1⟩ := t1 s m
    have k1 := sumAt_mem (f := ldF) a m
    have k2 := sumAt_mem (f := nlF) a m
    have k3 := cnt_left a m (b s m).2.1 la
    have n1 : s.2.2.2.1 = stL most s.2.1 (cap ks s.1) (cnt ps s.1) := congrArg (fun s : Step => s.2.2.2.1) e
    have n2 : s.2.2.2.2 = stC most s.2.1 (cap ks s.1) (cnt ps s.1) := congrArg (fun s : Step => s.2.2.2.2) e
    refine ⟨by rw [k1]; exact l0, by rw [k1]; exact l1, ?_, ?_⟩
    · rw [k1, k3]
      exact n2
    · rw [k1, ← nl, k2]
      exact n1
  · have no : ∀ s ∈ st, s.1 ≠ i := fun s m e => ex ⟨s, m, e⟩
    have c0 : cnt ps i = 0 := by
      unfold cnt
      rw [lookup_none.mpr]
      · rfl
      · intro z
        obtain ⟨p, hp, e⟩ := List.mem_map.mp z
        obtain ⟨s, hs, e2⟩ := t4 p hp
        exact no s hs (by omega)
    have k1 := sumAt_none (f := ldF) no
    have k2 := sumAt_none (f := nlF) no
    have k3 := cnt_left_none no
    have cp := cap_ok ok.ko i
    refine ⟨by rw [k1]; exact Int.le_refl _, by rw [k1]; omega, ?_, ?_⟩
    · rw [k1, k3, c0]
      unfold stC
      omega
    · rw [k1, ← nl, k2, c0]
      unfold stL
      omega
theorem walks_ex (ok : RowOk ps ks) (m1 : 1 ≤ most) : ∀ (n : Nat) (i l : Int), 2 * sumFrom i ps + l ≤ n → 0 ≤ l → l ≤ most → (l = 0 → 1 ≤ cnt ps i) → ∃ w, Walks (cnt ps) (cap ks) most i l w := by
  intro n
  induction n with
  | zero =>
    intro i l h l0 l1 lz
    have nx := sumFrom_next i ok.nd
    have b := sumFrom_bd (i + 1) fun p m => (ok.po p m).1
    have c := cnt_bd ok i
    have := lz (by omega)
    omega
  | succ n ih =>
    intro i l h l0 l1 lz
    have nx := sumFrom_next i ok.nd
    have b := sumFrom_bd (i + 1) fun p m => (ok.po p m).1
    have c := cnt_bd ok i
    have cp := cap_ok ok.ko i
    obtain ⟨_, s2, s3⟩ := step_ok (i := i) ok m1 l0 l1
    by_cases e : stL most l (cap ks i) (cnt ps i) = 0
    · exact ⟨_, .last e⟩
    · have dec : 2 * sumFrom (i + 1) ps + stL most l (cap ks i) (cnt ps i) ≤ n := by
        have d1 : stL most l (cap ks i) (cnt ps i) ≤ l + cnt ps i := by
          unfold stL
          omega
        by_cases z : cnt ps i = 0
        · have : stL most l (cap ks i) (cnt ps i) < l := by
            have : l ≠ 0 := fun q => by have := lz q; omega
            unfold stL
            rw [z]
            omega
          omega
        · omega
      obtain ⟨w, hw⟩ := ih (i + 1) _ dec s2.1 s2.2 fun q => absurd q e
      exact ⟨_, .more e hw⟩
theorem traces_ex (ok : RowOk ps ks) (m1 : 1 ≤ most) : ∀ (qs : List (Int × Int)) (acc : List Step), (∀ q ∈ qs, q ∈ ps) → ∃ st, Traces (cnt ps) (cap ks) most qs acc st
  | [], acc, _ => ⟨acc, .nil⟩
  | p :: qs, acc, h => by
    by_cases on : acc = [] ∨ lastIdx acc < p.1
    · have c1 : 1 ≤ cnt ps p.1 := by
        unfold cnt
        rw [(lookup_some (n := p.2) ok.nd).mpr (h p List.mem_cons_self)]
        exact (ok.po p (h p List.mem_cons_self)).1
      have b := sumFrom_bd p.1 fun p m => (ok.po p m).1
      obtain ⟨w, hw⟩ := walks_ex ok m1 (2 * sumFrom p.1 ps).toNat p.1 0 (by omega) (Int.le_refl _) (by omega) fun _ => c1
      obtain ⟨st, hs⟩ := traces_ex ok m1 qs (acc ++ w) fun q m => h q (List.mem_cons_of_mem _ m)
      exact ⟨st, .walk on hw hs⟩
    · obtain ⟨st, hs⟩ := traces_ex ok m1 qs acc fun q m => h q (List.mem_cons_of_mem _ m)
      exact ⟨st, .skip (fun z => on (.inl z)) (fun z => on (.inr z)) hs⟩
theorem cnt_eq {qs : List (Int × Int)} (a : Asc ps) (b : Asc qs) (pa : ∀ p ∈ ps, 1 ≤ p.2) (pb : ∀ p ∈ qs, 1 ≤ p.2) (h : ∀ i, cnt ps i = cnt qs i) : ps = qs := by
  have sub : ∀ {xs ys : List (Int × Int)}, Asc xs → Asc ys → (∀ p ∈ xs, 1 ≤ p.2) → (∀ i, cnt xs i = cnt ys i) → ∀ p ∈ xs, p ∈ ys := fun {xs ys} ax ay px e p m => by
    have z := e p.1
    unfold cnt at z
    rw [(lookup_some (n := p.2) (asc_nd ax)).mpr m] at z
    have := px p m
    cases q : ys.lookup p.1 with
    | none =>
      rw [q] at z
      have z2 : p.2 = 0 := z
      omega
    | some n =>
      rw [q] at z
      have z2 : p.2 = n := z
      have := (lookup_some (asc_nd ay)).mp q
      rw [← z2] at this
      exact this
  have nx : ps.Nodup := a.imp fun {x y} z e => by rw [e] at z; omega
  have ny : qs.Nodup := b.imp fun {x y} z e => by rw [e] at z; omega
  exact asc_eq a b ((List.perm_ext_iff_of_nodup nx ny).mpr fun p => ⟨sub a b pa h p, sub b a pb (fun i => (h i).symm) p⟩)
end
end SR
set_option Elab.async false
set_option linter.all false
set_option maxRecDepth 100000
set_option maxHeartbeats 4000000
namespace SR
open PySem PySem.Spec PyProof.Rows L2
/-- valid rows -/
structure Vd (ps ks : List (Int × Int)) : Prop where
  ok : RowOk ps ks
  ap : Asc ps
  ak : Asc ks
theorem Vd.one {ps ks : List (Int × Int)} (v : Vd ps ks) : ∀ p ∈ ps, 1 ≤ p.2 := fun p m => (v.ok.po p m).1
section
variable {ks ps qs rs qs' rs' : List (Int × Int)} {c d : Int}
theorem up_from {P : Int → Prop} (lo : Int) (h0 : P lo) (h : ∀ i, lo ≤ i → P i → P (i + 1)) : ∀ i, lo ≤ i → P i := by
  have key : ∀ n : Nat, P (lo + n) := by
    intro n
    induction n with
    | zero => simpa using h0
    | succ n ih =>
      have := h (lo + n) (by omega) ih
      rw [show lo + ((n + 1 : Nat) : Int) = lo + n + 1 by omega]
      exact this
  intro i hi
  have := key (i - lo).toNat
  rw [show lo + ((i - lo).toNat : Int) = i by omega] at this
  exact this
theorem down_from {P : Int → Prop} (hi : Int) (h0 : P hi) (h : ∀ i, i < hi → P (i + 1) → P i) : ∀ i, i ≤ hi → P i := by
  have key : ∀ n : Nat, P (hi - n) := by
    intro n
    induction n with
    | zero => simpa using h0
    | succ n ih =>
      refine h _ (by omega) ?_
      rw [show hi - ((n + 1 : Nat) : Int) + 1 = hi - n by omega]
      exact ih
  intro i le
  have := key (hi - i).toNat
  rw [show hi - ((hi - i).toNat : Int) = i by omega] at this
  exact this
/-- one sweep only -/
theorem sw_one (v : Vd qs ks) (v' : Vd qs' ks) (h : Sw ks c ps qs) (h' : Sw ks c ps qs') : qs = qs' := by
  obtain ⟨l, ⟨a, ha⟩, _, st⟩ := h
  obtain ⟨l', ⟨a', ha'⟩, _, st'⟩ := h'
  have eq : ∀ i, l i = l' i := by
    intro i
    by_cases z : i ≤ min a a'
    · rw [ha i (by omega), ha' i (by omega)]
    · refine up_from (P := fun i => l i = l' i) (min a a') (by rw [ha _ (by omega), ha' _ (by omega)]) (fun j _ e => ?_) i (by omega)
      rw [(st j).2.2.2, (st' j).2.2.2, e]
  exact cnt_eq v.ap v'.ap v.one v'.one fun i => by rw [(st i).2.2.1, (st' i).2.2.1, eq]
/-- passing back -/
theorem pass_back {u D x : Int} (c1 : 1 ≤ c) (u0 : 0 ≤ u) (u1 : u ≤ c) (x0 : 0 ≤ x) (x1 : x ≤ D) : stL c (stL c u D x) D (stC c u D x) = u ∧ stC c (stL c u D x) D (stC c u D x) = x := by
  unfold stC stL
  omega
/-- a row is a sweep of one row only -/
theorem sw_from (v : Vd ps ks) (v' : Vd qs ks) (c1 : 1 ≤ c) (h : Sw ks c ps rs) (h' : Sw ks c qs rs) : ps = qs := by
  obtain ⟨l, _, ⟨b, hb⟩, st⟩ := h
  obtain ⟨l', _, ⟨b', hb'⟩, st'⟩ := h'
  have back : ∀ i, l (i + 1) = l' (i + 1) → l i = l' i ∧ cnt ps i = cnt qs i := fun i e => by
    obtain ⟨p0, p1, p2, p3⟩ := st i
    obtain ⟨q0, q1, q2, q3⟩ := st' i
    have n := cnt_bd v.ok i
    have m := cnt_bd v'.ok i
    obtain ⟨k1, k2⟩ := pass_back c1 p0 p1 n.1 n.2
    obtain ⟨k3, k4⟩ := pass_back c1 q0 q1 m.1 m.2
    rw [← p3, ← p2] at k1 k2
    rw [← q3, ← q2, ← e] at k3 k4
    exact ⟨k1.symm.trans k3, k2.symm.trans k4⟩
  have eq : ∀ i, l i = l' i := by
    intro i
    by_cases z : max b b' ≤ i
    · rw [hb i (by omega), hb' i (by omega)]
    · exact down_from (P := fun i => l i = l' i) (max b b') (by rw [hb _ (by omega), hb' _ (by omega)]) (fun j _ e => (back j e).1) i (by omega)
  exact cnt_eq v.ap v'.ap v.one v'.one fun i => (back i (eq _)).2
/-- two sweeps in either order -/
theorem sw_comm (v : Vd ps ks) (v1 : Vd rs ks) (v2 : Vd rs' ks) (vq : Vd qs ks) (vq' : Vd qs' ks) (c1 : 1 ≤ c) (d1 : 1 ≤ d) (h1 : Sw ks c ps qs) (h2 : Sw ks d qs rs) (h3 : Sw ks d ps qs') (h4 : Sw ks c qs' rs') : rs = rs' := by
  obtain ⟨a, ⟨a0, ha⟩, _, sa⟩ := h1
  obtain ⟨b, ⟨b0, hb⟩, _, sb⟩ := h2
  obtain ⟨b', ⟨b0', hb'⟩, _, sb'⟩ := h3
  obtain ⟨a', ⟨a0', ha'⟩, _, sa'⟩ := h4
  have turn : ∀ i, b' i = stL d (b i) c (a i) → a' i = stC d (b i) c (a i) → b' (i + 1) = stL d (b (i + 1)) c (a (i + 1)) ∧ a' (i + 1) = stC d (b (i + 1)) c (a (i + 1)) ∧ cnt rs i = cnt rs' i := fun i e1 e2 => by
    obtain ⟨p0, p1, p2, p3⟩ := sa i
    obtain ⟨q0, q1, q2, q3⟩ := sb i
    obtain ⟨r0, r1, r2, r3⟩ := sb' i
    obtain ⟨t0, t1, t2, t3⟩ := sa' i
    have n := cnt_bd v.ok i
    have cp := cap_ok v.ok.ko i
    generalize cnt ps i = x at *
    generalize cap ks i = D at *
    obtain ⟨k1, k2, k3, _, _⟩ := yb d c D (b i) (a i) x q0 p0 n.1 q1 p1 n.2 _ _ _ _ _ _ _ _ _ _ _ _ rfl rfl rfl rfl rfl rfl rfl rfl rfl rfl rfl rfl _ _ _ _ _ _ _ _ _ _ _ _ rfl rfl rfl rfl rfl rfl rfl rfl rfl rfl rfl rfl
    rw [e1] at r2 r3
    rw [e2] at t2 t3
    rw [r2] at t2 t3
    rw [p2] at q2 q3
    refine ⟨?_, ?_, ?_⟩
    · rw [r3, q3, p3]
      unfold stL stC
      exact k3
    · rw [t3, q3, p3]
      unfold stL stC
      exact k2
    · rw [q2, t2]
      unfold stL stC
      exact k1.symm
  have z0 : stL d 0 c 0 = 0 ∧ stC d 0 c 0 = 0 := by
    unfold stL stC
    omega
  have low : ∀ i, i ≤ min (min a0 b0) (min a0' b0') → b' i = stL d (b i) c (a i) ∧ a' i = stC d (b i) c (a i) := fun i hi => by
    rw [ha i (by omega), hb i (by omega), ha' i (by omega), hb' i (by omega), z0.1, z0.2]
    exact ⟨rfl, rfl⟩
  have all : ∀ i, b' i = stL d (b i) c (a i) ∧ a' i = stC d (b i) c (a i) := fun i => by
    by_cases z : i ≤ min (min a0 b0) (min a0' b0')
    · exact low i z
    · exact up_from (P := fun i => b' i = stL d (b i) c (a i) ∧ a' i = stC d (b i) c (a i)) _ (low _ (Int.le_refl _)) (fun j _ e => let t := turn j e.1 e.2; ⟨t.1, t.2.1⟩) i (by omega)
  exact cnt_eq v1.ap v2.ap v1.one v2.one fun i => (turn i (all i).1 (all i).2).2.2
theorem cnt_mirror (v : Vd ps ks) (i : Int) : cnt (mirror ps) (-i) = cnt ps i := by
  unfold cnt
  rw [lookup_perm (mirror_perm ps) (by
    have := asc_nd (mirror_asc v.ap)
    exact this), lookup_neg]
theorem cap_mirror (v : Vd ps ks) (i : Int) : cap (mirror ks) (-i) = cap ks i := by
  unfold cap
  rw [lookup_perm (mirror_perm ks) (by
    have := asc_nd (mirror_asc v.ak)
    exact this), lookup_neg]
theorem Vd.mirror (v : Vd ps ks) : Vd (mirror ps) (mirror ks) := ⟨(neg_ok v.ok).perm (mirror_perm ps) (mirror_perm ks), mirror_asc v.ap, mirror_asc v.ak⟩
/-- a sweep from right to left is an inverse one -/
theorem sw_mirror (v : Vd ps ks) (v' : Vd qs ks) (c1 : 1 ≤ c) (h : Sw (mirror ks) c (mirror ps) (mirror qs)) : Sw ks c qs ps := by
  obtain ⟨l, ⟨a, ha⟩, ⟨b, hb⟩, st⟩ := h
  refine ⟨fun i => l (-i + 1), ⟨-b, fun i hi => hb _ (by omega)⟩, ⟨-a + 1, fun i hi => ha _ (by omega)⟩, fun i => ?_⟩
  obtain ⟨p0, p1, p2, p3⟩ := st (-i)
  obtain ⟨q0, q1, _, _⟩ := st (-i + 1)
  rw [cnt_mirror v', cnt_mirror v, cap_mirror v] at p2
  rw [cnt_mirror v, cap_mirror v] at p3
  have n := cnt_bd v.ok i
  obtain ⟨k1, k2⟩ := pass_back c1 p0 p1 n.1 n.2
  rw [← p3, ← p2] at k1 k2
  refine ⟨q0, q1, k2.symm, ?_⟩
  show l (-(i + 1) + 1) = _
  rw [show -(i + 1) + 1 = -i by omega]
  exact k1.symm
end
/-- valid rows with these wide boxes -/
abbrev Rws (ks : List (Int × Int)) : Type := { ps : List (Int × Int) // Vd ps ks }
section
variable {ks : List (Int × Int)}
def total (ps : List (Int × Int)) : Int := (ps.map Prod.snd).sum
theorem sum_zero (st : List Step) : (st.map fun _ => (0 : Int)).sum = 0 := by
  induction st with
  | nil => rfl
  | cons s st ih => rw [List.map_cons, List.sum_cons, ih]; rfl
theorem sum_cover {st : List Step} (a : AscS st) : ∀ {ps : List (Int × Int)}, (ps.map Prod.fst).Nodup → (∀ p ∈ ps, ∃ s ∈ st, s.1 = p.1) → (st.map fun s => cnt ps s.1).sum = total ps
  | [], _, _ => by
    have : (st.map fun s => cnt [] s.1) = st.map fun _ => (0 : Int) := rfl
    rw [this]
    exact sum_zero st
  | p :: ps, nd, h => by
    obtain ⟨n1, n2⟩ := List.nodup_cons.mp nd
    have ih := sum_cover a n2 fun q m => h q (List.mem_cons_of_mem _ m)
    obtain ⟨s, hs, e⟩ := h p List.mem_cons_self
    have one := sumAt_mem (f := fun _ => p.2) a hs
    have z : cnt ps p.1 = 0 := by
      unfold cnt
      rw [lookup_none.mpr n1]
      rfl
    have split : ∀ xs : List Step, (xs.map fun s => cnt (p :: ps) s.1).sum = sumAt (fun _ => p.2) xs p.1 + (xs.map fun s => cnt ps s.1).sum := by
      intro xs
      induction xs with
      | nil => rfl
      | cons x xs ih2 =>
        rw [List.map_cons, List.sum_cons, ih2, sumAt_cons, List.map_cons, List.sum_cons, cnt_cons]
        by_cases e : x.1 = p.1
        · rw [if_pos e, if_pos e, e, z]
          omega
        · rw [if_neg e, if_neg e]
          omega
    rw [split, ih, ← e, one]
    show p.2 + total ps = total (p :: ps)
    unfold total
    rw [List.map_cons, List.sum_cons]
theorem sum_traces {ps : List (Int × Int)} (v : Vd ps ks) {most : Int} (m1 : 1 ≤ most) {st : List Step} (h : Traces (cnt ps) (cap ks) most ps [] st) : sumIn st = total ps := by
  obtain ⟨a, b, _⟩ := traces_all v.ok m1 h List.Pairwise.nil (fun s m => nomatch m) rfl
  obtain ⟨_, _, _, t4⟩ := traces_more v.ok m1 h v.ap (fun s m => nomatch m) (fun j => rfl) fun z => absurd rfl z
  rw [← sum_cover a v.ok.nd t4]
  unfold sumIn
  rw [List.map_congr_left fun s m => (b s m).1]
theorem total_mirror (ps : List (Int × Int)) : total (mirror ps) = total ps := by
  unfold total
  rw [perm_sum ((mirror_perm ps).map _), List.map_map]
  rfl
theorem fwd_ex {c : Int} (c1 : 1 ≤ c) (p : Rws ks) : ∃ q : Rws ks, Sw ks c p.1 q.1 ∧ total q.1 = total p.1 := by
  obtain ⟨st, h⟩ := traces_ex p.2.ok c1 p.1 [] fun q m => m
  obtain ⟨lo, la, ls⟩ := left_ok p.2.ok c1 h
  refine ⟨⟨left st, lo, la, p.2.ak⟩, sw_traces p.2.ok p.2.ap c1 h, ?_⟩
  exact ls.trans (sum_traces p.2 c1 h)
theorem bwd_ex {c : Int} (c1 : 1 ≤ c) (p : Rws ks) : ∃ q : Rws ks, Sw ks c q.1 p.1 ∧ total q.1 = total p.1 := by
  obtain ⟨q, h, e⟩ := fwd_ex c1 (⟨mirror p.1, p.2.mirror⟩ : Rws (mirror ks))
  have vq : Vd (mirror q.1) ks := by
    have := q.2.mirror
    rw [mirror_mirror] at this
    exact this
  refine ⟨⟨mirror q.1, vq⟩, sw_mirror p.2 vq c1 ?_, ?_⟩
  · rw [mirror_mirror]
    exact h
  · rw [total_mirror, e, total_mirror]
/-- one sweep, or one inverse sweep -/
def Tn (c : Int) (back : Bool) (p q : Rws ks) : Prop := if back = true then Sw ks c q.1 p.1 else Sw ks c p.1 q.1
theorem tn_one {c : Int} (c1 : 1 ≤ c) {b : Bool} {p q q' : Rws ks} (h : Tn c b p q) (h' : Tn c b p q') : q = q' := by
  unfold Tn at h h'
  cases b with
  | true => exact Subtype.ext (sw_from q.2 q'.2 c1 h h')
  | false => exact Subtype.ext (sw_one q.2 q'.2 h h')
open Classical in
/-- the row behind a sweep, or an inverse one -/
noncomputable def Fn (s : Int × Bool) (p : Rws ks) : Rws ks := if h : ∃ q, Tn s.1 s.2 p q then Classical.choose h else p
theorem fn_is {c : Int} (c1 : 1 ≤ c) (b : Bool) (p : Rws ks) : Tn c b p (Fn (c, b) p) ∧ total (Fn (c, b) p).1 = total p.1 := by
  have ex : ∃ q, Tn c b p q ∧ total q.1 = total p.1 := by
    cases b with
    | true => exact bwd_ex c1 p
    | false => exact fwd_ex c1 p
  obtain ⟨q, h1, h2⟩ := ex
  have ex2 : ∃ q, Tn c b p q := ⟨q, h1⟩
  have e : Fn (c, b) p = Classical.choose ex2 := dif_pos ex2
  have t := Classical.choose_spec ex2
  rw [← e] at t
  refine ⟨t, ?_⟩
  rw [tn_one c1 t h1]
  exact h2
theorem fn_of {c : Int} (c1 : 1 ≤ c) {b : Bool} {p q : Rws ks} (h : Tn c b p q) : q = Fn (c, b) p := tn_one c1 h (fn_is c1 b p).1
theorem fn_back {c : Int} (c1 : 1 ≤ c) (b : Bool) (p : Rws ks) : Fn (c, b) (Fn (c, !b) p) = p := by
  have h := (fn_is c1 (!b) p).1
  refine (fn_of c1 ?_).symm
  unfold Tn at h ⊢
  cases b with
  | true => exact h
  | false => exact h
theorem fn_ff {c d : Int} (c1 : 1 ≤ c) (d1 : 1 ≤ d) (p : Rws ks) : Fn (d, false) (Fn (c, false) p) = Fn (c, false) (Fn (d, false) p) :=
  Subtype.ext (sw_comm p.2 (Fn (d, false) (Fn (c, false) p)).2 (Fn (c, false) (Fn (d, false) p)).2 (Fn (c, false) p).2 (Fn (d, false) p).2 c1 d1 (fn_is c1 false p).1 (fn_is d1 false _).1 (fn_is d1 false p).1 (fn_is c1 false _).1)
theorem fn_comm {c d : Int} (c1 : 1 ≤ c) (d1 : 1 ≤ d) (a b : Bool) (p : Rws ks) : Fn (d, b) (Fn (c, a) p) = Fn (c, a) (Fn (d, b) p) := by
  have inj : ∀ {x : Int} (x1 : 1 ≤ x) (a : Bool) {p q : Rws ks}, Fn (x, a) p = Fn (x, a) q → p = q := fun {x} x1 a {p q} e => by
    have := congrArg (Fn (x, !a)) e
    have k := fun p : Rws ks => fn_back x1 (!a) p
    simp only [Bool.not_not] at k
    rw [k, k] at this
    exact this
  have k1 := fun (x : Int) (x1 : 1 ≤ x) (p : Rws ks) => fn_back x1 false p
  have k2 := fun (x : Int) (x1 : 1 ≤ x) (p : Rws ks) => fn_back x1 true p
  simp only [Bool.not_false, Bool.not_true] at k1 k2
  cases a with
  | false =>
    cases b with
    | false => exact fn_ff c1 d1 p
    | true =>
      apply inj d1 false
      rw [k1 d d1, fn_ff c1 d1, k1 d d1]
  | true =>
    cases b with
    | false =>
      apply inj c1 false
      rw [fn_ff d1 c1, k1 c c1, k1 c c1]
    | true =>
      apply inj d1 false
      rw [k1 d d1]
      apply inj c1 false
      rw [k1 c c1]
      rw [fn_ff d1 c1, k1 c c1, k1 d d1]
end
end SR
namespace SR
section
variable {ks : List (Int × Int)}
/-- the row behind some sweeps -/
noncomputable def FnL (some : List (Int × Bool)) (p : Rws ks) : Rws ks := some.foldl (fun p s => Fn s p) p
theorem fnL_perm {l l' : List (Int × Bool)} (h : l.Perm l') (one : ∀ s ∈ l, 1 ≤ s.1) (p : Rws ks) : FnL l p = FnL l' p :=
  List.Perm.foldl_eq' h (fun x hx y hy z => fn_comm (one x hx) (one y hy) x.2 y.2 z) p
end
end SR
set_option Elab.async false
set_option linter.all false
set_option maxRecDepth 100000
set_option maxHeartbeats 4000000
set_option Elab.async false
set_option linter.all false
set_option maxRecDepth 100000
set_option maxHeartbeats 4000000
set_option Elab.async false
set_option linter.all false
set_option maxRecDepth 100000
set_option maxHeartbeats 4000000
set_option Elab.async false
set_option linter.all false
set_option maxRecDepth 100000
set_option maxHeartbeats 4000000
set_option Elab.async false
set_option linter.all false
set_option maxRecDepth 100000
set_option maxHeartbeats 4000000
namespace SR
open PySem PySem.Spec PyProof.Rows L2
/-- a tuple of plain values -/
def Flat (H : Hp) (t : Addr) : Prop := ∃ xs ds, H t = some (.tup xs) ∧ (∀ (K : PySem.W.Frag) (H' : Hp), DpAll K H' xs ds) ∧ PyData.canLayAll0 ds = true ∧ PyData.depthAll ds ≤ 10
theorem Flat.kp {H H' : Hp} {d g c t : Addr} {b : Nat} (f : Flat H t) (S : StB H d g c b) (k : Kp d g H H') : Flat H' t := let ⟨xs, ds, h1, h2⟩ := f; ⟨xs, ds, kp_at S k h1 (fun _ z => nomatch z) (fun _ _ z => nomatch z), h2⟩
theorem Flat.same {H H' : Hp} {t : Addr} (f : Flat H t) (s : Same H H') : Flat H' t := let ⟨xs, ds, h1, h2⟩ := f; ⟨xs, ds, s _ _ h1, h2⟩
end SR
set_option Elab.async false
set_option linter.all false
set_option maxRecDepth 100000
set_option maxHeartbeats 4000000
set_option Elab.async false
set_option linter.all false
set_option maxRecDepth 100000
set_option maxHeartbeats 4000000
set_option Elab.async false
set_option linter.all false
set_option maxRecDepth 100000
set_option maxHeartbeats 4000000
set_option Elab.async false
set_option linter.all false
set_option maxRecDepth 100000
set_option maxHeartbeats 4000000
set_option Elab.async false
set_option linter.all false
set_option maxRecDepth 100000
set_option maxHeartbeats 4000000
namespace L2
open PySem PySem.Spec PyProof.Rows
end L2
set_option Elab.async false
set_option linter.all false
set_option maxRecDepth 100000
set_option maxHeartbeats 1000000
set_option Elab.async false
set_option linter.all false
set_option maxRecDepth 100000
set_option maxHeartbeats 4000000
set_option Elab.async false
set_option linter.all false
set_option maxRecDepth 100000
set_option maxHeartbeats 2000000
set_option Elab.async false
set_option linter.all false
set_option maxRecDepth 100000
set_option maxHeartbeats 1000000
set_option Elab.async false
set_option linter.all false
set_option maxRecDepth 100000
set_option maxHeartbeats 1000000
namespace SR
open PySem PySem.Spec PyProof.Rows L2
def dropL (L : List Int) (p : Int) : List Int := L.filter fun y => decide (p ≤ y)
end SR
set_option Elab.async false
set_option linter.all false
set_option maxRecDepth 100000
set_option maxHeartbeats 1000000
set_option Elab.async false
set_option linter.all false
set_option maxRecDepth 100000
set_option maxHeartbeats 1000000
namespace SR
open PySem PySem.Spec PyProof.Rows L2
section
variable {K : PySem.W.Frag} {H0 : Hp} {l F O : Addr} {L : List Int} {first : Int} {n : Nat}
/-- behind at signs of the word -/
structure Wlk (H0 : Hp) (F O : Addr) (L : List Int) (first : Int) (n : Nat) (at_ g : Nat) (f o : List Int) (H : Hp) : Prop where
  le : at_ ≤ n
  b : But2 F O H0 H
  hf : H F = some (.lst (f.map V.int))
  ho : H O = some (.lst (o.map V.int))
  e : (f ++ (cutL (dropL L (first + (at_ : Int))) (g : Int)).1, o ++ (cutL (dropL L (first + (at_ : Int))) (g : Int)).2) = cutL L 0
theorem Wlk.len {H : Hp} {at_ g : Nat} {f o : List Int} (w : Wlk H0 F O L first n at_ g f o H) : f.length + o.length ≤ L.length := by
  have h := cutL_len L 0
  have h1 : (cutL L 0).1 = f ++ (cutL (dropL L (first + (at_ : Int))) (g : Int)).1 := by rw [← w.e]
  have h2 : (cutL L 0).2 = o ++ (cutL (dropL L (first + (at_ : Int))) (g : Int)).2 := by rw [← w.e]
  rw [h1, h2, List.length_append, List.length_append] at h
  omega
end
end SR
set_option Elab.async false
set_option linter.all false
set_option maxRecDepth 100000
set_option maxHeartbeats 1000000
namespace SR
open PySem PySem.Spec PyProof.Rows L2
theorem cutL_cons (x : Int) (xs : List Int) (g : Int) : cutL (x :: xs) g = if xs.head? = some (x + 1) then ((x - 2 * g) :: (cutL xs g).1, (cutL xs g).2) else ((cutL xs (g + 1)).1, (x - 2 * g) :: (cutL xs (g + 1)).2) := rfl
theorem cutL_shift (far : Int) : ∀ (L : List Int) (g : Int), cutL (L.map (· + far)) g = ((cutL L g).1.map (· + far), (cutL L g).2.map (· + far))
  | [], _ => rfl
  | x :: xs, g => by
    have h1 := cutL_shift far xs g
    have h2 := cutL_shift far xs (g + 1)
    have c : ((xs.map (· + far)).head? = some (x + far + 1)) ↔ (xs.head? = some (x + 1)) := by
      rw [List.head?_map]
      cases xs.head? with
      | none => exact ⟨(fun z => nomatch z), fun z => nomatch z⟩
      | some y =>
        show some (y + far) = some (x + far + 1) ↔ _
        constructor
        · intro z
          have := Option.some.inj z
          congr 1
          omega
        · intro z
          have := Option.some.inj z
          congr 1
          omega
    have e : x + far - 2 * g = x - 2 * g + far := by omega
    rw [List.map_cons, cutL_cons, cutL_cons, h1, h2, e]
    by_cases h : xs.head? = some (x + 1)
    · rw [if_pos h, if_pos (c.mpr h)]
      rfl
    · rw [if_neg h, if_neg fun z => h (c.mp z)]
      rfl
end SR
set_option Elab.async false
set_option linter.all false
set_option maxRecDepth 100000
set_option maxHeartbeats 1000000
namespace SR
def pos : List Bool → Int → List Int
  | [], _ => []
  | true :: bs, p => p :: pos bs (p + 1)
  | false :: bs, p => pos bs (p + 1)
theorem pos_ge : ∀ (bs : List Bool) (p : Int), ∀ y ∈ pos bs p, p ≤ y
  | [], _ => fun _ m => nomatch m
  | true :: bs, p => fun y m => by
    rcases List.mem_cons.mp m with rfl | m
    · exact Int.le_refl _
    · have := pos_ge bs (p + 1) y m
      omega
  | false :: bs, p => fun y m => by
    have := pos_ge bs (p + 1) y m
    omega
theorem pos_asc : ∀ (bs : List Bool) (p : Int), (pos bs p).Pairwise (· < ·)
  | [], _ => .nil
  | true :: bs, p => .cons (fun y m => by have := pos_ge bs (p + 1) y m; omega) (pos_asc bs (p + 1))
  | false :: bs, p => pos_asc bs (p + 1)
theorem pos_false (k : Nat) : ∀ p : Int, pos (List.replicate k false) p = [] := by
  induction k with
  | zero => exact fun _ => rfl
  | succ k ih => exact fun p => ih (p + 1)
theorem pos_app (k : Nat) : ∀ (bs : List Bool) (p : Int), pos (bs ++ List.replicate k false) p = pos bs p
  | [], p => pos_false k p
  | true :: bs, p => congrArg (p :: ·) (pos_app k bs (p + 1))
  | false :: bs, p => pos_app k bs (p + 1)
theorem pos_pre (bs : List Bool) (k : Nat) : ∀ p : Int, pos (List.replicate k false ++ bs) p = pos bs (p + k) := by
  induction k with
  | zero => exact fun p => by simp
  | succ k ih =>
    intro p
    show pos (List.replicate k false ++ bs) (p + 1) = _
    rw [ih, show p + 1 + (k : Int) = p + ((k + 1 : Nat) : Int) by omega]
theorem pos_shift (a : Int) : ∀ (bs : List Bool) (p : Int), pos bs (p + a) = (pos bs p).map (· + a)
  | [], _ => rfl
  | true :: bs, p => by
    show (p + a) :: pos bs (p + a + 1) = (p + a) :: (pos bs (p + 1)).map (· + a)
    rw [← pos_shift a bs (p + 1), show p + a + 1 = p + 1 + a by omega]
  | false :: bs, p => by
    show pos bs (p + a + 1) = (pos bs (p + 1)).map (· + a)
    rw [← pos_shift a bs (p + 1), show p + a + 1 = p + 1 + a by omega]
theorem bw_app : ∀ (a b : List Lx), bw (a ++ b) = bw a ++ bw b
  | [], _ => rfl
  | .z :: a, b => congrArg (false :: ·) (bw_app a b)
  | .o :: a, b => congrArg (true :: ·) (bw_app a b)
  | .m :: a, b => congrArg (true :: false :: ·) (bw_app a b)
theorem bk_app : ∀ (a b : List Lx), bk (a ++ b) = bk a ++ bk b
  | [], _ => rfl
  | .z :: a, b => congrArg (false :: ·) (bk_app a b)
  | .o :: a, b => congrArg (true :: ·) (bk_app a b)
  | .m :: a, b => bk_app a b
theorem bw_zs (k : Nat) : bw (zs k) = List.replicate k false := by
  induction k with
  | zero => rfl
  | succ k ih => rw [zs_succ, List.replicate_succ, ← ih]; rfl
theorem hd_pos : ∀ (w : List Lx) (p : Int), hdB w = true → (pos (bw w) p).head? = some p
  | .o :: _, _, _ => rfl
  | .m :: _, _, _ => rfl
theorem hdB_app {w : List Lx} (v : List Lx) (h : hdB w = true) : hdB (w ++ v) = true := by
  cases w with
  | nil => cases h
  | cons l w => cases l <;> first | exact h | rfl
theorem gd_zs (k : Nat) : gdB (zs k) = true := by
  induction k with
  | zero => rfl
  | succ k ih => exact ih
theorem gd_app (k : Nat) : ∀ {w : List Lx}, gdB w = true → gdB (w ++ zs k) = true
  | [], _ => gd_zs k
  | .z :: w, h => gd_app k (w := w) h
  | .m :: w, h => gd_app k (w := w) h
  | .o :: w, h => by
    have h : (hdB w && gdB w) = true := h
    rw [Bool.and_eq_true] at h
    show (hdB (w ++ zs k) && gdB (w ++ zs k)) = true
    rw [hdB_app _ h.1, gd_app k h.2]
    rfl
theorem gd_pre (k : Nat) (w : List Lx) : gdB (zs k ++ w) = gdB w := by
  induction k with
  | zero => rfl
  | succ k ih => exact ih
/-- a cut of a word's places -/
theorem cut_word : ∀ (w : List Lx) (p g : Int), gdB w = true → cutL (pos (bw w) p) g = (pos (bk w) (p - 2 * g), marks w (p - 2 * g))
  | [], _, _, _ => rfl
  | .z :: w, p, g, h => by
    show cutL (pos (bw w) (p + 1)) g = (pos (bk w) (p - 2 * g + 1), marks w (p - 2 * g + 1))
    rw [cut_word w (p + 1) g h, show p + 1 - 2 * g = p - 2 * g + 1 by omega]
  | .o :: w, p, g, h => by
    have h : (hdB w && gdB w) = true := h
    rw [Bool.and_eq_true] at h
    show cutL (p :: pos (bw w) (p + 1)) g = ((p - 2 * g) :: pos (bk w) (p - 2 * g + 1), marks w (p - 2 * g + 1))
    rw [cutL_cons, if_pos (hd_pos w (p + 1) h.1), cut_word w (p + 1) g h.2, show p + 1 - 2 * g = p - 2 * g + 1 by omega]
  | .m :: w, p, g, h => by
    show cutL (p :: pos (bw w) (p + 1 + 1)) g = (pos (bk w) (p - 2 * g), (p - 2 * g) :: marks w (p - 2 * g))
    rw [cutL_cons, if_neg (fun z => ?_), cut_word w (p + 1 + 1) (g + 1) h, show p + 1 + 1 - 2 * (g + 1) = p - 2 * g by omega]
    have m := List.mem_of_mem_head? (Option.mem_def.mpr z)
    have := pos_ge _ _ _ m
    omega
/-- every row has a word -/
theorem word_ex : ∀ (L : List Int) (p : Int), L.Pairwise (· < ·) → (∀ y ∈ L, p ≤ y) → ∃ w, gdB w = true ∧ pos (bw w) p = L ∧ (L.head? = some p → hdB w = true)
  | [], p, _, _ => ⟨[], rfl, rfl, fun z => nomatch z⟩
  | x :: xs, p, a, h => by
    have px := h x List.mem_cons_self
    obtain ⟨a1, a2⟩ := List.pairwise_cons.mp a
    by_cases c : xs.head? = some (x + 1)
    · obtain ⟨w, g, e, hd⟩ := word_ex xs (x + 1) a2 fun y m => by have := a1 y m; omega
      refine ⟨zs (x - p).toNat ++ .o :: w, ?_, ?_, fun z => ?_⟩
      · rw [gd_pre]
        show (hdB w && gdB w) = true
        rw [hd c, g]
        rfl
      · rw [bw_app, bw_zs, pos_pre]
        show (p + ((x - p).toNat : Int)) :: pos (bw w) (p + ((x - p).toNat : Int) + 1) = _
        rw [show p + ((x - p).toNat : Int) = x by omega, e]
      · have : x = p := Option.some.inj z
        rw [show (x - p).toNat = 0 by omega]
        rfl
    · obtain ⟨w, g, e, hd⟩ := word_ex xs (x + 1 + 1) a2 fun y m => by
        have := a1 y m
        by_cases q : y = x + 1
        · subst q
          cases xs with
          | nil => cases m
          | cons z zs =>
            rcases List.mem_cons.mp m with q | q
            · exact absurd (by rw [q]; rfl) c
            · have h1 := (List.pairwise_cons.mp a2).1 _ q
              have h2 := a1 z List.mem_cons_self
              omega
        · omega
      refine ⟨zs (x - p).toNat ++ .m :: w, ?_, ?_, fun z => ?_⟩
      · rw [gd_pre]
        exact g
      · rw [bw_app, bw_zs, pos_pre]
        show (p + ((x - p).toNat : Int)) :: pos (bw w) (p + ((x - p).toNat : Int) + 1 + 1) = _
        rw [show p + ((x - p).toNat : Int) = x by omega, e]
      · have : x = p := Option.some.inj z
        rw [show (x - p).toNat = 0 by omega]
        rfl
/-- the places behind the runs -/
def rends : List Int → List Int
  | [] => []
  | x :: xs => if xs.head? = some (x + 1) then rends xs else (x + 1) :: rends xs
theorem rends_cons (x : Int) (xs : List Int) : rends (x :: xs) = if xs.head? = some (x + 1) then rends xs else (x + 1) :: rends xs := rfl
theorem ends_pos : ∀ (bs : List Bool) (n : Int), ends false bs n = rends (pos bs n) ∧ ends true bs n = rends ((n - 1) :: pos bs n)
  | [], n => ⟨rfl, by
    rw [rends_cons, if_neg (fun z => nomatch z), show n - 1 + 1 = n by omega]
    rfl⟩
  | true :: bs, n => by
    have h := (ends_pos bs (n + 1)).2
    rw [show n + 1 - 1 = n by omega] at h
    refine ⟨h, ?_⟩
    rw [rends_cons, if_pos (show (pos (true :: bs) n).head? = some (n - 1 + 1) by rw [show n - 1 + 1 = n by omega]; rfl)]
    exact h
  | false :: bs, n => by
    have h := (ends_pos bs (n + 1)).1
    refine ⟨h, ?_⟩
    rw [rends_cons, if_neg (fun z => ?_)]
    · rw [show n - 1 + 1 = n by omega]
      show n :: ends false bs (n + 1) = _
      rw [h]
      rfl
    · have m := List.mem_of_mem_head? (Option.mem_def.mpr z)
      have := pos_ge bs (n + 1) _ m
      omega
theorem marks_ge : ∀ (w : List Lx) (n : Int), ∀ y ∈ marks w n, n ≤ y
  | [], _ => fun _ m => nomatch m
  | .z :: w, n => fun y m => by have := marks_ge w (n + 1) y m; omega
  | .o :: w, n => fun y m => by have := marks_ge w (n + 1) y m; omega
  | .m :: w, n => fun y m => by
    rcases List.mem_cons.mp m with rfl | m
    · exact Int.le_refl _
    · exact marks_ge w n y m
theorem marks_up : ∀ (w : List Lx) (n : Int), (marks w n).Pairwise (· ≤ ·)
  | [], _ => .nil
  | .z :: w, n => marks_up w (n + 1)
  | .o :: w, n => marks_up w (n + 1)
  | .m :: w, n => .cons (marks_ge w n) (marks_up w n)
theorem marks_shift (a : Int) : ∀ (w : List Lx) (n : Int), marks w (n + a) = (marks w n).map (· + a)
  | [], _ => rfl
  | .z :: w, n => by
    show marks w (n + a + 1) = (marks w (n + 1)).map (· + a)
    rw [← marks_shift a w (n + 1), show n + a + 1 = n + 1 + a by omega]
  | .o :: w, n => by
    show marks w (n + a + 1) = (marks w (n + 1)).map (· + a)
    rw [← marks_shift a w (n + 1), show n + a + 1 = n + 1 + a by omega]
  | .m :: w, n => by
    show (n + a) :: marks w (n + a) = (n + a) :: (marks w n).map (· + a)
    rw [← marks_shift a w n]
theorem ends_tf (bs : List Bool) (N x : Int) : (ends true bs N).count x ≤ (if N == x then 1 else 0) + (ends false bs N).count x := by
  cases bs with
  | nil =>
    show ([N] : List Int).count x ≤ _ + ([] : List Int).count x
    rw [List.count_cons]
    omega
  | cons b bs =>
    cases b with
    | true =>
      show (ends true bs (N + 1)).count x ≤ _ + (ends true bs (N + 1)).count x
      omega
    | false =>
      show (N :: ends false bs (N + 1)).count x ≤ _ + (ends false bs (N + 1)).count x
      rw [List.count_cons]
      omega
/-- behind each run of the cut row a pair was removed -/
theorem ends_le : ∀ (w : List Lx), gdB w = true → ∀ N x : Int, (ends false (bk w) N).count x ≤ (marks w N).count x ∧ (hdB w = true → (ends true (bk w) N).count x ≤ (marks w N).count x)
  | [], _, N, x => ⟨Nat.le_refl _, fun z => nomatch z⟩
  | .z :: w, h, N, x => ⟨(ends_le w h (N + 1) x).1, fun z => nomatch z⟩
  | .o :: w, h, N, x => by
    have h : (hdB w && gdB w) = true := h
    rw [Bool.and_eq_true] at h
    have := (ends_le w h.2 (N + 1) x).2 h.1
    exact ⟨this, fun _ => this⟩
  | .m :: w, h, N, x => by
    have h1 := (ends_le w h N x).1
    have h2 := ends_tf (bk w) N x
    refine ⟨?_, fun _ => ?_⟩
    · show (ends false (bk w) N).count x ≤ (N :: marks w N).count x
      rw [List.count_cons]
      omega
    · show (ends true (bk w) N).count x ≤ (N :: marks w N).count x
      rw [List.count_cons]
      omega
/-- the list without the items of another one -/
def less (B E : List Int) : List Int := E.foldl List.erase B
theorem less_count (x : Int) : ∀ (E B : List Int), (less B E).count x = B.count x - E.count x
  | [], B => rfl
  | e :: E, B => by
    show (less (B.erase e) E).count x = _
    rw [less_count x E, List.count_erase, List.count_cons]
    omega
theorem less_sub : ∀ (E B : List Int), (less B E).Sublist B
  | [], B => List.Sublist.refl B
  | e :: E, B => (less_sub E (B.erase e)).trans List.erase_sublist
/-- the offsets of the trains of length 1 -/
def ofs (L : List Int) : List Int := less (cutL L 0).2 (rends (cutL L 0).1)
theorem up_eq : ∀ {a b : List Int}, a.Pairwise (· ≤ ·) → b.Pairwise (· ≤ ·) → (∀ x, a.count x = b.count x) → a = b
  | [], [], _, _, _ => rfl
  | [], y :: b, _, _, h => by
    have := h y
    rw [List.count_cons_self] at this
    cases this
  | x :: a, [], _, _, h => by
    have := h x
    rw [List.count_cons_self] at this
    cases this
  | x :: a, y :: b, ha, hb, h => by
    obtain ⟨a1, a2⟩ := List.pairwise_cons.mp ha
    obtain ⟨b1, b2⟩ := List.pairwise_cons.mp hb
    have mx : x ∈ y :: b := List.count_pos_iff.mp (by rw [← h x, List.count_cons_self]; exact Nat.succ_pos _)
    have my : y ∈ x :: a := List.count_pos_iff.mp (by rw [h y, List.count_cons_self]; exact Nat.succ_pos _)
    have e : x = y := by
      rcases List.mem_cons.mp mx with q | q
      · exact q
      · rcases List.mem_cons.mp my with r | r
        · exact r.symm
        · have h1 := b1 x q
          have h2 := a1 y r
          omega
    subst e
    rw [up_eq a2 b2 fun z => by
      have := h z
      rw [List.count_cons, List.count_cons] at this
      omega]
end SR
set_option Elab.async false
set_option linter.all false
set_option maxRecDepth 100000
set_option maxHeartbeats 1000000
namespace SR
open PySem PySem.Spec PyProof.Rows L2
def cB (L : List Int) (i : Int) : Int := if i ∈ L then 1 else 0
theorem cnt_ones (i : Int) : ∀ L : List Int, cnt (ones L) i = cB L i
  | [] => rfl
  | x :: L => by
    have ih := cnt_ones i L
    unfold cnt cB at ih ⊢
    show (List.lookup i ((x, 1) :: ones L)).getD 0 = _
    by_cases h : i = x
    · subst h
      rw [List.lookup_cons_self, if_pos List.mem_cons_self]
      rfl
    · have : (i == x) = false := by simpa using h
      rw [List.lookup_cons, this]
      show ((ones L).lookup i).getD 0 = _
      rw [ih]
      by_cases m : i ∈ L
      · rw [if_pos m, if_pos (List.mem_cons_of_mem _ m)]
      · rw [if_neg m, if_neg fun z => (List.mem_cons.mp z).elim h m]
/-- the load at the end -/
def fin (c : Nat) : Nat → List Bool → Nat
  | u, [] => u
  | u, true :: bs => if u < c then fin c (u + 1) bs else fin c u bs
  | u, false :: bs => fin c (u - 1) bs
theorem fin_falses {c : Nat} : ∀ (k u : Nat), u ≤ k → fin c u (List.replicate k false) = 0
  | 0, u, h => by
    show u = 0
    omega
  | k + 1, u, h => fin_falses k (u - 1) (by omega)
theorem fin_zero {c k : Nat} : ∀ (bs : List Bool) (u : Nat), u + bs.length ≤ k → fin c u (bs ++ List.replicate k false) = 0
  | [], u, h => fin_falses k u (by simpa using h)
  | true :: bs, u, h => by
    rw [List.length_cons] at h
    show (if u < c then fin c (u + 1) (bs ++ _) else fin c u (bs ++ _)) = 0
    split
    · exact fin_zero bs (u + 1) (by omega)
    · exact fin_zero bs u (by omega)
  | false :: bs, u, h => by
    rw [List.length_cons] at h
    exact fin_zero bs (u - 1) (by omega)
theorem len_sw {c : Nat} : ∀ (bs : List Bool) (u : Nat) (p : Int), (pos (swB c u bs) p).length + fin c u bs = (pos bs p).length + u
  | [], u, p => rfl
  | true :: bs, u, p => by
    by_cases h : u < c
    · rw [swB_t h]
      show (pos (swB c (u + 1) bs) (p + 1)).length + (if u < c then fin c (u + 1) bs else fin c u bs) = (pos bs (p + 1)).length + 1 + u
      rw [if_pos h]
      have := len_sw (c := c) bs (u + 1) (p + 1)
      omega
    · rw [swB_tf h]
      show (pos (swB c u bs) (p + 1)).length + 1 + (if u < c then fin c (u + 1) bs else fin c u bs) = (pos bs (p + 1)).length + 1 + u
      rw [if_neg h]
      have := len_sw (c := c) bs u (p + 1)
      omega
  | false :: bs, u, p => by
    by_cases h : 0 < u
    · rw [swB_f h]
      show (pos (swB c (u - 1) bs) (p + 1)).length + 1 + fin c (u - 1) bs = (pos bs (p + 1)).length + u
      have := len_sw (c := c) bs (u - 1) (p + 1)
      omega
    · obtain rfl : u = 0 := by omega
      rw [swB_z]
      exact len_sw bs 0 (p + 1)
def ldB (c : Nat) : Nat → List Bool → Int → Int → Int
  | u, [], _, _ => u
  | u, true :: bs, p, i => if i ≤ p then u else ldB c (if u < c then u + 1 else u) bs (p + 1) i
  | u, false :: bs, p, i => if i ≤ p then u else ldB c (u - 1) bs (p + 1) i
theorem ldB_le {c u : Nat} {bs : List Bool} {p i : Int} (h : i ≤ p) : ldB c u bs p i = u := by
  cases bs with
  | nil => rfl
  | cons b bs => cases b <;> exact if_pos h
theorem ldB_hi {c : Nat} : ∀ (bs : List Bool) (u : Nat) (p i : Int), fin c u bs = 0 → p + bs.length ≤ i → ldB c u bs p i = 0
  | [], u, p, i, h, _ => by
    have h : u = 0 := h
    subst h
    rfl
  | true :: bs, u, p, i, h, l => by
    rw [List.length_cons] at l
    show (if i ≤ p then (u : Int) else ldB c (if u < c then u + 1 else u) bs (p + 1) i) = 0
    rw [if_neg (by omega)]
    have h : (if u < c then fin c (u + 1) bs else fin c u bs) = 0 := h
    refine ldB_hi bs _ (p + 1) i ?_ (by omega)
    split
    · rename_i z
      rw [if_pos z] at h
      exact h
    · rename_i z
      rw [if_neg z] at h
      exact h
  | false :: bs, u, p, i, h, l => by
    rw [List.length_cons] at l
    show (if i ≤ p then (u : Int) else ldB c (u - 1) bs (p + 1) i) = 0
    rw [if_neg (by omega)]
    exact ldB_hi bs (u - 1) (p + 1) i h (by omega)
theorem cB_t (bs : List Bool) (p : Int) : cB (pos (true :: bs) p) p = 1 := if_pos List.mem_cons_self
theorem cB_f (bs : List Bool) (p : Int) : cB (pos (false :: bs) p) p = 0 := if_neg fun m => by
  have := pos_ge bs (p + 1) p m
  omega
theorem cB_n (b : Bool) (bs : List Bool) {p i : Int} (h : p < i) : cB (pos (b :: bs) p) i = cB (pos bs (p + 1)) i := by
  cases b with
  | false => rfl
  | true =>
    show cB (p :: pos bs (p + 1)) i = _
    unfold cB
    by_cases m : i ∈ pos bs (p + 1)
    · rw [if_pos m, if_pos (List.mem_cons_of_mem _ m)]
    · rw [if_neg m, if_neg fun z => (List.mem_cons.mp z).elim (fun e => by omega) m]
theorem sw_at {c : Nat} (c1 : 1 ≤ c) : ∀ (bs : List Bool) (u : Nat) (p : Int), u ≤ c → fin c u bs = 0 → ∀ i, p ≤ i →
    0 ≤ ldB c u bs p i ∧ ldB c u bs p i ≤ c ∧ cB (pos (swB c u bs) p) i = stC c (ldB c u bs p i) 1 (cB (pos bs p) i) ∧ ldB c u bs p (i + 1) = stL c (ldB c u bs p i) 1 (cB (pos bs p) i)
  | [], u, p, hu, h, i, hi => by
    have h : u = 0 := h
    subst h
    refine ⟨Int.le_refl _, ?_, ?_, ?_⟩
    · show (0 : Int) ≤ c
      omega
    · show (0 : Int) = 0 - min ((c : Int) - 0) 0 + min 0 (1 - 0)
      omega
    · show (0 : Int) = 0 + min ((c : Int) - 0) 0 - min 0 (1 - 0)
      omega
  | b :: bs, u, p, hu, h, i, hi => by
    obtain ⟨u', e1, e2, e3, e4, e5⟩ : ∃ u' : Nat, u' ≤ c ∧ fin c u' bs = 0 ∧ (∀ i, p < i → ldB c u (b :: bs) p i = ldB c u' bs (p + 1) i) ∧ (∃ b', swB c u (b :: bs) = b' :: swB c u' bs ∧ cB (pos (b' :: swB c u' bs) p) p = stC c u 1 (cB (pos (b :: bs) p) p)) ∧ (u' : Int) = stL c u 1 (cB (pos (b :: bs) p) p) := by
      cases b with
      | true =>
        have h : (if u < c then fin c (u + 1) bs else fin c u bs) = 0 := h
        rw [cB_t]
        by_cases z : u < c
        · rw [if_pos z] at h
          refine ⟨u + 1, by omega, h, fun i hi => ?_, ⟨false, swB_t z, ?_⟩, ?_⟩
          · show (if i ≤ p then (u : Int) else ldB c (if u < c then u + 1 else u) bs (p + 1) i) = _
            rw [if_neg (by omega), if_pos z]
          · rw [cB_f]
            unfold stC
            omega
          · unfold stL
            omega
        · rw [if_neg z] at h
          refine ⟨u, hu, h, fun i hi => ?_, ⟨true, swB_tf z, ?_⟩, ?_⟩
          · show (if i ≤ p then (u : Int) else ldB c (if u < c then u + 1 else u) bs (p + 1) i) = _
            rw [if_neg (by omega), if_neg z]
          · rw [cB_t]
            unfold stC
            omega
          · unfold stL
            omega
      | false =>
        have h : fin c (u - 1) bs = 0 := h
        rw [cB_f]
        refine ⟨u - 1, by omega, h, fun i hi => ?_, ?_, ?_⟩
        · show (if i ≤ p then (u : Int) else ldB c (u - 1) bs (p + 1) i) = _
          rw [if_neg (by omega)]
        · by_cases z : 0 < u
          · refine ⟨true, swB_f z, ?_⟩
            rw [cB_t]
            unfold stC
            omega
          · obtain rfl : u = 0 := by omega
            refine ⟨false, swB_z, ?_⟩
            rw [cB_f]
            unfold stC
            omega
        · unfold stL
          omega
    obtain ⟨b', e4, e6⟩ := e4
    rw [e4]
    by_cases z : i = p
    · subst z
      rw [ldB_le (Int.le_refl i), e3 (i + 1) (by omega), ldB_le (Int.le_refl _), e6, ← e5]
      exact ⟨by omega, by omega, rfl, rfl⟩
    · have lt : p < i := by omega
      rw [e3 i lt, e3 (i + 1) (by omega), cB_n b' _ lt, cB_n b _ lt]
      exact sw_at c1 bs u' (p + 1) e1 e2 i (by omega)
theorem sw_bits {c : Nat} (c1 : 1 ≤ c) {bs : List Bool} {p : Int} (h : fin c 0 bs = 0) : Sw [] c (ones (pos bs p)) (ones (pos (swB c 0 bs) p)) := by
  refine ⟨ldB c 0 bs p, ⟨p, fun i hi => ldB_le hi⟩, ⟨p + bs.length, fun i hi => ldB_hi bs 0 p i h hi⟩, fun i => ?_⟩
  rw [cnt_ones, cnt_ones]
  show 0 ≤ _ ∧ _ ∧ _ = stC c _ 1 _ ∧ _ = stL c _ 1 _
  by_cases z : p ≤ i
  · exact sw_at c1 bs 0 p (Nat.zero_le c) h i z
  · have n : ∀ bs : List Bool, cB (pos bs p) i = 0 := fun bs => if_neg fun m => z (pos_ge bs p i m)
    rw [ldB_le (by omega), ldB_le (by omega), n, n]
    refine ⟨by omega, by omega, ?_, ?_⟩
    · unfold stC
      omega
    · unfold stL
      omega
theorem swB_0 : ∀ bs : List Bool, swB 0 0 bs = bs
  | [] => rfl
  | true :: bs => by rw [swB_tf (Nat.lt_irrefl 0), swB_0 bs]
  | false :: bs => by rw [swB_z, swB_0 bs]
/-- L' is L after a sweep of a carrier of the capacity c, or L if there is none -/
structure TL (c : Nat) (L L' : List Int) : Prop where
  a : L.Pairwise (· < ·)
  b : L'.Pairwise (· < ·)
  none : c = 0 → L' = L
  sw : 1 ≤ c → Sw [] c (ones L) (ones L')
theorem sw_uni {c : Int} {ks ps qs qs' : List (Int × Int)} (a : Asc qs) (b : Asc qs') (o : ∀ p ∈ qs, 1 ≤ p.2) (o' : ∀ p ∈ qs', 1 ≤ p.2) (h : Sw ks c ps qs) (h' : Sw ks c ps qs') : qs = qs' := by
  obtain ⟨l, ⟨a0, ha⟩, _, st⟩ := h
  obtain ⟨l', ⟨a', ha'⟩, _, st'⟩ := h'
  have eq : ∀ i, l i = l' i := by
    intro i
    by_cases z : i ≤ min a0 a'
    · rw [ha i (by omega), ha' i (by omega)]
    · refine up_from (P := fun i => l i = l' i) (min a0 a') (by rw [ha _ (by omega), ha' _ (by omega)]) (fun j _ e => ?_) i (by omega)
      rw [(st j).2.2.2, (st' j).2.2.2, e]
  exact cnt_eq a b o o' fun i => by rw [(st i).2.2.1, (st' i).2.2.1, eq]
theorem ones_one (L : List Int) : ∀ p ∈ ones L, 1 ≤ p.2 := fun p m => by
  obtain ⟨y, _, rfl⟩ := List.mem_map.mp m
  exact Int.le_refl 1
theorem swL_one {c : Int} {L L' L'' : List Int} (a : L'.Pairwise (· < ·)) (b : L''.Pairwise (· < ·)) (h : Sw [] c (ones L) (ones L')) (h' : Sw [] c (ones L) (ones L'')) : L' = L'' := by
  have := sw_uni (ones_asc a) (ones_asc b) (ones_one _) (ones_one _) h h'
  rw [← ones_fst L', this, ones_fst]
theorem low_ex {L : List Int} (a : L.Pairwise (· < ·)) : ∃ p, ∀ y ∈ L, p ≤ y := by
  cases L with
  | nil => exact ⟨0, fun _ m => nomatch m⟩
  | cons x xs => exact ⟨x, fun y m => by
      rcases List.mem_cons.mp m with rfl | m
      · exact Int.le_refl _
      · exact Int.le_of_lt ((List.pairwise_cons.mp a).1 y m)⟩
theorem bk_len : ∀ w : List Lx, (bk w).length ≤ w.length
  | [] => Nat.le_refl _
  | .z :: w => Nat.succ_le_succ (bk_len w)
  | .o :: w => Nat.succ_le_succ (bk_len w)
  | .m :: w => Nat.le_succ_of_le (bk_len w)
theorem bw_len : ∀ w : List Lx, (bw w).length ≤ 2 * w.length
  | [] => Nat.le_refl _
  | .z :: w => by
    have := bw_len w
    show (bw w).length + 1 ≤ 2 * (w.length + 1)
    omega
  | .o :: w => by
    have := bw_len w
    show (bw w).length + 1 ≤ 2 * (w.length + 1)
    omega
  | .m :: w => by
    have := bw_len w
    show (bw w).length + 1 + 1 ≤ 2 * (w.length + 1)
    omega
theorem ofs_word {w : List Lx} {p : Int} (g : gdB w = true) : ofs (pos (bw w) p) = less (marks w p) (ends false (bk w) p) := by
  unfold ofs
  rw [cut_word w p 0 g, show p - 2 * 0 = p by omega, (ends_pos (bk w) p).1]
theorem up_map {l : List Int} (h : l.Pairwise (· ≤ ·)) (a : Int) : (l.map (· + a)).Pairwise (· ≤ ·) := List.pairwise_map.mpr (h.imp fun {x y} z => by omega)
theorem count_add (a x : Int) : ∀ l : List Int, (l.map (· + a)).count x = l.count (x - a)
  | [] => rfl
  | y :: l => by
    rw [List.map_cons, List.count_cons, List.count_cons, count_add a x l]
    by_cases h : y = x - a
    · subst h
      rw [show x - a + a = x by omega]
      simp
    · have h1 : ((y + a) == x) = false := by
        rw [beq_eq_false_iff_ne]
        omega
      have h2 : (y == x - a) = false := by simpa using h
      rw [h1, h2]
theorem rends_shift (a : Int) : ∀ M : List Int, rends (M.map (· + a)) = (rends M).map (· + a)
  | [] => rfl
  | y :: M => by
    rw [List.map_cons, rends_cons, rends_cons, rends_shift a M]
    have hh : ((M.map (· + a)).head? = some (y + a + 1)) ↔ (M.head? = some (y + 1)) := by
      rw [List.head?_map]
      cases M.head? with
      | none => exact ⟨(fun z => nomatch z), fun z => nomatch z⟩
      | some q =>
        show some (q + a) = some (y + a + 1) ↔ _
        constructor
        · intro z
          have := Option.some.inj z
          congr 1
          omega
        · intro z
          have := Option.some.inj z
          congr 1
          omega
    by_cases z : M.head? = some (y + 1)
    · rw [if_pos z, if_pos (hh.mpr z)]
    · rw [if_neg z, if_neg fun q => z (hh.mp q), List.map_cons, show y + a + 1 = y + 1 + a by omega]
theorem cut_TL {c : Nat} (c1 : 1 ≤ c) {L L' : List Int} (h : TL c L L') : ∃ K, TL (c - 1) (cutL L 0).1 K ∧ (cutL L' 0).1 = K.map (· + 1) ∧ ofs L' = (ofs L).map (· + 1) ∧ L'.length = L.length := by
  obtain ⟨p, hp⟩ := low_ex h.a
  obtain ⟨w, g, e, _⟩ := word_ex L p h.a hp
  have k1 : 0 + w.length + 1 ≤ 2 * w.length + 1 := by omega
  obtain ⟨out, r, mk⟩ := (sim c1 (2 * w.length + 1) w g).1 0 (Nat.zero_le c) (fun z => absurd z (Nat.lt_irrefl 0)) k1
  have d0 := dec0 c1
  rw [min0, d0] at r mk
  generalize hW : w ++ zs (2 * w.length + 1) = W at r mk
  have gW : gdB W = true := by rw [← hW]; exact gd_app _ g
  have eW : pos (bw W) p = L := by
    rw [← hW, bw_app, bw_zs, pos_app]
    exact e
  have fW : fin c 0 (bw W) = 0 := by
    rw [← hW, bw_app, bw_zs]
    exact fin_zero _ 0 (by have := bw_len w; omega)
  have fK : fin (c - 1) 0 (bk W) = 0 := by
    rw [← hW, bk_app, bk_zs]
    exact fin_zero _ 0 (by have := bk_len w; omega)
  have bits : bw out = swB c 0 (bw W) := r.bits
  have eL : L' = pos (bw out) p := by
    refine swL_one h.b (pos_asc _ _) (h.sw c1) ?_
    rw [bits, ← eW]
    exact sw_bits c1 fW
  have kp : pos (bk out) p = pos (swB (c - 1) 0 (bk W)) (p + 1) := by
    have h1 := pos_app 1 (bk out) p
    have h2 : bk out ++ List.replicate 1 false = false :: swB (c - 1) 0 (bk W) := r.kept
    rw [h2] at h1
    exact h1.symm
  have cL : cutL L 0 = (pos (bk W) p, marks W p) := by
    rw [← eW, cut_word W p 0 gW, show p - 2 * 0 = p by omega]
  have cL' : cutL L' 0 = (pos (bk out) p, marks out p) := by
    rw [eL, cut_word out p 0 r.gd, show p - 2 * 0 = p by omega]
  refine ⟨pos (swB (c - 1) 0 (bk W)) p, ⟨?_, pos_asc _ _, fun z => ?_, fun z => ?_⟩, ?_, ?_, ?_⟩
  · rw [cL]
    exact pos_asc _ _
  · rw [cL, z, swB_0]
  · rw [cL]
    exact sw_bits z fK
  · rw [cL', kp, pos_shift]
  · have o1 : ofs L' = less (marks out p) (ends false (bk out) p) := by rw [eL]; exact ofs_word r.gd
    have o2 : ofs L = less (marks W p) (ends false (bk W) p) := by rw [← eW]; exact ofs_word gW
    have e1 : ends false (bk out) p = ends false (swB (c - 1) 0 (bk W)) (p + 1) := by rw [(ends_pos _ _).1, kp, ← (ends_pos _ _).1]
    rw [o1, o2]
    refine up_eq ((marks_up out p).sublist (less_sub _ _)) (up_map ((marks_up W p).sublist (less_sub _ _)) 1) fun x => ?_
    have hc := mk (p + 1) x
    have hd : decide (0 < 0) = false := rfl
    rw [hd] at hc
    simp only [cond_false] at hc
    rw [show p + 1 - 1 = p by omega] at hc
    rw [less_count, e1]
    have cm : ((less (marks W p) (ends false (bk W) p)).map (· + 1)).count x = (less (marks W p) (ends false (bk W) p)).count (x - 1) := count_add 1 x _
    rw [cm, less_count]
    have m1 : (marks W (p + 1)).count x = (marks W p).count (x - 1) := by
      rw [marks_shift]
      exact count_add 1 x _
    have m2 : (ends false (bk W) (p + 1)).count x = (ends false (bk W) p).count (x - 1) := by
      rw [(ends_pos _ _).1, (ends_pos _ _).1, pos_shift]
      rw [rends_shift]
      exact count_add 1 x _
    rw [m1, m2] at hc
    have le1 := (ends_le W gW p (x - 1)).1
    have le2 := (ends_le out r.gd p x).1
    rw [e1] at le2
    omega
  · have := len_sw (c := c) (bw W) 0 p
    rw [fW, eW, ← bits, ← eL] at this
    omega
end SR
set_option Elab.async false
set_option linter.all false
set_option maxRecDepth 100000
set_option maxHeartbeats 1000000
namespace SR
open PySem PySem.Spec PyProof.Rows L2
/-- all indexes moved -/
def mv (k : Int) (ps : List (Int × Int)) : List (Int × Int) := ps.map fun p => (p.1 + k, p.2)
def lo (i : Int) (ps : List (Int × Int)) : List (Int × Int) := ps.filter fun p => decide (p.1 ≤ i)
def hi (i : Int) (ps : List (Int × Int)) : List (Int × Int) := ps.filter fun p => decide (i < p.1)
section
variable {idx c : Int} {cs ns rest : List (Int × Int)}
open Classical in
noncomputable def fn1 (back : Bool) (idx c : Int) (ns : List (Int × Int)) : List (Int × Int) := if v : Vd ns [(idx, c)] then (Fn (c, back) (⟨ns, v⟩ : Rws [(idx, c)])).1 else []
end
end SR
set_option Elab.async false
set_option linter.all false
set_option maxRecDepth 100000
set_option maxHeartbeats 1000000
namespace SR
open PySem PySem.Spec PyProof.Rows L2
/-- the wide box at idx is shifted out | in -/
noncomputable def outBox (idx c : Int) (cs : List (Int × Int)) : List (Int × Int) := mv 1 (fn1 true idx c (lo idx cs)) ++ hi idx cs
/-- the plain form, and the row with these boxes whose plain form it is -/
noncomputable def plainF (ks cs : List (Int × Int)) : List (Int × Int) := ks.foldl (fun cs k => outBox k.1 k.2 cs) cs
/-- boxes that a row may have -/
structure KsOk (ks : List (Int × Int)) : Prop where
  ak : Asc ks
  kl : ks.length ≤ 6
  ko : ∀ p ∈ ks, sizeOk p
theorem Vd.ks {ps ks : List (Int × Int)} (v : Vd ps ks) : KsOk ks := ⟨v.ak, v.ok.kl, v.ok.ko⟩
end SR
set_option Elab.async false
set_option linter.all false
set_option maxRecDepth 100000
set_option maxHeartbeats 2000000
set_option Elab.async false
set_option linter.all false
set_option maxRecDepth 100000
set_option maxHeartbeats 1000000
namespace SR
open PySem PySem.Spec PyProof.Rows L2
/-- what a box is shifted out by -/
structure Ldr (cs q : List (Int × Int)) (ld : Int → Int) (w c : Int) : Prop where
  bd : ∀ i, 0 ≤ ld i ∧ ld i ≤ c
  st : ∀ i, i < w → cnt cs i = stC c (ld i) 1 (cnt q i) ∧ ld (i + 1) = stL c (ld i) 1 (cnt q i)
  q1 : ∀ i, i < w → 0 ≤ cnt q i ∧ cnt q i ≤ 1
  top : ld w = cnt cs w
  cs0 : ∀ i, 0 ≤ cnt cs i
  out : ∀ i, cnt (outBox w c cs) i = if i ≤ w then cnt q (i - 1) else cnt cs i
  c1 : 1 ≤ c
structure Wk (cs q : List (Int × Int)) (ld : Int → Int) (w c B : Int) (n0 : Int) (fs : List (Int × Int)) (x pl : Int) : Prop where
  nd : (fs.map Prod.fst).Nodup
  le : pl ≤ w
  xe : x = ld pl
  up : ∀ i, w < i → cnt fs i = cnt cs i
  mid : ∀ i, pl < i → i ≤ w → cnt fs i = cnt q (i - 1)
  dn : ∀ i, i < pl → cnt fs i = cnt cs i
  z : cnt fs pl = 0
  j : pl ≤ B → B - pl + x ≤ c
  len : (fs.length : Int) ≤ n0 + (w - pl)
section
variable {cs q fs : List (Int × Int)} {ld : Int → Int} {w c B n0 x pl : Int}
theorem Wk.stop (L : Ldr cs q ld w c) (k : Wk cs q ld w c B n0 fs x pl) (x0 : x ≤ 0) (no : ∀ i, i < pl → cnt fs i ≤ 0) : (∀ i, cnt fs i = cnt (outBox w c cs) i) ∧ (∀ i, i ≤ B - c → cnt (outBox w c cs) i = 0) ∧ B - c ≤ pl := by
  have le := k.le
  have csz : ∀ i, i < pl → cnt cs i = 0 := fun i l => by
    have a := no i l
    rw [k.dn i l] at a
    have := L.cs0 i
    omega
  have xz : ld pl = 0 := by
    have := (L.bd pl).1
    have := k.xe
    omega
  have keep : ∀ i, i < w → ld i + cnt q i = cnt cs i + ld (i + 1) := fun i l => by
    obtain ⟨e1, e2⟩ := L.st i l
    rw [e1, e2]
    unfold stC stL
    omega
  have lz : ∀ i, i ≤ pl → ld i = 0 := by
    refine down_from (P := fun i => ld i = 0) pl xz fun i lt ih => ?_
    have a := keep i (by omega)
    have b := csz i lt
    have d := (L.bd i).1
    have e := (L.q1 i (by omega)).1
    omega
  have qz : ∀ i, i < pl → cnt q i = 0 := fun i l => by
    have a := keep i (by omega)
    have b := csz i l
    have d := lz i (by omega)
    have e := lz (i + 1) (by omega)
    omega
  have all : ∀ i, cnt fs i = cnt (outBox w c cs) i := fun i => by
    rw [L.out]
    by_cases l : i ≤ w
    · rw [if_pos l]
      by_cases l2 : pl < i
      · exact k.mid i l2 l
      · rw [qz (i - 1) (by omega)]
        by_cases e : i = pl
        · rw [e]
          exact k.z
        · rw [k.dn i (by omega)]
          exact csz i (by omega)
    · rw [if_neg l]
      exact k.up i (by omega)
  have c1 := L.c1
  have pb : B - c ≤ pl := by
    by_cases l : pl ≤ B
    · have := k.j l
      have := (L.bd pl).1
      have := k.xe
      omega
    · omega
  refine ⟨all, fun i l => ?_, pb⟩
  rw [L.out, if_pos (by omega)]
  exact qz _ (by omega)
end
end SR
set_option Elab.async false
set_option linter.all false
set_option maxRecDepth 100000
set_option maxHeartbeats 1000000
set_option Elab.async false
set_option linter.all false
set_option maxRecDepth 100000
set_option maxHeartbeats 1000000
set_option Elab.async false
set_option linter.all false
set_option maxRecDepth 100000
set_option maxHeartbeats 1000000
namespace SR
open PySem PySem.Spec PyProof.Rows L2
/-- the trains from the length k on, L what is left of the row -/
def tr : Nat → Int → List Int → List (Int × Int)
  | 0, _, _ => []
  | f + 1, k, L => if L = [] then [] else (ofs L).map (fun b => (k, b)) ++ tr f (k + 1) (cutL L 0).1
theorem ofs_shift (a : Int) (L : List Int) : ofs (L.map (· + a)) = (ofs L).map (· + a) := by
  unfold ofs
  rw [cutL_shift]
  show less ((cutL L 0).2.map (· + a)) (rends ((cutL L 0).1.map (· + a))) = _
  rw [rends_shift]
  have key : ∀ (E B : List Int), less (B.map (· + a)) (E.map (· + a)) = (less B E).map (· + a) := by
    intro E
    induction E with
    | nil => exact fun _ => rfl
    | cons e E ih =>
      intro B
      show less ((B.map (· + a)).erase (e + a)) (E.map (· + a)) = (less (B.erase e) E).map (· + a)
      rw [← ih]
      congr 1
      induction B with
      | nil => rfl
      | cons y B ih2 =>
        rw [List.map_cons, List.erase_cons, List.erase_cons]
        by_cases h : y = e
        · subst h
          simp
        · have h1 : (y == e) = false := by simpa using h
          have h2 : (y + a == e + a) = false := by
            rw [beq_eq_false_iff_ne]
            omega
          rw [h1, h2]
          simp only [Bool.false_eq_true, if_false, List.map_cons]
          rw [ih2]
  exact key _ _
theorem tr_shift (a : Int) : ∀ (f : Nat) (k : Int) (L : List Int), tr f k (L.map (· + a)) = (tr f k L).map fun t => (t.1, t.2 + a)
  | 0, _, _ => rfl
  | f + 1, k, L => by
    show (if L.map (· + a) = [] then _ else _) = (if L = [] then _ else _ : List (Int × Int)).map _
    by_cases z : L = []
    · subst z
      rfl
    · rw [if_neg z, if_neg fun q => z (List.map_eq_nil_iff.mp q), cutL_shift, ofs_shift]
      show _ ++ tr f (k + 1) ((cutL L 0).1.map (· + a)) = _
      rw [tr_shift a f (k + 1), List.map_append, List.map_map, List.map_map]
      rfl
theorem map_same {α β : Type} {f g : α → β} {l : List α} (h : ∀ x ∈ l, f x = g x) : l.map f = l.map g := List.map_congr_left h
/-- the trains of a plain row -/
def trL (L : List Int) : List (Int × Int) := tr L.length 1 L
theorem TL.len {c : Nat} {L L' : List Int} (h : TL c L L') : L'.length = L.length := by
  cases c with
  | zero => rw [h.none rfl]
  | succ c =>
    obtain ⟨_, _, _, _, e⟩ := cut_TL (Nat.succ_pos c) h
    exact e
end SR
set_option Elab.async false
set_option linter.all false
set_option maxRecDepth 100000
set_option maxHeartbeats 1000000
namespace SR
open PySem PySem.Spec PyProof.Rows L2
/-- the offsets of the trains of one length -/
def bg (ts : List (Int × Int)) (j : Int) : List Int := (ts.filter fun t => decide (t.1 = j)).map Prod.snd
theorem vd_ones {cs : List (Int × Int)} (v : Vd cs []) : cs = ones (cs.map Prod.fst) := ones_of fun p m => by
  have a := v.ok.po p m
  have b : p.2 ≤ 1 := a.2
  omega
theorem vd_asc {cs ks : List (Int × Int)} (v : Vd cs ks) : (cs.map Prod.fst).Pairwise (· < ·) := List.pairwise_map.mpr v.ap
/-- the places of the plain form -/
noncomputable def plL {ks : List (Int × Int)} (p : Rws ks) : List Int := (plainF ks p.1).map Prod.fst
/-- the trains of any row -/
noncomputable def trP {ks : List (Int × Int)} (p : Rws ks) : List (Int × Int) := trL (plL p)
end SR
set_option Elab.async false
set_option linter.all false
set_option maxRecDepth 100000
set_option maxHeartbeats 1000000
namespace SR
open PySem PySem.Spec PyProof.Rows L2
/-- a list of pairs -/
def PairsL (H : Hp) (D : Addr) (ps : List (Int × Int)) : Prop := ∃ us : List Addr, H D = some (.lst (us.map V.ref)) ∧ Paired (TupAt H) us ps
theorem PairsL.same {H H' : Hp} {D : Addr} {ps : List (Int × Int)} (s : Same H H') (h : PairsL H D ps) : PairsL H' D ps := let ⟨us, h1, h2⟩ := h; ⟨us, s _ _ h1, paired_imp (fun _ _ z => s _ _ z) h2⟩
theorem PairsL.at {K : PySem.W.Frag} {H : Hp} {D : Addr} {ps : List (Int × Int)} (h : PairsL H D ps) : PairsAt K H D ps := let ⟨us, h1, h2⟩ := h; ⟨us, .inl (SqL.of h1), h2⟩
theorem vd_len {ps ks : List (Int × Int)} (v : Vd ps ks) : ps.length ≤ 40 := by
  have a := len_sum (fun p m => (v.ok.po p m).1)
  have b := v.ok.sm
  omega
end SR
set_option Elab.async false
set_option linter.all false
set_option maxRecDepth 100000
set_option maxHeartbeats 4000000
set_option Elab.async false
set_option linter.all false
set_option maxRecDepth 100000
set_option maxHeartbeats 4000000
namespace SR
open PySem PySem.Spec PyProof.Rows L2
theorem args_minD (a d : Value) : argsOk "min" ⟨[a], [(Str.ofString "default", d)]⟩ := by unfold argsOk; kernel_rfl
theorem nameNL : (toString "min" ++ toString ".loop" : String) = "min.loop" := by decide
section
variable {prog : Program} {w : World} {A : Around} {R : Result → Shared → Prop} {it : Addr} {fp wr : List Addr} {n : Nat} {P : Nat → Value → Prop} {St : Nat → Heap → Prop} {kw : List (Str × Value)}
/-- the walk behind the first item; kw is handed on -/
theorem mnd_more (W : PySem.Walks prog w A.in1 it fp wr n P St) (bt : Nat → Nat → Bool) (cmp : CmpOf prog w A.in1 .Lt P bt) (B : Addr) (nB : B ∉ fp) :
    ∀ (k j : Nat) (s : Shared) (best : Value) (c : Nat), n - (j + 1) = k → j + 1 ≤ n → St (j + 1) s.heap → P (argBest bt j) best → s.heap.get? B = some { cls := .type "list", dict := none, data := .seq #[best, best] c, slots := #[] } →
    (∀ v h' tk, P (argBest bt (n - 1)) v → (∀ b o, b ∉ wr → b ≠ B → s.heap.get? b = some o → h'.get? b = some o) → R (.ok (.ret v)) { s with heap := h', toks := tk }) →
    codeAny (model prog w) A (.builtin "min.loop" ⟨[.ref it, .none, .ref B], kw⟩) R s
  | 0, j, s, best, c, ek, lj, st, pb, hB, fin => by
    have nW : B ∉ wr := fun h => nB (W.sub _ h)
    have end_ : j + 1 = n := by omega
    refine codeAny_builtin (b := Builtin.«min.loop») PySem.F.entry_min_loop ?_
    rw [Around.under_plainId (id := "min.loop") PySem.F.plain_min_loop _]
    show wpAny _ A.in1 (seqItems? (.ref B) >>= _) _ _ s
    refine wpAny_bind (wpAny_seqItems hB rfl (wpAny_bind (wpAny_tryCatch (W.done s _ _ (end_ ▸ st) fun h1 tk k1 => ?_))))
    have hB1 := k1 B _ nW hB
    show wpAny _ A.in1 (updateSeq B (fun _ => #[]) >>= _) _ _ _
    refine wpAny_bind (wpAny_updateSeq hB1 rfl (wpAny_bind (wpAny_letGo (wpAny_pure ?_))))
    exact fin best _ tk (by rw [← end_]; exact pb) fun b o q1 q2 e => (Heap.get?_update_other _ _ (Ne.symm q2)).trans (k1 b o q1 e)
  | k + 1, j, s, best, c, ek, lj, st, pb, hB, fin => by
    have nW : B ∉ wr := fun h => nB (W.sub _ h)
    have more_ : j + 1 < n := by omega
    refine codeAny_builtin (b := Builtin.«min.loop») PySem.F.entry_min_loop ?_
    rw [Around.under_plainId (id := "min.loop") PySem.F.plain_min_loop _]
    show wpAny _ A.in1 (seqItems? (.ref B) >>= _) _ _ s
    refine wpAny_bind (wpAny_seqItems hB rfl (wpAny_bind (wpAny_tryCatch (W.item (j + 1) s _ _ more_ st fun v h1 tk pv st1 k1 => ?_))))
    have hB1 := k1 B _ nW hB
    show wpAny _ A.in1 (tryCatch (holding [v, v] (richCompare .Lt v best >>= _)) _ >>= _) _ _ _
    refine wpAny_bind (wpAny_tryCatch (wpAny_holding (wpAny_bind (cmp (j + 1) (argBest bt j) v best _ _ _ pv pb (wpAny_bind (wpAny_holding (wpAny_truthy_bool (wpAny_bind (wpAny_letGo (wpAny_pure ?_))))))))))
    cases q : bt (j + 1) (argBest bt j) with
    | true =>
      simp only [if_true]
      refine wpAny_bind (wpAny_updateSeq hB1 rfl (wpAny_bind (wpAny_letGo ?_)))
      rw [nameNL]
      refine wpAny_pure ⟨plainId_quiet PySem.F.plain_min_loop _, mnd_more W bt cmp B nB k (j + 1) _ v _ (by omega) more_ (W.frame _ _ _ st1 fun b hb o e => ?_) (by unfold argBest; rw [if_pos q]; exact pv) (Heap.get?_update_self _ hB1 rfl) fun v2 h2 tk2 pv2 k2 => ?_⟩
      · exact (Heap.get?_update_other _ _ (fun z : B = b => nB (by rw [z]; exact hb))).trans e
      · exact fin v2 h2 tk2 pv2 fun b o q1 q2 e => k2 b o q1 q2 ((Heap.get?_update_other _ _ (Ne.symm q2)).trans (k1 b o q1 e))
    | false =>
      simp only [Bool.false_eq_true, if_false]
      refine wpAny_bind (wpAny_letGo ?_)
      rw [nameNL]
      exact wpAny_pure ⟨plainId_quiet PySem.F.plain_min_loop _, mnd_more W bt cmp B nB k (j + 1) _ best c (by omega) more_ st1 (by unfold argBest; rw [if_neg (by rw [q]; exact Bool.false_ne_true)]; exact pb) hB1 fun v2 h2 tk2 pv2 k2 => fin v2 h2 tk2 pv2 fun b o q1 q2 e => k2 b o q1 q2 (k1 b o q1 e)⟩
end
section
variable {prog : Program} {w : World} {A : Around} {E : Value → Shared → Prop} {s : Shared} {l : Addr} {xs : Array (Int × Tok)} {d : Value}
theorem minD_ints {Q : Value → Shared → Prop} (hh : A.handled = none) (hl : s.heap.IsList l (intItems xs)) (h0 : xs.size = 0 → ∀ h' tk, (∀ b o, s.heap.get? b = some o → h'.get? b = some o) → Q d { s with heap := h', toks := tk })
    (h : 0 < xs.size → ∀ v h' tk, (intItems xs)[argBest (fun i j => decide (numAt xs i < numAt xs j)) (xs.size - 1)]? = some v → (∀ b o, s.heap.get? b = some o → h'.get? b = some o) → Q v { s with heap := h', toks := tk }) :
    wpAny (model prog w) A (call (.builtin "min") [.ref l] [(Str.ofString "default", d)]) Q E s := by
  refine kmb_tree PySem.F.kind_min PySem.F.plain_min PySem.F.entry_min (args_minD _ _) ?_
  show wpAny _ A.in1 (Builtin.Builtins.bindParams "min" ["key", "default"] 0 ⟨[], [(Str.ofString "default", d)]⟩ >>= _) _ _ s
  refine wpAny_bind (wpAny_of_eq (show Builtin.Builtins.bindParams "min" ["key", "default"] 0 ⟨[], [(Str.ofString "default", d)]⟩ = pure [none, some d] from rfl) ?_)
  refine wpAny_bind (wpAny_pure ?_)
  refine wpAny_bind (iter_intList hl fun s2 es st hfp hlI => ?_)
  subst es
  generalize hs2 : ({ s with heap := s.heap.push { cls := .type "list_iterator", data := .fields #[.ref l, .int 0 0] } } : Shared) = s2 at st hfp ⊢
  have W := PySem.Walks.list (prog := prog) (w := w) (A := A.in1) hh s.heap.objs.size l hlI (intItems xs)
  have sz : (intItems xs).size = xs.size := by simp [intItems]
  rw [sz] at W
  have old2 : ∀ b o, s.heap.get? b = some o → s2.heap.get? b = some o := fun b o e => by
    rw [← hs2]
    exact Heap.get?_push_of_some _ e
  have lt2 : ∀ b o, s.heap.get? b = some o → b ≠ s.heap.objs.size ∧ b ≠ s2.heap.objs.size := fun b o e => ⟨Nat.ne_of_lt (Heap.lt_size e), Nat.ne_of_lt (Heap.lt_size (old2 b o e))⟩
  refine wpAny_bind (wpAny_newList ?_ (Nat.zero_le _))
  rw [nameNL]
  have nB : s2.heap.objs.size ∉ [s.heap.objs.size, l] := fun m => Nat.lt_irrefl _ (hfp _ m)
  have hB : (s2.heap.push (seqObj "list" #[] 0)).get? s2.heap.objs.size = some (seqObj "list" #[] 0) := Heap.get?_push_size _ rfl
  have st3 : (s2.heap.push (seqObj "list" #[] 0)).IsListIter s.heap.objs.size l 0 ∧ (s2.heap.push (seqObj "list" #[] 0)).IsList l (intItems xs) := W.frame 0 _ _ st fun b _ o e => Heap.get?_push_of_some _ e
  refine wpAny_pure ⟨plainId_quiet PySem.F.plain_min_loop _, ?_⟩
  refine codeAny_builtin (b := Builtin.«min.loop») PySem.F.entry_min_loop ?_
  rw [Around.under_plainId (id := "min.loop") PySem.F.plain_min_loop _]
  show wpAny _ A.in1 (seqItems? (.ref s2.heap.objs.size) >>= _) _ _ _
  have nW : s2.heap.objs.size ∉ [s.heap.objs.size] := fun m => nB (by rw [List.mem_singleton.mp m]; exact List.mem_cons_self)
  have sEq : ∀ (h' : Heap) (tk : Nat), ({ s2 with heap := h', toks := tk } : Shared) = { s with heap := h', toks := tk } := fun h' tk => by rw [← hs2]
  by_cases z : xs.size = 0
  · refine wpAny_bind (wpAny_seqItems hB rfl (wpAny_bind (wpAny_tryCatch (W.done _ _ _ (by rw [z]; exact st3) fun h1 tk k1 => ?_))))
    have fin := h0 z h1 tk fun b o e => k1 b o (fun m => (lt2 b o e).1 (List.mem_singleton.mp m)) (Heap.get?_push_of_some _ (old2 b o e))
    rw [← sEq] at fin
    show wpAny (model prog w) A.in1 (rule _ >>= fun _ => (pure (PySem.Fin.done (.ret d)) : Sem PySem.Fin)) _ _ _
    refine wpAny_bind (wpAny_rule ?_)
    exact wpAny_pure fin
  · have pos : 0 < xs.size := Nat.pos_of_ne_zero z
    refine wpAny_bind (wpAny_seqItems hB rfl (wpAny_bind (wpAny_tryCatch (W.item 0 _ _ _ pos st3 fun v h1 tk pv st1 k1 => ?_))))
    have hB1 := k1 _ _ nW hB
    show wpAny _ A.in1 (updateSeq s2.heap.objs.size (fun _ => #[v, v]) >>= _) _ _ _
    refine wpAny_bind (wpAny_updateSeq hB1 rfl ?_)
    rw [nameNL]
    refine wpAny_pure ⟨plainId_quiet PySem.F.plain_min_loop _, mnd_more W (fun i j => decide (numAt xs i < numAt xs j)) (CmpOf.ints_lt (numAt xs) (fun _ _ => intItems_at)) s2.heap.objs.size nB _ 0 _ v _ rfl pos (W.frame _ _ _ st1 fun b hb o e => ?_) pv (Heap.get?_update_self _ hB1 rfl) fun v2 h2 tk2 pv2 k2 => ?_⟩
    · exact (Heap.get?_update_other _ _ (fun q : s2.heap.objs.size = b => nB (by rw [q]; exact hb))).trans e
    · have fin := h pos v2 h2 tk2 (by simpa [intItems] using pv2) fun b o e => k2 b o (fun m => (lt2 b o e).1 (List.mem_singleton.mp m)) (lt2 b o e).2 ((Heap.get?_update_other _ _ (Ne.symm (lt2 b o e).2)).trans (k1 b o (fun m => (lt2 b o e).1 (List.mem_singleton.mp m)) (Heap.get?_push_of_some _ (old2 b o e))))
      rw [← sEq] at fin
      exact fin
end
def rMinDf (K : PySem.W.Frag) : List V → List V → Hp → VK → Prop := fun vs zs H Q => ∃ (a : Addr) (ns : List Int) (d : Int), vs = [V.ref a] ∧ zs = [.int d] ∧ SqL K H a (ns.map V.int) ∧ (ns = [] → Q (.int d) H) ∧ ∀ m, m ∈ ns → (∀ y ∈ ns, m ≤ y) → Q (.int m) H
theorem cr_minDf {X : Cx} (hc : X.calm = true) : CallRK X (.builtin "min") [Str.ofString "default"] (rMinDf X.K) := by
  intro pins s σ H vs zs us ws Q I r rz h
  obtain ⟨a, ns, d, rfl, rfl, hs, q0, q⟩ := h
  obtain ⟨its, rv, hl, _⟩ := I.list hs
  obtain rfl := Vals.ref1 r
  obtain ⟨w1, rfl, td, e1⟩ := vals1 rz
  subst e1
  have hi := rv.ints
  obtain ⟨xs, e⟩ := hi.allInts.items
  have hn : numsOf (intItems xs).toList = ns := by rw [← e]; exact hi.numsOf
  rw [nums_intItems] at hn
  subst hn
  have hl' : s.heap.IsList a (intItems xs) := by rw [← e]; exact hl.isList
  refine minD_ints (I.ok.hd hc) hl' (fun z h' tk k => ⟨.int d, H, I.kept k, ⟨_, rfl⟩, q0 ?_⟩) fun pos v h' tk hv k => ?_
  · exact List.length_eq_zero_iff.mp (by simpa using z)
  · obtain ⟨t, rfl⟩ := intItems_at hv
    obtain ⟨h1, h2⟩ := argBest_lt (numAt xs) (xs.size - 1)
    refine ⟨.int _, H, I.kept k, ⟨_, rfl⟩, q _ ?_ fun y m => ?_⟩
    · rw [numAt_eq]
      exact PySem.getD_mem (by rw [List.length_map, Array.length_toList]; omega)
    · obtain ⟨j, hj, rfl⟩ := mem_getD m
      rw [List.length_map, Array.length_toList] at hj
      rw [← numAt_eq]
      exact h2 j (by omega)
end SR
set_option Elab.async false
set_option linter.all false
set_option maxRecDepth 100000
set_option maxHeartbeats 1000000
namespace SR
open PySem PySem.Spec PyProof.Rows L2
/-- all but the dict at F stays -/
theorem SameBut.tr {F : Addr} {H H1 H2 : Hp} (a : SameBut F H H1) (b : SameBut F H1 H2) : SameBut F H H2 := fun x o ne h => b x o ne (a x o ne h)
end SR
set_option Elab.async false
set_option linter.all false
set_option maxRecDepth 100000
set_option maxHeartbeats 1000000
set_option Elab.async false
set_option linter.all false
set_option maxRecDepth 100000
set_option maxHeartbeats 1000000
set_option Elab.async false
set_option linter.all false
set_option maxRecDepth 100000
set_option maxHeartbeats 4000000
namespace SR
open PySem PySem.Spec PyProof.Rows L2
section
variable {K : PySem.W.Frag} {C B : Addr} {ks : List (Int × Int)} {p : Rws ks}
/-- the rows on the way -/
inductive Way (K : PySem.W.Frag) (C : Addr) {ks : List (Int × Int)} (p : Rws ks) (H : Hp) : List Addr → List (Int × Bool) → Prop where
  | nil : Way K C p H [] []
  | snoc {ts : List Addr} {l : List (Int × Bool)} {t a : Addr} {s : Int × Bool} (w : Way K C p H ts l) (h : H t = some (.tup [.ref a, .int s.1, .bl s.2])) (row : RowAt K C H a (FnL l p).1 ks) (c : 1 ≤ s.1 ∧ s.1 ≤ 99) : Way K C p H (ts ++ [t]) (l ++ [s])
theorem Way.len {H : Hp} {ts : List Addr} {l : List (Int × Bool)} (w : Way K C p H ts l) : ts.length = l.length := by
  induction w with
  | nil => rfl
  | snoc _ _ _ _ ih => rw [List.length_append, List.length_append, ih]; rfl
theorem Way.same {H H' : Hp} {ts : List Addr} {l : List (Int × Bool)} (w : Way K C p H ts l) (s : Same H H') : Way K C p H' ts l := by
  induction w with
  | nil => exact .nil
  | snoc _ h row c ih => exact .snoc ih (s _ _ h) (row.same s) c
theorem Way.kp {H H' : Hp} {d g c : Addr} {b : Nat} {ts : List Addr} {l : List (Int × Bool)} (w : Way K C p H ts l) (S : StB H d g c b) (k : Kp d g H H') : Way K C p H' ts l := by
  induction w with
  | nil => exact .nil
  | snoc _ h row c ih => exact .snoc ih (kp_at S k h (fun _ z => nomatch z) fun _ _ z => nomatch z) (row.kp S k) c
theorem Way.but {H H' : Hp} {so : Addr} {xs : List V} {ts : List Addr} {l : List (Int × Bool)} (w : Way K C p H ts l) (hs : H so = some (.lst xs)) (k : SameBut so H H') : Way K C p H' ts l := by
  induction w with
  | nil => exact .nil
  | snoc _ h row c ih => exact .snoc ih (k _ _ (fun z => by rw [z, hs] at h; cases h) h) (row.but hs k) c
end
end SR
set_option Elab.async false
set_option linter.all false
set_option maxRecDepth 100000
set_option maxHeartbeats 4000000
set_option Elab.async false
set_option linter.all false
set_option maxRecDepth 100000
set_option maxHeartbeats 4000000
set_option Elab.async false
set_option linter.all false
set_option maxRecDepth 100000
set_option maxHeartbeats 1000000
set_option Elab.async false
set_option linter.all false
set_option maxRecDepth 100000
set_option maxHeartbeats 1000000
set_option Elab.async false
set_option linter.all false
set_option maxRecDepth 100000
set_option maxHeartbeats 1000000
set_option Elab.async false
set_option linter.all false
set_option maxRecDepth 100000
set_option maxHeartbeats 1000000
namespace SR
open PySem PySem.Spec PyProof.Rows L2
/-- a method that may raise -/
structure MetX (P : Program) (w : World) (K : PySem.W.Frag) (mg : Str → Option Value) (base : Heap) (CX : CXT) (k : Nat) (C : Addr) (m : Str) (sp : Sp) (dvs : List V) : Prop where
  ex : ∃ (f : Addr) (fd : FuncData) (ps : List Str) (ds : List Value), Cls K C ∧ Meth K C m f ∧ FnOk P w K mg base CX k f fd ps sp ∧ Binds K fd ps ds ∧ Vals dvs ds
theorem MetX.weak {P : Program} {w : World} {K : PySem.W.Frag} {mg : Str → Option Value} {base : Heap} {CX : CXT} {k : Nat} {C : Addr} {m : Str} {sp sp' : Sp} {dvs : List V} (c : MetX P w K mg base CX k C m sp dvs) (h : ∀ vs H Q E, sp' vs H Q E → sp vs H Q E) : MetX P w K mg base CX k C m sp' dvs := by
  obtain ⟨f, fd, ps, ds, h1, h2, F, h4, h5⟩ := c.ex
  exact ⟨f, fd, ps, ds, h1, h2, F.imp h, h4, h5⟩
end SR
set_option Elab.async false
set_option linter.all false
set_option maxRecDepth 100000
set_option maxHeartbeats 4000000
set_option Elab.async false
set_option linter.all false
set_option maxRecDepth 100000
set_option maxHeartbeats 4000000
set_option Elab.async false
set_option linter.all false
set_option maxRecDepth 100000
set_option maxHeartbeats 1000000
namespace SR
open PySem PySem.Spec PyProof.Rows L2
section
variable {K : PySem.W.Frag} {B C : Addr} {N N2 N3 : L2.St → Hp → Prop} {R : VK}
/-- what is no list stays -/
theorem RowAt.lst {H H' : Hp} {O x : Addr} {xs : List V} {ps ks : List (Int × Int)} (row : RowAt K C H x ps ks) (hO : H O = some (.lst xs)) (k : SameBut O H H') : RowAt K C H' x ps ks := by
  have kp : ∀ {a : Addr} {o : HO}, H a = some o → (∀ ys, o ≠ .lst ys) → H' a = some o := fun {a o} h n => k _ _ (fun z => by
    rw [z, hO] at h
    exact n xs (Option.some.inj h).symm) h
  obtain ⟨dx, c0, k0, d0, e, ps0, ks0, h1, ⟨t1, h2, h3⟩, ⟨t2, h4, h5⟩, h6, h7, h8⟩ := row
  have tp : ∀ {t : Addr} {p : Int × Int}, TupAt H t p → TupAt H' t p := fun {t p} z => kp (o := .tup [.int p.1, .int p.2]) z (fun _ z => nomatch z)
  refine ⟨dx, c0, k0, d0, e, ps0, ks0, kp h1 (fun _ z => nomatch z), ⟨t1, ?_, paired_imp (fun _ _ z => tp z) h3⟩, ⟨t2, ?_, paired_imp (fun _ _ z => tp z) h5⟩, kp h6 (fun _ z => nomatch z), kp h7 (fun _ z => nomatch z), h8⟩
  · obtain ⟨o, a1, a2⟩ := h2
    exact ⟨o, kp a1 (fun _ z => nomatch z), a2⟩
  · obtain ⟨o, a1, a2⟩ := h4
    exact ⟨o, kp a1 (fun _ z => nomatch z), a2⟩
end
end SR
set_option Elab.async false
set_option linter.all false
set_option maxRecDepth 100000
set_option maxHeartbeats 1000000
set_option Elab.async false
set_option linter.all false
set_option maxRecDepth 100000
set_option maxHeartbeats 4000000
namespace SR
open PySem PySem.Spec PyProof.Rows L2
def wbB (p : Int × Int) : Bool := btw (-60) 60 (.int p.1) && btw 2 9 (.int p.2)
theorem wbB_ok {p : Int × Int} : wbB p = true ↔ sizeOk p := by
  unfold wbB
  rw [Bool.and_eq_true]
  constructor
  · rintro ⟨h1, h2⟩
    obtain ⟨i, e1, b1⟩ := btw_iff.mp h1
    obtain ⟨c, e2, b2⟩ := btw_iff.mp h2
    cases e1
    cases e2
    exact ⟨b1, b2⟩
  · rintro ⟨h1, h2⟩
    exact ⟨btw_iff.mpr ⟨_, rfl, h1⟩, btw_iff.mpr ⟨_, rfl, h2⟩⟩
/-- no pairs at all, or the same first twice -/
inductive OddP (K : PySem.W.Frag) (H : Hp) : V → Prop where
  | kind {v : V} {t : String} (h : AnyT K H v t) (h1 : (t == "list") = false) (h2 : (t == "tuple") = false) : OddP K H v
  | elem {a : Addr} {x : V} {o : Option (List V)} (h : SqL K H a [x]) (hx : Val2 K H x o) (ho : pairO o = false) : OddP K H (.ref a)
  | dup {a t1 t2 : Addr} {i m n : Int} (h : SqL K H a [.ref t1, .ref t2]) (h1 : TupAt H t1 (i, m)) (h2 : TupAt H t2 (i, n)) : OddP K H (.ref a)
inductive OddC (K : PySem.W.Frag) (H : Hp) : V → Prop where
  | odd {v : V} (h : OddP K H v) : OddC K H v
  | size {a t : Addr} {p : Int × Int} (h : SqL K H a [.ref t]) (h1 : TupAt H t p) (h2 : wbB p = false) : OddC K H (.ref a)
theorem OddP.same {K : PySem.W.Frag} {H H' : Hp} {v : V} (s : Same H H') (h : OddP K H v) : OddP K H' v := by
  cases h with
  | kind h h1 h2 => exact .kind (h.same s) h1 h2
  | elem h hx ho => exact .elem (Same.seq s h) (hx.same s) ho
  | dup h h1 h2 => exact .dup (Same.seq s h) (s _ _ h1) (s _ _ h2)
theorem OddC.same {K : PySem.W.Frag} {H H' : Hp} {v : V} (s : Same H H') (h : OddC K H v) : OddC K H' v := by
  cases h with
  | odd h => exact .odd (h.same s)
  | size h h1 h2 => exact .size (Same.seq s h) (s _ _ h1) h2
theorem OddP.lst {K : PySem.W.Frag} {H : Hp} {v : V} (h : OddP K H v) : (∃ t, AnyT K H v t ∧ (t == "list") = false ∧ (t == "tuple") = false) ∨ ∃ (a : Addr) (xs : List V), v = V.ref a ∧ SqL K H a xs ∧ ((∃ x o, xs = [x] ∧ Val2 K H x o ∧ pairO o = false) ∨ ∃ (t1 t2 : Addr) (i m n : Int), xs = [V.ref t1, V.ref t2] ∧ TupAt H t1 (i, m) ∧ TupAt H t2 (i, n)) := by
  cases h with
  | kind h h1 h2 => exact .inl ⟨_, h, h1, h2⟩
  | elem h hx ho => exact .inr ⟨_, _, rfl, h, .inl ⟨_, _, rfl, hx, ho⟩⟩
  | dup h h1 h2 => exact .inr ⟨_, _, rfl, h, .inr ⟨_, _, _, _, _, rfl, h1, h2⟩⟩
def spArePairs2 (K : PySem.W.Frag) : Sp := fun vs H Q E => ∃ v, vs = [v] ∧ (spArePairs K [v] H Q E ∨ OddP K H v ∧ ∀ H', Same H H' → Q (.bl false) H')
theorem kit_no {K : PySem.W.Frag} {H : Hp} {v : V} {t : String} (h : AnyT K H v t) (h1 : (t == "list") = false) (h2 : (t == "tuple") = false) : PySem.W.kitAny K (.type t) [.type "list", .type "tuple"] = some false := by
  obtain ⟨_, _, k1, k2, _⟩ := h.kit
  unfold PySem.W.kitAny
  rw [k2, h1]
  show PySem.W.kitAny K (.type t) [.type "tuple"] = some false
  unfold PySem.W.kitAny
  rw [k1, h2]
  rfl
theorem pure_are_pairs2 {w : World} {K : PySem.W.Frag} (vs : List V) (H : Hp) (Q : VK) (E : XK) (h : spArePairs2 K vs H Q E) : t_are_pairs w K { nx := fun _ H' => Q .non H', rt := Q } (start ["value", "part", "first", "_"] vs) H := by
  obtain ⟨v, rfl, h⟩ := h
  rcases h with h | ⟨od, q⟩
  · exact pure_are_pairs [v] H Q E h
  refine ⟨_, rfl, sz (by show 2 ≤ 1000; decide), fun T hT => ?_⟩
  have s1 := same_new (o := .tup [.ty "list", .ty "tuple"]) hT
  have od1 := od.same s1
  have T1 : upd H T (.tup [.ty "list", .ty "tuple"]) T = some (.tup [.ty "list", .ty "tuple"]) := upd_same
  generalize upd H T (.tup [.ty "list", .ty "tuple"]) = H1 at s1 od1 T1 ⊢
  rcases od1.lst with ⟨t, any, n1, n2⟩ | ⟨a, xs, rfl, hL, hx⟩
  · exact ⟨_, T, _, _, [.type "list", .type "tuple"], false, rfl, T1, .cons (.ty _) (.cons (.ty _) .nil), any.ty, kit_no any n1 n2, _, rfl, iteT (q H1 s1)⟩
  have any : AnyT K H1 (.ref a) "list" := .lst hL
  refine ⟨_, T, _, _, [.type "list", .type "tuple"], true, rfl, T1, .cons (.ty _) (.cons (.ty _) .nil), any.ty, kit_seq any (.inl rfl), _, rfl, iteF ?_⟩
  rcases hx with ⟨x, o, rfl, vx, no⟩ | ⟨t1, t2, i, m, n, rfl, h1, h2⟩
  · refine .inl ⟨_, rfl, a, rfl, ⟨_, hL⟩, fun D hD => ?_⟩
    refine lc_it (walk_list (K := K) (a := a) (xs := [x])) (fun j H2 => Same H1 H2 ∧ H2 D = some (.lst ((List.replicate j false).map V.bl))) ⟨same_new hD, upd_same⟩ (fun j H2 _ h => Same.seq h.1 hL) ?_ ?_
    · rintro j v H2 H3 hj ⟨s2, d2⟩ ⟨rfl, hv⟩
      have hj1 : j < 1 := hj
      have ej : j = 0 := by omega
      subst ej
      cases hv
      refine ⟨rfl, yes_if ⟨_, rfl, _, o, rfl, vx.same s2, ?_⟩⟩
      rw [no]
      exact ⟨_, d2, sz (by show 1 ≤ 1000; decide), same_upd s2 hD, upd_same⟩
    · rintro H2 ⟨s2, d2⟩
      exact ⟨D, _, rfl, SqL.of d2, _, rfl, iteT (q H2 (s1.trans s2))⟩
  · refine .inl ⟨_, rfl, a, rfl, ⟨_, hL⟩, fun D hD => ?_⟩
    have tw : ∀ (j : Nat) (v : V), [V.ref t1, V.ref t2][j]? = some v → ∃ (t : Addr) (p : Int × Int), v = V.ref t ∧ TupAt H1 t p ∧ p.1 = i := fun j v e => by
      rcases j with _ | _ | j
      · cases e
        exact ⟨t1, _, rfl, h1, rfl⟩
      · cases e
        exact ⟨t2, _, rfl, h2, rfl⟩
      · cases e
    refine lc_it (walk_list (K := K) (a := a) (xs := [.ref t1, .ref t2])) (fun j H2 => Same H1 H2 ∧ H2 D = some (.lst ((List.replicate j true).map V.bl))) ⟨same_new hD, upd_same⟩ (fun j H2 _ h => Same.seq h.1 hL) ?_ ?_
    · rintro j v H2 H3 hj ⟨s2, d2⟩ ⟨rfl, hv⟩
      obtain ⟨t, p, rfl, hat, _⟩ := tw j v hv
      refine ⟨rfl, yes_if ⟨_, rfl, _, _, rfl, val2_tup (s2 _ _ hat), ?_⟩⟩
      have hj2 : j < 2 := hj
      refine ⟨_, d2, ?_, same_upd s2 hD, ?_⟩
      · rw [List.length_map, List.length_replicate]
        exact Nat.lt_of_lt_of_le hj2 (by decide)
      · rw [upd_same, List.replicate_succ', List.map_append]
        rfl
    · rintro H2 ⟨s2, d2⟩
      refine ⟨D, _, rfl, SqL.of d2, _, rfl, iteF ?_⟩
      refine .inl ⟨_, rfl, a, rfl, ⟨_, Same.seq s2 hL⟩, fun D3 hD3 => ?_⟩
      refine scN_it (walk_list (K := K) (a := a) (xs := [.ref t1, .ref t2])) (fun j H3 => Same H2 H3 ∧ ∃ S n, H3 D3 = some (SetO w D3 S n) ∧ (j = 0 ∧ n = 0 ∧ (∀ k, S k = false) ∨ 0 < j ∧ n = 1 ∧ S i = true)) ⟨same_new hD3, _, _, upd_same, .inl ⟨rfl, rfl, fun _ => rfl⟩⟩ (fun j H3 _ h => Same.seq h.1 (Same.seq s2 hL)) ?_ ?_
      · rintro j v H3 H4 hj ⟨s3, S, k, d3, st⟩ ⟨rfl, hv⟩
        obtain ⟨t, p, rfl, hat, ep⟩ := tw j v hv
        obtain ⟨p1, p2⟩ := p
        have ep : p1 = i := ep
        subst ep
        have hat3 := s3 _ _ (s2 _ _ hat)
        refine ⟨t, _, rfl, SqT.of hat3, rfl, _, _, rfl, _, _, rfl, rfl, rfl, yes_if ⟨_, rfl, D3, p1, S, k, rfl, rfl, d3, ?_, same_upd s3 hD3, (fun j => S j || decide (j = p1)), _, upd_same, .inr ⟨Nat.succ_pos _, ?_, ?_⟩⟩⟩
        · rcases st with ⟨_, rfl, _⟩ | ⟨_, rfl, _⟩ <;> decide
        · rcases st with ⟨_, rfl, z⟩ | ⟨_, rfl, z⟩
          · rw [z p1, if_neg Bool.false_ne_true]
          · rw [z, if_pos rfl]
        · show (S p1 || decide (p1 = p1)) = true
          rw [decide_eq_true rfl, Bool.or_true]
      · rintro H3 ⟨s3, S, k, d3, st⟩
        have k1 : k = 1 := by
          rcases st with ⟨z, _⟩ | ⟨_, z, _⟩
          · cases z
          · exact z
        subst k1
        refine ⟨D3, S, _, rfl, d3, _, rfl, a, _, rfl, .inl (Same.seq s3 (Same.seq s2 hL)), rfl, ?_⟩
        exact q H3 (s1.trans (s2.trans s3))
end SR
set_option Elab.async false
set_option linter.all false
set_option maxRecDepth 100000
set_option maxHeartbeats 4000000
namespace SR
open PySem PySem.Spec PyProof.Rows L2
def spWideBox2 (K : PySem.W.Frag) : Sp := fun vs H Q _ => ∃ i c : Int, vs = [.int i, .int c] ∧ Q (.bl (wbB (i, c))) H
theorem pure_wide_box2 {K : PySem.W.Frag} (vs : List V) (H : Hp) (Q : VK) (E : XK) (h : spWideBox2 K vs H Q E) : t_is_wide_box K { nx := fun _ H' => Q .non H', rt := Q } (start ["index", "capacity"] vs) H := by
  obtain ⟨i, c, rfl, q⟩ := h
  have q : Q (.bl (btw (-60) 60 (.int i) && btw 2 9 (.int c))) H := q
  refine ⟨_, rfl, .int i, _, _, _, rfl, .int i, fun _ => ⟨_, _, rfl, rfl, _, rfl, ?_⟩, fun z => nomatch z⟩
  cases e : btw (-60) 60 (.int i) with
  | true =>
    rw [e] at q
    exact iteF ⟨_, rfl, .int c, _, _, _, rfl, .int c, fun _ => ⟨_, _, rfl, rfl, q⟩, fun z => nomatch z⟩
  | false =>
    rw [e] at q
    exact iteT q
def spAreCap2 (K : PySem.W.Frag) : Sp := fun vs H Q E => ∃ v, vs = [v] ∧ (spAreCapacities K [v] H Q E ∨ OddC K H v ∧ ∀ H', Same H H' → Q (.bl false) H')
def t_are_capacities2 (K : PySem.W.Frag) : TS := tSeq (tIfS (tOr (tNot (tB (tCall (spArePairs2 K) [] E0 (tCons (tVar 0) (tNil))))) (tTest (tOp qGt (tCB (qLen K) (tCons (tVar 0) (tNil))) (tC (.int 6)))))
  (tRet (tC (.bl false)))
  (tNext))
  (tRet (tCB (rAll K) (tCons (tLc ((fun σ H R => iList K (tVar 0) σ H R ∨ iTup K (tVar 0) σ H R)) (gTup K 2 (gCons (gName 1) (gCons (gName 2) (gNil)))) (tYes) (tCall (spWideBox2 K) [] E0 (tCons (tVar 1) (tCons (tVar 2) (tNil)))) [1, 2]) (tNil))))
theorem caps_all {K : PySem.W.Frag} {H : Hp} {a : Addr} {ps : List (Int × Int)} {Q : VK} (hp : PairsAt K H a ps) (hd : (ps.map Prod.fst).Nodup) (hl : ps.length ≤ 6) (q : ∀ H', Same H H' → Q (.bl (ps.all wbB)) H') : t_are_capacities2 K { nx := fun _ H' => Q .non H', rt := Q } [some (.ref a), none, none] H := by
  refine ⟨_, rfl, _, rfl, .inl ⟨a, ps, rfl, hp, hd, by omega, fun H1 s1 => ⟨_, rfl, iteF ?_⟩⟩⟩
  obtain ⟨ys, hys, ylen⟩ := (hp.same s1).len
  refine ⟨_, rfl, a, ys, rfl, hys, _, _, rfl, rfl, _, rfl, ?_⟩
  have no : ¬ (6 : Int) < (ys.length : Int) := by omega
  rw [decide_eq_false no]
  refine iteF ?_
  try rw [← xLc_eq]
  try rw [← xScN_eq]
  show xLc (fun σ H R => iList K (tVar 0) σ H R ∨ iTup K (tVar 0) σ H R) (gTup K 2 (gCons (gName 1) (gCons (gName 2) gNil))) tYes (tCall (spWideBox2 K) [] E0 (tCons (tVar 1) (tCons (tVar 2) tNil))) [1, 2] [some (.ref a), none, none] H1 _
  try rw [xLc_eq]
  try rw [xScN_eq]
  refine lc_pairs (K := K) (a := a) (ps := ps) (fun p => .bl (wbB p)) (fun R r => ⟨_, rfl, r⟩) (hp.same s1) (by omega) (fun t p H2 R s2 m2 at2 r => ?_) (fun D H2 hD s2 d2 => ?_)
  · exact ⟨t, _, rfl, SqT.of at2, rfl, _, _, rfl, _, _, rfl, rfl, rfl, _, rfl, _, rfl, p.1, p.2, rfl, r⟩
  have all : (ps.map fun p => V.bl (wbB p)) = (ps.map wbB).map V.bl := by rw [List.map_map] <;> rfl
  rw [all] at d2
  have tr : (ps.map wbB).all id = ps.all wbB := by
    rw [List.all_map]
    rfl
  refine ⟨D, _, rfl, SqL.of d2, ?_⟩
  rw [tr]
  exact q H2 (s1.trans s2)
theorem pure_are_cap2 {K : PySem.W.Frag} (vs : List V) (H : Hp) (Q : VK) (E : XK) (h : spAreCap2 K vs H Q E) : t_are_capacities2 K { nx := fun _ H' => Q .non H', rt := Q } (start ["value", "index", "capacity"] vs) H := by
  obtain ⟨v, rfl, h⟩ := h
  rcases h with ⟨a, ps, e, hp, hd, hl, hs, q⟩ | ⟨od, q⟩
  · cases e
    refine caps_all hp hd hl fun H' s => ?_
    have : ps.all wbB = true := List.all_eq_true.mpr fun p m => wbB_ok.mpr (hs p m)
    rw [this]
    exact q H' s
  · cases od with
    | odd h => exact ⟨_, rfl, _, rfl, .inr ⟨h, fun H1 s1 => ⟨_, rfl, iteT (iteT (q H1 s1))⟩⟩⟩
    | @size a t p h h1 h2 =>
      refine caps_all (ps := [p]) ⟨[t], .inl h, .cons h1 .nil⟩ (List.pairwise_singleton _ _) (by show 1 ≤ 6; decide) fun H' s => ?_
      have : [p].all wbB = false := by
        show (wbB p && true) = false
        rw [h2]
        rfl
      rw [this]
      exact q H' s
def t_are_contents2 (K : PySem.W.Frag) : TS := tSeq (tIfS (tNot (tB (tCall (spArePairs2 K) [] E0 (tCons (tVar 0) (tNil)))))
  (tRet (tC (.bl false)))
  (tNext))
  (tSeq (tAsg (tCB (qDictOf K) (tCons (tVar 1) (tNil))) (gName 2))
  (tSeq (tIfS (tNot (tB (tCB (rAll K) (tCons (tLc ((fun σ H R => iList K (tVar 0) σ H R ∨ iTup K (tVar 0) σ H R)) (gTup K 2 (gCons (gName 3) (gCons (gName 4) (gNil)))) (tYes) (tChain qLe qLe (tC (.int 1)) (tVar 4) (tDGet2 (tVar 2) (tVar 3) (tC (.int 1)))) [3, 4]) (tNil)))))
  (tRet (tC (.bl false)))
  (tNext))
  (tRet (tOp qLe (tCB (rSum K) (tCons (tLc ((fun σ H R => iList K (tVar 0) σ H R ∨ iTup K (tVar 0) σ H R)) (gTup K 2 (gCons (gName 5) (gCons (gName 4) (gNil)))) (tYes) (tVar 4) [4, 5]) (tNil))) (tC (.int 40))))))
theorem pure_are_contents2 {K : PySem.W.Frag} (vs : List V) (H : Hp) (Q : VK) (E : XK) (h : spAreContents K vs H Q E) : t_are_contents2 K { nx := fun _ H' => Q .non H', rt := Q } (start ["value", "capacities", "wide", "index", "count", "_"] vs) H := by
  obtain ⟨v, e, z⟩ := pure_are_contents vs H Q E h
  exact ⟨v, e, _, rfl, .inl z⟩
def t_Row_init2 (K : PySem.W.Frag) : TS := tSeq (tIfS (tNot (tB (tCall (spAreCap2 K) [] E0 (tCons (tVar 2) (tNil)))))
  ((fun _ _ _ => False))
  (tNext))
  (tSeq (tIfS (tNot (tB (tCall (spAreContents K) [] E0 (tCons (tVar 1) (tCons (tVar 2) (tNil))))))
  ((fun _ _ _ => False))
  (tNext))
  (tSeq (sFld K (tVar 0) (tCB (qTupOf K) (tCons (tCB (qSorted K) (tCons (tVar 1) (tNil))) (tNil))) "_contents")
  (tSeq (sFld K (tVar 0) (tCB (qTupOf K) (tCons (tCB (qSorted K) (tCons (tVar 2) (tNil))) (tNil))) "_capacities")
  (tSeq (sFld K (tVar 0) (tCB (qDictOf K) (tCons (tVar 1) (tNil))) "_count_at")
  (sFld K (tVar 0) (tCB (qDictOf K) (tCons (tVar 2) (tNil))) "_capacity_at")))))
theorem pure_row_init2 {K : PySem.W.Frag} {C : Addr} (R : RowC K C) (vs : List V) (H : Hp) (Q : VK) (E : XK) (h : spRowInit K C vs H Q E) : t_Row_init2 K { nx := fun _ H' => Q .non H', rt := Q } (start ["self", "contents", "capacities"] vs) H := by
  obtain ⟨v, e, z⟩ := pure_row_init R vs H Q E h
  exact ⟨v, e, _, rfl, .inl z⟩
def CapsAt (K : PySem.W.Frag) (H : Hp) (v : V) (ls : List (Int × Int)) : Prop := ∃ a, v = .ref a ∧ PairsAt K H a ls ∧ (ls.map Prod.fst).Nodup ∧ ls.length ≤ 6 ∧ ∀ p ∈ ls, sizeOk p
theorem CapsAt.same {K : PySem.W.Frag} {H H' : Hp} {v : V} {ls : List (Int × Int)} (s : Same H H') (h : CapsAt K H v ls) : CapsAt K H' v ls := let ⟨a, h1, h2, h3⟩ := h; ⟨a, h1, h2.same s, h3⟩
end SR
set_option Elab.async false
set_option linter.all false
set_option maxRecDepth 100000
set_option maxHeartbeats 1000000
namespace SR
open PySem PySem.Spec PyProof.Rows L2
theorem KsOk.sub {ks ls : List (Int × Int)} (h : KsOk ks) (s : ls.Sublist ks) : KsOk ls := ⟨h.ak.sublist s, Nat.le_trans s.length_le h.kl, fun p m => h.ko p (s.subset m)⟩
end SR
set_option Elab.async false
set_option linter.all false
set_option maxRecDepth 100000
set_option maxHeartbeats 1000000
set_option Elab.async false
set_option linter.all false
set_option maxRecDepth 100000
set_option maxHeartbeats 1000000
namespace SR
open PySem PySem.Spec PyProof.Rows L2
section
variable {σ : L2.St} {H : Hp} {Q : VK} {R : List V → Hp → Prop} {t ta : TA} {te : TE} {u v : V} {d g c : Addr} {b : Nat}
theorem cons_run (h : te σ H fun v H1 => ta σ H1 fun vs H2 => R (v :: vs) H2) : tCons te ta σ H R := h
theorem Kp.of {H H1 H2 : Hp} (s : Same H H1) (k : Kp d g H1 H2) : Kp d g H H2 := fun x o e1 e2 h => k x o e1 e2 (s _ _ h)
end
end SR
set_option Elab.async false
set_option linter.all false
set_option maxRecDepth 100000
set_option maxHeartbeats 1000000
namespace SR
open PySem PySem.Spec PyProof.Rows L2
structure X12 (K : PySem.W.Frag) (C : Addr) (H : Hp) (d g c : Addr) (b : Nat) (Z1 Z2 F1 F2 xf xm : Addr) (sz ot bx it : List (Int × Int)) : Prop where
  S : StB H d g c b
  z1 : H Z1 = some (.dK (kvsOf sz))
  z2 : H Z2 = some (.dK (kvsOf ot))
  f1 : H F1 = some (.dK (kvsOf bx))
  f2 : H F2 = some (.dK (kvsOf it))
  rf : RowAt K C H xf bx []
  rm : RowAt K C H xm it ot
theorem X12.same {K : PySem.W.Frag} {C : Addr} {H H' : Hp} {d g c : Addr} {b : Nat} {Z1 Z2 F1 F2 xf xm : Addr} {sz ot bx it : List (Int × Int)} (s : Same H H') (X : X12 K C H d g c b Z1 Z2 F1 F2 xf xm sz ot bx it) : X12 K C H' d g c b Z1 Z2 F1 F2 xf xm sz ot bx it :=
  ⟨StB.same s X.S, s _ _ X.z1, s _ _ X.z2, s _ _ X.f1, s _ _ X.f2, X.rf.same s, X.rm.same s⟩
theorem X12.kp {K : PySem.W.Frag} {C : Addr} {H H' : Hp} {d g c : Addr} {b b' : Nat} {Z1 Z2 F1 F2 xf xm : Addr} {sz ot bx it : List (Int × Int)} (k : Kp d g H H') (S : StB H' d g c b') (X : X12 K C H d g c b Z1 Z2 F1 F2 xf xm sz ot bx it) : X12 K C H' d g c b' Z1 Z2 F1 F2 xf xm sz ot bx it :=
  ⟨S, kp_dict X.S k X.z1, kp_dict X.S k X.z2, kp_dict X.S k X.f1, kp_dict X.S k X.f2, X.rf.kp X.S k, X.rm.kp X.S k⟩
end SR
set_option Elab.async false
set_option linter.all false
set_option maxRecDepth 100000
set_option maxHeartbeats 1000000
set_option Elab.async false
set_option linter.all false
set_option maxRecDepth 100000
set_option maxHeartbeats 2000000
namespace SR
open PySem PySem.Spec PyProof.Rows L2
section
variable {α : Type} {K : PySem.W.Frag} {te : TE} {g : TG} {tt : TT} {telt : TE} {vs : List Nat} {σ : L2.St} {H : Hp} {a : Addr} {xs : List V} {ys : List α} {Q : VK}
/-- what is asked of a turn; the item's value is f y -/
def TurnV (g : TG) (tt : TT) (telt : TE) (vs : List Nat) (σ : L2.St) (H : Hp) (G : Hp → V → α → Prop) (ys : List α) (P : α → Bool) (f : α → V) : Prop :=
  ∀ x y H' (Rt : VK) (Rf : Hp → Prop), Same H H' → G H' x y → y ∈ ys → (P y = true → ∀ H4, Same H' H4 → Rt (f y) H4) → (P y = false → ∀ H4, Same H' H4 → Rf H4) →
    g x (wipe σ vs) H' fun σ2 H2 => wipe σ2 vs = wipe σ vs ∧ tt σ2 H2 fun b H3 => if b = true then telt σ2 H3 Rt else Rf H3
theorem stepV {G : Hp → V → α → Prop} {P : α → Bool} {f : α → V} (rel : ∀ (i : Nat) (x : V), xs[i]? = some x → ∃ y, ys[i]? = some y ∧ G H x y) (hl : ys.length ≤ 5000) (hG : ∀ H' x y, Same H H' → G H x y → G H' x y) (turn : TurnV g tt telt vs σ H G ys P f) {D : Addr} (hD : H D = none) :
    ∀ i x H1 H2, i < xs.length → (Same H H1 ∧ H1 D = some (.lst (((ys.take i).filter P).map f))) → YAt xs i H1 x H2 → g x (wipe σ vs) H2 fun σ2 H3 => wipe σ2 vs = wipe σ vs ∧ tt σ2 H3 fun b H4 =>
      if b = true then telt σ2 H4 fun y H5 => ∃ acc, H5 D = some (.lst acc) ∧ acc.length < sizeLine ∧ (Same H (upd H5 D (.lst (acc ++ [y]))) ∧ upd H5 D (.lst (acc ++ [y])) D = some (.lst (((ys.take (i + 1)).filter P).map f))) else Same H H4 ∧ H4 D = some (.lst (((ys.take (i + 1)).filter P).map f)) := by
  rintro i x H1 H2 hi ⟨s1, d1⟩ ⟨rfl, hx⟩
  obtain ⟨y, hy, gy⟩ := rel i x hx
  have tk : ys.take (i + 1) = ys.take i ++ [y] := by
    rw [List.take_succ, hy]
    rfl
  refine turn x y H2 _ _ s1 (hG _ _ _ s1 gy) (List.mem_of_getElem? hy) (fun py H4 s4 => ⟨_, s4 _ _ d1, ?_, same_upd (s1.trans s4) hD, ?_⟩) fun py H4 s4 => ⟨s1.trans s4, ?_⟩
  · rw [List.length_map]
    have := List.length_filter_le P (ys.take i)
    rw [List.length_take] at this
    exact Nat.lt_of_le_of_lt (show _ ≤ 5000 by have := Nat.min_le_right i ys.length; omega) (by decide)
  · rw [upd_same, tk, List.filter_append, List.filter_cons_of_pos py, List.map_append]
    rfl
  · rw [tk, List.filter_append, List.filter_cons_of_neg (by rw [py]; exact Bool.false_ne_true)]
    rw [List.filter_nil, List.append_nil]
    exact s4 _ _ d1
theorem lcV {G : Hp → V → α → Prop} (P : α → Bool) (f : α → V) (hte : ∀ R : VK, R (.ref a) H → te σ H R) (hs : SqL K H a xs) (rel : ∀ (i : Nat) (x : V), xs[i]? = some x → ∃ y, ys[i]? = some y ∧ G H x y) (len : xs.length = ys.length) (hl : ys.length ≤ 5000) (hG : ∀ H' x y, Same H H' → G H x y → G H' x y)
    (turn : TurnV g tt telt vs σ H G ys P f) (q : ∀ D H', H D = none → Same H H' → H' D = some (.lst ((ys.filter P).map f)) → Q (.ref D) H') : tLc (iList K te) g tt telt vs σ H Q := by
  refine hte _ ⟨a, rfl, ⟨_, hs⟩, fun D hD => ?_⟩
  refine lc_it (walk_list (K := K) (a := a) (xs := xs)) (fun i H1 => Same H H1 ∧ H1 D = some (.lst (((ys.take i).filter P).map f))) ⟨same_new hD, upd_same⟩ (fun i H1 _ h => SqL.same h.1 hs) (stepV rel hl hG turn hD) fun H1 h => ?_
  have d1 := h.2
  rw [len, List.take_length] at d1
  exact q D H1 hD h.1 d1
theorem lcO {G : Hp → V → α → Prop} (P : α → Bool) (f : α → V) (hte : ∀ R : VK, R (.ref a) H → te σ H R) (hs : SqL K H a xs ∨ SqT K H a xs) (rel : ∀ (i : Nat) (x : V), xs[i]? = some x → ∃ y, ys[i]? = some y ∧ G H x y) (len : xs.length = ys.length) (hl : ys.length ≤ 5000) (hG : ∀ H' x y, Same H H' → G H x y → G H' x y)
    (turn : TurnV g tt telt vs σ H G ys P f) (q : ∀ D H', H D = none → Same H H' → H' D = some (.lst ((ys.filter P).map f)) → Q (.ref D) H') : tLc (fun σ H R => iList K te σ H R ∨ iTup K te σ H R) g tt telt vs σ H Q := by
  rcases hs with hs | hs
  · exact .inl (lcV P f hte hs rel len hl hG turn q)
  · refine .inr (hte _ ⟨a, rfl, ⟨_, hs⟩, fun D hD => ?_⟩)
    refine lc_it (walk_tup (K := K) (a := a) (xs := xs)) (fun i H1 => Same H H1 ∧ H1 D = some (.lst (((ys.take i).filter P).map f))) ⟨same_new hD, upd_same⟩ (fun i H1 _ h => SqT.same h.1 hs) (stepV rel hl hG turn hD) fun H1 h => ?_
    have d1 := h.2
    rw [len, List.take_length] at d1
    exact q D H1 hD h.1 d1
theorem ckw_go {r : List V → List V → Hp → VK → Prop} {t tk : TA} (h : t σ H fun vs H1 => tk σ H1 fun zs H2 => r vs zs H2 Q) : tCKw r t tk σ H Q := h
theorem cb_go {r : List V → Hp → VK → Prop} {t : TA} (h : t σ H fun vs H1 => r vs H1 Q) : tCB r t σ H Q := h
theorem cons1_go {te : TE} {R : List V → Hp → Prop} (h : te σ H fun v H1 => R [v] H1) : tCons te tNil σ H R := h
theorem ret_go {te : TE} {D : Ends} (h : te σ H D.rt) : tRet te D σ H := h
/-- what is known of the pairs of a list, item by item -/
theorem pairs_rel {ts : List Addr} {ps : List (Int × Int)} (pr : Paired (TupAt H) ts ps) : ∀ (i : Nat) (x : V), (ts.map V.ref)[i]? = some x → ∃ p, ps[i]? = some p ∧ ∃ t, x = .ref t ∧ TupAt H t p := fun i x hx => by
  rw [List.getElem?_map] at hx
  obtain ⟨t, ht, rfl⟩ := Option.map_eq_some_iff.mp hx
  obtain ⟨p, hp, hat⟩ := paired_at pr ht
  exact ⟨p, hp, t, rfl, hat⟩
def GT (H : Hp) (x : V) (p : Int × Int) : Prop := ∃ t, x = .ref t ∧ TupAt H t p
theorem GT.same {H H' : Hp} {x : V} {p : Int × Int} (s : Same H H') (h : GT H x p) : GT H' x p := let ⟨t, e, z⟩ := h; ⟨t, e, s _ _ z⟩
theorem all_true (l : List α) : l.filter (fun _ => true) = l := List.filter_eq_self.mpr fun _ _ => rfl
end
end SR
set_option Elab.async false
set_option linter.all false
set_option maxRecDepth 100000
set_option maxHeartbeats 2000000
set_option Elab.async false
set_option linter.all false
set_option maxRecDepth 100000
set_option maxHeartbeats 2000000
namespace SR
open PySem PySem.Spec PyProof.Rows L2
section
variable {K : PySem.W.Frag} {σ : L2.St} {H : Hp} {Q : VK} {D : Ends}
theorem seq_go {a b : TS} (h : a { D with nx := b D } σ H) : tSeq a b D σ H := h
theorem asg_go {te : TE} {g : TG} (h : te σ H fun x H1 => g x σ H1 D.nx) : tAsg te g D σ H := h
end
theorem all_map {α : Type} (l : List α) (f : α → Bool) (h : ∀ x ∈ l, f x = true) : (l.map f).all id = true := by
  rw [List.all_map]
  exact List.all_eq_true.mpr h
end SR
set_option Elab.async false
set_option linter.all false
set_option maxRecDepth 100000
set_option maxHeartbeats 2000000
set_option Elab.async false
set_option linter.all false
set_option maxRecDepth 100000
set_option maxHeartbeats 4000000
set_option Elab.async false
set_option linter.all false
set_option maxRecDepth 100000
set_option maxHeartbeats 4000000
set_option Elab.async false
set_option linter.all false
set_option maxRecDepth 100000
set_option maxHeartbeats 2000000
set_option Elab.async false
set_option linter.all false
set_option maxRecDepth 100000
set_option maxHeartbeats 1000000
namespace SR
open PySem PySem.Spec PyProof.Rows L2
def mk : List Lx → Int
  | [] => 0
  | .z :: w => mk w
  | .o :: w => mk w
  | .m :: w => 1 + mk w
theorem sum_one {α : Type} (f : α → Int) : ∀ l : List α, (∀ x ∈ l, f x = 1) → (l.map f).sum = l.length
  | [], _ => rfl
  | x :: l, h => by
    rw [List.map_cons, List.sum_cons, h x List.mem_cons_self, sum_one f l fun y m => h y (List.mem_cons_of_mem _ m), List.length_cons]
    omega
end SR
set_option Elab.async false
set_option linter.all false
set_option maxRecDepth 100000
set_option maxHeartbeats 1000000
namespace SR
open PySem PySem.Spec PyProof.Rows L2
def rs (F : Int → Int) : Int → Nat → Int
  | _, 0 => 0
  | a, n + 1 => F a + rs F (a + 1) n
/-- the loads of a carrier -/
structure LdS (ks : List (Int × Int)) (c : Int) (cs : List (Int × Int)) (s : Int → Int) : Prop where
  low : ∃ lo, ∀ i, i ≤ lo → s i = 0
  st : ∀ i, 0 ≤ s i ∧ s i ≤ c ∧ s (i + 1) = stL c (s i) (cap ks i) (cnt cs i)
theorem LdS.one {ks cs : List (Int × Int)} {c : Int} {s s' : Int → Int} (h : LdS ks c cs s) (h' : LdS ks c cs s') : ∀ i, s i = s' i := by
  obtain ⟨a, ha⟩ := h.low
  obtain ⟨a', ha'⟩ := h'.low
  intro i
  by_cases z : i ≤ min a a'
  · rw [ha i (by omega), ha' i (by omega)]
  · refine up_from (P := fun i => s i = s' i) (min a a') (by rw [ha _ (by omega), ha' _ (by omega)]) (fun j _ e => ?_) i (by omega)
    rw [(h.st j).2.2, (h'.st j).2.2, e]
end SR
set_option Elab.async false
set_option linter.all false
set_option maxRecDepth 100000
set_option maxHeartbeats 1000000
namespace SR
open PySem PySem.Spec PyProof.Rows L2
def pkT (c : Int) (ts : List (Int × Int)) : Int := (ts.map fun t => min c t.1).sum
end SR
set_option Elab.async false
set_option linter.all false
set_option maxRecDepth 100000
set_option maxHeartbeats 1000000
namespace SR
open PySem PySem.Spec PyProof.Rows L2
section
variable {ks : List (Int × Int)} {c : Int}
noncomputable def iterF (s : Int × Bool) : Nat → Rws ks → Rws ks
  | 0, p => p
  | n + 1, p => iterF s n (Fn s p)
noncomputable def FnN (c n : Int) (p : Rws ks) : Rws ks := iterF (c, decide (n < 0)) n.natAbs p
noncomputable def advP (cs : List (Int × Int)) (p : Rws ks) : Rws ks := cs.foldl (fun p t => FnN t.1 t.2 p) p
def mirP (p : Rws ks) : Rws (mirror ks) := ⟨mirror p.1, p.2.mirror⟩
end
end SR
set_option Elab.async false
set_option linter.all false
set_option maxRecDepth 100000
set_option maxHeartbeats 2000000
set_option Elab.async false
set_option linter.all false
set_option maxRecDepth 100000
set_option maxHeartbeats 2000000
namespace SR
open PySem PySem.Spec PyProof.Rows L2
/-- what the steps keep -/
structure I17 (K : PySem.W.Frag) (C : Addr) (H : Hp) (d g c : Addr) (b : Nat) {ks : List (Int × Int)} (p : Rws ks) (y F Z L6 : Addr) (M : List Int) : Prop where
  S : StB H d g c b
  row : RowAt K C H y p.1 ks
  f : H F = some (.dK (kvsOf p.1))
  z : H Z = some (.dK (kvsOf ks))
  l6 : H L6 = some (.lst (M.map V.int))
  e1 : L6 ≠ d
  e2 : L6 ≠ g
  pm : M.Perm ((trP p).map Prod.fst)
section
variable {K : PySem.W.Frag} {C B : Addr} {ks : List (Int × Int)} {N N2 N3 : L2.St → Hp → Prop} {R : VK} {H : Hp} {d g c y F Z L6 : Addr} {b : Nat} {m : Int} {p : Rws ks} {M : List Int}
theorem I17.same {H' : Hp} (s : Same H H') (J : I17 K C H d g c b p y F Z L6 M) : I17 K C H' d g c b p y F Z L6 M :=
  ⟨StB.same s J.S, J.row.same s, s _ _ J.f, s _ _ J.z, s _ _ J.l6, J.e1, J.e2, J.pm⟩
theorem I17.kp {H' : Hp} {b' : Nat} (k : Kp d g H H') (S : StB H' d g c b') (J : I17 K C H d g c b p y F Z L6 M) : I17 K C H' d g c b' p y F Z L6 M :=
  ⟨S, J.row.kp J.S k, kp_dict J.S k J.f, kp_dict J.S k J.z, k _ _ J.e1 J.e2 J.l6, J.e1, J.e2, J.pm⟩
end
end SR
set_option Elab.async false
set_option linter.all false
set_option maxRecDepth 100000
set_option maxHeartbeats 1000000
set_option Elab.async false
set_option linter.all false
set_option maxRecDepth 100000
set_option maxHeartbeats 2000000
set_option Elab.async false
set_option linter.all false
set_option maxRecDepth 100000
set_option maxHeartbeats 2000000
set_option Elab.async false
set_option linter.all false
set_option maxRecDepth 100000
set_option maxHeartbeats 2000000
set_option Elab.async false
set_option linter.all false
set_option maxRecDepth 100000
set_option maxHeartbeats 1000000
namespace SR
open PySem PySem.Spec PyProof.Rows L2
section
variable {K : PySem.W.Frag} {C : Addr} {N N2 N3 : L2.St → Hp → Prop} {R : VK}
/-- what the boxes are while they are drawn -/
structure B11 (ks qs : List (Int × Int)) : Prop where
  nd : (qs.map Prod.fst).Nodup
  ok : ∀ p ∈ qs, 1 ≤ p.2 ∧ p.2 ≤ cap ks p.1
  bd : ∀ p ∈ qs, -60 ≤ p.1 ∧ p.1 ≤ 100
  sm : total qs ≤ 40
theorem B11.len {ks qs : List (Int × Int)} (b : B11 ks qs) : qs.length ≤ 40 := by
  have h := len_sum fun p m => (b.ok p m).1
  have s := b.sm
  unfold total at s
  omega
end
end SR
set_option Elab.async false
set_option linter.all false
set_option maxRecDepth 100000
set_option maxHeartbeats 2000000
namespace SR
open PySem PySem.Spec PyProof.Rows L2 LiI
/-- no index of a wide box that can be shifted -/
def OddI (K : PySem.W.Frag) (H : Hp) (ks : List (Int × Int)) (v : V) : Prop := ∃ t, AnyT K H v t ∧ (isI v = false ∨ ∃ i, v = .int i ∧ (cap ks i = 1 ∨ i = -60))
theorem OddI.same {K : PySem.W.Frag} {H H' : Hp} {ks : List (Int × Int)} {v : V} (s : Same H H') (h : OddI K H ks v) : OddI K H' ks v := let ⟨t, a, b⟩ := h; ⟨t, a.same s, b⟩
end SR
set_option Elab.async false
set_option linter.all false
set_option maxRecDepth 100000
set_option maxHeartbeats 2000000
set_option Elab.async false
set_option linter.all false
set_option maxRecDepth 100000
set_option maxHeartbeats 2000000
set_option Elab.async false
set_option linter.all false
set_option maxRecDepth 100000
set_option maxHeartbeats 2000000
namespace SR
open PySem PySem.Spec PyProof.Rows L2 LiI
/-- a dict that is no field of the row may be locked and unlocked -/
theorem RowAt.off {K : PySem.W.Frag} {C : Addr} {H H' : Hp} {x Z : Addr} {ps ks : List (Int × Int)} (row : RowAt K C H x ps ks) (nz : ∀ dx c k d e, H x = some (.ins C dx (rowFs c k d e)) → Z ≠ d ∧ Z ≠ e) (hz : (∃ kvs, H Z = some (.dK kvs)) ∨ ∃ o kvs, H Z = some (.frz o (.dK kvs))) (k : ∀ b o, b ≠ Z → H b = some o → H' b = some o) : RowAt K C H' x ps ks := by
  obtain ⟨dx, c0, k0, d, e, ps0, ks0, h1, ⟨t1, h2, h3⟩, ⟨t2, h4, h5⟩, h6, h7, h8⟩ := row
  obtain ⟨n1, n2⟩ := nz _ _ _ _ _ h1
  have kp : ∀ {a : Addr} {o : HO}, H a = some o → (∀ kvs, o ≠ .dK kvs) → (∀ o' kvs, o ≠ .frz o' (.dK kvs)) → H' a = some o := fun {a o} h m1 m2 => k _ _ (fun z => by
    rw [z] at h
    rcases hz with ⟨kvs, g⟩ | ⟨o', kvs, g⟩
    · rw [g] at h
      exact m1 _ (Option.some.inj h).symm
    · rw [g] at h
      exact m2 _ _ (Option.some.inj h).symm) h
  have tp : ∀ {t : Addr} {p : Int × Int}, TupAt H t p → TupAt H' t p := fun {t p} z => kp (o := .tup [.int p.1, .int p.2]) z (fun _ z => nomatch z) fun _ _ z => nomatch z
  refine ⟨dx, c0, k0, d, e, ps0, ks0, kp h1 (fun _ z => nomatch z) (fun _ _ z => nomatch z), ⟨t1, ?_, paired_imp (fun _ _ z => tp z) h3⟩, ⟨t2, ?_, paired_imp (fun _ _ z => tp z) h5⟩, k _ _ (Ne.symm n1) h6, k _ _ (Ne.symm n2) h7, h8⟩
  · obtain ⟨o, a1, a2⟩ := h2
    exact ⟨o, kp a1 (fun _ z => nomatch z) (fun _ _ z => by cases z), a2⟩
  · obtain ⟨o, a1, a2⟩ := h4
    exact ⟨o, kp a1 (fun _ z => nomatch z) (fun _ _ z => by cases z), a2⟩
end SR
set_option Elab.async false
set_option linter.all false
set_option maxRecDepth 100000
set_option maxHeartbeats 2000000
namespace SR
open PySem PySem.Spec PyProof.Rows L2
/-- the dict at W is none of the row's own -/
def Nz (C : Addr) (H : Hp) (W x : Addr) : Prop := ∃ dx c k d e, H x = some (.ins C dx (rowFs c k d e)) ∧ W ≠ d ∧ W ≠ e
theorem Nz.all {C W x : Addr} {H : Hp} (h : Nz C H W x) : ∀ dx c k d e, H x = some (.ins C dx (rowFs c k d e)) → W ≠ d ∧ W ≠ e := fun dx c k d e h1 => by
  obtain ⟨dx', c', k', d', e', h2, n1, n2⟩ := h
  rw [h1] at h2
  have z := Option.some.inj h2
  have fe : rowFs c k d e = rowFs c' k' d' e' := by
    injection z
  unfold rowFs at fe
  injection fe with _ fe
  injection fe with _ fe
  injection fe with f3 fe
  injection fe with f4 _
  have e3 : d = d' := V.ref.inj (congrArg Prod.snd f3)
  have e4 : e = e' := V.ref.inj (congrArg Prod.snd f4)
  subst e3 e4
  exact ⟨n1, n2⟩
theorem Nz.same {C W x : Addr} {H H' : Hp} (s : Same H H') (h : Nz C H W x) : Nz C H' W x := let ⟨dx, c, k, d, e, h1, n⟩ := h; ⟨dx, c, k, d, e, s _ _ h1, n⟩
theorem Nz.kp {C W x d g c : Addr} {b : Nat} {H H' : Hp} (S : StB H d g c b) (k : Kp d g H H') (h : Nz C H W x) : Nz C H' W x := let ⟨dx, c, k', d, e, h1, n⟩ := h; ⟨dx, c, k', d, e, kp_at S k h1 (fun _ z => nomatch z) (fun _ _ z => nomatch z), n⟩
theorem Nz.put {C W x : Addr} {H H' : Hp} {kvs : List (Key × V)} (hW : H W = some (.dK kvs)) (k : ∀ a o, a ≠ W → H a = some o → H' a = some o) (h : Nz C H W x) : Nz C H' W x := by
  obtain ⟨dx, c, k', d, e, h1, n⟩ := h
  exact ⟨dx, c, k', d, e, k _ _ (fun z => by rw [z, hW] at h1; cases h1) h1, n⟩
theorem Nz.new {K : PySem.W.Frag} {C W x : Addr} {H : Hp} {ps ks : List (Int × Int)} (row : RowAt K C H x ps ks) (hW : H W = none) : Nz C H W x := by
  obtain ⟨dx, c, k, d, e, _, _, h1, _, _, h6, h7, _⟩ := row
  exact ⟨dx, c, k, d, e, h1, (fun z => by rw [← z, hW] at h6; cases h6), fun z => by rw [← z, hW] at h7; cases h7⟩
/-- what all the steps keep -/
structure J78 (K : PySem.W.Frag) (C : Addr) (H : Hp) (d g c : Addr) (b : Nat) {ks : List (Int × Int)} (p : Rws ks) (y4 y5 W : Addr) (cs : List (Int × Int)) : Prop where
  S : StB H d g c b
  r4 : RowAt K C H y4 p.1 ks
  r5 : RowAt K C H y5 (mirP p).1 (mirror ks)
  w : H W = some (.dK (kvsOf cs))
  n1 : W ≠ d
  n2 : W ≠ g
  n3 : W ≠ c
  z4 : Nz C H W y4
  z5 : Nz C H W y5
section
variable {K : PySem.W.Frag} {C B : Addr} {ks : List (Int × Int)} {N N2 N3 : L2.St → Hp → Prop} {R : VK} {H : Hp} {d g c y4 y5 y6 y8 W : Addr} {b : Nat} {p q : Rws ks} {cs : List (Int × Int)}
theorem J78.same {H' : Hp} (s : Same H H') (J : J78 K C H d g c b p y4 y5 W cs) : J78 K C H' d g c b p y4 y5 W cs :=
  ⟨StB.same s J.S, J.r4.same s, J.r5.same s, s _ _ J.w, J.n1, J.n2, J.n3, J.z4.same s, J.z5.same s⟩
theorem J78.kp {H' : Hp} {b' : Nat} (k : Kp d g H H') (S : StB H' d g c b') (J : J78 K C H d g c b p y4 y5 W cs) : J78 K C H' d g c b' p y4 y5 W cs :=
  ⟨S, J.r4.kp J.S k, J.r5.kp J.S k, k _ _ J.n1 J.n2 J.w, J.n1, J.n2, J.n3, J.z4.kp J.S k, J.z5.kp J.S k⟩
end
end SR
set_option Elab.async false
set_option linter.all false
set_option maxRecDepth 100000
set_option maxHeartbeats 4000000
namespace SR
open PySem PySem.Spec PyProof.Rows L2
theorem lc_dt {K : PySem.W.Frag} {te : TE} {g : TG} {tt : TT} {telt : TE} {vs : List Nat} {σ : L2.St} {H0 : Hp} {Q : VK} {Cc : Addr → Hp → Prop} (hte : ∀ R : VK, (∀ a H, Cc a H → R (.ref a) H) → te σ H0 R)
    (go : ∀ a H, Cc a H → tLc (iTup K (fun _ H' R => R (.ref a) H')) g tt telt vs σ H Q) : tLc (iTup K te) g tt telt vs σ H0 Q := hte _ fun a H hc => go a H hc
section
variable {α : Type} {K : PySem.W.Frag} {te : TE} {g : TG} {tt : TT} {telt : TE} {vs : List Nat} {σ : L2.St} {H : Hp} {a : Addr} {xs : List V} {ys : List α} {Q : VK}
theorem lcVtu {G : Hp → V → α → Prop} (P : α → Bool) (f : α → V) (hte : ∀ R : VK, R (.ref a) H → te σ H R) (hs : SqT K H a xs) (rel : ∀ (i : Nat) (x : V), xs[i]? = some x → ∃ y, ys[i]? = some y ∧ G H x y) (len : xs.length = ys.length) (hl : ys.length ≤ 5000) (hG : ∀ H' x y, Same H H' → G H x y → G H' x y)
    (turn : TurnV g tt telt vs σ H G ys P f) (q : ∀ D H', H D = none → Same H H' → H' D = some (.lst ((ys.filter P).map f)) → Q (.ref D) H') : tLc (iTup K te) g tt telt vs σ H Q := by
  refine hte _ ⟨a, rfl, ⟨_, hs⟩, fun D hD => ?_⟩
  refine lc_it (walk_tup (K := K) (a := a) (xs := xs)) (fun i H1 => Same H H1 ∧ H1 D = some (.lst (((ys.take i).filter P).map f))) ⟨same_new hD, upd_same⟩ (fun i H1 _ h => SqT.same h.1 hs) (stepV rel hl hG turn hD) fun H1 h => ?_
  have d1 := h.2
  rw [len, List.take_length] at d1
  exact q D H1 hD h.1 d1
end
def t_are_carriers (K : PySem.W.Frag) : TS := tSeq (tIfS (tOr (tNot (tB (tCB (rIsiT K) (tCons (tVar 0) (tCons (tTup (tCons (tC (.ty "list")) (tCons (tC (.ty "tuple")) (tNil)))) tNil))))) (tNot (tTest (tChain qLe qLe (tC (.int 1)) (tCB (qLen K) (tCons (tVar 0) (tNil))) (tC (.int 6))))))
  (tRet (tC (.bl false)))
  (tNext))
  (tRet (tCB (rAll K) (tCons (tLc ((fun σ H R => iList K (tVar 0) σ H R ∨ iTup K (tVar 0) σ H R)) (gName 1) (tYes) (tCall (spCapacity K) [] E0 (tCons (tVar 1) (tNil))) [1]) (tNil))))
def t_first_index (K : PySem.W.Frag) (c_Row : Addr) : TS := tRet (tCKw (rMinDf K) (tCons (tLc (iTup K (tOp (rCatA K) (tProp c_Row (spContents K c_Row) [] E0 (tVar 0)) (tProp c_Row (spCapacities K c_Row) [] E0 (tVar 0)))) (gTup K 2 (gCons (gName 1) (gCons (gName 2) (gNil)))) (tYes) (tVar 1) [1, 2]) (tNil)) (tCons (tC (.int 0)) tNil))
end SR
set_option Elab.async false
set_option linter.all false
set_option maxRecDepth 100000
set_option maxHeartbeats 4000000
namespace SR
open PySem PySem.Spec PyProof.Rows L2
structure WalkC (K : PySem.W.Frag) (C : Addr) : Prop where
  cls : Cls K C
  n1 : NoAttr K C "_row"
  n2 : NoAttr K C "_count_at"
  n3 : NoAttr K C "_carriers"
def wF1 (r : Addr) : List (Str × V) := [("_row", .ref r)]
def wF2 (r f : Addr) : List (Str × V) := [("_row", .ref r), ("_count_at", .ref f)]
def wFs (r f l : Addr) : List (Str × V) := [("_row", .ref r), ("_count_at", .ref f), ("_carriers", .ref l)]
theorem wp1 (r : Addr) : putF "_row" (.ref r) [] = wF1 r := rfl
theorem wp2 (r f : Addr) : putF "_count_at" (.ref f) (wF1 r) = wF2 r f := by
  unfold wF1 wF2
  rw [putNe (by decide)]
  rfl
theorem wp3 (r f l : Addr) : putF "_carriers" (.ref l) (wF2 r f) = wFs r f l := by
  unfold wF2 wFs
  rw [putNe (by decide), putNe (by decide)]
  rfl
theorem wl1 (r f l : Addr) : List.lookup ("_row" : Str) (wFs r f l) = some (V.ref r) := rfl
theorem wl2 (r f l : Addr) : List.lookup ("_count_at" : Str) (wFs r f l) = some (V.ref f) := by
  unfold wFs
  rw [lkNe (by decide), lkEq]
theorem wl3 (r f l : Addr) : List.lookup ("_carriers" : Str) (wFs r f l) = some (V.ref l) := by
  unfold wFs
  rw [lkNe (by decide), lkNe (by decide), lkEq]
theorem wlNo {m : Str} (r f l : Addr) (h1 : ¬ m = "_row") (h2 : ¬ m = "_count_at") (h3 : ¬ m = "_carriers") : List.lookup m (wFs r f l) = none := by
  unfold wFs
  rw [lkNe h1, lkNe h2, lkNe h3]
  rfl
/-- a carrier: its next box, its capacity, its load -/
def Cr3 (H : Hp) (t : Addr) (c : Int × Int × Int) : Prop := H t = some (.tup [.int c.1, .int c.2.1, .int c.2.2])
def CrsL (H : Hp) (l : Addr) (cs : List (Int × Int × Int)) : Prop := ∃ ts, H l = some (.lst (ts.map V.ref)) ∧ Paired (Cr3 H) ts cs
/-- a walk stands at x: its row at r, its counts at f, its carriers at l -/
structure WkAt (K : PySem.W.Frag) (CW CR : Addr) (H : Hp) (x r f l : Addr) {ks : List (Int × Int)} (p : Rws ks) (fs : List (Int × Int)) (cs : List (Int × Int × Int)) : Prop where
  ins : ∃ dx, H x = some (.ins CW dx (wFs r f l))
  row : RowAt K CR H r p.1 ks
  nz : Nz CR H f r
  hf : H f = some (.dK (kvsOf fs))
  hl : CrsL H l cs
/-- the numbers of a walk -/
structure WkOk (ks fs : List (Int × Int)) (cs : List (Int × Int × Int)) (n : Int) : Prop where
  nd : (fs.map Prod.fst).Nodup
  cn : ∀ t ∈ fs, 0 ≤ t.2 ∧ t.2 ≤ cap ks t.1
  ld : ∀ c ∈ cs, (1 ≤ c.2.1 ∧ c.2.1 ≤ 99) ∧ 0 ≤ c.2.2 ∧ c.2.2 ≤ c.2.1
  sum : (fs.map Prod.snd).sum + (cs.map fun c => c.2.2).sum = n
theorem CrsL.same {H H' : Hp} {l : Addr} {cs : List (Int × Int × Int)} (s : Same H H') (h : CrsL H l cs) : CrsL H' l cs := let ⟨ts, a, b⟩ := h; ⟨ts, s _ _ a, paired_imp (fun _ _ z => s _ _ z) b⟩
section
variable {K : PySem.W.Frag} {CW CR : Addr} {H H' : Hp} {x r f l : Addr} {ks : List (Int × Int)} {p : Rws ks} {fs : List (Int × Int)} {cs : List (Int × Int × Int)}
theorem WkAt.same (s : Same H H') (w : WkAt K CW CR H x r f l p fs cs) : WkAt K CW CR H' x r f l p fs cs :=
  ⟨let ⟨dx, h⟩ := w.ins; ⟨dx, s _ _ h⟩, w.row.same s, w.nz.same s, s _ _ w.hf, w.hl.same s⟩
theorem cr_at {ts : List Addr} {k : Nat} {c : Int × Int × Int} (pr : Paired (Cr3 H) ts cs) (hk : cs[k]? = some c) : ∃ t, ts[k]? = some t ∧ Cr3 H t c := by
  have kl : k < ts.length := by
    rw [paired_len pr]
    exact (List.getElem?_eq_some_iff.mp hk).1
  obtain ⟨y, h1, h2⟩ := paired_at pr (List.getElem?_eq_getElem kl)
  rw [hk] at h1
  cases h1
  exact ⟨_, List.getElem?_eq_getElem kl, h2⟩
theorem paired_st {α β : Type} {F : α → β → Prop} {x : α} {y : β} (h : F x y) : ∀ {xs : List α} {ys : List β} (k : Nat), Paired F xs ys → Paired F (xs.set k x) (ys.set k y)
  | _, _, _, .nil => .nil
  | _, _, 0, .cons _ t => .cons h t
  | _, _, k + 1, .cons a t => .cons a (paired_st h k t)
theorem ixNn {n j : Nat} (h : j < n) : ixN n (j : Int) = some j := by
  unfold ixN
  rw [if_pos (Int.natCast_nonneg j), if_pos (Int.ofNat_lt.mpr h), Int.toNat_natCast]
/-- self._carriers[k] -/
theorem CrsL.ix {k : Nat} {c : Int × Int × Int} {Q : VK} (h : CrsL H l cs) (hk : cs[k]? = some c) (q : ∀ t, Cr3 H t c → Q (.ref t) H) : rIxL K (.ref l) (.int (k : Int)) H Q := by
  obtain ⟨ts, hl, pr⟩ := h
  obtain ⟨t, ht, hc⟩ := cr_at pr hk
  exact ⟨l, _, _, .ref t, rfl, rfl, SqL.of hl, atI_nat (by rw [List.getElem?_map, ht]; rfl), q t hc⟩
/-- self._carriers[k] = t -/
theorem CrsL.set {k : Nat} {c c' : Int × Int × Int} {t : Addr} {Q : Hp → Prop} (h : CrsL H l cs) (hk : cs[k]? = some c) (ht : Cr3 H t c') (q : ∀ H', SameBut l H H' → CrsL H' l (cs.set k c') → Q H') : rSetL (.ref l) (.int (k : Int)) (.ref t) H Q := by
  obtain ⟨ts, hl, pr⟩ := h
  have kl : k < (ts.map V.ref).length := by
    rw [List.length_map, paired_len pr]
    exact (List.getElem?_eq_some_iff.mp hk).1
  refine ⟨l, _, _, k, rfl, rfl, hl, ixNn kl, ?_⟩
  have e : (ts.map V.ref).set k (.ref t) = (ts.set k t).map V.ref := (List.map_set ..).symm
  rw [e]
  have but : SameBut l H (upd H l (.lst ((ts.set k t).map V.ref))) := fun b o ne h => (upd_ne ne).trans h
  have kp : ∀ {b : Addr} {z : Int × Int × Int}, Cr3 H b z → Cr3 (upd H l (.lst ((ts.set k t).map V.ref))) b z := fun {b z} w => but _ _ (ne_of w hl (by intro e; cases e)) w
  exact q _ but ⟨ts.set k t, upd_same, paired_st (kp ht) k (paired_imp (fun _ _ z => kp z) pr)⟩
end
theorem RowAt.insx {K : PySem.W.Frag} {C : Addr} {H H' : Hp} {r x C0 dx0 : Addr} {fs0 : List (Str × V)} {ps ks : List (Int × Int)} (row : RowAt K C H r ps ks) (hx : H x = some (.ins C0 dx0 fs0)) (ne : x ≠ r) (k : SameBut x H H') : RowAt K C H' r ps ks := by
  obtain ⟨dx, c0, k0, d, e, ps0, ks0, h1, ⟨t1, h2, h3⟩, ⟨t2, h4, h5⟩, h6, h7, h8⟩ := row
  have kp : ∀ {a : Addr} {o : HO}, H a = some o → (∀ C dx fs, o ≠ .ins C dx fs) → H' a = some o := fun {a o} h m => k _ _ (fun z => by
    rw [z, hx] at h
    exact m _ _ _ (Option.some.inj h).symm) h
  have tp : ∀ {t : Addr} {p : Int × Int}, TupAt H t p → TupAt H' t p := fun {t p} z => kp (o := .tup [.int p.1, .int p.2]) z (fun _ _ _ z => nomatch z)
  refine ⟨dx, c0, k0, d, e, ps0, ks0, k _ _ (Ne.symm ne) h1, ⟨t1, ?_, paired_imp (fun _ _ z => tp z) h3⟩, ⟨t2, ?_, paired_imp (fun _ _ z => tp z) h5⟩, kp h6 (fun _ _ _ z => nomatch z), kp h7 (fun _ _ _ z => nomatch z), h8⟩
  · obtain ⟨o, a1, a2⟩ := h2
    exact ⟨o, kp a1 (fun _ _ _ z => by cases z), a2⟩
  · obtain ⟨o, a1, a2⟩ := h4
    exact ⟨o, kp a1 (fun _ _ _ z => by cases z), a2⟩
theorem RowAt.ner {K : PySem.W.Frag} {C : Addr} {H : Hp} {r x C0 dx0 : Addr} {ps ks : List (Int × Int)} (row : RowAt K C H r ps ks) (hx : H x = some (.ins C0 dx0 [])) : x ≠ r := fun e => by
  obtain ⟨dx, c0, k0, d, e', ps0, ks0, h1, _⟩ := row
  rw [← e, hx] at h1
  have z := Option.some.inj h1
  injection z with _ _ z
  unfold rowFs at z
  cases z
theorem sql_insx {K : PySem.W.Frag} {H H' : Hp} {a x C0 dx0 : Addr} {fs0 : List (Str × V)} {xs : List V} (h : SqL K H a xs) (hx : H x = some (.ins C0 dx0 fs0)) (k : SameBut x H H') : SqL K H' a xs := by
  have nx : ∀ {o : HO}, H a = some o → (∀ C dx fs, o ≠ .ins C dx fs) → H' a = some o := fun {o} h m => k _ _ (fun z => by
    rw [z, hx] at h
    exact m _ _ _ (Option.some.inj h).symm) h
  rcases h with (h | ⟨o, h⟩) | h
  · exact .inl (.inl (nx h fun _ _ _ z => nomatch z))
  · exact .inl (.inr ⟨o, nx h fun _ _ _ z => by cases z⟩)
  · exact .inr h
def tCrs (K : PySem.W.Frag) : TE := tLc ((fun σ H R => iList K (tVar 2) σ H R ∨ iTup K (tVar 2) σ H R)) (gName 4) (tYes) (tTup (tCons (tVar 3) (tCons (tVar 4) (tCons (tC (.int 0)) (tNil))))) [4]
@[irreducible] def xCrs := @tCrs
theorem xCrs_eq : @xCrs = @tCrs := by
  unfold xCrs
  rfl
end SR
set_option Elab.async false
set_option linter.all false
set_option maxRecDepth 100000
set_option maxHeartbeats 4000000
namespace SR
open PySem PySem.Spec PyProof.Rows L2
section
variable {K : PySem.W.Frag} {CW CR : Addr}
def spWAt (K : PySem.W.Frag) (CW CR : Addr) : Sp := fun vs H Q _ => ∃ (x r f l : Addr) (k : Nat) (ks : List (Int × Int)) (p : Rws ks) (fs : List (Int × Int)) (cs : List (Int × Int × Int)) (c : Int × Int × Int), vs = [.ref x, .int (k : Int)] ∧ WkAt K CW CR H x r f l p fs cs ∧ cs[k]? = some c ∧ ∀ t, Cr3 H t c → Q (.ref t) H
def t_Walk_at (K : PySem.W.Frag) : TS := tSeq (tIfS (tNot (tB (tCall (spBetween K) [] E0 (tCons (tVar 1) (tCons (tC (.int 0)) (tCons (tOp qSub (tCB (qLen K) (tCons (tFld K (tVar 0) "_carriers") (tNil))) (tC (.int 1))) (tNil)))))))
  ((fun _ _ _ => False))
  (tNext))
  (tRet (tOp (rIxL K) (tFld K (tVar 0) "_carriers") (tVar 1)))
theorem CrsL.sq {H : Hp} {l : Addr} {cs : List (Int × Int × Int)} (h : CrsL H l cs) : ∃ xs, SqL K H l xs ∧ xs.length = cs.length := let ⟨ts, a, b⟩ := h; ⟨_, SqL.of a, by rw [List.length_map, paired_len b]⟩
theorem pure_w_at (R : WalkC K CW) (vs : List V) (H : Hp) (Q : VK) (E : XK) (h : spWAt K CW CR vs H Q E) : t_Walk_at K { nx := fun _ H' => Q .non H', rt := Q } (start ["self", "k"] vs) H := by
  obtain ⟨x, r, f, l, k, ks, p, fs, cs, c, rfl, w, hk, q⟩ := h
  obtain ⟨dx, hx⟩ := w.ins
  obtain ⟨xs, sq, len⟩ := w.hl.sq (K := K)
  have kl : k < cs.length := (List.getElem?_eq_some_iff.mp hk).1
  refine ⟨_, rfl, _, rfl, x, CW, dx, _, _, rfl, hx, R.cls, R.n3, wl3 r f l, l, xs, rfl, .inl sq, _, _, rfl, rfl, .int (k : Int), _, _, _, rfl, .int _, fun _ => ⟨0, _, rfl, rfl, ?_⟩, fun z => nomatch z⟩
  rw [btw_iff.mpr ⟨(k : Int), rfl, by omega, by omega⟩]
  refine ⟨_, rfl, iteF ?_⟩
  exact ⟨_, rfl, x, CW, dx, _, _, rfl, hx, R.cls, R.n3, wl3 r f l, _, rfl, w.hl.ix hk q⟩
/-- all but the walk's own dict and list stay -/
def KW (f l : Addr) (H H' : Hp) : Prop := ∀ a o, a ≠ f → a ≠ l → H a = some o → H' a = some o
theorem WkAt.ne {H : Hp} {x r f l : Addr} {ks : List (Int × Int)} {p : Rws ks} {fs : List (Int × Int)} {cs : List (Int × Int × Int)} (w : WkAt K CW CR H x r f l p fs cs) : f ≠ l ∧ x ≠ f ∧ x ≠ l ∧ r ≠ f ∧ r ≠ l := by
  obtain ⟨dx, hx⟩ := w.ins
  obtain ⟨ts, hl, _⟩ := w.hl
  obtain ⟨dr, fr, hr⟩ := w.row.at
  exact ⟨ne_of w.hf hl (by intro e; cases e), ne_of hx w.hf (by intro e; cases e), ne_of hx hl (by intro e; cases e), ne_of hr w.hf (by intro e; cases e), ne_of hr hl (by intro e; cases e)⟩
theorem Nz.kw {H H' : Hp} {W x : Addr} (h : Nz CR H W x) (k : ∀ o, H x = some o → H' x = some o) : Nz CR H' W x := let ⟨a, b, c, d, e, h1, n⟩ := h; ⟨a, b, c, d, e, k _ h1, n⟩
end
end SR
set_option Elab.async false
set_option linter.all false
set_option maxRecDepth 100000
set_option maxHeartbeats 4000000
set_option Elab.async false
set_option linter.all false
set_option maxRecDepth 100000
set_option maxHeartbeats 2000000
set_option Elab.async false
set_option linter.all false
set_option maxRecDepth 100000
set_option maxHeartbeats 2000000
set_option Elab.async false
set_option linter.all false
set_option maxRecDepth 100000
set_option maxHeartbeats 2000000
set_option Elab.async false
set_option linter.all false
set_option maxRecDepth 100000
set_option maxHeartbeats 2000000
namespace SR
open PySem PySem.Spec PyProof.Rows L2
/-- the dict at W is none of the row's own -/
def Nw (C : Addr) (H : Hp) (W x : Addr) : Prop := ∃ dx c k d e, H x = some (.ins C dx (rowFs c k d e)) ∧ W ≠ d ∧ W ≠ e
theorem Nw.all {C W x : Addr} {H : Hp} (h : Nw C H W x) : ∀ dx c k d e, H x = some (.ins C dx (rowFs c k d e)) → W ≠ d ∧ W ≠ e := fun dx c k d e h1 => by
  obtain ⟨dx', c', k', d', e', h2, n1, n2⟩ := h
  rw [h1] at h2
  have z := Option.some.inj h2
  have fe : rowFs c k d e = rowFs c' k' d' e' := by
    injection z
  unfold rowFs at fe
  injection fe with _ fe
  injection fe with _ fe
  injection fe with f3 fe
  injection fe with f4 _
  have e3 : d = d' := V.ref.inj (congrArg Prod.snd f3)
  have e4 : e = e' := V.ref.inj (congrArg Prod.snd f4)
  subst e3 e4
  exact ⟨n1, n2⟩
theorem Nw.same {C W x : Addr} {H H' : Hp} (s : Same H H') (h : Nw C H W x) : Nw C H' W x := let ⟨dx, c, k, d, e, h1, n⟩ := h; ⟨dx, c, k, d, e, s _ _ h1, n⟩
theorem Nw.kp {C W x d g c : Addr} {b : Nat} {H H' : Hp} (S : StB H d g c b) (k : Kp d g H H') (h : Nw C H W x) : Nw C H' W x := let ⟨dx, c, k', d, e, h1, n⟩ := h; ⟨dx, c, k', d, e, kp_at S k h1 (fun _ z => nomatch z) (fun _ _ z => nomatch z), n⟩
theorem Nw.put {C W x : Addr} {H H' : Hp} {kvs : List (Key × V)} (hW : H W = some (.dK kvs)) (k : ∀ a o, a ≠ W → H a = some o → H' a = some o) (h : Nw C H W x) : Nw C H' W x := by
  obtain ⟨dx, c, k', d, e, h1, n⟩ := h
  exact ⟨dx, c, k', d, e, k _ _ (fun z => by rw [z, hW] at h1; cases h1) h1, n⟩
theorem Nw.new {K : PySem.W.Frag} {C W x : Addr} {H : Hp} {ps ks : List (Int × Int)} (row : RowAt K C H x ps ks) (hW : H W = none) : Nw C H W x := by
  obtain ⟨dx, c, k, d, e, _, _, h1, _, _, h6, h7, _⟩ := row
  exact ⟨dx, c, k, d, e, h1, (fun z => by rw [← z, hW] at h6; cases h6), fun z => by rw [← z, hW] at h7; cases h7⟩
end SR
set_option Elab.async false
set_option linter.all false
set_option maxRecDepth 100000
set_option maxHeartbeats 2000000
namespace SR
open PySem PySem.Spec PyProof.Rows L2
/-- what all sweeps of each capacity pick up, from the least capacity on -/
def allPk (cs ts : List (Int × Int)) (L : List Int) : List (Int × Int) := L.map fun y => (y, cnt cs y * pkT y ts)
end SR
set_option Elab.async false
set_option linter.all false
set_option maxRecDepth 100000
set_option maxHeartbeats 2000000
set_option Elab.async false
set_option linter.all false
set_option maxRecDepth 100000
set_option maxHeartbeats 4000000
set_option Elab.async false
set_option linter.all false
set_option maxRecDepth 100000
set_option maxHeartbeats 1000000
namespace SR
open PySem PySem.Spec PyProof.Rows L2
def shP (f : Int) (p : Int × Int) : Int × Int := (p.1 + f, p.2)
theorem shP_0 (ps : List (Int × Int)) : ps.map (shP 0) = ps := by
  have : ∀ p ∈ ps, shP 0 p = p := fun p _ => by
    unfold shP
    rw [Int.add_zero]
  rw [map_same this, List.map_id']
theorem vd_move {ps : List (Int × Int)} (v : Vd ps []) (f : Int) : Vd (ps.map (shP f)) [] := by
  have e : ps.map (shP f) = ones ((ps.map Prod.fst).map (· + f)) := by
    have h := vd_ones v
    generalize ps.map Prod.fst = M at h ⊢
    rw [h]
    unfold ones
    rw [List.map_map, List.map_map]
    rfl
  have a : ((ps.map Prod.fst).map (· + f)).Pairwise (· < ·) := List.pairwise_map.mpr ((vd_asc v).imp fun {x y} h => by omega)
  have l : ps.length ≤ 40 := by
    have h : total ps ≤ 40 := v.ok.sm
    rw [vd_ones v] at h
    have t : total (ones (ps.map Prod.fst)) = (ps.map Prod.fst).length := by
      unfold total ones
      rw [List.map_map]
      exact sum_one _ _ fun _ _ => rfl
    rw [t, List.length_map] at h
    omega
  rw [e]
  exact ⟨ones_ok a (by rw [List.length_map, List.length_map]; exact l), ones_asc a, .nil⟩
theorem trP_move {ps : List (Int × Int)} (v : Vd ps []) (f : Int) : trP (⟨ps.map (shP f), vd_move v f⟩ : Rws []) = (trP (⟨ps, v⟩ : Rws [])).map fun t => (t.1, t.2 + f) := by
  show trL ((ps.map (shP f)).map Prod.fst) = (trL (ps.map Prod.fst)).map _
  have e : (ps.map (shP f)).map Prod.fst = (ps.map Prod.fst).map (· + f) := by
    rw [List.map_map, List.map_map]
    rfl
  rw [e]
  unfold trL
  rw [tr_shift, List.length_map]
end SR
set_option Elab.async false
set_option linter.all false
set_option maxRecDepth 100000
set_option maxHeartbeats 1000000
set_option Elab.async false
set_option linter.all false
set_option maxRecDepth 100000
set_option maxHeartbeats 1000000
set_option Elab.async false
set_option linter.all false
set_option maxRecDepth 100000
set_option maxHeartbeats 1000000
set_option Elab.async false
set_option linter.all false
set_option maxRecDepth 100000
set_option maxHeartbeats 2000000
set_option Elab.async false
set_option linter.all false
set_option maxRecDepth 100000
set_option maxHeartbeats 4000000
set_option Elab.async false
set_option linter.all false
set_option maxRecDepth 100000
set_option maxHeartbeats 4000000
set_option Elab.async false
set_option linter.all false
set_option maxRecDepth 100000
set_option maxHeartbeats 4000000
set_option Elab.async false
set_option linter.all false
set_option maxRecDepth 100000
set_option maxHeartbeats 4000000
set_option Elab.async false
set_option linter.all false
set_option maxRecDepth 100000
set_option maxHeartbeats 4000000
set_option Elab.async false
set_option linter.all false
set_option maxRecDepth 100000
set_option maxHeartbeats 4000000
namespace SR
open PySem PySem.Spec PyProof.Rows L2
section
variable {K : PySem.W.Frag} {CW CR : Addr} {H H' : Hp} {d g c x a w r f l : Addr} {b : Nat} {ks : List (Int × Int)} {p : Rws ks} {fs gs : List (Int × Int)} {cs : List (Int × Int × Int)} {ms : List Int}
theorem WkAt.kp (S : StB H d g c b) (k : Kp d g H H') (f1 : f ≠ d) (f2 : f ≠ g) (l1 : l ≠ d) (l2 : l ≠ g) (W : WkAt K CW CR H w r f l p fs cs) : WkAt K CW CR H' w r f l p fs cs := by
  obtain ⟨dx, hx⟩ := W.ins
  obtain ⟨ts, hl, pr⟩ := W.hl
  exact ⟨⟨dx, kp_at S k hx (fun _ z => by cases z) (fun _ _ z => by cases z)⟩, W.row.kp S k, W.nz.kp S k, k _ _ f1 f2 W.hf, ts, k _ _ l1 l2 hl, paired_imp (fun _ _ z => kp_at S k z (fun _ z => by cases z) (fun _ _ z => by cases z)) pr⟩
theorem StB.kw (S : StB H d g c b) (k : KW f l H H') (f1 : f ≠ d ∧ f ≠ g ∧ f ≠ c) (l1 : l ≠ d ∧ l ≠ g ∧ l ≠ c) : StB H' d g c b := by
  obtain ⟨r, t, gs, cs, h1, h2, h3, h4⟩ := S
  exact ⟨r, t, gs, cs, k _ _ f1.1.symm l1.1.symm h1, k _ _ f1.2.1.symm l1.2.1.symm h2, k _ _ f1.2.2.symm l1.2.2.symm h3, h4⟩
/-- what a law's walk keeps; H0: the heap ahead of it -/
structure I69 (K : PySem.W.Frag) (CW CR : Addr) (H0 H : Hp) (d g c : Addr) (b : Nat) (x a w f l : Addr) {ks : List (Int × Int)} (p : Rws ks) (ms : List Int) (gs : List (Int × Int)) (cs : List (Int × Int × Int)) (n : Int) : Prop where
  S : StB H d g c b
  k0 : Kp d g H0 H
  wk : WkAt K CW CR H w x f l p gs cs
  ok : WkOk ks gs cs n
  pm : (cs.map fun c => c.2.1).Perm ms
  hA : H a = some (.lst (ms.map V.int))
  f1 : f ≠ d ∧ f ≠ g ∧ f ≠ c
  l1 : l ≠ d ∧ l ≠ g ∧ l ≠ c
  f0 : H0 f = none
  l0 : H0 l = none
  a0 : a ≠ d ∧ a ≠ g
  aA : a ≠ f ∧ a ≠ l
variable {H0 : Hp} {n : Int}
theorem I69.kp {b' : Nat} (k : Kp d g H H') (S : StB H' d g c b') (I : I69 K CW CR H0 H d g c b x a w f l p ms gs cs n) : I69 K CW CR H0 H' d g c b' x a w f l p ms gs cs n :=
  ⟨S, I.k0.trans k, I.wk.kp I.S k I.f1.1 I.f1.2.1 I.l1.1 I.l1.2.1, I.ok, I.pm, k _ _ I.a0.1 I.a0.2 I.hA, I.f1, I.l1, I.f0, I.l0, I.a0, I.aA⟩
theorem I69.kw {gs' : List (Int × Int)} {cs' : List (Int × Int × Int)} (k : KW f l H H') (I : I69 K CW CR H0 H d g c b x a w f l p ms gs cs n) (wk : WkAt K CW CR H' w x f l p gs' cs') (ok : WkOk ks gs' cs' n) (pm : (cs'.map fun c => c.2.1).Perm (cs.map fun c => c.2.1)) : I69 K CW CR H0 H' d g c b x a w f l p ms gs' cs' n :=
  ⟨I.S.kw k I.f1 I.l1, fun y o y1 y2 h => k _ _ (fun e => by rw [e, I.f0] at h; cases h) (fun e => by rw [e, I.l0] at h; cases h) (I.k0 _ _ y1 y2 h), wk, ok, pm.trans I.pm, k _ _ I.aA.1 I.aA.2 I.hA, I.f1, I.l1, I.f0, I.l0, I.a0, I.aA⟩
theorem I69.same (s : Same H H') (I : I69 K CW CR H0 H d g c b x a w f l p ms gs cs n) : I69 K CW CR H0 H' d g c b x a w f l p ms gs cs n :=
  ⟨StB.same s I.S, fun y o y1 y2 h => s _ _ (I.k0 _ _ y1 y2 h), I.wk.same s, I.ok, I.pm, s _ _ I.hA, I.f1, I.l1, I.f0, I.l0, I.a0, I.aA⟩
theorem I69.mono {b' : Nat} (I : I69 K CW CR H0 H d g c b x a w f l p ms gs cs n) (e : b' ≤ b) : I69 K CW CR H0 H d g c b' x a w f l p ms gs cs n := { I with S := I.S.mono e }
end
end SR
set_option Elab.async false
set_option linter.all false
set_option maxRecDepth 100000
set_option maxHeartbeats 4000000
namespace SR
open PySem PySem.Spec PyProof.Rows L2
section
variable {K : PySem.W.Frag} {CW CR : Addr}
def t_nowC (K : PySem.W.Frag) : TS := tLock (tAsg (tLc (iItems (tFld K (tVar 0) "_count_at")) (gTup K 2 (gCons (gName 2) (gCons (gName 3) (gNil)))) (tTest (tOp qGt (tVar 3) (tC (.int 0)))) (tTup (tCons (tVar 2) (tCons (tVar 3) (tNil)))) [2, 3]) (gName 1))
def t_Walk_now (K : PySem.W.Frag) (c_Row : Addr) : TS := tSeq (t_nowC K)
  (tRet (tMake c_Row (spRowInit K c_Row) [] E0 (tCons (tVar 1) (tCons (tProp c_Row (spCapacities K c_Row) [] E0 (tFld K (tVar 0) "_row")) (tNil)))))
theorem nowC {x r f l : Addr} {H : Hp} {ks fs : List (Int × Int)} {p : Rws ks} {cs : List (Int × Int × Int)} {x1 x2 x3 : Option V} {N N2 N3 : L2.St → Hp → Prop} {RT : VK} (R : WalkC K CW) (w : WkAt K CW CR H x r f l p fs cs) (hl : fs.length ≤ 900)
    (hN : ∀ D H', Same H H' → PairsL H' D (fs.filter fun t => decide (0 < t.2)) → N [some (.ref x), some (.ref D), x2, x3] H') :
    t_nowC K { nx := N, rt := RT, bk := N2, ct := N3 } [some (.ref x), x1, x2, x3] H := by
  have hF := w.hf
  refine ⟨f, _, hF, trivial, fun od => ?_⟩
  have A : upd H f (.frz od (.dK (kvsOf fs))) f = some (.frz od (.dK (kvsOf fs))) := upd_same
  have k1 : ∀ b o, b ≠ f → H b = some o → upd H f (.frz od (.dK (kvsOf fs))) b = some o := fun b o e h => (upd_ne e).trans h
  have fr : ∀ b, upd H f (.frz od (.dK (kvsOf fs))) b = none → H b = none ∧ b ≠ f := fun b e => by
    by_cases z : b = f
    · rw [z, upd_same] at e
      cases e
    · rw [upd_ne z] at e
      exact ⟨e, z⟩
  obtain ⟨dx, hx⟩ := w.ins
  have hx1 := k1 _ _ w.ne.2.1 hx
  generalize upd H f (.frz od (.dK (kvsOf fs))) = H1 at A k1 fr hx1 ⊢
  refine ⟨_, rfl, x, CW, dx, _, _, rfl, hx1, R.cls, R.n2, wl2 r f l, f, od, _, rfl, A, fun D hD => ?_⟩
  obtain ⟨hD0, nDF⟩ := fr D hD
  have kl : (kvsOf fs).length = fs.length := by unfold kvsOf; rw [List.length_map]
  refine lc_it (walk_items (d := f) (o := od) (kvs := kvsOf fs)) (fun i H2 => Same H1 H2 ∧ PairsL H2 D ((fs.take i).filter fun t => decide (0 < t.2))) ⟨same_new hD, [], upd_same, .nil⟩ ?_ ?_ ?_
  · rintro i H2 _ ⟨s2, _⟩
    exact s2 _ _ A
  · rintro i y H2 H3 hi ⟨s2, us, d2, pr⟩ ⟨T, v1, v2, rfl, hT, rfl, e1, e2⟩
    obtain ⟨t, ht, rfl, rfl⟩ : ∃ t : Int × Int, fs[i]? = some t ∧ v1 = .int t.1 ∧ v2 = .int t.2 := by
      have g : (kvsOf fs)[i]? = (fs[i]?).map fun p => ((.inl p.1, .int p.2) : Key × V) := List.getElem?_map ..
      dsimp only at e1 e2
      rw [g] at e1 e2
      cases h : fs[i]? with
      | none =>
        rw [h] at e1
        cases e1
      | some p =>
        rw [h] at e1 e2
        exact ⟨p, rfl, (Option.some.inj e1).symm, (Option.some.inj e2).symm⟩
    have s3 := same_new (o := .tup [.int t.1, .int t.2]) hT
    have T3 : upd H2 T (.tup [.int t.1, .int t.2]) T = some (.tup [.int t.1, .int t.2]) := upd_same
    generalize upd H2 T (.tup [.int t.1, .int t.2]) = H3 at s3 T3 ⊢
    have tk : fs.take (i + 1) = fs.take i ++ [t] := by
      rw [List.take_succ, ht]
      rfl
    refine ⟨T, _, rfl, SqT.of T3, rfl, _, _, rfl, _, _, rfl, rfl, rfl, _, rfl, _, _, rfl, rfl, _, rfl, ?_⟩
    have d3 := s3 _ _ d2
    by_cases e : 0 < t.2
    · rw [decide_eq_true e]
      refine iteT ⟨_, rfl, _, rfl, sz (by show 2 ≤ 1000; decide), fun n hn => ?_⟩
      have s4 := same_new (o := .tup [.int t.1, .int t.2]) hn
      have T4 : TupAt (upd H3 n (.tup [.int t.1, .int t.2])) n t := upd_same
      generalize upd H3 n (.tup [.int t.1, .int t.2]) = H4 at s4 T4 ⊢
      have d4 := s4 _ _ d3
      have ul : us.length ≤ 900 := by
        rw [paired_len pr]
        have a := List.length_filter_le (fun t : Int × Int => decide (0 < t.2)) (fs.take i)
        have b := List.length_take_le' i fs
        omega
      have keep : ∀ {b : Addr} {z : Int × Int}, TupAt H4 b z → TupAt (upd H4 D (.lst (us.map V.ref ++ [.ref n]))) b z := fun {b z} w => (upd_ne (ne_of w d4 (by intro e; cases e))).trans w
      refine ⟨_, d4, ?_, same_upd ((s2.trans s3).trans s4) hD, us ++ [n], ?_, ?_⟩
      · rw [List.length_map]
        exact Nat.lt_of_le_of_lt (show us.length ≤ 1000 by omega) (by decide)
      · rw [upd_same, List.map_append]
        rfl
      · rw [tk, List.filter_append, List.filter_cons_of_pos (p := fun t : Int × Int => decide (0 < t.2)) (decide_eq_true e)]
        exact paired_snoc (keep T4) (paired_imp (fun _ _ z => keep (s4 _ _ (s3 _ _ z))) pr)
    · rw [decide_eq_false e]
      refine iteF ⟨s2.trans s3, us, d3, ?_⟩
      rw [tk, List.filter_append, List.filter_cons_of_neg (p := fun t : Int × Int => decide (0 < t.2)) (by rw [decide_eq_false e]; exact Bool.false_ne_true), List.filter_nil, List.append_nil]
      exact paired_imp (fun _ _ z => s3 _ _ z) pr
  · rintro H2 ⟨s2, us, d2, pr⟩
    rw [kl, List.take_length] at pr
    have s4 : Same H (upd H2 f (.dK (kvsOf fs))) := same_lock hF fun b o e h => s2 _ _ (k1 b o e h)
    have up : ∀ {b : Addr} {z : Int × Int}, TupAt H2 b z → TupAt (upd H2 f (.dK (kvsOf fs))) b z := fun {b z} w => (upd_ne (fun e => by
      unfold TupAt at w
      rw [e, s2 _ _ A] at w
      cases w)).trans w
    exact ⟨s2 _ _ A, hN D _ s4 ⟨us, (upd_ne nDF).trans d2, paired_imp (fun _ _ z => up z) pr⟩⟩
@[irreducible] def xNowC := @t_nowC
theorem xNowC_eq : @xNowC = @t_nowC := by
  unfold xNowC
  rfl
end
end SR
set_option Elab.async false
set_option linter.all false
set_option maxRecDepth 100000
set_option maxHeartbeats 4000000
namespace SR
open PySem PySem.Spec PyProof.Rows L2
section
variable {K : PySem.W.Frag} {CW CR : Addr}
/-- the field of a walk is written -/
theorem WkAt.fld {H : Hp} {x r f l f' l' dx : Addr} {ks : List (Int × Int)} {p : Rws ks} {fs gs : List (Int × Int)} {cs cs' : List (Int × Int × Int)} (w : WkAt K CW CR H x r f l p fs cs) (hx : H x = some (.ins CW dx (wFs r f l))) (nx : x ≠ r) (hf : H f' = some (.dK (kvsOf gs))) (hl : CrsL H l' cs') (nz : Nz CR H f' r) :
    SameBut x H (upd H x (.ins CW dx (wFs r f' l'))) ∧ WkAt K CW CR (upd H x (.ins CW dx (wFs r f' l'))) x r f' l' p gs cs' := by
  have b : SameBut x H (upd H x (.ins CW dx (wFs r f' l'))) := but_upd
  obtain ⟨ts, h1, pr⟩ := hl
  refine ⟨b, ⟨dx, upd_same⟩, w.row.insx hx nx b, nz.kw fun o h => b _ _ (Ne.symm nx) h, b _ _ (ne_of hf hx (by intro e; cases e)) hf, ts, b _ _ (ne_of h1 hx (by intro e; cases e)) h1, paired_imp (fun _ _ z => b _ _ (ne_of z hx (by intro e; cases e)) z) pr⟩
end
end SR
set_option Elab.async false
set_option linter.all false
set_option maxRecDepth 100000
set_option maxHeartbeats 4000000
namespace SR
open PySem PySem.Spec PyProof.Rows L2
/-- all but the state and the walk's own stay -/
def KA (d g f l : Addr) (H H' : Hp) : Prop := ∀ a o, a ≠ d → a ≠ g → a ≠ f → a ≠ l → H a = some o → H' a = some o
structure I30 (K : PySem.W.Frag) (CW CR : Addr) (H0 H : Hp) (d g c : Addr) (b : Nat) (x w f l : Addr) {ks : List (Int × Int)} (p : Rws ks) (ms : List Int) (gs : List (Int × Int)) (cs : List (Int × Int × Int)) (n : Int) : Prop where
  S : StB H d g c b
  ka : KA d g f l H0 H
  wk : WkAt K CW CR H w x f l p gs cs
  ok : WkOk ks gs cs n
  pm : (cs.map fun c => c.2.1).Perm ms
  f1 : f ≠ d ∧ f ≠ g ∧ f ≠ c
  l1 : l ≠ d ∧ l ≠ g ∧ l ≠ c
section
variable {K : PySem.W.Frag} {CW CR CA CB : Addr} {H H' H0 : Hp} {d g c x a w f l : Addr} {b : Nat} {ks : List (Int × Int)} {p : Rws ks} {gs : List (Int × Int)} {cs : List (Int × Int × Int)} {ms : List Int} {n : Int}
theorem I30.kp {b' : Nat} (k : Kp d g H H') (S : StB H' d g c b') (I : I30 K CW CR H0 H d g c b x w f l p ms gs cs n) : I30 K CW CR H0 H' d g c b' x w f l p ms gs cs n :=
  ⟨S, fun y o y1 y2 y3 y4 h => k _ _ y1 y2 (I.ka _ _ y1 y2 y3 y4 h), I.wk.kp I.S k I.f1.1 I.f1.2.1 I.l1.1 I.l1.2.1, I.ok, I.pm, I.f1, I.l1⟩
theorem I30.kw {gs' : List (Int × Int)} {cs' : List (Int × Int × Int)} (k : KW f l H H') (I : I30 K CW CR H0 H d g c b x w f l p ms gs cs n) (wk : WkAt K CW CR H' w x f l p gs' cs') (ok : WkOk ks gs' cs' n) (pm : (cs'.map fun c => c.2.1).Perm (cs.map fun c => c.2.1)) : I30 K CW CR H0 H' d g c b x w f l p ms gs' cs' n :=
  ⟨I.S.kw k I.f1 I.l1, fun y o y1 y2 y3 y4 h => k _ _ y3 y4 (I.ka _ _ y1 y2 y3 y4 h), wk, ok, pm.trans I.pm, I.f1, I.l1⟩
theorem I30.same (s : Same H H') (I : I30 K CW CR H0 H d g c b x w f l p ms gs cs n) : I30 K CW CR H0 H' d g c b x w f l p ms gs cs n :=
  ⟨StB.same s I.S, fun y o y1 y2 y3 y4 h => s _ _ (I.ka _ _ y1 y2 y3 y4 h), I.wk.same s, I.ok, I.pm, I.f1, I.l1⟩
theorem I30.mono {b' : Nat} (I : I30 K CW CR H0 H d g c b x w f l p ms gs cs n) (e : b' ≤ b) : I30 K CW CR H0 H d g c b' x w f l p ms gs cs n := { I with S := I.S.mono e }
theorem I30.len (I : I30 K CW CR H0 H d g c b x w f l p ms gs cs n) : cs.length = ms.length := by
  have := I.pm.length_eq
  rw [List.length_map] at this
  exact this
end
end SR
set_option Elab.async false
set_option linter.all false
set_option maxRecDepth 100000
set_option maxHeartbeats 4000000
namespace SR
open PySem PySem.Spec PyProof.Rows L2
def NumsOk (ns : List (Int × Int)) : Prop := (ns.map Prod.fst).Nodup ∧ ns.length ≤ 7 ∧ ∀ t ∈ ns, 1 ≤ t.1 ∧ t.1 ≤ 99 ∧ -6 ≤ t.2 ∧ t.2 ≤ 6
end SR
set_option Elab.async false
set_option linter.all false
set_option maxRecDepth 100000
set_option maxHeartbeats 4000000
set_option Elab.async false
set_option linter.all false
set_option maxRecDepth 100000
set_option maxHeartbeats 4000000
set_option Elab.async false
set_option linter.all false
set_option maxRecDepth 100000
set_option maxHeartbeats 4000000
namespace SR
open PySem PySem.Spec PyProof.Rows L2
def sg (ns : List (Int × Int)) (y : Int) : Bool := decide (cnt ns y < 0)
end SR
set_option Elab.async false
set_option linter.all false
set_option maxRecDepth 100000
set_option maxHeartbeats 4000000
namespace SR
open PySem PySem.Spec PyProof.Rows L2
section
variable {ks : List (Int × Int)}
def fw (ms : List Int) : List (Int × Bool) := ms.map fun m => (m, false)
end
end SR
set_option Elab.async false
set_option linter.all false
set_option maxRecDepth 100000
set_option maxHeartbeats 4000000
namespace SR
open PySem PySem.Spec PyProof.Rows L2
theorem StB.but {H H' : Hp} {d g c U : Addr} {b : Nat} (S : StB H d g c b) (k : SameBut U H H') (u1 : d ≠ U) (u2 : g ≠ U) (u3 : c ≠ U) : StB H' d g c b := by
  obtain ⟨r, t, gs, cs, h1, h2, h3, h4⟩ := S
  exact ⟨r, t, gs, cs, k _ _ u1 h1, k _ _ u2 h2, k _ _ u3 h3, h4⟩
end SR
set_option Elab.async false
set_option linter.all false
set_option maxRecDepth 100000
set_option maxHeartbeats 4000000
namespace SR
open PySem PySem.Spec PyProof.Rows L2
def spNear20 (K : PySem.W.Frag) : Sp := fun vs H Q _ => ∃ (d g c : Addr) (b : Nat) (a : Addr) (n : Int) (ks : List (Int × Int)), vs = [.ref d, .ref a, .int n] ∧ StB H d g c (b + 26) ∧ a ≠ d ∧ a ≠ g ∧ H a = some (.dK (kvsOf ks)) ∧ (∀ p ∈ ks, sizeOk p) ∧ 0 ≤ n ∧ n ≤ 40 ∧
  ∀ r H' ps, StB H' d g c b → Kp d g H H' → r ≠ d → r ≠ g → r ≠ c → H r = none → H' r = some (.dK (kvsOf ps)) → Asc ps → (∀ p ∈ ps, 1 ≤ p.2 ∧ p.2 ≤ cap ks p.1) → (∀ p ∈ ps, -4 ≤ p.1 ∧ p.1 ≤ 8) → (ps.map Prod.snd).sum ≤ n → Q (.ref r) H'
def t_nearT20 (K : PySem.W.Frag) : TS := (tSeq (tAsg (tCB qMin2 (tCons (tVar 4) (tCons (tCall (spPick K) [] E0 (tCons (tVar 0) (tCons (tLst (tCons (tC (.int 0)) (tCons (tC (.int 0)) (tCons (tC (.int 1)) (tCons (tC (.int 1)) (tCons (tCall spTake [] E0 (tCons (tVar 0) (tCons (tOp qAdd (tDGet2 (tVar 1) (tVar 5) (tC (.int 1))) (tC (.int 1))) (tNil)))) (tNil))))))) (tNil)))) (tNil)))) (gName 6))
  (tSeq (tAsg (tCB qMin2 (tCons (tVar 6) (tCons (tDGet2 (tVar 1) (tVar 5) (tC (.int 1))) (tNil)))) (gName 6))
  (tIfS (tTest (tOp qGt (tVar 6) (tC (.int 0))))
  (tAsg (tTup (tCons (tVar 6) (tCons (tOp qSub (tVar 4) (tVar 6)) (tNil)))) (gTup K 2 (gCons (gSub (tVar 3) (tVar 5) rSetD) (gCons (gName 4) (gNil)))))
  (tNext))))
def t_near20 (K : PySem.W.Frag) : TS := tSeq (tPar 3 4 (tCons (tDNewK) (tCons (tVar 2) (tNil))))
  (tSeq (tFor (iRng2 (tCons (tUn (rU fun i => .int (-i)) (tC (.int 4))) (tCons (tC (.int 9)) (tNil)))) (gName 5)
  (t_nearT20 K))
  (tRet (tVar 3)))
@[irreducible] def xNearT20 := @t_nearT20
theorem xNearT20_eq : @xNearT20 = @t_nearT20 := by
  unfold xNearT20
  rfl
theorem nearT20 {K : PySem.W.Frag} {H : Hp} {d g c F a : Addr} {b : Nat} {n place spare : Int} {fs ks : List (Int × Int)} {w6 : Option V} {N N2 N3 : L2.St → Hp → Prop} {R : VK} (S : StB H d g c (b + 2)) (hF : H F = some (.dK (kvsOf fs))) (hA : H a = some (.dK (kvsOf ks)))
    (f1 : F ≠ d) (f2 : F ≠ g) (f3 : F ≠ c) (fa : F ≠ a) (a1 : a ≠ d) (a2 : a ≠ g) (hk : ∀ p ∈ ks, sizeOk p) (B : Bx n ks fs spare) (n40 : n ≤ 40) (p0 : -4 ≤ place) (p1 : place ≤ 8) (asc : Asc fs) (lt : ∀ p ∈ fs, p.1 < place) (near : ∀ p ∈ fs, -4 ≤ p.1 ∧ p.1 ≤ 8)
    (hN : ∀ H' gs sp w, StB H' d g c b → (∀ x o, x ≠ F → x ≠ d → x ≠ g → H x = some o → H' x = some o) → H' F = some (.dK (kvsOf gs)) → Bx n ks gs sp → Asc gs → (∀ p ∈ gs, p.1 < place + 1) → (∀ p ∈ gs, -4 ≤ p.1 ∧ p.1 ≤ 8) → N [some (.ref d), some (.ref a), some (.int n), some (.ref F), some (.int sp), some (.int place), w] H') :
    t_nearT20 K { nx := N, rt := R, bk := N2, ct := N3 } [some (.ref d), some (.ref a), some (.int n), some (.ref F), some (.int spare), some (.int place), w6] H := by
  obtain ⟨c1, c2⟩ := cap_ok hk place
  have gv : (valV (kvsOf ks) (.inl place)).getD (.int 1) = .int (cap ks place) := by
    rw [val_pairs]
    unfold cap
    cases ks.lookup place <;> rfl
  refine ⟨_, rfl, _, rfl, _, rfl, _, rfl, a, rfl, .inl ⟨_, .inl hA⟩, _, rfl, _, DGet.k (k := .inl place) hA, cap ks place, 1, gv, rfl, d, g, c, b + 1, cap ks place + 1, rfl, S, by omega, by omega, fun t H1 t0 t1 S1 q1 => ⟨sz (by show 5 ≤ 1000; decide), fun l hl => ?_⟩⟩
  obtain ⟨l1, l2, l3⟩ := S1.off hl
  refine ⟨d, g, c, b, l, _, rfl, S1.new hl, SqL.of upd_same, l1, l2, by show 0 < 5; decide, by show 5 < 1000; decide, fun v H2 hv S2 q2 => ?_⟩
  obtain ⟨u, rfl, u0⟩ : ∃ u : Int, v = .int u ∧ 0 ≤ u := by
    simp only [List.mem_cons, List.not_mem_nil, or_false] at hv
    rcases hv with rfl | rfl | rfl | rfl | rfl <;> first | exact ⟨_, rfl, by decide⟩ | exact ⟨_, rfl, t0⟩
  clear hv
  have k2 : Kp d g H H2 := (q1.trans (Kp.new hl)).trans q2
  have A2 := k2 _ _ a1 a2 hA
  refine ⟨_, _, rfl, ?_⟩
  generalize hm1 : (if u < spare then u else spare) = m1
  have e1 : m1 ≤ spare := by split at hm1 <;> omega
  have e0 : 0 ≤ m1 := by have := B.sp; split at hm1 <;> omega
  clear hm1
  refine ⟨_, rfl, _, rfl, a, rfl, .inl ⟨_, .inl A2⟩, _, rfl, _, DGet.k (k := .inl place) A2, m1, cap ks place, by rw [gv], ?_⟩
  generalize hm2 : (if cap ks place < m1 then cap ks place else m1) = m
  have m2 : m ≤ spare := by split at hm2 <;> omega
  have m0 : 0 ≤ m := by split at hm2 <;> omega
  have m3 : m ≤ cap ks place := by split at hm2 <;> omega
  clear hm2
  have F2 := k2 _ _ f1 f2 hF
  have new : place ∉ fs.map Prod.fst := fun z => by
    obtain ⟨p, hp, e⟩ := List.mem_map.mp z
    have := lt p hp
    omega
  refine ⟨_, rfl, _, _, rfl, rfl, _, rfl, ?_⟩
  by_cases pos : 0 < m
  · rw [decide_eq_true pos]
    have len := B.len
    have sp0 := B.sp
    refine iteT ⟨_, rfl, _, rfl, _, rfl, _, _, rfl, rfl, sz (by show 2 ≤ 1000; decide), fun t2 ht2 => ?_⟩
    have s3 := same_new (o := .tup [.int m, .int (spare - m)]) ht2
    have S3 := S2.new (o := .tup [.int m, .int (spare - m)]) ht2
    have T3 : upd H2 t2 (.tup [.int m, .int (spare - m)]) t2 = some (.tup [.int m, .int (spare - m)]) := upd_same
    generalize upd H2 t2 (.tup [.int m, .int (spare - m)]) = H3 at s3 S3 T3 ⊢
    refine ⟨t2, _, rfl, SqT.of T3, rfl, _, _, rfl, ⟨_, rfl, _, rfl, F, _, rfl, dput_pairs (s3 _ _ F2) (by omega), _, _, rfl, rfl, ?_⟩⟩
    have bd : -(10 ^ 30) ≤ place ∧ place ≤ 10 ^ 30 := by
      have := e30
      constructor <;> omega
    refine hN _ (putI fs place m) (spare - m) _ (S3.upd f1 f2 f3) (fun x o x1 x2 x3 h => (upd_ne x1).trans (s3 _ _ (k2 _ _ x2 x3 h))) upd_same (B.put new pos m2 m3 bd) ?_ (putI_all (fun p hp => ?_) ?_) (putI_all near ⟨p0, p1⟩)
    · rw [putI_new new]
      unfold Asc
      refine List.pairwise_append.mpr ⟨asc, List.pairwise_singleton _ _, fun x hx y hy => ?_⟩
      rw [List.mem_singleton.mp hy]
      exact lt x hx
    · have := lt p hp
      omega
    · show place < place + 1
      omega
  · rw [decide_eq_false pos]
    exact iteF (hN _ fs spare _ S2 (fun x o x1 x2 x3 h => k2 _ _ x2 x3 h) F2 B asc (fun p hp => by have := lt p hp; omega) near)
theorem pure_near20 {K : PySem.W.Frag} (vs : List V) (H : Hp) (Q : VK) (E : XK) (h : spNear20 K vs H Q E) : t_near20 K { nx := fun _ H' => Q .non H', rt := Q } (start ["state", "sizes", "most", "found", "spare", "place", "amount"] vs) H := by
  obtain ⟨d, g, c, b, a, n, ks, rfl, S, a1, a2, hA, hk, n0, n40, q⟩ := h
  unfold t_near20
  rw [← xNearT20_eq]
  refine fun F hF => ⟨_, rfl, _, _, rfl, ?_⟩
  obtain ⟨f1, f2, f3⟩ := S.off hF
  have fa : F ≠ a := fun e => by rw [e, hA] at hF; cases hF
  have S1 := S.new (o := .dK []) hF
  have s1 := same_new (o := .dK []) hF
  have F1 : upd H F (.dK []) F = some (.dK (kvsOf [])) := upd_same
  generalize upd H F (.dK []) = H1 at S1 s1 F1 ⊢
  have B0 : Bx n ks [] n := ⟨List.nodup_nil, (fun p m => nomatch m), by show 0 + n = n; omega, n0, (fun p m => nomatch m)⟩
  refine ⟨4, rfl, -4, 9, rfl, by decide, ?_⟩
  have e13 : ((9 : Int) - -4).toNat = 13 := rfl
  rw [e13]
  refine for_range (lo := -4) (n := 13) (fun i σ H2 => StB H2 d g c (b + 26 - 2 * i) ∧ (∀ x o, x ≠ F → x ≠ d → x ≠ g → H1 x = some o → H2 x = some o) ∧ ∃ gs sp u5 u6, H2 F = some (.dK (kvsOf gs)) ∧ Bx n ks gs sp ∧ Asc gs ∧ (∀ p ∈ gs, p.1 < -4 + (i : Int)) ∧ (∀ p ∈ gs, -4 ≤ p.1 ∧ p.1 ≤ 8) ∧ σ = [some (.ref d), some (.ref a), some (.int n), some (.ref F), some (.int sp), u5, u6])
    ⟨S1, fun _ _ _ _ _ h => h, [], n, _, _, F1, B0, .nil, (fun p m => nomatch m), (fun p m => nomatch m), rfl⟩ ?_ ?_
  · rintro i σ H2 hi ⟨S2, k2, gs, sp, u5, u6, F2, B2, asc, lt, near, rfl⟩
    have hb : b + 26 - 2 * i = (b + 26 - 2 * (i + 1)) + 2 := by omega
    rw [hb] at S2
    show xNearT20 K _ [some (.ref d), some (.ref a), some (.int n), some (.ref F), some (.int sp), some (.int (-4 + i)), u6] H2
    rw [xNearT20_eq]
    refine nearT20 S2 F2 (k2 _ _ fa.symm a1 a2 (s1 _ _ hA)) f1 f2 f3 fa a1 a2 hk B2 n40 (by omega) (by omega) asc lt near fun H3 gs3 sp3 w S3 k3 F3 B3 asc3 lt3 near3 => ⟨S3, fun x o x1 x2 x3 h => k3 _ _ x1 x2 x3 (k2 _ _ x1 x2 x3 h), gs3, sp3, _, _, F3, B3, asc3, fun p m => ?_, near3, rfl⟩
    have := lt3 p m
    omega
  · rintro σ H2 ⟨S2, k2, gs, sp, u5, u6, F2, B2, asc, lt, near, rfl⟩
    refine ⟨_, rfl, q F H2 gs (S2.mono (by omega)) (fun x o x1 x2 h => k2 _ _ (ne_of_none h hF) x1 x2 (s1 _ _ h)) f1 f2 f3 hF F2 asc B2.po near ?_⟩
    have := B2.sm
    have := B2.sp
    omega
end SR
set_option Elab.async false
set_option linter.all false
set_option maxRecDepth 100000
set_option maxHeartbeats 4000000
namespace SR
open PySem PySem.Spec PyProof.Rows L2
section
variable {K : PySem.W.Frag} {C : Addr} {N N2 N3 : L2.St → Hp → Prop} {R : VK} {H : Hp} {d g c : Addr} {b : Nat} {ks ns gs fs : List (Int × Int)} {p : Rws ks} {F Z W G U x : Addr} {L : List Int}
/-- what stands behind the law's own sweeps -/
structure J20 (K : PySem.W.Frag) (C : Addr) (H : Hp) (d g c : Addr) (b : Nat) {ks : List (Int × Int)} (p : Rws ks) (ns gs : List (Int × Int)) (L : List Int) (F Z W G U x : Addr) : Prop where
  S : StB H d g c b
  row : RowAt K C H x p.1 ks
  hF : H F = some (.dK (kvsOf p.1))
  hZ : H Z = some (.dK (kvsOf ks))
  hW : H W = some (.dK (kvsOf ns))
  hG : H G = some (.dK (kvsOf gs))
  hU : H U = some (.dK (kvsOf (allPk ns (trP p) L)))
  gp : gs.Perm (advP ns p).1
  pL : L.Perm (ns.map Prod.fst)
  wL : L.Pairwise (· ≤ ·)
  ok : NumsOk ns
  bd : ∀ q ∈ p.1, -1000 ≤ q.1 ∧ q.1 ≤ 1000
theorem J20.same {H' : Hp} (s : Same H H') (J : J20 K C H d g c b p ns gs L F Z W G U x) : J20 K C H' d g c b p ns gs L F Z W G U x :=
  ⟨StB.same s J.S, J.row.same s, s _ _ J.hF, s _ _ J.hZ, s _ _ J.hW, s _ _ J.hG, s _ _ J.hU, J.gp, J.pL, J.wL, J.ok, J.bd⟩
theorem J20.one (J : J20 K C H d g c b p ns gs L F Z W G U x) : ∀ t ∈ ns, 1 ≤ t.1 ∧ t.1 ≤ 99 := fun t m => ⟨(J.ok.2.2 t m).1, (J.ok.2.2 t m).2.1⟩
end
end SR
set_option Elab.async false
set_option linter.all false
set_option maxRecDepth 100000
set_option maxHeartbeats 4000000
namespace SR
open PySem PySem.Spec PyProof.Rows L2
section
variable {K : PySem.W.Frag} {C CW BC BR BT : Addr} {N N2 N3 : L2.St → Hp → Prop} {R : VK} {H : Hp} {d g c : Addr} {b : Nat} {ks : List (Int × Int)} {p : Rws ks} {x y A : Addr} {ms : List Int}
/-- what stands behind the walks: the row, the last row, the crew -/
structure J69 (K : PySem.W.Frag) (C : Addr) (H : Hp) (d g c : Addr) (b : Nat) {ks : List (Int × Int)} (p : Rws ks) (x y A : Addr) (ms : List Int) : Prop where
  S : StB H d g c b
  rx : RowAt K C H x p.1 ks
  ry : RowAt K C H y (FnL (fw ms) p).1 ks
  hA : H A = some (.lst (ms.map V.int))
  a1 : A ≠ d
  a2 : A ≠ g
  l1 : 2 ≤ ms.length
  l2 : ms.length ≤ 6
  one : ∀ m ∈ ms, 1 ≤ m ∧ m ≤ 99
theorem J69.same {H' : Hp} (s : Same H H') (J : J69 K C H d g c b p x y A ms) : J69 K C H' d g c b p x y A ms := { J with S := StB.same s J.S, rx := J.rx.same s, ry := J.ry.same s, hA := s _ _ J.hA }
theorem J69.kp {H' : Hp} {b' : Nat} (k : Kp d g H H') (S : StB H' d g c b') (J : J69 K C H d g c b p x y A ms) : J69 K C H' d g c b' p x y A ms := { J with S := S, rx := J.rx.kp J.S k, ry := J.ry.kp J.S k, hA := k _ _ J.a1 J.a2 J.hA }
theorem J69.o (J : J69 K C H d g c b p x y A ms) : ∀ m ∈ ms, 1 ≤ m := fun m z => (J.one m z).1
/-- all but the list stay -/
theorem J69.but {H' : Hp} {D : Addr} {xs : List V} (hD : H D = some (.lst xs)) (nA : A ≠ D) (k : SameBut D H H') (S : StB H' d g c b) (J : J69 K C H d g c b p x y A ms) : J69 K C H' d g c b p x y A ms := { J with S := S, rx := J.rx.but hD k, ry := J.ry.but hD k, hA := k _ _ nA J.hA }
end
end SR
set_option Elab.async false
set_option linter.all false
set_option maxRecDepth 100000
set_option maxHeartbeats 4000000
set_option Elab.async false
set_option linter.all false
set_option maxRecDepth 100000
set_option maxHeartbeats 4000000
namespace SR
open PySem PySem.Spec PyProof.Rows L2
theorem RowAt.ka {K : PySem.W.Frag} {C : Addr} {H H' : Hp} {d g c f l y : Addr} {b : Nat} {ps ks fs : List (Int × Int)} {xs : List V} (row : RowAt K C H y ps ks) (S : StB H d g c b) (nz : Nz C H f y) (hf : H f = some (.dK (kvsOf fs))) (hl : H l = some (.lst xs)) (k : KA d g f l H H') : RowAt K C H' y ps ks ∧ Nz C H' f y := by
  obtain ⟨dx, c0, k0, dd, e, ps0, ks0, h1, ⟨t1, h2, h3⟩, ⟨t2, h4, h5⟩, h6, h7, h8⟩ := row
  obtain ⟨n1, n2⟩ := nz.all _ _ _ _ _ h1
  obtain ⟨r, t, gs, cs, s1, s2, s3, s4⟩ := S
  have kd : ∀ {a : Addr} {o : HO}, H a = some o → (∀ xs, o ≠ .lst xs) → (∀ kvs, o ≠ .dK kvs) → H' a = some o := fun {a o} h m1 m2 => k _ _ (fun z => by rw [z, s1] at h; exact m2 _ (Option.some.inj h).symm) (fun z => by rw [z, s2] at h; exact m1 _ (Option.some.inj h).symm) (fun z => by rw [z, hf] at h; exact m2 _ (Option.some.inj h).symm) (fun z => by rw [z, hl] at h; exact m1 _ (Option.some.inj h).symm) h
  have dk : ∀ {a : Addr} {fs : List (Int × Int)}, H a = some (.dK (kvsOf fs)) → f ≠ a → H' a = some (.dK (kvsOf fs)) := fun {a fs} h ne => k _ _ (fun z => by
    rw [z, s1] at h
    have e := HO.dK.inj (Option.some.inj h)
    cases fs with
    | nil => cases e
    | cons p fs => cases e) (fun z => by rw [z, s2] at h; cases h) (Ne.symm ne) (fun z => by rw [z, hl] at h; cases h) h
  have tp : ∀ {t : Addr} {p : Int × Int}, TupAt H t p → TupAt H' t p := fun {t p} z => kd (o := .tup [.int p.1, .int p.2]) z (fun _ z => nomatch z) fun _ z => nomatch z
  have y1 := kd h1 (fun _ z => nomatch z) (fun _ z => nomatch z)
  refine ⟨⟨dx, c0, k0, dd, e, ps0, ks0, y1, ⟨t1, ?_, paired_imp (fun _ _ z => tp z) h3⟩, ⟨t2, ?_, paired_imp (fun _ _ z => tp z) h5⟩, dk h6 n1, dk h7 n2, h8⟩, ⟨dx, c0, k0, dd, e, y1, n1, n2⟩⟩
  · obtain ⟨o, a1, a2⟩ := h2
    exact ⟨o, kd a1 (fun _ z => by cases z) (fun _ z => by cases z), a2⟩
  · obtain ⟨o, a1, a2⟩ := h4
    exact ⟨o, kd a1 (fun _ z => by cases z) (fun _ z => by cases z), a2⟩
section
variable {K : PySem.W.Frag} {C CW BC : Addr} {N N2 N3 : L2.St → Hp → Prop} {R : VK} {H : Hp} {d g c : Addr} {b : Nat} {ks : List (Int × Int)} {p : Rws ks} {x y A w f l : Addr} {ms : List Int} {gs : List (Int × Int)} {cs : List (Int × Int × Int)}
/-- what the laps keep -/
structure J30 (K : PySem.W.Frag) (CW C : Addr) (H : Hp) (d g c : Addr) (b : Nat) {ks : List (Int × Int)} (p : Rws ks) (x y A w f l : Addr) (ms : List Int) (gs : List (Int × Int)) (cs : List (Int × Int × Int)) : Prop where
  I : I30 K CW C H H d g c b x w f l p ms gs cs (total p.1)
  ry : RowAt K C H y (FnL (fw ms) p).1 ks
  nz : Nz C H f y
  hA : H A = some (.lst (ms.map V.int))
  a0 : A ≠ d ∧ A ≠ g ∧ A ≠ f ∧ A ≠ l
  l1 : 1 ≤ ms.length
  l2 : ms.length ≤ 6
  one : ∀ m ∈ ms, 1 ≤ m ∧ m ≤ 99
theorem I30.re {H0 H0' : Hp} {n : Int} (I : I30 K CW C H0 H d g c b x w f l p ms gs cs n) (k : KA d g f l H0' H) : I30 K CW C H0' H d g c b x w f l p ms gs cs n := { I with ka := k }
theorem J30.o (J : J30 K CW C H d g c b p x y A w f l ms gs cs) : ∀ m ∈ ms, 1 ≤ m := fun m z => (J.one m z).1
theorem J30.caps (J : J30 K CW C H d g c b p x y A w f l ms gs cs) : ∀ c ∈ cs, 1 ≤ c.2.1 ∧ c.2.1 ≤ 99 := fun c m => (J.I.ok.ld c m).1
theorem J30.fn (J : J30 K CW C H d g c b p x y A w f l ms gs cs) : FnL (cs.map fun c => (c.2.1, false)) p = FnL (fw ms) p := by
  have pm : (cs.map fun c => ((c.2.1, false) : Int × Bool)).Perm (fw ms) := by
    have := J.I.pm.map fun m : Int => ((m, false) : Int × Bool)
    rw [List.map_map] at this
    exact this
  exact fnL_perm pm (fun s m => by
    obtain ⟨c, hc, rfl⟩ := List.mem_map.mp m
    exact (J.caps c hc).1) p
theorem J30.same {H' : Hp} (s : Same H H') (J : J30 K CW C H d g c b p x y A w f l ms gs cs) : J30 K CW C H' d g c b p x y A w f l ms gs cs :=
  { J with I := (J.I.same s).re fun _ _ _ _ _ _ h => h, ry := J.ry.same s, nz := J.nz.same s, hA := s _ _ J.hA }
theorem J30.kp {H' : Hp} {b' : Nat} (k : Kp d g H H') (S : StB H' d g c b') (J : J30 K CW C H d g c b p x y A w f l ms gs cs) : J30 K CW C H' d g c b' p x y A w f l ms gs cs :=
  { J with I := (J.I.kp k S).re fun _ _ _ _ _ _ h => h, ry := J.ry.kp J.I.S k, nz := J.nz.kp J.I.S k, hA := k _ _ J.a0.1 J.a0.2.1 J.hA }
theorem J30.mono {b' : Nat} (J : J30 K CW C H d g c b p x y A w f l ms gs cs) (e : b' ≤ b) : J30 K CW C H d g c b' p x y A w f l ms gs cs := { J with I := J.I.mono e }
end
end SR
set_option Elab.async false
set_option linter.all false
set_option maxRecDepth 100000
set_option maxHeartbeats 4000000
set_option Elab.async false
set_option linter.all false
set_option maxRecDepth 100000
set_option maxHeartbeats 4000000
namespace SR
open PySem PySem.Spec PyProof.Rows L2
/-- nothing is known but empty tables and what is frozen -/
def OnlyT (T : List Addr) (H : Hp) : Prop := ∀ b, H b = none ∨ (b ∈ T ∧ H b = some (.tbl #[])) ∨ ∃ o xs, H b = some (.frz o (.lst xs))
theorem law_callT {P : Program} {w : World} {K : PySem.W.Frag} {mg mb : Str → Option Value} {CX : CXT} {k : Nat} {fa a : Addr} {fd : FuncData} {x : Str} {sp : Sp} {s : Shared} {vs : List Value} {ns : List Int} {cs : List (Addr × Addr)}
    (KX : K.In s.heap) (hns : s.heap.Ns mainGlobals mg) (hb : s.heap.Ns builtinsNs mb) (hbb : ∀ x : Str, x ≠ "__name__" → mb x = bootBuiltins x) (hlim : s.heap.NoLimit) (hg : s.gens = #[])
    (hT : ∀ p ∈ cs, s.heap.get? p.2 = some { cls := .none, data := .fields #[] }) (nT : ∀ p ∈ cs, K.lookup p.2 = none) (hC : ∀ p ∈ cs, PySem.W.CodeHd s.heap p.1 p.2)
    (hbm : ∃ (bm : Addr) (ob : Obj), mg "__builtins__" = some (.ref bm) ∧ bm ≠ builtinsNs ∧ s.heap.get? bm = some ob ∧ ob.cls = .type "module" ∧ ob.dict = some builtinsNs ∧ ob.data = .plain)
    (ha : s.heap.get? a = some { cls := .type "list", data := .seq vs.toArray }) (hi : IntsAre vs ns) (hl : ns.length ≤ sizeLine) (hr : Room k callerA)
    (F : ∀ base : Heap, K.In base → base.Ns mainGlobals mg → (∀ p ∈ cs, LamX.TabB base mg p.1 p.2) → FnG P w K mg base CX k fa fd [x] sp) (hbind : ∀ (s : Shared) (u : Value), BindsTo s fd ⟨[u], []⟩ [(x, u)])
    (hsp : ∀ H : Hp, (∀ p ∈ cs, H p.2 = some (.tbl #[])) → SqL K H a (ns.map V.int) → sp [.ref a] H (fun v _ => v = .bl true) fun _ _ _ => False)
    (hCX : ∀ H e s', CX [] H s (fun _ _ _ => False) e s' → False) :
    codeAny (model P w) callerA (.call (.ref fa) ⟨[.ref a], []⟩) (fun r s' => r = .ok (.ret (.bool true)) ∧ OldK s.heap s'.heap ∧ s'.os = s.os ∧ AllBare s'.gens) s := by
  have rv := vals_ints hi
  have lenV := hi.length
  have inT : ∀ {b : Addr}, b ∈ cs.map (·.2) → ∃ p ∈ cs, p.2 = b := fun {b} m => by
    obtain ⟨p, hp, e⟩ := List.mem_map.mp m
    exact ⟨p, hp, e⟩
  have objT : ∀ {b : Addr}, b ∈ cs.map (·.2) → s.heap.get? b = some { cls := .none, data := .fields #[] } := fun {b} m => by
    obtain ⟨p, hp, rfl⟩ := inT m
    exact hT p hp
  have aT : a ∉ cs.map (·.2) := fun m => by
    have z := objT m
    rw [ha] at z
    have z' : (Obj.cls { cls := .type "list", data := .seq vs.toArray }) = Obj.cls { cls := .none, data := .fields #[] } := congrArg Obj.cls (Option.some.inj z)
    cases z'
  have run_at : ∀ H : Hp, (∀ p ∈ cs, H p.2 = some (.tbl #[])) → OnlyT (cs.map (·.2)) H → SqL K H a (ns.map V.int) → HOk P w H s.heap → (∀ b, H b ≠ none → b ∈ cs.map (·.2) ∨ (b = a ∧ K.lookup a = none)) →
      codeAny (model P w) callerA (.call (.ref fa) ⟨[.ref a], []⟩) (fun r s' => r = .ok (.ret (.bool true)) ∧ OldK s.heap s'.heap ∧ s'.os = s.os ∧ AllBare s'.gens) s := by
    intro H hP hO hS hok hA
    have untr : ∀ {b : Addr} {o : Obj}, s.heap.get? b = some o → b ∉ cs.map (·.2) → (b = a → False) → (hidT s.heap H).get? b = some o := fun {b o} z n1 n => hidT_get z (by
      by_cases q : H b = none
      · exact q
      · exact (hA b q).elim (fun m => (n1 m).elim) fun m => (n m.1).elim)
    have byData : ∀ {b : Addr} {o : Obj}, s.heap.get? b = some o → o.data ≠ .fields #[] → (∀ vs : List Value, o.data ≠ .seq vs.toArray) → (hidT s.heap H).get? b = some o := fun {b o} z d1 d2 => untr z (fun m => by
      have y := objT m
      rw [z] at y
      cases y
      exact d1 rfl) fun q => by
        rw [q, ha] at z
        cases z
        exact d2 _ rfl
    have ns_ : ∀ {b : Addr} {m : Str → Option Value}, s.heap.Ns b m → (hidT s.heap H).Ns b m := by
      rintro b m ⟨o, es, ep, z, dz, rest⟩
      exact ⟨o, es, ep, byData z (by rw [dz]; exact fun y => by cases y) (fun vs => by rw [dz]; exact fun y => by cases y), dz, rest⟩
    have KB : K.In (hidT s.heap H) := fun b o z => by
      by_cases q : H b = none
      · exact hidT_get (KX b o z) q
      · rcases hA b q with m | ⟨q1, q2⟩
        · obtain ⟨p, hp, rfl⟩ := inT m
          rw [nT p hp] at z
          cases z
        · rw [q1, q2] at z
          cases z
    have notG : ∀ {b : Addr} {o : Obj}, s.heap.get? b = some o → o.data = .plain ∨ o.data = .fields #[] → b ≠ mainGlobals := fun {b o} z d e => by
      obtain ⟨o', es, ep, z', dz, _⟩ := hns
      rw [e, z'] at z
      cases z
      rcases d with d | d <;> (rw [dz] at d; cases d)
    have TB : ∀ p ∈ cs, LamX.TabB (hidT s.heap H) mg p.1 p.2 := fun p hp => by
      refine ⟨?_, ?_, (notG (hT p hp) (.inr rfl)).symm⟩
      · obtain ⟨o, us, file, tf, flags, tg, inF, text, tt, e1, r1, r2, r3, r⟩ := hC p hp
        refine ⟨o, us, file, tf, flags, tg, inF, text, tt, byData e1 (fun y => ?_) (fun vs y => ?_), r1, r2, r3, r⟩
        · rw [r2] at y
          cases y
          simp at r3
        · rw [r2] at y
          cases y
      · obtain ⟨bm, ob, b1, b2, b3, b4, b5, b6⟩ := hbm
        refine ⟨bm, ob, b1, b2, notG b3 (.inl b6), fun q => ?_, byData b3 (by rw [b6]; exact fun y => by cases y) (fun vs => by rw [b6]; exact fun y => by cases y), b4, b5, b6⟩
        rw [q, hT p hp] at b3
        cases b3
        cases b6
    obtain ⟨mc, l1, l2⟩ := hlim
    have e0 : Env0 P w K mg (hidT s.heap H) callerA [] s H :=
      ⟨rfl, ⟨KB, ns_ hns, ⟨mb, ns_ hb, hbb⟩, ⟨mc, ns_ l1, l2⟩⟩, fun b o z => of_hidT z, Nat.le_of_eq (hidT_size _ _), trivial, fun b z => (List.not_mem_nil z).elim, hok, .of_eq hg⟩
    refine codeAny_mono ((F _ KB (ns_ hns) TB).goes callerA [] s H ⟨[.ref a], []⟩ [.ref a] [.ref a] _ _ rfl hr e0 (hbind s (.ref a)) (.cons rfl .nil) (hsp H hP hS)) fun r s' h => ?_
    match r, h with
    | .error e, h => exact (hCX H e s' h).elim
    | .ok (.ret u), ⟨v, H', os, bare, un, hok', rel, isT⟩ =>
      cases (show v = V.bl true from isT)
      cases (show u = Value.bool true from rel)
      have key : ∀ b o, b ∉ cs.map (·.2) → s.heap.get? b = some o → s'.heap.get? b = some o := fun b o nb z => by
        rcases hO b with q | ⟨m, _⟩ | ⟨ob, xs, q⟩
        · exact un.keep b o z q (List.not_mem_nil) (List.not_mem_nil)
        · exact (nb m).elim
        · have z1 := (hok b _ q).1
          have z2 := (hok' b _ (un.frzs b ob _ q)).1
          exact z2.trans (z1.symm.trans z)
      have more : ∀ p ∈ cs, ∃ ms : Array Value, s'.heap.get? p.2 = some { cls := .none, data := .fields ms } := fun p hp => by
        obtain ⟨ms, z⟩ := un.tbls p.2 #[] (hP p hp)
        exact ⟨_, hok' p.2 _ z⟩
      refine ⟨rfl, ⟨fun b o z => ?_, fun b o z => ?_⟩, os, bare⟩
      · by_cases m : b ∈ cs.map (·.2)
        · obtain ⟨p, hp, rfl⟩ := inT m
          obtain ⟨ms, y⟩ := more p hp
          rw [hT p hp] at z
          cases z
          exact .inr (.inl ⟨((hC p hp).tab (hT p hp)).isCodeTable, rfl, #[], ms, rfl, by rw [Array.empty_append]; exact y⟩)
        · exact .inl (key b o m z)
      · by_cases m : b ∈ cs.map (·.2)
        · obtain ⟨p, hp, rfl⟩ := inT m
          obtain ⟨ms, y⟩ := more p hp
          exact ⟨_, y⟩
        · exact ⟨o, key b o m z⟩
  have memT : ∀ p ∈ cs, p.2 ∈ cs.map (·.2) := fun p hp => List.mem_map.mpr ⟨p, hp, rfl⟩
  by_cases hk : K.lookup a = none
  · refine run_at (fun b => if b ∈ cs.map (·.2) then some (.tbl #[]) else if b = a then some (.frz { cls := .type "list", data := .seq vs.toArray } (.lst (ns.map V.int))) else none) (fun p hp => if_pos (memT p hp)) (fun b => ?_) (.inl (.inr ⟨_, (if_neg aT).trans (if_pos rfl)⟩)) (fun b u z => ?_) (fun b z => ?_)
    · by_cases m : b ∈ cs.map (·.2)
      · exact .inr (.inl ⟨m, if_pos m⟩)
      · by_cases q : b = a
        · exact .inr (.inr ⟨_, _, (if_neg m).trans (if_pos q)⟩)
        · exact .inl ((if_neg m).trans (if_neg q))
    · by_cases m : b ∈ cs.map (·.2)
      · cases (if_pos m).symm.trans z
        exact objT m
      · have z1 := (if_neg m).symm.trans z
        by_cases q : b = a
        · subst q
          cases (if_pos rfl).symm.trans z1
          exact ⟨ha, by rw [List.length_map]; exact hl, vs, _, rv, ha⟩
        · cases (if_neg q).symm.trans z1
    · by_cases m : b ∈ cs.map (·.2)
      · exact .inl m
      · by_cases q : b = a
        · exact .inr ⟨q, hk⟩
        · exact (z ((if_neg m).trans (if_neg q))).elim
  · obtain ⟨o, ho⟩ := Option.ne_none_iff_exists'.mp hk
    cases ha.symm.trans (KX a o ho)
    refine run_at (fun b => if b ∈ cs.map (·.2) then some (.tbl #[]) else none) (fun p hp => if_pos (memT p hp)) (fun b => ?_) (.inr ⟨_, vs.toArray, _, ho, rfl, rfl, rfl, by rw [List.size_toArray, lenV]; exact hl, by simpa using rv⟩) (fun b u z => ?_) fun b z => ?_
    · by_cases m : b ∈ cs.map (·.2)
      · exact .inr (.inl ⟨m, if_pos m⟩)
      · exact .inl (if_neg m)
    · by_cases m : b ∈ cs.map (·.2)
      · cases (if_pos m).symm.trans z
        exact objT m
      · cases (if_neg m).symm.trans z
    · by_cases m : b ∈ cs.map (·.2)
      · exact .inl m
      · exact (z (if_neg m)).elim
theorem walk_ofT {l : PySem.W.OpenLaw} {n k : Nat} {q : Program} {loose : List Str} {XP : (Str → Option Value) → Heap → Prop} {YP : World → Heap → Prop} {d : DefRec} {CX : CXT} {x : Str}
    (hn : l.most = some n) (hn2 : n ≤ sizeLine) (hdf : d.params.defaults = []) (hr : Room k callerA)
    (F : ∀ (w : World) (mg : Str → Option Value) (fa : Addr) (h : Heap), YP w h → h.Ns mainGlobals mg → mg d.name = some (.ref fa) →
      ∃ (K : PySem.W.Frag) (fd : FuncData) (cs : List (Addr × Addr)) (sp : Sp), K.In h ∧ (∀ p ∈ cs, h.get? p.2 = some { cls := .none, data := .fields #[] }) ∧ (∀ p ∈ cs, K.lookup p.2 = none) ∧ (∀ p ∈ cs, PySem.W.CodeHd h p.1 p.2) ∧ (∀ (s : Shared) (u : Value), BindsTo s fd ⟨[u], []⟩ [(x, u)]) ∧
        (∀ (H : Hp) (a : Addr) (ns : List Int), ns.length ≤ n → (∀ p ∈ cs, H p.2 = some (.tbl #[])) → SqL K H a (ns.map V.int) → sp [.ref a] H (fun v _ => v = .bl true) fun _ _ _ => False) ∧
        ∀ base : Heap, K.In base → base.Ns mainGlobals mg → (∀ p ∈ cs, LamX.TabB base mg p.1 p.2) → FnG l.prog w K mg base CX k fa fd [x] sp)
    (hCX : ∀ (H : Hp) (s : Shared) (e : Value) (s' : Shared), CX [] H s (fun _ _ _ => False) e s' → False) :
    PySem.W.WalkO q loose XP YP l.row.toRowW d [] (fun f vs => PySem.call f vs) :=
  Att.attach_call hn hdf fun w s₀ s₁ mg mb fa o pm cd doc a vs ns G Y ho hd hcd hmg hobj hints hlen hg => by
    obtain ⟨K, fd, cs, sp, KX, hT, nT, hC, hb, hsp, hF⟩ := F w mg fa _ Y G.T.g hmg
    exact law_callT KX G.T.g G.T.b G.T.builtins G.T.nolimit hg hT nT hC G.T.bmain hobj hints (Nat.le_trans hlen hn2) hr hF hb (fun H hP hS => hsp H a ns hlen hP hS) fun H e s' => hCX H s₁ e s'
def obsL (n : Nat) (fa : List He.Fa) (fn : List He.DefD) (pr : List PropD) (su : List SupD) (ex : PySem.W.Frag → Bool) (tf : List He.Defn) (g : Addr → Option Obj) : AlS := obsS n fa fn pr su (fun K => ex K && He.tabsB g tf K) g
structure SaysL (fa : List He.Fa) (fn : List He.DefD) (pr : List PropD) (su : List SupD) (ex : PySem.W.Frag → Bool) (tf : List He.Defn) (w : World) (h : Heap) (K : PySem.W.Frag) : Prop where
  s : SaysS fa fn pr su ex w K
  hd : ∀ p ∈ tf, PySem.W.codeHdIn K (He.cT K p).1 (He.cT K p).2 = true
  out : ∀ p ∈ tf, K.lookup (He.cT K p).2 = none
  empty : ∀ p ∈ tf, h.get? (He.cT K p).2 = some { cls := .none, data := .fields #[] }
theorem saysL_of {n : Nat} {fa : List He.Fa} {fn : List He.DefD} {pr : List PropD} {su : List SupD} {ex : PySem.W.Frag → Bool} {tf : List He.Defn} {w : World} {h : Heap} (e : obsL n fa fn pr su ex tf h.get? = valS fn pr su w) : SaysL fa fn pr su ex tf w h (frS n h.get?) := by
  obtain ⟨t, m, p, s⟩ := saysS_of e
  obtain ⟨m1, m2⟩ := Bool.and_eq_true_iff.mp m
  have key : ∀ p ∈ tf, PySem.W.codeHdIn (frS n h.get?) (He.cT (frS n h.get?) p).1 (He.cT (frS n h.get?) p).2 = true ∧ ∃ o, h.get? (He.cT (frS n h.get?) p).2 = some o ∧ He.emptyTab o = true := fun p hp => by
    obtain ⟨h3, h4⟩ := Bool.and_eq_true_iff.mp (List.all_eq_true.mp m2 p hp)
    refine ⟨h3, ?_⟩
    cases q : h.get? (He.cT (frS n h.get?) p).2 with
    | none =>
      rw [q] at h4
      cases h4
    | some o =>
      rw [q] at h4
      exact ⟨o, rfl, h4⟩
  refine ⟨⟨t, m1, p, s⟩, fun p hp => (key p hp).1, fun p hp => ?_, fun p hp => ?_⟩
  · obtain ⟨_, o, q, z⟩ := key p hp
    exact He.frT_none q z
  · obtain ⟨_, o, q, z⟩ := key p hp
    rw [q, He.emptyTab_eq z]
def hookL (n : Nat) (fa : List He.Fa) (fn : List He.DefD) (pr : List PropD) (su : List SupD) (ex : PySem.W.Frag → Bool) (tf : List He.Defn) : PySem.W.Hook where
  α := AlS
  obs := fun s => obsL n fa fn pr su ex tf s.heap.get?
  val := fun w => valS fn pr su w
  says := fun w h => ∃ K : PySem.W.Frag, K.In h ∧ SaysL fa fn pr su ex tf w h K
  of := fun _ _ e => ⟨_, He.frT_in, saysL_of e⟩
  keeps := fun _ _ _ ⟨K, hK, c⟩ k => ⟨K, PySem.W.Frag.In.keeps hK k, ⟨c.s, c.hd, c.out, fun p hp => k _ _ (c.empty p hp)⟩⟩
theorem obsL_eq {n : Nat} {fa : List He.Fa} {fn : List He.DefD} {pr : List PropD} {su : List SupD} {ex : PySem.W.Frag → Bool} {tf : List He.Defn} {g : Addr → Option Obj} {s : Shared} (h : ∀ a, g a = s.heap.get? a) : obsL n fa fn pr su ex tf g = (hookL n fa fn pr su ex tf).obs s := by
  have e : g = s.heap.get? := funext h
  subst e
  rfl
end SR
set_option Elab.async false
set_option linter.all false
set_option maxRecDepth 100000
set_option maxHeartbeats 4000000
namespace SR
open PySem PySem.Spec PyProof.Rows L2
theorem takes_len {X : Cx} {W : WX} (t : Takes X W) : Takes X (fun c d σ H => σ.length = X.N.length → W c d σ H) := fun u s' ⟨a, B, sI, pins, σ, H, cls, d, e, I, nb, up, sky, na, os, ag, w⟩ =>
  t u s' ⟨a, B, sI, pins, σ, H, cls, d, e, I, nb, up, sky, na, os, ag, w I.len⟩
/-- told: None, or what spN makes of the error -/
def TErr (K : PySem.W.Frag) (CS : Addr) (spN : Sp) : (XK → Hp → VK → Prop) → Hp → VK → Prop := fun tl H Q =>
  tl (fun cls d H' => ∃ b, PySem.W.exmOne K cls (.ref CS) = some b ∧ (b = true → ∀ a, H' a = none → spN [.ref a] (upd H' a (CauO cls d a)) Q C8.E0) ∧ (b = false → False)) H (fun _ H' => Q .non H')
theorem pe_wk {X : Cx} {e : Expr} {t : TE} (h : PE X e t) : PE X e (fun σ H Q => ∃ Q' : VK, (∀ v H', Q' v H' → Q v H') ∧ t σ H Q') :=
  ⟨fun pins s σ H Q I ⟨Q', hQ, ht⟩ => wpAny_mono (h.run pins s σ H Q' I ht) (fun u s1 ⟨v, H1, I1, r, q⟩ => ⟨v, H1, I1, r, hQ _ _ q⟩) fun _ _ z => z⟩
def tErrB (f c' : Addr) (q : Str) (tl : XK → Hp → VK → Prop) : WX → TS := fun W D σ H => ∃ Ech : XK, (∀ cls d σ' H', Ech cls d H' → σ'.length = 3 → W cls d σ' H') ∧ σ[0]? = some (some (.ref f)) ∧ H c' = some (LamX.CodeO c' q) ∧ ∃ Q' : VK, (∀ v H', Q' v H' → D.nx σ H') ∧ tl Ech H Q'
theorem err_gives {X : Cx} {sg : Scope} {g CS : Addr} {cdg : Value} {q : Str} {spN : Sp} {kN j1 j2 j3 : Nat} {p1 p2 p3 p4 p5 p6 p7 p8 p9 p10 p11 p12 p13 p14 p15 p16 p17 p18 p19 p20 p21 : Pos}
    (lc : sg.names.lookup ("caught" : Str) = some .local) (le : sg.names.lookup ("e" : Str) = some .local) (ls : sg.names.lookup ("ScoopError" : Str) = some .globalImplicit) (ln : sg.names.lookup ("_law_named" : Str) = some .globalImplicit)
    (hS : X.mg "ScoopError" = some (.ref CS)) (CN : Kn X.prog X.w X.K X.mg X.base C8.CX0 kN "_law_named" ["caught"] spN) (hr : Room (kN + 1) X.A) :
    LamX.GivesTo X ["work", "caught", "e"] "_law_error" sg g cdg
      [.Assign [.Name "caught" p1] (.Constant .none j1 p2) p3, .Try [.Expr (.Call (.Name "work" p4) [] [] p5) p6] [.ExceptHandler (some (.Name "ScoopError" p7)) (some "e") [.Assign [.Name "caught" p8] (.Name "e" p9) p10] p11] [] [] p12,
        .Return (some (.IfExp (.Compare (.Name "caught" p13) [.Is] [.Constant .none j2 p14] p15) (.Constant .none j3 p16) (.Call (.Name "_law_named" p17) [.Name "caught" p18] [] p19) p20)) p21] "work" q (TErr X.K CS spN) := by
  intro f c' s H Q tl act hc h
  let Y : Cx := (cxOf C8.CX0 X.prog X.w X.K X.mg X.base ["work", "caught", "e"] "_law_error" sg g cdg X.A X.stack s H C8.E0).nox
  have rY : Room kN Y.A := hr.deeper _
  have nd : Y.N.Nodup := by show (["work", "caught", "e"] : List Str).Nodup; decide
  have D1 : PS Y (.Assign [.Name "caught" p1] (.Constant .none j1 p2) p3) (tAsg (tC .non) (gName 1)) := ps_set (i := 1) nd rfl (.inl lc) pe_non rfl (.inr lc)
  have D2 : PS Y (.Try [.Expr (.Call (.Name "work" p4) [] [] p5) p6] [.ExceptHandler (some (.Name "ScoopError" p7)) (some "e") [.Assign [.Name "caught" p8] (.Name "e" p9) p10] p11] [] [] p12)
      (fun D σ H => tErrB f c' q tl (wKeepH Y.K (.ref CS) 2 1 (fun _ _ _ _ => False) D) D σ H) :=
    ps_try_keepH (tb := tErrB f c' q tl) (n := "e") (y := "caught") (Wout := fun _ _ _ _ => False) rfl rfl rfl nd rfl le rfl lc ⟨ls, by decide, .inl hS⟩ LamX.takes0 (fun W pn xe tk _ => ⟨fun pins s' σ H' D I h' => by
      obtain ⟨Ech, hW, h1, h2, h3⟩ := h'
      have hp := pe_wk <| act (fun c d σ H => σ.length = 3 → W c d σ H) pn xe Ech p4 p5 (takes_len tk) hW
      exact (pss_one (ps_expr (pos := p6) hp)).run pins s' σ H' D I (let ⟨Q', z1, z2⟩ := h3; ⟨Q', z1, h1, h2, z2⟩)⟩) (fun _ _ => rfl)
  have D3 : PS Y (.Return (some (.IfExp (.Compare (.Name "caught" p13) [.Is] [.Constant .none j2 p14] p15) (.Constant .none j3 p16) (.Call (.Name "_law_named" p17) [.Name "caught" p18] [] p19) p20)) p21)
      (tRet (tIf (tTest (tOp (fun x y H Q => y = .non ∧ Q (.bl (decide (x = .non))) H) (tVar 1) (tC .non))) (tC .non) (tCall spN [] C8.E0 (tCons (tVar 1) tNil)))) :=
    ps_ret (pe_ifExp (pt_cmpR op_isN (pe_var rfl (.inl lc)) pe_non (nomark _)) pe_non (pe_k (k := kN) CN rY (Nat.le_refl _) ln C8.pass0 (pa_cons (pe_var rfl (.inl lc)) pa_nil)))
  refine ⟨_, pss_cons D1 (pss_cons D2 (pss_one D3)), ?_⟩
  refine ⟨fun cls d H' => ∃ b, PySem.W.exmOne X.K cls (.ref CS) = some b ∧ (b = true → ∀ a, H' a = none → spN [.ref a] (upd H' a (CauO cls d a)) Q C8.E0) ∧ (b = false → False), fun cls d σ' H' ⟨b, e1, e2, e3⟩ len => ⟨b, e1, fun hb a ha => ?_, e3⟩, rfl, hc, fun _ H' => Q .non H', fun v H' z => ?_, h⟩
  · match σ', len with
    | [x0, x1, x2], _ =>
      refine ⟨_, rfl, rfl, _, rfl, ?_⟩
      rw [decide_eq_false (fun z => by cases z)]
      exact ⟨_, rfl, e2 hb a ha⟩
  · exact ⟨_, rfl, rfl, _, rfl, z⟩
end SR
set_option Elab.async false
set_option linter.all false
set_option maxRecDepth 100000
set_option maxHeartbeats 4000000
namespace SR
open PySem PySem.Spec PyProof.Rows L2
section
variable {P : Program} {w : World} {K : PySem.W.Frag} {mg : Str → Option Value} {base : Heap} {x qual : Str} {params : Arguments} {body : List Stmt} {scope : Scope} {dvs : List V} {kws : List (Str × V)} {fd : FuncData} {p : He.Defn}
/-- okG, the def's code object known -/
theorem okGL {CX : CXT} {N ps : List Str} {k : Nat} {sp : Sp} (F : FunD K x qual params body scope dvs kws (He.fAd K p) fd) (S : FnScope N ps scope) (len : ∀ vs H Q E, sp vs H Q E → vs.length = ps.length)
    (hbody : ∀ (A : Around) (outer : List Env) (s : Shared) (H : Hp) (vs : List V) (Q : VK) (E : XK), Gs A → Room k (A.deeper (envOfC qual scope s.heap.objs.size (He.fAd K p) (.ref (He.cT K p).1))) → sp vs H Q E →
      ∃ t, PSs (cxOf CX P w K mg base N qual scope (He.fAd K p) (.ref (He.cT K p).1) A outer s H E) body t ∧ t { nx := fun _ H' => Q .non H', rt := Q } (start N vs) H) : FnG P w K mg base CX (k + 1) (He.fAd K p) fd ps sp := by
  refine ⟨len, fun A out s H gv us vs Q E hgs hr e0 hb hv hs => ?_⟩
  obtain ⟨oc, od, dV, kV, doc, pm, an, cdv, ct, osl, rfl, lk, hcd, _, _⟩ := F.ex
  obtain ⟨c, rfl⟩ := He.codeIn_ref hcd
  obtain rfl : (He.cT K p).1 = c := He.codeOf_eq lk rfl
  have hl := len _ _ _ _ hs
  have old : ∀ b o, base.get? b = some o → s.heap.get? b = some o := fun b o z => (e0.bs b o z).1
  have KX : K.In s.heap := e0.mod.kin.keeps old
  refine codeAny_call_function hr.depth (KX _ _ lk) rfl S.co S.gen rfl (PySem.W.codeRec_of KX hcd) (hb _ _ _ _ ?_)
  have params_known : ∀ y ∈ ps.zip us, scope.names.lookup y.1 = some .local ∨ (scope.names.lookup y.1 = some .cell ∧ ((cellsFrom (s.heap.objs.size + 1) scope.names []).lookup y.1).isSome = true) := by
    rintro ⟨n, v⟩ hy
    exact (S.par n (List.of_mem_zip hy).1).imp id fun q => ⟨q, PySem.W.cellsFrom_some _ _ _ (.inl q)⟩
  refine wpAny_newFunctionEnv_cells S.kind params_known fun env he s1 z => ?_
  subst he
  refine ⟨(e0.mod.nolimit.keeps old).keeps z.toInCall.keep, codeAny_func ?_⟩
  obtain ⟨t, ht, hq⟩ := hbody A out s H vs Q E hgs (hr.deeper _) hs
  refine wpAny_mono (ht.run [] s1 (start N vs) H _ (inv_start S hr.hd e0 hl hv z) hq) (fun fl s' hf => ?_) fun _ _ hf => hf
  match fl, hf with
  | .ret u, ⟨v, _, H', J, rv, q⟩ => exact ⟨v, H', J.os, J.bare, J.base, J.hok, rv, q⟩
  | .next, ⟨_, H', J, q⟩ => exact ⟨.non, H', J.os, J.bare, J.base, J.hok, rfl, q⟩
  | .brk, ⟨_, _, _, q⟩ => exact False.elim q
  | .cont, ⟨_, _, _, q⟩ => exact False.elim q
end
/-- _law_error(lambda: body) -/
theorem pe_err {X : Cx} {g c P : Addr} {fd : FuncData} {pg params : Arguments} {bg : List Stmt} {sg scope : Scope} {body : Expr} {TT : (XK → Hp → VK → Prop) → Hp → VK → Prop} {t : XK → TE} {k : Nat} {p lpos pos : Pos}
    (F : FunD X.K "_law_error" "_law_error" pg bg sg [] [] g fd) (hm : X.mg "_law_error" = some (.ref g)) (hg : Gl X "_law_error") (hb : L2.Binds X.K fd ["work"] []) (Sg : FnScope ["work", "caught", "e"] ["work"] sg)
    (hG : ∀ cdg, LamX.GivesTo X ["work", "caught", "e"] "_law_error" sg g cdg bg "work" (X.env.qual ++ "<lambda>") TT)
    (TB : LamX.TabB X.base X.mg c P) (hcode : X.env.code = .ref c) (hr : Room (k + 2) X.A) (L : LamX.LamS X.env.scope scope) (hdef : defaultsOf params X.env = ([], []))
    (hbind : ∀ (q : Str) (cl : List (Str × Addr)) (pm cv ctv : Value), bindArgs (PySem.W.kla_fn "<lambda>" q params body scope cl pm cv ctv) ⟨[], []⟩ = pure [])
    (hbody : ∀ (A : Around) (outer : List Env) (s : Shared) (H : Hp) (E : XK) (f c' : Addr), Room k (A.deeper (LamX.lamEnv X scope s.heap.objs.size f c')) → PE (LamX.lamCx X A outer s H E scope f c') body (t E)) :
    PE X (.Call (.Name "_law_error" p) [.Lambda params body scope lpos] [] pos) (LamX.tLam [(P, X.env.qual ++ "<lambda>")] TT t) := by
  obtain ⟨oc, od, dV, kV, doc, pm, an, cdv, ct, osl, rfl, lk, hcd, _, _⟩ := F.ex
  have hva : Vis sg "work" := (Sg.par "work" List.mem_cons_self).imp id .inl
  exact LamX.pe_lamcall hg hm F.kp lk hcd hb Sg rfl hva (hG cdv) TB hcode List.mem_cons_self (fun p hp _ => by rw [List.mem_singleton.mp hp]) hr L hdef hbind hbody
section
variable {K : PySem.W.Frag} {C : Addr} {H H' : Hp} {d g c x a : Addr} {b : Nat} {ps ks : List (Int × Int)}
theorem StB.ext (S : StB H d g c b) (e : LamX.ExtN H H') : StB H' d g c b := by
  obtain ⟨r, t, gs, cs, h1, h2, h3, h4⟩ := S
  exact ⟨r, t, gs, cs, e _ _ h1 (fun _ z => by cases z), e _ _ h2 (fun _ z => by cases z), e _ _ h3 (fun _ z => by cases z), h4⟩
theorem RowAt.ext (row : RowAt K C H x ps ks) (e : LamX.ExtN H H') : RowAt K C H' x ps ks := by
  obtain ⟨dx, c0, k0, dd, de, ps0, ks0, h1, ⟨t1, h2, h3⟩, ⟨t2, h4, h5⟩, h6, h7, h8⟩ := row
  have tp : ∀ {t : Addr} {p : Int × Int}, TupAt H t p → TupAt H' t p := fun {t p} z => e t (.tup [.int p.1, .int p.2]) z (fun _ z => nomatch z)
  refine ⟨dx, c0, k0, dd, de, ps0, ks0, e _ _ h1 (fun _ z => nomatch z), ⟨t1, ?_, paired_imp (fun _ _ z => tp z) h3⟩, ⟨t2, ?_, paired_imp (fun _ _ z => tp z) h5⟩, e _ _ h6 (fun _ z => by cases z), e _ _ h7 (fun _ z => by cases z), h8⟩
  · obtain ⟨o, a1, a2⟩ := h2
    exact ⟨o, e _ _ a1 (fun _ z => by cases z), a2⟩
  · obtain ⟨o, a1, a2⟩ := h4
    exact ⟨o, e _ _ a1 (fun _ z => by cases z), a2⟩
theorem Tabs.same {T : List (Addr × Str)} (t : LamX.Tabs T H) (s : Same H H') : LamX.Tabs T H' := t.ext s
theorem Tabs.kp {T : List (Addr × Str)} (S : StB H d g c b) (t : LamX.Tabs T H) (k : Kp d g H H') : LamX.Tabs T H' := fun p hp => by
  obtain ⟨ps, h1, h2, h3⟩ := t p hp
  exact ⟨ps, kp_at S k h1 (fun _ z => by cases z) (fun _ _ z => by cases z), h2, fun pos cv hc => by
    obtain ⟨c0, e1, e2⟩ := h3 pos cv hc
    exact ⟨c0, e1, kp_at S k e2 (fun _ z => by unfold LamX.CodeO at z; cases z) (fun _ _ z => by unfold LamX.CodeO at z; cases z)⟩⟩
end
end SR
set_option Elab.async false
set_option linter.all false
set_option maxRecDepth 100000
set_option maxHeartbeats 4000000
namespace SR
open PySem PySem.Spec PyProof.Rows L2
inductive CrewV (K : PySem.W.Frag) (H : Hp) : V → Option (List V) → Prop where
  | lst {a : Addr} {xs : List V} (h : SqL K H a xs) (hx : ∀ x ∈ xs, ∃ t, AnyT K H x t) (l : xs.length ≤ 8) : CrewV K H (.ref a) (some xs)
  | tup {a : Addr} {xs : List V} (h : SqT K H a xs) (hx : ∀ x ∈ xs, ∃ t, AnyT K H x t) (l : xs.length ≤ 8) : CrewV K H (.ref a) (some xs)
  | oth {v : V} {t : String} (h : AnyT K H v t) (h1 : (t == "list") = false) (h2 : (t == "tuple") = false) : CrewV K H v none
theorem CrewV.same {K : PySem.W.Frag} {H H' : Hp} {v : V} {o : Option (List V)} (s : Same H H') (h : CrewV K H v o) : CrewV K H' v o := by
  cases h with
  | lst h hx l => exact .lst (SqL.same s h) (fun x m => let ⟨t, z⟩ := hx x m; ⟨t, z.same s⟩) l
  | tup h hx l => exact .tup (SqT.same s h) (fun x m => let ⟨t, z⟩ := hx x m; ⟨t, z.same s⟩) l
  | oth h h1 h2 => exact .oth (h.same s) h1 h2
def goodC : Option (List V) → Bool
  | some xs => decide ((1 : Int) ≤ (xs.length : Nat)) && (decide (((xs.length : Nat) : Int) ≤ 6) && xs.all (btw 1 99))
  | none => false
theorem good_ints {xs : List V} (h : goodC (some xs) = true) : ∃ ms : List Int, xs = ms.map V.int ∧ 1 ≤ ms.length ∧ ms.length ≤ 6 ∧ ∀ m ∈ ms, 1 ≤ m ∧ m ≤ 99 := by
  obtain ⟨h1, h2⟩ := Bool.and_eq_true_iff.mp (show (decide ((1 : Int) ≤ (xs.length : Nat)) && (decide (((xs.length : Nat) : Int) ≤ 6) && xs.all (btw 1 99))) = true from h)
  obtain ⟨h3, h4⟩ := Bool.and_eq_true_iff.mp h2
  have l1 := of_decide_eq_true h1
  have l2 := of_decide_eq_true h3
  have key : ∀ xs : List V, xs.all (btw 1 99) = true → ∃ ms : List Int, xs = ms.map V.int ∧ ∀ m ∈ ms, 1 ≤ m ∧ m ≤ 99 := by
    intro xs
    induction xs with
    | nil => exact fun _ => ⟨[], rfl, fun _ m => nomatch m⟩
    | cons x xs ih =>
      intro h
      rw [List.all_cons, Bool.and_eq_true] at h
      obtain ⟨n, rfl, n1⟩ := btw_iff.mp h.1
      obtain ⟨ms, rfl, one⟩ := ih h.2
      exact ⟨n :: ms, rfl, fun m z => (List.mem_cons.mp z).elim (fun e => by rw [e]; exact n1) (one m)⟩
  obtain ⟨ms, rfl, one⟩ := key xs h4
  rw [List.length_map] at l1 l2
  exact ⟨ms, rfl, by omega, by omega, one⟩
section
variable {K : PySem.W.Frag}
def spAreCarriers29 (K : PySem.W.Frag) : Sp := fun vs H Q _ => ∃ (v : V) (o : Option (List V)), vs = [v] ∧ CrewV K H v o ∧ ∀ H', Same H H' → Q (.bl (goodC o)) H'
theorem carr29 {a : Addr} {xs : List V} {t : String} {H : Hp} {x1 : Option V} {Q : VK} {N N2 N3 : L2.St → Hp → Prop} (hs : SqL K H a xs ∨ SqT K H a xs) (any : AnyT K H (.ref a) t) (ht : t = "list" ∨ t = "tuple") (hx : ∀ x ∈ xs, ∃ t, AnyT K H x t) (l8 : xs.length ≤ 8) (q : ∀ H', Same H H' → Q (.bl (goodC (some xs))) H') :
    t_are_carriers K { nx := N, rt := Q, bk := N2, ct := N3 } [some (.ref a), x1] H := by
  refine seq_go ⟨_, rfl, sz (by show 2 ≤ 1000; decide), fun T hT => ?_⟩
  have s1 := same_new (o := .tup [.ty "list", .ty "tuple"]) hT
  have A1 : SqL K (upd H T (.tup [.ty "list", .ty "tuple"])) a xs ∨ SqT K (upd H T (.tup [.ty "list", .ty "tuple"])) a xs := hs.imp (SqL.same s1) (SqT.same s1)
  have any1 := any.same s1
  refine ⟨_, T, _, _, [.type "list", .type "tuple"], true, rfl, upd_same, .cons (.ty _) (.cons (.ty _) .nil), any1.ty, kit_seq any1 ht, _, rfl, iteF ?_⟩
  generalize upd H T (.tup [.ty "list", .ty "tuple"]) = H1 at s1 A1 ⊢
  refine ⟨_, rfl, a, _, rfl, A1, 1, _, rfl, rfl, _, rfl, ?_⟩
  by_cases c1 : (1 : Int) ≤ (xs.length : Nat)
  · rw [decide_eq_true c1]
    refine iteT ⟨_, _, rfl, rfl, _, rfl, ?_⟩
    by_cases c2 : ((xs.length : Nat) : Int) ≤ 6
    · rw [decide_eq_true c2]
      refine iteF ?_
      refine ret_go (cb_go (cons1_go (lcO (G := fun _ v z => v = z) (ys := xs) (fun _ => true) (fun z => V.bl (btw 1 99 z)) (fun R r => ⟨_, rfl, r⟩) A1 (fun i x hx => ⟨x, hx, rfl⟩) rfl (by omega) (fun _ _ _ _ z => z) ?_ fun D H2 hD s2 d2 => ?_)))
      · rintro v y H' Rt Rf s' rfl my rt rf
        obtain ⟨ty, tz⟩ := hx v my
        exact ⟨rfl, yes_if ⟨_, rfl, v, ty, rfl, tz.same (s1.trans s'), rt rfl _ fun _ _ h => h⟩⟩
      · rw [all_true] at d2
        have e : xs.map (fun z => V.bl (btw 1 99 z)) = (xs.map (btw 1 99)).map V.bl := by rw [List.map_map]; rfl
        rw [e] at d2
        refine ⟨D, _, rfl, SqL.of d2, ?_⟩
        have g : goodC (some xs) = (xs.map (btw 1 99)).all id := by
          show (decide ((1 : Int) ≤ (xs.length : Nat)) && (decide (((xs.length : Nat) : Int) ≤ 6) && xs.all (btw 1 99))) = _
          rw [decide_eq_true c1, decide_eq_true c2, List.all_map]
          rfl
        have := q H2 (s1.trans s2)
        rw [g] at this
        exact this
    · rw [decide_eq_false c2]
      have g : goodC (some xs) = false := by
        show (decide ((1 : Int) ≤ (xs.length : Nat)) && (decide (((xs.length : Nat) : Int) ≤ 6) && xs.all (btw 1 99))) = _
        rw [decide_eq_false c2, Bool.false_and, Bool.and_false]
      have := q H1 s1
      rw [g] at this
      exact iteT this
  · rw [decide_eq_false c1]
    have g : goodC (some xs) = false := by
      show (decide ((1 : Int) ≤ (xs.length : Nat)) && (decide (((xs.length : Nat) : Int) ≤ 6) && xs.all (btw 1 99))) = _
      rw [decide_eq_false c1, Bool.false_and]
    have := q H1 s1
    rw [g] at this
    exact iteF ⟨_, rfl, iteT this⟩
theorem pure_are_carriers29 (vs : List V) (H : Hp) (Q : VK) (E : XK) (h : spAreCarriers29 K vs H Q E) : t_are_carriers K { nx := fun _ H' => Q .non H', rt := Q } (start ["value", "capacity"] vs) H := by
  obtain ⟨v, o, rfl, cv, q⟩ := h
  cases cv with
  | lst h hx l => exact carr29 (.inl h) (.lst h) (.inl rfl) hx l q
  | tup h hx l => exact carr29 (.inr h) (.tup h) (.inr rfl) hx l q
  | oth h h1 h2 =>
    refine seq_go ⟨_, rfl, sz (by show 2 ≤ 1000; decide), fun T hT => ?_⟩
    have s1 := same_new (o := .tup [.ty "list", .ty "tuple"]) hT
    have any1 := h.same s1
    exact ⟨_, T, _, _, [.type "list", .type "tuple"], false, rfl, upd_same, .cons (.ty _) (.cons (.ty _) .nil), any1.ty, kit_no any1 h1 h2, _, rfl, iteT (q _ s1)⟩
def IsFst (L : List Int) (i : Int) : Prop := (L = [] ∧ i = 0) ∨ (i ∈ L ∧ ∀ y ∈ L, i ≤ y)
theorem IsFst.uniq {L M : List Int} {i j : Int} (h : ∀ y, y ∈ L ↔ y ∈ M) (a : IsFst L i) (b : IsFst M j) : i = j := by
  rcases a with ⟨rfl, rfl⟩ | ⟨a1, a2⟩
  · rcases b with ⟨_, rfl⟩ | ⟨b1, _⟩
    · rfl
    · exact nomatch (h j).mpr b1
  · rcases b with ⟨rfl, _⟩ | ⟨b1, b2⟩
    · exact nomatch (h i).mp a1
    · have := a2 j ((h j).mpr b1)
      have := b2 i ((h i).mp a1)
      omega
def spFirst29 (K : PySem.W.Frag) (C : Addr) : Sp := fun vs H Q _ => ∃ (x : Addr) (ps ks : List (Int × Int)), vs = [.ref x] ∧ RowAt K C H x ps ks ∧ ps.length ≤ 100 ∧ ks.length ≤ 100 ∧ ∀ (i : Int) H', Same H H' → IsFst ((ps ++ ks).map Prod.fst) i → Q (.int i) H'
theorem pure_first29 {C : Addr} (vs : List V) (H : Hp) (Q : VK) (E : XK) (h : spFirst29 K C vs H Q E) : t_first_index K C { nx := fun _ H' => Q .non H', rt := Q } (start ["row", "index", "_"] vs) H := by
  obtain ⟨x, ps, ks, rfl, row, pl, kl, q⟩ := h
  obtain ⟨dx, fs, hx⟩ := row.at
  refine ret_go (ckw_go (cons1_go (lc_dt (Cc := fun a H1 => Same H H1 ∧ ∃ ts, SqT K H1 a (ts.map V.ref) ∧ Paired (TupAt H1) ts (ps ++ ks)) (fun R r => ?_) fun a H1 z => ?_)))
  · refine ⟨_, rfl, x, dx, fs, rfl, hx, x, ps, ks, rfl, row, fun c hc => ⟨_, rfl, x, dx, fs, rfl, hx, x, ps, ks, rfl, row, fun k hk => ?_⟩⟩
    obtain ⟨tc, bc, pc⟩ := hc
    obtain ⟨tk, bk, pk⟩ := hk
    have lc := paired_len pc
    have lk := paired_len pk
    refine ⟨c, k, _, _, rfl, rfl, bc.sq, bk.sq, ?_, fun e => r k H ⟨fun _ _ h => h, tk, bk.sq, ?_⟩, fun _ e => r c H ⟨fun _ _ h => h, tc, bc.sq, ?_⟩, fun _ _ p hp => r p _ ⟨same_new hp, tc ++ tk, ?_, ?_⟩⟩
    · rw [List.length_map, List.length_map]
      exact sz (by omega)
    · have : tc = [] := List.map_eq_nil_iff.mp e
      have : ps = [] := List.length_eq_zero_iff.mp (by rw [← lc, this]; rfl)
      rw [this, List.nil_append]
      exact pk
    · have : tk = [] := List.map_eq_nil_iff.mp e
      have : ks = [] := List.length_eq_zero_iff.mp (by rw [← lk, this]; rfl)
      rw [this, List.append_nil]
      exact pc
    · rw [List.map_append]
      exact SqT.of upd_same
    · exact paired_append (paired_imp (fun _ _ z => same_new hp _ _ z) pc) (paired_imp (fun _ _ z => same_new hp _ _ z) pk)
  · obtain ⟨s1, ts, sq, pr⟩ := z
    refine lcVtu (G := GT) (ys := ps ++ ks) (fun _ => true) (fun t => .int t.1) (fun R r => r) sq (pairs_rel pr) (by rw [List.length_map, paired_len pr]) (by rw [List.length_append]; omega) (fun _ _ _ s z => z.same s) ?_ fun D H2 hD s2 d2 => ?_
    · rintro v t H' Rt Rf s' ⟨u, rfl, hat⟩ m rt rf
      exact ⟨u, _, rfl, SqT.of hat, rfl, _, _, rfl, _, _, rfl, rfl, rfl, yes_if ⟨_, rfl, rt rfl _ (fun _ _ h => h)⟩⟩
    · rw [all_true] at d2
      have e : (ps ++ ks).map (fun t => V.int t.1) = ((ps ++ ks).map Prod.fst).map V.int := by rw [List.map_map]; rfl
      rw [e] at d2
      exact ⟨D, _, 0, rfl, rfl, SqL.of d2, fun e => q _ H2 (s1.trans s2) (.inl ⟨e, rfl⟩), fun m m1 m2 => q _ H2 (s1.trans s2) (.inr ⟨m1, m2⟩)⟩
end
structure MakX (P : Program) (w : World) (K : PySem.W.Frag) (mg : Str → Option Value) (base : Heap) (CX : CXT) (k : Nat) (x : Str) (C : Addr) (sp : Sp) (dvs : List V) : Prop where
  ex : ∃ (f : Addr) (fd : FuncData) (ps : List Str) (ds : List Value), Mk K C f ∧ FnOk P w K mg base CX k f fd ps sp ∧ mg x = some (.ref C) ∧ Binds K fd ps ds ∧ Vals dvs ds
theorem pe_mkX {X : Cx} {CX : CXT} {k j : Nat} {C : Addr} {x : Str} {sp : Sp} {dvs : List V} {E : XK} {p pos : Pos} {e : Expr} {es : List Expr} {t : TA} (c : MakX X.prog X.w X.K X.mg X.base CX k x C sp dvs) (hr : Room j X.A) (hk : k + 1 ≤ j) (hg : Gl X x) (hx : Passes CX X E) (ha : PA X (e :: es) t)
    (hdb : (x == ("__debug__" : Str)) = false := by decide) (he : starEach (e :: es) X.env = (false, eval e X.env) :: starEach es X.env := by rfl) (hpl : (backTo pos (starEach es X.env)).any (·.1) = false := by rfl) :
    PE X (.Call (.Name x p) (e :: es) [] pos) (tMake C sp dvs E t) := by
  obtain ⟨f, fd, ps, ds, M, F, hm, b, d⟩ := c.ex
  exact pe_make M F (hr.mono hk) hg hm b d hx ha hdb he hpl
section
variable {K : PySem.W.Frag} {CW CR : Addr}
def spWNow29 (K : PySem.W.Frag) (CW CR : Addr) : Sp := fun vs H Q _ => ∃ (x r f l : Addr) (ks : List (Int × Int)) (p : Rws ks) (cs : List (Int × Int × Int)), vs = [.ref x] ∧ WkAt K CW CR H x r f l p p.1 cs ∧ ∀ y H', Same H H' → RowAt K CR H' y p.1 ks → Q (.ref y) H'
theorem pure_w_now29 (R : WalkC K CW) (vs : List V) (H : Hp) (Q : VK) (E : XK) (h : spWNow29 K CW CR vs H Q E) : t_Walk_now K CR { nx := fun _ H' => Q .non H', rt := Q } (start ["self", "contents", "index", "count"] vs) H := by
  obtain ⟨x, r, f, l, ks, p, cs, rfl, w, q⟩ := h
  unfold t_Walk_now
  rw [← xNowC_eq]
  show xNowC K _ [some (.ref x), none, none, none] H
  rw [xNowC_eq]
  have pl := p.2.ok.len
  refine nowC R w (by omega) fun D H1 s1 d1 => ?_
  have w1 := w.same s1
  obtain ⟨dx, hx⟩ := w1.ins
  obtain ⟨dr, fr, hr⟩ := w1.row.at
  have e : p.1.filter (fun t => decide (0 < t.2)) = p.1 := List.filter_eq_self.mpr fun t m => decide_eq_true (by have := (p.2.ok.po t m).1; omega)
  rw [e] at d1
  refine ⟨_, rfl, _, rfl, x, CW, dx, _, _, rfl, hx, R.cls, R.n1, wl1 r f l, r, dr, fr, rfl, hr, r, p.1, ks, rfl, w1.row, fun c hc => ?_⟩
  refine make_row (C := CR) (E := E0) (Q := Q) d1.at hc.at p.2.ok fun y H2 qs ls hy s2 row p1 p2 a1 a2 => ?_
  have e1 := asc_eq a1 p.2.ap p1
  have e2 := asc_eq a2 p.2.ak p2
  subst e1 e2
  exact q y H2 (s1.trans s2) row
end
end SR
set_option Elab.async false
set_option linter.all false
set_option maxRecDepth 100000
set_option maxHeartbeats 4000000
namespace SR
open PySem PySem.Spec PyProof.Rows L2
def spWalkInitX (K : PySem.W.Frag) (CW CR BC : Addr) : Sp := fun vs H Q E => ∃ (x r : Addr) (v : V) (dx : Addr) (ks : List (Int × Int)) (p : Rws ks) (o : Option (List V)), vs = [.ref x, .ref r, v] ∧ H x = some (.ins CW dx []) ∧ RowAt K CR H r p.1 ks ∧ CrewV K H v o ∧
  (goodC o = false → ∀ H', Same H H' → E (.ref BC) none H') ∧
  ∀ ms : List Int, o = some (ms.map V.int) → goodC o = true → ∀ H' f l (i : Int), IsFst ((p.1 ++ ks).map Prod.fst) i → SameBut x H H' → H f = none → H l = none → WkAt K CW CR H' x r f l p p.1 (ms.map fun m => (i, m, 0)) → Q .non H'
def t_Walk_initX (K : PySem.W.Frag) (c_BadCapacity : Addr) (c_Row : Addr) (E : XK) : TS := tSeq (tIfS (tNot (tB (tCall (spAreCarriers29 K) [] E0 (tCons (tVar 2) (tNil)))))
  (tOut (.ref c_BadCapacity) E)
  (tNext))
  (tSeq (tAsg (tCall (spFirst29 K c_Row) [] E0 (tCons (tVar 1) (tNil))) (gName 3))
  (tSeq (sFld K (tVar 0) (tVar 1) "_row")
  (tSeq (sFld K (tVar 0) (tCB (qDictOf K) (tCons (tProp c_Row (spContents K c_Row) [] E0 (tVar 1)) (tNil))) "_count_at")
  (sFld K (tVar 0) (tLc ((fun σ H R => iList K (tVar 2) σ H R ∨ iTup K (tVar 2) σ H R)) (gName 4) (tYes) (tTup (tCons (tVar 3) (tCons (tVar 4) (tCons (tC (.int 0)) (tNil))))) [4]) "_carriers"))))
theorem sq_insx {K : PySem.W.Frag} {H H' : Hp} {a x C0 dx0 : Addr} {fs0 : List (Str × V)} {xs : List V} (h : SqL K H a xs ∨ SqT K H a xs) (hx : H x = some (.ins C0 dx0 fs0)) (k : SameBut x H H') : SqL K H' a xs ∨ SqT K H' a xs := by
  have nx : ∀ {o : HO}, H a = some o → (∀ C dx fs, o ≠ .ins C dx fs) → H' a = some o := fun {o} h m => k _ _ (fun z => by
    rw [z, hx] at h
    exact m _ _ _ (Option.some.inj h).symm) h
  rcases h with h | h
  · exact .inl (sql_insx h hx k)
  · rcases h with (h | ⟨o, h⟩) | h
    · exact .inr (.inl (.inl (nx h fun _ _ _ z => nomatch z)))
    · exact .inr (.inl (.inr ⟨o, nx h fun _ _ _ z => by cases z⟩))
    · exact .inr (.inr h)
section
variable {K : PySem.W.Frag} {H5 : Hp} {a x r : Addr} {i : Int} {ms : List Int}
/-- one item more -/
theorem crs_turn {D : Addr} {H6 : Hp} {m : Int} {j : Nat} (l2 : ms.length ≤ 6) (hm : ms[j]? = some m) (hD : H5 D = none) (s6 : Same H5 H6) (c6 : CrsL H6 D ((ms.take j).map fun m => (i, m, 0))) {N : Hp → Prop}
    (hN : ∀ H', Same H5 H' → CrsL H' D ((ms.take (j + 1)).map fun m => (i, m, 0)) → N H') :
    ∀ t, H6 t = none → ∃ us : List V, upd H6 t (.tup [.int i, .int m, .int 0]) D = some (.lst us) ∧ us.length < sizeLine ∧ N (upd (upd H6 t (.tup [.int i, .int m, .int 0])) D (.lst (us ++ [.ref t]))) := by
  intro t ht
  obtain ⟨ts, d6, pr⟩ := c6
  have s7 := same_new (o := .tup [.int i, .int m, .int 0]) ht
  have T7 : Cr3 (upd H6 t (.tup [.int i, .int m, .int 0])) t (i, m, 0) := upd_same
  generalize upd H6 t (.tup [.int i, .int m, .int 0]) = H8 at s7 T7 ⊢
  have d8 := s7 _ _ d6
  have keep : ∀ {b : Addr} {z : Int × Int × Int}, Cr3 H8 b z → Cr3 (upd H8 D (.lst (ts.map V.ref ++ [.ref t]))) b z := fun {b z} w => (upd_ne (ne_of w d8 (by intro e; cases e))).trans w
  have tl : ts.length ≤ 6 := by
    rw [paired_len pr, List.length_map]
    exact Nat.le_trans (List.length_take_le' _ _) l2
  refine ⟨_, d8, ?_, hN _ (same_upd (s6.trans s7) hD) ⟨ts ++ [t], ?_, ?_⟩⟩
  · rw [List.length_map]
    exact Nat.lt_of_le_of_lt tl (by decide)
  · rw [upd_same, List.map_append]
    rfl
  · rw [List.take_succ, hm, List.map_append]
    exact paired_snoc (keep T7) (paired_imp (fun _ _ z => keep (s7 _ _ z)) pr)
theorem crs29 {Q' : VK} (A5 : SqL K H5 a (ms.map V.int) ∨ SqT K H5 a (ms.map V.int)) (l2 : ms.length ≤ 6) (q' : ∀ D H', H5 D = none → Same H5 H' → CrsL H' D (ms.map fun m => (i, m, 0)) → Q' (.ref D) H') : tCrs K [some (.ref x), some (.ref r), some (.ref a), some (.int i), none] H5 Q' := by
  have last : ∀ D H6, H5 D = none → Same H5 H6 ∧ CrsL H6 D ((ms.take (ms.map V.int).length).map fun m => (i, m, 0)) → Q' (.ref D) H6 := fun D H6 hD ⟨s6, c6⟩ => by
    rw [List.length_map, List.take_length] at c6
    exact q' D H6 hD s6 c6
  rcases A5 with A5 | A5
  · refine .inl ⟨_, rfl, a, rfl, ⟨_, A5⟩, fun D hD => ?_⟩
    refine lc_it (walk_list (K := K) (a := a) (xs := ms.map V.int)) (fun j H6 => Same H5 H6 ∧ CrsL H6 D ((ms.take j).map fun m => (i, m, 0))) ⟨same_new hD, [], upd_same, .nil⟩ (fun j H6 _ h => SqL.same h.1 A5) ?_ fun H6 h => last D H6 hD h
    rintro j v H6 H7 hj ⟨s6, c6⟩ ⟨rfl, hv⟩
    rw [List.getElem?_map] at hv
    obtain ⟨m, hm, rfl⟩ := Option.map_eq_some_iff.mp hv
    exact ⟨rfl, yes_if ⟨_, rfl, _, rfl, sz (by show 3 ≤ 1000; decide), crs_turn (N := fun H' => Same H5 H' ∧ CrsL H' D ((ms.take (j + 1)).map fun m => (i, m, 0))) l2 hm hD s6 c6 fun H' s c => ⟨s, c⟩⟩⟩
  · refine .inr ⟨_, rfl, a, rfl, ⟨_, A5⟩, fun D hD => ?_⟩
    refine lc_it (walk_tup (K := K) (a := a) (xs := ms.map V.int)) (fun j H6 => Same H5 H6 ∧ CrsL H6 D ((ms.take j).map fun m => (i, m, 0))) ⟨same_new hD, [], upd_same, .nil⟩ (fun j H6 _ h => SqT.same h.1 A5) ?_ fun H6 h => last D H6 hD h
    rintro j v H6 H7 hj ⟨s6, c6⟩ ⟨rfl, hv⟩
    rw [List.getElem?_map] at hv
    obtain ⟨m, hm, rfl⟩ := Option.map_eq_some_iff.mp hv
    exact ⟨rfl, yes_if ⟨_, rfl, _, rfl, sz (by show 3 ≤ 1000; decide), crs_turn (N := fun H' => Same H5 H' ∧ CrsL H' D ((ms.take (j + 1)).map fun m => (i, m, 0))) l2 hm hD s6 c6 fun H' s c => ⟨s, c⟩⟩⟩
end
theorem pure_walk_initX {K : PySem.W.Frag} {CW CR BC : Addr} (R : WalkC K CW) (vs : List V) (H : Hp) (Q : VK) (E : XK) (h : spWalkInitX K CW CR BC vs H Q E) : t_Walk_initX K BC CR E { nx := fun _ H' => Q .non H', rt := Q } (start ["self", "row", "capacities", "start", "capacity"] vs) H := by
  obtain ⟨x, r, v, dx, ks, p, o, rfl, hx, row, cv, q0, q1⟩ := h
  have pl := p.2.ok.len
  have kl := p.2.ok.kl
  refine ⟨_, rfl, v, o, rfl, cv, fun H1 s1 => ⟨_, rfl, ?_⟩⟩
  cases good : goodC o with
  | false => exact iteT (q0 good H1 s1)
  | true =>
  refine iteF ?_
  obtain ⟨a, ms, rfl, rfl, hA, l1, l2, one⟩ : ∃ (a : Addr) (ms : List Int), v = .ref a ∧ o = some (ms.map V.int) ∧ (SqL K H a (ms.map V.int) ∨ SqT K H a (ms.map V.int)) ∧ 1 ≤ ms.length ∧ ms.length ≤ 6 ∧ ∀ m ∈ ms, 1 ≤ m ∧ m ≤ 99 := by
    cases cv with
    | lst h hx l =>
      obtain ⟨ms, rfl, h1, h2, h3⟩ := good_ints good
      exact ⟨_, ms, rfl, rfl, .inl h, h1, h2, h3⟩
    | tup h hx l =>
      obtain ⟨ms, rfl, h1, h2, h3⟩ := good_ints good
      exact ⟨_, ms, rfl, rfl, .inr h, h1, h2, h3⟩
    | oth h h1 h2 => cases good
  have q := q1 ms rfl good
  refine ⟨_, rfl, r, p.1, ks, rfl, row.same s1, by omega, by omega, fun i H2 s2 fst => ?_⟩
  have s02 := s1.trans s2
  have hx2 := s02 _ _ hx
  have row2 := row.same s02
  have A2 := hA.imp (SqL.same s02) (SqT.same s02)
  refine ⟨_, rfl, _, rfl, x, CW, dx, _, rfl, hx2, R.cls, R.n1, (by show 0 < 1000; decide), ?_⟩
  rw [wp1]
  have b3 : SameBut x H2 (upd H2 x (.ins CW dx (wF1 r))) := but_upd
  have hx3 : upd H2 x (.ins CW dx (wF1 r)) x = some (.ins CW dx (wF1 r)) := upd_same
  have nxr := row2.ner hx2
  have row3 := row2.insx hx2 nxr b3
  have A3 := sq_insx A2 hx2 b3
  generalize upd H2 x (.ins CW dx (wF1 r)) = H3 at b3 hx3 row3 A3 ⊢
  obtain ⟨dr, fr, hr⟩ := row3.at
  refine ⟨_, rfl, r, dr, fr, rfl, hr, r, p.1, ks, rfl, row3, fun c hc => ?_⟩
  try rw [← xDictOf_eq]
  show xDictOf K [.ref c] H3 _
  try rw [xDictOf_eq]
  refine PairsAt.dict hc.at p.2.ok.nd fun f hf => ?_
  have s4 := same_new (o := .dK (kvsOf p.1)) hf
  have f4 : upd H3 f (.dK (kvsOf p.1)) f = some (.dK (kvsOf p.1)) := upd_same
  have row4 := row3.same s4
  have nz4 := (Nz.new row3 hf).same s4
  have A4 := A3.imp (SqL.same s4) (SqT.same s4)
  have hx4 := s4 _ _ hx3
  generalize upd H3 f (.dK (kvsOf p.1)) = H4 at s4 f4 row4 nz4 A4 hx4 ⊢
  refine ⟨_, rfl, x, CW, dx, _, rfl, hx4, R.cls, R.n2, (by show 1 < 1000; decide), ?_⟩
  rw [wp2]
  have b5 : SameBut x H4 (upd H4 x (.ins CW dx (wF2 r f))) := but_upd
  have hx5 : upd H4 x (.ins CW dx (wF2 r f)) x = some (.ins CW dx (wF2 r f)) := upd_same
  have row5 := row4.insx hx4 nxr b5
  have A5 := sq_insx A4 hx4 b5
  have nfx : f ≠ x := fun e => by rw [e, hx3] at hf; cases hf
  have f5 := b5 _ _ nfx f4
  have nz5 : Nz CR (upd H4 x (.ins CW dx (wF2 r f))) f r := let ⟨a, b, c, d, e, h1, n⟩ := nz4; ⟨a, b, c, d, e, b5 _ _ nxr.symm h1, n⟩
  have b05 : SameBut x H (upd H4 x (.ins CW dx (wF2 r f))) := fun b o ne h => b5 _ _ ne (s4 _ _ (b3 _ _ ne (s02 _ _ h)))
  have hf0 : H f = none := by
    cases e : H f with
    | none => rfl
    | some o => rw [b3 _ _ nfx (s02 _ _ e)] at hf; cases hf
  generalize upd H4 x (.ins CW dx (wF2 r f)) = H5 at hx5 row5 A5 f5 nz5 b05 ⊢
  have lc : ∀ (Q' : VK), (∀ D H', H5 D = none → Same H5 H' → CrsL H' D (ms.map fun m => (i, m, 0)) → Q' (.ref D) H') → tCrs K [some (.ref x), some (.ref r), some (.ref a), some (.int i), none] H5 Q' := fun Q' q' => by
    exact crs29 A5 l2 q'
  show sFld K (tVar 0) (tCrs K) "_carriers" { nx := fun _ H' => Q .non H', rt := Q } [some (.ref x), some (.ref r), some (.ref a), some (.int i), none] H5
  rw [← xCrs_eq]
  show xCrs K [some (.ref x), some (.ref r), some (.ref a), some (.int i), none] H5 _
  rw [xCrs_eq]
  refine lc _ fun l H6 hl s6 c6 => ?_
  have hx6 := s6 _ _ hx5
  refine ⟨_, rfl, x, CW, dx, _, rfl, hx6, R.cls, R.n3, (by show 2 < 1000; decide), ?_⟩
  rw [wp3]
  have b7 : SameBut x H6 (upd H6 x (.ins CW dx (wFs r f l))) := but_upd
  have nlx : l ≠ x := fun e => by rw [e, hx5] at hl; cases hl
  have hl0 : H l = none := by
    cases e : H l with
    | none => rfl
    | some o => rw [b05 _ _ nlx e] at hl; cases hl
  refine q _ f l i fst (fun b o ne h => b7 _ _ ne (s6 _ _ (b05 _ _ ne h))) hf0 hl0 ⟨⟨dx, upd_same⟩, (row5.same s6).insx hx6 nxr b7, ?_, b7 _ _ nfx (s6 _ _ f5), ?_⟩
  · exact let ⟨a, b, c, d, e, h1, n⟩ := nz5; ⟨a, b, c, d, e, b7 _ _ nxr.symm (s6 _ _ h1), n⟩
  · obtain ⟨ts, h1, h2⟩ := c6
    exact ⟨ts, b7 _ _ nlx h1, paired_imp (fun _ _ z => b7 _ _ (ne_of z hx6 (by intro e; cases e)) z) h2⟩
end SR
set_option Elab.async false
set_option linter.all false
set_option maxRecDepth 100000
set_option maxHeartbeats 4000000
set_option Elab.async false
set_option linter.all false
set_option maxRecDepth 100000
set_option maxHeartbeats 2000000
namespace SR
open PySem PySem.Spec PyProof.Rows L2
/-- what is known of a turn, its boxes drawn -/
structure B14 (qs ps ks : List (Int × Int)) (far : Int) : Prop where
  v : Vd ps ks
  pm : qs.Perm ps
  bd : ∀ p ∈ ps, -60 ≤ p.1 ∧ p.1 ≤ 250
  fk : far = 0 ∨ ks = []
  f1 : -(10 ^ 29) ≤ far
  f2 : far ≤ 10 ^ 29
section
variable {qs ps ks : List (Int × Int)} {far : Int}
theorem B14.nd (B : B14 qs ps ks far) : (qs.map Prod.fst).Nodup := (B.pm.map _).nodup_iff.mpr B.v.ok.nd
theorem B14.len (B : B14 qs ps ks far) : ps.length ≤ 40 := vd_len B.v
theorem B14.vd (B : B14 qs ps ks far) : Vd (ps.map (shP far)) ks := by
  rcases B.fk with rfl | rfl
  · rw [shP_0]
    exact B.v
  · exact vd_move B.v far
theorem B14.tr (B : B14 qs ps ks far) : trP (⟨ps.map (shP far), B.vd⟩ : Rws ks) = (trP (⟨ps, B.v⟩ : Rws ks)).map fun t => (t.1, t.2 + far) := by
  rcases B.fk with z | z
  · subst z
    have e : (⟨ps.map (shP 0), B.vd⟩ : Rws ks) = ⟨ps, B.v⟩ := Subtype.ext (shP_0 ps)
    rw [e]
    have : ∀ t ∈ trP (⟨ps, B.v⟩ : Rws ks), (t.1, t.2 + 0) = t := fun t _ => by rw [Int.add_zero]
    rw [map_same this, List.map_id']
  · subst z
    exact trP_move B.v far
end
structure J14 (H : Hp) (d g c : Addr) (b : Nat) (qs ps ks : List (Int × Int)) (far : Int) (F Z : Addr) : Prop where
  S : StB H d g c b
  f : H F = some (.dK (kvsOf qs))
  z : H Z = some (.dK (kvsOf ks))
  B : B14 qs ps ks far
section
variable {K : PySem.W.Frag} {C : Addr} {N N2 N3 : L2.St → Hp → Prop} {R : VK} {H : Hp} {d g c F Z : Addr} {b : Nat} {qs ps ks : List (Int × Int)} {far : Int}
theorem J14.same {H' : Hp} (s : Same H H') (J : J14 H d g c b qs ps ks far F Z) : J14 H' d g c b qs ps ks far F Z := ⟨StB.same s J.S, s _ _ J.f, s _ _ J.z, J.B⟩
/-- what is known of the dict while it is filled -/
structure U14 (ks us : List (Int × Int)) (i : Nat) : Prop where
  nd : (us.map Prod.fst).Nodup
  ok : ∀ p ∈ us, 1 ≤ p.2 ∧ p.2 ≤ cap ks p.1
  bd : ∀ p ∈ us, -60 ≤ p.1 ∧ p.1 ≤ 60
  sm : total us ≤ 20 + 9 * (i : Int)
theorem U14.len {us : List (Int × Int)} {i : Nat} (u : U14 ks us i) : (us.length : Int) ≤ 20 + 9 * (i : Int) := by
  have h := len_sum fun p m => (u.ok p m).1
  have s := u.sm
  unfold total at s
  omega
end
end SR
set_option Elab.async false
set_option linter.all false
set_option maxRecDepth 100000
set_option maxHeartbeats 4000000
namespace SR
open PySem PySem.Spec PyProof.Rows L2
/-- an error class without __init__ that is a ValueError -/
structure ErrW (K : PySem.W.Frag) (B S : Addr) : Prop where
  exm : PySem.W.exmOne K (.ref B) (.ref S) = some true
  ec : ExcC K B
  kit : PySem.W.kitOne K (.ref B) (.ref B) = some true
  v : PySem.W.kitOne K (.ref B) (.type "ValueError") = some true
section
variable {K : PySem.W.Frag}
def spNamed29 (K : PySem.W.Frag) (B : Addr) : Sp := fun vs H Q _ => ∃ (a : Addr), vs = [.ref a] ∧ H a = some (CauO (.ref B) none a) ∧ Q (.str "capacity") H
def t_named29 (K : PySem.W.Frag) (c_BadCapacity : Addr) : TS := tRet (tIf (tAnd (tB (tCB (rIsH K) (tCons (tVar 0) (tCons (tC (.ref c_BadCapacity)) (tNil))))) (tB (tCB (rIsH K) (tCons (tVar 0) (tCons (tC (.ty "ValueError")) (tNil)))))) (tC (.str "capacity")) (tC (.str "other")))
theorem pure_named29 {B S : Addr} (Z : ErrW K B S) (vs : List V) (H : Hp) (Q : VK) (E : XK) (h : spNamed29 K B vs H Q E) : t_named29 K B { nx := fun _ H' => Q .non H', rt := Q } (start ["caught"] vs) H := by
  obtain ⟨a, rfl, ha, q⟩ := h
  refine ⟨_, rfl, a, B, _, _, true, ha, Z.ec, rfl, fun u z => z, Z.kit, _, rfl, ?_⟩
  refine iteT ⟨_, rfl, a, B, _, .type "ValueError", true, ha, Z.ec, rfl, fun u z => z, Z.v, _, rfl, ?_⟩
  exact q
def spGood29 (K : PySem.W.Frag) : Sp := fun vs H Q _ => ∃ (v : V) (o : Option (List V)), vs = [v] ∧ CrewV K H v o ∧ ∀ H', Same H H' → Q (.bl (goodC o)) H'
def t_badC (K : PySem.W.Frag) : TE := (tLc ((fun σ H R => iList K (tVar 0) σ H R ∨ iTup K (tVar 0) σ H R)) (gName 2) (tOr (tB (tCB (rIsi K) (tCons (tVar 2) (tCons (tC (.ty "bool")) tNil)))) (tOr (tNot (tB (tCB (rIsi K) (tCons (tVar 2) (tCons (tC (.ty "int")) tNil))))) (tNot (tTest (tChain qLe qLe (tC (.int 1)) (tVar 2) (tC (.int 99))))))) (tC (.int 1)) [2])
def t_good29 (K : PySem.W.Frag) : TS := tSeq (tIfS (tOr (tNot (tB (tCB (rIsiT K) (tCons (tVar 0) (tCons (tTup (tCons (tC (.ty "list")) (tCons (tC (.ty "tuple")) (tNil)))) tNil))))) (tNot (tTest (tChain qLe qLe (tC (.int 1)) (tCB (qLen K) (tCons (tVar 0) (tNil))) (tC (.int 6))))))
  (tRet (tC (.bl false)))
  (tNext))
  (tSeq (tAsg (t_badC K) (gName 1))
  (tRet (tOp (rEqD K) (tVar 1) (tLst (tNil)))))
@[irreducible] def xBadC := @t_badC
theorem xBadC_eq : @xBadC = @t_badC := by
  unfold xBadC
  rfl
theorem eqv_ones : ∀ n : Nat, PyData.eqv (.list ((List.replicate n (1 : Int)).map PyData.int)) (.list []) = decide (n = 0)
  | 0 => rfl
  | n + 1 => rfl
theorem badC {a : Addr} {xs : List V} {H : Hp} {x1 x2 : Option V} {Q : VK} (hs : SqL K H a xs ∨ SqT K H a xs) (hx : ∀ x ∈ xs, ∃ t, AnyT K H x t) (l8 : xs.length ≤ 8) (q : ∀ D H', Same H H' → H' D = some (.lst ((List.replicate (xs.filter fun z => !btw 1 99 z).length (1 : Int)).map V.int)) → Q (.ref D) H') :
    t_badC K [some (.ref a), x1, x2] H Q := by
  refine lcO (G := fun _ v z => v = z) (ys := xs) (fun z => !btw 1 99 z) (fun z => V.int 1) (fun R r => ⟨_, rfl, r⟩) hs (fun i x hx => ⟨x, hx, rfl⟩) rfl (by omega) (fun _ _ _ _ z => z) ?_ fun D H2 hD s2 d2 => ?_
  · rintro v y H' Rt Rf s' rfl my rt rf
    obtain ⟨t, tz⟩ := hx v my
    have tz' := tz.same s'
    have yes : btw 1 99 v = false → Rt (.int 1) H' := fun e => rt (by show (!btw 1 99 v) = true; rw [e]; rfl) H' fun _ _ h => h
    have no : btw 1 99 v = true → Rf H' := fun e => rf (by show (!btw 1 99 v) = false; rw [e]; rfl) H' fun _ _ h => h
    obtain ⟨k1, k2, _⟩ := tz'.kit
    refine ⟨rfl, _, rfl, _, _, _, _, _, rfl, .ty _, tz'.ty, k2, _, rfl, ?_⟩
    cases hb : t == "bool" with
    | true =>
      refine iteT (iteT (yes ?_))
      cases hi : isI v with
      | false => exact btw_not hi 1 99
      | true =>
        have := tz'.notB hi
        rw [hb] at this
        cases this
    | false =>
      refine iteF ⟨_, rfl, _, _, _, _, _, rfl, .ty _, tz'.ty, k1, _, rfl, ?_⟩
      rw [hb, Bool.or_false]
      cases hi : isI v with
      | false => exact iteT (iteT (yes (btw_not hi 1 99)))
      | true =>
        obtain ⟨i, rfl⟩ : ∃ i, v = .int i := by
          cases v <;> first | exact ⟨_, rfl⟩ | cases hi
        refine iteF ⟨_, rfl, 1, _, rfl, rfl, _, rfl, ?_⟩
        by_cases c1 : (1 : Int) ≤ i
        · rw [decide_eq_true c1]
          refine iteT ⟨_, _, rfl, rfl, _, rfl, ?_⟩
          by_cases c2 : i ≤ 99
          · rw [decide_eq_true c2]
            exact iteF (no (btw_iff.mpr ⟨i, rfl, c1, c2⟩))
          · rw [decide_eq_false c2]
            refine iteT (yes ?_)
            show (decide (1 ≤ i) && decide (i ≤ 99)) = false
            rw [decide_eq_false c2, Bool.and_false]
        · rw [decide_eq_false c1]
          refine iteF ⟨_, rfl, iteT (yes ?_)⟩
          show (decide (1 ≤ i) && decide (i ≤ 99)) = false
          rw [decide_eq_false c1, Bool.false_and]
  · have e : (xs.filter fun z => !btw 1 99 z).map (fun _ => V.int 1) = (List.replicate (xs.filter fun z => !btw 1 99 z).length (1 : Int)).map V.int := by
      rw [List.map_replicate, List.map_const']
    rw [e] at d2
    exact q D H2 s2 d2
theorem good29s {a : Addr} {xs : List V} {t : String} {H : Hp} {x1 x2 : Option V} {Q : VK} {N N2 N3 : L2.St → Hp → Prop} (hs : SqL K H a xs ∨ SqT K H a xs) (any : AnyT K H (.ref a) t) (ht : t = "list" ∨ t = "tuple") (hx : ∀ x ∈ xs, ∃ t, AnyT K H x t) (l8 : xs.length ≤ 8) (q : ∀ H', Same H H' → Q (.bl (goodC (some xs))) H') :
    t_good29 K { nx := N, rt := Q, bk := N2, ct := N3 } [some (.ref a), x1, x2] H := by
  unfold t_good29
  rw [← xBadC_eq]
  refine seq_go ⟨_, rfl, sz (by show 2 ≤ 1000; decide), fun T hT => ?_⟩
  have s1 := same_new (o := .tup [.ty "list", .ty "tuple"]) hT
  have A1 : SqL K (upd H T (.tup [.ty "list", .ty "tuple"])) a xs ∨ SqT K (upd H T (.tup [.ty "list", .ty "tuple"])) a xs := hs.imp (SqL.same s1) (SqT.same s1)
  have any1 := any.same s1
  refine ⟨_, T, _, _, [.type "list", .type "tuple"], true, rfl, upd_same, .cons (.ty _) (.cons (.ty _) .nil), any1.ty, kit_seq any1 ht, _, rfl, iteF ?_⟩
  generalize upd H T (.tup [.ty "list", .ty "tuple"]) = H1 at s1 A1 ⊢
  refine ⟨_, rfl, a, _, rfl, A1, 1, _, rfl, rfl, _, rfl, ?_⟩
  by_cases c1 : (1 : Int) ≤ (xs.length : Nat)
  · rw [decide_eq_true c1]
    refine iteT ⟨_, _, rfl, rfl, _, rfl, ?_⟩
    by_cases c2 : ((xs.length : Nat) : Int) ≤ 6
    · rw [decide_eq_true c2]
      refine iteF ?_
      refine seq_go (asg_go ?_)
      show xBadC K [some (.ref a), x1, x2] H1 _
      rw [xBadC_eq]
      refine badC A1 (fun x m => let ⟨t, z⟩ := hx x m; ⟨t, z.same s1⟩) l8 fun D H2 s2 d2 => ?_
      refine ⟨_, rfl, sz (Nat.zero_le _), fun e he => ?_⟩
      have s3 := same_new (o := .lst []) he
      refine ⟨_, _, .lst (SqL.of (s3 _ _ d2)) (dp_ints _), .lst (SqL.of upd_same) .nil, shaped_ints _, rfl, ?_⟩
      rw [eqv_ones]
      have g : goodC (some xs) = decide ((xs.filter fun z => !btw 1 99 z).length = 0) := by
        show (decide ((1 : Int) ≤ (xs.length : Nat)) && (decide (((xs.length : Nat) : Int) ≤ 6) && xs.all (btw 1 99))) = _
        rw [decide_eq_true c1, decide_eq_true c2, Bool.true_and, Bool.true_and, Bool.eq_iff_iff, decide_eq_true_iff, List.length_eq_zero_iff, List.filter_eq_nil_iff, List.all_eq_true]
        exact ⟨fun h x m => by rw [h x m]; decide, fun h x m => by
          have := h x m
          cases z : btw 1 99 x with
          | true => rfl
          | false => rw [z] at this; exact (this rfl).elim⟩
      have := q _ (s1.trans (s2.trans s3))
      rw [g] at this
      exact this
    · rw [decide_eq_false c2]
      have g : goodC (some xs) = false := by
        show (decide ((1 : Int) ≤ (xs.length : Nat)) && (decide (((xs.length : Nat) : Int) ≤ 6) && xs.all (btw 1 99))) = _
        rw [decide_eq_false c2, Bool.false_and, Bool.and_false]
      have := q H1 s1
      rw [g] at this
      exact iteT this
  · rw [decide_eq_false c1]
    have g : goodC (some xs) = false := by
      show (decide ((1 : Int) ≤ (xs.length : Nat)) && (decide (((xs.length : Nat) : Int) ≤ 6) && xs.all (btw 1 99))) = _
      rw [decide_eq_false c1, Bool.false_and]
    have := q H1 s1
    rw [g] at this
    exact iteF ⟨_, rfl, iteT this⟩
theorem pure_good29 (vs : List V) (H : Hp) (Q : VK) (E : XK) (h : spGood29 K vs H Q E) : t_good29 K { nx := fun _ H' => Q .non H', rt := Q } (start ["thing", "bad", "most"] vs) H := by
  obtain ⟨v, o, rfl, cv, q⟩ := h
  cases cv with
  | lst h hx l => exact good29s (.inl h) (.lst h) (.inl rfl) hx l q
  | tup h hx l => exact good29s (.inr h) (.tup h) (.inr rfl) hx l q
  | oth h h1 h2 =>
    refine seq_go ⟨_, rfl, sz (by show 2 ≤ 1000; decide), fun T hT => ?_⟩
    have s1 := same_new (o := .tup [.ty "list", .ty "tuple"]) hT
    have any1 := h.same s1
    exact ⟨_, T, _, _, [.type "list", .type "tuple"], false, rfl, upd_same, .cons (.ty _) (.cons (.ty _) .nil), any1.ty, kit_no any1 h1 h2, _, rfl, iteT (q _ s1)⟩
end
end SR
set_option Elab.async false
set_option linter.all false
set_option maxRecDepth 100000
set_option maxHeartbeats 4000000
namespace SR
open PySem PySem.Spec PyProof.Rows L2
def spLawL (K : PySem.W.Frag) (P : Addr) : Sp := fun vs H Q _ => ∃ (a : Addr) (ns : List Int), vs = [.ref a] ∧ SqL K H a (ns.map V.int) ∧ ns.length ≤ 63 ∧ H P = some (.tbl #[]) ∧ ∀ H', Q (.bl true) H'
end SR
set_option Elab.async false
set_option linter.all false
set_option maxRecDepth 100000
set_option maxHeartbeats 4000000
namespace SR
open PySem PySem.Spec PyProof.Rows L2
def isS (x : V) : Prop := (∃ i, x = .int i) ∨ (∃ b, x = .bl b) ∨ x = .non ∨ ∃ s, x = .str s
def XsV (d g : Addr) (H : Hp) (xs : List V) : Prop := ∀ x ∈ xs, isS x ∨ ∃ t, x = .ref t ∧ t ≠ d ∧ t ≠ g ∧ H t = some (.tup [.int 1])
inductive CrAt (d g c : Addr) (H : Hp) : V → Option (List V) → Prop where
  | lst {a : Addr} {xs : List V} (h : H a = some (.lst xs)) (n1 : a ≠ d) (n2 : a ≠ g) (n3 : a ≠ c) (x : XsV d g H xs) (l : xs.length ≤ 8) : CrAt d g c H (.ref a) (some xs)
  | tup {a : Addr} {o : Obj} {xs : List V} (h : H a = some (.frz o (.tup xs))) (hc : o.cls = .type "tuple") (hd : o.dict = none) (n1 : a ≠ d) (n2 : a ≠ g) (x : XsV d g H xs) (l : xs.length ≤ 8) : CrAt d g c H (.ref a) (some xs)
  | oth {v : V} (h : isS v) : CrAt d g c H v none
  | dct {a : Addr} {kvs : List (Key × V)} (h : H a = some (.dK kvs)) (n1 : a ≠ d) (n2 : a ≠ g) : CrAt d g c H (.ref a) none
/-- what is kept of the crews -/
def Up (d g : Addr) (H H' : Hp) : Prop := ∀ a o, a ≠ d → a ≠ g → H a = some o → (∀ ps, o ≠ .tbl ps) → H' a = some o
section
variable {K : PySem.W.Frag} {d g c : Addr} {H H' : Hp} {v : V} {o : Option (List V)} {xs : List V} {b : Nat}
theorem XsV.up (k : Up d g H H') (h : XsV d g H xs) : XsV d g H' xs := fun x m => (h x m).imp id fun ⟨t, e, n1, n2, z⟩ => ⟨t, e, n1, n2, k _ _ n1 n2 z fun _ y => by cases y⟩
theorem CrAt.up (k : Up d g H H') (h : CrAt d g c H v o) : CrAt d g c H' v o := by
  cases h with
  | lst h n1 n2 n3 x l => exact .lst (k _ _ n1 n2 h fun _ y => by cases y) n1 n2 n3 (x.up k) l
  | tup h hc hd n1 n2 x l => exact .tup (k _ _ n1 n2 h fun _ y => by cases y) hc hd n1 n2 (x.up k) l
  | oth h => exact .oth h
  | dct h n1 n2 => exact .dct (k _ _ n1 n2 h fun _ y => by cases y) n1 n2
theorem Up.same (s : Same H H') : Up d g H H' := fun _ _ _ _ h _ => s _ _ h
theorem Up.kp (k : Kp d g H H') : Up d g H H' := fun _ _ n1 n2 h _ => k _ _ n1 n2 h
theorem Up.ext (e : LamX.ExtN H H') : Up d g H H' := fun _ _ _ _ h n => e _ _ h n
theorem isS.any (h : isS v) : ∃ t, AnyT K H v t ∧ (t == "list") = false ∧ (t == "tuple") = false := by
  rcases h with ⟨i, rfl⟩ | ⟨b, rfl⟩ | rfl | ⟨s, rfl⟩
  · exact ⟨_, .int i, by decide, by decide⟩
  · exact ⟨_, .bl b, by decide, by decide⟩
  · exact ⟨_, .non, by decide, by decide⟩
  · exact ⟨_, .str s, by decide, by decide⟩
theorem XsV.any (h : XsV d g H xs) : ∀ x ∈ xs, ∃ t, AnyT K H x t := fun x m => by
  rcases h x m with z | ⟨t, rfl, _, _, z⟩
  · obtain ⟨t, a, _⟩ := z.any (K := K) (H := H)
    exact ⟨t, a⟩
  · exact ⟨_, .tup (SqT.of z)⟩
theorem CrAt.V (h : CrAt d g c H v o) : CrewV K H v o := by
  cases h with
  | lst h n1 n2 n3 x l => exact .lst (SqL.of h) x.any l
  | @tup a oo xs h hc hd n1 n2 x l => exact .tup (.inl (.inr ⟨oo, h⟩)) x.any l
  | oth h =>
    obtain ⟨t, a, h1, h2⟩ := h.any (K := K) (H := H)
    exact .oth a h1 h2
  | dct h n1 n2 => exact .oth (.dct (.inl h)) (by decide) (by decide)
theorem Kp.new' (s : Same H H') : Kp d g H H' := fun _ _ _ _ h => s _ _ h
def t_crew29 (K : PySem.W.Frag) : TE := (tLc (iRng1 (tCons (tCall spTake [] E0 (tCons (tVar 1) (tCons (tC (.int 9)) (tNil)))) (tNil))) (gName 6) (tYes) (tOp qAdd (tC (.int 1)) (tCall spTake [] E0 (tCons (tVar 1) (tCons (tC (.int 99)) (tNil))))) [6])
def t_odd29 (K : PySem.W.Frag) : TE := (tOp rCat (tSl (rSlL K) (tVar 5) (tNoPart) (tPart (tC (.int 2)))) (tLst (tCons (tCall (spPick K) [] E0 (tCons (tVar 1) (tCons (tLst (tCons (tC (.int 0)) (tCons (tC (.int 100)) (tCons (tUn (rU fun i => .int (-i)) (tC (.int 1))) (tCons (tC (.bl true)) (tCons (tC .non) (tCons (tC (.str "3")) (tCons (tTup (tCons (tC (.int 1)) (tNil))) (tCons (tC (.int 5)) (tNil)))))))))) (tNil)))) (tNil))))
def t_any29 (K : PySem.W.Frag) : TE := (tCall (spPick K) [] E0 (tCons (tVar 1) (tCons (tLst (tCons (tVar 5) (tCons (tVar 5) (tCons (tVar 5) (tCons (tCB (qTupOf K) (tCons (tVar 5) (tNil))) (tCons (tC .non) (tCons (tC (.int 5)) (tCons (tC (.str "12")) (tCons (tDNewK) (tCons (tDisp ((tC (.int 1), tC (.int 1)) :: [])) (tNil))))))))))) (tNil))))
variable {x0 x2 x3 x4 x5 x6 x7 x8 x9 x10 x11 x12 : Option V} {Q : VK}
theorem crew29 (S : StB H d g c (b + 10)) (q : ∀ A H' xs, StB H' d g c b → Kp d g H H' → A ≠ d → A ≠ g → A ≠ c → H' A = some (.lst xs) → XsV d g H' xs → xs.length ≤ 8 → Q (.ref A) H') :
    t_crew29 K [x0, some (.ref d), x2, x3, x4, x5, x6, x7, x8, x9, x10, x11, x12] H Q := by
  refine ⟨_, rfl, d, g, c, b + 9, 9, rfl, S, by decide, by decide, fun u H1 u0 u1 S1 k1 => ⟨u, rfl, by omega, by omega, fun A hA => ?_⟩⟩
  obtain ⟨a1, a2, a3⟩ := S1.off hA
  have un : u.toNat ≤ 8 := by omega
  refine lc_it (walk_range (lo := 0) (n := u.toNat)) (fun i H2 => StB H2 d g c (b + 9 - i) ∧ (∀ z o, z ≠ A → z ≠ d → z ≠ g → H1 z = some o → H2 z = some o) ∧ ∃ ms : List Int, H2 A = some (.lst (ms.map V.int)) ∧ ms.length = i)
    ⟨S1.new hA, fun z o e _ _ h => (upd_ne e).trans h, [], upd_same, rfl⟩ (fun _ _ _ _ => trivial) ?_ ?_
  · rintro i v H2 H3 hi ⟨S2, k2, ms, A2, ml⟩ ⟨rfl, rfl⟩
    have hb : b + 9 - i = (b + 9 - (i + 1)) + 1 := by omega
    rw [hb] at S2
    refine ⟨rfl, yes_if ⟨_, rfl, d, g, c, _, 99, rfl, S2, by decide, by decide, fun w H4 w0 w1 S4 k4 => ⟨_, _, rfl, rfl, ?_⟩⟩⟩
    have A4 := k4 _ _ a1 a2 A2
    refine ⟨_, A4, ?_, S4.upd a1 a2 a3, fun z o e1 e2 e3 h => (upd_ne e1).trans (k4 _ _ e2 e3 (k2 _ _ e1 e2 e3 h)), ms ++ [1 + w], ?_, ?_⟩
    · rw [List.length_map]
      exact Nat.lt_of_le_of_lt (show ms.length ≤ 1000 by omega) (by decide)
    · rw [upd_same, List.map_append]
      rfl
    · rw [List.length_append]
      show ms.length + 1 = i + 1
      omega
  · rintro H2 ⟨S2, k2, ms, A2, ml⟩
    refine q A H2 _ (S2.mono (by omega)) (fun z o z1 z2 h => k2 _ _ (ne_of_none (k1 _ _ z1 z2 h) hA) z1 z2 (k1 _ _ z1 z2 h)) a1 a2 a3 A2 (fun x m => ?_) (by rw [List.length_map]; omega)
    obtain ⟨i, _, rfl⟩ := List.mem_map.mp m
    exact .inl (.inl ⟨i, rfl⟩)
theorem cut_two (xs : List V) : (∀ y ∈ cutV xs none (some 2), y ∈ xs) ∧ (cutV xs none (some 2)).length ≤ 2 := by
  have e : cutV xs none (some 2) = xs.take (min 2 xs.length) := by
    unfold cutV
    rw [HT.sIx_none, show ((2 : Int)) = ((2 : Nat) : Int) from rfl, HT.sIx_nat, List.drop_zero, Nat.sub_zero]
  rw [e]
  exact ⟨fun y m => List.mem_of_mem_take m, by rw [List.length_take]; omega⟩
theorem odd29 {A : Addr} (S : StB H d g c (b + 1)) (hA : H A = some (.lst xs)) (a1 : A ≠ d) (a2 : A ≠ g) (hx : XsV d g H xs) (q : ∀ A H' xs, StB H' d g c b → Kp d g H H' → A ≠ d → A ≠ g → A ≠ c → H' A = some (.lst xs) → XsV d g H' xs → xs.length ≤ 8 → Q (.ref A) H') :
    t_odd29 K [x0, some (.ref d), x2, x3, x4, some (.ref A), x6, x7, x8, x9, x10, x11, x12] H Q := by
  refine ⟨_, rfl, _, rfl, A, _, rfl, SqL.of hA, fun P hP => ?_⟩
  obtain ⟨c1, c2⟩ := cut_two xs
  generalize cutV xs none (some 2) = ys at c1 c2 ⊢
  obtain ⟨p1, p2, p3⟩ := S.off hP
  have S1 := S.new (o := .lst ys) hP
  have k1 : Kp d g H (upd H P (.lst ys)) := Kp.new hP
  have P1 : upd H P (.lst ys) P = some (.lst ys) := upd_same
  generalize upd H P (.lst ys) = H1 at S1 k1 P1 ⊢
  refine cons_run (show tCall (spPick K) [] E0 _ _ _ _ from ?_)
  refine ⟨_, rfl, _, rfl, sz (by show 1 ≤ 1000; decide), fun T hT => ⟨sz (by show 8 ≤ 1000; decide), fun l hl => ?_⟩⟩
  obtain ⟨t1, t2, _⟩ := S1.off hT
  have S2 := S1.new (o := .tup [.int 1]) hT
  have k2 := k1.trans (Kp.new (o := .tup [.int 1]) hT)
  have T2 : upd H1 T (.tup [.int 1]) T = some (.tup [.int 1]) := upd_same
  have P2 := same_new (o := .tup [.int 1]) hT _ _ P1
  generalize upd H1 T (.tup [.int 1]) = H2 at S2 k2 T2 P2 hl ⊢
  obtain ⟨l1, l2, _⟩ := S2.off hl
  have s3 := same_new (o := .lst [.int 0, .int 100, .int (-1), .bl true, .non, .str "3", .ref T, .int 5]) hl
  refine ⟨d, g, c, b, l, _, rfl, S2.new hl, SqL.of upd_same, l1, l2, by show 0 < 8; decide, by show 8 < 1000; decide, fun v H4 hv S4 q4 => ?_⟩
  have k4 := (k2.trans (Kp.new (o := .lst [.int 0, .int 100, .int (-1), .bl true, .non, .str "3", .ref T, .int 5]) hl)).trans q4
  have P4 := q4 _ _ p1 p2 (s3 _ _ P2)
  have T4 := q4 _ _ t1 t2 (s3 _ _ T2)
  have vx : isS v ∨ ∃ t, v = .ref t ∧ t ≠ d ∧ t ≠ g ∧ H4 t = some (.tup [.int 1]) := by
    simp only [List.mem_cons, List.not_mem_nil, or_false] at hv
    rcases hv with rfl | rfl | rfl | rfl | rfl | rfl | rfl | rfl
    · exact .inl (.inl ⟨_, rfl⟩)
    · exact .inl (.inl ⟨_, rfl⟩)
    · exact .inl (.inl ⟨_, rfl⟩)
    · exact .inl (.inr (.inl ⟨_, rfl⟩))
    · exact .inl (.inr (.inr (.inl rfl)))
    · exact .inl (.inr (.inr (.inr ⟨_, rfl⟩)))
    · exact .inr ⟨T, rfl, t1, t2, T4⟩
    · exact .inl (.inl ⟨_, rfl⟩)
  clear hv
  refine ⟨sz (by show 1 ≤ 1000; decide), fun m hm => ?_⟩
  have s5 := same_new (o := .lst [v]) hm
  have P5 := s5 _ _ P4
  have M5 : upd H4 m (.lst [v]) m = some (.lst [v]) := upd_same
  have S5 := S4.new (o := .lst [v]) hm
  have k5 := k4.trans (Kp.new (o := .lst [v]) hm)
  have vx5 : isS v ∨ ∃ t, v = .ref t ∧ t ≠ d ∧ t ≠ g ∧ upd H4 m (.lst [v]) t = some (.tup [.int 1]) := vx.imp id fun ⟨t, e, n1, n2, z⟩ => ⟨t, e, n1, n2, s5 _ _ z⟩
  generalize upd H4 m (.lst [v]) = H5 at P5 M5 S5 k5 vx5 ⊢
  refine ⟨P, m, ys, [v], rfl, rfl, P5, M5, sz (by show ys.length + 1 ≤ 1000; omega), fun p hp => ?_⟩
  obtain ⟨n1, n2, n3⟩ := S5.off hp
  have k6 := k5.trans (Kp.new (o := .lst (ys ++ [v])) hp)
  refine q p _ _ (S5.new hp) k6 n1 n2 n3 upd_same (fun x mx => ?_) (by rw [List.length_append]; show ys.length + 1 ≤ 8; omega)
  rcases List.mem_append.mp mx with mx | mx
  · exact hx.up (Up.kp k6) x (c1 x mx)
  · rw [List.mem_singleton.mp mx]
    exact vx5.imp id fun ⟨t, e, z1, z2, z⟩ => ⟨t, e, z1, z2, same_new hp _ _ z⟩
theorem any29 {A : Addr} (S : StB H d g c (b + 1)) (hA : H A = some (.lst xs)) (a1 : A ≠ d) (a2 : A ≠ g) (a3 : A ≠ c) (hx : XsV d g H xs) (l8 : xs.length ≤ 8) (q : ∀ v H' o, StB H' d g c b → Kp d g H H' → CrAt d g c H' v o → Q v H') :
    t_any29 K [x0, some (.ref d), x2, x3, x4, some (.ref A), x6, x7, x8, x9, x10, x11, x12] H Q := by
  refine ⟨_, rfl, _, rfl, _, rfl, _, rfl, _, rfl, A, xs, rfl, SqL.of hA, fun T oT hT hTc hTd => ?_⟩
  obtain ⟨t1, t2, _⟩ := S.off hT
  have S1 := S.new (o := .frz oT (.tup xs)) hT
  have k1 : Kp d g H (upd H T (.frz oT (.tup xs))) := Kp.new hT
  have s1 := same_new (o := .frz oT (.tup xs)) hT
  have T1 : upd H T (.frz oT (.tup xs)) T = some (.frz oT (.tup xs)) := upd_same
  generalize upd H T (.frz oT (.tup xs)) = H1 at S1 k1 s1 T1 ⊢
  refine fun e he => ?_
  obtain ⟨e1, e2, _⟩ := S1.off he
  have S2 := S1.new (o := .dK []) he
  have s2 := same_new (o := .dK []) he
  have E2 : upd H1 e (.dK []) e = some (.dK []) := upd_same
  generalize upd H1 e (.dK []) = H2 at S2 s2 E2 ⊢
  refine fun f hf => ?_
  obtain ⟨f1, f2, f3⟩ := S2.off hf
  have S3 := S2.new (o := .dK []) hf
  have s3 := same_new (o := .dK []) hf
  have F3 : upd H2 f (.dK []) f = some (.dK []) := upd_same
  refine ⟨F3, [(.inl 1, .int 1)], rfl, by decide, ?_⟩
  have k23 : Kp d g H2 (upd (upd H2 f (.dK [])) f (.dK (mergeK [] [(.inl 1, .int 1)]))) := fun a o _ _ h => (upd_ne (ne_of_none h hf)).trans (s3 _ _ h)
  have S4 : StB (upd (upd H2 f (.dK [])) f (.dK (mergeK [] [(.inl 1, .int 1)]))) d g c (b + 1) := S3.upd f1 f2 f3
  have F4 : upd (upd H2 f (.dK [])) f (.dK (mergeK [] [(.inl 1, .int 1)])) f = some (.dK (mergeK [] [(.inl 1, .int 1)])) := upd_same
  generalize upd (upd H2 f (.dK [])) f (.dK (mergeK [] [(.inl 1, .int 1)])) = H3 at k23 S4 F4 ⊢
  have k3 : Kp d g H H3 := (k1.trans (Kp.new' s2)).trans k23
  refine ⟨sz (by show 9 ≤ 1000; decide), fun l hl => ?_⟩
  obtain ⟨l1, l2, _⟩ := S4.off hl
  have s5 := same_new (o := .lst [.ref A, .ref A, .ref A, .ref T, .non, .int 5, .str "12", .ref e, .ref f]) hl
  refine ⟨d, g, c, b, l, _, rfl, S4.new hl, SqL.of upd_same, l1, l2, by show 0 < 9; decide, by show 9 < 1000; decide, fun v H5 hv S5 q5 => ?_⟩
  have k4 : Kp d g H3 H5 := (Kp.new' s5).trans q5
  have k5 : Kp d g H H5 := k3.trans k4
  have A5 := k5 _ _ a1 a2 hA
  have T5 := k4 _ _ t1 t2 (k23 _ _ t1 t2 (s2 _ _ T1))
  have E5 := k4 _ _ e1 e2 (k23 _ _ e1 e2 E2)
  have F5 := k4 _ _ f1 f2 F4
  have X5 := hx.up (Up.kp k5)
  have all : ∃ o, CrAt d g c H5 v o := by
    simp only [List.mem_cons, List.not_mem_nil, or_false] at hv
    rcases hv with rfl | rfl | rfl | rfl | rfl | rfl | rfl | rfl | rfl
    · exact ⟨_, .lst A5 a1 a2 a3 X5 l8⟩
    · exact ⟨_, .lst A5 a1 a2 a3 X5 l8⟩
    · exact ⟨_, .lst A5 a1 a2 a3 X5 l8⟩
    · exact ⟨_, .tup T5 hTc hTd t1 t2 X5 l8⟩
    · exact ⟨_, .oth (.inr (.inr (.inl rfl)))⟩
    · exact ⟨_, .oth (.inl ⟨_, rfl⟩)⟩
    · exact ⟨_, .oth (.inr (.inr (.inr ⟨_, rfl⟩)))⟩
    · exact ⟨_, .dct E5 e1 e2⟩
    · exact ⟨_, .dct F5 f1 f2⟩
  obtain ⟨o, ho⟩ := all
  exact q v H5 o S5 k5 ho
end
end SR
set_option Elab.async false
set_option linter.all false
set_option maxRecDepth 100000
set_option maxHeartbeats 4000000
namespace SR
open PySem PySem.Spec PyProof.Rows L2
def t_box29 (K : PySem.W.Frag) : TE := (tIf (tTest (tOp rEq (tCall spTake [] E0 (tCons (tVar 1) (tCons (tC (.int 2)) (tNil)))) (tC (.int 0)))) (tCall (spNear20 K) [] E0 (tCons (tVar 1) (tCons (tVar 3) (tCons (tC (.int 6)) (tNil))))) (tCall (spBoxes K) [] E0 (tCons (tVar 1) (tCons (tVar 3) (tCons (tC (.int 6)) (tNil))))))
def t_lam29 (K : PySem.W.Frag) (BC C CS CW P : Addr) (q : Str) : TE := LamX.tLam [(P, q)] (TErr K CS (spNamed29 K BC)) (fun E => tMake CW (spWalkInitX K CW C BC) [] E (tCons (tVar 7) (tCons (tVar 5) tNil)))
def t_first29 (K : PySem.W.Frag) : TE := (tIf (tTest (tOp qGt (tOp qAdd (tCB qLenD (tCons (tVar 4) (tNil))) (tCB qLenD (tCons (tVar 3) (tNil)))) (tC (.int 0)))) (tCB (rMin K) (tCons (tOp rCat (tCB rListD (tCons (tVar 4) (tNil))) (tCB rListD (tCons (tVar 3) (tNil)))) (tNil))) (tC (.int 0)))
def t_want29 (K : PySem.W.Frag) : TE := (tLc ((fun σ H R => iList K (tVar 5) σ H R ∨ iTup K (tVar 5) σ H R)) (gName 12) (tYes) (tTup (tCons (tVar 10) (tCons (tVar 12) (tCons (tC (.int 0)) (tNil))))) [12])
def t_clr29 (K : PySem.W.Frag) : TE := (tIf (tB (tCB (rIsi K) (tCons (tVar 5) (tCons (tC (.ty "tuple")) tNil)))) (tVar 5) (tBM0 K "list" rClear (tVar 5)))
def t_ats29 (K : PySem.W.Frag) (C CW : Addr) : TE := (tLc (iRng1 (tCons (tCB (qLen K) (tCons (tVar 11) (tNil))) (tNil))) (gName 6) (tYes) (tMeth CW "at" (spWAt K CW C) [] E0 (tVar 9) (tCons (tVar 6) (tNil))) [6])
def t_chk29 (K : PySem.W.Frag) (C CW : Addr) : TS := (tIfS (tOr (tTest (tOp rNe (tCB (rRepr K) (tCons (t_ats29 K C CW) (tNil))) (tCB (rRepr K) (tCons (tVar 11) (tNil))))) (tTest (tOp (rNeR K C) (tMeth CW "now" (spWNow29 K CW C) [] E0 (tVar 9) tNil) (tVar 7))))
  (tRet (tC (.bl false)))
  (tNext))
def t_good29w (K : PySem.W.Frag) (BC C CW : Addr) : TS := (tSeq (tAsg (tMake CW (spWalkInitX K CW C BC) [] E0 (tCons (tVar 7) (tCons (tVar 5) (tNil)))) (gName 9))
  (tSeq (tAsg (t_first29 K) (gName 10))
  (tSeq (tAsg (t_want29 K) (gName 11))
  (tSeq (tAsg (t_clr29 K) (gName 5))
  (t_chk29 K C CW)))))
def t_err29 (K : PySem.W.Frag) (BC C CS CW P : Addr) (q : Str) : TS := (tSeq (tIfS (tTest (tOp rNe (t_lam29 K BC C CS CW P q) (tVar 8)))
  (tRet (tC (.bl false)))
  (tNext))
  (tIfS (tTest (tOp qIsN (tVar 8) (tC .non)))
  (t_good29w K BC C CW)
  (tNext)))
def t_made29 (K : PySem.W.Frag) (BC C CS CW P : Addr) (q : Str) : TS := (tSeq (tAsg (tTup (tCons (tCall (spMade K C) [] E0 (tCons (tVar 4) (tCons (tVar 3) (tNil)))) (tCons (tIf (tB (tCall (spGood29 K) [] E0 (tCons (tVar 5) (tNil)))) (tC .non) (tC (.str "capacity"))) (tNil)))) (gTup K 2 (gCons (gName 7) (gCons (gName 8) (gNil)))))
  (t_err29 K BC C CS CW P q))
def t_cr29 (K : PySem.W.Frag) (BC C CS CW P : Addr) (q : Str) : TS := (tSeq (tAsg (t_crew29 K) (gName 5))
  (tSeq (tIfS (tTest (tOp rEq (tCall spTake [] E0 (tCons (tVar 1) (tCons (tC (.int 3)) (tNil)))) (tC (.int 0))))
  (tAsg (t_odd29 K) (gName 5))
  (tNext))
  (tSeq (tAsg (t_any29 K) (gName 5))
  (t_made29 K BC C CS CW P q))))
def t_turn29 (K : PySem.W.Frag) (BC C CS CW P : Addr) (q : Str) : TS := (tSeq (tAsg (tCall (spSizes K) [] E0 (tCons (tVar 1) (tCons (tC (.int 3)) (tNil)))) (gName 3))
  (tSeq (tAsg (t_box29 K) (gName 4))
  (t_cr29 K BC C CS CW P q)))
def t_law29 (K : PySem.W.Frag) (BC C CS CW P : Addr) (q : Str) : TS := tSeq (tAsg (tCall (spBegun K) [] E0 (tCons (tVar 0) (tNil))) (gName 1))
  (tSeq (tFor (iRng1 (tCons (tOp qAdd (tC (.int 6)) (tCB qMin2 (tCons (tCB (qLen K) (tCons (tVar 0) (tNil))) (tCons (tC (.int 20)) (tNil))))) (tNil))) (gName 2)
  (t_turn29 K BC C CS CW P q))
  (tRet (tC (.bl true))))
section
variable {K : PySem.W.Frag} {C CW BC CS P : Addr} {q : Str} {N N2 N3 : L2.St → Hp → Prop} {R : VK} {H : Hp} {d g c : Addr} {b : Nat} {ks : List (Int × Int)} {p : Rws ks} {x F Z : Addr} {v : V} {o : Option (List V)}
/-- what a turn holds once all is drawn -/
structure J29 (K : PySem.W.Frag) (C P : Addr) (q : Str) (H : Hp) (d g c : Addr) (b : Nat) {ks : List (Int × Int)} (p : Rws ks) (x F Z : Addr) (v : V) (o : Option (List V)) : Prop where
  S : StB H d g c b
  T : LamX.Tabs [(P, q)] H
  row : RowAt K C H x p.1 ks
  hF : H F = some (.dK (kvsOf p.1))
  hZ : H Z = some (.dK (kvsOf ks))
  cr : CrAt d g c H v o
theorem J29.same {H' : Hp} (s : Same H H') (J : J29 K C P q H d g c b p x F Z v o) : J29 K C P q H' d g c b p x F Z v o := ⟨StB.same s J.S, Tabs.same J.T s, J.row.same s, s _ _ J.hF, s _ _ J.hZ, J.cr.up (Up.same s)⟩
theorem J29.ext {H' : Hp} (e : LamX.ExtN H H') (T : LamX.Tabs [(P, q)] H') (J : J29 K C P q H d g c b p x F Z v o) : J29 K C P q H' d g c b p x F Z v o := ⟨J.S.ext e, T, J.row.ext e, e _ _ J.hF fun _ z => (by cases z), e _ _ J.hZ fun _ z => (by cases z), J.cr.up (Up.ext e)⟩
def dueV (o : Option (List V)) : V := if goodC o = true then .non else .str "capacity"
theorem keys_int (ps : List (Int × Int)) : ((kvsOf ps).map fun kv => kV kv.1) = (ps.map Prod.fst).map V.int := by
  unfold kvsOf
  rw [List.map_map, List.map_map]
  rfl
theorem kvs_length (ps : List (Int × Int)) : (kvsOf ps).length = ps.length := by
  unfold kvsOf
  rw [List.length_map]
variable {x0 x1 x2 x3 x4 x5 x6 x7 x8 x9 x10 x11 x12 : Option V} {Q : VK}
theorem first29 {ps : List (Int × Int)} (hF : H F = some (.dK (kvsOf ps))) (hZ : H Z = some (.dK (kvsOf ks))) (pl : ps.length ≤ 100) (kl : ks.length ≤ 100) (hq : ∀ j H', Same H H' → IsFst ((ps ++ ks).map Prod.fst) j → Q (.int j) H') :
    t_first29 K [x0, x1, x2, some (.ref Z), some (.ref F), x5, x6, x7, x8, x9, x10, x11, x12] H Q := by
  refine ⟨_, rfl, F, _, rfl, hF, _, rfl, Z, _, rfl, hZ, _, _, rfl, rfl, _, _, rfl, rfl, _, rfl, ?_⟩
  rw [kvs_length, kvs_length]
  by_cases e : (0 : Int) < (ps.length : Nat) + (ks.length : Nat)
  · rw [decide_eq_true e]
    refine iteT ⟨_, rfl, F, _, rfl, hF, fun L1 h1 => ?_⟩
    have s1 := same_new (o := .lst ((kvsOf ps).map fun kv => kV kv.1)) h1
    have A1 : upd H L1 (.lst ((kvsOf ps).map fun kv => kV kv.1)) L1 = some (.lst ((kvsOf ps).map fun kv => kV kv.1)) := upd_same
    generalize upd H L1 (.lst ((kvsOf ps).map fun kv => kV kv.1)) = H1 at s1 A1 ⊢
    refine ⟨_, rfl, Z, _, rfl, s1 _ _ hZ, fun L2 h2 => ?_⟩
    have s2 := same_new (o := .lst ((kvsOf ks).map fun kv => kV kv.1)) h2
    have A2 := s2 _ _ A1
    have B2 : upd H1 L2 (.lst ((kvsOf ks).map fun kv => kV kv.1)) L2 = some (.lst ((kvsOf ks).map fun kv => kV kv.1)) := upd_same
    generalize upd H1 L2 (.lst ((kvsOf ks).map fun kv => kV kv.1)) = H2 at s2 A2 B2 ⊢
    refine ⟨L1, L2, _, _, rfl, rfl, A2, B2, ?_, fun L3 h3 => ?_⟩
    · rw [List.length_map, List.length_map, kvs_length, kvs_length]
      exact sz (by omega)
    rw [keys_int, keys_int, ← List.map_append, ← List.map_append]
    have s3 := same_new (o := .lst (((ps ++ ks).map Prod.fst).map V.int)) h3
    refine ⟨L3, (ps ++ ks).map Prod.fst, rfl, SqL.of upd_same, ?_, fun m m1 m2 => hq m _ (s1.trans (s2.trans s3)) (.inr ⟨m1, m2⟩)⟩
    rw [List.length_map, List.length_append]
    omega
  · rw [decide_eq_false e]
    have e1 : ps = [] := List.length_eq_zero_iff.mp (by omega)
    have e2 : ks = [] := List.length_eq_zero_iff.mp (by omega)
    subst e1 e2
    exact iteF (hq 0 H (fun _ _ h => h) (.inl ⟨rfl, rfl⟩))
theorem want29 {a : Addr} {i : Int} {ms : List Int} (A5 : SqL K H a (ms.map V.int) ∨ SqT K H a (ms.map V.int)) (l2 : ms.length ≤ 6) (q' : ∀ D H', H D = none → Same H H' → CrsL H' D (ms.map fun m => (i, m, 0)) → Q (.ref D) H') :
    t_want29 K [x0, x1, x2, x3, x4, some (.ref a), x6, x7, x8, x9, some (.int i), x11, x12] H Q := by
  have last : ∀ D H6, H D = none → Same H H6 ∧ CrsL H6 D ((ms.take (ms.map V.int).length).map fun m => (i, m, 0)) → Q (.ref D) H6 := fun D H6 hD ⟨s6, c6⟩ => by
    rw [List.length_map, List.take_length] at c6
    exact q' D H6 hD s6 c6
  rcases A5 with A5 | A5
  · refine .inl ⟨_, rfl, a, rfl, ⟨_, A5⟩, fun D hD => ?_⟩
    refine lc_it (walk_list (K := K) (a := a) (xs := ms.map V.int)) (fun j H6 => Same H H6 ∧ CrsL H6 D ((ms.take j).map fun m => (i, m, 0))) ⟨same_new hD, [], upd_same, .nil⟩ (fun j H6 _ h => SqL.same h.1 A5) ?_ fun H6 h => last D H6 hD h
    rintro j v H6 H7 hj ⟨s6, c6⟩ ⟨rfl, hv⟩
    rw [List.getElem?_map] at hv
    obtain ⟨m, hm, rfl⟩ := Option.map_eq_some_iff.mp hv
    exact ⟨rfl, yes_if ⟨_, rfl, _, rfl, sz (by show 3 ≤ 1000; decide), crs_turn (N := fun H' => Same H H' ∧ CrsL H' D ((ms.take (j + 1)).map fun m => (i, m, 0))) l2 hm hD s6 c6 fun H' s c => ⟨s, c⟩⟩⟩
  · refine .inr ⟨_, rfl, a, rfl, ⟨_, A5⟩, fun D hD => ?_⟩
    refine lc_it (walk_tup (K := K) (a := a) (xs := ms.map V.int)) (fun j H6 => Same H H6 ∧ CrsL H6 D ((ms.take j).map fun m => (i, m, 0))) ⟨same_new hD, [], upd_same, .nil⟩ (fun j H6 _ h => SqT.same h.1 A5) ?_ fun H6 h => last D H6 hD h
    rintro j v H6 H7 hj ⟨s6, c6⟩ ⟨rfl, hv⟩
    rw [List.getElem?_map] at hv
    obtain ⟨m, hm, rfl⟩ := Option.map_eq_some_iff.mp hv
    exact ⟨rfl, yes_if ⟨_, rfl, _, rfl, sz (by show 3 ≤ 1000; decide), crs_turn (N := fun H' => Same H H' ∧ CrsL H' D ((ms.take (j + 1)).map fun m => (i, m, 0))) l2 hm hD s6 c6 fun H' s c => ⟨s, c⟩⟩⟩
theorem clr29 {xs : List V} (cr : CrAt d g c H v (some xs)) (q1 : (∀ A xs, v = .ref A → H A = some (.lst xs) → False) → Q v H) (q2 : ∀ A xs, v = .ref A → A ≠ d → A ≠ g → A ≠ c → H A = some (.lst xs) → Q .non (upd H A (.lst []))) :
    t_clr29 K [x0, x1, x2, x3, x4, some v, x6, x7, x8, x9, x10, x11, x12] H Q := by
  cases cr with
  | @lst a _ h n1 n2 n3 hx l =>
    have any : AnyT K H (.ref a) "list" := .lst (SqL.of h)
    refine ⟨_, rfl, _, _, _, _, _, rfl, .ty _, any.ty, any.kit.2.2.1, _, rfl, iteF ?_⟩
    exact ⟨_, rfl, .inl ⟨rfl, _, SqL.of h⟩, a, _, rfl, rfl, h, q2 a _ rfl n1 n2 n3 h⟩
  | @tup a oo _ h hc hd n1 n2 hx l =>
    have any : AnyT K H (.ref a) "tuple" := .tup (.inl (.inr ⟨oo, h⟩))
    refine ⟨_, rfl, _, _, _, _, _, rfl, .ty _, any.ty, any.kit.2.2.1, _, rfl, iteT ?_⟩
    exact ⟨_, rfl, q1 fun A xs e h2 => by cases e; rw [h] at h2; cases h2⟩
end
end SR
set_option Elab.async false
set_option linter.all false
set_option maxRecDepth 100000
set_option maxHeartbeats 4000000
namespace SR
open PySem PySem.Spec PyProof.Rows L2
def d3 (c : Int × Int × Int) : PyData := .tuple [.int c.1, .int c.2.1, .int c.2.2]
def Small3 (cs : List (Int × Int × Int)) : Prop := ∀ c ∈ cs, c.1.natAbs < 2 ^ 1900 ∧ c.2.1.natAbs < 2 ^ 1900 ∧ c.2.2.natAbs < 2 ^ 1900
theorem c3_show {cs : List (Int × Int × Int)} (h : Small3 cs) : (PyData.list (cs.map d3)).showable = true := by
  show PyData.showableAll (cs.map d3) = true
  induction cs with
  | nil => rfl
  | cons s st ih =>
    obtain ⟨a1, a2, a3⟩ := h s List.mem_cons_self
    show ((PyData.showable (.int s.1) && (PyData.showable (.int s.2.1) && (PyData.showable (.int s.2.2) && true))) && PyData.showableAll (st.map d3)) = true
    rw [show_int a1, show_int a2, show_int a3, ih fun q m => h q (List.mem_cons_of_mem _ m)]
    rfl
theorem c3_depth (cs : List (Int × Int × Int)) : (PyData.list (cs.map d3)).depth ≤ 60 := by
  have : PyData.depthAll (cs.map d3) ≤ 1 := by
    induction cs with
    | nil => exact Nat.zero_le _
    | cons s st ih =>
      show max (d3 s).depth (PyData.depthAll (st.map d3)) ≤ 1
      have : (d3 s).depth ≤ 1 := by simp [d3, PyData.depth, PyData.depthAll]
      omega
  simp only [PyData.depth]
  omega
theorem c3_cost {cs : List (Int × Int × Int)} (h : cs.length ≤ 40) : cost (PyData.list (cs.map d3)) ≤ 1000000 := by
  have : costAll (cs.map d3) ≤ cs.length * 12000 := by
    clear h
    induction cs with
    | nil => exact Nat.le_refl _
    | cons s st ih =>
      show cost (d3 s) + 2 + costAll (st.map d3) ≤ _
      have : cost (d3 s) ≤ 11000 := by simp [d3, cost, costAll]
      rw [List.length_cons]
      omega
  show costAll _ + 4 ≤ _
  omega
theorem dp_c3 {K : PySem.W.Frag} {H : Hp} {D : Addr} {cs : List (Int × Int × Int)} (h : CrsL H D cs) : Dp K H (.ref D) (.list (cs.map d3)) := by
  obtain ⟨ts, h1, h2⟩ := h
  refine .lst (SqL.of h1) ?_
  clear h1
  induction cs generalizing ts with
  | nil =>
    cases h2
    exact .nil
  | cons c cs ih =>
    cases h2 with
    | @cons t _ ts _ a b =>
      have T3 : H t = some (.tup [.int c.1, .int c.2.1, .int c.2.2]) := a
      exact .cons (.tup (SqT.of T3) (.cons (.int _) (.cons (.int _) (.cons (.int _) .nil)))) (ih _ b)
section
variable {K : PySem.W.Frag} {C CW BC CS P : Addr} {q : Str} {N N2 N3 : L2.St → Hp → Prop} {R : VK} {H : Hp} {d g c : Addr} {b : Nat} {ks : List (Int × Int)} {p : Rws ks} {x F Z : Addr} {v : V} {o : Option (List V)}
variable {x0 x1 x2 x3 x4 x5 x6 x7 x8 x9 x10 x11 x12 : Option V} {Q : VK} {w f l B : Addr} {fs : List (Int × Int)} {cs : List (Int × Int × Int)}
theorem ats29 (wk : WkAt K CW C H w x f l p fs cs) (hB : CrsL H B cs) (cl : cs.length ≤ 6) (hq : ∀ D H', Same H H' → CrsL H' D cs → Q (.ref D) H') : t_ats29 K C CW [x0, x1, x2, x3, x4, x5, x6, x7, x8, some (.ref w), x10, some (.ref B), x12] H Q := by
  obtain ⟨dw, hw⟩ := wk.ins
  obtain ⟨xs, sq, xl⟩ := hB.sq (K := K)
  have xl' : ((xs.length : Nat) : Int).toNat = cs.length := by rw [xl]; exact Int.toNat_natCast _
  refine ⟨_, rfl, B, xs, rfl, .inl sq, _, rfl, by omega, by omega, fun D hD => ?_⟩
  rw [xl']
  refine lc_it (walk_range (lo := 0) (n := cs.length)) (fun i H2 => Same H H2 ∧ CrsL H2 D (cs.take i)) ⟨same_new hD, [], upd_same, .nil⟩ (fun _ _ _ _ => trivial) ?_ ?_
  · rintro i v H2 H3 il ⟨s2, us, d2, pr⟩ ⟨rfl, rfl⟩
    have hk : cs[i]? = some cs[i] := List.getElem?_eq_getElem il
    refine ⟨rfl, yes_if ⟨_, rfl, w, dw, _, rfl, s2 _ _ hw, wlNo x f l (by decide) (by decide) (by decide), _, rfl, w, x, f, l, i, ks, p, fs, cs, _, by show [V.ref w, V.int (0 + (i : Int))] = _; rw [Int.zero_add], wk.same s2, hk, fun t ht => ?_⟩⟩
    have keep : ∀ {b : Addr} {z : Int × Int × Int}, Cr3 H3 b z → Cr3 (upd H3 D (.lst (us.map V.ref ++ [.ref t]))) b z := fun {b z} w => (upd_ne (ne_of w d2 (by intro e; cases e))).trans w
    have ul : us.length ≤ 6 := by
      rw [paired_len pr]
      exact Nat.le_trans (List.length_take_le' _ _) cl
    refine ⟨_, d2, ?_, same_upd s2 hD, us ++ [t], ?_, ?_⟩
    · rw [List.length_map]
      exact Nat.lt_of_le_of_lt ul (by decide)
    · rw [upd_same, List.map_append]
      rfl
    · rw [List.take_succ, hk]
      exact paired_snoc (keep ht) (paired_imp (fun _ _ z => keep z) pr)
  · rintro H2 ⟨s2, c2⟩
    rw [List.take_length] at c2
    exact hq D H2 s2 c2
@[irreducible] def xAts29 := @t_ats29
theorem xAts29_eq : @xAts29 = @t_ats29 := by
  unfold xAts29
  rfl
theorem chk29 (S : StB H d g c b) (T : LamX.Tabs [(P, q)] H) (row : RowAt K C H x p.1 ks) (wk : WkAt K CW C H w x f l p p.1 cs) (hB : CrsL H B cs) (cl : cs.length ≤ 6) (sm : Small3 cs)
    (hN : ∀ H', StB H' d g c b → LamX.Tabs [(P, q)] H' → N [x0, some (.ref d), x2, x3, x4, x5, x6, some (.ref x), x8, some (.ref w), x10, some (.ref B), x12] H') :
    t_chk29 K C CW { nx := N, rt := R, bk := N2, ct := N3 } [x0, some (.ref d), x2, x3, x4, x5, x6, some (.ref x), x8, some (.ref w), x10, some (.ref B), x12] H := by
  have sh := c3_show sm
  have dp := c3_depth cs
  have co := c3_cost (cs := cs) (by omega)
  unfold t_chk29
  rw [← xAts29_eq]
  show xAts29 K C CW [x0, some (.ref d), x2, x3, x4, x5, x6, some (.ref x), x8, some (.ref w), x10, some (.ref B), x12] H _
  rw [xAts29_eq]
  refine ats29 wk hB cl fun D H1 s1 d1 => ?_
  refine ⟨_, _, rfl, dp_c3 d1, sh, dp, repr_fit (K := K) (H := H1) sh (dp_c3 d1) co, _, rfl, _, _, rfl, dp_c3 (hB.same s1), sh, dp, repr_fit (K := K) (H := H1) sh (dp_c3 (hB.same s1)) co, rfl, _, rfl, iteNS rfl ?_⟩
  have wk1 := wk.same s1
  obtain ⟨dw, hw⟩ := wk1.ins
  refine ⟨_, rfl, w, dw, _, rfl, hw, wlNo x f l (by decide) (by decide) (by decide), w, x, f, l, ks, p, cs, rfl, wk1, fun y H2 s2 ry => ?_⟩
  refine ⟨_, rfl, y, x, _, ks, rfl, rfl, ry, (row.same s1).same s2, fun H3 s3 => ⟨_, rfl, iteF ?_⟩⟩
  have s := s1.trans (s2.trans s3)
  exact hN H3 (StB.same s S) (Tabs.same T s)
@[irreducible] def xFirst29 := @t_first29
theorem xFirst29_eq : @xFirst29 = @t_first29 := by
  unfold xFirst29
  rfl
@[irreducible] def xWant29 := @t_want29
theorem xWant29_eq : @xWant29 = @t_want29 := by
  unfold xWant29
  rfl
@[irreducible] def xClr29 := @t_clr29
theorem xClr29_eq : @xClr29 = @t_clr29 := by
  unfold xClr29
  rfl
@[irreducible] def xChk29 := @t_chk29
theorem xChk29_eq : @xChk29 = @t_chk29 := by
  unfold xChk29
  rfl
theorem fst_bd {L : List Int} {i : Int} (h : IsFst L i) (bd : ∀ y ∈ L, -(10 ^ 30) ≤ y ∧ y ≤ 10 ^ 30) : -(10 ^ 30) ≤ i ∧ i ≤ 10 ^ 30 := by
  rcases h with ⟨_, rfl⟩ | ⟨h, _⟩
  · exact ⟨by decide, by decide⟩
  · exact bd i h
theorem good29w (R0 : WalkC K CW) (J : J29 K C P q H d g c b p x F Z v o) (good : goodC o = true) (bd : ∀ y ∈ (p.1 ++ ks).map Prod.fst, -(10 ^ 30) ≤ y ∧ y ≤ 10 ^ 30)
    (hN : ∀ y5 y9 y10 y11 y12 H', StB H' d g c b → LamX.Tabs [(P, q)] H' → N [x0, some (.ref d), x2, some (.ref Z), some (.ref F), y5, x6, some (.ref x), x8, y9, y10, y11, y12] H') :
    t_good29w K BC C CW { nx := N, rt := R, bk := N2, ct := N3 } [x0, some (.ref d), x2, some (.ref Z), some (.ref F), some v, x6, some (.ref x), x8, x9, x10, x11, x12] H := by
  unfold t_good29w
  rw [← xFirst29_eq, ← xWant29_eq, ← xClr29_eq, ← xChk29_eq]
  refine ⟨_, rfl, _, rfl, fun w dw hw hdw hne => ?_⟩
  have s1 : Same H (upd (upd H dw (.own w)) w (.ins CW dw [])) := fun y o e => (upd_ne (ne_of_none e hw)).trans ((upd_ne (ne_of_none e hdw)).trans e)
  have hw1 : upd (upd H dw (.own w)) w (.ins CW dw []) w = some (.ins CW dw []) := upd_same
  generalize upd (upd H dw (.own w)) w (.ins CW dw []) = H1 at s1 hw1 ⊢
  have J1 := J.same s1
  refine ⟨w, x, v, dw, ks, p, o, rfl, hw1, J1.row, J1.cr.V, (fun e => by rw [good] at e; cases e), fun ms eo _ H2 f l i fst b2 hf hl wk => ⟨rfl, ?_⟩⟩
  subst eo
  obtain ⟨ms', em, m1, m2, one⟩ := good_ints good
  have em' : ms = ms' := by
    have z := congrArg (fun l : List V => l.map fun v : V => match v with | .int i => i | _ => (0 : Int)) em
    rw [List.map_map, List.map_map] at z
    have e : ((fun v : V => match v with | .int i => i | _ => (0 : Int)) ∘ V.int) = id := rfl
    rw [e, List.map_id, List.map_id] at z
    exact z
  subst em'
  have k02 : Same H H2 := fun y o h => b2 _ _ (ne_of_none h hw) (s1 _ _ h)
  have J2 := J.same k02
  have pl := p.2.ok.len
  have kl := p.2.ok.kl
  refine seq_go (asg_go ?_)
  show xFirst29 K [x0, some (.ref d), x2, some (.ref Z), some (.ref F), some v, x6, some (.ref x), x8, some (.ref w), x10, x11, x12] H2 _
  rw [xFirst29_eq]
  refine first29 J2.hF J2.hZ (by omega) (by omega) fun j H3 s3 fj => ?_
  have ej : j = i := IsFst.uniq (fun _ => Iff.rfl) fj fst
  subst ej
  obtain ⟨a, rfl, hsq, oo, ha⟩ : ∃ a, v = .ref a ∧ (SqL K H3 a (ms.map V.int) ∨ SqT K H3 a (ms.map V.int)) ∧ ∃ oo, H a = some oo := by
    have k03 := k02.trans s3
    cases J.cr with
    | lst h _ _ _ _ _ => exact ⟨_, rfl, .inl (SqL.of (k03 _ _ h)), _, h⟩
    | @tup _ oo _ h _ _ _ _ _ _ => exact ⟨_, rfl, .inr (.inl (.inr ⟨oo, k03 _ _ h⟩)), _, h⟩
  refine seq_go (asg_go ?_)
  show xWant29 K [x0, some (.ref d), x2, some (.ref Z), some (.ref F), some (.ref a), x6, some (.ref x), x8, some (.ref w), some (.int j), x11, x12] H3 _
  rw [xWant29_eq]
  refine want29 hsq m2 fun D H4 hD s4 d4 => ?_
  have s24 := s3.trans s4
  have J4 := J2.same s24
  have wk4 := wk.same s24
  refine seq_go (asg_go ?_)
  show xClr29 K [x0, some (.ref d), x2, some (.ref Z), some (.ref F), some (.ref a), x6, some (.ref x), x8, some (.ref w), some (.int j), some (.ref D), x12] H4 _
  rw [xClr29_eq]
  have cl : (ms.map fun m => ((j, m, 0) : Int × Int × Int)).length ≤ 6 := by rw [List.length_map]; exact m2
  have jb := fst_bd fst bd
  have sm : Small3 (ms.map fun m => ((j, m, 0) : Int × Int × Int)) := fun c m => by
    obtain ⟨m', hm, rfl⟩ := List.mem_map.mp m
    have := one m' hm
    refine ⟨?_, ?_, Nat.two_pow_pos 1900⟩
    · show j.natAbs < 2 ^ 1900
      have : j.natAbs ≤ 10 ^ 30 := by omega
      exact Nat.lt_of_le_of_lt this (by decide)
    · show m'.natAbs < 2 ^ 1900
      have : m'.natAbs ≤ 99 := by omega
      exact Nat.lt_of_le_of_lt this (by decide)
  refine clr29 J4.cr (fun _ => ?_) fun A xs eA n1 n2 n3 hA => ?_
  · show xChk29 K C CW _ [x0, some (.ref d), x2, some (.ref Z), some (.ref F), some (.ref a), x6, some (.ref x), x8, some (.ref w), some (.int j), some (.ref D), x12] H4
    rw [xChk29_eq]
    exact chk29 J4.S J4.T J4.row wk4 d4 cl sm fun H' S' T' => hN _ _ _ _ _ H' S' T'
  · cases eA
    have k5 : SameBut a H4 (upd H4 a (.lst [])) := but_upd
    have aD : a ≠ D := ne_of_none (s3 _ _ (k02 _ _ ha)) hD
    have al : a ≠ l := ne_of_none (s1 _ _ ha) hl
    generalize upd H4 a (.lst []) = H5 at k5 ⊢
    have S5 : StB H5 d g c b := by
      obtain ⟨r, t, gs, cs, h1, h2, h3, h4⟩ := J4.S
      exact ⟨r, t, gs, cs, k5 _ _ n1.symm h1, k5 _ _ n2.symm h2, k5 _ _ n3.symm h3, h4⟩
    have T5 : LamX.Tabs [(P, q)] H5 := fun p hp => by
      obtain ⟨ps, h1, h2, h3⟩ := J4.T p hp
      refine ⟨ps, k5 _ _ (ne_of h1 hA (by intro e; cases e)) h1, h2, fun pos cv hc => ?_⟩
      obtain ⟨c0, e1, e2⟩ := h3 pos cv hc
      exact ⟨c0, e1, k5 _ _ (ne_of e2 hA (by unfold LamX.CodeO; intro e; cases e)) e2⟩
    have crs5 : ∀ {B : Addr}, B ≠ a → ∀ {cs : List (Int × Int × Int)}, CrsL H4 B cs → CrsL H5 B cs := fun {B} nB {cs} ⟨ts, h1, h2⟩ => ⟨ts, k5 _ _ nB h1, paired_imp (fun _ _ z => k5 _ _ (ne_of z hA (by intro e; cases e)) z) h2⟩
    have wk5 : WkAt K CW C H5 w x f l p p.1 (ms.map fun m => (j, m, 0)) := by
      obtain ⟨dw5, hw5⟩ := wk4.ins
      obtain ⟨dx5, fx5, hx5⟩ := wk4.row.at
      exact ⟨⟨dw5, k5 _ _ (ne_of hw5 hA (by intro e; cases e)) hw5⟩, wk4.row.but hA k5, wk4.nz.kw fun o h => k5 _ _ (ne_of hx5 hA (by intro e; cases e)) h, k5 _ _ (ne_of wk4.hf hA (by intro e; cases e)) wk4.hf, crs5 al.symm wk4.hl⟩
    show xChk29 K C CW _ [x0, some (.ref d), x2, some (.ref Z), some (.ref F), some .non, x6, some (.ref x), x8, some (.ref w), some (.int j), some (.ref D), x12] H5
    rw [xChk29_eq]
    exact chk29 S5 T5 (J4.row.but hA k5) wk5 (crs5 aD.symm d4) cl sm fun H' S' T' => hN _ _ _ _ _ H' S' T'
@[irreducible] def xGood29w := @t_good29w
theorem xGood29w_eq : @xGood29w = @t_good29w := by
  unfold xGood29w
  rfl
@[irreducible] def xErr29 := @t_err29
theorem xErr29_eq : @xErr29 = @t_err29 := by
  unfold xErr29
  rfl
@[irreducible] def xMade29 := @t_made29
theorem xMade29_eq : @xMade29 = @t_made29 := by
  unfold xMade29
  rfl
@[irreducible] def xCr29 := @t_cr29
theorem xCr29_eq : @xCr29 = @t_cr29 := by
  unfold xCr29
  rfl
@[irreducible] def xTurn29 := @t_turn29
theorem xTurn29_eq : @xTurn29 = @t_turn29 := by
  unfold xTurn29
  rfl
@[irreducible] def xCrew29 := @t_crew29
theorem xCrew29_eq : @xCrew29 = @t_crew29 := by
  unfold xCrew29
  rfl
@[irreducible] def xOdd29 := @t_odd29
theorem xOdd29_eq : @xOdd29 = @t_odd29 := by
  unfold xOdd29
  rfl
@[irreducible] def xAny29 := @t_any29
theorem xAny29_eq : @xAny29 = @t_any29 := by
  unfold xAny29
  rfl
@[irreducible] def xBox29 := @t_box29
theorem xBox29_eq : @xBox29 = @t_box29 := by
  unfold xBox29
  rfl
theorem err29 (R0 : WalkC K CW) (Zr : ErrW K BC CS) (J : J29 K C P q H d g c b p x F Z v o) (bd : ∀ y ∈ (p.1 ++ ks).map Prod.fst, -(10 ^ 30) ≤ y ∧ y ≤ 10 ^ 30)
    (hN : ∀ y5 y9 y10 y11 y12 H', StB H' d g c b → LamX.Tabs [(P, q)] H' → N [x0, some (.ref d), x2, some (.ref Z), some (.ref F), y5, x6, some (.ref x), some (dueV o), y9, y10, y11, y12] H') :
    t_err29 K BC C CS CW P q { nx := N, rt := R, bk := N2, ct := N3 } [x0, some (.ref d), x2, some (.ref Z), some (.ref F), some v, x6, some (.ref x), some (dueV o), x9, x10, x11, x12] H := by
  unfold t_err29
  rw [← xGood29w_eq]
  refine ⟨J.T, fun H1 e1 T1 => ?_⟩
  have J1 := J.ext e1 T1
  have rest : ∀ H2, Same H1 H2 → (tIfS (tTest (tOp qIsN (tVar 8) (tC .non))) (xGood29w K BC C CW) (tNext)) { nx := N, rt := R, bk := N2, ct := N3 } [x0, some (.ref d), x2, some (.ref Z), some (.ref F), some v, x6, some (.ref x), some (dueV o), x9, x10, x11, x12] H2 := fun H2 s2 => by
    have J2 := J1.same s2
    refine ⟨_, rfl, rfl, _, rfl, ?_⟩
    cases good : goodC o with
    | true =>
      have ed : dueV o = .non := if_pos good
      rw [decide_eq_true ed]
      refine iteT ?_
      rw [xGood29w_eq]
      exact good29w R0 J2 good bd hN
    | false =>
      have ed : dueV o = .str "capacity" := if_neg (by rw [good]; exact Bool.false_ne_true)
      rw [decide_eq_false (by rw [ed]; exact fun z => by cases z)]
      exact iteF (hN _ _ _ _ _ H2 J2.S J2.T)
  have due : ∀ (u : V) (H2 : Hp), Same H1 H2 → u = dueV o → (tVar 8) [x0, some (.ref d), x2, some (.ref Z), some (.ref F), some v, x6, some (.ref x), some (dueV o), x9, x10, x11, x12] H2 fun y H3 => rNe u y H3 fun z H4 => ∃ cc, z = .bl cc ∧ (if cc = true then (tRet (tC (.bl false))) { nx := (tIfS (tTest (tOp qIsN (tVar 8) (tC .non))) (xGood29w K BC C CW) (tNext)) { nx := N, rt := R, bk := N2, ct := N3 }, rt := R, bk := N2, ct := N3 } [x0, some (.ref d), x2, some (.ref Z), some (.ref F), some v, x6, some (.ref x), some (dueV o), x9, x10, x11, x12] H4 else tNext { nx := (tIfS (tTest (tOp qIsN (tVar 8) (tC .non))) (xGood29w K BC C CW) (tNext)) { nx := N, rt := R, bk := N2, ct := N3 }, rt := R, bk := N2, ct := N3 } [x0, some (.ref d), x2, some (.ref Z), some (.ref F), some v, x6, some (.ref x), some (dueV o), x9, x10, x11, x12] H4) := fun u H2 s2 eu => by
    refine ⟨_, rfl, ?_, _, rfl, ?_⟩
    · rw [eu]
      unfold dueV
      split <;> rfl
    · rw [eu, decide_eq_true rfl]
      exact iteF (rest H2 s2)
  refine ⟨_, rfl, _, rfl, fun w dw hw hdw hne => ?_⟩
  have s2 : Same H1 (upd (upd H1 dw (.own w)) w (.ins CW dw [])) := fun y o e => (upd_ne (ne_of_none e hw)).trans ((upd_ne (ne_of_none e hdw)).trans e)
  have hw2 : upd (upd H1 dw (.own w)) w (.ins CW dw []) w = some (.ins CW dw []) := upd_same
  generalize upd (upd H1 dw (.own w)) w (.ins CW dw []) = H2 at s2 hw2 ⊢
  have J2 := J1.same s2
  refine ⟨w, x, v, dw, ks, p, o, rfl, hw2, J2.row, J2.cr.V, fun e H3 s3 => ⟨true, Zr.exm, fun _ a ha => ?_, fun z => nomatch z⟩, fun ms eo good H3 f l i fst b3 hf hl wk => ⟨rfl, ?_⟩⟩
  · have s4 := same_new (o := CauO (.ref BC) none a) ha
    refine ⟨a, rfl, upd_same, ?_⟩
    exact due _ _ (s2.trans (s3.trans s4)) (if_neg (by rw [e]; exact Bool.false_ne_true)).symm
  · have s3 : Same H1 H3 := fun y o h => b3 _ _ (ne_of_none h hw) (s2 _ _ h)
    exact due _ _ s3 (if_pos good).symm
theorem made29 {ps : List (Int × Int)} (R0 : WalkC K CW) (Zr : ErrW K BC CS) (S : StB H d g c b) (T : LamX.Tabs [(P, q)] H) (hF : H F = some (.dK (kvsOf ps))) (hZ : H Z = some (.dK (kvsOf ks))) (vd : Vd ps ks) (cr : CrAt d g c H v o) (bd : ∀ y ∈ (ps ++ ks).map Prod.fst, -(10 ^ 30) ≤ y ∧ y ≤ 10 ^ 30)
    (hN : ∀ y5 y7 y8 y9 y10 y11 y12 H', StB H' d g c b → LamX.Tabs [(P, q)] H' → N [x0, some (.ref d), x2, some (.ref Z), some (.ref F), y5, x6, y7, y8, y9, y10, y11, y12] H') :
    t_made29 K BC C CS CW P q { nx := N, rt := R, bk := N2, ct := N3 } [x0, some (.ref d), x2, some (.ref Z), some (.ref F), some v, x6, x7, x8, x9, x10, x11, x12] H := by
  unfold t_made29
  rw [← xErr29_eq]
  refine ⟨_, rfl, _, rfl, F, Z, ps, ks, rfl, hF, hZ, vd.ok, vd.ap, vd.ak, fun x H1 hx s1 row => ?_⟩
  have J1 : J29 K C P q H1 d g c b (⟨ps, vd⟩ : Rws ks) x F Z v o := ⟨StB.same s1 S, Tabs.same T s1, row, s1 _ _ hF, s1 _ _ hZ, cr.up (Up.same s1)⟩
  refine ⟨_, rfl, v, o, rfl, J1.cr.V, fun H2 s2 => ⟨_, rfl, ?_⟩⟩
  have J2 := J1.same s2
  have fin : ∀ u, u = dueV o → ∀ t, H2 t = none → xErr29 K BC C CS CW P q { nx := N, rt := R, bk := N2, ct := N3 } [x0, some (.ref d), x2, some (.ref Z), some (.ref F), some v, x6, some (.ref x), some u, x9, x10, x11, x12] (upd H2 t (.tup [.ref x, u])) := fun u eu t ht => by
    subst eu
    rw [xErr29_eq]
    exact err29 R0 Zr (J2.same (same_new ht)) bd fun y5 y9 y10 y11 y12 H' S' T' => hN _ _ _ _ _ _ _ H' S' T'
  cases good : goodC o with
  | true =>
    refine iteT ⟨sz (by show 2 ≤ 1000; decide), fun t ht => ?_⟩
    refine ⟨t, _, rfl, SqT.of upd_same, rfl, _, _, rfl, _, _, rfl, rfl, ?_⟩
    exact fin .non (if_pos good).symm t ht
  | false =>
    refine iteF ⟨sz (by show 2 ≤ 1000; decide), fun t ht => ?_⟩
    refine ⟨t, _, rfl, SqT.of upd_same, rfl, _, _, rfl, _, _, rfl, rfl, ?_⟩
    exact fin (.str "capacity") (if_neg (by rw [good]; exact Bool.false_ne_true)).symm t ht
theorem cr29 {ps : List (Int × Int)} (R0 : WalkC K CW) (Zr : ErrW K BC CS) (S : StB H d g c (b + 20)) (T : LamX.Tabs [(P, q)] H) (hF : H F = some (.dK (kvsOf ps))) (hZ : H Z = some (.dK (kvsOf ks))) (f1 : F ≠ d ∧ F ≠ g) (z1 : Z ≠ d ∧ Z ≠ g) (vd : Vd ps ks) (bd : ∀ y ∈ (ps ++ ks).map Prod.fst, -(10 ^ 30) ≤ y ∧ y ≤ 10 ^ 30)
    (hN : ∀ y5 y7 y8 y9 y10 y11 y12 H', StB H' d g c b → LamX.Tabs [(P, q)] H' → N [x0, some (.ref d), x2, some (.ref Z), some (.ref F), y5, x6, y7, y8, y9, y10, y11, y12] H') :
    t_cr29 K BC C CS CW P q { nx := N, rt := R, bk := N2, ct := N3 } [x0, some (.ref d), x2, some (.ref Z), some (.ref F), x5, x6, x7, x8, x9, x10, x11, x12] H := by
  unfold t_cr29
  rw [← xCrew29_eq, ← xOdd29_eq, ← xAny29_eq, ← xMade29_eq]
  refine seq_go (asg_go ?_)
  show xCrew29 K [x0, some (.ref d), x2, some (.ref Z), some (.ref F), x5, x6, x7, x8, x9, x10, x11, x12] H _
  rw [xCrew29_eq]
  refine crew29 (b := b + 10) S fun A H1 xs S1 k1 a1 a2 a3 hA hx l8 => ?_
  have T1 := Tabs.kp S T k1
  have last : ∀ (A : Addr) H2 xs, StB H2 d g c (b + 8) → LamX.Tabs [(P, q)] H2 → Kp d g H1 H2 → A ≠ d → A ≠ g → A ≠ c → H2 A = some (.lst xs) → XsV d g H2 xs → xs.length ≤ 8 →
      (tSeq (tAsg (xAny29 K) (gName 5)) (xMade29 K BC C CS CW P q)) { nx := N, rt := R, bk := N2, ct := N3 } [x0, some (.ref d), x2, some (.ref Z), some (.ref F), some (.ref A), x6, x7, x8, x9, x10, x11, x12] H2 := fun A H2 xs S2 T2 k2 a1 a2 a3 hA hx l8 => by
    refine seq_go (asg_go ?_)
    rw [xAny29_eq]
    refine any29 (b := b + 7) S2 hA a1 a2 a3 hx l8 fun v H3 o S3 k3 cr => ?_
    have T3 := Tabs.kp S2 T2 k3
    have k13 := (k1.trans k2).trans k3
    show xMade29 K BC C CS CW P q _ [x0, some (.ref d), x2, some (.ref Z), some (.ref F), some v, x6, x7, x8, x9, x10, x11, x12] H3
    rw [xMade29_eq]
    exact made29 R0 Zr (S3.mono (by omega)) T3 (k13 _ _ f1.1 f1.2 hF) (k13 _ _ z1.1 z1.2 hZ) vd cr bd fun y5 y7 y8 y9 y10 y11 y12 H' S' T' => hN _ _ _ _ _ _ _ H' S' T'
  refine ⟨_, rfl, d, g, c, b + 9, 3, rfl, S1, by decide, by decide, fun u H2 u0 u1 S2 k2 => ⟨rfl, _, rfl, ?_⟩⟩
  have T2 := Tabs.kp S1 T1 k2
  have A2 := k2 _ _ a1 a2 hA
  have X2 := hx.up (Up.kp k2)
  by_cases e : V.int u = V.int 0
  · rw [decide_eq_true e]
    refine iteT (asg_go ?_)
    rw [xOdd29_eq]
    refine odd29 (b := b + 8) S2 A2 a1 a2 X2 fun A' H3 xs' S3 k3 n1 n2 n3 hA' hx' l' => ?_
    exact last A' H3 xs' S3 (Tabs.kp S2 T2 k3) (k2.trans k3) n1 n2 n3 hA' hx' l'
  · rw [decide_eq_false e]
    exact iteF (last A H2 xs (S2.mono (by omega)) T2 k2 a1 a2 a3 A2 X2 l8)
theorem box29 (S : StB H d g c (b + 42)) (T : LamX.Tabs [(P, q)] H) (hZ : H Z = some (.dK (kvsOf ks))) (z1 : Z ≠ d ∧ Z ≠ g ∧ Z ≠ c) (ak : Asc ks) (ok : ∀ p ∈ ks, sizeOk p) (kl : ks.length ≤ 6)
    (hQ : ∀ r H' ps, StB H' d g c b → LamX.Tabs [(P, q)] H' → Kp d g H H' → r ≠ d ∧ r ≠ g → H' r = some (.dK (kvsOf ps)) → Vd ps ks → (∀ p ∈ ps, -(10 ^ 30) ≤ p.1 ∧ p.1 ≤ 10 ^ 30) → Q (.ref r) H') :
    t_box29 K [x0, some (.ref d), x2, some (.ref Z), x4, x5, x6, x7, x8, x9, x10, x11, x12] H Q := by
  refine ⟨_, rfl, d, g, c, b + 41, 2, rfl, S, by decide, by decide, fun u H1 u0 u1 S1 k1 => ⟨rfl, _, rfl, ?_⟩⟩
  have T1 := Tabs.kp S T k1
  have Z1 := k1 _ _ z1.1 z1.2.1 hZ
  by_cases e : V.int u = V.int 0
  · rw [decide_eq_true e]
    refine iteT ⟨_, rfl, _, rfl, d, g, c, b + 15, Z, 6, ks, rfl, S1, z1.1, z1.2.1, Z1, ok, by decide, by decide, fun F H3 ps S3 q3 f1 f2 f3 hF F3 ap po bd sm => ?_⟩
    exact hQ F H3 ps (S3.mono (by omega)) (Tabs.kp S1 T1 q3) (k1.trans q3) ⟨f1, f2⟩ F3 ⟨⟨asc_nd ap, asc_nd ak, kl, ok, po, by omega⟩, ap, ak⟩ fun p m => by have := bd p m; constructor <;> omega
  · rw [decide_eq_false e]
    refine iteF ⟨_, rfl, _, rfl, d, g, c, b + 1, Z, 6, ks, rfl, S1, z1.1, z1.2.1, z1.2.2, Z1, asc_nd ak, ok, kl, by decide, by decide, fun F H3 ps S3 q3 f1 f2 f3 hF F3 ap po bd sm => ?_⟩
    exact hQ F H3 ps (S3.mono (by omega)) (Tabs.kp S1 T1 q3) (k1.trans q3) ⟨f1, f2⟩ F3 ⟨⟨asc_nd ap, asc_nd ak, kl, ok, po, by omega⟩, ap, ak⟩ bd
theorem turn29 (R0 : WalkC K CW) (Zr : ErrW K BC CS) (S : StB H d g c (b + 100)) (T : LamX.Tabs [(P, q)] H)
    (hN : ∀ y3 y4 y5 y7 y8 y9 y10 y11 y12 H', StB H' d g c b → LamX.Tabs [(P, q)] H' → N [x0, some (.ref d), x2, y3, y4, y5, x6, y7, y8, y9, y10, y11, y12] H') :
    t_turn29 K BC C CS CW P q { nx := N, rt := R, bk := N2, ct := N3 } [x0, some (.ref d), x2, x3, x4, x5, x6, x7, x8, x9, x10, x11, x12] H := by
  unfold t_turn29
  rw [← xBox29_eq, ← xCr29_eq]
  refine ⟨_, rfl, d, g, c, b + 75, 3, rfl, S, by decide, by decide, fun Z H1 ks S1 q1 z1 z2 z3 hz hZ ak ok kl => ?_⟩
  have T1 := Tabs.kp S T q1
  refine seq_go (asg_go ?_)
  show xBox29 K [x0, some (.ref d), x2, some (.ref Z), x4, x5, x6, x7, x8, x9, x10, x11, x12] H1 _
  rw [xBox29_eq]
  refine box29 (b := b + 33) S1 T1 hZ ⟨z1, z2, z3⟩ ak ok kl fun F H2 ps S2 T2 k2 f12 hF vd bd => ?_
  show xCr29 K BC C CS CW P q _ [x0, some (.ref d), x2, some (.ref Z), some (.ref F), x5, x6, x7, x8, x9, x10, x11, x12] H2
  rw [xCr29_eq]
  refine cr29 R0 Zr (S2.mono (by omega)) T2 hF (k2 _ _ z1 z2 hZ) f12 ⟨z1, z2⟩ vd (fun y m => ?_) fun y5 y7 y8 y9 y10 y11 y12 H' S' T' => hN _ _ _ _ _ _ _ _ _ H' S' T'
  obtain ⟨t, ht, rfl⟩ := List.mem_map.mp m
  rcases List.mem_append.mp ht with ht | ht
  · exact bd t ht
  · have := (ok t ht).1
    constructor <;> omega
theorem pure_law29 (R0 : WalkC K CW) (Zr : ErrW K BC CS) (vs : List V) (H : Hp) (Q : VK) (E : XK) (h : spLawL K P vs H Q E) : t_law29 K BC C CS CW P q { nx := fun _ H' => Q .non H', rt := Q } (start ["script", "state", "turn", "sizes", "boxes", "crew", "spot", "made", "due", "walk", "first", "want", "most"] vs) H := by
  obtain ⟨a, ns, rfl, hL, hlen, hP, k⟩ := h
  unfold t_law29
  rw [← xTurn29_eq]
  refine ⟨_, rfl, a, ns, rfl, hL, hlen, fun d g c H1 S1 e1 _ _ _ => ?_⟩
  have hL1 : SqL K H1 a (ns.map V.int) := Same.seq e1 hL
  have T1 : LamX.Tabs [(P, q)] H1 := fun p hp => by
    rw [List.mem_singleton.mp hp]
    exact LamX.TabS.nil (e1 _ _ hP)
  refine ⟨_, rfl, a, _, rfl, .inl hL1, _, _, rfl, _, _, rfl, rfl, _, rfl, ?_, ?_, ?_⟩
  · show -(2 ^ 62) ≤ 6 + (if (20 : Int) < ((ns.map V.int).length : Int) then 20 else ((ns.map V.int).length : Int))
    split <;> omega
  · show 6 + (if (20 : Int) < ((ns.map V.int).length : Int) then 20 else ((ns.map V.int).length : Int)) < 2 ^ 62
    rw [List.length_map]
    split <;> omega
  have hn : (6 + (if (20 : Int) < ((ns.map V.int).length : Int) then 20 else ((ns.map V.int).length : Int))).toNat ≤ 26 := by
    split <;> omega
  generalize (6 + (if (20 : Int) < ((ns.map V.int).length : Int) then 20 else ((ns.map V.int).length : Int))).toNat = n at hn
  refine for_range (lo := 0) (n := n) (fun i σ H2 => StB H2 d g c (6000 - 100 * i) ∧ LamX.Tabs [(P, q)] H2 ∧ ∃ x2 x3 x4 x5 x6 x7 x8 x9 x10 x11 x12, σ = [some (.ref a), some (.ref d), x2, x3, x4, x5, x6, x7, x8, x9, x10, x11, x12]) ⟨S1.mono (by decide), T1, _, _, _, _, _, _, _, _, _, _, _, rfl⟩ ?_ ?_
  · rintro i σ H2 hi ⟨S2, T2, x2, x3, x4, x5, x6, x7, x8, x9, x10, x11, x12, rfl⟩
    have e : 6000 - 100 * i = (6000 - 100 * (i + 1)) + 100 := by omega
    rw [e] at S2
    show xTurn29 K BC C CS CW P q _ [some (.ref a), some (.ref d), some (.int (0 + i)), x3, x4, x5, x6, x7, x8, x9, x10, x11, x12] H2
    rw [xTurn29_eq]
    exact turn29 R0 Zr S2 T2 fun y3 y4 y5 y7 y8 y9 y10 y11 y12 H' S' T' => ⟨S', T', _, _, _, _, _, _, _, _, _, _, _, rfl⟩
  · rintro σ H2 _
    exact k H2
end
end SR
set_option Elab.async false
set_option linter.all false
set_option maxRecDepth 100000
set_option maxHeartbeats 8000000
namespace SR
open PySem PySem.Spec PyProof.Rows L2
def topS (i : Nat) : Stmt := PySem.Challenge.pw_scooprow_k29_walks_refused.main.body.getD i (.Pass ⟨0, 0, 0, 0⟩)
abbrev s_is_integer : Stmt := topS 15
abbrev s_is_between : Stmt := topS 16
abbrev s_is_pair : Stmt := topS 17
abbrev s_are_pairs : Stmt := topS 18
abbrev s_is_wide_box : Stmt := topS 19
abbrev s_are_capacities : Stmt := topS 20
abbrev s_are_contents : Stmt := topS 21
abbrev s_Row_init : Stmt := inClass (topS 22) 0
abbrev s_Row_contents : Stmt := inClass (topS 22) 1
abbrev s_Row_capacities : Stmt := inClass (topS 22) 2
abbrev s_Row_eq : Stmt := inClass (topS 22) 7
abbrev s_is_capacity : Stmt := topS 25
abbrev s_are_carriers : Stmt := topS 29
abbrev s_first_index : Stmt := topS 30
abbrev s_Walk_init : Stmt := inClass (topS 31) 0
abbrev s_Walk_at : Stmt := inClass (topS 31) 4
abbrev s_Walk_now : Stmt := inClass (topS 31) 5
abbrev s_begun : Stmt := topS 33
abbrev s_mixed : Stmt := topS 34
abbrev s_take : Stmt := topS 35
abbrev s_pick : Stmt := topS 36
abbrev s_sizes : Stmt := topS 37
abbrev s_boxes : Stmt := topS 38
abbrev s_made : Stmt := topS 39
abbrev s_near : Stmt := topS 41
abbrev s_are_good : Stmt := topS 44
abbrev s_named : Stmt := topS 43
abbrev s_error : Stmt := topS 42
abbrev s_law : Stmt := topS 45
theorem sc_is_integer : FnScope ["value"] ["value"] (defScope s_is_integer) := ⟨rfl, rfl, rfl, by decide +kernel, rfl, by decide +kernel, by decide +kernel⟩
theorem sc_is_between : FnScope ["value", "low", "high"] ["value", "low", "high"] (defScope s_is_between) := ⟨rfl, rfl, rfl, by decide +kernel, rfl, by decide +kernel, by decide +kernel⟩
theorem sc_is_pair : FnScope ["value"] ["value"] (defScope s_is_pair) := ⟨rfl, rfl, rfl, by decide +kernel, rfl, by decide +kernel, by decide +kernel⟩
theorem sc_are_pairs : FnScope ["value", "part", "first", "_"] ["value"] (defScope s_are_pairs) := ⟨rfl, rfl, rfl, by decide +kernel, rfl, by decide +kernel, by decide +kernel⟩
theorem sc_is_wide_box : FnScope ["index", "capacity"] ["index", "capacity"] (defScope s_is_wide_box) := ⟨rfl, rfl, rfl, by decide +kernel, rfl, by decide +kernel, by decide +kernel⟩
theorem sc_are_capacities : FnScope ["value", "index", "capacity"] ["value"] (defScope s_are_capacities) := ⟨rfl, rfl, rfl, by decide +kernel, rfl, by decide +kernel, by decide +kernel⟩
theorem sc_are_contents : FnScope ["value", "capacities", "wide", "index", "count", "_"] ["value", "capacities"] (defScope s_are_contents) := ⟨rfl, rfl, rfl, by decide +kernel, rfl, by decide +kernel, by decide +kernel⟩
theorem sc_Row_init : FnScope ["self", "contents", "capacities"] ["self", "contents", "capacities"] (defScope s_Row_init) := ⟨rfl, rfl, rfl, by decide +kernel, rfl, by decide +kernel, by decide +kernel⟩
theorem sc_Row_contents : FnScope ["self"] ["self"] (defScope s_Row_contents) := ⟨rfl, rfl, rfl, by decide +kernel, rfl, by decide +kernel, by decide +kernel⟩
theorem sc_Row_capacities : FnScope ["self"] ["self"] (defScope s_Row_capacities) := ⟨rfl, rfl, rfl, by decide +kernel, rfl, by decide +kernel, by decide +kernel⟩
theorem sc_Row_eq : FnScope ["self", "other"] ["self", "other"] (defScope s_Row_eq) := ⟨rfl, rfl, rfl, by decide +kernel, rfl, by decide +kernel, by decide +kernel⟩
theorem sc_is_capacity : FnScope ["value"] ["value"] (defScope s_is_capacity) := ⟨rfl, rfl, rfl, by decide +kernel, rfl, by decide +kernel, by decide +kernel⟩
theorem sc_are_carriers : FnScope ["value", "capacity"] ["value"] (defScope s_are_carriers) := ⟨rfl, rfl, rfl, by decide +kernel, rfl, by decide +kernel, by decide +kernel⟩
theorem sc_first_index : FnScope ["row", "index", "_"] ["row"] (defScope s_first_index) := ⟨rfl, rfl, rfl, by decide +kernel, rfl, by decide +kernel, by decide +kernel⟩
theorem sc_Walk_init : FnScope ["self", "row", "capacities", "start", "capacity"] ["self", "row", "capacities"] (defScope s_Walk_init) := ⟨rfl, rfl, rfl, by decide +kernel, rfl, by decide +kernel, by decide +kernel⟩
theorem sc_Walk_at : FnScope ["self", "k"] ["self", "k"] (defScope s_Walk_at) := ⟨rfl, rfl, rfl, by decide +kernel, rfl, by decide +kernel, by decide +kernel⟩
theorem sc_Walk_now : FnScope ["self", "contents", "index", "count"] ["self"] (defScope s_Walk_now) := ⟨rfl, rfl, rfl, by decide +kernel, rfl, by decide +kernel, by decide +kernel⟩
theorem sc_begun : FnScope ["script", "wide", "cell"] ["script"] (defScope s_begun) := ⟨rfl, rfl, rfl, by decide +kernel, rfl, by decide +kernel, by decide +kernel⟩
theorem sc_mixed : FnScope ["state", "turn", "found", "prime", "blend", "cell"] ["state"] (defScope s_mixed) := ⟨rfl, rfl, rfl, by decide +kernel, rfl, by decide +kernel, by decide +kernel⟩
theorem sc_take : FnScope ["state", "size", "found"] ["state", "size"] (defScope s_take) := ⟨rfl, rfl, rfl, by decide +kernel, rfl, by decide +kernel, by decide +kernel⟩
theorem sc_pick : FnScope ["state", "some"] ["state", "some"] (defScope s_pick) := ⟨rfl, rfl, rfl, by decide +kernel, rfl, by decide +kernel, by decide +kernel⟩
theorem sc_sizes : FnScope ["state", "most", "found", "turn", "place"] ["state", "most"] (defScope s_sizes) := ⟨rfl, rfl, rfl, by decide +kernel, rfl, by decide +kernel, by decide +kernel⟩
theorem sc_boxes : FnScope ["state", "sizes", "most", "place", "found", "spare", "turn", "step", "amount"] ["state", "sizes", "most"] (defScope s_boxes) := ⟨rfl, rfl, rfl, by decide +kernel, rfl, by decide +kernel, by decide +kernel⟩
theorem sc_made : FnScope ["boxes", "sizes"] ["boxes", "sizes"] (defScope s_made) := ⟨rfl, rfl, rfl, by decide +kernel, rfl, by decide +kernel, by decide +kernel⟩
theorem sc_near : FnScope ["state", "sizes", "most", "found", "spare", "place", "amount"] ["state", "sizes", "most"] (defScope s_near) := ⟨rfl, rfl, rfl, by decide +kernel, rfl, by decide +kernel, by decide +kernel⟩
theorem sc_are_good : FnScope ["thing", "bad", "most"] ["thing"] (defScope s_are_good) := ⟨rfl, rfl, rfl, by decide +kernel, rfl, by decide +kernel, by decide +kernel⟩
theorem sc_named : FnScope ["caught"] ["caught"] (defScope s_named) := ⟨rfl, rfl, rfl, by decide +kernel, rfl, by decide +kernel, by decide +kernel⟩
theorem sc_error : FnScope ["work", "caught", "e"] ["work"] (defScope s_error) := ⟨rfl, rfl, rfl, by decide +kernel, rfl, by decide +kernel, by decide +kernel⟩
theorem sc_law : FnScope ["script", "state", "turn", "sizes", "boxes", "crew", "spot", "made", "due", "walk", "first", "want", "most"] ["script"] (defScope s_law) := ⟨rfl, rfl, rfl, by decide +kernel, rfl, by decide +kernel, by decide +kernel⟩
structure Tx (K : PySem.W.Frag) (mg : Str → Option Value) (c_Row : Addr) (c_Walk : Addr) (c_BadCapacity : Addr) (c_ScoopError : Addr) : Prop where
  n_isinstance : mg "isinstance" = none
  n_int : mg "int" = none
  n_bool : mg "bool" = none
  n_list : mg "list" = none
  n_tuple : mg "tuple" = none
  n_all : mg "all" = none
  n_len : mg "len" = none
  n_dict : mg "dict" = none
  n_sum : mg "sum" = none
  n_sorted : mg "sorted" = none
  n_range : mg "range" = none
  n_min : mg "min" = none
  n_max : mg "max" = none
  n_repr : mg "repr" = none
  n_super : mg "super" = none
  n_ValueError : mg "ValueError" = none
  c_GREATEST_CAPACITY : ∃ u, mg "GREATEST_CAPACITY" = some u ∧ RelV (.int (99)) u
  c_FIRST_WIDE_INDEX : ∃ u, mg "FIRST_WIDE_INDEX" = some u ∧ RelV (.int (-60)) u
  c_LAST_WIDE_INDEX : ∃ u, mg "LAST_WIDE_INDEX" = some u ∧ RelV (.int (60)) u
  c_LEAST_WIDE_CAPACITY : ∃ u, mg "LEAST_WIDE_CAPACITY" = some u ∧ RelV (.int (2)) u
  c_GREATEST_WIDE_CAPACITY : ∃ u, mg "GREATEST_WIDE_CAPACITY" = some u ∧ RelV (.int (9)) u
  c_MOST_WIDE_BOXES : ∃ u, mg "MOST_WIDE_BOXES" = some u ∧ RelV (.int (6)) u
  c_MOST_ITEMS : ∃ u, mg "MOST_ITEMS" = some u ∧ RelV (.int (40)) u
  c_MOST_CARRIERS : ∃ u, mg "MOST_CARRIERS" = some u ∧ RelV (.int (6)) u
  g_Row : mg "Row" = some (.ref c_Row)
  g_Walk : mg "Walk" = some (.ref c_Walk)
  g_BadCapacity : mg "BadCapacity" = some (.ref c_BadCapacity)
  g_ScoopError : mg "ScoopError" = some (.ref c_ScoopError)
  x_BadCapacity : PySem.W.excIn K c_BadCapacity He.veBase "ValueError.__new__" = true
  k_BadCapacity : PySem.W.keepIn K (.ref c_BadCapacity) = true
  s_BadCapacity : PySem.W.subIn K (.ref c_BadCapacity) (.type "BaseException") = some true
  t_BadCapacity : PySem.W.typeIn K (.ref c_BadCapacity) = some (.type "type")
section
variable {P : Program} {w : World} {K : PySem.W.Frag} {mg : Str → Option Value} {base : Heap} {c_Row : Addr} {c_Walk : Addr} {c_BadCapacity : Addr} {c_ScoopError : Addr}
theorem dfn_is_integer (T : Tx K mg c_Row c_Walk c_BadCapacity c_ScoopError) {f : Addr} {fd : FuncData} (F : FunD K "is_integer" "is_integer" (defArgs s_is_integer) (defBody s_is_integer) (defScope s_is_integer) [] [] f fd) :
    FnOk P w K mg base CX0 1 f fd ["value"] (spIsInt K) := by
  have D : ∀ (cdv : Value) (A : Around) (outer : List Env) (s : Shared) (H : Hp) (vs : List V) (Q : VK) (E : XK), Room 0 (A.deeper (envOfC "is_integer" (defScope s_is_integer) s.heap.objs.size f cdv)) → (spIsInt K) vs H Q E →
      ∃ t, PSs (cxOf CX0 P w K mg base ["value"] "is_integer" (defScope s_is_integer) f cdv A outer s H E) (defBody s_is_integer) t ∧ t { nx := fun _ H' => Q .non H', rt := Q } (start ["value"] vs) H := by
    intro cdv A outer s H vs Q E hr h
    refine ⟨t_is_integer K, PSs.nox ?_, pure_is_integer vs H Q E h⟩
    exact pss_one (ps_ret (pe_and (pe_callB call_isi (by rfl) T.n_isinstance PyProof.Rows.boot_isinstance (pa_cons (pv 0) (pa_cons (pe_bltn (v := .ty "int") (by rfl) T.n_int (by decide +kernel) rfl) pa_nil))) (pe_one (pe_not (pe_callB call_isi (by rfl) T.n_isinstance PyProof.Rows.boot_isinstance (pa_cons (pv 0) (pa_cons (pe_bltn (v := .ty "bool") (by rfl) T.n_bool (by decide +kernel) rfl) pa_nil)))))))
  exact F.ok sc_is_integer (fun vs H Q E h => by
    repeat (first | (obtain ⟨rfl, _⟩ := h; rfl) | obtain ⟨_, h⟩ := h)) D
theorem dfn_is_between (T : Tx K mg c_Row c_Walk c_BadCapacity c_ScoopError) (C_is_integer : Kn P w K mg base CX0 1 "is_integer" ["value"] (spIsInt K)) {f : Addr} {fd : FuncData} (F : FunD K "is_between" "is_between" (defArgs s_is_between) (defBody s_is_between) (defScope s_is_between) [] [] f fd) :
    FnOk P w K mg base CX0 2 f fd ["value", "low", "high"] (spBetween K) := by
  have D : ∀ (cdv : Value) (A : Around) (outer : List Env) (s : Shared) (H : Hp) (vs : List V) (Q : VK) (E : XK), Room 1 (A.deeper (envOfC "is_between" (defScope s_is_between) s.heap.objs.size f cdv)) → (spBetween K) vs H Q E →
      ∃ t, PSs (cxOf CX0 P w K mg base ["value", "low", "high"] "is_between" (defScope s_is_between) f cdv A outer s H E) (defBody s_is_between) t ∧ t { nx := fun _ H' => Q .non H', rt := Q } (start ["value", "low", "high"] vs) H := by
    intro cdv A outer s H vs Q E hr h
    refine ⟨t_is_between K, PSs.nox ?_, pure_is_between vs H Q E h⟩
    exact pss_one (ps_ret (pe_and (pe_k C_is_integer hr (by decide) rfl pass0 (pa_cons (pv 0) (pa_nil))) (pe_one (pe_chain op_le op_le (pv 1) (pv 0) (pv 2)))))
  exact F.ok sc_is_between (fun vs H Q E h => by
    repeat (first | (obtain ⟨rfl, _⟩ := h; rfl) | obtain ⟨_, h⟩ := h)) D
theorem dfn_is_pair (T : Tx K mg c_Row c_Walk c_BadCapacity c_ScoopError) (C_is_integer : Kn P w K mg base CX0 1 "is_integer" ["value"] (spIsInt K)) {f : Addr} {fd : FuncData} (F : FunD K "is_pair" "is_pair" (defArgs s_is_pair) (defBody s_is_pair) (defScope s_is_pair) [] [] f fd) :
    FnOk P w K mg base CX0 2 f fd ["value"] (spIsPair K) := by
  have D : ∀ (cdv : Value) (A : Around) (outer : List Env) (s : Shared) (H : Hp) (vs : List V) (Q : VK) (E : XK), Room 1 (A.deeper (envOfC "is_pair" (defScope s_is_pair) s.heap.objs.size f cdv)) → (spIsPair K) vs H Q E →
      ∃ t, PSs (cxOf CX0 P w K mg base ["value"] "is_pair" (defScope s_is_pair) f cdv A outer s H E) (defBody s_is_pair) t ∧ t { nx := fun _ H' => Q .non H', rt := Q } (start ["value"] vs) H := by
    intro cdv A outer s H vs Q E hr h
    refine ⟨t_is_pair K, PSs.nox ?_, pure_is_pair vs H Q E h⟩
    exact pss_cons (ps_if (PW.pt (pw_or (pt_not (pt_val (pe_callB call_isi (by rfl) T.n_isinstance PyProof.Rows.boot_isinstance (pa_cons (pv 0) (pa_cons (pe_bltn (v := .ty "tuple") (by rfl) T.n_tuple (by decide +kernel) rfl) pa_nil))))) (pw_or1 (pt_cmpR op_ne (pe_callB call_len_seq (by rfl) T.n_len PySem.boot_len (pa_cons (pv 0) (pa_nil))) (pe_int) (nomark _)))))
      (pss_one (ps_ret (pe_bl)))
      (pss_nil))
      (pss_one (ps_ret (pe_and (pe_k C_is_integer hr (by decide) rfl pass0 (pa_cons (pe_ix ix_tup (pv 0) (pe_int) (fun _ _ => rfl)) (pa_nil))) (pe_one (pe_k C_is_integer hr (by decide) rfl pass0 (pa_cons (pe_ix ix_tup (pv 0) (pe_int) (fun _ _ => rfl)) (pa_nil)))))))
  exact F.ok sc_is_pair (fun vs H Q E h => by
    repeat (first | (obtain ⟨rfl, _⟩ := h; rfl) | obtain ⟨_, h⟩ := h)) D
theorem dfn_are_pairs (T : Tx K mg c_Row c_Walk c_BadCapacity c_ScoopError) (C_is_pair : Kn P w K mg base CX0 2 "is_pair" ["value"] (spIsPair K)) {f : Addr} {fd : FuncData} (F : FunD K "are_pairs" "are_pairs" (defArgs s_are_pairs) (defBody s_are_pairs) (defScope s_are_pairs) [] [] f fd) :
    FnOk P w K mg base CX0 3 f fd ["value"] (spArePairs2 K) := by
  have D : ∀ (cdv : Value) (A : Around) (outer : List Env) (s : Shared) (H : Hp) (vs : List V) (Q : VK) (E : XK), Room 2 (A.deeper (envOfC "are_pairs" (defScope s_are_pairs) s.heap.objs.size f cdv)) → (spArePairs2 K) vs H Q E →
      ∃ t, PSs (cxOf CX0 P w K mg base ["value", "part", "first", "_"] "are_pairs" (defScope s_are_pairs) f cdv A outer s H E) (defBody s_are_pairs) t ∧ t { nx := fun _ H' => Q .non H', rt := Q } (start ["value", "part", "first", "_"] vs) H := by
    intro cdv A outer s H vs Q E hr h
    refine ⟨t_are_pairs w K, PSs.nox ?_, pure_are_pairs2 vs H Q E h⟩
    exact pss_cons (ps_if (pt_not (pt_val (pe_callB call_isiT (by rfl) T.n_isinstance PyProof.Rows.boot_isinstance (pa_cons (pv 0) (pa_cons (pe_tup (pa_cons (pe_bltn (v := .ty "list") (by rfl) T.n_list (by decide +kernel) rfl) (pa_cons (pe_bltn (v := .ty "tuple") (by rfl) T.n_tuple (by decide +kernel) rfl) (pa_nil)))) pa_nil)))))
      (pss_one (ps_ret (pe_bl)))
      (pss_nil))
      (pss_cons (ps_if (pt_not (pt_val (pe_callB (cr_all rfl) (by rfl) T.n_all (by decide +kernel) (pa_cons (pe_lc (own := [("part", 1)]) (g := gName 1) (tt := tYes) rfl sc_are_pairs.nd (pi_or (pi_list (pv 0)) (pi_tup (pv 0))) (blkOk_by (own := [("part", 1)]) (N := ["value", "part", "first", "_"]) (sc := defScope s_are_pairs) (by decide +kernel)) (fun _ _ _ _ _ => pg_name (i := 1) sc_are_pairs.nd rfl (Or.inl rfl)) (fun _ _ _ _ _ => pts_nil) (fun _ _ _ _ _ => pe_k C_is_pair hr (by decide) rfl pass0 (pa_cons (pv 1) (pa_nil)))) (pa_nil)))))
      (pss_one (ps_ret (pe_bl)))
      (pss_nil))
      (pss_one (ps_ret (pe_cmpR op_eq (pe_callB cr_lenSet (by rfl) T.n_len PySem.boot_len (pa_cons (pe_scN (own := [("first", 2), ("_", 3)]) (g := gTup K 2 (gCons (gName 2) (gCons (gName 3) (gNil)))) (tt := tYes) rfl sc_are_pairs.nd (pi_or (pi_list (pv 0)) (pi_tup (pv 0))) (blkOk_by (own := [("first", 2), ("_", 3)]) (N := ["value", "part", "first", "_"]) (sc := defScope s_are_pairs) (by decide +kernel)) (fun _ _ _ _ _ => pg_tup rfl (pgs_cons (pg_name (i := 2) sc_are_pairs.nd rfl (Or.inl rfl)) (pgs_cons (pg_name (i := 3) sc_are_pairs.nd rfl (Or.inl rfl)) (pgs_nil)))) (fun _ _ _ _ _ => pts_nil) (fun _ _ _ _ _ => pv 2)) (pa_nil))) (pe_callB call_len_seq (by rfl) T.n_len PySem.boot_len (pa_cons (pv 0) (pa_nil))) (nomark _)))))
  exact F.ok sc_are_pairs (fun vs H Q E h => by
    repeat (first | (obtain ⟨rfl, _⟩ := h; rfl) | obtain ⟨_, h⟩ := h)) D
theorem dfn_is_wide_box (T : Tx K mg c_Row c_Walk c_BadCapacity c_ScoopError) (C_is_between : Kn P w K mg base CX0 2 "is_between" ["value", "low", "high"] (spBetween K)) {f : Addr} {fd : FuncData} (F : FunD K "_is_wide_box" "_is_wide_box" (defArgs s_is_wide_box) (defBody s_is_wide_box) (defScope s_is_wide_box) [] [] f fd) :
    FnOk P w K mg base CX0 3 f fd ["index", "capacity"] (spWideBox2 K) := by
  have D : ∀ (cdv : Value) (A : Around) (outer : List Env) (s : Shared) (H : Hp) (vs : List V) (Q : VK) (E : XK), Room 2 (A.deeper (envOfC "_is_wide_box" (defScope s_is_wide_box) s.heap.objs.size f cdv)) → (spWideBox2 K) vs H Q E →
      ∃ t, PSs (cxOf CX0 P w K mg base ["index", "capacity"] "_is_wide_box" (defScope s_is_wide_box) f cdv A outer s H E) (defBody s_is_wide_box) t ∧ t { nx := fun _ H' => Q .non H', rt := Q } (start ["index", "capacity"] vs) H := by
    intro cdv A outer s H vs Q E hr h
    refine ⟨t_is_wide_box K, PSs.nox ?_, pure_wide_box2 vs H Q E h⟩
    exact pss_cons (ps_if (pt_not (pt_val (pe_k C_is_between hr (by decide) rfl pass0 (pa_cons (pv 0) (pa_cons (pe_gl (by rfl) T.c_FIRST_WIDE_INDEX) (pa_cons (pe_gl (by rfl) T.c_LAST_WIDE_INDEX) (pa_nil)))))))
      (pss_one (ps_ret (pe_bl)))
      (pss_nil))
      (pss_one (ps_ret (pe_k C_is_between hr (by decide) rfl pass0 (pa_cons (pv 1) (pa_cons (pe_gl (by rfl) T.c_LEAST_WIDE_CAPACITY) (pa_cons (pe_gl (by rfl) T.c_GREATEST_WIDE_CAPACITY) (pa_nil)))))))
  exact F.ok sc_is_wide_box (fun vs H Q E h => by
    repeat (first | (obtain ⟨rfl, _⟩ := h; rfl) | obtain ⟨_, h⟩ := h)) D
theorem dfn_are_capacities (T : Tx K mg c_Row c_Walk c_BadCapacity c_ScoopError) (C_are_pairs : Kn P w K mg base CX0 3 "are_pairs" ["value"] (spArePairs2 K)) (C_is_wide_box : Kn P w K mg base CX0 3 "_is_wide_box" ["index", "capacity"] (spWideBox2 K)) {f : Addr} {fd : FuncData} (F : FunD K "_are_capacities" "_are_capacities" (defArgs s_are_capacities) (defBody s_are_capacities) (defScope s_are_capacities) [] [] f fd) :
    FnOk P w K mg base CX0 4 f fd ["value"] (spAreCap2 K) := by
  have D : ∀ (cdv : Value) (A : Around) (outer : List Env) (s : Shared) (H : Hp) (vs : List V) (Q : VK) (E : XK), Room 3 (A.deeper (envOfC "_are_capacities" (defScope s_are_capacities) s.heap.objs.size f cdv)) → (spAreCap2 K) vs H Q E →
      ∃ t, PSs (cxOf CX0 P w K mg base ["value", "index", "capacity"] "_are_capacities" (defScope s_are_capacities) f cdv A outer s H E) (defBody s_are_capacities) t ∧ t { nx := fun _ H' => Q .non H', rt := Q } (start ["value", "index", "capacity"] vs) H := by
    intro cdv A outer s H vs Q E hr h
    refine ⟨t_are_capacities2 K, PSs.nox ?_, pure_are_cap2 vs H Q E h⟩
    exact pss_cons (ps_if (PW.pt (pw_or (pt_not (pt_val (pe_k C_are_pairs hr (by decide) rfl pass0 (pa_cons (pv 0) (pa_nil))))) (pw_or1 (pt_cmpR op_gt (pe_callB call_len_seq (by rfl) T.n_len PySem.boot_len (pa_cons (pv 0) (pa_nil))) (pe_gl (by rfl) T.c_MOST_WIDE_BOXES) (nomark _)))))
      (pss_one (ps_ret (pe_bl)))
      (pss_nil))
      (pss_one (ps_ret (pe_callB (cr_all rfl) (by rfl) T.n_all (by decide +kernel) (pa_cons (pe_lc (own := [("index", 1), ("capacity", 2)]) (g := gTup K 2 (gCons (gName 1) (gCons (gName 2) (gNil)))) (tt := tYes) rfl sc_are_capacities.nd (pi_or (pi_list (pv 0)) (pi_tup (pv 0))) (blkOk_by (own := [("index", 1), ("capacity", 2)]) (N := ["value", "index", "capacity"]) (sc := defScope s_are_capacities) (by decide +kernel)) (fun _ _ _ _ _ => pg_tup rfl (pgs_cons (pg_name (i := 1) sc_are_capacities.nd rfl (Or.inl rfl)) (pgs_cons (pg_name (i := 2) sc_are_capacities.nd rfl (Or.inl rfl)) (pgs_nil)))) (fun _ _ _ _ _ => pts_nil) (fun _ _ _ _ _ => pe_k C_is_wide_box hr (by decide) rfl pass0 (pa_cons (pv 1) (pa_cons (pv 2) (pa_nil))))) (pa_nil)))))
  exact F.ok sc_are_capacities (fun vs H Q E h => by
    repeat (first | (obtain ⟨rfl, _⟩ := h; rfl) | obtain ⟨_, h⟩ := h)) D
theorem dfn_are_contents (T : Tx K mg c_Row c_Walk c_BadCapacity c_ScoopError) (C_are_pairs : Kn P w K mg base CX0 3 "are_pairs" ["value"] (spArePairs2 K)) {f : Addr} {fd : FuncData} (F : FunD K "_are_contents" "_are_contents" (defArgs s_are_contents) (defBody s_are_contents) (defScope s_are_contents) [] [] f fd) :
    FnOk P w K mg base CX0 4 f fd ["value", "capacities"] (spAreContents K) := by
  have D : ∀ (cdv : Value) (A : Around) (outer : List Env) (s : Shared) (H : Hp) (vs : List V) (Q : VK) (E : XK), Room 3 (A.deeper (envOfC "_are_contents" (defScope s_are_contents) s.heap.objs.size f cdv)) → (spAreContents K) vs H Q E →
      ∃ t, PSs (cxOf CX0 P w K mg base ["value", "capacities", "wide", "index", "count", "_"] "_are_contents" (defScope s_are_contents) f cdv A outer s H E) (defBody s_are_contents) t ∧ t { nx := fun _ H' => Q .non H', rt := Q } (start ["value", "capacities", "wide", "index", "count", "_"] vs) H := by
    intro cdv A outer s H vs Q E hr h
    refine ⟨t_are_contents2 K, PSs.nox ?_, pure_are_contents2 vs H Q E h⟩
    exact pss_cons (ps_if (pt_not (pt_val (pe_k C_are_pairs hr (by decide) rfl pass0 (pa_cons (pv 0) (pa_nil)))))
      (pss_one (ps_ret (pe_bl)))
      (pss_nil))
      (pss_cons (ps_set (i := 2) sc_are_contents.nd rfl (Or.inr rfl) (pe_callTy (cr_or (call_dictP rfl) (cr_dictPT rfl)) (by rfl) T.n_dict (by decide +kernel) (pa_cons (pv 1) (pa_nil))))
      (pss_cons (ps_if (pt_not (pt_val (pe_callB (cr_all rfl) (by rfl) T.n_all (by decide +kernel) (pa_cons (pe_lc (own := [("index", 3), ("count", 4)]) (g := gTup K 2 (gCons (gName 3) (gCons (gName 4) (gNil)))) (tt := tYes) rfl sc_are_contents.nd (pi_or (pi_list (pv 0)) (pi_tup (pv 0))) (blkOk_by (own := [("index", 3), ("count", 4)]) (N := ["value", "capacities", "wide", "index", "count", "_"]) (sc := defScope s_are_contents) (by decide +kernel)) (fun _ _ _ _ _ => pg_tup rfl (pgs_cons (pg_name (i := 3) sc_are_contents.nd rfl (Or.inl rfl)) (pgs_cons (pg_name (i := 4) sc_are_contents.nd rfl (Or.inl rfl)) (pgs_nil)))) (fun _ _ _ _ _ => pts_nil) (fun _ _ _ _ _ => pe_chain op_le op_le (pe_int) (pv 4) (pe_dget2 (hu_of hr) (pv 2) (pv 3) (pe_int) ⟨rfl, rfl, rfl, rfl⟩))) (pa_nil)))))
      (pss_one (ps_ret (pe_bl)))
      (pss_nil))
      (pss_one (ps_ret (pe_cmpR op_le (pe_callB (cr_sum rfl) (by rfl) T.n_sum (by decide +kernel) (pa_cons (pe_lc (own := [("count", 4), ("_", 5)]) (g := gTup K 2 (gCons (gName 5) (gCons (gName 4) (gNil)))) (tt := tYes) rfl sc_are_contents.nd (pi_or (pi_list (pv 0)) (pi_tup (pv 0))) (blkOk_by (own := [("count", 4), ("_", 5)]) (N := ["value", "capacities", "wide", "index", "count", "_"]) (sc := defScope s_are_contents) (by decide +kernel)) (fun _ _ _ _ _ => pg_tup rfl (pgs_cons (pg_name (i := 5) sc_are_contents.nd rfl (Or.inl rfl)) (pgs_cons (pg_name (i := 4) sc_are_contents.nd rfl (Or.inl rfl)) (pgs_nil)))) (fun _ _ _ _ _ => pts_nil) (fun _ _ _ _ _ => pv 4)) (pa_nil))) (pe_gl (by rfl) T.c_MOST_ITEMS) (nomark _))))))
  exact F.ok sc_are_contents (fun vs H Q E h => by
    repeat (first | (obtain ⟨rfl, _⟩ := h; rfl) | obtain ⟨_, h⟩ := h)) D
theorem dfn_Row_init (T : Tx K mg c_Row c_Walk c_BadCapacity c_ScoopError) (C_are_capacities : Kn P w K mg base CX0 4 "_are_capacities" ["value"] (spAreCap2 K)) (C_are_contents : Kn P w K mg base CX0 4 "_are_contents" ["value", "capacities"] (spAreContents K)) (R_Row : RowC K c_Row) {f : Addr} {fd : FuncData} {dv : List V} (F : FunD K "__init__" "Row.__init__" (defArgs s_Row_init) (defBody s_Row_init) (defScope s_Row_init) dv [] f fd) :
    FnOk P w K mg base CX0 5 f fd ["self", "contents", "capacities"] (spRowInit K c_Row) := by
  have D : ∀ (cdv : Value) (A : Around) (outer : List Env) (s : Shared) (H : Hp) (vs : List V) (Q : VK) (E : XK), Room 4 (A.deeper (envOfC "Row.__init__" (defScope s_Row_init) s.heap.objs.size f cdv)) → (spRowInit K c_Row) vs H Q E →
      ∃ t, PSs (cxOf CX0 P w K mg base ["self", "contents", "capacities"] "Row.__init__" (defScope s_Row_init) f cdv A outer s H E) (defBody s_Row_init) t ∧ t { nx := fun _ H' => Q .non H', rt := Q } (start ["self", "contents", "capacities"] vs) H := by
    intro cdv A outer s H vs Q E hr h
    refine ⟨t_Row_init2 K, PSs.nox ?_, pure_row_init2 R_Row vs H Q E h⟩
    exact pss_cons (ps_if (pt_not (pt_val (pe_k C_are_capacities hr (by decide) rfl pass0 (pa_cons (pv 2) (pa_nil)))))
      (pss_one (ps_no))
      (pss_nil))
      (pss_cons (ps_if (pt_not (pt_val (pe_k C_are_contents hr (by decide) rfl pass0 (pa_cons (pv 1) (pa_cons (pv 2) (pa_nil))))))
      (pss_one (ps_no))
      (pss_nil))
      (pss_cons (ps_fld (pv 0) (pe_callTy cr_tupB (by rfl) T.n_tuple (by decide +kernel) (pa_cons (pe_callB (cr_or cr_sortedPO cr_sortedPT) (by rfl) T.n_sorted (by decide +kernel) (pa_cons (pv 1) (pa_nil))) (pa_nil))) rfl)
      (pss_cons (ps_fld (pv 0) (pe_callTy cr_tupB (by rfl) T.n_tuple (by decide +kernel) (pa_cons (pe_callB (cr_or cr_sortedPO cr_sortedPT) (by rfl) T.n_sorted (by decide +kernel) (pa_cons (pv 2) (pa_nil))) (pa_nil))) rfl)
      (pss_cons (ps_fld (pv 0) (pe_callTy (cr_or (call_dictP rfl) (cr_dictPT rfl)) (by rfl) T.n_dict (by decide +kernel) (pa_cons (pv 1) (pa_nil))) rfl)
      (pss_one (ps_fld (pv 0) (pe_callTy (cr_or (call_dictP rfl) (cr_dictPT rfl)) (by rfl) T.n_dict (by decide +kernel) (pa_cons (pv 2) (pa_nil))) rfl))))))
  exact F.ok sc_Row_init (fun vs H Q E h => by
    repeat (first | (obtain ⟨rfl, _⟩ := h; rfl) | obtain ⟨_, h⟩ := h)) D
theorem dfn_Row_contents (T : Tx K mg c_Row c_Walk c_BadCapacity c_ScoopError) (R_Row : RowC K c_Row) {f : Addr} {fd : FuncData} {dv : List V} (F : FunD K "contents" "Row.contents" (defArgs s_Row_contents) (defBody s_Row_contents) (defScope s_Row_contents) dv [] f fd) :
    FnOk P w K mg base CX0 1 f fd ["self"] (spContents K c_Row) := by
  have D : ∀ (cdv : Value) (A : Around) (outer : List Env) (s : Shared) (H : Hp) (vs : List V) (Q : VK) (E : XK), Room 0 (A.deeper (envOfC "Row.contents" (defScope s_Row_contents) s.heap.objs.size f cdv)) → (spContents K c_Row) vs H Q E →
      ∃ t, PSs (cxOf CX0 P w K mg base ["self"] "Row.contents" (defScope s_Row_contents) f cdv A outer s H E) (defBody s_Row_contents) t ∧ t { nx := fun _ H' => Q .non H', rt := Q } (start ["self"] vs) H := by
    intro cdv A outer s H vs Q E hr h
    refine ⟨t_Row_contents K, PSs.nox ?_, pure_contents R_Row vs H Q E h⟩
    exact pss_one (ps_ret (pe_fld (pv 0) rfl))
  exact F.ok sc_Row_contents (fun vs H Q E h => by
    repeat (first | (obtain ⟨rfl, _⟩ := h; rfl) | obtain ⟨_, h⟩ := h)) D
theorem dfn_Row_capacities (T : Tx K mg c_Row c_Walk c_BadCapacity c_ScoopError) (R_Row : RowC K c_Row) {f : Addr} {fd : FuncData} {dv : List V} (F : FunD K "capacities" "Row.capacities" (defArgs s_Row_capacities) (defBody s_Row_capacities) (defScope s_Row_capacities) dv [] f fd) :
    FnOk P w K mg base CX0 1 f fd ["self"] (spCapacities K c_Row) := by
  have D : ∀ (cdv : Value) (A : Around) (outer : List Env) (s : Shared) (H : Hp) (vs : List V) (Q : VK) (E : XK), Room 0 (A.deeper (envOfC "Row.capacities" (defScope s_Row_capacities) s.heap.objs.size f cdv)) → (spCapacities K c_Row) vs H Q E →
      ∃ t, PSs (cxOf CX0 P w K mg base ["self"] "Row.capacities" (defScope s_Row_capacities) f cdv A outer s H E) (defBody s_Row_capacities) t ∧ t { nx := fun _ H' => Q .non H', rt := Q } (start ["self"] vs) H := by
    intro cdv A outer s H vs Q E hr h
    refine ⟨t_Row_capacities K, PSs.nox ?_, pure_capacities R_Row vs H Q E h⟩
    exact pss_one (ps_ret (pe_fld (pv 0) rfl))
  exact F.ok sc_Row_capacities (fun vs H Q E h => by
    repeat (first | (obtain ⟨rfl, _⟩ := h; rfl) | obtain ⟨_, h⟩ := h)) D
theorem dfn_Row_eq (T : Tx K mg c_Row c_Walk c_BadCapacity c_ScoopError) (R_Row : RowC K c_Row) (Z_Row : RowK K c_Row) {f : Addr} {fd : FuncData} {dv : List V} (F : FunD K "__eq__" "Row.__eq__" (defArgs s_Row_eq) (defBody s_Row_eq) (defScope s_Row_eq) dv [] f fd) :
    FnOk P w K mg base CX0 1 f fd ["self", "other"] (spRowEq K c_Row) := by
  have D : ∀ (cdv : Value) (A : Around) (outer : List Env) (s : Shared) (H : Hp) (vs : List V) (Q : VK) (E : XK), Room 0 (A.deeper (envOfC "Row.__eq__" (defScope s_Row_eq) s.heap.objs.size f cdv)) → (spRowEq K c_Row) vs H Q E →
      ∃ t, PSs (cxOf CX0 P w K mg base ["self", "other"] "Row.__eq__" (defScope s_Row_eq) f cdv A outer s H E) (defBody s_Row_eq) t ∧ t { nx := fun _ H' => Q .non H', rt := Q } (start ["self", "other"] vs) H := by
    intro cdv A outer s H vs Q E hr h
    refine ⟨t_Row_eq K c_Row, PSs.nox ?_, pure_row_eq R_Row Z_Row vs H Q E h⟩
    exact pss_one (ps_ret (pe_and (pe_callB call_isi (by rfl) T.n_isinstance PyProof.Rows.boot_isinstance (pa_cons (pv 1) (pa_cons (pe_gl (by rfl) ⟨_, T.g_Row, rfl⟩) pa_nil))) (pe_and (pe_cmpR (op_eqD hr.units) (pe_fld (pv 0) rfl) (pe_fld (pv 1) rfl) (nomark _)) (pe_one (pe_cmpR (op_eqD hr.units) (pe_fld (pv 0) rfl) (pe_fld (pv 1) rfl) (nomark _))))))
  exact F.ok sc_Row_eq (fun vs H Q E h => by
    repeat (first | (obtain ⟨rfl, _⟩ := h; rfl) | obtain ⟨_, h⟩ := h)) D
theorem dfn_is_capacity (T : Tx K mg c_Row c_Walk c_BadCapacity c_ScoopError) (C_is_between : Kn P w K mg base CX0 2 "is_between" ["value", "low", "high"] (spBetween K)) {f : Addr} {fd : FuncData} (F : FunD K "is_capacity" "is_capacity" (defArgs s_is_capacity) (defBody s_is_capacity) (defScope s_is_capacity) [] [] f fd) :
    FnOk P w K mg base CX0 3 f fd ["value"] (spCapacity K) := by
  have D : ∀ (cdv : Value) (A : Around) (outer : List Env) (s : Shared) (H : Hp) (vs : List V) (Q : VK) (E : XK), Room 2 (A.deeper (envOfC "is_capacity" (defScope s_is_capacity) s.heap.objs.size f cdv)) → (spCapacity K) vs H Q E →
      ∃ t, PSs (cxOf CX0 P w K mg base ["value"] "is_capacity" (defScope s_is_capacity) f cdv A outer s H E) (defBody s_is_capacity) t ∧ t { nx := fun _ H' => Q .non H', rt := Q } (start ["value"] vs) H := by
    intro cdv A outer s H vs Q E hr h
    refine ⟨t_is_capacity K, PSs.nox ?_, pure_is_capacity vs H Q E h⟩
    exact pss_one (ps_ret (pe_k C_is_between hr (by decide) rfl pass0 (pa_cons (pv 0) (pa_cons (pe_int) (pa_cons (pe_gl (by rfl) T.c_GREATEST_CAPACITY) (pa_nil))))))
  exact F.ok sc_is_capacity (fun vs H Q E h => by
    repeat (first | (obtain ⟨rfl, _⟩ := h; rfl) | obtain ⟨_, h⟩ := h)) D
theorem dfn_are_carriers (T : Tx K mg c_Row c_Walk c_BadCapacity c_ScoopError) (C_is_capacity : Kn P w K mg base CX0 3 "is_capacity" ["value"] (spCapacity K)) {f : Addr} {fd : FuncData} (F : FunD K "_are_carriers" "_are_carriers" (defArgs s_are_carriers) (defBody s_are_carriers) (defScope s_are_carriers) [] [] f fd) :
    FnOk P w K mg base CX0 4 f fd ["value"] (spAreCarriers29 K) := by
  have D : ∀ (cdv : Value) (A : Around) (outer : List Env) (s : Shared) (H : Hp) (vs : List V) (Q : VK) (E : XK), Room 3 (A.deeper (envOfC "_are_carriers" (defScope s_are_carriers) s.heap.objs.size f cdv)) → (spAreCarriers29 K) vs H Q E →
      ∃ t, PSs (cxOf CX0 P w K mg base ["value", "capacity"] "_are_carriers" (defScope s_are_carriers) f cdv A outer s H E) (defBody s_are_carriers) t ∧ t { nx := fun _ H' => Q .non H', rt := Q } (start ["value", "capacity"] vs) H := by
    intro cdv A outer s H vs Q E hr h
    refine ⟨t_are_carriers K, PSs.nox ?_, pure_are_carriers29 vs H Q E h⟩
    exact pss_cons (ps_if (PW.pt (pw_or (pt_not (pt_val (pe_callB call_isiT (by rfl) T.n_isinstance PyProof.Rows.boot_isinstance (pa_cons (pv 0) (pa_cons (pe_tup (pa_cons (pe_bltn (v := .ty "list") (by rfl) T.n_list (by decide +kernel) rfl) (pa_cons (pe_bltn (v := .ty "tuple") (by rfl) T.n_tuple (by decide +kernel) rfl) (pa_nil)))) pa_nil))))) (pw_or1 (pt_not (pt_chain op_le op_le (pe_int) (pe_callB call_len_seq (by rfl) T.n_len PySem.boot_len (pa_cons (pv 0) (pa_nil))) (pe_gl (by rfl) T.c_MOST_CARRIERS))))))
      (pss_one (ps_ret (pe_bl)))
      (pss_nil))
      (pss_one (ps_ret (pe_callB (cr_all rfl) (by rfl) T.n_all (by decide +kernel) (pa_cons (pe_lc (own := [("capacity", 1)]) (g := gName 1) (tt := tYes) rfl sc_are_carriers.nd (pi_or (pi_list (pv 0)) (pi_tup (pv 0))) (blkOk_by (own := [("capacity", 1)]) (N := ["value", "capacity"]) (sc := defScope s_are_carriers) (by decide +kernel)) (fun _ _ _ _ _ => pg_name (i := 1) sc_are_carriers.nd rfl (Or.inl rfl)) (fun _ _ _ _ _ => pts_nil) (fun _ _ _ _ _ => pe_k C_is_capacity hr (by decide) rfl pass0 (pa_cons (pv 1) (pa_nil)))) (pa_nil)))))
  exact F.ok sc_are_carriers (fun vs H Q E h => by
    repeat (first | (obtain ⟨rfl, _⟩ := h; rfl) | obtain ⟨_, h⟩ := h)) D
theorem dfn_first_index (T : Tx K mg c_Row c_Walk c_BadCapacity c_ScoopError) (C_contents : Prp P w K mg base 1 c_Row "contents" (spContents K c_Row)) (C_capacities : Prp P w K mg base 1 c_Row "capacities" (spCapacities K c_Row)) {f : Addr} {fd : FuncData} (F : FunD K "_first_index" "_first_index" (defArgs s_first_index) (defBody s_first_index) (defScope s_first_index) [] [] f fd) :
    FnOk P w K mg base CX0 3 f fd ["row"] (spFirst29 K c_Row) := by
  have D : ∀ (cdv : Value) (A : Around) (outer : List Env) (s : Shared) (H : Hp) (vs : List V) (Q : VK) (E : XK), Room 2 (A.deeper (envOfC "_first_index" (defScope s_first_index) s.heap.objs.size f cdv)) → (spFirst29 K c_Row) vs H Q E →
      ∃ t, PSs (cxOf CX0 P w K mg base ["row", "index", "_"] "_first_index" (defScope s_first_index) f cdv A outer s H E) (defBody s_first_index) t ∧ t { nx := fun _ H' => Q .non H', rt := Q } (start ["row", "index", "_"] vs) H := by
    intro cdv A outer s H vs Q E hr h
    refine ⟨t_first_index K c_Row, PSs.nox ?_, pure_first29 vs H Q E h⟩
    exact pss_one (ps_ret (pe_callBK (cr_minDf rfl) (by rfl) T.n_min (by decide +kernel) (pa_cons (pe_lc (own := [("index", 1), ("_", 2)]) (g := gTup K 2 (gCons (gName 1) (gCons (gName 2) (gNil)))) (tt := tYes) rfl sc_first_index.nd (pi_tup (pe_op op_catA (pe_pr C_contents hr (by decide) (pv 0)) (pe_pr C_capacities hr (by decide) (pv 0)))) (blkOk_by (own := [("index", 1), ("_", 2)]) (N := ["row", "index", "_"]) (sc := defScope s_first_index) (by decide +kernel)) (fun _ _ _ _ _ => pg_tup rfl (pgs_cons (pg_name (i := 1) sc_first_index.nd rfl (Or.inl rfl)) (pgs_cons (pg_name (i := 2) sc_first_index.nd rfl (Or.inl rfl)) (pgs_nil)))) (fun _ _ _ _ _ => pts_nil) (fun _ _ _ _ _ => pv 1)) (pa_nil)) (pk_cons (pe_int) pk_nil)))
  exact F.ok sc_first_index (fun vs H Q E h => by
    repeat (first | (obtain ⟨rfl, _⟩ := h; rfl) | obtain ⟨_, h⟩ := h)) D
theorem dfn_Walk_init (T : Tx K mg c_Row c_Walk c_BadCapacity c_ScoopError) (C_are_carriers : Kn P w K mg base CX0 4 "_are_carriers" ["value"] (spAreCarriers29 K)) (C_first_index : Kn P w K mg base CX0 3 "_first_index" ["row"] (spFirst29 K c_Row)) (C_contents : Prp P w K mg base 1 c_Row "contents" (spContents K c_Row)) (R_Walk : WalkC K c_Walk) {f : Addr} {fd : FuncData} {dv : List V} (F : FunD K "__init__" "Walk.__init__" (defArgs s_Walk_init) (defBody s_Walk_init) (defScope s_Walk_init) dv [] f fd) :
    FnOk P w K mg base (L2.CX P w) 5 f fd ["self", "row", "capacities"] (spWalkInitX K c_Walk c_Row c_BadCapacity) := by
  have D : ∀ (cdv : Value) (A : Around) (outer : List Env) (s : Shared) (H : Hp) (vs : List V) (Q : VK) (E : XK), Room 4 (A.deeper (envOfC "Walk.__init__" (defScope s_Walk_init) s.heap.objs.size f cdv)) → (spWalkInitX K c_Walk c_Row c_BadCapacity) vs H Q E →
      ∃ t, PSs (cxOf (L2.CX P w) P w K mg base ["self", "row", "capacities", "start", "capacity"] "Walk.__init__" (defScope s_Walk_init) f cdv A outer s H E) (defBody s_Walk_init) t ∧ t { nx := fun _ H' => Q .non H', rt := Q } (start ["self", "row", "capacities", "start", "capacity"] vs) H := by
    intro cdv A outer s H vs Q E hr h
    refine ⟨t_Walk_initX K c_BadCapacity c_Row E, ?_, pure_walk_initX R_Walk vs H Q E h⟩
    exact pss_cons (ps_if (pt_not (pt_val (pe_k C_are_carriers hr (by decide) rfl pass0 (pa_cons (pv 2) (pa_nil)))))
      (pss_one (ps_raise rfl (takes_of rfl rfl rfl rfl) (pmk_own PySem.F.excBase_ValueError T.x_BadCapacity T.g_BadCapacity T.k_BadCapacity (raises_own T.s_BadCapacity T.t_BadCapacity) (by exact rfl))))
      (pss_nil))
      (pss_cons (ps_set (i := 3) sc_Walk_init.nd rfl (Or.inr rfl) (pe_k C_first_index hr (by decide) rfl pass0 (pa_cons (pv 1) (pa_nil))))
      (pss_cons (ps_fld (pv 0) (pv 1) rfl)
      (pss_cons (ps_fld (pv 0) (pe_callTy (cr_or (call_dictP rfl) (cr_dictPT rfl)) (by rfl) T.n_dict (by decide +kernel) (pa_cons (pe_pr C_contents hr (by decide) (pv 1)) (pa_nil))) rfl)
      (pss_one (ps_fld (pv 0) (pe_lc (own := [("capacity", 4)]) (g := gName 4) (tt := tYes) rfl sc_Walk_init.nd (pi_or (pi_list (pv 2)) (pi_tup (pv 2))) (blkOk_by (own := [("capacity", 4)]) (N := ["self", "row", "capacities", "start", "capacity"]) (sc := defScope s_Walk_init) (by decide +kernel)) (fun _ _ _ _ _ => pg_name (i := 4) sc_Walk_init.nd rfl (Or.inl rfl)) (fun _ _ _ _ _ => pts_nil) (fun _ _ _ _ _ => pe_tup (pa_cons (pv 3) (pa_cons (pv 4) (pa_cons (pe_int) (pa_nil)))))) rfl)))))
  exact F.ok sc_Walk_init (fun vs H Q E h => by
    repeat (first | (obtain ⟨rfl, _⟩ := h; rfl) | obtain ⟨_, h⟩ := h)) D
theorem dfn_Walk_at (T : Tx K mg c_Row c_Walk c_BadCapacity c_ScoopError) (C_is_between : Kn P w K mg base CX0 2 "is_between" ["value", "low", "high"] (spBetween K)) (R_Walk : WalkC K c_Walk) {f : Addr} {fd : FuncData} {dv : List V} (F : FunD K "at" "Walk.at" (defArgs s_Walk_at) (defBody s_Walk_at) (defScope s_Walk_at) dv [] f fd) :
    FnOk P w K mg base CX0 4 f fd ["self", "k"] (spWAt K c_Walk c_Row) := by
  have D : ∀ (cdv : Value) (A : Around) (outer : List Env) (s : Shared) (H : Hp) (vs : List V) (Q : VK) (E : XK), Room 3 (A.deeper (envOfC "Walk.at" (defScope s_Walk_at) s.heap.objs.size f cdv)) → (spWAt K c_Walk c_Row) vs H Q E →
      ∃ t, PSs (cxOf CX0 P w K mg base ["self", "k"] "Walk.at" (defScope s_Walk_at) f cdv A outer s H E) (defBody s_Walk_at) t ∧ t { nx := fun _ H' => Q .non H', rt := Q } (start ["self", "k"] vs) H := by
    intro cdv A outer s H vs Q E hr h
    refine ⟨t_Walk_at K, PSs.nox ?_, pure_w_at R_Walk vs H Q E h⟩
    exact pss_cons (ps_if (pt_not (pt_val (pe_k C_is_between hr (by decide) rfl pass0 (pa_cons (pv 1) (pa_cons (pe_int) (pa_cons (pe_op op_sub (pe_callB call_len_seq (by rfl) T.n_len PySem.boot_len (pa_cons (pe_fld (pv 0) rfl) (pa_nil))) (pe_int)) (pa_nil)))))))
      (pss_one (ps_no))
      (pss_nil))
      (pss_one (ps_ret (pe_ix ix_list (pe_fld (pv 0) rfl) (pv 1) (fun _ _ => rfl))))
  exact F.ok sc_Walk_at (fun vs H Q E h => by
    repeat (first | (obtain ⟨rfl, _⟩ := h; rfl) | obtain ⟨_, h⟩ := h)) D
theorem dfn_Walk_now (T : Tx K mg c_Row c_Walk c_BadCapacity c_ScoopError) (C_Row : C8.Mak P w K mg base 5 "Row" c_Row (spRowInit K c_Row) []) (C_capacities : Prp P w K mg base 1 c_Row "capacities" (spCapacities K c_Row)) (R_Walk : WalkC K c_Walk) {f : Addr} {fd : FuncData} {dv : List V} (F : FunD K "now" "Walk.now" (defArgs s_Walk_now) (defBody s_Walk_now) (defScope s_Walk_now) dv [] f fd) :
    FnOk P w K mg base CX0 8 f fd ["self"] (spWNow29 K c_Walk c_Row) := by
  have D : ∀ (cdv : Value) (A : Around) (outer : List Env) (s : Shared) (H : Hp) (vs : List V) (Q : VK) (E : XK), Room 7 (A.deeper (envOfC "Walk.now" (defScope s_Walk_now) s.heap.objs.size f cdv)) → (spWNow29 K c_Walk c_Row) vs H Q E →
      ∃ t, PSs (cxOf CX0 P w K mg base ["self", "contents", "index", "count"] "Walk.now" (defScope s_Walk_now) f cdv A outer s H E) (defBody s_Walk_now) t ∧ t { nx := fun _ H' => Q .non H', rt := Q } (start ["self", "contents", "index", "count"] vs) H := by
    intro cdv A outer s H vs Q E hr h
    refine ⟨t_Walk_now K c_Row, PSs.nox ?_, pure_w_now29 R_Walk vs H Q E h⟩
    exact pss_cons (ps_lock (ps_setLc (i := 1) (own := [("index", 2), ("count", 3)]) (g := gTup K 2 (gCons (gName 2) (gCons (gName 3) (gNil)))) (tt := tTest (tOp qGt (tVar 3) (tC (.int 0)))) rfl sc_Walk_now.nd rfl rfl (sw_true rfl rfl rfl (by decide +kernel)) (pi_items (pe_fld (pv 0) rfl)) (blkOk_by (own := [("index", 2), ("count", 3)]) (N := ["self", "contents", "index", "count"]) (sc := defScope s_Walk_now) (by decide +kernel)) (fun _ _ _ _ _ => pg_tup rfl (pgs_cons (pg_name (i := 2) sc_Walk_now.nd rfl (Or.inl rfl)) (pgs_cons (pg_name (i := 3) sc_Walk_now.nd rfl (Or.inl rfl)) (pgs_nil)))) (fun _ _ _ _ _ => pts_one (pt_cmpR op_gt (pv 3) (pe_int) (nomark _))) (fun _ _ _ _ _ => pe_tup (pa_cons (pv 2) (pa_cons (pv 3) (pa_nil))))))
      (pss_one (ps_ret (C8.pe_mk C_Row hr (by decide) (by rfl) (pa_cons (pv 1) (pa_cons (pe_pr C_capacities hr (by decide) (pe_fld (pv 0) rfl)) (pa_nil))))))
  exact F.ok sc_Walk_now (fun vs H Q E h => by
    repeat (first | (obtain ⟨rfl, _⟩ := h; rfl) | obtain ⟨_, h⟩ := h)) D
theorem dfn_begun (T : Tx K mg c_Row c_Walk c_BadCapacity c_ScoopError) {f : Addr} {fd : FuncData} (F : FunD K "_law_begun" "_law_begun" (defArgs s_begun) (defBody s_begun) (defScope s_begun) [] [] f fd) :
    FnOk P w K mg base CX0 1 f fd ["script"] (spBegun K) := by
  have D : ∀ (cdv : Value) (A : Around) (outer : List Env) (s : Shared) (H : Hp) (vs : List V) (Q : VK) (E : XK), Room 0 (A.deeper (envOfC "_law_begun" (defScope s_begun) s.heap.objs.size f cdv)) → (spBegun K) vs H Q E →
      ∃ t, PSs (cxOf CX0 P w K mg base ["script", "wide", "cell"] "_law_begun" (defScope s_begun) f cdv A outer s H E) (defBody s_begun) t ∧ t { nx := fun _ H' => Q .non H', rt := Q } (start ["script", "wide", "cell"] vs) H := by
    intro cdv A outer s H vs Q E hr h
    refine ⟨t_begun K, PSs.nox ?_, pure_begun vs H Q E h⟩
    exact pss_cons (ps_setLc (i := 1) (own := [("cell", 2)]) (g := gName 2) (tt := tTest (tOp qGe (tVar 2) (tOp qPow (tC (.int 10)) (tC (.int 18))))) rfl sc_begun.nd rfl rfl (sw_true rfl rfl rfl (by decide +kernel)) (pi_list (pv 0)) (blkOk_by (own := [("cell", 2)]) (N := ["script", "wide", "cell"]) (sc := defScope s_begun) (by decide +kernel)) (fun _ _ _ _ _ => pg_name (i := 2) sc_begun.nd rfl (Or.inl rfl)) (fun _ _ _ _ _ => pts_one (pt_cmpR op_ge (pv 2) (pe_op op_pow (pe_int) (pe_int)) (nomark _))) (fun _ _ _ _ _ => pe_op op_sub (pv 2) (pe_op op_pow (pe_int) (pe_int))))
      (pss_one (ps_ret (pe_disp (pps_cons (pe_str) (pv 1) (pps_cons (pe_str) (pe_callTy call_list_of (by rfl) T.n_list (by decide +kernel) (pa_cons (pv 0) (pa_nil))) (pps_cons (pe_str) (pe_int) (pps_cons (pe_str) (pe_int) (pps_nil))))) (by rfl) (by rfl) (fun z => by cases z) (by decide))))
  exact F.ok sc_begun (fun vs H Q E h => by
    repeat (first | (obtain ⟨rfl, _⟩ := h; rfl) | obtain ⟨_, h⟩ := h)) D
theorem dfn_mixed (T : Tx K mg c_Row c_Walk c_BadCapacity c_ScoopError) {f : Addr} {fd : FuncData} (F : FunD K "_law_mixed" "_law_mixed" (defArgs s_mixed) (defBody s_mixed) (defScope s_mixed) [] [] f fd) :
    FnOk P w K mg base CX0 1 f fd ["state"] spMixed := by
  have D : ∀ (cdv : Value) (A : Around) (outer : List Env) (s : Shared) (H : Hp) (vs : List V) (Q : VK) (E : XK), Room 0 (A.deeper (envOfC "_law_mixed" (defScope s_mixed) s.heap.objs.size f cdv)) → spMixed vs H Q E →
      ∃ t, PSs (cxOf CX0 P w K mg base ["state", "turn", "found", "prime", "blend", "cell"] "_law_mixed" (defScope s_mixed) f cdv A outer s H E) (defBody s_mixed) t ∧ t { nx := fun _ H' => Q .non H', rt := Q } (start ["state", "turn", "found", "prime", "blend", "cell"] vs) H := by
    intro cdv A outer s H vs Q E hr h
    refine ⟨t_mixed K, PSs.nox ?_, pure_mixed vs H Q E h⟩
    exact pss_cons (ps_set (i := 1) sc_mixed.nd rfl (Or.inl rfl) (pe_op op_add (pe_dget (hu_of hr) (pv 0) (pe_str) (fun _ _ => rfl)) (pe_int)))
      (pss_cons (ps_dput (hu_of hr) (pv 0) (pe_str) (pv 1) rfl)
      (pss_cons (ps_set (i := 2) sc_mixed.nd rfl (Or.inl rfl) (pe_int))
      (pss_cons (ps_for PassesOwn.never rfl (pi_list (pe_lst (pa_cons (pe_int) (pa_cons (pe_int) (pa_cons (pe_int) (pa_cons (pe_int) (pa_cons (pe_int) (pa_cons (pe_int) (pa_nil))))))))) (pg_name (i := 3) sc_mixed.nd rfl (Or.inl rfl))
      (pss_cons (ps_set (i := 4) sc_mixed.nd rfl (Or.inl rfl) (pe_op op_add (pe_op op_mul (pe_int) (pv 1)) (pe_op op_fdivN (pv 3) (pe_int))))
      (pss_cons (ps_for PassesOwn.never rfl (pi_list (pe_dget (hu_of hr) (pv 0) (pe_str) (fun _ _ => rfl))) (pg_name (i := 5) sc_mixed.nd rfl (Or.inl rfl))
      (pss_one (ps_set (i := 4) sc_mixed.nd rfl (Or.inl rfl) (pe_op op_modN (pe_callTy call_int1 (by rfl) T.n_int (by decide +kernel) (pa_cons (pe_op op_add (pe_op op_mul (pv 4) (pe_int)) (pv 5)) (pa_nil))) (pv 3)))))
      (pss_one (ps_set (i := 2) sc_mixed.nd rfl (Or.inl rfl) (pe_op op_add (pe_op op_mul (pv 2) (pe_int)) (pe_op op_modN (pe_callTy call_int1 (by rfl) T.n_int (by decide +kernel) (pa_cons (pe_op op_pow (pv 4) (pe_int)) (pa_nil))) (pv 3))))))))
      (pss_one (ps_ret (pv 2))))))
  exact F.ok sc_mixed (fun vs H Q E h => by
    repeat (first | (obtain ⟨rfl, _⟩ := h; rfl) | obtain ⟨_, h⟩ := h)) D
theorem dfn_take (T : Tx K mg c_Row c_Walk c_BadCapacity c_ScoopError) (C_mixed : Kn P w K mg base CX0 1 "_law_mixed" ["state"] spMixed) {f : Addr} {fd : FuncData} (F : FunD K "_law_take" "_law_take" (defArgs s_take) (defBody s_take) (defScope s_take) [] [] f fd) :
    FnOk P w K mg base CX0 2 f fd ["state", "size"] spTake := by
  have D : ∀ (cdv : Value) (A : Around) (outer : List Env) (s : Shared) (H : Hp) (vs : List V) (Q : VK) (E : XK), Room 1 (A.deeper (envOfC "_law_take" (defScope s_take) s.heap.objs.size f cdv)) → spTake vs H Q E →
      ∃ t, PSs (cxOf CX0 P w K mg base ["state", "size", "found"] "_law_take" (defScope s_take) f cdv A outer s H E) (defBody s_take) t ∧ t { nx := fun _ H' => Q .non H', rt := Q } (start ["state", "size", "found"] vs) H := by
    intro cdv A outer s H vs Q E hr h
    refine ⟨t_take K, PSs.nox ?_, pure_take vs H Q E h⟩
    exact pss_cons (ps_if (PW.pt (pw_and (pt_cmpR op_eq (pe_dget (hu_of hr) (pv 0) (pe_str) (fun _ _ => rfl)) (pe_int) (nomark _)) (pw_and1 (pt_cmpR (op_neD hr.units) (pe_dget (hu_of hr) (pv 0) (pe_str) (fun _ _ => rfl)) (pe_lst (pa_nil)) (nomark _)))))
      (pss_one (ps_dput (hu_of hr) (pv 0) (pe_str) (pe_bm PySem.F.plainAttrs_list PySem.F.slot_list_pop PySem.F.type_list_pop mt_popAt (pe_dget (hu_of hr) (pv 0) (pe_str) (fun _ _ => rfl)) (pa_cons (pe_int) (pa_nil))) rfl))
      (pss_one (ps_if (pt_cmpR op_eq (pe_dget (hu_of hr) (pv 0) (pe_str) (fun _ _ => rfl)) (pe_int) (nomark _))
      (pss_one (ps_dput (hu_of hr) (pv 0) (pe_str) (pe_k C_mixed hr (by decide) rfl pass0 (pa_cons (pv 0) (pa_nil))) rfl))
      (pss_nil))))
      (pss_cons (ps_set (i := 2) sc_take.nd rfl (Or.inl rfl) (pe_op op_modN (pe_callTy call_int1 (by rfl) T.n_int (by decide +kernel) (pa_cons (pe_dget (hu_of hr) (pv 0) (pe_str) (fun _ _ => rfl)) (pa_nil))) (pv 1)))
      (pss_cons (ps_dput (hu_of hr) (pv 0) (pe_str) (pe_op op_fdivN (pe_dget (hu_of hr) (pv 0) (pe_str) (fun _ _ => rfl)) (pv 1)) rfl)
      (pss_one (ps_ret (pv 2)))))
  exact F.ok sc_take (fun vs H Q E h => by
    repeat (first | (obtain ⟨rfl, _⟩ := h; rfl) | obtain ⟨_, h⟩ := h)) D
theorem dfn_pick (T : Tx K mg c_Row c_Walk c_BadCapacity c_ScoopError) (C_take : Kn P w K mg base CX0 2 "_law_take" ["state", "size"] spTake) {f : Addr} {fd : FuncData} (F : FunD K "_law_pick" "_law_pick" (defArgs s_pick) (defBody s_pick) (defScope s_pick) [] [] f fd) :
    FnOk P w K mg base CX0 3 f fd ["state", "some"] (spPick K) := by
  have D : ∀ (cdv : Value) (A : Around) (outer : List Env) (s : Shared) (H : Hp) (vs : List V) (Q : VK) (E : XK), Room 2 (A.deeper (envOfC "_law_pick" (defScope s_pick) s.heap.objs.size f cdv)) → (spPick K) vs H Q E →
      ∃ t, PSs (cxOf CX0 P w K mg base ["state", "some"] "_law_pick" (defScope s_pick) f cdv A outer s H E) (defBody s_pick) t ∧ t { nx := fun _ H' => Q .non H', rt := Q } (start ["state", "some"] vs) H := by
    intro cdv A outer s H vs Q E hr h
    refine ⟨t_pick K, PSs.nox ?_, pure_pick vs H Q E h⟩
    exact pss_one (ps_ret (pe_ix ix_list (pv 1) (pe_k C_take hr (by decide) rfl pass0 (pa_cons (pv 0) (pa_cons (pe_callB call_len_seq (by rfl) T.n_len PySem.boot_len (pa_cons (pv 1) (pa_nil))) (pa_nil)))) (fun _ _ => rfl)))
  exact F.ok sc_pick (fun vs H Q E h => by
    repeat (first | (obtain ⟨rfl, _⟩ := h; rfl) | obtain ⟨_, h⟩ := h)) D
theorem dfn_sizes (T : Tx K mg c_Row c_Walk c_BadCapacity c_ScoopError) (C_take : Kn P w K mg base CX0 2 "_law_take" ["state", "size"] spTake) (C_pick : Kn P w K mg base CX0 3 "_law_pick" ["state", "some"] (spPick K)) {f : Addr} {fd : FuncData} (F : FunD K "_law_sizes" "_law_sizes" (defArgs s_sizes) (defBody s_sizes) (defScope s_sizes) [] [] f fd) :
    FnOk P w K mg base CX0 4 f fd ["state", "most"] (spSizes K) := by
  have D : ∀ (cdv : Value) (A : Around) (outer : List Env) (s : Shared) (H : Hp) (vs : List V) (Q : VK) (E : XK), Room 3 (A.deeper (envOfC "_law_sizes" (defScope s_sizes) s.heap.objs.size f cdv)) → (spSizes K) vs H Q E →
      ∃ t, PSs (cxOf CX0 P w K mg base ["state", "most", "found", "turn", "place"] "_law_sizes" (defScope s_sizes) f cdv A outer s H E) (defBody s_sizes) t ∧ t { nx := fun _ H' => Q .non H', rt := Q } (start ["state", "most", "found", "turn", "place"] vs) H := by
    intro cdv A outer s H vs Q E hr h
    refine ⟨t_sizes K, PSs.nox ?_, pure_sizes vs H Q E h⟩
    exact pss_cons (ps_set (i := 2) sc_sizes.nd rfl (Or.inr rfl) (pe_dnewK))
      (pss_cons (ps_for PassesOwn.never rfl (pi_range1 rfl T.n_range (pa_cons (pe_k C_take hr (by decide) rfl pass0 (pa_cons (pv 0) (pa_cons (pe_op op_add (pv 1) (pe_int)) (pa_nil)))) (pa_nil))) (pg_name (i := 3) sc_sizes.nd rfl (Or.inl rfl))
      (pss_one (ps_dput (hu_of hr) (pv 2) (pe_k C_pick hr (by decide) rfl pass0 (pa_cons (pv 0) (pa_cons (pe_lst (pa_cons (pe_op op_sub (pe_k C_take hr (by decide) rfl pass0 (pa_cons (pv 0) (pa_cons (pe_int) (pa_nil)))) (pe_int)) (pa_cons (pe_op op_sub (pe_k C_take hr (by decide) rfl pass0 (pa_cons (pv 0) (pa_cons (pe_int) (pa_nil)))) (pe_int)) (pa_cons (pe_int) (pa_cons (pe_un un_neg (pe_int)) (pa_nil)))))) (pa_nil)))) (pe_op op_add (pe_int) (pe_k C_take hr (by decide) rfl pass0 (pa_cons (pv 0) (pa_cons (pe_int) (pa_nil))))) rfl)))
      (pss_one (ps_ret (pe_callTy (call_dictP rfl) (by rfl) T.n_dict (by decide +kernel) (pa_cons (pe_lc (own := [("place", 4)]) (g := gName 4) (tt := tYes) rfl sc_sizes.nd (pi_list (pe_callB (call_sortedDI rfl) (by rfl) T.n_sorted (by decide +kernel) (pa_cons (pv 2) (pa_nil)))) (blkOk_by (own := [("place", 4)]) (N := ["state", "most", "found", "turn", "place"]) (sc := defScope s_sizes) (by decide +kernel)) (fun _ _ _ _ _ => pg_name (i := 4) sc_sizes.nd rfl (Or.inl rfl)) (fun _ _ _ _ _ => pts_nil) (fun _ _ _ _ _ => pe_tup (pa_cons (pv 4) (pa_cons (pe_dget (hu_of hr) (pv 2) (pv 4) (fun _ _ => rfl)) (pa_nil))))) (pa_nil))))))
  exact F.ok sc_sizes (fun vs H Q E h => by
    repeat (first | (obtain ⟨rfl, _⟩ := h; rfl) | obtain ⟨_, h⟩ := h)) D
theorem dfn_boxes (T : Tx K mg c_Row c_Walk c_BadCapacity c_ScoopError) (C_take : Kn P w K mg base CX0 2 "_law_take" ["state", "size"] spTake) (C_pick : Kn P w K mg base CX0 3 "_law_pick" ["state", "some"] (spPick K)) {f : Addr} {fd : FuncData} (F : FunD K "_law_boxes" "_law_boxes" (defArgs s_boxes) (defBody s_boxes) (defScope s_boxes) [] [] f fd) :
    FnOk P w K mg base CX0 4 f fd ["state", "sizes", "most"] (spBoxes K) := by
  have D : ∀ (cdv : Value) (A : Around) (outer : List Env) (s : Shared) (H : Hp) (vs : List V) (Q : VK) (E : XK), Room 3 (A.deeper (envOfC "_law_boxes" (defScope s_boxes) s.heap.objs.size f cdv)) → (spBoxes K) vs H Q E →
      ∃ t, PSs (cxOf CX0 P w K mg base ["state", "sizes", "most", "place", "found", "spare", "turn", "step", "amount"] "_law_boxes" (defScope s_boxes) f cdv A outer s H E) (defBody s_boxes) t ∧ t { nx := fun _ H' => Q .non H', rt := Q } (start ["state", "sizes", "most", "place", "found", "spare", "turn", "step", "amount"] vs) H := by
    intro cdv A outer s H vs Q E hr h
    refine ⟨t_boxes K, PSs.nox ?_, pure_boxes vs H Q E h⟩
    exact pss_cons (ps_asg (pe_tup (pa_cons (pe_k C_pick hr (by decide) rfl pass0 (pa_cons (pv 0) (pa_cons (pe_lst (pa_cons (pe_int) (pa_cons (pe_int) (pa_cons (pe_un un_neg (pe_int)) (pa_cons (pe_un un_neg (pe_int)) (pa_cons (pe_int) (pa_cons (pe_op op_pow (pe_int) (pe_int)) (pa_cons (pe_un un_neg (pe_op op_pow (pe_int) (pe_int))) (pa_nil))))))))) (pa_nil)))) (pa_cons (pe_dnewK) (pa_cons (pv 2) (pa_nil))))) (pg_tup rfl (pgs_cons (pg_name (i := 3) sc_boxes.nd rfl (Or.inl rfl)) (pgs_cons (pg_name (i := 4) sc_boxes.nd rfl (Or.inr rfl)) (pgs_cons (pg_name (i := 5) sc_boxes.nd rfl (Or.inl rfl)) (pgs_nil))))))
      (pss_cons (ps_for PassesOwn.never rfl (pi_range1 rfl T.n_range (pa_cons (pe_k C_take hr (by decide) rfl pass0 (pa_cons (pv 0) (pa_cons (pe_int) (pa_nil)))) (pa_nil))) (pg_name (i := 6) sc_boxes.nd rfl (Or.inl rfl))
      (pss_cons (ps_for PassesOwn.never rfl (pi_range1 rfl T.n_range (pa_cons (pe_op op_add (pe_int) (pe_k C_take hr (by decide) rfl pass0 (pa_cons (pv 0) (pa_cons (pe_int) (pa_nil))))) (pa_nil))) (pg_name (i := 7) sc_boxes.nd rfl (Or.inl rfl))
      (pss_cons (ps_set (i := 8) sc_boxes.nd rfl (Or.inl rfl) (pe_callB (call_min2 rfl) (by rfl) T.n_min (by decide +kernel) (pa_cons (pv 5) (pa_cons (pe_op op_add (pe_int) (pe_k C_take hr (by decide) rfl pass0 (pa_cons (pv 0) (pa_cons (pe_dget2 (hu_of hr) (pv 1) (pv 3) (pe_int) ⟨rfl, rfl, rfl, rfl⟩) (pa_nil))))) (pa_nil)))))
      (pss_cons (ps_if (pt_cmpR op_gt (pv 8) (pe_int) (nomark _))
      (pss_one (ps_dput (hu_of hr) (pv 4) (pv 3) (pv 8) rfl))
      (pss_nil))
      (pss_one (ps_par (by rfl) sc_boxes.nd rfl rfl (by decide) rfl rfl (pa_cons (pe_op op_sub (pv 5) (pv 8)) (pa_cons (pe_op op_add (pv 3) (pe_int)) (pa_nil))) (by rfl))))))
      (pss_one (ps_set (i := 3) sc_boxes.nd rfl (Or.inl rfl) (pe_op op_add (pv 3) (pe_k C_pick hr (by decide) rfl pass0 (pa_cons (pv 0) (pa_cons (pe_lst (pa_cons (pe_int) (pa_cons (pe_int) (pa_cons (pe_int) (pa_cons (pe_int) (pa_cons (pe_int) (pa_cons (pe_int) (pa_cons (pe_op op_pow (pe_int) (pe_int)) (pa_nil))))))))) (pa_nil)))))))))
      (pss_cons (ps_lock (ps_for PassesOwn.never rfl (pi_keys (pv 1)) (pg_name (i := 3) sc_boxes.nd rfl (Or.inl rfl))
      (pss_cons (ps_set (i := 8) sc_boxes.nd rfl (Or.inl rfl) (pe_callB (call_min2 rfl) (by rfl) T.n_min (by decide +kernel) (pa_cons (pv 5) (pa_cons (pe_k C_take hr (by decide) rfl pass0 (pa_cons (pv 0) (pa_cons (pe_op op_add (pe_dget (hu_of hr) (pv 1) (pv 3) (fun _ _ => rfl)) (pe_int)) (pa_nil)))) (pa_nil)))))
      (pss_one (ps_if (PW.pt (pw_and (pt_cmp (pc_dnotin (hu_of hr) (pv 3) (pv 4))) (pw_and1 (pt_cmpR op_gt (pv 8) (pe_int) (nomark _)))))
      (pss_one (ps_asg (pe_tup (pa_cons (pv 8) (pa_cons (pe_op op_sub (pv 5) (pv 8)) (pa_nil)))) (pg_tup rfl (pgs_cons (pg_sub (pv 4) (pv 3) (set_dict (hu_of hr))) (pgs_cons (pg_name (i := 5) sc_boxes.nd rfl (Or.inl rfl)) (pgs_nil))))))
      (pss_nil))))))
      (pss_one (ps_ret (pe_callTy (call_dictP rfl) (by rfl) T.n_dict (by decide +kernel) (pa_cons (pe_lc (own := [("place", 3)]) (g := gName 3) (tt := tYes) rfl sc_boxes.nd (pi_list (pe_callB (call_sortedDI rfl) (by rfl) T.n_sorted (by decide +kernel) (pa_cons (pv 4) (pa_nil)))) (blkOk_by (own := [("place", 3)]) (N := ["state", "sizes", "most", "place", "found", "spare", "turn", "step", "amount"]) (sc := defScope s_boxes) (by decide +kernel)) (fun _ _ _ _ _ => pg_name (i := 3) sc_boxes.nd rfl (Or.inl rfl)) (fun _ _ _ _ _ => pts_nil) (fun _ _ _ _ _ => pe_tup (pa_cons (pv 3) (pa_cons (pe_dget (hu_of hr) (pv 4) (pv 3) (fun _ _ => rfl)) (pa_nil))))) (pa_nil)))))))
  exact F.ok sc_boxes (fun vs H Q E h => by
    repeat (first | (obtain ⟨rfl, _⟩ := h; rfl) | obtain ⟨_, h⟩ := h)) D
theorem dfn_made (T : Tx K mg c_Row c_Walk c_BadCapacity c_ScoopError) (C_Row : C8.Mak P w K mg base 5 "Row" c_Row (spRowInit K c_Row) []) {f : Addr} {fd : FuncData} (F : FunD K "_law_made" "_law_made" (defArgs s_made) (defBody s_made) (defScope s_made) [] [] f fd) :
    FnOk P w K mg base CX0 7 f fd ["boxes", "sizes"] (spMade K c_Row) := by
  have D : ∀ (cdv : Value) (A : Around) (outer : List Env) (s : Shared) (H : Hp) (vs : List V) (Q : VK) (E : XK), Room 6 (A.deeper (envOfC "_law_made" (defScope s_made) s.heap.objs.size f cdv)) → (spMade K c_Row) vs H Q E →
      ∃ t, PSs (cxOf CX0 P w K mg base ["boxes", "sizes"] "_law_made" (defScope s_made) f cdv A outer s H E) (defBody s_made) t ∧ t { nx := fun _ H' => Q .non H', rt := Q } (start ["boxes", "sizes"] vs) H := by
    intro cdv A outer s H vs Q E hr h
    refine ⟨t_made K c_Row, PSs.nox ?_, pure_made vs H Q E h⟩
    exact pss_one (ps_ret (C8.pe_mk C_Row hr (by decide) (by rfl) (pa_cons (LiI.pe_listItems rfl (pv 0) (by rfl) T.n_list (by decide +kernel)) (pa_cons (LiI.pe_listItems rfl (pv 1) (by rfl) T.n_list (by decide +kernel)) (pa_nil)))))
  exact F.ok sc_made (fun vs H Q E h => by
    repeat (first | (obtain ⟨rfl, _⟩ := h; rfl) | obtain ⟨_, h⟩ := h)) D
theorem dfn_near (T : Tx K mg c_Row c_Walk c_BadCapacity c_ScoopError) (C_take : Kn P w K mg base CX0 2 "_law_take" ["state", "size"] spTake) (C_pick : Kn P w K mg base CX0 3 "_law_pick" ["state", "some"] (spPick K)) {f : Addr} {fd : FuncData} (F : FunD K "_law_near" "_law_near" (defArgs s_near) (defBody s_near) (defScope s_near) [] [] f fd) :
    FnOk P w K mg base CX0 4 f fd ["state", "sizes", "most"] (spNear20 K) := by
  have D : ∀ (cdv : Value) (A : Around) (outer : List Env) (s : Shared) (H : Hp) (vs : List V) (Q : VK) (E : XK), Room 3 (A.deeper (envOfC "_law_near" (defScope s_near) s.heap.objs.size f cdv)) → (spNear20 K) vs H Q E →
      ∃ t, PSs (cxOf CX0 P w K mg base ["state", "sizes", "most", "found", "spare", "place", "amount"] "_law_near" (defScope s_near) f cdv A outer s H E) (defBody s_near) t ∧ t { nx := fun _ H' => Q .non H', rt := Q } (start ["state", "sizes", "most", "found", "spare", "place", "amount"] vs) H := by
    intro cdv A outer s H vs Q E hr h
    refine ⟨t_near20 K, PSs.nox ?_, pure_near20 vs H Q E h⟩
    exact pss_cons (ps_par (by rfl) sc_near.nd rfl rfl (by decide) rfl rfl (pa_cons (pe_dnewK) (pa_cons (pv 2) (pa_nil))) (by rfl))
      (pss_cons (ps_for PassesOwn.never rfl (pi_range2 rfl T.n_range (pa_cons (pe_un un_neg (pe_int)) (pa_cons (pe_int) (pa_nil)))) (pg_name (i := 5) sc_near.nd rfl (Or.inl rfl))
      (pss_cons (ps_set (i := 6) sc_near.nd rfl (Or.inl rfl) (pe_callB (call_min2 rfl) (by rfl) T.n_min (by decide +kernel) (pa_cons (pv 4) (pa_cons (pe_k C_pick hr (by decide) rfl pass0 (pa_cons (pv 0) (pa_cons (pe_lst (pa_cons (pe_int) (pa_cons (pe_int) (pa_cons (pe_int) (pa_cons (pe_int) (pa_cons (pe_k C_take hr (by decide) rfl pass0 (pa_cons (pv 0) (pa_cons (pe_op op_add (pe_dget2 (hu_of hr) (pv 1) (pv 5) (pe_int) ⟨rfl, rfl, rfl, rfl⟩) (pe_int)) (pa_nil)))) (pa_nil))))))) (pa_nil)))) (pa_nil)))))
      (pss_cons (ps_set (i := 6) sc_near.nd rfl (Or.inl rfl) (pe_callB (call_min2 rfl) (by rfl) T.n_min (by decide +kernel) (pa_cons (pv 6) (pa_cons (pe_dget2 (hu_of hr) (pv 1) (pv 5) (pe_int) ⟨rfl, rfl, rfl, rfl⟩) (pa_nil)))))
      (pss_one (ps_if (pt_cmpR op_gt (pv 6) (pe_int) (nomark _))
      (pss_one (ps_asg (pe_tup (pa_cons (pv 6) (pa_cons (pe_op op_sub (pv 4) (pv 6)) (pa_nil)))) (pg_tup rfl (pgs_cons (pg_sub (pv 3) (pv 5) (set_dict (hu_of hr))) (pgs_cons (pg_name (i := 4) sc_near.nd rfl (Or.inl rfl)) (pgs_nil))))))
      (pss_nil))))))
      (pss_one (ps_ret (pv 3))))
  exact F.ok sc_near (fun vs H Q E h => by
    repeat (first | (obtain ⟨rfl, _⟩ := h; rfl) | obtain ⟨_, h⟩ := h)) D
theorem dfn_are_good (T : Tx K mg c_Row c_Walk c_BadCapacity c_ScoopError) {f : Addr} {fd : FuncData} (F : FunD K "_law_are_good" "_law_are_good" (defArgs s_are_good) (defBody s_are_good) (defScope s_are_good) [] [] f fd) :
    FnOk P w K mg base CX0 1 f fd ["thing"] (spGood29 K) := by
  have D : ∀ (cdv : Value) (A : Around) (outer : List Env) (s : Shared) (H : Hp) (vs : List V) (Q : VK) (E : XK), Room 0 (A.deeper (envOfC "_law_are_good" (defScope s_are_good) s.heap.objs.size f cdv)) → (spGood29 K) vs H Q E →
      ∃ t, PSs (cxOf CX0 P w K mg base ["thing", "bad", "most"] "_law_are_good" (defScope s_are_good) f cdv A outer s H E) (defBody s_are_good) t ∧ t { nx := fun _ H' => Q .non H', rt := Q } (start ["thing", "bad", "most"] vs) H := by
    intro cdv A outer s H vs Q E hr h
    refine ⟨t_good29 K, PSs.nox ?_, pure_good29 vs H Q E h⟩
    exact pss_cons (ps_if (PW.pt (pw_or (pt_not (pt_val (pe_callB call_isiT (by rfl) T.n_isinstance PyProof.Rows.boot_isinstance (pa_cons (pv 0) (pa_cons (pe_tup (pa_cons (pe_bltn (v := .ty "list") (by rfl) T.n_list (by decide +kernel) rfl) (pa_cons (pe_bltn (v := .ty "tuple") (by rfl) T.n_tuple (by decide +kernel) rfl) (pa_nil)))) pa_nil))))) (pw_or1 (pt_not (pt_chain op_le op_le (pe_int) (pe_callB call_len_seq (by rfl) T.n_len PySem.boot_len (pa_cons (pv 0) (pa_nil))) (pe_int))))))
      (pss_one (ps_ret (pe_bl)))
      (pss_nil))
      (pss_cons (ps_setLc (i := 1) (own := [("most", 2)]) (g := gName 2) (tt := tOr (tB (tCB (rIsi K) (tCons (tVar 2) (tCons (tC (.ty "bool")) tNil)))) (tOr (tNot (tB (tCB (rIsi K) (tCons (tVar 2) (tCons (tC (.ty "int")) tNil))))) (tNot (tTest (tChain qLe qLe (tC (.int 1)) (tVar 2) (tC (.int 99))))))) rfl sc_are_good.nd rfl rfl (sw_true rfl rfl rfl (by decide +kernel)) (pi_or (pi_list (pv 0)) (pi_tup (pv 0))) (blkOk_by (own := [("most", 2)]) (N := ["thing", "bad", "most"]) (sc := defScope s_are_good) (by decide +kernel)) (fun _ _ _ _ _ => pg_name (i := 2) sc_are_good.nd rfl (Or.inl rfl)) (fun _ _ _ _ _ => pts_one (PW.pt (pw_or (pt_val (pe_callB call_isi (by rfl) T.n_isinstance PyProof.Rows.boot_isinstance (pa_cons (pv 2) (pa_cons (pe_bltn (v := .ty "bool") (by rfl) T.n_bool (by decide +kernel) rfl) pa_nil)))) (pw_or (pt_not (pt_val (pe_callB call_isi (by rfl) T.n_isinstance PyProof.Rows.boot_isinstance (pa_cons (pv 2) (pa_cons (pe_bltn (v := .ty "int") (by rfl) T.n_int (by decide +kernel) rfl) pa_nil))))) (pw_or1 (pt_not (pt_chain op_le op_le (pe_int) (pv 2) (pe_int)))))))) (fun _ _ _ _ _ => pe_int))
      (pss_one (ps_ret (pe_cmpR (op_eqD hr.units) (pv 1) (pe_lst (pa_nil)) (nomark _)))))
  exact F.ok sc_are_good (fun vs H Q E h => by
    repeat (first | (obtain ⟨rfl, _⟩ := h; rfl) | obtain ⟨_, h⟩ := h)) D
theorem dfn_named (T : Tx K mg c_Row c_Walk c_BadCapacity c_ScoopError) (Z_BadCapacity : ErrW K c_BadCapacity c_ScoopError) {f : Addr} {fd : FuncData} (F : FunD K "_law_named" "_law_named" (defArgs s_named) (defBody s_named) (defScope s_named) [] [] f fd) :
    FnOk P w K mg base CX0 1 f fd ["caught"] (spNamed29 K c_BadCapacity) := by
  have D : ∀ (cdv : Value) (A : Around) (outer : List Env) (s : Shared) (H : Hp) (vs : List V) (Q : VK) (E : XK), Room 0 (A.deeper (envOfC "_law_named" (defScope s_named) s.heap.objs.size f cdv)) → (spNamed29 K c_BadCapacity) vs H Q E →
      ∃ t, PSs (cxOf CX0 P w K mg base ["caught"] "_law_named" (defScope s_named) f cdv A outer s H E) (defBody s_named) t ∧ t { nx := fun _ H' => Q .non H', rt := Q } (start ["caught"] vs) H := by
    intro cdv A outer s H vs Q E hr h
    refine ⟨t_named29 K c_BadCapacity, PSs.nox ?_, pure_named29 Z_BadCapacity vs H Q E h⟩
    exact pss_one (ps_ret (pe_ifExp (PW.pt (pw_and (pt_val (pe_callB cr_isH (by rfl) T.n_isinstance PyProof.Rows.boot_isinstance (pa_cons (pv 0) (pa_cons (pe_gl (by rfl) ⟨_, T.g_BadCapacity, rfl⟩) (pa_nil))))) (pw_and1 (pt_val (pe_callB cr_isH (by rfl) T.n_isinstance PyProof.Rows.boot_isinstance (pa_cons (pv 0) (pa_cons (pe_bltn (v := .ty "ValueError") (by rfl) T.n_ValueError (by decide +kernel) rfl) (pa_nil)))))))) (pe_str) (pe_str)))
  exact F.ok sc_named (fun vs H Q E h => by
    repeat (first | (obtain ⟨rfl, _⟩ := h; rfl) | obtain ⟨_, h⟩ := h)) D
theorem dfn_law (T : Tx K mg c_Row c_Walk c_BadCapacity c_ScoopError) (C_begun : Kn P w K mg base CX0 1 "_law_begun" ["script"] (spBegun K)) (C_take : Kn P w K mg base CX0 2 "_law_take" ["state", "size"] spTake) (C_pick : Kn P w K mg base CX0 3 "_law_pick" ["state", "some"] (spPick K)) (C_boxes : Kn P w K mg base CX0 4 "_law_boxes" ["state", "sizes", "most"] (spBoxes K)) (C_made : Kn P w K mg base CX0 7 "_law_made" ["boxes", "sizes"] (spMade K c_Row)) (C_sizes : Kn P w K mg base CX0 4 "_law_sizes" ["state", "most"] (spSizes K)) (C_near : Kn P w K mg base CX0 4 "_law_near" ["state", "sizes", "most"] (spNear20 K)) (C_are_good : Kn P w K mg base CX0 1 "_law_are_good" ["thing"] (spGood29 K)) (C_at : C8.Met P w K mg base 4 c_Walk "at" (spWAt K c_Walk c_Row) []) (C_now : C8.Met P w K mg base 8 c_Walk "now" (spWNow29 K c_Walk c_Row) []) (C_eq : EqM P w K mg base 1 c_Row) (C_named : Kn P w K mg base CX0 1 "_law_named" ["caught"] (spNamed29 K c_BadCapacity)) (C_WalkX : MakX P w K mg base (L2.CX P w) 5 "Walk" c_Walk (spWalkInitX K c_Walk c_Row c_BadCapacity) []) (R_Walk : WalkC K c_Walk) (Z_BadCapacity : ErrW K c_BadCapacity c_ScoopError) {g : Addr} {fde : FuncData} (F_error : FunD K "_law_error" "_law_error" (defArgs s_error) (defBody s_error) (defScope s_error) [] [] g fde) (g_error : mg "_law_error" = some (.ref g)) (b_error : L2.Binds K fde ["work"] []) (TB : LamX.TabB base mg (He.cT K ("law", none)).1 (He.cT K ("law", none)).2) {fd : FuncData} (F : FunD K "law" "law" (defArgs s_law) (defBody s_law) (defScope s_law) [] [] (He.fAd K ("law", none)) fd) :
    FnG P w K mg base CX0 20 (He.fAd K ("law", none)) fd ["script"] (spLawL K (He.cT K ("law", none)).2) := by
  have D : ∀ (A : Around) (outer : List Env) (s : Shared) (H : Hp) (vs : List V) (Q : VK) (E : XK), Gs A → Room 19 (A.deeper (envOfC "law" (defScope s_law) s.heap.objs.size (He.fAd K ("law", none)) (.ref (He.cT K ("law", none)).1))) → (spLawL K (He.cT K ("law", none)).2) vs H Q E →
      ∃ t, PSs (cxOf CX0 P w K mg base ["script", "state", "turn", "sizes", "boxes", "crew", "spot", "made", "due", "walk", "first", "want", "most"] "law" (defScope s_law) (He.fAd K ("law", none)) (.ref (He.cT K ("law", none)).1) A outer s H E) (defBody s_law) t ∧ t { nx := fun _ H' => Q .non H', rt := Q } (start ["script", "state", "turn", "sizes", "boxes", "crew", "spot", "made", "due", "walk", "first", "want", "most"] vs) H := by
    intro A outer s H vs Q E hgs hr h
    refine ⟨t_law29 K c_BadCapacity c_Row c_ScoopError c_Walk (He.cT K ("law", none)).2 ((envOfC "law" (defScope s_law) 0 0 .none).qual ++ "<lambda>"), PSs.nox ?_, pure_law29 R_Walk Z_BadCapacity vs H Q E h⟩
    exact pss_cons (ps_set (i := 1) sc_law.nd rfl (Or.inr rfl) (pe_k C_begun hr (by decide) rfl pass0 (pa_cons (pv 0) (pa_nil))))
      (pss_cons (ps_for PassesOwn.never rfl (pi_range1 rfl T.n_range (pa_cons (pe_op op_add (pe_int) (pe_callB (call_min2 rfl) (by rfl) T.n_min (by decide +kernel) (pa_cons (pe_callB call_len_seq (by rfl) T.n_len PySem.boot_len (pa_cons (pv 0) (pa_nil))) (pa_cons (pe_int) (pa_nil))))) (pa_nil))) (pg_name (i := 2) sc_law.nd rfl (Or.inl rfl))
      (pss_cons (ps_set (i := 3) sc_law.nd rfl (Or.inl rfl) (pe_k C_sizes hr (by decide) rfl pass0 (pa_cons (pv 1) (pa_cons (pe_int) (pa_nil)))))
      (pss_cons (ps_set (i := 4) sc_law.nd rfl (Or.inl rfl) (pe_ifExp (pt_cmpR op_eq (pe_k C_take hr (by decide) rfl pass0 (pa_cons (pv 1) (pa_cons (pe_int) (pa_nil)))) (pe_int) (nomark _)) (pe_k C_near hr (by decide) rfl pass0 (pa_cons (pv 1) (pa_cons (pv 3) (pa_cons (pe_int) (pa_nil))))) (pe_k C_boxes hr (by decide) rfl pass0 (pa_cons (pv 1) (pa_cons (pv 3) (pa_cons (pe_int) (pa_nil)))))))
      (pss_cons (ps_set (i := 5) sc_law.nd rfl (Or.inr rfl) (pe_lc (own := [("spot", 6)]) (g := gName 6) (tt := tYes) rfl sc_law.nd (pi_range1 rfl T.n_range (pa_cons (pe_k C_take hr (by decide) rfl pass0 (pa_cons (pv 1) (pa_cons (pe_int) (pa_nil)))) (pa_nil))) (blkOk_by (own := [("spot", 6)]) (N := ["script", "state", "turn", "sizes", "boxes", "crew", "spot", "made", "due", "walk", "first", "want", "most"]) (sc := defScope s_law) (by decide +kernel)) (fun _ _ _ _ _ => pg_name (i := 6) sc_law.nd rfl (Or.inl rfl)) (fun _ _ _ _ _ => pts_nil) (fun _ _ _ _ _ => pe_op op_add (pe_int) (pe_k C_take hr (by decide) rfl pass0 (pa_cons (pv 1) (pa_cons (pe_int) (pa_nil)))))))
      (pss_cons (ps_if (pt_cmpR op_eq (pe_k C_take hr (by decide) rfl pass0 (pa_cons (pv 1) (pa_cons (pe_int) (pa_nil)))) (pe_int) (nomark _))
      (pss_one (ps_set (i := 5) sc_law.nd rfl (Or.inr rfl) (pe_op op_cat (pe_slice sl_list (pv 5) (po_none) (po_some (pe_int))) (pe_lst (pa_cons (pe_k C_pick hr (by decide) rfl pass0 (pa_cons (pv 1) (pa_cons (pe_lst (pa_cons (pe_int) (pa_cons (pe_int) (pa_cons (pe_un un_neg (pe_int)) (pa_cons (pe_bl) (pa_cons (pe_non) (pa_cons (pe_str) (pa_cons (pe_tup (pa_cons (pe_int) (pa_nil))) (pa_cons (pe_int) (pa_nil)))))))))) (pa_nil)))) (pa_nil))))))
      (pss_nil))
      (pss_cons (ps_set (i := 5) sc_law.nd rfl (Or.inr rfl) (pe_k C_pick hr (by decide) rfl pass0 (pa_cons (pv 1) (pa_cons (pe_lst (pa_cons (pv 5) (pa_cons (pv 5) (pa_cons (pv 5) (pa_cons (pe_callTy cr_tupB (by rfl) T.n_tuple (by decide +kernel) (pa_cons (pv 5) (pa_nil))) (pa_cons (pe_non) (pa_cons (pe_int) (pa_cons (pe_str) (pa_cons (pe_dnewK) (pa_cons (pe_disp (pps_cons (pe_int) (pe_int) (pps_nil)) (by rfl) (by rfl) (fun z => by cases z) (by decide)) (pa_nil))))))))))) (pa_nil)))))
      (pss_cons (ps_asg (pe_tup (pa_cons (pe_k C_made hr (by decide) rfl pass0 (pa_cons (pv 4) (pa_cons (pv 3) (pa_nil)))) (pa_cons (pe_ifExp (pt_val (pe_k C_are_good hr (by decide) rfl pass0 (pa_cons (pv 5) (pa_nil)))) (pe_non) (pe_str)) (pa_nil)))) (pg_tup rfl (pgs_cons (pg_name (i := 7) sc_law.nd rfl (Or.inr rfl)) (pgs_cons (pg_name (i := 8) sc_law.nd rfl (Or.inl rfl)) (pgs_nil)))))
      (pss_cons (ps_if (pt_cmpR op_ne (pe_err F_error g_error rfl b_error sc_error (fun cdg => err_gives rfl rfl rfl rfl T.g_ScoopError C_named (hr.mono (by decide))) TB rfl (hr.mono (show 8 ≤ 19 by decide)) (LamX.lamS_by (sc := defScope s_law) (by decide +kernel)) rfl (fun _ _ _ _ _ => rfl) (fun A2 outer2 s2 H2 E2 f2 c2 hr2 => pe_mkX C_WalkX hr2 (by decide) rfl (passes_call (takes_of rfl rfl rfl rfl) (fun _ _ _ _ h => h)) (pa_cons (pv 7) (pa_cons (pv 5) pa_nil)))) (pv 8) (nomark _))
      (pss_one (ps_ret (pe_bl)))
      (pss_nil))
      (pss_one (ps_if (pt_cmpR op_isN (pv 8) (pe_non) (nomark _))
      (pss_cons (ps_set (i := 9) sc_law.nd rfl (Or.inr rfl) (pe_mkX C_WalkX hr (by decide) (by rfl) passL (pa_cons (pv 7) (pa_cons (pv 5) (pa_nil)))))
      (pss_cons (ps_set (i := 10) sc_law.nd rfl (Or.inr rfl) (pe_ifExp (pt_cmpR op_gt (pe_op op_add (pe_callB call_lenD (by rfl) T.n_len PySem.boot_len (pa_cons (pv 4) (pa_nil))) (pe_callB call_lenD (by rfl) T.n_len PySem.boot_len (pa_cons (pv 3) (pa_nil)))) (pe_int) (nomark _)) (pe_callB (cr_min rfl) (by rfl) T.n_min (by decide +kernel) (pa_cons (pe_op op_cat (pe_callTy (call_list_dK rfl) (by rfl) T.n_list (by decide +kernel) (pa_cons (pv 4) (pa_nil))) (pe_callTy (call_list_dK rfl) (by rfl) T.n_list (by decide +kernel) (pa_cons (pv 3) (pa_nil)))) (pa_nil))) (pe_int)))
      (pss_cons (ps_setLc (i := 11) (own := [("most", 12)]) (g := gName 12) (tt := tYes) rfl sc_law.nd rfl rfl (sw_true rfl rfl rfl (by decide +kernel)) (pi_or (pi_list (pv 5)) (pi_tup (pv 5))) (blkOk_by (own := [("most", 12)]) (N := ["script", "state", "turn", "sizes", "boxes", "crew", "spot", "made", "due", "walk", "first", "want", "most"]) (sc := defScope s_law) (by decide +kernel)) (fun _ _ _ _ _ => pg_name (i := 12) sc_law.nd rfl (Or.inl rfl)) (fun _ _ _ _ _ => pts_nil) (fun _ _ _ _ _ => pe_tup (pa_cons (pv 10) (pa_cons (pv 12) (pa_cons (pe_int) (pa_nil))))))
      (pss_cons (ps_set (i := 5) sc_law.nd rfl (Or.inr rfl) (pe_ifExp (pt_val (pe_callB call_isi (by rfl) T.n_isinstance PyProof.Rows.boot_isinstance (pa_cons (pv 5) (pa_cons (pe_bltn (v := .ty "tuple") (by rfl) T.n_tuple (by decide +kernel) rfl) pa_nil)))) (pv 5) (pe_bm0 PySem.F.plainAttrs_list PySem.F.slot_list_clear PySem.F.type_list_clear mt_clear (pv 5))))
      (pss_one (ps_if (PW.pt (pw_or (pt_cmpR op_ne (pe_callB (call_reprD hgs hr.units) (by rfl) T.n_repr (by decide +kernel) (pa_cons (pe_lc (own := [("spot", 6)]) (g := gName 6) (tt := tYes) rfl sc_law.nd (pi_range1 rfl T.n_range (pa_cons (pe_callB call_len_seq (by rfl) T.n_len PySem.boot_len (pa_cons (pv 11) (pa_nil))) (pa_nil))) (blkOk_by (own := [("spot", 6)]) (N := ["script", "state", "turn", "sizes", "boxes", "crew", "spot", "made", "due", "walk", "first", "want", "most"]) (sc := defScope s_law) (by decide +kernel)) (fun _ _ _ _ _ => pg_name (i := 6) sc_law.nd rfl (Or.inl rfl)) (fun _ _ _ _ _ => pts_nil) (fun _ _ _ _ _ => C8.pe_mt C_at hr (by decide) (pv 9) (pa_cons (pv 6) (pa_nil)))) (pa_nil))) (pe_callB (call_reprD hgs hr.units) (by rfl) T.n_repr (by decide +kernel) (pa_cons (pv 11) (pa_nil))) (nomark _)) (pw_or1 (pt_cmpR (op_neR C_eq hr (by decide)) (C8.pe_mt0 C_now hr (by decide) (pv 9)) (pv 7) (nomark _)))))
      (pss_one (ps_ret (pe_bl)))
      (pss_nil)))))))
      (pss_nil)))))))))))
      (pss_one (ps_ret (pe_bl))))
  exact okGL F sc_law (fun vs H Q E h => by
    repeat (first | (obtain ⟨rfl, _⟩ := h; rfl) | obtain ⟨_, h⟩ := h)) D
end
def supDs : List SupD := []
def d_is_integer : He.DefD := ⟨("is_integer", none), "is_integer", "is_integer", defArgs s_is_integer, defBody s_is_integer, defScope s_is_integer, [], []⟩
def d_is_between : He.DefD := ⟨("is_between", none), "is_between", "is_between", defArgs s_is_between, defBody s_is_between, defScope s_is_between, [], []⟩
def d_is_pair : He.DefD := ⟨("is_pair", none), "is_pair", "is_pair", defArgs s_is_pair, defBody s_is_pair, defScope s_is_pair, [], []⟩
def d_are_pairs : He.DefD := ⟨("are_pairs", none), "are_pairs", "are_pairs", defArgs s_are_pairs, defBody s_are_pairs, defScope s_are_pairs, [], []⟩
def d_is_wide_box : He.DefD := ⟨("_is_wide_box", none), "_is_wide_box", "_is_wide_box", defArgs s_is_wide_box, defBody s_is_wide_box, defScope s_is_wide_box, [], []⟩
def d_are_capacities : He.DefD := ⟨("_are_capacities", none), "_are_capacities", "_are_capacities", defArgs s_are_capacities, defBody s_are_capacities, defScope s_are_capacities, [], []⟩
def d_are_contents : He.DefD := ⟨("_are_contents", none), "_are_contents", "_are_contents", defArgs s_are_contents, defBody s_are_contents, defScope s_are_contents, [], []⟩
def d_Row_init : He.DefD := ⟨("Row", some "__init__"), "__init__", "Row.__init__", defArgs s_Row_init, defBody s_Row_init, defScope s_Row_init, [.adr (He.dflAt ("Row", some "__init__") 0), .adr (He.dflAt ("Row", some "__init__") 1)], []⟩
def d_Row_contents : He.DefD := ⟨("Row", some "contents"), "contents", "Row.contents", defArgs s_Row_contents, defBody s_Row_contents, defScope s_Row_contents, [], []⟩
def d_Row_capacities : He.DefD := ⟨("Row", some "capacities"), "capacities", "Row.capacities", defArgs s_Row_capacities, defBody s_Row_capacities, defScope s_Row_capacities, [], []⟩
def d_Row_eq : He.DefD := ⟨("Row", some "__eq__"), "__eq__", "Row.__eq__", defArgs s_Row_eq, defBody s_Row_eq, defScope s_Row_eq, [], []⟩
def d_is_capacity : He.DefD := ⟨("is_capacity", none), "is_capacity", "is_capacity", defArgs s_is_capacity, defBody s_is_capacity, defScope s_is_capacity, [], []⟩
def d_are_carriers : He.DefD := ⟨("_are_carriers", none), "_are_carriers", "_are_carriers", defArgs s_are_carriers, defBody s_are_carriers, defScope s_are_carriers, [], []⟩
def d_first_index : He.DefD := ⟨("_first_index", none), "_first_index", "_first_index", defArgs s_first_index, defBody s_first_index, defScope s_first_index, [], []⟩
def d_Walk_init : He.DefD := ⟨("Walk", some "__init__"), "__init__", "Walk.__init__", defArgs s_Walk_init, defBody s_Walk_init, defScope s_Walk_init, [], []⟩
def d_Walk_at : He.DefD := ⟨("Walk", some "at"), "at", "Walk.at", defArgs s_Walk_at, defBody s_Walk_at, defScope s_Walk_at, [], []⟩
def d_Walk_now : He.DefD := ⟨("Walk", some "now"), "now", "Walk.now", defArgs s_Walk_now, defBody s_Walk_now, defScope s_Walk_now, [], []⟩
def d_begun : He.DefD := ⟨("_law_begun", none), "_law_begun", "_law_begun", defArgs s_begun, defBody s_begun, defScope s_begun, [], []⟩
def d_mixed : He.DefD := ⟨("_law_mixed", none), "_law_mixed", "_law_mixed", defArgs s_mixed, defBody s_mixed, defScope s_mixed, [], []⟩
def d_take : He.DefD := ⟨("_law_take", none), "_law_take", "_law_take", defArgs s_take, defBody s_take, defScope s_take, [], []⟩
def d_pick : He.DefD := ⟨("_law_pick", none), "_law_pick", "_law_pick", defArgs s_pick, defBody s_pick, defScope s_pick, [], []⟩
def d_sizes : He.DefD := ⟨("_law_sizes", none), "_law_sizes", "_law_sizes", defArgs s_sizes, defBody s_sizes, defScope s_sizes, [], []⟩
def d_boxes : He.DefD := ⟨("_law_boxes", none), "_law_boxes", "_law_boxes", defArgs s_boxes, defBody s_boxes, defScope s_boxes, [], []⟩
def d_made : He.DefD := ⟨("_law_made", none), "_law_made", "_law_made", defArgs s_made, defBody s_made, defScope s_made, [], []⟩
def d_near : He.DefD := ⟨("_law_near", none), "_law_near", "_law_near", defArgs s_near, defBody s_near, defScope s_near, [], []⟩
def d_are_good : He.DefD := ⟨("_law_are_good", none), "_law_are_good", "_law_are_good", defArgs s_are_good, defBody s_are_good, defScope s_are_good, [], []⟩
def d_named : He.DefD := ⟨("_law_named", none), "_law_named", "_law_named", defArgs s_named, defBody s_named, defScope s_named, [], []⟩
def d_error : He.DefD := ⟨("_law_error", none), "_law_error", "_law_error", defArgs s_error, defBody s_error, defScope s_error, [], []⟩
def d_law : He.DefD := ⟨("law", none), "law", "law", defArgs s_law, defBody s_law, defScope s_law, [], []⟩
def fns : List He.DefD := [d_is_integer, d_is_between, d_is_pair, d_are_pairs, d_is_wide_box, d_are_capacities, d_are_contents, d_Row_init, d_Row_eq, d_is_capacity, d_are_carriers, d_first_index, d_Walk_init, d_Walk_at, d_Walk_now, d_begun, d_mixed, d_take, d_pick, d_sizes, d_boxes, d_made, d_near, d_are_good, d_named, d_error, d_law]
def propDs : List PropD := [⟨"Row", "contents", d_Row_contents⟩, ⟨"Row", "capacities", d_Row_capacities⟩]
def fas : List He.Fa := [.glo "is_integer", .glo "is_between", .glo "is_pair", .glo "are_pairs", .glo "_is_wide_box", .glo "_are_capacities", .glo "_are_contents", .glo "is_capacity", .glo "_are_carriers", .glo "_first_index", .glo "_law_begun", .glo "_law_mixed", .glo "_law_take", .glo "_law_pick", .glo "_law_sizes", .glo "_law_boxes", .glo "_law_made", .glo "_law_near", .glo "_law_are_good", .glo "_law_named", .glo "_law_error", .glo "law", .glo "Row", .glo "Walk", .glo "BadCapacity", .glo "ScoopError", .free "isinstance", .free "int", .free "bool", .free "list", .free "tuple", .free "all", .free "len", .free "dict", .free "sum", .free "sorted", .free "range", .free "min", .free "max", .free "repr", .free "super", .free "ValueError", .int "GREATEST_CAPACITY" (99), .int "FIRST_WIDE_INDEX" (-60), .int "LAST_WIDE_INDEX" (60), .int "LEAST_WIDE_CAPACITY" (2), .int "GREATEST_WIDE_CAPACITY" (9), .int "MOST_WIDE_BOXES" (6), .int "MOST_ITEMS" (40), .int "MOST_CARRIERS" (6), .exc "BadCapacity", .exm "BadCapacity" "ScoopError" true, .cls "Row", .noat "Row" "_contents", .noat "Row" "_capacities", .noat "Row" "_count_at", .noat "Row" "_capacity_at", .mkr "Row", .cls "Walk", .noat "Walk" "_row", .noat "Walk" "_count_at", .noat "Walk" "_carriers", .mkr "Walk", .meth "Row" "__eq__", .meth "Walk" "at", .meth "Walk" "now"]
def more (K : PySem.W.Frag) : Bool := (rowKB K (He.ga K "Row")) && (excB K (He.ga K "BadCapacity")) && (kitIs K (.ref (He.ga K "BadCapacity")) (.ref (He.ga K "BadCapacity")) true) && (kitIs K (.ref (He.ga K "BadCapacity")) (.type "ValueError") true)
abbrev Rw : PySem.W.OpenRow := PySem.W.OpenLaw.row PySem.Challenge.rw_scooprow_k29_walks_refused
abbrev hk : PySem.W.Hook := hookL 6 fas fns propDs supDs more [("law", none)]
def ob (s : PySem.W.SharedT) : AlS := obsL 6 fas fns propDs supDs more [("law", none)] (HandSHeadRun.getT s)
theorem ob_eq (s : PySem.W.SharedT) : ob s = hk.obs s.abs := obsL_eq (HandSHeadRun.getT_eq s)
def others0 : List Str := ["_wall", "ScoopError", "BadRow", "BadIndex", "BadCapacity", "BadCarrier", "Blocked", "MOST_ITEMS", "MOST_WIDE_BOXES", "FIRST_WIDE_INDEX", "LAST_WIDE_INDEX", "LEAST_WIDE_CAPACITY", "GREATEST_WIDE_CAPACITY", "is_integer", "is_between", "is_pair", "are_pairs", "_is_wide_box", "_are_capacities", "_are_contents", "Row", "GREATEST_CAPACITY", "is_capacity", "handled", "MOST_CARRIERS", "_are_carriers", "_first_index", "Walk", "_law_begun", "_law_mixed"]
def others1 : List Str := ["_law_take", "_law_pick", "_law_sizes", "_law_boxes", "_law_made", "_law_is", "_law_near", "_law_error", "_law_named", "_law_are_good"]
def others : List Str := others0 ++ others1
theorem run (w : World) : HandSHeadRun.RunEq Rw (PySem.W.view Rw.prog [45]) hk ob 5400 others w := by
  intro os
  kernel_rfl
theorem facts {P : Program} {w : World} {K : PySem.W.Frag} {h : Heap} {mg : Str → Option Value} {f : Addr} (X : K.In h) (G : h.Ns mainGlobals mg) (hfa : mg ("law" : Str) = some (.ref f)) (c : SaysS fas fns propDs supDs more w K) (hPf : P.main.file = "/claim/cut.py") (hPt : (P.main.scope.names.lookup ("super" : Str)).isSome = false) :
    ∃ fd : FuncData, (∀ (s : Shared) (v : Value), BindsTo s fd ⟨[v], []⟩ [("script", v)]) ∧ ∀ base : Heap, K.In base → base.Ns mainGlobals mg → LamX.TabB base mg (He.cT K ("law", none)).1 (He.cT K ("law", none)).2 → FnG P w K mg base CX0 20 f fd ["script"] (spLawL K (He.cT K ("law", none)).2) := by
  have c1 := c.t.d
  have cm := c.more
  unfold more at cm
  simp only [Bool.and_eq_true] at cm
  obtain ⟨⟨⟨m_Z_Row, m_ec_BadCapacity⟩, m_kit_BadCapacity⟩, m_kitV⟩ := cm
  have Z_Row := rowKB_ok m_Z_Row
  have ec_BadCapacity := excB_ok m_ec_BadCapacity
  have kit_BadCapacity := kitIs_ok m_kit_BadCapacity
  have kitV := kitIs_ok m_kitV
  obtain ⟨x_BadCapacity, k_BadCapacity, s_BadCapacity, t_BadCapacity⟩ := He.exc_ok (c1.fact 50 (f := .exc "BadCapacity") rfl)
  have T : Tx K mg (He.ga K "Row") (He.ga K "Walk") (He.ga K "BadCapacity") (He.ga K "ScoopError") := ⟨He.free_ok X G (c1.fact 26 (f := .free "isinstance") rfl),
    He.free_ok X G (c1.fact 27 (f := .free "int") rfl),
    He.free_ok X G (c1.fact 28 (f := .free "bool") rfl),
    He.free_ok X G (c1.fact 29 (f := .free "list") rfl),
    He.free_ok X G (c1.fact 30 (f := .free "tuple") rfl),
    He.free_ok X G (c1.fact 31 (f := .free "all") rfl),
    He.free_ok X G (c1.fact 32 (f := .free "len") rfl),
    He.free_ok X G (c1.fact 33 (f := .free "dict") rfl),
    He.free_ok X G (c1.fact 34 (f := .free "sum") rfl),
    He.free_ok X G (c1.fact 35 (f := .free "sorted") rfl),
    He.free_ok X G (c1.fact 36 (f := .free "range") rfl),
    He.free_ok X G (c1.fact 37 (f := .free "min") rfl),
    He.free_ok X G (c1.fact 38 (f := .free "max") rfl),
    He.free_ok X G (c1.fact 39 (f := .free "repr") rfl),
    He.free_ok X G (c1.fact 40 (f := .free "super") rfl),
    He.free_ok X G (c1.fact 41 (f := .free "ValueError") rfl),
    (let ⟨t, e⟩ := He.int_ok X G (c1.fact 42 (f := .int "GREATEST_CAPACITY" (99)) rfl); ⟨_, e, ⟨t, rfl⟩⟩),
    (let ⟨t, e⟩ := He.int_ok X G (c1.fact 43 (f := .int "FIRST_WIDE_INDEX" (-60)) rfl); ⟨_, e, ⟨t, rfl⟩⟩),
    (let ⟨t, e⟩ := He.int_ok X G (c1.fact 44 (f := .int "LAST_WIDE_INDEX" (60)) rfl); ⟨_, e, ⟨t, rfl⟩⟩),
    (let ⟨t, e⟩ := He.int_ok X G (c1.fact 45 (f := .int "LEAST_WIDE_CAPACITY" (2)) rfl); ⟨_, e, ⟨t, rfl⟩⟩),
    (let ⟨t, e⟩ := He.int_ok X G (c1.fact 46 (f := .int "GREATEST_WIDE_CAPACITY" (9)) rfl); ⟨_, e, ⟨t, rfl⟩⟩),
    (let ⟨t, e⟩ := He.int_ok X G (c1.fact 47 (f := .int "MOST_WIDE_BOXES" (6)) rfl); ⟨_, e, ⟨t, rfl⟩⟩),
    (let ⟨t, e⟩ := He.int_ok X G (c1.fact 48 (f := .int "MOST_ITEMS" (40)) rfl); ⟨_, e, ⟨t, rfl⟩⟩),
    (let ⟨t, e⟩ := He.int_ok X G (c1.fact 49 (f := .int "MOST_CARRIERS" (6)) rfl); ⟨_, e, ⟨t, rfl⟩⟩),
    He.glo_ok X G (c1.fact 22 (f := .glo "Row") rfl),
    He.glo_ok X G (c1.fact 23 (f := .glo "Walk") rfl),
    He.glo_ok X G (c1.fact 24 (f := .glo "BadCapacity") rfl),
    He.glo_ok X G (c1.fact 25 (f := .glo "ScoopError") rfl),
    x_BadCapacity,
    k_BadCapacity,
    s_BadCapacity,
    t_BadCapacity⟩
  have L_Row := He.cls_ok (c1.fact 52 (f := .cls "Row") rfl)
  have R_Row : RowC K (He.ga K "Row") := ⟨L_Row, He.noat_ok (c1.fact 53 (f := .noat "Row" "_contents") rfl), He.noat_ok (c1.fact 54 (f := .noat "Row" "_capacities") rfl), He.noat_ok (c1.fact 55 (f := .noat "Row" "_count_at") rfl), He.noat_ok (c1.fact 56 (f := .noat "Row" "_capacity_at") rfl)⟩
  have L_Walk := He.cls_ok (c1.fact 58 (f := .cls "Walk") rfl)
  have R_Walk : WalkC K (He.ga K "Walk") := ⟨L_Walk, He.noat_ok (c1.fact 59 (f := .noat "Walk" "_row") rfl), He.noat_ok (c1.fact 60 (f := .noat "Walk" "_count_at") rfl), He.noat_ok (c1.fact 61 (f := .noat "Walk" "_carriers") rfl)⟩
  obtain ⟨fd_is_integer, F_is_integer⟩ := c1.def_ 0 (d := d_is_integer) rfl
  obtain ⟨fd_is_between, F_is_between⟩ := c1.def_ 1 (d := d_is_between) rfl
  obtain ⟨fd_is_pair, F_is_pair⟩ := c1.def_ 2 (d := d_is_pair) rfl
  obtain ⟨fd_are_pairs, F_are_pairs⟩ := c1.def_ 3 (d := d_are_pairs) rfl
  obtain ⟨fd_is_wide_box, F_is_wide_box⟩ := c1.def_ 4 (d := d_is_wide_box) rfl
  obtain ⟨fd_are_capacities, F_are_capacities⟩ := c1.def_ 5 (d := d_are_capacities) rfl
  obtain ⟨fd_are_contents, F_are_contents⟩ := c1.def_ 6 (d := d_are_contents) rfl
  obtain ⟨fd_Row_init, F_Row_init⟩ := c1.def_ 7 (d := d_Row_init) rfl
  obtain ⟨fd_Row_eq, F_Row_eq⟩ := c1.def_ 8 (d := d_Row_eq) rfl
  obtain ⟨fd_is_capacity, F_is_capacity⟩ := c1.def_ 9 (d := d_is_capacity) rfl
  obtain ⟨fd_are_carriers, F_are_carriers⟩ := c1.def_ 10 (d := d_are_carriers) rfl
  obtain ⟨fd_first_index, F_first_index⟩ := c1.def_ 11 (d := d_first_index) rfl
  obtain ⟨fd_Walk_init, F_Walk_init⟩ := c1.def_ 12 (d := d_Walk_init) rfl
  obtain ⟨fd_Walk_at, F_Walk_at⟩ := c1.def_ 13 (d := d_Walk_at) rfl
  obtain ⟨fd_Walk_now, F_Walk_now⟩ := c1.def_ 14 (d := d_Walk_now) rfl
  obtain ⟨fd_begun, F_begun⟩ := c1.def_ 15 (d := d_begun) rfl
  obtain ⟨fd_mixed, F_mixed⟩ := c1.def_ 16 (d := d_mixed) rfl
  obtain ⟨fd_take, F_take⟩ := c1.def_ 17 (d := d_take) rfl
  obtain ⟨fd_pick, F_pick⟩ := c1.def_ 18 (d := d_pick) rfl
  obtain ⟨fd_sizes, F_sizes⟩ := c1.def_ 19 (d := d_sizes) rfl
  obtain ⟨fd_boxes, F_boxes⟩ := c1.def_ 20 (d := d_boxes) rfl
  obtain ⟨fd_made, F_made⟩ := c1.def_ 21 (d := d_made) rfl
  obtain ⟨fd_near, F_near⟩ := c1.def_ 22 (d := d_near) rfl
  obtain ⟨fd_are_good, F_are_good⟩ := c1.def_ 23 (d := d_are_good) rfl
  obtain ⟨fd_named, F_named⟩ := c1.def_ 24 (d := d_named) rfl
  obtain ⟨fd_error, F_error⟩ := c1.def_ 25 (d := d_error) rfl
  obtain ⟨fd_law, F_law⟩ := c1.def_ 26 (d := d_law) rfl
  obtain ⟨po_Row_contents, fd_Row_contents, F_Row_contents⟩ := c.p ⟨"Row", "contents", d_Row_contents⟩ (List.mem_of_getElem? (l := propDs) (i := 0) rfl)
  obtain ⟨po_Row_capacities, fd_Row_capacities, F_Row_capacities⟩ := c.p ⟨"Row", "capacities", d_Row_capacities⟩ (List.mem_of_getElem? (l := propDs) (i := 1) rfl)
  have e := hfa.symm.trans (He.glo_ok X G (c1.fact 21 (f := .glo "law") rfl))
  cases e
  have b := FunD.bindsA (ps := ["script"]) F_law fun _ _ _ _ _ _ us hl => match us, hl with | [_], _ => rfl
  refine ⟨fd_law, fun s v => b s [v] rfl, fun base _ _ TB => ?_⟩
  have Z_BadCapacity : ErrW K (He.ga K "BadCapacity") (He.ga K "ScoopError") := ⟨He.exm_ok (c1.fact 51 (f := .exm "BadCapacity" "ScoopError" true) rfl), ec_BadCapacity, kit_BadCapacity, kitV⟩

  have G_is_integer := dfn_is_integer (P := P) (w := w) (base := base) T F_is_integer
  have C_is_integer : Kn P w K mg base CX0 1 "is_integer" ["value"] _ := ⟨_, _, G_is_integer, (He.glo_ok X G (c1.fact 0 (f := .glo "is_integer") rfl)), F_is_integer.kp, (FunD.bindsN F_is_integer fun _ _ _ _ _ _ us hl => match us, hl with | [_], _ => rfl)⟩
  have G_is_between := dfn_is_between (P := P) (w := w) (base := base) T C_is_integer F_is_between
  have C_is_between : Kn P w K mg base CX0 2 "is_between" ["value", "low", "high"] _ := ⟨_, _, G_is_between, (He.glo_ok X G (c1.fact 1 (f := .glo "is_between") rfl)), F_is_between.kp, (FunD.bindsN F_is_between fun _ _ _ _ _ _ us hl => match us, hl with | [_, _, _], _ => rfl)⟩
  have G_is_pair := dfn_is_pair (P := P) (w := w) (base := base) T C_is_integer F_is_pair
  have C_is_pair : Kn P w K mg base CX0 2 "is_pair" ["value"] _ := ⟨_, _, G_is_pair, (He.glo_ok X G (c1.fact 2 (f := .glo "is_pair") rfl)), F_is_pair.kp, (FunD.bindsN F_is_pair fun _ _ _ _ _ _ us hl => match us, hl with | [_], _ => rfl)⟩
  have G_are_pairs := dfn_are_pairs (P := P) (w := w) (base := base) T C_is_pair F_are_pairs
  have C_are_pairs : Kn P w K mg base CX0 3 "are_pairs" ["value"] _ := ⟨_, _, G_are_pairs, (He.glo_ok X G (c1.fact 3 (f := .glo "are_pairs") rfl)), F_are_pairs.kp, (FunD.bindsN F_are_pairs fun _ _ _ _ _ _ us hl => match us, hl with | [_], _ => rfl)⟩
  have G_is_wide_box := dfn_is_wide_box (P := P) (w := w) (base := base) T C_is_between F_is_wide_box
  have C_is_wide_box : Kn P w K mg base CX0 3 "_is_wide_box" ["index", "capacity"] _ := ⟨_, _, G_is_wide_box, (He.glo_ok X G (c1.fact 4 (f := .glo "_is_wide_box") rfl)), F_is_wide_box.kp, (FunD.bindsN F_is_wide_box fun _ _ _ _ _ _ us hl => match us, hl with | [_, _], _ => rfl)⟩
  have G_are_capacities := dfn_are_capacities (P := P) (w := w) (base := base) T C_are_pairs C_is_wide_box F_are_capacities
  have C_are_capacities : Kn P w K mg base CX0 4 "_are_capacities" ["value"] _ := ⟨_, _, G_are_capacities, (He.glo_ok X G (c1.fact 5 (f := .glo "_are_capacities") rfl)), F_are_capacities.kp, (FunD.bindsN F_are_capacities fun _ _ _ _ _ _ us hl => match us, hl with | [_], _ => rfl)⟩
  have G_are_contents := dfn_are_contents (P := P) (w := w) (base := base) T C_are_pairs F_are_contents
  have C_are_contents : Kn P w K mg base CX0 4 "_are_contents" ["value", "capacities"] _ := ⟨_, _, G_are_contents, (He.glo_ok X G (c1.fact 6 (f := .glo "_are_contents") rfl)), F_are_contents.kp, (FunD.bindsN F_are_contents fun _ _ _ _ _ _ us hl => match us, hl with | [_, _], _ => rfl)⟩
  have G_Row_init := dfn_Row_init (P := P) (w := w) (base := base) T C_are_capacities C_are_contents R_Row F_Row_init
  obtain ⟨ds_Row, dv_Row, db_Row⟩ := FunD.binds1 (ps := ["self", "contents", "capacities"]) F_Row_init 3 2 (List.cons_ne_nil _ _) rfl fun _ _ _ _ _ _ _ us its h1 h2 => match us, its, h1, h2 with | [_, _, _], [_, _], _, _ => ⟨_, rfl, rfl⟩
  have C_Row : C8.Mak P w K mg base 5 "Row" (He.ga K "Row") _ [] := ⟨_, _, _, ds_Row, He.mkr_ok (c1.fact 57 (f := .mkr "Row") rfl), G_Row_init, He.glo_ok X G (c1.fact 22 (f := .glo "Row") rfl), db_Row, dv_Row⟩
  have G_Row_contents := dfn_Row_contents (P := P) (w := w) (base := base) T R_Row F_Row_contents
  have C_contents : Prp P w K mg base 1 (He.ga K "Row") "contents" _ := ⟨_, _, _, _, L_Row, po_Row_contents, G_Row_contents, (FunD.bindsN F_Row_contents fun _ _ _ _ _ _ us hl => match us, hl with | [_], _ => rfl)⟩
  have G_Row_capacities := dfn_Row_capacities (P := P) (w := w) (base := base) T R_Row F_Row_capacities
  have C_capacities : Prp P w K mg base 1 (He.ga K "Row") "capacities" _ := ⟨_, _, _, _, L_Row, po_Row_capacities, G_Row_capacities, (FunD.bindsN F_Row_capacities fun _ _ _ _ _ _ us hl => match us, hl with | [_], _ => rfl)⟩
  have G_Row_eq := dfn_Row_eq (P := P) (w := w) (base := base) T R_Row Z_Row F_Row_eq
  have C_eq : EqM P w K mg base 1 (He.ga K "Row") := ⟨_, _, _, G_Row_eq, He.meth_ok (c1.fact 63 (f := .meth "Row" "__eq__") rfl), Z_Row, (FunD.bindsN F_Row_eq fun _ _ _ _ _ _ us hl => match us, hl with | [_, _], _ => rfl)⟩
  have G_is_capacity := dfn_is_capacity (P := P) (w := w) (base := base) T C_is_between F_is_capacity
  have C_is_capacity : Kn P w K mg base CX0 3 "is_capacity" ["value"] _ := ⟨_, _, G_is_capacity, (He.glo_ok X G (c1.fact 7 (f := .glo "is_capacity") rfl)), F_is_capacity.kp, (FunD.bindsN F_is_capacity fun _ _ _ _ _ _ us hl => match us, hl with | [_], _ => rfl)⟩
  have G_are_carriers := dfn_are_carriers (P := P) (w := w) (base := base) T C_is_capacity F_are_carriers
  have C_are_carriers : Kn P w K mg base CX0 4 "_are_carriers" ["value"] _ := ⟨_, _, G_are_carriers, (He.glo_ok X G (c1.fact 8 (f := .glo "_are_carriers") rfl)), F_are_carriers.kp, (FunD.bindsN F_are_carriers fun _ _ _ _ _ _ us hl => match us, hl with | [_], _ => rfl)⟩
  have G_first_index := dfn_first_index (P := P) (w := w) (base := base) T C_contents C_capacities F_first_index
  have C_first_index : Kn P w K mg base CX0 3 "_first_index" ["row"] _ := ⟨_, _, G_first_index, (He.glo_ok X G (c1.fact 9 (f := .glo "_first_index") rfl)), F_first_index.kp, (FunD.bindsN F_first_index fun _ _ _ _ _ _ us hl => match us, hl with | [_], _ => rfl)⟩
  have G_Walk_init := dfn_Walk_init (P := P) (w := w) (base := base) T C_are_carriers C_first_index C_contents R_Walk F_Walk_init
  have C_WalkX : MakX P w K mg base (L2.CX P w) 5 "Walk" (He.ga K "Walk") _ [] := ⟨_, _, _, [], He.mkr_ok (c1.fact 62 (f := .mkr "Walk") rfl), G_Walk_init, He.glo_ok X G (c1.fact 23 (f := .glo "Walk") rfl), (FunD.bindsN F_Walk_init fun _ _ _ _ _ _ us hl => match us, hl with | [_, _, _], _ => rfl), .nil⟩
  have G_Walk_at := dfn_Walk_at (P := P) (w := w) (base := base) T C_is_between R_Walk F_Walk_at
  have C_at : C8.Met P w K mg base 4 (He.ga K "Walk") "at" _ [] := ⟨_, _, _, [], L_Walk, He.meth_ok (c1.fact 64 (f := .meth "Walk" "at") rfl), G_Walk_at, (FunD.bindsN F_Walk_at fun _ _ _ _ _ _ us hl => match us, hl with | [_, _], _ => rfl), .nil⟩
  have G_Walk_now := dfn_Walk_now (P := P) (w := w) (base := base) T C_Row C_capacities R_Walk F_Walk_now
  have C_now : C8.Met P w K mg base 8 (He.ga K "Walk") "now" _ [] := ⟨_, _, _, [], L_Walk, He.meth_ok (c1.fact 65 (f := .meth "Walk" "now") rfl), G_Walk_now, (FunD.bindsN F_Walk_now fun _ _ _ _ _ _ us hl => match us, hl with | [_], _ => rfl), .nil⟩
  have G_begun := dfn_begun (P := P) (w := w) (base := base) T F_begun
  have C_begun : Kn P w K mg base CX0 1 "_law_begun" ["script"] _ := ⟨_, _, G_begun, (He.glo_ok X G (c1.fact 10 (f := .glo "_law_begun") rfl)), F_begun.kp, (FunD.bindsN F_begun fun _ _ _ _ _ _ us hl => match us, hl with | [_], _ => rfl)⟩
  have G_mixed := dfn_mixed (P := P) (w := w) (base := base) T F_mixed
  have C_mixed : Kn P w K mg base CX0 1 "_law_mixed" ["state"] _ := ⟨_, _, G_mixed, (He.glo_ok X G (c1.fact 11 (f := .glo "_law_mixed") rfl)), F_mixed.kp, (FunD.bindsN F_mixed fun _ _ _ _ _ _ us hl => match us, hl with | [_], _ => rfl)⟩
  have G_take := dfn_take (P := P) (w := w) (base := base) T C_mixed F_take
  have C_take : Kn P w K mg base CX0 2 "_law_take" ["state", "size"] _ := ⟨_, _, G_take, (He.glo_ok X G (c1.fact 12 (f := .glo "_law_take") rfl)), F_take.kp, (FunD.bindsN F_take fun _ _ _ _ _ _ us hl => match us, hl with | [_, _], _ => rfl)⟩
  have G_pick := dfn_pick (P := P) (w := w) (base := base) T C_take F_pick
  have C_pick : Kn P w K mg base CX0 3 "_law_pick" ["state", "some"] _ := ⟨_, _, G_pick, (He.glo_ok X G (c1.fact 13 (f := .glo "_law_pick") rfl)), F_pick.kp, (FunD.bindsN F_pick fun _ _ _ _ _ _ us hl => match us, hl with | [_, _], _ => rfl)⟩
  have G_sizes := dfn_sizes (P := P) (w := w) (base := base) T C_take C_pick F_sizes
  have C_sizes : Kn P w K mg base CX0 4 "_law_sizes" ["state", "most"] _ := ⟨_, _, G_sizes, (He.glo_ok X G (c1.fact 14 (f := .glo "_law_sizes") rfl)), F_sizes.kp, (FunD.bindsN F_sizes fun _ _ _ _ _ _ us hl => match us, hl with | [_, _], _ => rfl)⟩
  have G_boxes := dfn_boxes (P := P) (w := w) (base := base) T C_take C_pick F_boxes
  have C_boxes : Kn P w K mg base CX0 4 "_law_boxes" ["state", "sizes", "most"] _ := ⟨_, _, G_boxes, (He.glo_ok X G (c1.fact 15 (f := .glo "_law_boxes") rfl)), F_boxes.kp, (FunD.bindsN F_boxes fun _ _ _ _ _ _ us hl => match us, hl with | [_, _, _], _ => rfl)⟩
  have G_made := dfn_made (P := P) (w := w) (base := base) T C_Row F_made
  have C_made : Kn P w K mg base CX0 7 "_law_made" ["boxes", "sizes"] _ := ⟨_, _, G_made, (He.glo_ok X G (c1.fact 16 (f := .glo "_law_made") rfl)), F_made.kp, (FunD.bindsN F_made fun _ _ _ _ _ _ us hl => match us, hl with | [_, _], _ => rfl)⟩
  have G_near := dfn_near (P := P) (w := w) (base := base) T C_take C_pick F_near
  have C_near : Kn P w K mg base CX0 4 "_law_near" ["state", "sizes", "most"] _ := ⟨_, _, G_near, (He.glo_ok X G (c1.fact 17 (f := .glo "_law_near") rfl)), F_near.kp, (FunD.bindsN F_near fun _ _ _ _ _ _ us hl => match us, hl with | [_, _, _], _ => rfl)⟩
  have G_are_good := dfn_are_good (P := P) (w := w) (base := base) T F_are_good
  have C_are_good : Kn P w K mg base CX0 1 "_law_are_good" ["thing"] _ := ⟨_, _, G_are_good, (He.glo_ok X G (c1.fact 18 (f := .glo "_law_are_good") rfl)), F_are_good.kp, (FunD.bindsN F_are_good fun _ _ _ _ _ _ us hl => match us, hl with | [_], _ => rfl)⟩
  have G_named := dfn_named (P := P) (w := w) (base := base) T Z_BadCapacity F_named
  have C_named : Kn P w K mg base CX0 1 "_law_named" ["caught"] _ := ⟨_, _, G_named, (He.glo_ok X G (c1.fact 19 (f := .glo "_law_named") rfl)), F_named.kp, (FunD.bindsN F_named fun _ _ _ _ _ _ us hl => match us, hl with | [_], _ => rfl)⟩
  exact dfn_law (P := P) (w := w) (base := base) T C_begun C_take C_pick C_boxes C_made C_sizes C_near C_are_good C_at C_now C_eq C_named C_WalkX R_Walk Z_BadCapacity F_error (He.glo_ok X G (c1.fact 20 (f := .glo "_law_error") rfl)) (FunD.bindsN F_error fun _ _ _ _ _ _ us hl => match us, hl with | [_], _ => rfl) TB F_law
end SR
open PySem PySem.W PySem.Calls PyProof.Rows
set_option maxRecDepth 100000 in
set_option maxHeartbeats 0 in
theorem PySem.Challenge.cw_scooprow_k29_walks_refused_holds : PySem.Challenge.rw_scooprow_k29_walks_refused.Holds := by
  w_on; o_law
  refine HandSHeadRun.head_any (r := OpenLaw.row PySem.Challenge.rw_scooprow_k29_walks_refused) (q := view (OpenLaw.row PySem.Challenge.rw_scooprow_k29_walks_refused).prog [45]) (H := SR.hk) (ob := SR.ob) (M := 5400) (loose := SR.others) (d := HandSHeadRun.topDef (OpenLaw.row PySem.Challenge.rw_scooprow_k29_walks_refused).prog 45) (kwd := []) SR.ob_eq
    (by kernel_rfl) (fun s => by kernel_rfl) SR.run (by kernel_rfl) (by kernel_rfl) (by kernel_rfl) (by rfl) (by first | assumption | decide +kernel) (by decide +kernel) ⟨rfl, rfl, rfl, rfl, rfl, by decide +kernel⟩ ?hw ?hc
  case hw => w_witness2
  case hc =>
    refine SR.walk_ofT (l := PySem.Challenge.rw_scooprow_k29_walks_refused) (n := 63) (k := 20) (x := "script") (CX := L2.CX0) rfl (by decide) (by kernel_rfl) ⟨rfl, by decide, by decide⟩ ?F (fun _ _ _ _ z => z)
    intro w mg fa h Y G hmg0
    obtain ⟨K, KX, c⟩ := Y
    have hmg : mg ("law" : PySem.Str) = some (.ref fa) := by
      have e : (HandSHeadRun.topDef (OpenLaw.row PySem.Challenge.rw_scooprow_k29_walks_refused).prog 45).name = ("law" : PySem.Str) := by kernel_rfl
      rw [← e]
      exact hmg0
    obtain ⟨fd, hb, hF⟩ := SR.facts (P := (PySem.Challenge.rw_scooprow_k29_walks_refused).prog) (w := w) KX G hmg c.s rfl rfl
    refine ⟨K, fd, [He.cT K ("law", none)], SR.spLawL K (He.cT K ("law", none)).2, KX, fun p hp => ?_, fun p hp => ?_, fun p hp => ?_, hb, fun H a ns hl hP hS => ⟨a, ns, rfl, hS, hl, hP _ List.mem_cons_self, fun _ => rfl⟩, fun base h1 h2 h3 => hF base h1 h2 (h3 _ List.mem_cons_self)⟩
    · rw [List.mem_singleton.mp hp]
      exact c.empty _ List.mem_cons_self
    · rw [List.mem_singleton.mp hp]
      exact c.out _ List.mem_cons_self
    · rw [List.mem_singleton.mp hp]
      exact PySem.W.codeHd_of_K KX (c.hd _ List.mem_cons_self)
