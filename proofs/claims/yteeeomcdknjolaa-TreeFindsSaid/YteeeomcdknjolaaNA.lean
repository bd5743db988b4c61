import Derived.Test.YteeeomcdknjolaaProg
import Derived.Laws.BitsAllLaws
import Derived.Tactics
import Derived.WalkKit
import Derived.Below
import Derived.Lib.Hide
import Derived.Lib.Walk
import Derived.Laws.ResultCell
import Derived.Deep.WholeRow
import Derived.Laws.Alloc2
import Derived.Laws.NewBlocks
import Derived.Maps.AppendAt
import Derived.Deep.AppendLies
import Derived.Laws.BytesArg
import Derived.Laws.OwnMore
import Derived.Lib.AppendZeros
import Derived.OwnWalk
import Derived.BigQuiet
import Derived.Deep.QuietTactic
import Derived.Lib.SlBytesConst
import Derived.LoopTactic
import Derived.Lib.AppendStr
import Derived.Orders
import Derived.OrdersIn
import Derived.StillTail
import GoSem.Op.String
import Derived.Deep.DeepCutAuto
import Derived.Laws.CopyOwn
import Derived.Deep.OwnRows
import Derived.OneCell
/- Taken together by slice.py. -/
namespace Go.Proofs.Yteeeomcdknjolaa.Crc

def tk : BitVec 32 := 79764919#32
def ones : BitVec 32 := 4294967295#32
/-- A word shifted by one bit. -/
def sh (x : BitVec 32) : BitVec 32 := if x.msb then (x <<< 1) ^^^ tk else x <<< 1
def shn : Nat → BitVec 32 → BitVec 32
  | 0, x => x
  | n + 1, x => shn n (sh x)
/-- An octet at a place of a word. -/
def o (k : Nat) (b : UInt8) : BitVec 32 := (b.toBitVec.setWidth 32) <<< k
/-- One octet taken. -/
def st (x : BitVec 32) (b : UInt8) : BitVec 32 := shn 8 (x ^^^ o 24 b)
def crc (x : BitVec 32) (l : List UInt8) : BitVec 32 := l.foldl st x
def sumB (l : List UInt8) : BitVec 32 := ~~~ crc ones l
def acc (x : BitVec 32) (b : UInt8) : BitVec 32 := (x <<< 8) ||| (b.toBitVec.setWidth 32)
def word (x : BitVec 32) (l : List UInt8) : BitVec 32 := l.foldl acc x
/-- The octets of a word, the highest first. -/
def oct (k : Nat) (n : Nat) : UInt8 := UInt8.ofNat (n / 2 ^ k)
def four (x : BitVec 32) : List UInt8 := [oct 24 x.toNat, oct 16 x.toNat, oct 8 x.toNat, oct 0 x.toNat]
end Go.Proofs.Yteeeomcdknjolaa.Crc

namespace Go.Proofs.Yteeeomcdknjolaa.Chk
open Go.RowKit Crc

/-- The slice at an address (or none) has, in this world, below block B, the octets of the list. -/
def Octs (w : World) (B : Nat) (A : Option Addr) (l : List UInt8) : Prop :=
  ∀ i, (h : i < l.length) → ∃ ad, A = some ad ∧ ad.block < B ∧ w.cell? (ad.add i) = some (.int .u8 (l[i].toNat : Int))
theorem blockAdd (a : Addr) (n : Nat) : (a.add n).block = a.block := by unfold Addr.add; split <;> rfl
theorem Octs.moved {w w' : World} {B : Nat} {A : Option Addr} {l : List UInt8} (h : Octs w B A l) (hc : ∀ p : Addr, p.block < B → w'.cell? p = w.cell? p) : Octs w' B A l := fun i hi => by
  obtain ⟨ad, e, hb, c⟩ := h i hi
  exact ⟨ad, e, hb, (hc _ (by rw [blockAdd]; exact hb)).trans c⟩
theorem Octs.below {w w' : World} {B B' : Nat} {A : Option Addr} {l : List UInt8} (h : Octs w B A l) (hb : Below B' w w') (hB : B ≤ B') : Octs w' B A l := h.moved fun _ hp => hb.cell (Nat.lt_of_lt_of_le hp hB)
theorem Octs.more {w : World} {B B' : Nat} {A : Option Addr} {l : List UInt8} (h : Octs w B A l) (hB : B ≤ B') : Octs w B' A l := fun i hi => by
  obtain ⟨ad, e, hb, c⟩ := h i hi
  exact ⟨ad, e, by omega, c⟩
end Go.Proofs.Yteeeomcdknjolaa.Chk

namespace Go.Proofs.Yteeeomcdknjolaa.Chk
open Go.RowKit Crc

/-- The slice at an address (or none) has, in this world, below block B, slices that read as the lists of octets. -/
def Parts (w : World) (B : Nat) (A : Option Addr) (L : List (List UInt8)) : Prop :=
  ∀ i, (h : i < L.length) → ∃ ad A' c, A = some ad ∧ ad.block < B ∧ w.cell? (ad.add i) = some (.slice A' L[i].length c) ∧ Octs w B A' L[i] ∧ L[i].length ≤ 1000000
theorem Parts.below {w w' : World} {B B' : Nat} {A : Option Addr} {L : List (List UInt8)} (h : Parts w B A L) (hb : Below B' w w') (hB : B ≤ B') : Parts w' B A L := fun i hi => by
  obtain ⟨ad, A', c, e, hb1, hc, ho, hl⟩ := h i hi
  exact ⟨ad, A', c, e, hb1, (hb.cell (by rw [blockAdd]; omega)).trans hc, ho.below hb hB, hl⟩
theorem Parts.more {w : World} {B B' : Nat} {A : Option Addr} {L : List (List UInt8)} (h : Parts w B A L) (hB : B ≤ B') : Parts w B' A L := fun i hi => by
  obtain ⟨ad, A', c, e, hb1, hc, ho, hl⟩ := h i hi
  exact ⟨ad, A', c, e, by omega, hc, ho.more hB, hl⟩
end Go.Proofs.Yteeeomcdknjolaa.Chk

namespace Go.Proofs.Yteeeomcdknjolaa.Chk
open Go.RowKit Crc

theorem Octs.take {w : World} {B : Nat} {A : Option Addr} {l : List UInt8} (h : Octs w B A l) (k : Nat) : Octs w B A (l.take k) := fun i hi => by
  rw [List.length_take] at hi
  obtain ⟨ad, e, hb, c⟩ := h i (by omega)
  exact ⟨ad, e, hb, by rw [c, List.getElem_take]⟩
theorem addAdd (a : Addr) (i j : Nat) : (a.add i).add j = a.add (i + j) := by
  unfold Addr.add
  by_cases hi : i = 0 <;> by_cases hj : j = 0 <;> simp [hi, hj, Nat.add_assoc]
theorem Octs.drop {w : World} {B : Nat} {ad : Addr} {l : List UInt8} (h : Octs w B (some ad) l) (k : Nat) : Octs w B (some (ad.add k)) (l.drop k) := fun i hi => by
  rw [List.length_drop] at hi
  obtain ⟨ad', e, hb, c⟩ := h (k + i) (by omega)
  injection e with e
  subst e
  exact ⟨_, rfl, by rw [blockAdd]; exact hb, by rw [addAdd, c, List.getElem_drop]⟩
end Go.Proofs.Yteeeomcdknjolaa.Chk

namespace Go.Proofs.Yteeeomcdknjolaa.Chk
open Go.RowKit Crc

theorem Octs.left {w : World} {B : Nat} {A : Option Addr} {l m : List UInt8} (h : Octs w B A (l ++ m)) : Octs w B A l := by
  have := h.take l.length
  rwa [List.take_left] at this
end Go.Proofs.Yteeeomcdknjolaa.Chk

namespace Go.Proofs.Yteeeomcdknjolaa.Chk
open Go.RowKit Crc

def text (l : List UInt8) : ByteArray := ⟨l.toArray⟩
theorem text_list (l : List UInt8) : (text l).data.toList = l := by simp [text]
theorem text_size (l : List UInt8) : (text l).size = l.length := by show l.toArray.size = _; simp
theorem text_append (l m : List UInt8) : text l ++ text m = text (l ++ m) := by
  apply ByteArray.ext
  simp [text]
theorem text_toList (l : List UInt8) : (text l).toList = l := by rw [ByteArray.toList_eq]; exact text_list l
end Go.Proofs.Yteeeomcdknjolaa.Chk

namespace Go.Proofs.Yteeeomcdknjolaa.Frm
open Crc

def be : Nat → Nat → List UInt8
  | 0, _ => []
  | k + 1, n => oct (8 * k) n :: be k n
def numFrom (a : Nat) (l : List UInt8) : Nat := l.foldl (fun n b => n * 256 + b.toNat) a
def num (l : List UInt8) : Nat := numFrom 0 l
def magic : List UInt8 := [98, 117, 114, 115]
def hd (s : Nat) (d : List UInt8) : List UInt8 := magic ++ (be 6 s ++ (be 2 d.length ++ four (sumB d)))
def sect (n : Nat) : Nat := (n + 83) / 64
def size (n : Nat) : Nat := sect n * 64
def pad (n : Nat) : Nat := size n - (20 + n)
def noughts8 (k : Nat) : List UInt8 := List.replicate k 0
def seqOf (l : List UInt8) : Nat := num ((l.drop 4).take 6)
def cntOf (l : List UInt8) : Nat := num ((l.drop 10).take 2)
def headOk (l : List UInt8) : Prop := l.take 4 = magic ∧ seqOf l ≠ 0 ∧ cntOf l ≤ 6000
instance (l : List UInt8) : Decidable (headOk l) := by unfold headOk; exact inferInstance
def datOf (l : List UInt8) : List UInt8 := (l.drop 16).take (cntOf l)
def sumsOk (l : List UInt8) : Prop := num ((l.drop 12).take 4) = (sumB (datOf l)).toNat ∧ num ((l.drop (16 + cntOf l)).take 4) = (sumB (l.take (16 + cntOf l))).toNat
instance (l : List UInt8) : Decidable (sumsOk l) := by unfold sumsOk; exact inferInstance
def padOk (l : List UInt8) : Prop := (l.take (size (cntOf l))).drop (20 + cntOf l) = noughts8 (pad (cntOf l))
instance (l : List UInt8) : Decidable (padOk l) := by unfold padOk; exact inferInstance
end Go.Proofs.Yteeeomcdknjolaa.Frm

namespace Go.Proofs.Yteeeomcdknjolaa.Fra
open Go.RowKit Crc Chk Frm

theorem retb {a b : Bool} (h : a = b) : Ending.returned (.bool a) = .returned (.bool b) := by rw [h]
def mayB (s : Int) (n : Nat) : Bool := decide (1 ≤ s) && (decide (s ≤ 281474976710655) && decide (n ≤ 6000))
end Go.Proofs.Yteeeomcdknjolaa.Fra

namespace Go.Proofs.Yteeeomcdknjolaa.Fra
open Go.RowKit
variable {P : Program} {md : Region.Mode} {ops : Array Oper} {Q : Exit → Act → World → Prop}

/-- Each operation has a place of its own in the frame, and waits for earlier ones only. -/
def placed (ops : Array Oper) (size : Nat) : Bool :=
  (List.range ops.size).all fun i => match ops[i]? with
    | none => false
    | some o => (match o.dst with
      | none => false
      | some t => decide (t < size) && (List.range ops.size).all fun j => decide (i = j) || (match ops[j]? with | none => true | some o' => o'.dst != some t)) &&
      o.after.all fun e => decide (e.on < i)
theorem placed_one {ops : Array Oper} {size i : Nat} {o : Oper} (h : placed ops size = true) (hi : ops[i]? = some o) :
    ∃ t, o.dst = some t ∧ t < size ∧ (∀ j o', ops[j]? = some o' → i ≠ j → o'.dst ≠ some t) ∧ ∀ e ∈ o.after, e.on < i := by
  have hlt : i < ops.size := (Array.getElem?_eq_some_iff.1 hi).1
  unfold placed at h
  rw [List.all_eq_true] at h
  have h1 := h i (List.mem_range.2 hlt)
  rw [hi] at h1
  simp only [Bool.and_eq_true] at h1
  obtain ⟨h2, h3⟩ := h1
  cases hd : o.dst with
  | none => rw [hd] at h2; cases h2
  | some t =>
    rw [hd] at h2
    simp only [Bool.and_eq_true, decide_eq_true_eq, List.all_eq_true] at h2
    refine ⟨t, rfl, h2.1, fun j o' hj hne => ?_, fun e he => ?_⟩
    · have h4 := h2.2 j (List.mem_range.2 (Array.getElem?_eq_some_iff.1 hj).1)
      rw [hj] at h4
      simpa [hne] using h4
    · rw [Array.all_eq_true_iff_forall_mem] at h3
      exact of_decide_eq_true (h3 e he)
theorem eval_put_same {a : Act} {t : Nat} {v : Value} (h : t < a.tmps.size) : (a.put (some t) v).eval (.tmp t) = v := by
  simp [Act.put, Act.eval, h]
structure Kept (ops : Array Oper) (a0 : Act) (w0 : World) (Φ : Nat → Value → World → Prop) (listed : Array Bool) (a : Act) (w : World) : Prop where
  below : Below w0.heap.size w0 w
  defers : a.defers = a0.defers
  size : a.tmps.size = a0.tmps.size
  frame : ∀ t : Nat, (∀ (i : Nat) (o : Oper), ops[i]? = some o → o.dst ≠ some t) → a.eval (.tmp t) = a0.eval (.tmp t)
  done : ∀ (i : Nat) (o : Oper) (t : Nat), ops[i]? = some o → o.dst = some t → listed.getD i false = true → Φ i (a.eval (.tmp t)) w
/-- What an operation leaves. -/
def Leaves (o : Oper) (φ : Value → World → Prop) (a : Act) (w : World) (a' : Act) (w' : World) : Prop := ∃ v, a' = a.put o.dst v ∧ φ v w' ∧ Below w.heap.size w w'
theorem kept_next {a0 : Act} {w0 : World} {Φ : Nat → Value → World → Prop} {listed : Array Bool} {a a' : Act} {w w' : World} {i : Nat} {o : Oper}
    (stab : ∀ (i : Nat) (v : Value) (w w' : World), Below w.heap.size w w' → Φ i v w → Φ i v w') (hp : placed ops a0.tmps.size = true) (hi : ops[i]? = some o) (h : Kept ops a0 w0 Φ listed a w)
    (hl : Leaves o (Φ i) a w a' w') : Kept ops a0 w0 Φ (listed.setIfInBounds i true) a' w' := by
  obtain ⟨v, rfl, hv, hb⟩ := hl
  obtain ⟨t, ht, hts, hdist, _⟩ := placed_one hp hi
  have hmid : Below w0.heap.size w0 w' := h.below.trans (hb.mono h.below.size)
  refine ⟨hmid, by rw [ht]; exact h.defers, by rw [ht]; simp only [Act.put, Array.size_setIfInBounds]; exact h.size, fun t' ht' => ?_, fun j o' t' hj hd hlj => ?_⟩
  · rw [Act.eval_put (fun d hd e => by
      injection e with e
      exact ht' i o hi (by rw [e]; exact hd))]
    exact h.frame t' ht'
  · by_cases hij : i = j
    · subst hij
      have : o' = o := Option.some.inj (hj.symm.trans hi)
      subst this
      have : t' = t := Option.some.inj (hd.symm.trans ht)
      subst this
      rw [ht, eval_put_same (by rw [h.size]; exact hts)]
      exact hv
    · rw [getD_set_ne false hij] at hlj
      have hne : t' ≠ t := fun e => hdist j o' hj hij (by rw [hd, e])
      rw [Act.eval_put (fun d hd' e => by
        injection e with e
        rw [ht] at hd'
        injection hd' with hd'
        exact hne (by rw [e, hd']))]
      exact stab j _ w w' hb (h.done j o' t' hj hd hlj)
theorem ready_all {listed : Array Bool} {size : Nat} (hp : placed ops size = true) (hs : listed.size = ops.size) (hr : Region.ready md ops listed = []) : ∀ i, i < ops.size → listed.getD i false = true := by
  intro i
  induction i using Nat.strongRecOn with
  | ind i ih =>
    intro hi
    obtain ⟨o, ho⟩ : ∃ o, ops[i]? = some o := ⟨_, Array.getElem?_eq_getElem hi⟩
    obtain ⟨_, _, _, _, hback⟩ := placed_one hp ho
    cases hv : listed.getD i false with
    | true => rfl
    | false =>
      exfalso
      have hlt : i < listed.size := by omega
      have hm : i ∈ Region.ready md ops listed := mem_ready.2 ⟨by
        rw [← hv]
        simp [Array.getD, hlt], o, ho, fun e he _ => ih e.on (hback e he) (by have := hback e he; omega)⟩
      rw [hr] at hm
      cases hm
def unl (listed : Array Bool) : Nat := listed.toList.count false
theorem unl_set {listed : Array Bool} {i : Nat} (h : listed.getD i true = false) : unl (listed.setIfInBounds i true) + 1 = unl listed := by
  have hlt : i < listed.size := by
    rcases Nat.lt_or_ge i listed.size with h' | h'
    · exact h'
    · simp [Array.getElem?_eq_none h'] at h
  have hv : listed.toList[i]'(by simpa using hlt) = false := by
    simpa [Array.getD, hlt] using h
  have hpos : 0 < listed.toList.count false := List.count_pos_iff.2 (by rw [← hv]; exact List.getElem_mem _)
  unfold unl
  rw [Array.toList_setIfInBounds, List.count_set (by simpa using hlt), hv]
  have e1 : (if (false == false) = true then 1 else 0) = 1 := rfl
  have e2 : (if (true == false) = true then 1 else 0) = 0 := rfl
  rw [e1, e2]
  omega
theorem unl_zero {listed : Array Bool} (h : unl listed = 0) (i : Nat) (hi : i < listed.size) : listed.getD i false = true := by
  cases hv : listed.getD i false with
  | true => rfl
  | false =>
    exfalso
    have : listed.toList[i]'(by simpa using hi) = false := by simpa [Array.getD, hi] using hv
    exact List.count_eq_zero.1 h (by rw [← this]; exact List.getElem_mem _)
theorem all_unl {listed : Array Bool} (h : ∀ i, i < listed.size → listed.getD i false = true) : unl listed = 0 := by
  unfold unl
  rw [List.count_eq_zero]
  intro hm
  obtain ⟨i, hi, hv⟩ := List.getElem_of_mem hm
  have hlt : i < listed.size := by simpa using hi
  have := h i hlt
  simp [Array.getD, hlt] at this
  simp [this] at hv
/-- THE LAW. -/
theorem wpAny_by {a0 : Act} {w0 : World} (Φ : Nat → Value → World → Prop) (stab : ∀ (i : Nat) (v : Value) (w w' : World), Below w.heap.size w w' → Φ i v w → Φ i v w') (hp : placed ops a0.tmps.size = true)
    (step : ∀ (i : Nat) (o : Oper) (listed : Array Bool) (a : Act) (w : World), ops[i]? = some o → Kept ops a0 w0 Φ listed a w → (∀ e ∈ o.after, Region.binds md e = true → listed.getD e.on false = true) → wpOp P ops Q i (Leaves o (Φ i) a w) a w)
    (fin : ∀ (listed : Array Bool) (a : Act) (w : World), Kept ops a0 w0 Φ listed a w → (∀ i, i < ops.size → listed.getD i false = true) → Q .normal a w) :
    ∀ (fuel : Nat) (listed : Array Bool) (a : Act) (w : World), listed.size = ops.size → unl listed = fuel → Kept ops a0 w0 Φ listed a w → wpAny P md ops Q fuel listed a w := by
  intro fuel
  induction fuel with
  | zero =>
    intro listed a w hs hu hk
    have hall : ∀ i, i < ops.size → listed.getD i false = true := fun i hi => unl_zero hu i (by omega)
    refine ⟨?_, fin listed a w hk hall⟩
    rw [List.eq_nil_iff_forall_not_mem]
    intro i hi
    rw [mem_ready] at hi
    obtain ⟨h0, o, ho, _⟩ := hi
    have hlt : i < listed.size := by rw [hs]; exact (Array.getElem?_eq_some_iff.1 ho).1
    have := unl_zero hu i hlt
    simp [Array.getD, hlt] at this h0
    rw [this] at h0
    cases h0
  | succ fuel ih =>
    intro listed a w hs hu hk
    refine ⟨fun hr => ?_, fun i hi => ?_⟩
    · have := all_unl (listed := listed) (fun i hi => ready_all hp hs hr i (by omega))
      omega
    · have hi' := hi
      rw [mem_ready] at hi'
      obtain ⟨h0, o, ho, hall⟩ := hi'
      refine wpOp_mono (fun a' w' hl => ?_) (step i o listed a w ho hk hall)
      exact ih _ a' w' (by simp [hs]) (by have := unl_set h0; omega) (kept_next stab hp ho hk hl)
/-- THE LAW, at a region. -/
theorem wp_region_by {id : Nat} {a : Act} {w : World} (hm : P.follows .mixedOrders = true) (Φ : Nat → Value → World → Prop) (stab : ∀ (i : Nat) (v : Value) (w w' : World), Below w.heap.size w w' → Φ i v w → Φ i v w') (hp : placed ops a.tmps.size = true)
    (step : ∀ (i : Nat) (o : Oper) (listed : Array Bool) (a' : Act) (w' : World), ops[i]? = some o → Kept ops a w Φ listed a' w' → (∀ e ∈ o.after, Region.binds .any e = true → listed.getD e.on false = true) → wpOp P ops Q i (Leaves o (Φ i) a' w') a' w')
    (fin : ∀ (listed : Array Bool) (a' : Act) (w' : World), Kept ops a w Φ listed a' w' → (∀ i, i < ops.size → listed.getD i false = true) → Q .normal a' w') : (Code.region id ops true).wp P Q a w := by
  refine wp_region_any hm (wpAny_by (a0 := a) (w0 := w) Φ stab hp step fin _ _ _ _ (by simp) ?_ ?_)
  · unfold unl
    simp
  · refine ⟨⟨rfl, rfl, rfl, Nat.le_refl _, fun _ _ => rfl⟩, rfl, rfl, fun _ _ => rfl, fun i o t hi _ hl => ?_⟩
    exfalso
    have hlt := (Array.getElem?_eq_some_iff.1 hi).1
    simp [hlt] at hl
structure Left where
  holds : Value → World → Prop
  stab : ∀ (v : Value) (w w' : World), Below w.heap.size w w' → holds v w → holds v w'
def Left.val (x : Value) : Left := ⟨fun v _ => v = x, fun _ _ _ _ h => h⟩
def Phi (L : List Left) (i : Nat) (v : Value) (w : World) : Prop := match L[i]? with
  | none => True
  | some p => p.holds v w
theorem phi_stab (L : List Left) (i : Nat) (v : Value) (w w' : World) (hb : Below w.heap.size w w') (h : Phi L i v w) : Phi L i v w' := by
  unfold Phi at h ⊢
  cases hl : L[i]? with
  | none => trivial
  | some p =>
    rw [hl] at h
    exact p.stab v w w' hb h
theorem wpOp_of {i : Nat} {o : Oper} {a : Act} {w : World} {K : Act → World → Prop} (hi : ops[i]? = some o) (hw : Region.wanted o (yielded ops a.tmps) = true) (h : o.wp P a w K Q) : wpOp P ops Q i K a w := by
  unfold wpOp
  simp only [hi, hw, if_true]
  exact .inl h
theorem wanted_of {o : Oper} {a : Act} {j t : Nat} {b : Bool} (hg : o.guard = some (j, b)) (hj : ((ops[j]?).bind (·.dst)) = some t) (h : a.eval (.tmp t) = .bool b) : Region.wanted o (yielded ops a.tmps) = true := by
  have h' : a.tmps[t]? = some (.bool b) := by
    unfold Act.eval at h
    cases ht : a.tmps[t]? with
    | none => simp [Array.getD] at h; split at h <;> simp_all [undef]
    | some v => simp [ht] at h; rw [h]
  unfold Region.wanted
  rw [hg]
  simp [yielded, hj, h']
theorem wp_value {o : Oper} {a : Act} {w : World} {v : Value} {φ : Value → World → Prop} (hr : (execOp a.eval o).run P w = .ok (.value v) w) (h : φ v w) : o.wp P a w (Leaves o φ a w) Q := by
  unfold Oper.wp
  rw [hr]
  exact ⟨v, rfl, h, Below.refl _ _⟩
theorem frame_of {t : Nat} (h : (ops.all fun o => o.dst != some t) = true) (i : Nat) (o : Oper) (hi : ops[i]? = some o) : o.dst ≠ some t := by
  rw [Array.all_eq_true_iff_forall_mem] at h
  have := h o (Array.mem_of_getElem? hi)
  simpa using this
theorem getD_set_mono {listed : Array Bool} {i j : Nat} (h : listed.getD j false = true) : (listed.setIfInBounds i true).getD j false = true := by
  by_cases hij : i = j
  · subst hij
    have : i < listed.size := by
      rcases Nat.lt_or_ge i listed.size with h' | h'
      · exact h'
      · simp [Array.getD, Nat.not_lt.2 h'] at h
    simp [Array.getD, this]
  · rw [getD_set_ne false hij]; exact h
/-- What is listed had waited for. -/
def Closed (md : Region.Mode) (ops : Array Oper) (listed : Array Bool) : Prop :=
  listed.size = ops.size ∧ ∀ (i : Nat) (o : Oper), ops[i]? = some o → listed.getD i false = true → ∀ e ∈ o.after, Region.binds md e = true → listed.getD e.on false = true
theorem closed_next {listed : Array Bool} {i : Nat} {o : Oper} (ho : ops[i]? = some o) (h : Closed md ops listed) (hall : ∀ e ∈ o.after, Region.binds md e = true → listed.getD e.on false = true) : Closed md ops (listed.setIfInBounds i true) := by
  refine ⟨by rw [Array.size_setIfInBounds]; exact h.1, fun j o' hj hlj e he hb => ?_⟩
  by_cases hij : i = j
  · subst hij
    have : o' = o := Option.some.inj (hj.symm.trans ho)
    subst this
    exact getD_set_mono (hall e he hb)
  · rw [getD_set_ne false hij] at hlj
    exact getD_set_mono (h.2 j o' hj hlj e he hb)
theorem getD_tf {listed : Array Bool} {i : Nat} (h : listed.getD i true = false) : listed.getD i false = false := by
  rcases Nat.lt_or_ge i listed.size with h' | h'
  · simpa [Array.getD, h'] using h
  · simp [Array.getD, Nat.not_lt.2 h']
theorem getD_set_self {listed : Array Bool} {i : Nat} (h : listed.getD i true = false) : (listed.setIfInBounds i true).getD i false = true := by
  rcases Nat.lt_or_ge i listed.size with h' | h'
  · simp [Array.getD, h']
  · simp [Array.getD, Nat.not_lt.2 h'] at h
theorem ev {a : Act} {t : Nat} {v : Value} (h : a.eval (.tmp t) = v) : a.tmps[t]?.getD undef = v := by simpa [Act.eval] using h
theorem wpAny_full {listed : Array Bool} (h : ∀ i, i < listed.size → listed.getD i false = true) (fuel : Nat) {a : Act} {w : World} (hq : Q .normal a w) : wpAny P md ops Q fuel listed a w := by
  have hr : Region.ready md ops listed = [] := by
    rw [List.eq_nil_iff_forall_not_mem]
    intro i hi
    rw [mem_ready] at hi
    obtain ⟨h0, o, ho, _⟩ := hi
    rcases Nat.lt_or_ge i listed.size with hlt | hge
    · have := h i hlt
      simp [Array.getD, hlt] at this h0
      rw [this] at h0
      cases h0
    · simp [Array.getElem?_eq_none hge] at h0
  cases fuel with
  | zero => exact ⟨hr, hq⟩
  | succ fuel => exact ⟨fun _ => hq, fun i hi => by rw [hr] at hi; cases hi⟩
theorem wpAny_inv (Inv : Array Bool → Act → World → Prop)
    (step : ∀ (i : Nat) (o : Oper) (listed : Array Bool) (a : Act) (w : World), ops[i]? = some o → listed.getD i true = false → Closed md ops listed → (∀ e ∈ o.after, Region.binds md e = true → listed.getD e.on false = true) → Inv listed a w →
      Region.wanted o (yielded ops a.tmps) = true ∧ o.wp P a w (fun a' w' => Inv (listed.setIfInBounds i true) a' w') Q)
    (fin : ∀ (listed : Array Bool) (a : Act) (w : World), (∀ i, i < ops.size → listed.getD i false = true) → Inv listed a w → Q .normal a w)
    (back : ∀ (i : Nat) (o : Oper), ops[i]? = some o → ∀ e ∈ o.after, Region.binds md e = true → e.on < i) :
    ∀ (fuel : Nat) (listed : Array Bool) (a : Act) (w : World), unl listed = fuel → Closed md ops listed → Inv listed a w → wpAny P md ops Q fuel listed a w := by
  intro fuel
  induction fuel with
  | zero =>
    intro listed a w hu hc hi
    have hall : ∀ i, i < listed.size → listed.getD i false = true := fun i hi => unl_zero hu i hi
    exact wpAny_full hall 0 (fin listed a w (fun i h => hall i (by rw [hc.1]; exact h)) hi)
  | succ fuel ih =>
    intro listed a w hu hc hinv
    refine ⟨fun hr => ?_, fun i hi => ?_⟩
    · exfalso
      have hpl : ∀ i, i < ops.size → listed.getD i false = true := by
        intro i
        induction i using Nat.strongRecOn with
        | ind i ihi =>
          intro hiN
          obtain ⟨o, ho⟩ : ∃ o, ops[i]? = some o := ⟨_, Array.getElem?_eq_getElem hiN⟩
          cases hv : listed.getD i false with
          | true => rfl
          | false =>
            exfalso
            have hlt : i < listed.size := by rw [hc.1]; exact hiN
            have hm : i ∈ Region.ready md ops listed := mem_ready.2 ⟨by
              rw [← hv]
              simp [Array.getD, hlt], o, ho, fun e he hbd => ihi e.on (back i o ho e he hbd) (by have := back i o ho e he hbd; omega)⟩
            rw [hr] at hm
            cases hm
      have := all_unl (listed := listed) (fun i hi => hpl i (by rw [← hc.1]; exact hi))
      omega
    · have hi' := hi
      rw [mem_ready] at hi'
      obtain ⟨h0, o, ho, hall⟩ := hi'
      obtain ⟨hw, hwp⟩ := step i o listed a w ho h0 hc hall hinv
      refine wpOp_of ho hw (Oper.wp_mono (fun a' w' h' => ?_) hwp)
      exact ih _ a' w' (by have := unl_set h0; omega) (closed_next ho hc hall) h'
theorem wp_region_inv {id : Nat} {a : Act} {w : World} (hm : P.follows .mixedOrders = true) (Inv : Array Bool → Act → World → Prop)
    (back : ∀ (i : Nat) (o : Oper), ops[i]? = some o → ∀ e ∈ o.after, Region.binds .any e = true → e.on < i)
    (start : Inv (Array.replicate ops.size false) a { w with drawn := w.drawn + 1 })
    (step : ∀ (i : Nat) (o : Oper) (listed : Array Bool) (a' : Act) (w' : World), ops[i]? = some o → listed.getD i true = false → Closed .any ops listed → (∀ e ∈ o.after, Region.binds .any e = true → listed.getD e.on false = true) → Inv listed a' w' →
      Region.wanted o (yielded ops a'.tmps) = true ∧ o.wp P a' w' (fun a'' w'' => Inv (listed.setIfInBounds i true) a'' w'') Q)
    (fin : ∀ (listed : Array Bool) (a' : Act) (w' : World), (∀ i, i < ops.size → listed.getD i false = true) → Inv listed a' w' → Q .normal a' w') :
    (Code.region id ops true).wp P Q a w := by
  refine wp_region_any hm (wpAny_inv Inv step fin back _ _ _ _ ?_ ⟨by simp, ?_⟩ start)
  · unfold unl
    simp
  · intro i o hi hl
    exfalso
    have hlt := (Array.getElem?_eq_some_iff.1 hi).1
    simp [hlt] at hl
/-- Each operation but one, which stores, has a place of its own in the frame. -/
def placedS (ops : Array Oper) (S size : Nat) : Bool :=
  (List.range ops.size).all fun i => match ops[i]? with
    | none => false
    | some o => if i = S then o.dst == none else (match o.dst with
      | none => false
      | some t => decide (t < size) && (List.range ops.size).all fun j => decide (i = j) || (match ops[j]? with | none => true | some o' => o'.dst != some t))
theorem placedS_one {ops : Array Oper} {S size i : Nat} {o : Oper} (h : placedS ops S size = true) (hi : ops[i]? = some o) (hS : i ≠ S) :
    ∃ t, o.dst = some t ∧ t < size ∧ ∀ (j : Nat) (o' : Oper), ops[j]? = some o' → i ≠ j → o'.dst ≠ some t := by
  have hlt : i < ops.size := (Array.getElem?_eq_some_iff.1 hi).1
  unfold placedS at h
  rw [List.all_eq_true] at h
  have h1 := h i (List.mem_range.2 hlt)
  rw [hi] at h1
  simp only [if_neg hS] at h1
  cases hd : o.dst with
  | none => rw [hd] at h1; cases h1
  | some t =>
    rw [hd] at h1
    simp only [Bool.and_eq_true, decide_eq_true_eq, List.all_eq_true] at h1
    refine ⟨t, rfl, h1.1, fun j o' hj hne => ?_⟩
    have h4 := h1.2 j (List.mem_range.2 (Array.getElem?_eq_some_iff.1 hj).1)
    rw [hj] at h4
    simpa [hne] using h4
/-- What stands in the frame. -/
structure Fr (ops : Array Oper) (a0 : Act) (Φ : Nat → Value → Prop) (listed : Array Bool) (a : Act) : Prop where
  defers : a.defers = a0.defers
  size : a.tmps.size = a0.tmps.size
  frame : ∀ t : Nat, (∀ (i : Nat) (o : Oper), ops[i]? = some o → o.dst ≠ some t) → a.eval (.tmp t) = a0.eval (.tmp t)
  done : ∀ (i : Nat) (o : Oper) (t : Nat), ops[i]? = some o → o.dst = some t → listed.getD i false = true → Φ i (a.eval (.tmp t))
theorem fr_next {a0 a : Act} {Φ : Nat → Value → Prop} {Φ' : Nat → Value → Prop} {listed : Array Bool} {S i : Nat} {o : Oper} {v : Value} (hp : placedS ops S a0.tmps.size = true) (hi : ops[i]? = some o) (hS : i ≠ S) (h : Fr ops a0 Φ listed a)
    (hst : ∀ j v, Φ j v → Φ' j v) (hv : Φ' i v) : Fr ops a0 Φ' (listed.setIfInBounds i true) (a.put o.dst v) := by
  obtain ⟨t, ht, hts, hdist⟩ := placedS_one hp hi hS
  refine ⟨by rw [ht]; exact h.defers, by rw [ht]; simp only [Act.put, Array.size_setIfInBounds]; exact h.size, fun t' ht' => ?_, fun j o' t' hj hd hlj => ?_⟩
  · rw [Act.eval_put (fun d hd e => by
      injection e with e
      exact ht' i o hi (by rw [e]; exact hd))]
    exact h.frame t' ht'
  · by_cases hij : i = j
    · subst hij
      have : o' = o := Option.some.inj (hj.symm.trans hi)
      subst this
      have : t' = t := Option.some.inj (hd.symm.trans ht)
      subst this
      rw [ht, eval_put_same (by rw [h.size]; exact hts)]
      exact hv
    · rw [getD_set_ne false hij] at hlj
      have hne : t' ≠ t := fun e => hdist j o' hj hij (by rw [hd, e])
      rw [Act.eval_put (fun d hd' e => by
        injection e with e
        rw [ht] at hd'
        injection hd' with hd'
        exact hne (by rw [e, hd']))]
      exact hst j _ (h.done j o' t' hj hd hlj)
end Go.Proofs.Yteeeomcdknjolaa.Fra

namespace Go.Proofs.Yteeeomcdknjolaa.Fra
open Go.RowKit

theorem fold_set_get (ts : List Nat) (f : Nat → Value) (T : Array Value) (j : Nat) (hj : j < T.size) : (ts.foldl (fun T t => T.setIfInBounds t (f t)) T)[j]? = some (if j ∈ ts then f j else T[j]) := by
  induction ts generalizing T with
  | nil => simp [hj]
  | cons t ts ih =>
    rw [List.foldl_cons, ih _ (by simpa using hj)]
    by_cases h1 : j ∈ ts
    · simp [h1]
    · simp only [h1, if_false]
      by_cases h2 : j = t
      · subst h2
        simp
      · have h3 : j ∉ t :: ts := by simp [h1, h2]
        rw [if_neg h3]
        congr 1
        exact Array.getElem_setIfInBounds_ne _ (Ne.symm h2)
theorem fold_set_size (ts : List Nat) (f : Nat → Value) (T : Array Value) : (ts.foldl (fun T t => T.setIfInBounds t (f t)) T).size = T.size := by
  induction ts generalizing T with
  | nil => rfl
  | cons t ts ih => rw [List.foldl_cons, ih]; simp
theorem fr_act {a0 a : Act} (ts : List Nat) (hs : a.tmps.size = a0.tmps.size) (hd : a.defers = a0.defers) (hf : ∀ t : Nat, t ∉ ts → a.eval (.tmp t) = a0.eval (.tmp t)) :
    a = { tmps := ts.foldl (fun T t => T.setIfInBounds t (a.eval (.tmp t))) a0.tmps, defers := a0.defers } := by
  obtain ⟨T, D⟩ := a
  simp only at hs hd
  subst hd
  congr 1
  apply Array.ext_getElem?
  intro j
  rcases Nat.lt_or_ge j T.size with hj | hj
  · rw [fold_set_get ts _ a0.tmps j (by omega), Array.getElem?_eq_getElem hj]
    congr 1
    by_cases h : j ∈ ts
    · rw [if_pos h]
      simp [Act.eval, hj]
    · rw [if_neg h]
      have := hf j h
      simpa [Act.eval, hj, show j < a0.tmps.size by omega] using this
  · rw [Array.getElem?_eq_none hj, Array.getElem?_eq_none (by rw [fold_set_size]; omega)]
def dstsIn (ops : Array Oper) (ts : List Nat) : Bool := ops.all fun o => match o.dst with | none => true | some t => decide (t ∈ ts)
theorem dstsIn_spec {ops : Array Oper} {ts : List Nat} (h : dstsIn ops ts = true) (t : Nat) (ht : t ∉ ts) (i : Nat) (o : Oper) (hi : ops[i]? = some o) : o.dst ≠ some t := fun e => by
  unfold dstsIn at h
  rw [Array.all_eq_true_iff_forall_mem] at h
  have := h o (Array.mem_of_getElem? hi)
  rw [e] at this
  exact ht (of_decide_eq_true this)
theorem kept_all {ops : Array Oper} {a0 a : Act} {w0 w : World} {Φ : Nat → Value → World → Prop} {listed : Array Bool} (ts : List Nat) (hf : Kept ops a0 w0 Φ listed a w) (h : dstsIn ops ts = true) : a = { tmps := ts.foldl (fun T t => T.setIfInBounds t (a.eval (.tmp t))) a0.tmps, defers := a0.defers } :=
  fr_act ts hf.size hf.defers (fun t ht => hf.frame t (dstsIn_spec h t ht))
theorem wpOp_skip {P : Program} {ops : Array Oper} {Q : Exit → Act → World → Prop} {i : Nat} {o : Oper} {a : Act} {w : World} {K : Act → World → Prop} (hi : ops[i]? = some o) (hw : Region.wanted o (yielded ops a.tmps) = false) (h : K (a.put o.dst undef) w) : wpOp P ops Q i K a w := by
  unfold wpOp
  simp only [hi, hw]
  exact h
theorem unwanted_of {ops : Array Oper} {o : Oper} {a : Act} {j t : Nat} {b b' : Bool} (hg : o.guard = some (j, b)) (hj : ((ops[j]?).bind (·.dst)) = some t) (h : a.eval (.tmp t) = .bool b') (hb : b' ≠ b) : Region.wanted o (yielded ops a.tmps) = false := by
  have h' : a.tmps[t]? = some (.bool b') := by
    unfold Act.eval at h
    cases ht : a.tmps[t]? with
    | none => simp [Array.getD] at h; split at h <;> simp_all [undef]
    | some v => simp [ht] at h; rw [h]
  unfold Region.wanted
  rw [hg]
  simp [yielded, hj, h', hb]
end Go.Proofs.Yteeeomcdknjolaa.Fra

namespace Go.Proofs.Yteeeomcdknjolaa.Fra
open Go.RowKit
variable {P : Program} {ops : Array Oper} {Q : Exit → Act → World → Prop}

/-- Each waits for the one before it. -/
def chained (ops : Array Oper) (cs : List Nat) : Bool := (cs.zip cs.tail).all fun p => Region.waitsFor .any ops p.2 p.1
theorem chained_at {cs : List Nat} (h : chained ops cs = true) {k i j : Nat} (h1 : cs[k]? = some i) (h2 : cs[k + 1]? = some j) : Region.waitsFor .any ops j i = true := by
  unfold chained at h
  rw [List.all_eq_true] at h
  refine h (i, j) (List.mem_of_getElem? (i := k) ?_)
  rw [List.getElem?_zip_eq_some]
  exact ⟨h1, by rw [List.getElem?_tail]; exact h2⟩
theorem closed_of {listed : Array Bool} {i j : Nat} (hc : Closed .any ops listed) (h : Region.waitsFor .any ops j i = true) (hj : listed.getD j false = true) : listed.getD i false = true := by
  obtain ⟨o, ho, e, he, hb, rfl⟩ := Region.waitsFor_spec h
  exact hc.2 j o ho hj e he hb
theorem nodup_at {cs : List Nat} (h : cs.Nodup) {j k i : Nat} (h1 : cs[j]? = some i) (h2 : cs[k]? = some i) : j = k := by
  obtain ⟨a1, b1⟩ := List.getElem?_eq_some_iff.1 h1
  obtain ⟨a2, b2⟩ := List.getElem?_eq_some_iff.1 h2
  have hp := List.pairwise_iff_getElem.1 h
  rcases Nat.lt_trichotomy j k with h | h | h
  · exact absurd (b1.trans b2.symm) (hp j k a1 a2 h)
  · exact h
  · exact absurd (b2.trans b1.symm) (hp k j a2 a1 h)
end Go.Proofs.Yteeeomcdknjolaa.Fra

namespace Go.Proofs.Yteeeomcdknjolaa.Nod
open Crc Frm

abbrev T := List UInt8
structure Nd where
  ps : List (T × T)
  ks : List T
  cs : List Int
deriving DecidableEq
def Nd.nil : Nd := ⟨[], [], []⟩
def ltB (a b : T) : Bool := Go.Op.bytesLess a b
def keyB (s : T) : Bool := decide (1 ≤ s.length) && decide (s.length ≤ 24)
def valB (s : T) : Bool := decide (s.length ≤ 60)
/-- Keys that may be and rise. -/
def riseB (l : List T) : Bool := (List.range l.length).all fun i => keyB (l.getD i []) && (decide (i = 0) || ltB (l.getD (i - 1) []) (l.getD i []))
def kidsB (l : List Int) : Bool := (List.range l.length).all fun i => (decide (0 ≤ l.getD i 0) && decide (l.getD i 0 < 200)) && !(l.take i).contains (l.getD i 0)
def leafB (n : Nd) : Bool := decide (n.ks.length = 0) && (decide (n.ps.length ≤ 5) && ((n.ps.all fun p => valB p.2) && riseB (n.ps.map (·.1))))
def innerB (n : Nd) : Bool := (decide (n.ps.length = 0) && (decide (2 ≤ n.cs.length) && (decide (n.cs.length ≤ 8) && decide (n.ks.length + 1 = n.cs.length)))) && (kidsB n.cs && riseB n.ks)
def mayB (n : Nd) : Bool := if n.cs.length = 0 then leafB n else innerB n
theorem rise_at {l : List T} (h : riseB l = true) (i : Nat) (hi : i < l.length) : keyB l[i] = true ∧ (i = 0 ∨ ltB (l.getD (i - 1) []) l[i] = true) := by
  unfold riseB at h
  rw [List.all_eq_true] at h
  have := h i (List.mem_range.2 hi)
  simp only [Bool.and_eq_true, Bool.or_eq_true, decide_eq_true_eq, List.getD_eq_getElem?_getD, List.getElem?_eq_getElem hi, Option.getD_some] at this
  refine ⟨this.1, ?_⟩
  rw [List.getD_eq_getElem?_getD]
  exact this.2
theorem leaf_iff {n : Nd} : leafB n = true ↔ n.ks.length = 0 ∧ n.ps.length ≤ 5 ∧ (∀ p ∈ n.ps, valB p.2 = true) ∧ riseB (n.ps.map (·.1)) = true := by
  simp only [leafB, Bool.and_eq_true, decide_eq_true_eq, List.all_eq_true]
theorem inner_iff {n : Nd} : innerB n = true ↔ (n.ps.length = 0 ∧ 2 ≤ n.cs.length ∧ n.cs.length ≤ 8 ∧ n.ks.length + 1 = n.cs.length) ∧ kidsB n.cs = true ∧ riseB n.ks = true := by
  simp only [innerB, Bool.and_eq_true, decide_eq_true_eq]
end Go.Proofs.Yteeeomcdknjolaa.Nod

namespace Go.Proofs.Yteeeomcdknjolaa.Nod
open Go.RowKit Fra
variable {P : Program} {ops : Array Oper} {Q : Exit → Act → World → Prop}

/-- What the last one of the chain has left. -/
def St (ops : Array Oper) (cs : List Nat) (R : Nat → Value → World → Prop) (k : Nat) (a : Act) (w : World) : Prop :=
  (k = 0 → R 0 (.bool false) w) ∧ ∀ (k' i : Nat) (o : Oper) (t : Nat), k = k' + 1 → cs[k']? = some i → ops[i]? = some o → o.dst = some t → R k (a.eval (.tmp t)) w
def InvC (ops : Array Oper) (a0 : Act) (val : Nat → Value) (cs ds : List Nat) (F : World → Prop) (R : Nat → Value → World → Prop) (listed : Array Bool) (a : Act) (w : World) : Prop :=
  ∃ k, k ≤ cs.length ∧ (∀ j i : Nat, cs[j]? = some i → listed.getD i false = decide (j < k)) ∧ F w ∧ St ops cs R k a w ∧ Fr ops a0 (fun i v => i ∉ ds → v = val i) listed a ∧ ∀ (i : Nat) (o : Oper) (t : Nat), ops[i]? = some o → o.dst = some t → listed.getD i false = false → a.eval (.tmp t) = a0.eval (.tmp t)
/-- What waits for it has not come up: its place is as it was. -/
abbrev Und (ops : Array Oper) (a0 a : Act) (i : Nat) : Prop := ∀ (j : Nat) (o : Oper) (t : Nat), ops[j]? = some o → o.dst = some t → Region.waitsFor .any ops j i = true → a.eval (.tmp t) = a0.eval (.tmp t)
theorem wp_region_chain {id : Nat} {a0 : Act} {w0 : World} (hm : P.follows .mixedOrders = true) (val : Nat → Value) (cs ds : List Nat) (F : World → Prop) (R : Nat → Value → World → Prop)
    (hF : F { w0 with drawn := w0.drawn + 1 }) (hR : R 0 (.bool false) { w0 with drawn := w0.drawn + 1 })
    (hp : placedS ops ops.size a0.tmps.size = true) (back : ∀ (i : Nat) (o : Oper), ops[i]? = some o → ∀ e ∈ o.after, Region.binds .any e = true → e.on < i) (hch : chained ops cs = true) (hnd : cs.Nodup) (hlt : ∀ i ∈ cs, i < ops.size)
    (pure : ∀ (i : Nat) (o : Oper) (listed : Array Bool) (a : Act) (w : World), i ∉ cs → ops[i]? = some o → F w → Fr ops a0 (fun i v => i ∉ ds → v = val i) listed a → Und ops a0 a i → (∀ e ∈ o.after, Region.binds .any e = true → listed.getD e.on false = true) →
      Region.wanted o (yielded ops a.tmps) = true ∧ (execOp a.eval o).run P w = .ok (.value (val i)) w)
    (acts : ∀ (i k : Nat) (o : Oper) (listed : Array Bool) (a : Act) (w : World), cs[k]? = some i → ops[i]? = some o → F w → St ops cs R k a w → Fr ops a0 (fun i v => i ∉ ds → v = val i) listed a → Und ops a0 a i → (∀ e ∈ o.after, Region.binds .any e = true → listed.getD e.on false = true) →
      Region.wanted o (yielded ops a.tmps) = true ∧ o.wp P a w (fun a' w' => ∃ v, a' = a.put o.dst v ∧ (i ∉ ds → v = val i) ∧ F w' ∧ R (k + 1) v w') Q)
    (fin : ∀ (listed : Array Bool) (a : Act) (w : World), (∀ i, i < ops.size → listed.getD i false = true) → F w → St ops cs R cs.length a w → Fr ops a0 (fun i v => i ∉ ds → v = val i) listed a → Q .normal a w) : (Code.region id ops true).wp P Q a0 w0 := by
  refine wp_region_inv hm (InvC ops a0 val cs ds F R) back ?_ ?_ ?_
  · refine ⟨0, Nat.zero_le _, fun j i hj => ?_, hF, ⟨fun _ => hR, fun k' i o t h => by omega⟩, ⟨rfl, rfl, fun _ _ => rfl, fun i o t hi _ hl => ?_⟩, fun _ _ _ _ _ _ => rfl⟩
    · have := hlt i (List.mem_of_getElem? hj)
      simp [this]
    · exfalso
      have hlt := (Array.getElem?_eq_some_iff.1 hi).1
      simp [hlt] at hl
  · intro i o listed a w ho h0 hc hdep hinv
    obtain ⟨k, hk, hst, hFw, hSt, hf, hu⟩ := hinv
    have h0' := getD_tf h0
    have hiN : i < ops.size := (Array.getElem?_eq_some_iff.1 ho).1
    have hiS : i ≠ ops.size := by omega
    have hund : Und ops a0 a i := fun j o' t hj hd hwf => hu j o' t hj hd (by
      cases h : listed.getD j false with
      | false => rfl
      | true =>
        have := closed_of hc hwf h
        rw [h0'] at this; cases this)
    have hnext : ∀ v, ∀ (j : Nat) (o' : Oper) (t : Nat), ops[j]? = some o' → o'.dst = some t → (listed.setIfInBounds i true).getD j false = false → (a.put o.dst v).eval (.tmp t) = a0.eval (.tmp t) := fun v j o' t hj hd hl => by
      obtain ⟨t', ht, hts, hdist⟩ := placedS_one hp ho hiS
      have hij : i ≠ j := by
        rintro rfl
        rw [getD_set_self h0] at hl; cases hl
      rw [getD_set_ne false hij] at hl
      have hne : t ≠ t' := fun e => hdist j o' hj hij (by rw [hd, e])
      rw [Act.eval_put (fun d hd' e => by
        injection e with e
        rw [ht] at hd'
        injection hd' with hd'
        exact hne (by rw [e, hd']))]
      exact hu j o' t hj hd hl
    by_cases hic : i ∈ cs
    · obtain ⟨k', hk'⟩ := List.getElem?_of_mem hic
      have hkk : k' = k := by
        have h1 := hst k' i hk'
        rw [h0'] at h1
        have h2 : ¬ k' < k := by
          intro h
          simp [h] at h1
        rcases Nat.eq_zero_or_pos k' with hz | hz
        · omega
        · obtain ⟨p, rfl⟩ : ∃ p, k' = p + 1 := ⟨k' - 1, by omega⟩
          have hp2 : p < cs.length := by
            have := (List.getElem?_eq_some_iff.1 hk').1
            omega
          obtain ⟨q, hq⟩ : ∃ q, cs[p]? = some q := ⟨_, List.getElem?_eq_getElem hp2⟩
          obtain ⟨o', ho', e, he, hb, hq2⟩ := Region.waitsFor_spec (chained_at hch hq hk')
          have : o' = o := Option.some.inj (ho'.symm.trans ho)
          subst this
          have h3 := hdep e he hb
          rw [hq2, hst p q hq] at h3
          have := of_decide_eq_true h3
          omega
      subst hkk
      obtain ⟨hw, hwp⟩ := acts i k' o listed a w hk' ho hFw hSt hf hund hdep
      refine ⟨hw, Oper.wp_mono (fun a' w' hl => ?_) hwp⟩
      obtain ⟨v, rfl, hv, hF', hR'⟩ := hl
      have hkl : k' < cs.length := (List.getElem?_eq_some_iff.1 hk').1
      refine ⟨k' + 1, hkl, fun j q hj => ?_, hF', ⟨fun e => by omega, fun k2 i2 o2 t2 e1 e2 e3 e4 => ?_⟩, fr_next hp ho hiS hf (fun _ _ h => h) hv, hnext v⟩
      · by_cases hjk : j = k'
        · subst hjk
          have : q = i := Option.some.inj (hj.symm.trans hk')
          subst this
          rw [getD_set_self h0]; simp
        · have hqi : i ≠ q := by
            rintro rfl
            exact hjk (nodup_at hnd hj hk')
          rw [getD_set_ne false hqi, hst j q hj]
          have : (j < k') ↔ (j < k' + 1) := by omega
          simp [this]
      · have : k2 = k' := by omega
        subst this
        have : i2 = i := Option.some.inj (e2.symm.trans hk')
        subst this
        have : o2 = o := Option.some.inj (e3.symm.trans ho)
        subst this
        obtain ⟨t, ht, hts, -⟩ := placedS_one hp ho hiS
        have : t2 = t := Option.some.inj (e4.symm.trans ht)
        subst this
        rw [ht, eval_put_same (by rw [hf.size]; exact hts)]
        exact hR'
    · obtain ⟨hw, hr⟩ := pure i o listed a w hic ho hFw hf hund hdep
      refine ⟨hw, Oper.wp_mono (fun a' w' hl => ?_) (wp_value (φ := fun v w' => v = val i ∧ w' = w) hr ⟨rfl, rfl⟩)⟩
      obtain ⟨v, rfl, ⟨rfl, rfl⟩, _⟩ := hl
      obtain ⟨t, ht, hts, hdist⟩ := placedS_one hp ho hiS
      refine ⟨k, hk, fun j q hj => ?_, hFw, ⟨hSt.1, fun k2 i2 o2 t2 e1 e2 e3 e4 => ?_⟩, fr_next hp ho hiS hf (fun _ _ h => h) (fun _ => rfl), hnext _⟩
      · have hqi : i ≠ q := fun e => hic (e ▸ List.mem_of_getElem? hj)
        rw [getD_set_ne false hqi]
        exact hst j q hj
      · have hqi : i ≠ i2 := fun e => hic (e ▸ List.mem_of_getElem? e2)
        have hne : t2 ≠ t := fun e => hdist i2 o2 e3 hqi (by rw [e4, e])
        rw [Act.eval_put (fun d hd' e => by
          injection e with e
          rw [ht] at hd'
          injection hd' with hd'
          exact hne (by rw [e, hd']))]
        exact hSt.2 k2 i2 o2 t2 e1 e2 e3 e4
  · intro listed a w hall hinv
    obtain ⟨k, hk, hst, hFw, hSt, hf, -⟩ := hinv
    have hkl : k = cs.length := by
      rcases Nat.lt_or_ge k cs.length with h | h
      · exfalso
        obtain ⟨q, hq⟩ : ∃ q, cs[k]? = some q := ⟨_, List.getElem?_eq_getElem h⟩
        have h1 := hst k q hq
        rw [hall q (hlt q (List.mem_of_getElem? hq))] at h1
        simp at h1
      · omega
    subst hkl
    exact fin listed a w hall hFw hSt hf
end Go.Proofs.Yteeeomcdknjolaa.Nod

namespace Go.Proofs.Yteeeomcdknjolaa.Nod
open Go.RowKit Fra
variable {P : Program} {ops : Array Oper} {Q : Exit → Act → World → Prop}

/-- Each operation that has a place has one of its own. -/
def placedN (ops : Array Oper) (size : Nat) : Bool :=
  (List.range ops.size).all fun i => match ops[i]? with
    | none => false
    | some o => (match o.dst with
      | none => true
      | some t => decide (t < size) && (List.range ops.size).all fun j => decide (i = j) || (match ops[j]? with | none => true | some o' => o'.dst != some t))
theorem placedN_one {ops : Array Oper} {size i t : Nat} {o : Oper} (h : placedN ops size = true) (hi : ops[i]? = some o) (ht : o.dst = some t) :
    t < size ∧ ∀ (j : Nat) (o' : Oper), ops[j]? = some o' → i ≠ j → o'.dst ≠ some t := by
  have hlt : i < ops.size := (Array.getElem?_eq_some_iff.1 hi).1
  unfold placedN at h
  rw [List.all_eq_true] at h
  have h1 := h i (List.mem_range.2 hlt)
  rw [hi] at h1
  simp only [ht] at h1
  simp only [Bool.and_eq_true, decide_eq_true_eq, List.all_eq_true] at h1
  refine ⟨h1.1, fun j o' hj hne => ?_⟩
  have h4 := h1.2 j (List.mem_range.2 (Array.getElem?_eq_some_iff.1 hj).1)
  rw [hj] at h4
  simpa [hne] using h4
theorem put_far {ops : Array Oper} {size i j t : Nat} {o o' : Oper} {a : Act} {v : Value} (h : placedN ops size = true) (hi : ops[i]? = some o) (hj : ops[j]? = some o') (hij : i ≠ j) (hd : o'.dst = some t) : (a.put o.dst v).eval (.tmp t) = a.eval (.tmp t) :=
  Act.eval_put (fun d hd' e => by
    injection e with e
    obtain ⟨-, h2⟩ := placedN_one h hi hd'
    exact h2 j o' hj hij (by rw [hd, e]))
theorem frN_next {a0 a : Act} {Φ : Nat → Value → Prop} {listed : Array Bool} {i : Nat} {o : Oper} {v : Value} (hp : placedN ops a0.tmps.size = true) (hi : ops[i]? = some o) (h : Fr ops a0 Φ listed a) (hv : Φ i v) : Fr ops a0 Φ (listed.setIfInBounds i true) (a.put o.dst v) := by
  refine ⟨by cases ht : o.dst <;> exact h.defers, ?_, fun t' ht' => ?_, fun j o' t' hj hd hlj => ?_⟩
  · cases ht : o.dst with
    | none => exact h.size
    | some t => simp only [Act.put, Array.size_setIfInBounds]; exact h.size
  · rw [Act.eval_put (fun d hd e => by
      injection e with e
      exact ht' i o hi (by rw [e]; exact hd))]
    exact h.frame t' ht'
  · by_cases hij : i = j
    · subst hij
      have : o' = o := Option.some.inj (hj.symm.trans hi)
      subst this
      obtain ⟨hts, -⟩ := placedN_one hp hi hd
      rw [hd, eval_put_same (by rw [h.size]; exact hts)]
      exact hv
    · rw [getD_set_ne false hij] at hlj
      rw [put_far hp hi hj hij hd]
      exact h.done j o' t' hj hd hlj
/-- What those of the chain that have come up have left. -/
def Evs (ops : Array Oper) (cs : List Nat) (vs : List Value) (a : Act) : Prop := ∀ (j c : Nat) (o : Oper) (t : Nat) (v : Value), vs[j]? = some v → cs[j]? = some c → ops[c]? = some o → o.dst = some t → a.eval (.tmp t) = v
def InvC2 (ops : Array Oper) (a0 : Act) (val : Nat → Value) (cs ds : List Nat) (R : List Value → World → Prop) (listed : Array Bool) (a : Act) (w : World) : Prop :=
  ∃ vs : List Value, vs.length ≤ cs.length ∧ (∀ j i : Nat, cs[j]? = some i → listed.getD i false = decide (j < vs.length)) ∧ Evs ops cs vs a ∧ R vs w ∧ Fr ops a0 (fun i v => i ∉ ds → v = val i) listed a ∧ ∀ (i : Nat) (o : Oper) (t : Nat), ops[i]? = some o → o.dst = some t → listed.getD i false = false → a.eval (.tmp t) = a0.eval (.tmp t)
theorem wp_region_chain2 {id : Nat} {a0 : Act} {w0 : World} (hm : P.follows .mixedOrders = true) (val : Nat → Value) (cs ds : List Nat) (R : List Value → World → Prop)
    (hR : R [] { w0 with drawn := w0.drawn + 1 })
    (hp : placedN ops a0.tmps.size = true) (back : ∀ (i : Nat) (o : Oper), ops[i]? = some o → ∀ e ∈ o.after, Region.binds .any e = true → e.on < i) (hch : chained ops cs = true) (hnd : cs.Nodup) (hlt : ∀ i ∈ cs, i < ops.size)
    (pure : ∀ (i : Nat) (vs : List Value) (o : Oper) (listed : Array Bool) (a : Act) (w : World), i ∉ cs → ops[i]? = some o → R vs w → (∀ j c : Nat, cs[j]? = some c → Region.waitsFor .any ops c i = true → vs.length ≤ j) → vs.length ≤ cs.length → Fr ops a0 (fun i v => i ∉ ds → v = val i) listed a → Und ops a0 a i → (∀ e ∈ o.after, Region.binds .any e = true → listed.getD e.on false = true) →
      Region.wanted o (yielded ops a.tmps) = true ∧ (execOp a.eval o).run P w = .ok (.value (val i)) w)
    (acts : ∀ (i : Nat) (vs : List Value) (o : Oper) (listed : Array Bool) (a : Act) (w : World), cs[vs.length]? = some i → ops[i]? = some o → Evs ops cs vs a → R vs w → Fr ops a0 (fun i v => i ∉ ds → v = val i) listed a → Und ops a0 a i → (∀ e ∈ o.after, Region.binds .any e = true → listed.getD e.on false = true) →
      Region.wanted o (yielded ops a.tmps) = true ∧ o.wp P a w (fun a' w' => ∃ v, a' = a.put o.dst v ∧ (i ∉ ds → v = val i) ∧ R (vs ++ [v]) w') Q)
    (fin : ∀ (vs : List Value) (listed : Array Bool) (a : Act) (w : World), (∀ i, i < ops.size → listed.getD i false = true) → vs.length = cs.length → Evs ops cs vs a → R vs w → Fr ops a0 (fun i v => i ∉ ds → v = val i) listed a → Q .normal a w) : (Code.region id ops true).wp P Q a0 w0 := by
  refine wp_region_inv hm (InvC2 ops a0 val cs ds R) back ?_ ?_ ?_
  · refine ⟨[], Nat.zero_le _, fun j i hj => ?_, fun j c o t v h => by simp at h, hR, ⟨rfl, rfl, fun _ _ => rfl, fun i o t hi _ hl => ?_⟩, fun _ _ _ _ _ _ => rfl⟩
    · have := hlt i (List.mem_of_getElem? hj)
      simp [this]
    · exfalso
      have hlt := (Array.getElem?_eq_some_iff.1 hi).1
      simp [hlt] at hl
  · intro i o listed a w ho h0 hc hdep hinv
    obtain ⟨vs, hk, hst, hev, hSt, hf, hu⟩ := hinv
    have h0' := getD_tf h0
    have hund : Und ops a0 a i := fun j o' t hj hd hwf => hu j o' t hj hd (by
      cases h : listed.getD j false with
      | false => rfl
      | true =>
        have := closed_of hc hwf h
        rw [h0'] at this; cases this)
    have hnext : ∀ v, ∀ (j : Nat) (o' : Oper) (t : Nat), ops[j]? = some o' → o'.dst = some t → (listed.setIfInBounds i true).getD j false = false → (a.put o.dst v).eval (.tmp t) = a0.eval (.tmp t) := fun v j o' t hj hd hl => by
      have hij : i ≠ j := by
        rintro rfl
        rw [getD_set_self h0] at hl; cases hl
      rw [getD_set_ne false hij] at hl
      rw [put_far hp ho hj hij hd]
      exact hu j o' t hj hd hl
    by_cases hic : i ∈ cs
    · obtain ⟨k', hk'⟩ := List.getElem?_of_mem hic
      have hkk : k' = vs.length := by
        have h1 := hst k' i hk'
        rw [h0'] at h1
        have h2 : ¬ k' < vs.length := by
          intro h
          simp [h] at h1
        rcases Nat.eq_zero_or_pos k' with hz | hz
        · omega
        · obtain ⟨p, rfl⟩ : ∃ p, k' = p + 1 := ⟨k' - 1, by omega⟩
          have hp2 : p < cs.length := by
            have := (List.getElem?_eq_some_iff.1 hk').1
            omega
          obtain ⟨q, hq⟩ : ∃ q, cs[p]? = some q := ⟨_, List.getElem?_eq_getElem hp2⟩
          obtain ⟨o', ho', e, he, hb, hq2⟩ := Region.waitsFor_spec (chained_at hch hq hk')
          have : o' = o := Option.some.inj (ho'.symm.trans ho)
          subst this
          have h3 := hdep e he hb
          rw [hq2, hst p q hq] at h3
          have := of_decide_eq_true h3
          omega
      subst hkk
      obtain ⟨hw, hwp⟩ := acts i vs o listed a w hk' ho hev hSt hf hund hdep
      refine ⟨hw, Oper.wp_mono (fun a' w' hl => ?_) hwp⟩
      obtain ⟨v, rfl, hv, hR'⟩ := hl
      have hkl : vs.length < cs.length := (List.getElem?_eq_some_iff.1 hk').1
      refine ⟨vs ++ [v], by simp; omega, fun j q hj => ?_, fun j c o2 t v2 e1 e2 e3 e4 => ?_, hR', frN_next hp ho hf hv, hnext v⟩
      · by_cases hjk : j = vs.length
        · subst hjk
          have : q = i := Option.some.inj (hj.symm.trans hk')
          subst this
          rw [getD_set_self h0]; simp
        · have hqi : i ≠ q := by
            rintro rfl
            exact hjk (nodup_at hnd hj hk')
          rw [getD_set_ne false hqi, hst j q hj]
          have : (j < vs.length) ↔ (j < (vs ++ [v]).length) := by simp; omega
          simp only [this]
      · rcases Nat.lt_or_ge j vs.length with h | h
        · rw [List.getElem?_append_left h] at e1
          have hci : i ≠ c := by
            rintro rfl
            have := nodup_at hnd e2 hk'
            omega
          rw [put_far hp ho e3 hci e4]
          exact hev j c o2 t v2 e1 e2 e3 e4
        · have hjv : j = vs.length := by
            have := (List.getElem?_eq_some_iff.1 e1).1
            simp at this; omega
          subst hjv
          have : c = i := Option.some.inj (e2.symm.trans hk')
          subst this
          have : o2 = o := Option.some.inj (e3.symm.trans ho)
          subst this
          have : v2 = v := by simpa using e1.symm
          subst this
          rw [e4, eval_put_same (by rw [hf.size]; exact (placedN_one hp ho e4).1)]
    · have hkle : ∀ j c : Nat, cs[j]? = some c → Region.waitsFor .any ops c i = true → vs.length ≤ j := fun j c hj hw => by
        rcases Nat.lt_or_ge j vs.length with h | h
        · exfalso
          have h1 := hst j c hj
          simp only [h, decide_true] at h1
          have := closed_of hc hw h1
          rw [h0'] at this; cases this
        · exact h
      obtain ⟨hw, hr⟩ := pure i vs o listed a w hic ho hSt hkle hk hf hund hdep
      refine ⟨hw, Oper.wp_mono (fun a' w' hl => ?_) (wp_value (φ := fun v w' => v = val i ∧ w' = w) hr ⟨rfl, rfl⟩)⟩
      obtain ⟨v, rfl, ⟨rfl, rfl⟩, _⟩ := hl
      refine ⟨vs, hk, fun j q hj => ?_, fun j c o2 t v2 e1 e2 e3 e4 => ?_, hSt, frN_next hp ho hf (fun _ => rfl), hnext _⟩
      · have hqi : i ≠ q := fun e => hic (e ▸ List.mem_of_getElem? hj)
        rw [getD_set_ne false hqi]
        exact hst j q hj
      · have hqi : i ≠ c := fun e => hic (e ▸ List.mem_of_getElem? e2)
        rw [put_far hp ho e3 hqi e4]
        exact hev j c o2 t v2 e1 e2 e3 e4
  · intro listed a w hall hinv
    obtain ⟨vs, hk, hst, hev, hSt, hf, -⟩ := hinv
    have hkl : vs.length = cs.length := by
      rcases Nat.lt_or_ge vs.length cs.length with h | h
      · exfalso
        obtain ⟨q, hq⟩ : ∃ q, cs[vs.length]? = some q := ⟨_, List.getElem?_eq_getElem h⟩
        have h1 := hst _ q hq
        rw [hall q (hlt q (List.mem_of_getElem? hq))] at h1
        simp at h1
      · omega
    exact fin vs listed a w hall hkl hev hSt hf
end Go.Proofs.Yteeeomcdknjolaa.Nod

namespace Go.Proofs.Yteeeomcdknjolaa.Nod
open Go.RowKit Crc Chk Frm Fra

def Txs (w : World) (B : Nat) (A : Option Addr) (l : List T) : Prop :=
  ∀ i, (hi : i < l.length) → ∃ b o, A = some ⟨b, o, none⟩ ∧ b < B ∧ w.cell? ⟨b, o + i, none⟩ = some (.string (text l[i]))
def Prs (w : World) (B : Nat) (A : Option Addr) (l : List (T × T)) : Prop :=
  ∀ i, (hi : i < l.length) → ∃ b o, A = some ⟨b, o, none⟩ ∧ b < B ∧ w.cell? ⟨b, o + i * 2, none⟩ = some (.string (text l[i].1)) ∧ w.cell? ⟨b, o + i * 2 + 1, none⟩ = some (.string (text l[i].2))
def Kds (w : World) (B : Nat) (A : Option Addr) (l : List Int) : Prop :=
  ∀ i, (hi : i < l.length) → ∃ b o, A = some ⟨b, o, none⟩ ∧ b < B ∧ w.cell? ⟨b, o + i, none⟩ = some (.int .i64 l[i]) ∧ -9223372036854775808 ≤ l[i] ∧ l[i] ≤ 9223372036854775807
theorem Txs.below {w w' : World} {B B' : Nat} {A : Option Addr} {l : List T} (h : Txs w B A l) (hb : Below B' w w') (hB : B ≤ B') : Txs w' B A l := fun i hi => by
  obtain ⟨b, o, e, h1, h2⟩ := h i hi
  exact ⟨b, o, e, h1, (hb.cell (p := ⟨b, o + i, none⟩) (Nat.lt_of_lt_of_le h1 hB)).trans h2⟩
theorem Prs.below {w w' : World} {B B' : Nat} {A : Option Addr} {l : List (T × T)} (h : Prs w B A l) (hb : Below B' w w') (hB : B ≤ B') : Prs w' B A l := fun i hi => by
  obtain ⟨b, o, e, h1, h2, h3⟩ := h i hi
  exact ⟨b, o, e, h1, (hb.cell (p := ⟨b, o + i * 2, none⟩) (Nat.lt_of_lt_of_le h1 hB)).trans h2, (hb.cell (p := ⟨b, o + i * 2 + 1, none⟩) (Nat.lt_of_lt_of_le h1 hB)).trans h3⟩
theorem Kds.below {w w' : World} {B B' : Nat} {A : Option Addr} {l : List Int} (h : Kds w B A l) (hb : Below B' w w') (hB : B ≤ B') : Kds w' B A l := fun i hi => by
  obtain ⟨b, o, e, h1, h2, h3⟩ := h i hi
  exact ⟨b, o, e, h1, (hb.cell (p := ⟨b, o + i, none⟩) (Nat.lt_of_lt_of_le h1 hB)).trans h2, h3⟩
theorem Txs.take {w : World} {B : Nat} {A : Option Addr} {l : List T} (h : Txs w B A l) (k : Nat) : Txs w B A (l.take k) := fun i hi => by
  have hi' : i < l.length := by simp at hi; omega
  obtain ⟨b, o, e, h1, h2⟩ := h i hi'
  exact ⟨b, o, e, h1, by simpa using h2⟩
theorem Prs.take {w : World} {B : Nat} {A : Option Addr} {l : List (T × T)} (h : Prs w B A l) (k : Nat) : Prs w B A (l.take k) := fun i hi => by
  have hi' : i < l.length := by simp at hi; omega
  obtain ⟨b, o, e, h1, h2, h3⟩ := h i hi'
  exact ⟨b, o, e, h1, by simpa using h2, by simpa using h3⟩
theorem Kds.take {w : World} {B : Nat} {A : Option Addr} {l : List Int} (h : Kds w B A l) (k : Nat) : Kds w B A (l.take k) := fun i hi => by
  have hi' : i < l.length := by simp at hi; omega
  obtain ⟨b, o, e, h1, h2, h3⟩ := h i hi'
  exact ⟨b, o, e, h1, by simpa using h2, by simpa using h3⟩
/-- A node's value. -/
abbrev nv (A1 : Option Addr) (n1 c1 : Nat) (A2 : Option Addr) (n2 c2 : Nat) (A3 : Option Addr) (n3 c3 : Nat) : Value := .agg #[.slice A1 n1 c1, .slice A2 n2 c2, .slice A3 n3 c3]
/-- A node, by its parts. -/
structure IsN (w : World) (B : Nat) (n : Nd) (A1 : Option Addr) (n1 c1 : Nat) (A2 : Option Addr) (n2 c2 : Nat) (A3 : Option Addr) (n3 c3 : Nat) : Prop where
  ps : Prs w B A1 n.ps
  ks : Txs w B A2 n.ks
  cs : Kds w B A3 n.cs
  l1 : n.ps.length = n1
  l2 : n.ks.length = n2
  l3 : n.cs.length = n3
  r1 : n1 ≤ c1
  r2 : n2 ≤ c2
  r3 : n3 ≤ c3
  m1 : n1 ≤ 9223372036854775807
  m2 : n2 ≤ 9223372036854775807
  m3 : n3 ≤ 9223372036854775807
theorem IsN.below {w w' : World} {B B' : Nat} {n : Nd} {A1 : Option Addr} {n1 c1 : Nat} {A2 : Option Addr} {n2 c2 : Nat} {A3 : Option Addr} {n3 c3 : Nat} (h : IsN w B n A1 n1 c1 A2 n2 c2 A3 n3 c3) (hb : Below B' w w') (hB : B ≤ B') : IsN w' B n A1 n1 c1 A2 n2 c2 A3 n3 c3 :=
  ⟨h.ps.below hb hB, h.ks.below hb hB, h.cs.below hb hB, h.l1, h.l2, h.l3, h.r1, h.r2, h.r3, h.m1, h.m2, h.m3⟩
/-- A node's box. -/
def BoxN (r : Nat) (A1 : Option Addr) (n1 c1 : Nat) (A2 : Option Addr) (n2 c2 : Nat) (A3 : Option Addr) (n3 c3 : Nat) (w : World) : Prop :=
  w.heap[r]? = some (.cells #[.slice A1 n1 c1, .slice A2 n2 c2, .slice A3 n3 c3] 55 (0, 0))
theorem BoxN.cells {r : Nat} {A1 : Option Addr} {n1 c1 : Nat} {A2 : Option Addr} {n2 c2 : Nat} {A3 : Option Addr} {n3 c3 : Nat} {w : World} (h : BoxN r A1 n1 c1 A2 n2 c2 A3 n3 c3 w) :
    w.cell? ⟨r, 0, none⟩ = some (.slice A1 n1 c1) ∧ w.cell? ⟨r, 1, none⟩ = some (.slice A2 n2 c2) ∧ w.cell? ⟨r, 2, none⟩ = some (.slice A3 n3 c3) ∧ ∀ j, w.frozen? ⟨r, j, none⟩ = false := by
  unfold BoxN at h
  refine ⟨?_, ?_, ?_, fun j => ?_⟩
  · rw [cell_of_row w r 0 _ _ _ h]; rfl
  · rw [cell_of_row w r 1 _ _ _ h]; rfl
  · rw [cell_of_row w r 2 _ _ _ h]; rfl
  · simp [World.frozen?, h]
theorem BoxN.below {r B : Nat} {A1 : Option Addr} {n1 c1 : Nat} {A2 : Option Addr} {n2 c2 : Nat} {A3 : Option Addr} {n3 c3 : Nat} {w w' : World} (h : BoxN r A1 n1 c1 A2 n2 c2 A3 n3 c3 w) (hb : Below B w w') (hr : r < B) : BoxN r A1 n1 c1 A2 n2 c2 A3 n3 c3 w' := (hb.block r hr).trans h
theorem boxN_new (w : World) (A1 : Option Addr) (n1 c1 : Nat) (A2 : Option Addr) (n2 c2 : Nat) (A3 : Option Addr) (n3 c3 : Nat) : BoxN w.heap.size A1 n1 c1 A2 n2 c2 A3 n3 c3 (w.alloc (.cells #[.slice A1 n1 c1, .slice A2 n2 c2, .slice A3 n3 c3] 55)) := heap_alloc_new w _
theorem key_any (s : T) (w : World) : Calls Try.prog 50 #[.string (text s)] w fun e w' => e = .returned (.bool (keyB s)) ∧ w = w' := by
  have hz := text_size s
  obtain ⟨t, ht⟩ : ∃ t, t = text s := ⟨_, rfl⟩
  rw [← ht] at hz ⊢
  have HE : Hid ((decide (1 ≤ t.size) && decide (t.size ≤ 24)) = keyB s) := by show _ = _; rw [hz]; rfl
  clear ht hz
  by_cases h1 : 1 ≤ t.size
  · by_cases h2 : t.size ≤ 24
    · go_enter Try.func50, Try.ntmps50
      go_wp2_with fail
      go_ret
      exact ⟨retb (by rw [← HE.out, Bool.eq_iff_iff]; simp; try omega), rfl⟩
    · go_enter Try.func50, Try.ntmps50
      go_wp2_with fail
      go_ret
      exact ⟨retb (by rw [← HE.out, Bool.eq_iff_iff]; simp; try omega), rfl⟩
  · go_enter Try.func50, Try.ntmps50
    go_wp2_with fail
    go_ret
    exact ⟨retb (by rw [← HE.out, Bool.eq_iff_iff]; simp; try omega), rfl⟩
theorem rkey_any (s : T) (w : World) : Calls Try.prog 53 #[.string (text s)] w fun e w' => e = .returned (.bool (keyB s)) ∧ w = w' := by
  have hz := text_size s
  obtain ⟨t, ht⟩ : ∃ t, t = text s := ⟨_, rfl⟩
  rw [← ht] at hz ⊢
  have HE : Hid ((decide (1 ≤ t.size) && decide (t.size ≤ 24)) = keyB s) := by show _ = _; rw [hz]; rfl
  clear ht hz
  by_cases h1 : 1 ≤ t.size
  · by_cases h2 : t.size ≤ 24
    · go_enter Try.func53, Try.ntmps53
      go_wp2_with fail
      go_ret
      exact ⟨retb (by rw [← HE.out, Bool.eq_iff_iff]; simp; try omega), rfl⟩
    · go_enter Try.func53, Try.ntmps53
      go_wp2_with fail
      go_ret
      exact ⟨retb (by rw [← HE.out, Bool.eq_iff_iff]; simp; try omega), rfl⟩
  · go_enter Try.func53, Try.ntmps53
    go_wp2_with fail
    go_ret
    exact ⟨retb (by rw [← HE.out, Bool.eq_iff_iff]; simp; try omega), rfl⟩
theorem val_any (s : T) (w : World) : Calls Try.prog 51 #[.string (text s)] w fun e w' => e = .returned (.bool (valB s)) ∧ w = w' := by
  have hz := text_size s
  obtain ⟨t, ht⟩ : ∃ t, t = text s := ⟨_, rfl⟩
  rw [← ht] at hz ⊢
  have HE : Hid (decide (t.size ≤ 60) = valB s) := by show _ = _; rw [hz]; rfl
  clear ht hz
  go_enter Try.func51, Try.ntmps51
  go_wp2_with fail
  go_ret
  exact ⟨retb (by rw [← HE.out, Bool.eq_iff_iff]; simp; omega), rfl⟩
theorem rval_any (s : T) (w : World) : Calls Try.prog 54 #[.string (text s)] w fun e w' => e = .returned (.bool (valB s)) ∧ w = w' := by
  have hz := text_size s
  obtain ⟨t, ht⟩ : ∃ t, t = text s := ⟨_, rfl⟩
  rw [← ht] at hz ⊢
  have HE : Hid (decide (t.size ≤ 60) = valB s) := by show _ = _; rw [hz]; rfl
  clear ht hz
  go_enter Try.func54, Try.ntmps54
  go_wp2_with fail
  go_ret
  exact ⟨retb (by rw [← HE.out, Bool.eq_iff_iff]; simp; omega), rfl⟩
theorem text_ext (l : T) (i j : Nat) : (text l).extract i j = text ((l.drop i).take (j - i)) := by
  apply ByteArray.ext
  simp [text, List.extract_eq_take_drop]
/-- Too long a value? -/
theorem tooLong_any (k v : T) (w : World) : Calls Try.prog 64 #[.agg #[.string (text k), .string (text v)]] w fun e w' => e = .returned (.bool (!valB v)) ∧ Below w.heap.size w w' := by
  have HV := Lib.hid (val_any v)
  have HB0 : Hid (Below w.heap.size w (w.alloc (.cells #[.string (text k), .string (text v)] 49))) := (Below.refl _ _).alloc (Nat.le_refl _) _
  obtain ⟨t, ht⟩ : ∃ t, t = text k := ⟨_, rfl⟩
  obtain ⟨u, hu⟩ : ∃ t, t = text v := ⟨_, rfl⟩
  obtain ⟨x, hx⟩ : ∃ x, x = valB v := ⟨_, rfl⟩
  rw [← ht, ← hu] at HB0
  rw [← hu, ← hx] at HV
  rw [← ht, ← hu, ← hx]
  clear ht hu hx
  go_enter Try.func64, Try.ntmps64
  go_wp2_with fail
  refine (HV.out _).mono ?_
  rintro e w1 ⟨rfl, rfl⟩
  go_wp2_with fail
  go_ret
  exact ⟨rfl, HB0.out⟩
/-- A pair's key, out of a box that holds a node. -/
theorem pkey_any (r i : Nat) (l : List (T × T)) (A1 : Option Addr) (n1 c1 : Nat) (w : World) (B : Nat) (hl : l.length = n1) (hp : Prs w B A1 l) (hc : w.cell? ⟨r, 0, none⟩ = some (.slice A1 n1 c1)) (hi : i < l.length) :
    Calls Try.prog 67 #[.int .i64 i, .pointer (some ⟨r, 0, none⟩)] w fun e w' => e = .returned (.string (text (l[i].1))) ∧ w = w' := by
  obtain ⟨b, o, rfl, hb, hc1, -⟩ := hp i hi
  obtain ⟨t, ht⟩ : ∃ t, t = text l[i].1 := ⟨_, rfl⟩
  rw [← ht] at hc1 ⊢
  rw [hl] at hi
  clear ht hp hl
  go_enter Try.func67, Try.ntmps67
  go_wp2_with fail
  go_ret
  exact ⟨rfl, rfl⟩
theorem ikey_any (r i : Nat) (l : List T) (A1 : Option Addr) (n1 c1 : Nat) (w : World) (B : Nat) (hl : l.length = n1) (hp : Txs w B A1 l) (hc : w.cell? ⟨r, 1, none⟩ = some (.slice A1 n1 c1)) (hi : i < l.length) :
    Calls Try.prog 69 #[.int .i64 i, .pointer (some ⟨r, 0, none⟩)] w fun e w' => e = .returned (.string (text (l[i]))) ∧ w = w' := by
  obtain ⟨b, o, rfl, hb, hc1⟩ := hp i hi
  obtain ⟨t, ht⟩ : ∃ t, t = text l[i] := ⟨_, rfl⟩
  rw [← ht] at hc1 ⊢
  rw [hl] at hi
  clear ht hp hl
  go_enter Try.func69, Try.ntmps69
  go_wp2_with fail
  go_ret
  exact ⟨rfl, rfl⟩
end Go.Proofs.Yteeeomcdknjolaa.Nod

namespace Go.Proofs.Yteeeomcdknjolaa.Nod
open Go.RowKit Crc Chk Frm Fra

def Found (b : Bool) (B : Nat) (w : World) (e : Ending) (w' : World) : Prop := ∃ r : Int, e = .returned (.int .i64 r) ∧ decide (0 ≤ r) = b ∧ Below B w w'
theorem any_take_succ {α : Type} (f : α → Bool) (l : List α) (k : Nat) (h : k < l.length) : (l.take (k + 1)).any f = ((l.take k).any f || f l[k]) := by
  rw [List.take_succ_eq_append_getElem h, List.any_append]; simp
theorem any_of {α : Type} {f : α → Bool} {l : List α} {k : Nat} (h : k < l.length) (hf : f l[k] = true) : l.any f = true := List.any_eq_true.2 ⟨_, List.getElem_mem h, hf⟩
abbrev badP (p : T × T) : Bool := !valB p.2
set_option maxHeartbeats 800000 in
theorem idxP_any (A : Option Addr) (l : List (T × T)) (n c : Nat) (w : World) (hs : Prs w w.heap.size A l) (hl : l.length = n) (hn : n ≤ 9223372036854775807) :
    Calls Try.prog 46 #[.slice A n c, .func (.func 64) #[] #[]] w (Found (l.any badP) w.heap.size w) := by
  have HP := Lib.hid hs
  have HL := Lib.hid hl
  clear hs hl
  go_enter Try.func46, Try.ntmps46
  go_wp2_with fail
  go_loopw [8] (fun i wr => ∃ k : Nat, k ≤ n ∧ i = .int .i64 k ∧ Hid ((l.take k).any badP = false) ∧ Below w.heap.size w wr) (fun i _ => n - (intOf i).toNat)
  case atStart => exact ⟨0, Nat.zero_le _, rfl, by show _ = _; simp, Below.refl _ _⟩
  case round =>
    obtain ⟨k, hk, rfl, HR, hbel⟩ := hrel
    have HBL := Lib.hid hbel
    by_cases hlt : k < n
    · have hlt' : k < l.length := by rw [HL.out]; exact hlt
      obtain ⟨b0, o0, rfl, hb1, hc0, hd0⟩ := HP.out k hlt'
      have hc := (hbel.cell (p := ⟨b0, o0 + k * 2, none⟩) hb1).trans hc0
      have hd := (hbel.cell (p := ⟨b0, o0 + k * 2 + 1, none⟩) hb1).trans hd0
      have HD := Lib.hid (any_take_succ badP l k hlt')
      have HA : Hid (badP l[k] = true → l.any badP = true) := fun h => any_of hlt' h
      have HV : Hid (∀ W, Calls Try.prog 64 #[.agg #[.string (text l[k].1), .string (text l[k].2)]] W fun e w' => e = .returned (.bool (!valB l[k].2)) ∧ Below W.heap.size W w') := fun W => tooLong_any l[k].1 l[k].2 W
      obtain ⟨t, ht⟩ : ∃ t, t = text l[k].1 := ⟨_, rfl⟩
      obtain ⟨u, hu⟩ : ∃ t, t = text l[k].2 := ⟨_, rfl⟩
      obtain ⟨x, hx⟩ : ∃ x, x = badP l[k] := ⟨_, rfl⟩
      rw [← ht] at hc
      rw [← hu] at hd
      rw [← ht, ← hu, show (!valB l[k].2) = x from hx.symm] at HV
      rw [← hx] at HD HA
      clear ht hu hx hc0 hd0 hbel hlt'
      cases x with
      | true =>
        go_wp2_with fail
        refine (HV.out _).mono ?_
        rintro e w' ⟨rfl, hb2⟩
        have HB2 := Lib.hid (HBL.out.trans (hb2.mono HBL.out.size))
        clear hb2
        go_wp2_with fail
        go_ret
        exact ⟨k, rfl, by rw [HA.out (by first | trivial | rfl)]; simp, HB2.out⟩
      | false =>
        go_wp2_with fail
        refine (HV.out _).mono ?_
        rintro e w' ⟨rfl, hb2⟩
        have HB2 := Lib.hid (HBL.out.trans (hb2.mono HBL.out.size))
        clear hb2
        go_wp2_with fail
        go_roundw
        case rel => exact ⟨k + 1, by omega, by go_num, by
          show _ = _
          rw [HD.out, HR.out]; rfl, HB2.out⟩
        case measure => simp [intOf]; omega
    · obtain rfl : k = n := by omega
      clear hbel
      go_wp2_with fail
      go_ret
      exact ⟨-1, rfl, by
        have h := HR.out
        rw [← HL.out, List.take_length] at h
        rw [h]; rfl, HBL.out⟩
theorem hasP_any (A : Option Addr) (l : List (T × T)) (n c : Nat) (w : World) (hs : Prs w w.heap.size A l) (hl : l.length = n) (hn : n ≤ 9223372036854775807) :
    Calls Try.prog 65 #[.slice A n c, .func (.func 64) #[] #[]] w fun e w' => e = .returned (.bool (l.any badP)) ∧ Below w.heap.size w w' := by
  have HX := Lib.hid (idxP_any A l n c w hs hl hn)
  clear hs hl
  go_enter Try.func65, Try.ntmps65
  go_wp2_with fail
  refine HX.out.mono ?_
  rintro e w' ⟨r, rfl, hr, hb⟩
  have HB := Lib.hid hb
  have HR := Lib.hid hr
  clear hb hr
  go_wp2_with fail
  go_ret
  exact ⟨retb HR.out, HB.out⟩
set_option maxHeartbeats 800000 in
theorem idxK_any (A : Option Addr) (l : List Int) (n c : Nat) (x : Int) (w : World) (hs : Kds w w.heap.size A l) (hl : l.length = n) (hn : n ≤ 9223372036854775807) :
    Calls Try.prog 70 #[.slice A n c, .int .i64 x] w fun e w' => ∃ r : Int, e = .returned (.int .i64 r) ∧ decide (0 ≤ r) = l.contains x ∧ w = w' := by
  have HP := Lib.hid hs
  have HL := Lib.hid hl
  clear hs hl
  obtain ⟨q, hq⟩ : ∃ q, q = l.contains x := ⟨_, rfl⟩
  rw [← hq]
  have HQ := Lib.hid hq
  clear hq
  go_enter Try.func70, Try.ntmps70
  go_wp2_with fail
  go_loop [8] (fun i => ∃ k : Nat, k ≤ n ∧ i = .int .i64 k ∧ Hid ((l.take k).any (fun a => x == a) = false)) (fun i => n - (intOf i).toNat)
  case atStart => exact ⟨0, Nat.zero_le _, rfl, by show _ = _; simp⟩
  case round =>
    obtain ⟨k, hk, rfl, HR⟩ := hrel
    by_cases hlt : k < n
    · have hlt' : k < l.length := by rw [HL.out]; exact hlt
      obtain ⟨b0, o0, rfl, hb1, hc, hr1, hr2⟩ := HP.out k hlt'
      have HD := Lib.hid (any_take_succ (fun a => x == a) l k hlt')
      have HA : Hid ((x == l[k]) = true → l.contains x = true) := fun h => by rw [List.contains_eq_any_beq]; exact any_of (f := fun a => x == a) hlt' h
      obtain ⟨a, ha⟩ : ∃ a, a = l[k] := ⟨_, rfl⟩
      rw [← ha] at hc HD HA hr1 hr2
      clear ha hlt'
      by_cases hxa : x = a
      · subst hxa
        go_wp2_with fail
        go_ret
        exact ⟨k, rfl, by rw [HQ.out, HA.out (by simp)]; exact decide_eq_true (by omega), rfl⟩
      · have HN : Hid ((x == a) = false) := by show _ = _; simpa using hxa
        go_wp2_with fail
        go_round
        case rel => exact ⟨k + 1, by omega, by go_num, by
          show _ = _
          rw [HD.out, HR.out, HN.out]; rfl⟩
        case measure => simp [intOf]; omega
    · obtain rfl : k = n := by omega
      go_wp2_with fail
      go_ret
      exact ⟨-1, rfl, by
        have h := HR.out
        rw [← HL.out, List.take_length] at h
        rw [HQ.out, List.contains_eq_any_beq, h]; rfl, rfl⟩
theorem hasK_any (A : Option Addr) (l : List Int) (n c : Nat) (x : Int) (w : World) (hs : Kds w w.heap.size A l) (hl : l.length = n) (hn : n ≤ 9223372036854775807) :
    Calls Try.prog 68 #[.slice A n c, .int .i64 x] w fun e w' => e = .returned (.bool (l.contains x)) ∧ w = w' := by
  have HX := Lib.hid (idxK_any A l n c x w hs hl hn)
  clear hs hl
  go_enter Try.func68, Try.ntmps68
  go_wp2_with fail
  refine HX.out.mono ?_
  rintro e w' ⟨r, rfl, hr, rfl⟩
  have HR := Lib.hid hr
  clear hr
  go_wp2_with fail
  go_ret
  exact ⟨retb HR.out, rfl⟩
def riseAt (l : List T) (i : Nat) : Bool := keyB (l.getD i []) && (decide (i = 0) || ltB (l.getD (i - 1) []) (l.getD i []))
theorem rise_eq (l : List T) : riseB l = (List.range l.length).all (riseAt l) := rfl
theorem all_range_succ (f : Nat → Bool) (k : Nat) : (List.range (k + 1)).all f = ((List.range k).all f && f k) := by
  rw [List.range_succ, List.all_append]; simp
theorem all_range_no {f : Nat → Bool} {k n : Nat} (h : k < n) (hf : f k = false) : (List.range n).all f = false := by
  rw [List.all_eq_false]; exact ⟨k, List.mem_range.2 h, by simp [hf]⟩
theorem getD_at {α : Type} (l : List α) (d : α) (i : Nat) (h : i < l.length) : l.getD i d = l[i] := by
  rw [List.getD_eq_getElem?_getD, List.getElem?_eq_getElem h]; rfl
set_option maxHeartbeats 1600000 in
theorem rise39_any (r : Nat) (l : List T) (n : Nat) (w : World) (hl : l.length = n) (hn : n ≤ 9223372036854775807)
    (hf : ∀ i, (hi : i < l.length) → Calls Try.prog 67 #[.int .i64 i, .pointer (some ⟨r, 0, none⟩)] w fun e w' => e = .returned (.string (text (l[i]))) ∧ w = w') :
    Calls Try.prog 66 #[.int .i64 n, .func (.func 67) #[] #[.pointer (some ⟨r, 0, none⟩)]] w fun e w' => e = .returned (.bool (riseB l)) ∧ w = w' := by
  have HL := Lib.hid hl
  have HF : Hid (∀ i : Nat, ∀ x : Int, i < n → x = i → Calls Try.prog 67 #[.int .i64 x, .pointer (some ⟨r, 0, none⟩)] w fun e w' => e = .returned (.string (text (l.getD i []))) ∧ w = w') := fun i x hi hx => by
    subst hx
    rw [getD_at l [] i (by omega)]; exact hf i (by omega)
  clear hf hl
  go_enter Try.func66, Try.ntmps66
  go_wp2_with fail
  go_loop [7] (fun i => ∃ k : Nat, k ≤ n ∧ i = .int .i64 k ∧ Hid ((List.range k).all (riseAt l) = true)) (fun i => n - (intOf i).toNat)
  case atStart => exact ⟨0, Nat.zero_le _, rfl, rfl⟩
  case round =>
    obtain ⟨k, hk, rfl, HR⟩ := hrel
    by_cases hlt : k < n
    · have F1 : Hid (∀ x : Int, x = k → Calls Try.prog 67 #[.int .i64 x, .pointer (some ⟨r, 0, none⟩)] w fun e w' => e = .returned (.string (text (l.getD k []))) ∧ w = w') := fun x hx => HF.out k x hlt hx
      have F0 : Hid (0 < k → ∀ x : Int, x = (k : Int) - 1 → Calls Try.prog 67 #[.int .i64 x, .pointer (some ⟨r, 0, none⟩)] w fun e w' => e = .returned (.string (text (l.getD (k - 1) []))) ∧ w = w') := fun h0 x hx => HF.out (k - 1) x (by omega) (by omega)
      have HE : Hid (riseAt l k = (keyB (l.getD k []) && (decide (k = 0) || Op.bytesLess (text (l.getD (k - 1) [])).toList (text (l.getD k [])).toList))) := by
        show _ = _
        rw [text_toList, text_toList]; rfl
      have HK := Lib.hid (key_any (l.getD k []) w)
      obtain ⟨t, ht⟩ : ∃ t, t = text (l.getD k []) := ⟨_, rfl⟩
      obtain ⟨u, hu⟩ : ∃ t, t = text (l.getD (k - 1) []) := ⟨_, rfl⟩
      obtain ⟨x, hx⟩ : ∃ x, x = keyB (l.getD k []) := ⟨_, rfl⟩
      rw [← ht, ← hx] at HK
      rw [← ht] at F1
      rw [← hu] at F0
      rw [← hx, ← ht, ← hu] at HE
      clear ht hu hx
      have HY : Hid (riseAt l k = true → (List.range (k + 1)).all (riseAt l) = true) := fun h => by rw [all_range_succ, HR.out, h]; rfl
      have HNo : Hid (riseAt l k = false → riseB l = false) := fun h => by rw [rise_eq]; exact all_range_no (by rw [HL.out]; exact hlt) h
      cases x with
      | false =>
        go_wp2_with fail
        refine (F1.out _ rfl).mono ?_
        rintro e w1 ⟨rfl, rfl⟩
        go_wp2_with fail
        refine HK.out.mono ?_
        rintro e w1 ⟨rfl, rfl⟩
        go_wp2_with fail
        go_ret
        exact ⟨retb (HNo.out HE.out).symm, rfl⟩
      | true =>
        by_cases h0 : k = 0
        · subst h0
          go_wp2_with fail
          refine (F1.out _ rfl).mono ?_
          rintro e w1 ⟨rfl, rfl⟩
          go_wp2_with fail
          refine HK.out.mono ?_
          rintro e w1 ⟨rfl, rfl⟩
          go_wp2_with fail
          go_round
          case rel => exact ⟨1, by omega, by go_num, HY.out HE.out⟩
          case measure => simp [intOf]; omega
        · have h1 : 0 < k := by omega
          have hk0 : decide (k = 0) = false := decide_eq_false h0
          rw [hk0] at HE
          replace F0 := Lib.hid (F0.out h1)
          obtain ⟨y, hy⟩ : ∃ y, Op.bytesLess u.toList t.toList = y := ⟨_, rfl⟩
          rw [hy] at HE
          have hge : ∀ W, (binOp .geq 9 (.string u) (.string t)).run Try.prog W = .ok (.bool (!y)) W := fun W => by rw [← hy]; simp [binOp, Op.stringOp]
          clear hk0 hy
          cases y with
          | false =>
            go_wp2_with fail
            refine (F1.out _ rfl).mono ?_
            rintro e w1 ⟨rfl, rfl⟩
            go_wp2_with fail
            refine HK.out.mono ?_
            rintro e w1 ⟨rfl, rfl⟩
            go_wp2_with fail
            refine (F0.out _ rfl).mono ?_
            rintro e w1 ⟨rfl, rfl⟩
            go_wp2_with fail
            refine (F1.out _ rfl).mono ?_
            rintro e w1 ⟨rfl, rfl⟩
            go_wp2_with fail
            go_ret
            exact ⟨retb (HNo.out HE.out).symm, rfl⟩
          | true =>
            go_wp2_with fail
            refine (F1.out _ rfl).mono ?_
            rintro e w1 ⟨rfl, rfl⟩
            go_wp2_with fail
            refine HK.out.mono ?_
            rintro e w1 ⟨rfl, rfl⟩
            go_wp2_with fail
            refine (F0.out _ rfl).mono ?_
            rintro e w1 ⟨rfl, rfl⟩
            go_wp2_with fail
            refine (F1.out _ rfl).mono ?_
            rintro e w1 ⟨rfl, rfl⟩
            go_wp2_with fail
            go_round
            case rel => exact ⟨k + 1, by omega, by go_num, HY.out HE.out⟩
            case measure => simp [intOf]; omega
    · obtain rfl : k = n := by omega
      have HZ : Hid (riseB l = true) := by
        show _ = _
        rw [rise_eq, HL.out]; exact HR.out
      go_wp2_with fail
      go_ret
      exact ⟨retb HZ.out.symm, rfl⟩
set_option maxHeartbeats 1600000 in
theorem rise41_any (r : Nat) (l : List T) (n : Nat) (w : World) (hl : l.length = n) (hn : n ≤ 9223372036854775807)
    (hf : ∀ i, (hi : i < l.length) → Calls Try.prog 69 #[.int .i64 i, .pointer (some ⟨r, 0, none⟩)] w fun e w' => e = .returned (.string (text (l[i]))) ∧ w = w') :
    Calls Try.prog 66 #[.int .i64 n, .func (.func 69) #[] #[.pointer (some ⟨r, 0, none⟩)]] w fun e w' => e = .returned (.bool (riseB l)) ∧ w = w' := by
  have HL := Lib.hid hl
  have HF : Hid (∀ i : Nat, ∀ x : Int, i < n → x = i → Calls Try.prog 69 #[.int .i64 x, .pointer (some ⟨r, 0, none⟩)] w fun e w' => e = .returned (.string (text (l.getD i []))) ∧ w = w') := fun i x hi hx => by
    subst hx
    rw [getD_at l [] i (by omega)]; exact hf i (by omega)
  clear hf hl
  go_enter Try.func66, Try.ntmps66
  go_wp2_with fail
  go_loop [7] (fun i => ∃ k : Nat, k ≤ n ∧ i = .int .i64 k ∧ Hid ((List.range k).all (riseAt l) = true)) (fun i => n - (intOf i).toNat)
  case atStart => exact ⟨0, Nat.zero_le _, rfl, rfl⟩
  case round =>
    obtain ⟨k, hk, rfl, HR⟩ := hrel
    by_cases hlt : k < n
    · have F1 : Hid (∀ x : Int, x = k → Calls Try.prog 69 #[.int .i64 x, .pointer (some ⟨r, 0, none⟩)] w fun e w' => e = .returned (.string (text (l.getD k []))) ∧ w = w') := fun x hx => HF.out k x hlt hx
      have F0 : Hid (0 < k → ∀ x : Int, x = (k : Int) - 1 → Calls Try.prog 69 #[.int .i64 x, .pointer (some ⟨r, 0, none⟩)] w fun e w' => e = .returned (.string (text (l.getD (k - 1) []))) ∧ w = w') := fun h0 x hx => HF.out (k - 1) x (by omega) (by omega)
      have HE : Hid (riseAt l k = (keyB (l.getD k []) && (decide (k = 0) || Op.bytesLess (text (l.getD (k - 1) [])).toList (text (l.getD k [])).toList))) := by
        show _ = _
        rw [text_toList, text_toList]; rfl
      have HK := Lib.hid (key_any (l.getD k []) w)
      obtain ⟨t, ht⟩ : ∃ t, t = text (l.getD k []) := ⟨_, rfl⟩
      obtain ⟨u, hu⟩ : ∃ t, t = text (l.getD (k - 1) []) := ⟨_, rfl⟩
      obtain ⟨x, hx⟩ : ∃ x, x = keyB (l.getD k []) := ⟨_, rfl⟩
      rw [← ht, ← hx] at HK
      rw [← ht] at F1
      rw [← hu] at F0
      rw [← hx, ← ht, ← hu] at HE
      clear ht hu hx
      have HY : Hid (riseAt l k = true → (List.range (k + 1)).all (riseAt l) = true) := fun h => by rw [all_range_succ, HR.out, h]; rfl
      have HNo : Hid (riseAt l k = false → riseB l = false) := fun h => by rw [rise_eq]; exact all_range_no (by rw [HL.out]; exact hlt) h
      cases x with
      | false =>
        go_wp2_with fail
        refine (F1.out _ rfl).mono ?_
        rintro e w1 ⟨rfl, rfl⟩
        go_wp2_with fail
        refine HK.out.mono ?_
        rintro e w1 ⟨rfl, rfl⟩
        go_wp2_with fail
        go_ret
        exact ⟨retb (HNo.out HE.out).symm, rfl⟩
      | true =>
        by_cases h0 : k = 0
        · subst h0
          go_wp2_with fail
          refine (F1.out _ rfl).mono ?_
          rintro e w1 ⟨rfl, rfl⟩
          go_wp2_with fail
          refine HK.out.mono ?_
          rintro e w1 ⟨rfl, rfl⟩
          go_wp2_with fail
          go_round
          case rel => exact ⟨1, by omega, by go_num, HY.out HE.out⟩
          case measure => simp [intOf]; omega
        · have h1 : 0 < k := by omega
          have hk0 : decide (k = 0) = false := decide_eq_false h0
          rw [hk0] at HE
          replace F0 := Lib.hid (F0.out h1)
          obtain ⟨y, hy⟩ : ∃ y, Op.bytesLess u.toList t.toList = y := ⟨_, rfl⟩
          rw [hy] at HE
          have hge : ∀ W, (binOp .geq 9 (.string u) (.string t)).run Try.prog W = .ok (.bool (!y)) W := fun W => by rw [← hy]; simp [binOp, Op.stringOp]
          clear hk0 hy
          cases y with
          | false =>
            go_wp2_with fail
            refine (F1.out _ rfl).mono ?_
            rintro e w1 ⟨rfl, rfl⟩
            go_wp2_with fail
            refine HK.out.mono ?_
            rintro e w1 ⟨rfl, rfl⟩
            go_wp2_with fail
            refine (F0.out _ rfl).mono ?_
            rintro e w1 ⟨rfl, rfl⟩
            go_wp2_with fail
            refine (F1.out _ rfl).mono ?_
            rintro e w1 ⟨rfl, rfl⟩
            go_wp2_with fail
            go_ret
            exact ⟨retb (HNo.out HE.out).symm, rfl⟩
          | true =>
            go_wp2_with fail
            refine (F1.out _ rfl).mono ?_
            rintro e w1 ⟨rfl, rfl⟩
            go_wp2_with fail
            refine HK.out.mono ?_
            rintro e w1 ⟨rfl, rfl⟩
            go_wp2_with fail
            refine (F0.out _ rfl).mono ?_
            rintro e w1 ⟨rfl, rfl⟩
            go_wp2_with fail
            refine (F1.out _ rfl).mono ?_
            rintro e w1 ⟨rfl, rfl⟩
            go_wp2_with fail
            go_round
            case rel => exact ⟨k + 1, by omega, by go_num, HY.out HE.out⟩
            case measure => simp [intOf]; omega
    · obtain rfl : k = n := by omega
      have HZ : Hid (riseB l = true) := by
        show _ = _
        rw [rise_eq, HL.out]; exact HR.out
      go_wp2_with fail
      go_ret
      exact ⟨retb HZ.out.symm, rfl⟩
end Go.Proofs.Yteeeomcdknjolaa.Nod

namespace Go.Proofs.Yteeeomcdknjolaa.Nod
open Go.RowKit Crc Chk Frm Fra

theorem alloc_size (w : World) (o : Obj) : (w.alloc o).heap.size = w.heap.size + 1 := Array.size_push _
theorem Prs.more {w : World} {B B' : Nat} {A : Option Addr} {l : List (T × T)} (h : Prs w B A l) (hB : B ≤ B') : Prs w B' A l := fun i hi => by
  obtain ⟨b, o, e, h1, h2⟩ := h i hi
  exact ⟨b, o, e, by omega, h2⟩
theorem Txs.more {w : World} {B B' : Nat} {A : Option Addr} {l : List T} (h : Txs w B A l) (hB : B ≤ B') : Txs w B' A l := fun i hi => by
  obtain ⟨b, o, e, h1, h2⟩ := h i hi
  exact ⟨b, o, e, by omega, h2⟩
theorem Kds.more {w : World} {B B' : Nat} {A : Option Addr} {l : List Int} (h : Kds w B A l) (hB : B ≤ B') : Kds w B' A l := fun i hi => by
  obtain ⟨b, o, e, h1, h2⟩ := h i hi
  exact ⟨b, o, e, by omega, h2⟩
theorem IsN.more {w : World} {B B' : Nat} {n : Nd} {A1 : Option Addr} {n1 c1 : Nat} {A2 : Option Addr} {n2 c2 : Nat} {A3 : Option Addr} {n3 c3 : Nat} (h : IsN w B n A1 n1 c1 A2 n2 c2 A3 n3 c3) (hB : B ≤ B') : IsN w B' n A1 n1 c1 A2 n2 c2 A3 n3 c3 :=
  ⟨h.ps.more hB, h.ks.more hB, h.cs.more hB, h.l1, h.l2, h.l3, h.r1, h.r2, h.r3, h.m1, h.m2, h.m3⟩
theorem mk_func (fn : Fn) (first cap : Array Value) (w : World) : (Instr.makeFunc fn first cap).run Try.prog w = .ok (.func fn first cap) w := rfl
theorem all_not {l : List (T × T)} : (l.all fun p => valB p.2) = !l.any badP := by
  rw [Bool.eq_iff_iff]; simp [badP]
theorem leaf_parts {n : Nd} {n1 n2 : Nat} (h1 : n.ps.length = n1) (h2 : n.ks.length = n2) : leafB n = (decide (n2 = 0) && (decide (n1 ≤ 5) && ((!n.ps.any badP) && riseB (n.ps.map (·.1))))) := by
  unfold leafB
  rw [all_not, h1, h2]
set_option maxHeartbeats 1600000 in
theorem leaf_any (n : Nd) (A1 : Option Addr) (n1 c1 : Nat) (A2 : Option Addr) (n2 c2 : Nat) (A3 : Option Addr) (n3 c3 : Nat) (w : World) (h : IsN w w.heap.size n A1 n1 c1 A2 n2 c2 A3 n3 c3) :
    Calls Try.prog 56 #[nv A1 n1 c1 A2 n2 c2 A3 n3 c3] w fun e w' => e = .returned (.bool (leafB n)) ∧ Below w.heap.size w w' := by
  have HE := Lib.hid (leaf_parts h.l1 h.l2)
  have hl1 := h.l1
  have hm1 := h.m1
  have hm2 := h.m2
  obtain ⟨W0, hW0⟩ : ∃ W0, W0 = w.alloc (.cells #[.slice A1 n1 c1, .slice A2 n2 c2, .slice A3 n3 c3] 55) := ⟨_, rfl⟩
  have HF : Hid (BoxN w.heap.size A1 n1 c1 A2 n2 c2 A3 n3 c3 W0) := by rw [hW0]; exact boxN_new w ..
  have HB0 : Hid (Below w.heap.size w W0) := by rw [hW0]; exact (Below.refl _ _).alloc (Nat.le_refl _) _
  have hz0 : w.heap.size < W0.heap.size := by rw [hW0, alloc_size]; omega
  have hP0 : Prs W0 W0.heap.size A1 n.ps := by
    intro i hi
    obtain ⟨b, o, e, hb, h2⟩ := (h.ps.below HB0.out (Nat.le_refl _)) i hi
    exact ⟨b, o, e, by omega, h2⟩
  have HX := Lib.hid (hasP_any A1 n.ps n1 c1 W0 hP0 hl1 hm1)
  have HY : Hid (∀ W, Below W0.heap.size W0 W → Calls Try.prog 66 #[.int .i64 n1, .func (.func 67) #[] #[.pointer (some ⟨w.heap.size, 0, none⟩)]] W fun e w' => e = .returned (.bool (riseB (n.ps.map (·.1)))) ∧ W = w') := fun W hW => by
    have hc := (HF.out.below hW hz0).cells.1
    have hp := hP0.below hW (Nat.le_refl _)
    exact rise39_any w.heap.size (n.ps.map (·.1)) n1 W (by simpa using hl1) hm1 (fun i hi => by
      have hi' : i < n.ps.length := by simpa using hi
      rw [List.getElem_map]
      exact pkey_any w.heap.size i n.ps A1 n1 c1 W W0.heap.size hl1 hp hc hi')
  have HW0 := Lib.hid hW0
  obtain ⟨b, hb⟩ : ∃ b, b = leafB n := ⟨_, rfl⟩
  obtain ⟨x, hx⟩ : ∃ x, x = n.ps.any badP := ⟨_, rfl⟩
  obtain ⟨y, hy⟩ : ∃ y, y = riseB (n.ps.map (·.1)) := ⟨_, rfl⟩
  rw [← hb, ← hx, ← hy] at HE
  rw [← hb]
  rw [← hx] at HX
  rw [← hy] at HY
  have hmf := mk_func
  clear hb hx hy h hl1 hP0 hW0
  obtain ⟨k0, k1, k2, -⟩ := HF.out.cells
  by_cases h2 : n2 = 0
  · subst h2
    by_cases h1 : n1 ≤ 5
    · have h1' : decide (n1 ≤ 5) = true := decide_eq_true h1
      rw [h1'] at HE
      clear h1'
      go_enter Try.func56, Try.ntmps56
      go_wp2_with fail
      rw [← HW0.out]
      go_wp2_with fail
      refine HX.out.mono ?_
      rintro e w1 ⟨rfl, hb1⟩
      have HB1 : Hid (Below W0.heap.size W0 w1) := hb1
      have HBw := Lib.hid (HB0.out.trans (hb1.mono HB0.out.size))
      obtain ⟨j0, -, -, -⟩ := (HF.out.below hb1 hz0).cells
      clear hb1 k0 k1 k2
      cases x with
      | true =>
        go_wp2_with fail
        go_ret
        exact ⟨retb (by rw [HE.out]; rfl), HBw.out⟩
      | false =>
        go_wp2_with fail
        refine (HY.out _ HB1.out).mono ?_
        rintro e w2 ⟨rfl, rfl⟩
        go_wp2_with fail
        go_ret
        exact ⟨retb (by rw [HE.out]; rfl), HBw.out⟩
    · have h1' : decide (n1 ≤ 5) = false := decide_eq_false h1
      rw [h1'] at HE
      clear h1'
      go_enter Try.func56, Try.ntmps56
      go_wp2_with fail
      rw [← HW0.out]
      go_wp2_with fail
      go_ret
      exact ⟨retb (by rw [HE.out]; rfl), HB0.out⟩
  · have h2' : decide (n2 = 0) = false := decide_eq_false h2
    rw [h2'] at HE
    clear h2'
    go_enter Try.func56, Try.ntmps56
    go_wp2_with fail
    rw [← HW0.out]
    go_wp2_with fail
    go_ret
    exact ⟨retb (by rw [HE.out]; rfl), HB0.out⟩
def kidAt (l : List Int) (i : Nat) : Bool := (decide (0 ≤ l.getD i 0) && decide (l.getD i 0 < 200)) && !(l.take i).contains (l.getD i 0)
theorem kids_eq (l : List Int) : kidsB l = (List.range l.length).all (kidAt l) := rfl
theorem inner_parts {n : Nd} {n1 n2 n3 : Nat} (h1 : n.ps.length = n1) (h2 : n.ks.length = n2) (h3 : n.cs.length = n3) : innerB n = ((decide (n1 = 0) && (decide (2 ≤ n3) && (decide (n3 ≤ 8) && decide (n2 + 1 = n3)))) && (kidsB n.cs && riseB n.ks)) := by
  unfold innerB
  rw [h1, h2, h3]
set_option maxHeartbeats 3200000 in
theorem inner_any (n : Nd) (A1 : Option Addr) (n1 c1 : Nat) (A2 : Option Addr) (n2 c2 : Nat) (A3 : Option Addr) (n3 c3 : Nat) (w : World) (h : IsN w w.heap.size n A1 n1 c1 A2 n2 c2 A3 n3 c3) :
    Calls Try.prog 57 #[nv A1 n1 c1 A2 n2 c2 A3 n3 c3] w fun e w' => e = .returned (.bool (innerB n)) ∧ Below w.heap.size w w' := by
  have HE := Lib.hid (inner_parts h.l1 h.l2 h.l3)
  have HL := Lib.hid h.l3
  have hl2 := h.l2
  have hm1 := h.m1
  have hm2 := h.m2
  have hm3 := h.m3
  have hr3 := h.r3
  obtain ⟨W0, hW0⟩ : ∃ W0, W0 = w.alloc (.cells #[.slice A1 n1 c1, .slice A2 n2 c2, .slice A3 n3 c3] 55) := ⟨_, rfl⟩
  have HF : Hid (BoxN w.heap.size A1 n1 c1 A2 n2 c2 A3 n3 c3 W0) := by rw [hW0]; exact boxN_new w ..
  have HB0 : Hid (Below w.heap.size w W0) := by rw [hW0]; exact (Below.refl _ _).alloc (Nat.le_refl _) _
  have hz0 : w.heap.size < W0.heap.size := by rw [hW0, alloc_size]; omega
  have HKd : Hid (Kds W0 W0.heap.size A3 n.cs) := by
    intro i hi
    obtain ⟨b, o, e, hb, h2⟩ := (h.cs.below HB0.out (Nat.le_refl _)) i hi
    exact ⟨b, o, e, by omega, h2⟩
  have hks : Txs W0 W0.heap.size A2 n.ks := by
    intro i hi
    obtain ⟨b, o, e, hb, h2⟩ := (h.ks.below HB0.out (Nat.le_refl _)) i hi
    exact ⟨b, o, e, by omega, h2⟩
  obtain ⟨k0, k1, k2, -⟩ := HF.out.cells
  have HY : Hid (Calls Try.prog 66 #[.int .i64 n2, .func (.func 69) #[] #[.pointer (some ⟨w.heap.size, 0, none⟩)]] W0 fun e w' => e = .returned (.bool (riseB n.ks)) ∧ W0 = w') :=
    rise41_any w.heap.size n.ks n2 W0 hl2 hm2 (fun i hi => ikey_any w.heap.size i n.ks A2 n2 c2 W0 W0.heap.size hl2 hks k1 hi)
  have HW0 := Lib.hid hW0
  have hmf := mk_func
  obtain ⟨b, hb⟩ : ∃ b, b = innerB n := ⟨_, rfl⟩
  obtain ⟨y, hy⟩ : ∃ y, y = riseB n.ks := ⟨_, rfl⟩
  obtain ⟨cs, hcs⟩ : ∃ cs, cs = n.cs := ⟨_, rfl⟩
  rw [← hb, ← hy, ← hcs] at HE
  rw [← hb]
  rw [← hy] at HY
  rw [← hcs] at HKd HL
  clear hb hy h hl2 hks hW0 hcs
  by_cases g1 : n1 = 0
  · subst g1
    by_cases g2 : 2 ≤ n3
    · by_cases g3 : n3 ≤ 8
      · by_cases g4 : n2 + 1 = n3
        · have HE2 : Hid (b = (kidsB cs && y)) := by
            show _ = _
            rw [HE.out, decide_eq_true g2, decide_eq_true g3, decide_eq_true g4]; rfl
          clear HE
          have g5 : (n3 : Int) - 1 = n2 := by omega
          go_enter Try.func57, Try.ntmps57
          go_wp2_with fail
          rw [← HW0.out]
          go_wp2_with fail
          go_loop [34] (fun i => ∃ k : Nat, k ≤ n3 ∧ i = .int .i64 k ∧ Hid ((List.range k).all (kidAt cs) = true)) (fun i => n3 - (intOf i).toNat)
          case atStart => exact ⟨0, Nat.zero_le _, rfl, rfl⟩
          case round =>
            obtain ⟨k, hk, rfl, HR⟩ := hrel
            by_cases hlt : k < n3
            · have hlt' : k < cs.length := by rw [HL.out]; exact hlt
              obtain ⟨b0, o0, rfl, hb1, hc, hr1, hr2⟩ := HKd.out k hlt'
              have HA : Hid (kidAt cs k = ((decide (0 ≤ cs[k]) && decide (cs[k] < 200)) && !(cs.take k).contains cs[k])) := by
                show _ = _
                unfold kidAt
                rw [getD_at cs 0 k hlt']
              have HT := Lib.hid (hasK_any (some ⟨b0, o0, none⟩) (cs.take k) k c3 cs[k] W0 (HKd.out.take k) (by rw [List.length_take]; omega) (by omega))
              have HYs : Hid (kidAt cs k = true → (List.range (k + 1)).all (kidAt cs) = true) := fun h => by rw [all_range_succ, HR.out, h]; rfl
              have HNo : Hid (kidAt cs k = false → b = false) := fun h => by rw [HE2.out, kids_eq, all_range_no (by rw [HL.out]; exact hlt) h]; rfl
              obtain ⟨a, ha⟩ : ∃ a, a = cs[k] := ⟨_, rfl⟩
              obtain ⟨x, hx⟩ : ∃ x, x = (cs.take k).contains cs[k] := ⟨_, rfl⟩
              rw [← hx, ← ha] at HT
              rw [← hx, ← ha] at HA
              rw [← ha] at hc hr1 hr2
              clear ha hx hlt'
              by_cases q1 : 0 ≤ a
              · by_cases q2 : a < 200
                · rw [decide_eq_true q1, decide_eq_true q2] at HA
                  cases x with
                  | true =>
                    go_wp2_with fail
                    refine HT.out.mono ?_
                    rintro e w1 ⟨rfl, rfl⟩
                    go_wp2_with fail
                    go_ret
                    exact ⟨retb (HNo.out HA.out).symm, HB0.out⟩
                  | false =>
                    go_wp2_with fail
                    refine HT.out.mono ?_
                    rintro e w1 ⟨rfl, rfl⟩
                    go_wp2_with fail
                    go_round
                    case rel => exact ⟨k + 1, by omega, by go_num, HYs.out HA.out⟩
                    case measure => simp [intOf]; omega
                · rw [decide_eq_true q1, decide_eq_false q2] at HA
                  go_wp2_with fail
                  go_ret
                  exact ⟨retb (HNo.out HA.out).symm, HB0.out⟩
              · rw [decide_eq_false q1] at HA
                go_wp2_with fail
                go_ret
                exact ⟨retb (HNo.out HA.out).symm, HB0.out⟩
            · obtain rfl : k = n3 := by omega
              have HZ : Hid (b = y) := by
                show _ = _
                rw [HE2.out, kids_eq, HL.out, HR.out]; rfl
              go_wp2_with fail
              refine HY.out.mono ?_
              rintro e w1 ⟨rfl, rfl⟩
              go_wp2_with fail
              go_ret
              exact ⟨retb HZ.out.symm, HB0.out⟩
        · rw [decide_eq_false g4] at HE
          have g5 : ((n2 : Int) != (n3 : Int) - 1) = true := by simp; omega
          go_enter Try.func57, Try.ntmps57
          go_wp2_with fail
          rw [← HW0.out]
          go_wp2_with fail
          go_ret
          exact ⟨retb (by rw [HE.out]; simp), HB0.out⟩
      · rw [decide_eq_false g3] at HE
        go_enter Try.func57, Try.ntmps57
        go_wp2_with fail
        rw [← HW0.out]
        go_wp2_with fail
        go_ret
        exact ⟨retb (by rw [HE.out]; simp), HB0.out⟩
    · rw [decide_eq_false g2] at HE
      go_enter Try.func57, Try.ntmps57
      go_wp2_with fail
      rw [← HW0.out]
      go_wp2_with fail
      go_ret
      exact ⟨retb (by rw [HE.out]; simp), HB0.out⟩
  · rw [decide_eq_false g1] at HE
    go_enter Try.func57, Try.ntmps57
    go_wp2_with fail
    rw [← HW0.out]
    go_wp2_with fail
    go_ret
    exact ⟨retb (by rw [HE.out]; simp), HB0.out⟩
theorem may_any (n : Nd) (A1 : Option Addr) (n1 c1 : Nat) (A2 : Option Addr) (n2 c2 : Nat) (A3 : Option Addr) (n3 c3 : Nat) (w : World) (h : IsN w w.heap.size n A1 n1 c1 A2 n2 c2 A3 n3 c3) :
    Calls Try.prog 38 #[nv A1 n1 c1 A2 n2 c2 A3 n3 c3] w fun e w' => e = .returned (.bool (mayB n)) ∧ Below w.heap.size w w' := by
  have HE : Hid (mayB n = if n3 = 0 then leafB n else innerB n) := by show _ = _; unfold mayB; rw [h.l3]
  obtain ⟨W0, hW0⟩ : ∃ W0, W0 = w.alloc (.cells #[.slice A1 n1 c1, .slice A2 n2 c2, .slice A3 n3 c3] 55) := ⟨_, rfl⟩
  have HF : Hid (BoxN w.heap.size A1 n1 c1 A2 n2 c2 A3 n3 c3 W0) := by rw [hW0]; exact boxN_new w ..
  have HB0 : Hid (Below w.heap.size w W0) := by rw [hW0]; exact (Below.refl _ _).alloc (Nat.le_refl _) _
  have hz0 : w.heap.size ≤ W0.heap.size := by rw [hW0, alloc_size]; omega
  have hN : IsN W0 W0.heap.size n A1 n1 c1 A2 n2 c2 A3 n3 c3 := (h.below HB0.out (Nat.le_refl _)).more hz0
  have HLf := Lib.hid (leaf_any n A1 n1 c1 A2 n2 c2 A3 n3 c3 W0 hN)
  have HIn := Lib.hid (inner_any n A1 n1 c1 A2 n2 c2 A3 n3 c3 W0 hN)
  obtain ⟨k0, k1, k2, -⟩ := HF.out.cells
  have HW0 := Lib.hid hW0
  obtain ⟨b, hb⟩ : ∃ b, b = mayB n := ⟨_, rfl⟩
  rw [← hb] at HE ⊢
  clear hb h hN hW0
  by_cases h0 : n3 = 0
  · rw [if_pos h0] at HE
    subst h0
    go_enter Try.func38, Try.ntmps38
    go_wp2_with fail
    rw [← HW0.out]
    go_wp2_with fail
    refine HLf.out.mono ?_
    rintro e w1 ⟨rfl, hb1⟩
    have HB1 := Lib.hid (HB0.out.trans (hb1.mono HB0.out.size))
    clear hb1 k0 k1 k2
    go_wp2_with fail
    go_ret
    exact ⟨retb HE.out.symm, HB1.out⟩
  · rw [if_neg h0] at HE
    go_enter Try.func38, Try.ntmps38
    go_wp2_with fail
    rw [← HW0.out]
    go_wp2_with fail
    refine HIn.out.mono ?_
    rintro e w1 ⟨rfl, hb1⟩
    have HB1 := Lib.hid (HB0.out.trans (hb1.mono HB0.out.size))
    clear hb1 k0 k1 k2
    go_wp2_with fail
    go_ret
    exact ⟨retb HE.out.symm, HB1.out⟩
end Go.Proofs.Yteeeomcdknjolaa.Nod

namespace Go.Proofs.Yteeeomcdknjolaa.Nod
open Go.RowKit Crc Chk Frm Fra

theorem step' {B : Nat} {w w1 w2 : World} (h1 : Below B w w1) (h2 : Below w1.heap.size w1 w2) (hB : B ≤ w1.heap.size) : Below B w w2 := h1.trans (h2.mono hB)
end Go.Proofs.Yteeeomcdknjolaa.Nod

namespace Go.Proofs.Yteeeomcdknjolaa.Nod
open Go.RowKit Crc Chk Frm Fra

def pcs : List (T × T) → List Value
  | [] => []
  | p :: l => .string (text p.1) :: .string (text p.2) :: pcs l
theorem pcs_append (a b : List (T × T)) : pcs (a ++ b) = pcs a ++ pcs b := by
  induction a with
  | nil => rfl
  | cons p a ih => simp [pcs, ih]
theorem pcs_at (l : List (T × T)) (i : Nat) (h : i < l.length) : (pcs l)[i * 2]? = some (.string (text l[i].1)) ∧ (pcs l)[i * 2 + 1]? = some (.string (text l[i].2)) := by
  induction l generalizing i with
  | nil => cases h
  | cons p l ih =>
    cases i with
    | zero => exact ⟨rfl, rfl⟩
    | succ i =>
      have := ih i (by simpa using h)
      rw [show (i + 1) * 2 = i * 2 + 1 + 1 by omega, show i * 2 + 1 + 1 + 1 = (i * 2 + 1) + 1 + 1 by omega]
      simpa [pcs] using this
abbrev tcs (l : List T) : List Value := l.map fun s => Value.string (text s)
abbrev kcs (l : List Int) : List Value := l.map fun c => Value.int .i64 c
abbrev OwnP (w : World) (base : Nat) (v : Value) (l : List (T × T)) : Prop := w.ownsRow base 49 2 v l.length (pcs l)
abbrev OwnT (w : World) (base : Nat) (v : Value) (l : List T) : Prop := w.ownsRow base 9 1 v l.length (tcs l)
abbrev OwnK (w : World) (base : Nat) (v : Value) (l : List Int) : Prop := w.ownsRow base 3 1 v l.length (kcs l)
theorem row_form {w : World} {base n size : Nat} {e : TypeId} {v : Value} {xs : List Value} (h : w.ownsRow base e size v n xs) (h0 : 0 < n) : ∃ g c, v = .slice (some ⟨g, 0, none⟩) n c ∧ g < w.heap.size ∧ n ≤ c ∧ base ≤ g ∧ ∀ j u, xs[j]? = some u → w.cell? ⟨g, j, none⟩ = some u := by
  have h' := h
  rcases h.2 with ⟨_, h1⟩ | ⟨g, cap, cur, rfl, hb, hh, hc, _⟩
  · omega
  · refine ⟨g, cap, rfl, ?_, hc, hb, fun j u hj => ?_⟩
    · rcases Nat.lt_or_ge g w.heap.size with hlt | hge
      · exact hlt
      · rw [Array.getElem?_eq_none hge] at hh; cases hh
    · have := h'.cells (g := g) rfl j u hj
      rwa [Addr.add_lit, Nat.zero_add] at this
theorem row_sl {w : World} {base n size : Nat} {e : TypeId} {v : Value} {xs : List Value} (h : w.ownsRow base e size v n xs) : ∃ A c, v = .slice A n c ∧ n ≤ c := by
  rcases h.2 with ⟨rfl, rfl⟩ | ⟨g, cap, cur, rfl, hb, hh, hc, _⟩
  · exact ⟨none, 0, rfl, Nat.le_refl _⟩
  · exact ⟨_, cap, rfl, hc⟩
theorem row_below {w w' : World} {base n size B : Nat} {e : TypeId} {v : Value} {xs : List Value} (h : w.ownsRow base e size v n xs) (hb : Below B w w') (hB : w.heap.size ≤ B) : w'.ownsRow base e size v n xs := by
  refine ⟨h.1, ?_⟩
  rcases h.2 with h2 | ⟨g, cap, cur, hv, hbg, hh, h3⟩
  · exact .inl h2
  · refine .inr ⟨g, cap, cur, hv, hbg, ?_, h3⟩
    have hlt : g < w.heap.size := by
      rcases Nat.lt_or_ge g w.heap.size with hlt | hge
      · exact hlt
      · rw [Array.getElem?_eq_none hge] at hh; cases hh
    rw [← hh]
    exact hb.block g (by omega)
theorem row_less {w : World} {base B n size : Nat} {e : TypeId} {v : Value} {xs : List Value} (h : w.ownsRow base e size v n xs) (hB : B ≤ base) : w.ownsRow B e size v n xs := by
  refine ⟨h.1, ?_⟩
  rcases h.2 with h2 | ⟨g, cap, cur, hv, hbg, h3⟩
  · exact .inl h2
  · exact .inr ⟨g, cap, cur, hv, by omega, h3⟩
theorem row_grown {w w' : World} {base n size r : Nat} {e : TypeId} {v : Value} {xs : List Value} (h : w.ownsRow base e size v n xs) (hg : w.grownBy w' (some r)) (hr : r < base) : w'.ownsRow base e size v n xs := by
  refine ⟨h.1, ?_⟩
  rcases h.2 with h2 | ⟨g, cap, cur, hv, hbg, hh, h3⟩
  · exact .inl h2
  · refine .inr ⟨g, cap, cur, hv, hbg, ?_, h3⟩
    have hlt : g < w.heap.size := by
      rcases Nat.lt_or_ge g w.heap.size with hlt | hge
      · exact hlt
      · rw [Array.getElem?_eq_none hge] at hh; cases hh
    rw [← hh]
    exact hg.block g hlt (fun e => by injection e with e; omega)
theorem prs_of {w : World} {base n c : Nat} {A : Option Addr} {l : List (T × T)} (h : w.ownsRow base 49 2 (.slice A n c) n (pcs l)) (hn : n = l.length) : Prs w w.heap.size A l := fun i hi => by
  obtain ⟨g, c', e, hg, -, -, hc⟩ := row_form h (by omega)
  injection e with e1 e2 e3
  subst e1
  obtain ⟨h1, h2⟩ := pcs_at l i hi
  exact ⟨g, 0, rfl, hg, by rw [Nat.zero_add]; exact hc _ _ h1, by rw [Nat.zero_add]; exact hc _ _ h2⟩
theorem txs_of {w : World} {base n c : Nat} {A : Option Addr} {l : List T} (h : w.ownsRow base 9 1 (.slice A n c) n (tcs l)) (hn : n = l.length) : Txs w w.heap.size A l := fun i hi => by
  obtain ⟨g, c', e, hg, -, -, hc⟩ := row_form h (by omega)
  injection e with e1 e2 e3
  subst e1
  exact ⟨g, 0, rfl, hg, by rw [Nat.zero_add]; exact hc _ _ (by simp [hi])⟩
theorem kds_of {w : World} {base n c : Nat} {A : Option Addr} {l : List Int} (h : w.ownsRow base 3 1 (.slice A n c) n (kcs l)) (hn : n = l.length) (hr : ∀ x ∈ l, -9223372036854775808 ≤ x ∧ x ≤ 9223372036854775807) : Kds w w.heap.size A l := fun i hi => by
  obtain ⟨g, c', e, hg, -, -, hc⟩ := row_form h (by omega)
  injection e with e1 e2 e3
  subst e1
  have := hr _ (List.getElem_mem hi)
  exact ⟨g, 0, rfl, hg, by rw [Nat.zero_add]; exact hc _ _ (by simp [hi]), this.1, this.2⟩
/-- One more, out of a box of its own. -/
theorem run_app_new (w : World) (base : Nat) (t e : TypeId) (i : TypeInfo) (z : Value) (size bytes : Nat) (ht : Try.prog.underlying t = some (.slice e)) (hi : Try.prog.info? e = some i) (hz : i.zero = some z)
    (hsize : i.size = size) (hby : i.bytes = bytes) (hzs : z.cells.size = size) (hsz : 0 < size) (v : Value) (n : Nat) (xs : List Value) (hown : w.ownsRow base e size v n xs) (news : List Value) (hl : news.length = 1 * size) (h1 : ∀ u ∈ news, u.oneCell' = true)
    (hn : n ≤ 1000000) (hbb : bytes ≤ 64) (hb : base ≤ w.heap.size) :
    ∃ v' w', (Builtin.append_ #[t, t] t #[v, .slice (some ⟨w.heap.size, 0, none⟩) 1 1]).run Try.prog (w.alloc (.cells news.toArray e)) = .ok v' w' ∧ w'.ownsRow base e size v' (n + 1) (xs ++ news) ∧ Below base w w' ∧ w.heap.size ≤ w'.heap.size := by
  have hbD : Below base w (w.alloc (.cells news.toArray e)) := (Below.refl _ _).alloc hb _
  have hO1 : (w.alloc (.cells news.toArray e)).ownsRow base e size v n xs := hown.alloc _
  obtain ⟨v', w', hrun, h2, h3, _, h5⟩ := run_append_own_at (P := Try.prog) _ base t t e i z size bytes ht hi hz hsize hby hzs hsz v n xs hO1 ⟨w.heap.size, 0, none⟩ 1 1 news hl (fun j u hj => by
    rw [Addr.add_lit, Nat.zero_add, World.cell?_alloc_new]
    simpa using hj) h1 (by simp only [maxLen]; omega) (Nat.le_trans (Nat.mul_le_mul (by omega : n + 1 ≤ 1000001) hbb) (by decide)) (Nat.le_trans hb hbD.size)
  refine ⟨v', w', hrun, h2, hbD.grown h3 (Nat.le_trans hb hbD.size) (fun k h => (hO1.lt k h).1), ?_⟩
  have := h3.size
  rw [alloc_size] at this
  omega
theorem info49 : (Try.prog.info? 49).map (fun i => (i.zero, i.size, i.bytes)) = some (some (.agg #[.string ⟨#[]⟩, .string ⟨#[]⟩]), 2, 32) := by kernel_rfl
theorem info9 : (Try.prog.info? 9).map (fun i => (i.zero, i.size, i.bytes)) = some (some (.string ⟨#[]⟩), 1, 16) := by kernel_rfl
theorem info3 : (Try.prog.info? 3).map (fun i => (i.zero, i.size, i.bytes)) = some (some (.int .i64 0), 1, 8) := by kernel_rfl
theorem run_appP (w : World) (base : Nat) (v : Value) (l : List (T × T)) (hown : OwnP w base v l) (a b : T) (hn : l.length ≤ 1000000) (hb : base ≤ w.heap.size) :
    ∃ v' w', (Builtin.append_ #[22, 22] 22 #[v, .slice (some ⟨w.heap.size, 0, none⟩) 1 1]).run Try.prog (w.alloc (.cells #[.string (text a), .string (text b)] 49)) = .ok v' w' ∧ OwnP w' base v' (l ++ [(a, b)]) ∧ Below base w w' ∧ w.heap.size ≤ w'.heap.size := by
  obtain ⟨i0, hi, hz0, hz1, hz2⟩ := info_parts info49
  obtain ⟨v', w', h1, h2, h3⟩ := run_app_new w base 22 49 i0 _ 2 32 Try.underlying22 hi hz0 hz1 hz2 (by kernel_rfl) (by decide) v _ _ hown [.string (text a), .string (text b)] rfl (by intro u hu; simp at hu; rcases hu with rfl | rfl <;> rfl) hn (by decide) hb
  refine ⟨v', w', h1, ?_, h3⟩
  show World.ownsRow _ _ _ _ _ _ _
  rw [List.length_append, pcs_append]
  exact h2
theorem run_appT (w : World) (base : Nat) (v : Value) (l : List T) (hown : OwnT w base v l) (a : T) (hn : l.length ≤ 1000000) (hb : base ≤ w.heap.size) :
    ∃ v' w', (Builtin.append_ #[53, 53] 53 #[v, .slice (some ⟨w.heap.size, 0, none⟩) 1 1]).run Try.prog (w.alloc (.cells #[.string (text a)] 9)) = .ok v' w' ∧ OwnT w' base v' (l ++ [a]) ∧ Below base w w' ∧ w.heap.size ≤ w'.heap.size := by
  obtain ⟨i0, hi, hz0, hz1, hz2⟩ := info_parts info9
  obtain ⟨v', w', h1, h2, h3⟩ := run_app_new w base 53 9 i0 _ 1 16 Try.underlying53 hi hz0 hz1 hz2 (by kernel_rfl) (by decide) v _ _ hown [.string (text a)] rfl (by intro u hu; simp at hu; subst hu; rfl) hn (by decide) hb
  refine ⟨v', w', h1, ?_, h3⟩
  show World.ownsRow _ _ _ _ _ _ _
  rw [List.length_append, tcs, List.map_append]
  exact h2
theorem run_appK (w : World) (base : Nat) (v : Value) (l : List Int) (hown : OwnK w base v l) (a : Int) (hn : l.length ≤ 1000000) (hb : base ≤ w.heap.size) :
    ∃ v' w', (Builtin.append_ #[32, 32] 32 #[v, .slice (some ⟨w.heap.size, 0, none⟩) 1 1]).run Try.prog (w.alloc (.cells #[.int .i64 a] 3)) = .ok v' w' ∧ OwnK w' base v' (l ++ [a]) ∧ Below base w w' ∧ w.heap.size ≤ w'.heap.size := by
  obtain ⟨i0, hi, hz0, hz1, hz2⟩ := info_parts info3
  obtain ⟨v', w', h1, h2, h3⟩ := run_app_new w base 32 3 i0 _ 1 8 Try.underlying32 hi hz0 hz1 hz2 (by kernel_rfl) (by decide) v _ _ hown [.int .i64 a] rfl (by intro u hu; simp at hu; subst hu; rfl) hn (by decide) hb
  refine ⟨v', w', h1, ?_, h3⟩
  show World.ownsRow _ _ _ _ _ _ _
  rw [List.length_append, kcs, List.map_append]
  exact h2
end Go.Proofs.Yteeeomcdknjolaa.Nod

namespace Go.Proofs.Yteeeomcdknjolaa.Nod
open Go.RowKit Crc Chk Frm Fra

/-- Another type, another block. -/
theorem row_ne {w : World} {base n size g : Nat} {e : TypeId} {v : Value} {xs : List Value} {cs : Array Value} {t : TypeId} {fr : Nat × Nat} (h : w.ownsRow base e size v n xs) (hg : w.heap[g]? = some (.cells cs t fr)) (ht : e ≠ t) : v.ownBlock ≠ some g := by
  rcases h.2 with ⟨rfl, _⟩ | ⟨g', cap, cur, rfl, _, hh, _⟩
  · simp [Value.ownBlock]
  · simp [Value.ownBlock]
    rintro rfl
    rw [hh] at hg
    injection hg with hg
    injection hg with _ hg
    exact ht hg
end Go.Proofs.Yteeeomcdknjolaa.Nod

namespace Go.Proofs.Yteeeomcdknjolaa.Nod
open Go.RowKit Crc Chk Frm Fra

theorem BoxN.set0 {r : Nat} {A1 : Option Addr} {n1 c1 : Nat} {A2 : Option Addr} {n2 c2 : Nat} {A3 : Option Addr} {n3 c3 : Nat} {w : World} (h : BoxN r A1 n1 c1 A2 n2 c2 A3 n3 c3 w) (A : Option Addr) (n c : Nat) : BoxN r A n c A2 n2 c2 A3 n3 c3 (w.setCell ⟨r, 0, none⟩ (.slice A n c)) := by
  unfold BoxN at h ⊢
  simp [World.setCell, Array.getElem?_modify, h]
theorem BoxN.set1 {r : Nat} {A1 : Option Addr} {n1 c1 : Nat} {A2 : Option Addr} {n2 c2 : Nat} {A3 : Option Addr} {n3 c3 : Nat} {w : World} (h : BoxN r A1 n1 c1 A2 n2 c2 A3 n3 c3 w) (A : Option Addr) (n c : Nat) : BoxN r A1 n1 c1 A n c A3 n3 c3 (w.setCell ⟨r, 1, none⟩ (.slice A n c)) := by
  unfold BoxN at h ⊢
  simp [World.setCell, Array.getElem?_modify, h]
theorem BoxN.set2 {r : Nat} {A1 : Option Addr} {n1 c1 : Nat} {A2 : Option Addr} {n2 c2 : Nat} {A3 : Option Addr} {n3 c3 : Nat} {w : World} (h : BoxN r A1 n1 c1 A2 n2 c2 A3 n3 c3 w) (A : Option Addr) (n c : Nat) : BoxN r A1 n1 c1 A2 n2 c2 A n c (w.setCell ⟨r, 2, none⟩ (.slice A n c)) := by
  unfold BoxN at h ⊢
  simp [World.setCell, Array.getElem?_modify, h]
theorem wp_exact4 {P : Program} {o : Oper} {a : Act} {w w' : World} {K : Act → World → Prop} {Q : Exit → Act → World → Prop} {v : Value} (h : (execOp a.eval o).run P w = .ok (.value v) w') (hk : K (a.put o.dst v) w') : o.wp P a w K Q := by
  unfold Oper.wp
  rw [h]
  exact hk
end Go.Proofs.Yteeeomcdknjolaa.Nod

