/- Chapter 10 in the model: the tones of a kind, chords, classes of pitches. -/
import Derived.Test.YtcgcnkddgihkpaaDoorWalksPt
import Derived.Test.YtcgcnkddgihkpaaDoorIntC
import Derived.Test.YtcgcnkddgihkpaaDoorWalks2S
import Derived.Test.YtcgcnkddgihkpaaDoorWalks3S
import Derived.Test.YtcgcnkddgihkpaaDoorPure10
import Derived.Test.YtcgcnkddgihkpaaDoorWalks1
import Derived.Test.YtcgcnkddgihkpaaDoorWalks2I
import Derived.Test.YtcgcnkddgihkpaaDoorRegionD
namespace Go.Proofs.YtcgcnkddgihkpaaDoor
set_option linter.unusedSimpArgs false
set_option linter.unusedVariables false
set_option maxRecDepth 8000
open Go.RowKit

theorem infoIv : (Tryd.prog.info? 31).map (fun i => (i.zero, i.size, i.bytes)) = some (some (.agg #[.int .i64 0, .int .i64 0]), 2, 16) := by kernel_rfl

def ivC2 (v : Int × Int) : List Value := [.int .i64 v.1, .int .i64 v.2]
def tnC (l : List (Int × Int)) : List Value := l.flatMap ivC2
theorem tnC_len : ∀ l : List (Int × Int), (tnC l).length = l.length * 2
  | [] => rfl
  | x :: l => by
    have := tnC_len l
    simp only [tnC, List.flatMap_cons, List.length_append, List.length_cons] at this ⊢
    rw [this]
    have hx : (ivC2 x).length = 2 := rfl
    omega
theorem tnC_at : ∀ {v : List (Int × Int)} {k : Nat} {x : Int × Int}, v[k]? = some x → (tnC v)[k * 2]? = some (.int .i64 x.1) ∧ (tnC v)[k * 2 + 1]? = some (.int .i64 x.2)
  | [], k, x, h => by simp at h
  | z :: l, 0, x, h => by
    simp at h
    subst h
    exact ⟨rfl, rfl⟩
  | z :: l, k + 1, x, h => by
    have ih := tnC_at (v := l) (k := k) (x := x) (by simpa using h)
    have hz : (ivC2 z).length = 2 := rfl
    have e : ∀ i, (tnC (z :: l))[(k + 1) * 2 + i]? = (tnC l)[k * 2 + i]? := fun i => by
      show (ivC2 z ++ tnC l)[(k + 1) * 2 + i]? = _
      rw [List.getElem?_append_right (by omega)]
      congr 1; omega
    have e0 := e 0
    simp only [Nat.add_zero] at e0
    rw [e0, e 1]
    exact ih
theorem one2t {x y : Int} : ∀ u ∈ [Value.int .i64 x, .int .i64 y], u.oneCell' = true := by
  intro u hu
  simp at hu
  rcases hu with rfl | rfl <;> rfl

theorem thT {k : Int} (h : 0 ≤ k ∧ k ≤ 8) : [4, 3, 3, 4, 4, 4, 3, 3, 3].getD k.toNat 0 = thZ k := by
  obtain rfl | rfl | rfl | rfl | rfl | rfl | rfl | rfl | rfl : k = 0 ∨ k = 1 ∨ k = 2 ∨ k = 3 ∨ k = 4 ∨ k = 5 ∨ k = 6 ∨ k = 7 ∨ k = 8 := by omega
  all_goals rfl
theorem fiT {k : Int} (h : 0 ≤ k ∧ k ≤ 8) : [7, 7, 6, 8, 7, 7, 7, 6, 6].getD k.toNat 0 = fiZ k := by
  obtain rfl | rfl | rfl | rfl | rfl | rfl | rfl | rfl | rfl : k = 0 ∨ k = 1 ∨ k = 2 ∨ k = 3 ∨ k = 4 ∨ k = 5 ∨ k = 6 ∨ k = 7 ∨ k = 8 := by omega
  all_goals rfl
theorem seT {k : Int} (h : 0 ≤ k ∧ k ≤ 8) : [0, 0, 0, 0, 10, 11, 10, 10, 9].getD k.toNat 0 = seZ k := by
  obtain rfl | rfl | rfl | rfl | rfl | rfl | rfl | rfl | rfl : k = 0 ∨ k = 1 ∨ k = 2 ∨ k = 3 ∨ k = 4 ∨ k = 5 ∨ k = 6 ∨ k = 7 ∨ k = 8 := by omega
  all_goals rfl
theorem seZ_bd (k : Int) : 0 ≤ seZ k := by unfold seZ; (repeat' split) <;> omega
theorem int_atT {n : Nat} {B : World → Prop} {w : World} {b : Nat} {x y : Int} {L : List Item} (us : List Int) (h : Own n B w L) (hm : Item.blk b (us.map (Value.int .i64)) ∈ L) (x0 : 0 ≤ x) (x1 : x < us.length) (e : us.getD x.toNat 0 = y) : w.cell? ⟨b, x.toNat, none⟩ = some (.int .i64 y) := by
  subst e; exact h.int_at us hm x0 x1

/- Chapter 10 in the model: chords. -/
open Go.RowKit

theorem adS_is {x : Pt} {v : Int × Int} {b : Bool} (h : adT? x v = b) (w : World) :
    Calls Tryd.prog 58 #[.agg #[.int .i64 x.s, .int .i64 x.a, .int .i64 x.o], .agg #[.int .i64 v.1, .int .i64 v.2]] w fun e w' => e = .returned (.tuple #[.agg (if b then #[.int .i64 (adT x v).s, .int .i64 (adT x v).a, .int .i64 (adT x v).o] else #[.int .i64 0, .int .i64 0, .int .i64 0]), .bool b]) ∧ Below w.heap.size w w' := by
  cases b
  · exact adS_no x.s x.a x.o v.1 v.2 w h
  · exact adS_yes x.s x.a x.o v.1 v.2 w h
theorem all_ixT {L : List (Int × Int)} {p : Int × Int → Bool} (h : ∀ (i : Nat) (v : Int × Int), i < L.length → L[i]? = some v → p v = true) : ∀ v, v ∈ L → p v = true := fun v hv => by
  obtain ⟨i, hi, rfl⟩ := List.getElem_of_mem hv
  exact h i _ hi (List.getElem?_eq_getElem hi)
theorem take_upT {L : List (Int × Int)} {x : Pt} {j : Nat} {v : Int × Int} (hv : L[j]? = some v) : pcC ((L.take j).map (adT x)) ++ [.int .i64 (adT x v).s, .int .i64 (adT x v).a, .int .i64 (adT x v).o] = pcC ((L.take (j + 1)).map (adT x)) := by
  rw [List.take_add_one, hv, List.map_append, pcC_append]
  rfl

theorem tnAt {w : World} {b off cap n : Nat} {v : List (Int × Int)} (h : SlAt w (.slice (some ⟨b, off, none⟩) n cap) n 2 (tnC v)) {j : Nat} {x : Int × Int} (hx : v[j]? = some x) :
    w.cell? ⟨b, off + j * 2, none⟩ = some (.int .i64 x.1) ∧ w.cell? ⟨b, off + j * 2 + 1, none⟩ = some (.int .i64 x.2) := by
  obtain ⟨h0, h1⟩ := tnC_at hx
  exact ⟨h.cellAt h0, h.cellAt h1⟩

/- Chapter 10 in the model: classes of pitches. -/
open Go.RowKit

theorem has_no {l : List Pt} {y : Pt} {n : Nat} (hn : l.length ≤ n) (h : ∀ (i : Nat) (x : Pt), i < n → l[i]? = some x → clB x y = false) : hasB l y = false := by
  rw [← Bool.not_eq_true, hasB_iff]
  rintro ⟨x, hx, h1, h2⟩
  obtain ⟨i, hi, rfl⟩ := List.getElem_of_mem hx
  have := h i _ (by omega) (List.getElem?_eq_getElem hi)
  rw [← Bool.not_eq_true, clB_iff] at this
  exact this ⟨h1, h2⟩
theorem has_yes {l : List Pt} {x y : Pt} {i : Nat} (hx : l[i]? = some x) (h : clB x y = true) : hasB l y = true :=
  hasB_iff.2 ⟨x, List.mem_of_getElem? hx, clB_iff.1 h⟩

/- Chapter 10 in the model: names of chords. -/
open Go.RowKit


/-- What NameChord hands back. -/
def namV : Option Nam → Value
  | none => .tuple #[.agg #[.int .i64 0, .int .i64 0, .int .i64 0], .int .i64 (-1), .int .i64 (-1), .bool false]
  | some m => .tuple #[.agg #[.int .i64 m.r.s, .int .i64 m.r.a, .int .i64 m.r.o], .int .i64 m.k, .int .i64 m.l, .bool true]
theorem keyS_isM {s a o z : Int} (h : keyZ s a o = z) (w : World) : Calls Tryd.prog 89 #[.agg #[.int .i64 s, .int .i64 a, .int .i64 o]] w fun e w' => e = .returned (.int .i64 z) ∧ Below w.heap.size w w' := by
  subst h; exact keyS_any s a o w
def ok1 (l t : List Pt) (b : Bool) (j : Nat) : Bool := b && (l.take j).all (hasB t)
def ok2 (l t : List Pt) (b : Bool) (j : Nat) : Bool := b && ((t.take j).all (hasB l))
theorem ok1_up {l t : List Pt} {b : Bool} {j : Nat} {x : Pt} (hx : l[j]? = some x) : ok1 l t b (j + 1) = (ok1 l t b j && hasB t x) := by
  unfold ok1
  rw [List.take_add_one, hx, List.all_append]
  simp [Bool.and_assoc]
theorem ok2_up {l t : List Pt} {b : Bool} {j : Nat} {x : Pt} (hx : t[j]? = some x) : ok2 l t b (j + 1) = (ok2 l t b j && hasB l x) := by
  unfold ok2
  rw [List.take_add_one, hx, List.all_append]
  simp [Bool.and_assoc]
theorem ok1_all {l t : List Pt} {b : Bool} {n : Nat} (h : l.length = n) : ok1 l t b n = (b && l.all (hasB t)) := by
  unfold ok1; rw [← h, List.take_length]
theorem ok2_all {l t : List Pt} {b : Bool} {n : Nat} (h : t.length = n) : ok2 l t b n = (b && t.all (hasB l)) := by
  unfold ok2; rw [← h, List.take_length]
theorem at_upM {t : List Pt} {y x : Pt} {j : Nat} (hx : t[j]? = some x) : atN t y (j + 1) = if clB x y then (j : Int) else atN t y j := by
  rw [atN]
  have : t.getD j ⟨0, 0, 0⟩ = x := by rw [List.getD_eq_getElem?_getD, hx]; rfl
  rw [this]
theorem low_up {l : List Pt} {k : Nat} {x y : Pt} {a b : Int} (hx : l[k]? = some x) (hy : l[lowN l k]? = some y) (ha : kyP x = a) (hb : kyP y = b) : lowN l (k + 1) = if a < b then k else lowN l k := by
  rw [lowN]
  have e1 : l.getD k ⟨0, 0, 0⟩ = x := by rw [List.getD_eq_getElem?_getD, hx]; rfl
  have e2 : l.getD (lowN l k) ⟨0, 0, 0⟩ = y := by rw [List.getD_eq_getElem?_getD, hy]; rfl
  rw [e1, e2, ha, hb]
theorem kinds_at {k : Nat} (h : k < 9) : kindsL[k]? = some (k : Int) := by
  obtain rfl | rfl | rfl | rfl | rfl | rfl | rfl | rfl | rfl : k = 0 ∨ k = 1 ∨ k = 2 ∨ k = 3 ∨ k = 4 ∨ k = 5 ∨ k = 6 ∨ k = 7 ∨ k = 8 := by omega
  all_goals rfl

theorem name_head {n : Nat} {B : World → Prop} {w : World} {b : Nat} {vs : List Value} {L : List Item} (_h : Own n B w (.blk b vs :: L)) : ∃ q, b = q := ⟨_, rfl⟩

/- Chapter 10 in the model: the classes of keys. -/
open Go.RowKit


theorem keyS_is10 {s a o z : Int} (h : keyZ s a o = z) (w : World) : Calls Tryd.prog 89 #[.agg #[.int .i64 s, .int .i64 a, .int .i64 o]] w fun e w' => e = .returned (.int .i64 z) ∧ Below w.heap.size w w' := by
  subst h; exact keyS_any s a o w

/-- Some one of the first k has the class c. -/
def fdB (l : List Pt) (c : Int) (k : Nat) : Bool := (l.take k).any fun x => cls x == c
theorem fdB_up {l : List Pt} {c : Int} {k : Nat} {x : Pt} (hx : l[k]? = some x) : fdB l c (k + 1) = (fdB l c k || cls x == c) := by
  unfold fdB
  rw [List.take_add_one, hx, List.any_append]
  simp
theorem fdB_all {l : List Pt} {c n : Nat} (h : l.length = n) : fdB l (c : Int) n = kcB l c := by
  unfold fdB kcB
  rw [← h, List.take_length]
theorem cls_of {x : Pt} {z : Int} (hp : pvP x = true) (hz : kyP x = z) : IntKind.i64.wrap (z + 12) = z + 12 ∧ (z + 12).tmod 12 = cls x ∧ IntKind.i64.wrap ((z + 12).tmod 12) = cls x := by
  have hb := keyZ_bd (show pvB x.s x.a x.o = true from hp)
  have : keyZ x.s x.a x.o = z := hz
  have h0 : 0 ≤ z + 12 := by omega
  have e : (z + 12).tmod 12 = cls x := by rw [Int.tmod_eq_emod_of_nonneg h0]; unfold cls; rw [hz]
  have hc := cls_bd x
  exact ⟨IntWalk.i64_in _ (by omega), e, by rw [e]; exact IntWalk.i64_in _ (by omega)⟩

/- What the functions of chapter 10 answer, as contracts; the model keeps them. -/
open Go.RowKit

def CCh (f : FuncId) (w : World) : Prop := ∀ (x : Pt) (k : Int) (W : World), Below w.heap.size w W → p64s x → r64 k →
  Calls Tryd.prog f #[.agg #[.int .i64 x.s, .int .i64 x.a, .int .i64 x.o], .int .i64 k] W (RowOutB 37 3 (chL x k).length (pcC (chL x k)) (chB x k) W)
def CNm (f : FuncId) (w : World) : Prop := ∀ (va : Value) (l : List Pt) (W : World), Below w.heap.size w W → SlAt W va l.length 3 (pcC l) → l.length ≤ 1048576 → (∀ x ∈ l, p64s x) →
  Calls Tryd.prog f #[va] W fun e w' => e = .returned (namV (nmZ l)) ∧ Below W.heap.size W w'
def CKc (f : FuncId) (w : World) : Prop := ∀ (va : Value) (l : List Pt) (W : World), Below w.heap.size w W → SlAt W va l.length 3 (pcC l) → l.length ≤ 1048576 → (∀ x ∈ l, p64s x) →
  Calls Tryd.prog f #[va] W (RowOut 3 1 (kcL l).length (intC (kcL l)) W)

theorem CCh.is {f : FuncId} {w : World} (h : CCh f w) {x : Pt} {k : Int} {m : Nat} {t : List Pt} {b : Bool} (hr : p64s x) (hk : r64 k) (hb : chB x k = b) (ht : chL x k = t) (hm : t.length = m) (W : World) (hW : Below w.heap.size w W) :
    Calls Tryd.prog f #[.agg #[.int .i64 x.s, .int .i64 x.a, .int .i64 x.o], .int .i64 k] W (RowOutB 37 3 m (pcC t) b W) := by
  subst hb ht hm; exact h x k W hW hr hk
theorem CNm.is {f : FuncId} {w : World} (h : CNm f w) {l : List Pt} {m : Nat} {o : Option Nam} (hm : l.length = m) (hn : m ≤ 1048576) (hr : ∀ x ∈ l, p64s x) (ho : nmZ l = o) (va : Value) (W : World) (hW : Below w.heap.size w W) (hs : SlAt W va m 3 (pcC l)) :
    Calls Tryd.prog f #[va] W fun e w' => e = .returned (namV o) ∧ Below W.heap.size W w' := by
  subst hm ho; exact h va l W hW hs hn hr
theorem CKc.is {f : FuncId} {w : World} (h : CKc f w) {l : List Pt} {m k : Nat} {u : List Int} (hm : l.length = m) (hn : m ≤ 1048576) (hr : ∀ x ∈ l, p64s x) (hu : kcL l = u) (hk : u.length = k) (va : Value) (W : World) (hW : Below w.heap.size w W) (hs : SlAt W va m 3 (pcC l)) :
    Calls Tryd.prog f #[va] W (RowOut 3 1 k (intC u) W) := by
  subst hm hu hk; exact h va l W hW hs hn hr