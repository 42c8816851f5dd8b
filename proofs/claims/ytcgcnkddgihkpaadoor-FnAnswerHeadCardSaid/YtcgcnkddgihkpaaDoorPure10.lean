/- Plain facts for chapter 10: pitches as a structure, chords, their names, classes of keys. -/
import Derived.Test.YtcgcnkddgihkpaaDoorPure1
namespace Go.Proofs.YtcgcnkddgihkpaaDoor
set_option linter.unusedSimpArgs false
set_option linter.unusedVariables false
set_option maxRecDepth 8000

/-- A pitch: step, alteration, octave. -/
structure Pt where
  s : Int
  a : Int
  o : Int
deriving DecidableEq

def pvP (x : Pt) : Bool := pvB x.s x.a x.o
def kyP (x : Pt) : Int := keyZ x.s x.a x.o

/-- The half tones of thirds, fifths and sevenths of a kind. -/
def thZ (k : Int) : Int := if k = 0 then 4 else if k = 3 then 4 else if k = 4 then 4 else if k = 5 then 4 else 3
def fiZ (k : Int) : Int := if k = 2 then 6 else if k = 3 then 8 else if k = 7 then 6 else if k = 8 then 6 else 7
def seZ (k : Int) : Int := if k = 4 then 10 else if k = 5 then 11 else if k = 6 then 10 else if k = 7 then 10 else if k = 8 then 9 else 0
/-- The intervals of a kind from the root. -/
def toneL (k : Int) : List (Int × Int) := if seZ k = 0 then [(0, 0), (2, thZ k), (4, fiZ k)] else [(0, 0), (2, thZ k), (4, fiZ k), (6, seZ k)]
/-- The pitch to which an interval leads. -/
def adT (x : Pt) (v : Int × Int) : Pt := ⟨adP x.s x.o v.1 % 7, adA x.s x.a x.o v.1 v.2, adP x.s x.o v.1 / 7⟩
def adT? (x : Pt) (v : Int × Int) : Bool := adB x.s x.a x.o v.1 v.2
/-- The chord on x is possible; its pitches. -/
def chB (x : Pt) (k : Int) : Bool := pvP x && inB k 0 8 && (toneL k).all (adT? x)
def chL (x : Pt) (k : Int) : List Pt := if chB x k then (toneL k).map (adT x) else []
theorem chL_yes {x : Pt} {k : Int} (h : chB x k = true) : chL x k = (toneL k).map (adT x) := by unfold chL; rw [if_pos h]
theorem chL_no {x : Pt} {k : Int} (h : chB x k = false) : chL x k = [] := by unfold chL; rw [h]; rfl
theorem toneL_len (k : Int) : 3 ≤ (toneL k).length ∧ (toneL k).length ≤ 4 := by
  unfold toneL; split <;> simp
theorem chL_len (x : Pt) (k : Int) : (chL x k).length ≤ 4 := by
  unfold chL
  split
  · rw [List.length_map]; exact (toneL_len k).2
  · simp

/-- Two pitches have the same step and alteration. -/
def clB (x y : Pt) : Bool := x.s == y.s && x.a == y.a
theorem clB_iff {x y : Pt} : clB x y = true ↔ x.s = y.s ∧ x.a = y.a := by simp [clB]
/-- A list has one with the step and the alteration of y. -/
def hasB (l : List Pt) (y : Pt) : Bool := l.any fun x => clB x y
theorem hasB_iff {l : List Pt} {y : Pt} : hasB l y = true ↔ ∃ x, x ∈ l ∧ x.s = y.s ∧ x.a = y.a := by simp [hasB, clB]

/-- The number of the first one with the least key among the first k + 1. -/
def lowN (l : List Pt) : Nat → Nat
  | 0 => 0
  | k + 1 => if kyP (l.getD k ⟨0, 0, 0⟩) < kyP (l.getD (lowN l k) ⟨0, 0, 0⟩) then k else lowN l k
theorem lowN_lt (l : List Pt) : ∀ k, 0 < k → lowN l k < k
  | 0, h => by omega
  | k + 1, _ => by
    rw [lowN]
    split
    · omega
    · by_cases hk : k = 0
      · subst hk; exact Nat.zero_lt_one
      · have := lowN_lt l k (by omega); omega
/-- The root's pitch, in octave 4. -/
def r4 (x : Pt) : Pt := ⟨x.s, x.a, 4⟩
/-- The pitches are a chord of this kind on this root. -/
def okB (l : List Pt) (x : Pt) (k : Int) : Bool := chB (r4 x) k && (l.all (hasB (chL (r4 x) k)) && (chL (r4 x) k).all (hasB l))
/-- The number of the last tone with the class of y among the first j. -/
def atN (t : List Pt) (y : Pt) : Nat → Int
  | 0 => -1
  | j + 1 => if clB (t.getD j ⟨0, 0, 0⟩) y then j else atN t y j
def atZ (t : List Pt) (y : Pt) : Int := atN t y t.length
/-- What the name of a chord is: root, kind, lowest tone. -/
structure Nam where
  r : Pt
  k : Int
  l : Int
deriving DecidableEq
def kiF (l : List Pt) (x : Pt) (k : Int) : Option Nam := if okB l x k then some ⟨r4 x, k, atZ (chL (r4 x) k) (l.getD (lowN l l.length) ⟨0, 0, 0⟩)⟩ else none
def kindsL : List Int := [0, 1, 2, 3, 4, 5, 6, 7, 8]
def roF (l : List Pt) (x : Pt) : Option Nam := kindsL.findSome? (kiF l x)
def nmZ (l : List Pt) : Option Nam := if l.all pvP && decide (l.length ≤ 12) then l.findSome? (roF l) else none
theorem findSome_drop {α β : Type} {f : α → Option β} {l : List α} {k : Nat} {x : α} (hx : l[k]? = some x) : (l.drop k).findSome? f = match f x with | some b => some b | none => (l.drop (k + 1)).findSome? f := by
  obtain ⟨hk, e⟩ := List.getElem?_eq_some_iff.1 hx
  rw [List.drop_eq_getElem_cons hk, e, List.findSome?_cons]
  rfl
theorem findSome_hit {α β : Type} {f : α → Option β} {l : List α} {k : Nat} {x : α} {b : β} (hx : l[k]? = some x) (h : f x = some b) : (l.drop k).findSome? f = some b := by rw [findSome_drop hx, h]
theorem findSome_miss {α β : Type} {f : α → Option β} {l : List α} {k : Nat} {x : α} (hx : l[k]? = some x) (h : f x = none) : (l.drop k).findSome? f = (l.drop (k + 1)).findSome? f := by rw [findSome_drop hx, h]
theorem findSome_end {α β : Type} {f : α → Option β} {l : List α} {k : Nat} (h : l.length ≤ k) : (l.drop k).findSome? f = none := by rw [List.drop_eq_nil_of_le h]; rfl

/-- The classes of the keys. -/
def cls (x : Pt) : Int := (kyP x + 12) % 12
def kcB (l : List Pt) (c : Nat) : Bool := l.any fun x => cls x == c
def kcF (l : List Pt) (n : Nat) : List Int := ((List.range n).filter (kcB l)).map fun (c : Nat) => (c : Int)
def kcL (l : List Pt) : List Int := if l.all pvP && decide (l.length ≤ 12) then kcF l 12 else []
theorem kcF_up (l : List Pt) (n : Nat) : kcF l (n + 1) = if kcB l n then kcF l n ++ [(n : Int)] else kcF l n := by
  unfold kcF
  rw [List.range_succ, List.filter_append, List.map_append]
  cases h : kcB l n <;> simp [h]
theorem cls_bd (x : Pt) : 0 ≤ cls x ∧ cls x < 12 := by unfold cls; omega

/- Facts for the promises. -/
theorem pvP_iff {x : Pt} : pvP x = true ↔ (0 ≤ x.s ∧ x.s ≤ 6) ∧ (-2 ≤ x.a ∧ x.a ≤ 2) ∧ (0 ≤ x.o ∧ x.o ≤ 8) := pvB_iff
theorem cls_same {x y : Pt} (hx : pvP x = true) (hy : pvP y = true) (hs : x.s = y.s) (ha : x.a = y.a) : cls x = cls y := by
  obtain ⟨⟨h1, h2⟩, _, _⟩ := pvP_iff.1 hx
  unfold cls kyP
  rw [key_as hx, key_as hy, ← hs, ← ha, natZ_os h1 h2, natZ_os h1 h2]
  omega
theorem kcL_same {l t : List Pt} (hl : l.all pvP = true) (ht : t.all pvP = true) (n1 : l.length ≤ 12) (n2 : t.length ≤ 12) (h1 : l.all (hasB t) = true) (h2 : t.all (hasB l) = true) : kcL l = kcL t := by
  have hp : ∀ {u : List Pt}, u.all pvP = true → ∀ x, x ∈ u → pvP x = true := fun h x hx => by simpa using List.all_eq_true.1 h x hx
  have hw : ∀ {u v : List Pt}, u.all pvP = true → v.all pvP = true → u.all (hasB v) = true → ∀ c, kcB u c = true → kcB v c = true := by
    intro u v hu hv h c hc
    unfold kcB at hc ⊢
    rw [List.any_eq_true] at hc ⊢
    obtain ⟨x, hx, hxc⟩ := hc
    obtain ⟨y, hy, hs, ha⟩ := hasB_iff.1 (List.all_eq_true.1 h x hx)
    refine ⟨y, hy, ?_⟩
    rw [cls_same (hp hv y hy) (hp hu x hx) hs ha]
    exact hxc
  unfold kcL
  rw [hl, ht, decide_eq_true n1, decide_eq_true n2]
  unfold kcF
  rw [show kcB l = kcB t from funext fun c => by
    rw [Bool.eq_iff_iff]
    exact ⟨hw hl ht h1 c, hw ht hl h2 c⟩]
/-- They ascend. -/
theorem kcL_up (l : List Pt) {j : Nat} {x y : Int} (hx : (kcL l)[j]? = some x) (hy : (kcL l)[j + 1]? = some y) : x < y := by
  have hs : (kcL l).Pairwise (· < ·) := by
    unfold kcL
    split
    · unfold kcF
      rw [List.pairwise_map]
      exact (List.Pairwise.filter _ List.pairwise_lt_range).imp fun h => by omega
    · exact List.Pairwise.nil
  obtain ⟨h1, e1⟩ := List.getElem?_eq_some_iff.1 hx
  obtain ⟨h2, e2⟩ := List.getElem?_eq_some_iff.1 hy
  have := List.pairwise_iff_getElem.1 hs j (j + 1) h1 h2 (by omega)
  omega
/-- Each is that of some pitch. -/
theorem kcL_of {l : List Pt} {c : Int} (h : c ∈ kcL l) : ∃ x, x ∈ l ∧ cls x = c := by
  unfold kcL at h
  split at h
  · unfold kcF at h
    obtain ⟨n, hn, rfl⟩ := List.mem_map.1 h
    have := (List.mem_filter.1 hn).2
    unfold kcB at this
    obtain ⟨x, hx, e⟩ := List.any_eq_true.1 this
    exact ⟨x, hx, by simpa using e⟩
  · cases h
theorem countP_or {α : Type} (p q : α → Bool) : ∀ l : List α, l.countP (fun x => p x || q x) ≤ l.countP p + l.countP q
  | [] => by simp
  | x :: l => by
    have := countP_or p q l
    simp only [List.countP_cons]
    cases p x <;> cases q x <;> simp <;> omega
theorem kcF_le (n : Nat) (hn : n ≤ 12) : ∀ l : List Pt, (kcF l n).length ≤ l.length
  | [] => by
    unfold kcF
    rw [List.length_map, ← List.countP_eq_length_filter]
    have : List.countP (kcB []) (List.range n) = 0 := List.countP_eq_zero.2 fun a _ h => by cases h
    simp only [List.length_nil]
    omega
  | x :: l => by
    have ih := kcF_le n hn l
    unfold kcF at ih ⊢
    rw [List.length_map, ← List.countP_eq_length_filter] at ih ⊢
    have e : kcB (x :: l) = fun c : Nat => (cls x == (c : Int)) || kcB l c := funext fun c => by unfold kcB; rw [List.any_cons]
    rw [e]
    have h1 := countP_or (fun c : Nat => cls x == (c : Int)) (kcB l) (List.range n)
    have h2 : List.countP (fun c : Nat => cls x == (c : Int)) (List.range n) ≤ 1 := by
      obtain ⟨z, hz⟩ : ∃ z : Nat, cls x = z := ⟨(cls x).toNat, by have := cls_bd x; omega⟩
      rw [hz]
      have e2 : (fun c : Nat => ((z : Int) == (c : Int))) = fun c : Nat => (c == z) := funext fun c => by rw [Bool.eq_iff_iff]; simp; omega
      rw [e2]
      have h3 := List.nodup_iff_count.1 (List.nodup_range (n := n)) z
      exact h3
    simp only [List.length_cons]
    omega
theorem kcL_le (l : List Pt) : (kcL l).length ≤ l.length := by
  unfold kcL
  split
  · exact kcF_le 12 (by omega) l
  · simp

/- Plain facts for chapter 10: names of chords by their classes; chords in other positions; moved chords. -/

theorem natZ_oct (o q : Int) : natZ (7 * o + q) = 12 * o + natZ q := by
  unfold natZ
  rw [show (7 * o + q) / 7 = o + q / 7 by omega, show (7 * o + q) % 7 = q % 7 by omega]
  omega
/-- The class of a pitch: its step and alteration. -/
def cl2 (x : Pt) : Int × Int := (x.s, x.a)
/-- The class to which an interval leads. -/
def adC (c : Int × Int) (v : Int × Int) : Int × Int := ((c.1 + v.1) % 7, natZ c.1 + c.2 + v.2 - natZ (c.1 + v.1))
theorem adT_cl {x : Pt} {v : Int × Int} (hx : pvP x = true) : cl2 (adT x v) = adC (cl2 x) v := by
  unfold cl2 adT adC
  dsimp only
  unfold adA adP
  rw [key_as hx, show 7 * x.o + x.s + v.1 = 7 * x.o + (x.s + v.1) by omega, natZ_oct, natZ_oct]
  rw [show (7 * x.o + (x.s + v.1)) % 7 = (x.s + v.1) % 7 by omega]
  congr 1
  omega
theorem adB_parts {x : Pt} {v : Int × Int} (h : adT? x v = true) : pvP x = true ∧ ivB v.1 v.2 = true ∧ 0 ≤ adP x.s x.o v.1 ∧ pvP (adT x v) = true := by
  unfold adT? adB at h
  simp only [Bool.and_eq_true, decide_eq_true_eq] at h
  exact ⟨h.1.1.1, h.1.1.2, h.1.2, h.2⟩
theorem adB_of {x : Pt} {v : Int × Int} (h1 : pvP x = true) (h2 : ivB v.1 v.2 = true) (h3 : 0 ≤ adP x.s x.o v.1) (h4 : pvP (adT x v) = true) : adT? x v = true := by
  unfold adT? adB
  simp only [Bool.and_eq_true, decide_eq_true_eq]
  exact ⟨⟨⟨h1, h2⟩, h3⟩, h4⟩
theorem adT_key {x : Pt} {v : Int × Int} (h : adT? x v = true) : kyP (adT x v) = kyP x + v.2 := by
  have := (ad_of h rfl rfl rfl).2.2
  unfold kyP adT
  dsimp only
  omega
theorem adT_place {x : Pt} {v : Int × Int} : 7 * (adT x v).o + (adT x v).s = 7 * x.o + x.s + v.1 := by
  unfold adT adP
  dsimp only
  omega
theorem adT_zero {x : Pt} (h : pvP x = true) : adT x (0, 0) = x := by
  obtain ⟨⟨h1, h2⟩, _, _⟩ := pvP_iff.1 h
  unfold adT adA adP
  rw [key_as h]
  cases x with
  | mk s a o =>
    dsimp only at *
    rw [show (7 * o + s + 0) % 7 = s by omega, show (7 * o + s + 0) / 7 = o by omega, show 7 * o + s + 0 = 7 * o + s by omega]
    congr 1
    omega
theorem chB_iff {x : Pt} {k : Int} : chB x k = true ↔ pvP x = true ∧ (0 ≤ k ∧ k ≤ 8) ∧ ∀ v, v ∈ toneL k → adT? x v = true := by
  unfold chB
  simp [inB_iff, List.all_eq_true, and_assoc]
theorem chL_all {x : Pt} {k : Int} : (chL x k).all pvP = true := by
  unfold chL
  split
  · rename_i h
    rw [List.all_map, List.all_eq_true]
    intro v hv
    exact (adB_parts ((chB_iff.1 h).2.2 v hv)).2.2.2
  · rfl
theorem toneL_bd {k : Int} {v : Int × Int} (hv : v ∈ toneL k) : 0 ≤ v.1 ∧ v.1 ≤ 6 ∧ 0 ≤ v.2 ∧ v.2 ≤ 11 := by
  unfold toneL at hv
  have t : 3 ≤ thZ k ∧ thZ k ≤ 4 := by unfold thZ; (repeat' split) <;> omega
  have f : 6 ≤ fiZ k ∧ fiZ k ≤ 8 := by unfold fiZ; (repeat' split) <;> omega
  have s : 0 ≤ seZ k ∧ seZ k ≤ 11 := by unfold seZ; (repeat' split) <;> omega
  split at hv
  · simp at hv
    rcases hv with rfl | rfl | rfl <;> simp <;> omega
  · simp at hv
    rcases hv with rfl | rfl | rfl | rfl <;> simp <;> omega
theorem pv_r4 {x : Pt} (h : pvP x = true) : pvP (r4 x) = true := by
  rw [pvP_iff] at h ⊢
  exact ⟨h.1, h.2.1, by simp [r4]⟩
/-- What can be built can be built in octave 4, too, with the same classes. -/
theorem chB_r4 {x : Pt} {k : Int} (h : chB x k = true) : chB (r4 x) k = true := by
  obtain ⟨h1, h2, h3⟩ := chB_iff.1 h
  refine chB_iff.2 ⟨pv_r4 h1, h2, fun v hv => ?_⟩
  obtain ⟨p1, p2, p3, p4⟩ := adB_parts (h3 v hv)
  have hb := toneL_bd hv
  obtain ⟨hs, _, _⟩ := pvP_iff.1 h1
  refine adB_of (pv_r4 h1) p2 (by unfold adP r4; dsimp only; omega) ?_
  have e1 := adT_cl (v := v) h1
  have e2 := adT_cl (v := v) (pv_r4 h1)
  have e3 : cl2 (adT (r4 x) v) = cl2 (adT x v) := by rw [e1, e2]; rfl
  have s3 : (adT (r4 x) v).s = (adT x v).s := congrArg Prod.fst e3
  have a3 : (adT (r4 x) v).a = (adT x v).a := congrArg Prod.snd e3
  obtain ⟨q1, q2, _⟩ := pvP_iff.1 p4
  refine pvP_iff.2 ⟨by rw [s3]; exact q1, by rw [a3]; exact q2, ?_⟩
  unfold adT adP r4
  dsimp only
  omega
def ccL (c : Int × Int) (k : Int) : List (Int × Int) := (toneL k).map (adC c)
theorem chL_cl {x : Pt} {k : Int} (h : chB x k = true) : (chL x k).map cl2 = ccL (cl2 x) k := by
  rw [chL_yes h, List.map_map]
  unfold ccL
  exact List.map_congr_left fun v _ => adT_cl (chB_iff.1 h).1

/- Names by classes. -/
def okC (cs : List (Int × Int)) (c : Int × Int) (k : Int) : Bool := chB ⟨c.1, c.2, 4⟩ k && (cs.all (fun y => (ccL c k).any fun z => z.1 == y.1 && z.2 == y.2) && (ccL c k).all fun y => cs.any fun z => z.1 == y.1 && z.2 == y.2)
def rkC (cs : List (Int × Int)) : Option ((Int × Int) × Int) := cs.findSome? fun c => kindsL.findSome? fun k => if okC cs c k then some (c, k) else none
theorem any_cl (l : List Pt) (p : Int × Int → Bool) : (l.any fun x => p (cl2 x)) = (l.map cl2).any p := by rw [List.any_map]; rfl
theorem all_cl (l : List Pt) (p : Int × Int → Bool) : (l.all fun x => p (cl2 x)) = (l.map cl2).all p := by rw [List.all_map]; rfl
theorem okB_cl (l : List Pt) (x : Pt) (k : Int) : okB l x k = okC (l.map cl2) (cl2 x) k := by
  unfold okB okC
  show (chB (r4 x) k && _) = (chB (r4 x) k && _)
  cases h : chB (r4 x) k
  · rfl
  · have e : (chL (r4 x) k).map cl2 = ccL (cl2 x) k := chL_cl h
    rw [← e]
    have h1 : ∀ (t : List Pt) (y : Pt), hasB t y = (t.map cl2).any fun z => z.1 == (cl2 y).1 && z.2 == (cl2 y).2 := fun t y => by
      rw [← any_cl t fun z => z.1 == (cl2 y).1 && z.2 == (cl2 y).2]; rfl
    have h2 : ∀ t u : List Pt, u.all (hasB t) = (u.map cl2).all fun y => (t.map cl2).any fun z => z.1 == y.1 && z.2 == y.2 := fun t u => by
      rw [← all_cl u fun y => (t.map cl2).any fun z => z.1 == y.1 && z.2 == y.2]
      congr 1
      funext y
      exact h1 t y
    rw [h2, h2]
theorem findSome_map {α β γ : Type} (f : α → Option β) (g : β → γ) (l : List α) : (l.findSome? fun x => (f x).map g) = (l.findSome? f).map g := by
  induction l with
  | nil => rfl
  | cons x l ih =>
    rw [List.findSome?_cons, List.findSome?_cons, ih]
    cases f x <;> rfl
def toN (y : Pt) (p : (Int × Int) × Int) : Nam := ⟨⟨p.1.1, p.1.2, 4⟩, p.2, atZ (chL ⟨p.1.1, p.1.2, 4⟩ p.2) y⟩
theorem nm_rk {l : List Pt} (h : l.all pvP = true) (hl : l.length ≤ 12) : nmZ l = (rkC (l.map cl2)).map (toN (l.getD (lowN l l.length) ⟨0, 0, 0⟩)) := by
  unfold nmZ
  rw [h, decide_eq_true hl, Bool.and_self, if_pos rfl]
  unfold rkC
  rw [List.findSome?_map, ← findSome_map]
  congr 1
  funext x
  show roF l x = _
  unfold roF
  show _ = Option.map _ (List.findSome? (fun k => if okC (l.map cl2) (cl2 x) k = true then some (cl2 x, k) else none) kindsL)
  rw [← findSome_map]
  congr 1
  funext k
  unfold kiF
  rw [okB_cl]
  show _ = Option.map _ (if okC (l.map cl2) (cl2 x) k = true then _ else _)
  cases okC (l.map cl2) (cl2 x) k <;> rfl

/-- The classes in front go round to the end. -/
def turnL {α : Type} : List α → List α
  | [] => []
  | x :: l => l ++ [x]
def chkB (s a k : Int) : Bool := !chB ⟨s, a, 4⟩ k || (decide (rkC (ccL (s, a) k) = some ((s, a), k)) && decide (rkC (turnL (ccL (s, a) k)) = some ((s, a), k)))
theorem chk_all : ((List.range 7).all fun s => (List.range 5).all fun a => (List.range 9).all fun k => chkB s ((a : Int) - 2) k) = true := by decide +kernel
theorem chk_at {s a k : Int} (h : chB ⟨s, a, 4⟩ k = true) : rkC (ccL (s, a) k) = some ((s, a), k) ∧ rkC (turnL (ccL (s, a) k)) = some ((s, a), k) := by
  obtain ⟨h1, ⟨k0, k8⟩, _⟩ := chB_iff.1 h
  obtain ⟨⟨s0, s6⟩, ⟨a0, a4⟩, _⟩ := pvP_iff.1 h1
  dsimp only at s0 s6 a0 a4
  obtain ⟨s', rfl⟩ : ∃ n : Nat, s = n := ⟨s.toNat, by omega⟩
  obtain ⟨k', rfl⟩ : ∃ n : Nat, k = n := ⟨k.toNat, by omega⟩
  obtain ⟨a', rfl⟩ : ∃ n : Nat, a = (n : Int) - 2 := ⟨(a + 2).toNat, by omega⟩
  have h2 := List.all_eq_true.1 (List.all_eq_true.1 (List.all_eq_true.1 chk_all s' (List.mem_range.2 (by omega))) a' (List.mem_range.2 (by omega))) k' (List.mem_range.2 (by omega))
  unfold chkB at h2
  rw [h] at h2
  simpa using h2

/- Plain facts for chapter 10: the promises of names of chords. -/

/-- The least key stands in front. -/
theorem low_first {l : List Pt} (h : ∀ j, 0 < j → j < l.length → kyP (l.getD 0 ⟨0, 0, 0⟩) < kyP (l.getD j ⟨0, 0, 0⟩)) : ∀ n, n ≤ l.length → lowN l n = 0
  | 0, _ => rfl
  | n + 1, hn => by
    have ih := low_first h n (by omega)
    rw [lowN, ih]
    by_cases h0 : n = 0
    · subst h0; simp
    · have := h n (by omega) (by omega)
      rw [if_neg (by omega)]

theorem toneL_at {k : Int} {j : Nat} {v : Int × Int} (h : (toneL k)[j]? = some v) : v.1 = 2 * j ∧ j < 4 := by
  unfold toneL at h
  split at h
  · match j, h with
    | 0, h => simp at h; subst h; simp
    | 1, h => simp at h; subst h; simp
    | 2, h => simp at h; subst h; simp
    | j + 3, h => simp at h
  · match j, h with
    | 0, h => simp at h; subst h; simp
    | 1, h => simp at h; subst h; simp
    | 2, h => simp at h; subst h; simp
    | 3, h => simp at h; subst h; simp
    | j + 4, h => simp at h
theorem toneL_hd (k : Int) : (toneL k)[0]? = some (0, 0) ∧ (toneL k)[1]? = some (2, thZ k) := by
  unfold toneL; split <;> exact ⟨rfl, rfl⟩
/-- Thirds stand on each other. -/
theorem toneL_up {k : Int} (hk : 0 ≤ k ∧ k ≤ 8) {j : Nat} {u v : Int × Int} (hu : (toneL k)[j]? = some u) (hv : (toneL k)[j + 1]? = some v) : v.2 - u.2 = 3 ∨ v.2 - u.2 = 4 := by
  obtain rfl | rfl | rfl | rfl | rfl | rfl | rfl | rfl | rfl : k = 0 ∨ k = 1 ∨ k = 2 ∨ k = 3 ∨ k = 4 ∨ k = 5 ∨ k = 6 ∨ k = 7 ∨ k = 8 := by omega
  all_goals
    have hj := (toneL_at hv).2
    obtain rfl | rfl | rfl : j = 0 ∨ j = 1 ∨ j = 2 := by omega
    all_goals
      simp [toneL, thZ, fiZ, seZ] at hu hv
      try (subst hu hv; simp)
theorem at_up {k : Int} (hk : 0 ≤ k ∧ k ≤ 8) {i j : Nat} {u v : Int × Int} (h : i < j) (hu : (toneL k)[i]? = some u) (hv : (toneL k)[j]? = some v) : u.2 < v.2 := by
  have hj := (toneL_at hv).2
  have g : ∀ {m : Nat} {a b : Int × Int}, (toneL k)[m]? = some a → (toneL k)[m + 1]? = some b → a.2 < b.2 := fun ha hb => by have := toneL_up hk ha hb; omega
  have ex : ∀ m, m ≤ j → ∃ a, (toneL k)[m]? = some a := fun m hm => ⟨_, List.getElem?_eq_getElem (by have := (List.getElem?_eq_some_iff.1 hv).1; omega)⟩
  obtain ⟨d, rfl⟩ : ∃ d, j = i + 1 + d := ⟨j - i - 1, by omega⟩
  clear h
  induction d generalizing v with
  | zero => exact g hu hv
  | succ d ih =>
    obtain ⟨a, ha⟩ := ex (i + 1 + d) (by omega)
    have h1 := ih ha (by omega) (fun m hm => ex m (by omega))
    have h2 := g ha hv
    omega
theorem chL_at {x : Pt} {k : Int} (h : chB x k = true) {j : Nat} {v : Int × Int} (hv : (toneL k)[j]? = some v) : (chL x k)[j]? = some (adT x v) := by
  rw [chL_yes h, List.getElem?_map, hv]; rfl
theorem chL_of {x : Pt} {k : Int} (h : chB x k = true) {j : Nat} {y : Pt} (hy : (chL x k)[j]? = some y) : ∃ v, (toneL k)[j]? = some v ∧ v ∈ toneL k ∧ y = adT x v ∧ adT? x v = true := by
  rw [chL_yes h, List.getElem?_map] at hy
  cases hv : (toneL k)[j]? with
  | none => rw [hv] at hy; cases hy
  | some v =>
    rw [hv] at hy
    have hm := List.mem_of_getElem? hv
    exact ⟨v, rfl, hm, (Option.some.inj hy).symm, (chB_iff.1 h).2.2 v hm⟩
theorem chL_n {x : Pt} {k : Int} (h : chB x k = true) : (chL x k).length = (toneL k).length := by rw [chL_yes h, List.length_map]

theorem at_is {t : List Pt} {y : Pt} {i : Nat} (hi : i < t.length) (h : clB (t.getD i ⟨0, 0, 0⟩) y = true) (hn : ∀ j, j < t.length → j ≠ i → clB (t.getD j ⟨0, 0, 0⟩) y = false) : atZ t y = i := by
  have key : ∀ n, n ≤ t.length → atN t y n = if i < n then (i : Int) else -1 := by
    intro n
    induction n with
    | zero => intro _; rfl
    | succ n ih =>
      intro hl
      rw [atN]
      by_cases e : n = i
      · subst e
        rw [h, if_pos rfl, if_pos (by omega)]
      · rw [hn n (by omega) e, if_neg Bool.false_ne_true, ih (by omega)]
        by_cases h2 : i < n
        · rw [if_pos h2, if_pos (by omega)]
        · rw [if_neg h2, if_neg (by omega)]
  unfold atZ
  rw [key _ (Nat.le_refl _), if_pos hi]
theorem getD_of {t : List Pt} {j : Nat} {x : Pt} (h : t[j]? = some x) : t.getD j ⟨0, 0, 0⟩ = x := by rw [List.getD_eq_getElem?_getD, h]; rfl
/-- The tone with the class of tone i of another chord of the same class is tone i. -/
theorem at_chord {x : Pt} {k : Int} (h : chB x k = true) {i : Nat} {v : Int × Int} (hv : (toneL k)[i]? = some v) : atZ (chL (r4 x) k) (adT x v) = i := by
  have h4 := chB_r4 h
  have hp := (chB_iff.1 h).1
  have hs := (pvP_iff.1 hp).1
  have e := chL_at h4 hv
  refine at_is (List.getElem?_eq_some_iff.1 e).1 ?_ fun j hj hne => ?_
  · rw [getD_of e, clB_iff]
    have e1 : cl2 (adT (r4 x) v) = cl2 (adT x v) := by rw [adT_cl hp, adT_cl (pv_r4 hp)]; rfl
    exact ⟨congrArg Prod.fst e1, congrArg Prod.snd e1⟩
  · obtain ⟨y, hy⟩ : ∃ y, (chL (r4 x) k)[j]? = some y := ⟨_, List.getElem?_eq_getElem hj⟩
    obtain ⟨u, hu, _, rfl, _⟩ := chL_of h4 hy
    rw [getD_of hy, ← Bool.not_eq_true, clB_iff]
    rintro ⟨g1, _⟩
    have a1 := toneL_at hu
    have a2 := toneL_at hv
    have b1 : (adT (r4 x) u).s = (x.s + u.1) % 7 := congrArg Prod.fst (adT_cl (v := u) (pv_r4 hp))
    have b2 : (adT x v).s = (x.s + v.1) % 7 := congrArg Prod.fst (adT_cl (v := v) hp)
    rw [b1, b2, a1.1, a2.1] at g1
    omega

theorem nm_chord {x : Pt} {k : Int} (h : chB x k = true) : nmZ (chL x k) = some ⟨r4 x, k, 0⟩ := by
  have hp := (chB_iff.1 h).1
  have hk := (chB_iff.1 h).2.1
  have h0 := chL_at h (toneL_hd k).1
  rw [adT_zero hp] at h0
  rw [nm_rk chL_all (by have := chL_len x k; omega), chL_cl h, show rkC (ccL (cl2 x) k) = some ((x.s, x.a), k) from (chk_at (chB_r4 h : chB ⟨x.s, x.a, 4⟩ k = true)).1]
  rw [low_first (fun j hj hl => by
    obtain ⟨y, hy⟩ : ∃ y, (chL x k)[j]? = some y := ⟨_, List.getElem?_eq_getElem hl⟩
    obtain ⟨u, hu, _, rfl, hb⟩ := chL_of h hy
    rw [getD_of h0, getD_of hy, adT_key hb]
    have := at_up hk hj (toneL_hd k).1 hu
    dsimp only at this
    omega) _ (Nat.le_refl _), getD_of h0]
  have := at_chord h (toneL_hd k).1
  rw [adT_zero hp] at this
  show some (Nam.mk _ _ (atZ (chL (r4 x) k) x)) = _
  rw [this]
  rfl
/-- The chord with its first tone an octave higher. -/
def tuC (x : Pt) (k : Int) : List Pt := (chL x k).drop 1 ++ [⟨x.s, x.a, x.o + 1⟩]
theorem nm_turn {x : Pt} {k : Int} (h : chB x k = true) (ho : x.o ≤ 7) : nmZ (tuC x k) = some ⟨r4 x, k, 1⟩ := by
  have hp := (chB_iff.1 h).1
  have hk := (chB_iff.1 h).2.1
  obtain ⟨hs, ha, ho0, _⟩ := pvP_iff.1 hp
  have hup : pvP ⟨x.s, x.a, x.o + 1⟩ = true := pvP_iff.2 ⟨hs, ha, by dsimp only; omega⟩
  have hku : kyP ⟨x.s, x.a, x.o + 1⟩ = kyP x + 12 := by
    unfold kyP
    dsimp only
    rw [key_as hup, key_as hp]
    dsimp only
    rw [show 7 * (x.o + 1) + x.s = 7 * x.o + x.s + 7 by omega, natZ_up]
    omega
  have h0 := chL_at h (toneL_hd k).1
  rw [adT_zero hp] at h0
  have h1 := chL_at h (toneL_hd k).2
  have hl := chL_n h
  have hl2 := toneL_len k
  obtain ⟨c, l, hcl⟩ : ∃ c l, chL x k = c :: l := by
    cases hc : chL x k with
    | nil => rw [hc] at hl; simp at hl; omega
    | cons c l => exact ⟨c, l, rfl⟩
  have hc : c = x := by rw [hcl] at h0; simpa using h0
  subst hc
  have ht : tuC c k = l ++ [⟨c.s, c.a, c.o + 1⟩] := by unfold tuC; rw [hcl]; rfl
  have hcls : (tuC c k).map cl2 = turnL (ccL (cl2 c) k) := by
    rw [← chL_cl h, hcl, ht]
    simp [turnL, cl2]
  have hall : (tuC c k).all pvP = true := by
    have := chL_all (x := c) (k := k)
    rw [hcl, List.all_cons, Bool.and_eq_true] at this
    rw [ht, List.all_append, this.2]
    simp [hup]
  have hlen : (tuC c k).length = (toneL k).length := by rw [ht, ← hl, hcl]; simp
  have hf : (tuC c k)[0]? = some (adT c (2, thZ k)) := by
    rw [hcl] at h1 hl
    rw [ht, List.getElem?_append_left (by simp at hl; omega)]
    simpa using h1
  have hv1 := (chB_iff.1 h).2.2 _ (List.mem_of_getElem? (toneL_hd k).2)
  rw [nm_rk hall (by omega), hcls, show rkC (turnL (ccL (cl2 c) k)) = some ((c.s, c.a), k) from (chk_at (chB_r4 h : chB ⟨c.s, c.a, 4⟩ k = true)).2]
  rw [low_first (fun j hj hlt => by
    rw [getD_of hf, adT_key hv1]
    by_cases he : j < l.length
    · obtain ⟨y, hy⟩ : ∃ y, l[j]? = some y := ⟨_, List.getElem?_eq_getElem he⟩
      have hy2 : (tuC c k)[j]? = some y := by rw [ht, List.getElem?_append_left he, hy]
      have hy3 : (chL c k)[j + 1]? = some y := by rw [hcl]; simpa using hy
      obtain ⟨u, hu, _, rfl, hb⟩ := chL_of h hy3
      rw [getD_of hy2, adT_key hb]
      have := at_up hk (show 1 < j + 1 by omega) (toneL_hd k).2 hu
      dsimp only at this
      omega
    · have hj2 : j = l.length := by rw [ht] at hlt; simp at hlt; omega
      have hy2 : (tuC c k)[j]? = some ⟨c.s, c.a, c.o + 1⟩ := by rw [ht, hj2]; simp
      rw [getD_of hy2, hku]
      have := (toneL_bd (List.mem_of_getElem? (toneL_hd k).2)).2.2.2
      dsimp only at this
      omega) _ (Nat.le_refl _), getD_of hf]
  have := at_chord h (toneL_hd k).2
  show some (Nam.mk _ _ (atZ (chL (r4 c) k) _)) = _
  rw [this]
  rfl
/-- Moved chords are chords. -/
theorem ch_moved {x : Pt} {k : Int} {v u : Int × Int} (h : chB x k = true) (hv : adT? x v = true) (h2 : chB (adT x v) k = true) (hu : u ∈ toneL k) : adT? (adT x u) v = true ∧ adT (adT x u) v = adT (adT x v) u := by
  have b1 := (chB_iff.1 h).2.2 u hu
  have b2 := (chB_iff.1 h2).2.2 u hu
  have k1 := adT_key b1
  have k2 := adT_key hv
  have p1 := adT_place (x := x) (v := u)
  have p2 := adT_place (x := x) (v := v)
  have e : adT (adT x u) v = adT (adT x v) u := by
    have pp : adP (adT x u).s (adT x u).o v.1 = adP (adT x v).s (adT x v).o u.1 := by unfold adP; omega
    have kk : adA (adT x u).s (adT x u).a (adT x u).o v.1 v.2 = adA (adT x v).s (adT x v).a (adT x v).o u.1 u.2 := by
      unfold adA
      rw [pp]
      unfold kyP at k1 k2
      omega
    show Pt.mk _ _ _ = Pt.mk _ _ _
    rw [pp, kk]
  obtain ⟨q1, q2, q3, q4⟩ := adB_parts b2
  refine ⟨adB_of (adB_parts b1).2.2.2 (adB_parts hv).2.1 ?_ (by rw [e]; exact q4), e⟩
  unfold adP at q3 ⊢
  omega
/-- What has a name. -/
theorem nm_some {l : List Pt} {m : Nam} (h : nmZ l = some m) : l.all pvP = true ∧ l.length ≤ 12 ∧ chB m.r m.k = true ∧ l.all (hasB (chL m.r m.k)) = true ∧ (chL m.r m.k).all (hasB l) = true ∧ 0 ≤ m.l ∧ m.l < (chL m.r m.k).length := by
  unfold nmZ at h
  split at h
  · rename_i hc
    simp only [Bool.and_eq_true, decide_eq_true_eq] at hc
    obtain ⟨x, hx, hr⟩ := List.exists_of_findSome?_eq_some h
    obtain ⟨k, _, hk⟩ := List.exists_of_findSome?_eq_some hr
    unfold kiF at hk
    split at hk
    · rename_i ho
      have hm := Option.some.inj hk
      subst hm
      unfold okB at ho
      simp only [Bool.and_eq_true] at ho
      refine ⟨hc.1, hc.2, ho.1, ho.2.1, ho.2.2, ?_⟩
      dsimp only
      have hne : 0 < l.length := List.length_pos_of_mem hx
      have hlow := lowN_lt l l.length hne
      obtain ⟨y, hy⟩ : ∃ y, l[lowN l l.length]? = some y := ⟨_, List.getElem?_eq_getElem hlow⟩
      rw [getD_of hy]
      obtain ⟨z, hz, e1, e2⟩ := hasB_iff.1 (List.all_eq_true.1 ho.2.1 y (List.mem_of_getElem? hy))
      obtain ⟨i, hi, rfl⟩ := List.getElem_of_mem hz
      have key : ∀ n, i < n → n ≤ (chL (r4 x) k).length → 0 ≤ atN (chL (r4 x) k) y n ∧ atN (chL (r4 x) k) y n < n := by
        intro n
        induction n with
        | zero => intro h; omega
        | succ n ih =>
          intro h1 h2
          rw [atN]
          split
          · omega
          · rename_i hcl
            have hne2 : n ≠ i := by
              rintro rfl
              apply hcl
              rw [getD_of (List.getElem?_eq_getElem hi), clB_iff]
              exact ⟨e1, e2⟩
            have := ih (by omega) (by omega)
            omega
      exact key _ hi (Nat.le_refl _)
    · cases hk
  · cases h
end Go.Proofs.YtcgcnkddgihkpaaDoor
