/- Chapter 13 in the model: RealizeBass: the chords over each bass, those from which there is a way, and the first way. -/
import Derived.Test.YtfdglkiehkilnaaDoorWalks13T
import Derived.Test.YtfdglkiehkilnaaDoorRegionD
namespace Go.Proofs.YtfdglkiehkilnaaDoor
set_option linter.unusedSimpArgs false
set_option linter.unusedVariables false
set_option maxRecDepth 8000
open Go.RowKit

/-- An append of one element, as an operation of a drawn region. -/
theorem wp_app_item {P : Program} {o : Oper} {a : Act} {Q : Exit → Act → World → Prop} {n : Nat} {B : World → Prop} {w : World} {L : List Item} {v : Value} {k q c : Nat} {xs news : List Value} {K : Act → World → Prop}
    (s x : Operand) (t : TypeId) (ho : o.op = .call { callee := .builtin .append, args := #[s, x], argTypes := #[t, t] })
    (e : TypeId) (i : TypeInfo) (z : Value) (size bytes : Nat) (ht : P.underlying t = some (.slice e)) (hi : P.info? e = some i) (hz : i.zero = some z)
    (hsize : i.size = size) (hby : i.bytes = bytes) (hzs : z.cells.size = size) (hsz : 0 < size)
    (hs : a.eval s = v) (hx : a.eval x = .slice (some ⟨q, 0, none⟩) 1 c) (hO : Own n B w (.blk q news :: .row e size v k xs :: L)) (hl : news.length = size) (h1 : ∀ u ∈ news, u.oneCell' = true)
    (h63 : k + 1 ≤ maxLen) (hbytes : (k + 1) * bytes ≤ 140737488355328)
    (h : ∀ v' w', Own n B w' (.row e size v' (k + 1) (xs ++ news) :: L) → K (a.put o.dst v') w') : o.wp P a w K Q := by
  have hown : w.ownsRow n e size v k xs := hO.2.1.1
  have hnews : ∀ j u, news[j]? = some u → w.cell? ((⟨q, 0, none⟩ : Addr).add j) = some u := fun j u hj => by
    rw [add_flat]
    have := (hO.cells (b := q) (vs := news) (by simp)).get hj
    simpa using this
  obtain ⟨v', w', hr, h2, h3, h4⟩ := run_append_own (P := P) w n t o.type e i z size bytes ht hi hz hsize hby hzs hsz v k xs hown ⟨q, 0, none⟩ 1 c news (by simpa using hl) hnews h1 h63 hbytes hO.low
  have h5 := append_block ht hi hz hsize hby hown (by omega) (by simpa using hl) hnews h1 h63 hbytes hr
  unfold Oper.wp execOp
  simp only [ho, resolve, invoke, builtin, Sem.run_bind, Sem.run_pure, Result.andThen_ok, List.map_toArray, List.map_cons, List.map_nil, hs, hx, hr]
  exact h v' w' (hO.2.regrown h3 h2 h5)

theorem infoPP : (Tryd.prog.info? 49).map (fun i => (i.zero, i.size, i.bytes)) = some (some (.slice none 0 0), 1, 24) := by kernel_rfl

theorem infoBs : (Tryd.prog.info? 110).map (fun i => (i.zero, i.size, i.bytes)) = some (some (.slice none 0 0), 1, 24) := by kernel_rfl

theorem infoBo : (Tryd.prog.info? 4).map (fun i => (i.zero, i.size, i.bytes)) = some (some (.bool false), 1, 1) := by kernel_rfl

theorem madeBo (n : Nat) : (madeCells (Value.bool false).cells (n * 1)).toList = (List.replicate n false).map Value.bool := by
  have hz : (Value.bool false).cells = #[.bool false] := by kernel_rfl
  rw [hz]
  have := made_rep #[Value.bool false] (by decide) n
  rw [show (#[Value.bool false] : Array Value).size = 1 from rfl] at this
  rw [this]
  clear this hz
  induction n with
  | zero => rfl
  | succ n ih => rw [List.replicate_succ, List.flatten_cons, ih, List.replicate_succ]; rfl

/- Orders of what is owned. -/
open Classical in
theorem perm_cnt {l m : List Item} (h : ∀ a : Item, l.count a = m.count a) : l.Perm m := List.perm_iff_count.2 h
theorem own_out {n : Nat} {B : World → Prop} {w : World} {b s : Item} {U R : List Item} (h : Own n B w (b :: (U ++ (s :: R)))) : Own n B w (b :: s :: (U ++ R)) := h.perm (List.Perm.cons _ List.perm_middle)
theorem own_skipL {n : Nat} {B : World → Prop} {w : World} : ∀ {U V : List Item}, Own n B w (U ++ V) → Own n B w V
  | [], _, h => h
  | _ :: _, _, h => own_skipL h.2
theorem own_out2 {n : Nat} {B : World → Prop} {w : World} {b x y s : Item} {U R : List Item} (h : Own n B w (b :: x :: y :: (U ++ (s :: R)))) : Own n B w (b :: s :: x :: y :: (U ++ R)) := h.perm (List.Perm.cons _ ((List.Perm.cons _ ((List.Perm.cons _ List.perm_middle).trans (List.Perm.swap _ _ _))).trans (List.Perm.swap _ _ _)))
theorem skL_len (f : Int) (x : Pt) (g : Int) : (skL f x g).length ≤ 1528823808 := by
  unfold skL
  have h1 := skI_len x (ftL f x g) (cdL (ftL f x g)) (cdL (ftL f x g)).length
  have h2 : (cdL (ftL f x g)).length ≤ 1152 := cdN_len (ft_len f x g) 32
  have h3 := Nat.mul_le_mul (Nat.mul_le_mul h2 h2) h2
  omega
/-- The first k lists of chords, and their rows of truth values. -/
def AGok (SS : List (List (List Pt))) (k : Nat) (As : List (Value × List (Value × List Pt))) (Gs : List (Value × List Bool)) : Prop :=
  As.length = k ∧ Gs.length = k ∧ (∀ (i : Nat) (p : Value × List (Value × List Pt)), As[i]? = some p → SS[i]? = some (lsO p.2)) ∧ ∀ (i : Nat) (p : Value × List Bool), Gs[i]? = some p → ∃ S, SS[i]? = some S ∧ p.2.length = S.length
theorem AGok.nil (SS : List (List (List Pt))) : AGok SS 0 [] [] := ⟨rfl, rfl, fun i p h => by simp at h, fun i p h => by simp at h⟩
theorem AGok.more {SS : List (List (List Pt))} {k : Nat} {As : List (Value × List (Value × List Pt))} {Gs : List (Value × List Bool)} {va vg : Value} {es : List (Value × List Pt)} {bs : List Bool} {S : List (List Pt)} (h : AGok SS k As Gs) (hS : SS[k]? = some S) (hE : lsO es = S) (hb : bs.length = es.length) : AGok SS (k + 1) (As ++ [(va, es)]) (Gs ++ [(vg, bs)]) := by
  obtain ⟨h1, h2, h3, h4⟩ := h
  refine ⟨by rw [List.length_append, h1]; rfl, by rw [List.length_append, h2]; rfl, fun i p hp => ?_, fun i p hp => ?_⟩
  · rcases Nat.lt_or_ge i k with hi | hi
    · rw [List.getElem?_append_left (by omega)] at hp; exact h3 i p hp
    · have : i = k := by have := (List.getElem?_eq_some_iff.1 hp).1; rw [List.length_append, h1] at this; simp at this; omega
      subst this
      rw [List.getElem?_append_right (by omega), h1, Nat.sub_self] at hp
      simp at hp
      subst hp
      rw [hS, hE]
  · rcases Nat.lt_or_ge i k with hi | hi
    · rw [List.getElem?_append_left (by omega)] at hp; exact h4 i p hp
    · have : i = k := by have := (List.getElem?_eq_some_iff.1 hp).1; rw [List.length_append, h2] at this; simp at this; omega
      subst this
      rw [List.getElem?_append_right (by omega), h2, Nat.sub_self] at hp
      simp at hp
      subst hp
      exact ⟨S, hS, by rw [← hE, List.length_map]; exact hb⟩
theorem Own.mem_open {n : Nat} {B : World → Prop} {w : World} {L : List Item} {e : TypeId} {size k : Nat} {v : Value} {xs : List Value} (h : Own n B w L) (hm : Item.row e size v k xs ∈ L) (hk : 0 < k) : ∃ q cap, v = .slice (some ⟨q, 0, none⟩) k cap ∧ k ≤ cap ∧ cap ≤ maxLen := by
  rcases (h.holds _ hm : w.ownsRow n e size v k xs).2 with ⟨_, h0⟩ | ⟨g, cap, cur, rfl, _, _, h1, h2, _⟩
  · omega
  · exact ⟨g, cap, rfl, h1, h2⟩
theorem Own.mem_cell {n : Nat} {B : World → Prop} {w : World} {L : List Item} {e : TypeId} {size k q cap i : Nat} {u : Value} {xs : List Value} (h : Own n B w L) (hm : Item.row e size (.slice (some ⟨q, 0, none⟩) k cap) k xs ∈ L) (hu : xs[i]? = some u) : w.cell? ⟨q, i, none⟩ = some u := by
  have := World.ownsRow.cells (h.holds _ hm : w.ownsRow n e size _ k xs) (g := q) rfl i u hu
  rwa [add_flat] at this
theorem set_upto {gk : List Bool} {s i : Nat} {b : Bool} {F : Nat → Option Bool} (h : gk.length = s ∧ ∀ i', i' < i → gk[i']? = F i') (hi : i < s) (hb : F i = some b) : (gk.set i b).length = s ∧ ∀ i', i' < i + 1 → (gk.set i b)[i']? = F i' := by
  refine ⟨by rw [List.length_set]; exact h.1, fun i' h' => ?_⟩
  by_cases he : i' = i
  · subst he; rw [List.getElem?_set_self (by omega), hb]
  · rw [List.getElem?_set_ne (by omega)]; exact h.2 i' (by omega)
/-- From a chord on there is a way if there is one from some chord that may follow. -/
theorem gd_ex {SS : List (List (List Pt))} {q : Nat} {es : List (Value × List Pt)} {l : List Pt} (h : SS[q]? = some (lsO es)) : gdB (SS.drop q) l = true ↔ ∃ (j : Nat) (c : Value × List Pt), es[j]? = some c ∧ gdB (SS.drop (q + 1)) c.2 = true ∧ mvZ l c.2 = 0 := by
  have hq := (List.getElem?_eq_some_iff.1 h).1
  rw [List.getElem?_eq_getElem hq] at h
  have heq := Option.some.inj h
  rw [List.drop_eq_getElem_cons hq, gd_cons, List.any_eq_true]
  constructor
  · rintro ⟨s, hs, hw⟩
    rw [heq] at hs
    obtain ⟨c, hc, rfl⟩ := List.mem_map.1 hs
    obtain ⟨j, hj⟩ := List.getElem?_of_mem hc
    rw [Bool.and_eq_true] at hw
    refine ⟨j, c, hj, hw.2, ?_⟩
    have := hw.1
    unfold wyB at this
    simpa using this
  · rintro ⟨j, c, hj, h1, h2⟩
    refine ⟨c.2, by rw [heq]; exact List.mem_map_of_mem (List.mem_of_getElem? hj), ?_⟩
    rw [h1, Bool.and_true]
    unfold wyB
    simp [h2]
/-- Some chord among the first j follows. -/
def exJ (r : List (List (List Pt))) (l : List Pt) (es : List (Value × List Pt)) (j : Nat) : Prop := ∃ (i : Nat) (c : Value × List Pt), i < j ∧ es[i]? = some c ∧ gdB r c.2 = true ∧ mvZ l c.2 = 0
theorem exJ_up {r : List (List (List Pt))} {l : List Pt} {es : List (Value × List Pt)} {j : Nat} {c : Value × List Pt} (hc : es[j]? = some c) (hn : ¬ exJ r l es j) : exJ r l es (j + 1) ↔ gdB r c.2 = true ∧ mvZ l c.2 = 0 := by
  constructor
  · rintro ⟨i, c', hi, h1, h2⟩
    by_cases he : i = j
    · subst he; rw [hc] at h1; cases h1; exact h2
    · exact absurd ⟨i, c', by omega, h1, h2⟩ hn
  · exact fun h => ⟨j, c, by omega, hc, h⟩
theorem itA_mem {As : List (Value × List (Value × List Pt))} {k : Nat} {p : Value × List (Value × List Pt)} {c : Value × List Pt} (h : As[k]? = some p) (hc : c ∈ p.2) : Item.row 29 3 c.1 c.2.length (pcC c.2) ∈ itA As := by
  obtain ⟨i, hi⟩ := List.getElem?_of_mem hc
  exact itA_chord h hi
/-- The rows of a way: one chord of each list. -/
theorem way_sub : ∀ {ch : List (Value × List Pt)} {As : List (Value × List (Value × List Pt))}, (∀ (i : Nat) (c : Value × List Pt), ch[i]? = some c → ∃ p, As[i]? = some p ∧ c ∈ p.2) → (rwP ch).Sublist (itA As)
  | [], _, _ => List.nil_sublist _
  | c :: ch, [], h => by
    obtain ⟨p, hp, _⟩ := h 0 c rfl
    simp at hp
  | c :: ch, p :: As, h => by
    obtain ⟨p', hp, hc⟩ := h 0 c rfl
    simp at hp
    subst hp
    have e1 : rwP (c :: ch) = [.row 29 3 c.1 c.2.length (pcC c.2)] ++ rwP ch := rfl
    have e2 : itA (p :: As) = (.row 23 1 p.1 p.2.length (vsO p.2) :: rwP p.2) ++ itA As := rfl
    rw [e1, e2]
    refine List.Sublist.append (List.singleton_sublist.2 (List.mem_cons_of_mem _ ?_)) (way_sub fun i x hx => ?_)
    · exact List.mem_map_of_mem hc
    · obtain ⟨q, hq, hm⟩ := h (i + 1) x (by simpa using hx)
      exact ⟨q, by simpa using hq, hm⟩
/-- The first m chords of a way that has been found. -/
def chOk (out : List (List Pt)) (As : List (Value × List (Value × List Pt))) (m : Nat) (ch : List (Value × List Pt)) : Prop :=
  ch.length = m ∧ (∀ (i : Nat) (c : Value × List Pt), ch[i]? = some c → ∃ p, As[i]? = some p ∧ c ∈ p.2) ∧ ∀ i, i < m → (ch[i]?).map (·.2) = out[i]?
theorem chOk.more {out : List (List Pt)} {As : List (Value × List (Value × List Pt))} {m : Nat} {ch : List (Value × List Pt)} {p : Value × List (Value × List Pt)} {c : Value × List Pt} (h : chOk out As m ch) (hp : As[m]? = some p) (hc : c ∈ p.2) (ho : out[m]? = some c.2) : chOk out As (m + 1) (ch ++ [c]) := by
  obtain ⟨h1, h2, h3⟩ := h
  refine ⟨by rw [List.length_append, h1]; rfl, fun i x hx => ?_, fun i hi => ?_⟩
  · rcases Nat.lt_or_ge i m with hi | hi
    · rw [List.getElem?_append_left (by omega)] at hx; exact h2 i x hx
    · have : i = m := by have := (List.getElem?_eq_some_iff.1 hx).1; rw [List.length_append, h1] at this; simp at this; omega
      subst this
      rw [List.getElem?_append_right (by omega), h1, Nat.sub_self] at hx
      simp at hx
      subst hx
      exact ⟨p, hp, hc⟩
  · rcases Nat.lt_or_ge i m with h' | h'
    · rw [List.getElem?_append_left (by omega)]; exact h3 i h'
    · have : i = m := by omega
      subst this
      rw [List.getElem?_append_right (by omega), h1, Nat.sub_self, ho]; rfl
theorem chOk.full {out : List (List Pt)} {As : List (Value × List (Value × List Pt))} {m : Nat} {ch : List (Value × List Pt)} (h : chOk out As m ch) (hm : out.length = m) : lsO ch = out := by
  refine List.ext_getElem? fun i => ?_
  rw [List.getElem?_map]
  rcases Nat.lt_or_ge i m with h' | h'
  · exact h.2.2 i h'
  · rw [List.getElem?_eq_none (by rw [h.1]; omega), List.getElem?_eq_none (by omega)]; rfl
theorem vsO_snoc (ch : List (Value × List Pt)) (c : Value × List Pt) : vsO (ch ++ [c]) = vsO ch ++ [c.1] := by simp [vsO]
theorem memW {x o a g : Item} {G A : List Item} (h : x ∈ A) : x ∈ o :: a :: g :: (G ++ A) := List.mem_cons_of_mem _ (List.mem_cons_of_mem _ (List.mem_cons_of_mem _ (List.mem_append_right _ h)))
theorem memV {x o a g : Item} {G A : List Item} (h : x ∈ G) : x ∈ o :: a :: g :: (G ++ A) := List.mem_cons_of_mem _ (List.mem_cons_of_mem _ (List.mem_cons_of_mem _ (List.mem_append_left _ h)))
/-- No chord among the first i will do. -/
def noI (P : List Pt → Bool) (es : List (Value × List Pt)) (i : Nat) : Prop := ∀ (i' : Nat) (c : Value × List Pt), i' < i → es[i']? = some c → P c.2 = false
theorem noI_up {P : List Pt → Bool} {es : List (Value × List Pt)} {i : Nat} {c : Value × List Pt} (h : noI P es i) (hc : es[i]? = some c) (hp : P c.2 = false) : noI P es (i + 1) := fun i' c' hi h' => by
  by_cases he : i' = i
  · subst he; rw [hc] at h'; cases h'; exact hp
  · exact h i' c' (by omega) h'
theorem noI_all {P : List Pt → Bool} {es : List (Value × List Pt)} (h : noI P es es.length) : (lsO es).find? P = none := by
  rw [List.find?_eq_none]
  intro x hx
  obtain ⟨c, hc, rfl⟩ := List.mem_map.1 hx
  obtain ⟨i, hi⟩ := List.getElem?_of_mem hc
  rw [h i c (List.getElem?_eq_some_iff.1 hi).1 hi]
  simp
theorem noI_hit {P : List Pt → Bool} {es : List (Value × List Pt)} {i : Nat} {c : Value × List Pt} (h : noI P es i) (hc : es[i]? = some c) (hp : P c.2 = true) : (lsO es).find? P = some c.2 := by
  rw [List.find?_eq_some_iff_getElem]
  refine ⟨hp, i, by rw [List.length_map]; exact (List.getElem?_eq_some_iff.1 hc).1, ?_, fun j hj => ?_⟩
  · obtain ⟨h1, h2⟩ := List.getElem?_eq_some_iff.1 hc
    simp [h2]
  · have hl := (List.getElem?_eq_some_iff.1 hc).1
    have := h j (es[j]'(by omega)) hj (List.getElem?_eq_getElem (by omega))
    simp [this]
/-- What may be taken: there is a way on, and the way from the chord before has no fault. -/
noncomputable def pkP (r : List (List (List Pt))) (p : Option (List Pt)) (s : List Pt) : Bool := gdB r s && wyB p s
theorem rz_first {SS : List (List (List Pt))} {out : List (List Pt)} {m : Nat} {s : List Pt} (h : rzF none SS = some out) (hs : out[m]? = some s) : ∃ T, SS[m]? = some T ∧ T.find? (pkP (SS.drop (m + 1)) (if m = 0 then none else out[m - 1]?)) = some s := by
  obtain ⟨T, h1, h2⟩ := (rz_at h).2 m s hs
  refine ⟨T, h1, ?_⟩
  rw [List.find?_filter] at h2
  rw [← h2]
  congr 1
  funext t
  unfold pkP
  rw [Bool.decide_and, Bool.decide_eq_true, Bool.decide_eq_true]
theorem rz_none {T : List (List Pt)} {r : List (List (List Pt))} (h : rzF none (T :: r) = none) {s : List Pt} (hs : s ∈ T) : gdB r s = false := by
  rw [← Bool.not_eq_true]
  intro hc
  have h1 : (T.filter (gdB r)).find? (wyB none) ≠ none := by
    rw [Ne, List.find?_eq_none]
    intro h
    exact h s (List.mem_filter.2 ⟨hs, hc⟩) rfl
  obtain ⟨x, hx⟩ := Option.ne_none_iff_exists'.1 h1
  have := rz_yes hx
  rw [h] at this
  cases this
theorem memA2 {x a b : Item} {G A R : List Item} (h : x ∈ A) : x ∈ a :: b :: (G ++ (A ++ R)) := List.mem_cons_of_mem _ (List.mem_cons_of_mem _ (List.mem_append_right _ (List.mem_append_left _ h)))
theorem memA3 {x a b c : Item} {G A R : List Item} (h : x ∈ A) : x ∈ c :: a :: b :: (G ++ (A ++ R)) := List.mem_cons_of_mem _ (memA2 h)
theorem memG2 {x a b : Item} {G A : List Item} (h : x ∈ G) : x ∈ a :: b :: (G ++ A) := List.mem_cons_of_mem _ (List.mem_cons_of_mem _ (List.mem_append_left _ h))
theorem memG3 {x a b c : Item} {G A : List Item} (h : x ∈ G) : x ∈ c :: a :: b :: (G ++ A) := List.mem_cons_of_mem _ (memG2 h)
/-- How far the rows of truth values are filled. -/
def G2 (SS : List (List (List Pt))) (gvs : List Value) (n m : Nat) (Gs : List (Value × List Bool)) : Prop :=
  Gs.map (·.1) = gvs ∧ Gs.length = n ∧ ∀ (i : Nat) (p : Value × List Bool), Gs[i]? = some p → ∃ S, SS[i]? = some S ∧ p.2.length = S.length ∧ (m ≤ i → p.2 = S.map (gdB (SS.drop (i + 1))))
theorem G2.start {SS : List (List (List Pt))} {n : Nat} {As : List (Value × List (Value × List Pt))} {Gs : List (Value × List Bool)} (h : AGok SS n As Gs) : G2 SS (Gs.map (·.1)) n n Gs :=
  ⟨rfl, h.2.1, fun i p hp => by
    obtain ⟨S, h1, h2⟩ := h.2.2.2 i p hp
    exact ⟨S, h1, h2, fun hi => by have := (List.getElem?_eq_some_iff.1 hp).1; have := h.2.1; omega⟩⟩
theorem G2.step {SS : List (List (List Pt))} {gvs : List Value} {n k : Nat} {U V : List (Value × List Bool)} {gv : Value} {gk g2 : List Bool} {S : List (List Pt)} (h : G2 SS gvs n (k + 1) (U ++ (gv, gk) :: V)) (hU : U.length = k) (hS : SS[k]? = some S) (hg : g2 = S.map (gdB (SS.drop (k + 1)))) : G2 SS gvs n k (U ++ (gv, g2) :: V) := by
  obtain ⟨h1, h2, h3⟩ := h
  refine ⟨by rw [← h1]; simp, by rw [← h2]; simp, fun i p hp => ?_⟩
  by_cases hi : i = k
  · subst hi
    rw [List.getElem?_append_right (by omega), hU, Nat.sub_self] at hp
    simp at hp
    subst hp
    exact ⟨S, hS, by rw [hg, List.length_map], fun _ => hg⟩
  · obtain ⟨S', g1, g2', g3⟩ := h3 i p (by
      rcases Nat.lt_or_ge i k with h | h
      · rw [List.getElem?_append_left (by omega)] at hp ⊢; exact hp
      · rw [List.getElem?_append_right (by omega)] at hp ⊢
        rw [hU] at hp ⊢
        obtain ⟨d, hd⟩ : ∃ d, i - k = d + 1 := ⟨i - k - 1, by omega⟩
        rw [hd] at hp ⊢
        simpa using hp)
    exact ⟨S', g1, g2', fun hm => g3 (by omega)⟩
theorem one1bo {b : Bool} : ∀ u ∈ [Value.bool b], u.oneCell' = true := by
  intro u hu
  simp at hu
  subst hu
  rfl
/-- A chord list and a row of truth values more. -/
theorem own_more {n : Nat} {B : World → Prop} {w : World} {ga gb : Item} {As : List (Value × List (Value × List Pt))} {Gs : List (Value × List Bool)} {va vg : Value} {es : List (Value × List Pt)} {bs : List Bool} {R : List Item}
    (h : Own n B w (gb :: .row 4 1 vg bs.length (bs.map Value.bool) :: ga :: ((.row 23 1 va es.length (vsO es) :: rwP es) ++ (itG Gs ++ (itA As ++ R))))) :
    Own n B w (ga :: gb :: (itG (Gs ++ [(vg, bs)]) ++ (itA (As ++ [(va, es)]) ++ R))) := by
  refine h.perm ?_
  rw [itG_append, itA_snoc]
  refine perm_cnt fun a => ?_
  simp only [List.count_append, List.count_cons, itG, List.map_cons, List.map_nil, List.count_nil]
  omega

set_option maxRecDepth 20000 in
set_option maxHeartbeats 16000000 in
theorem rzS_in (hMv : MvS) (f : Int) (vb vg : Value) (bs : List Pt) (gs : List Int) (w : World) (hc : rzC f bs gs) (hb : SlAt w vb bs.length 3 (pcC bs)) (hg : SlAt w vg gs.length 1 (intC gs)) :
    Calls Tryd.prog 42 #[.int .i64 f, vb, vg] w (StkOutB (rzL f bs gs) (rzB f bs gs) w) := by
  have hO := Own.start w
  have hF := True.intro
  have HZ := hid (rz_in hc)
  obtain ⟨c1, c8, hgl, hk⟩ := hc
  obtain ⟨ia, ha0, ha1, ha2, ha3⟩ := info_parts infoPP
  obtain ⟨ib, hb0, hb1, hb2, hb3⟩ := info_parts infoBs
  obtain ⟨io, ho0, ho1, ho2, ho3⟩ := info_parts infoBo
  obtain ⟨is, hs0, hs1, hs2, hs3⟩ := info_parts infoSt
  obtain ⟨Ab, cb, rfl, nb, hAb⟩ := hb.open
  obtain ⟨Ag, cg, rfl, ng, hAg⟩ := hg.open
  obtain ⟨n, hn⟩ : ∃ n, bs.length = n := ⟨_, rfl⟩
  rw [hn] at c1 c8 hgl hAb nb hb
  rw [hgl] at hAg ng hg
  obtain ⟨bb, ob, rfl, _⟩ := hAb (by omega)
  obtain ⟨bg, og, rfl, _⟩ := hAg (by omega)
  have HB := hid hb
  have HG := hid hg
  have HN := hid (And.intro hn hgl)
  have HI1 := hid (fun W => in_is W (show inB (n : Int) 1 8 = true from inB_iff.2 ⟨by omega, by omega⟩))
  have HI2 := hid (fun W => in_is W (show inB f (-7) 7 = true from hk))
  obtain ⟨SS, hSS⟩ : ∃ S, skS f bs gs = S := ⟨_, rfl⟩
  rw [hSS] at HZ
  have HSL := hid (show SS.length = n by rw [← hSS]; unfold skS; rw [List.length_zipWith, hn, hgl, Nat.min_self])
  have HSK := hid (show ∀ (k : Nat) (x : Pt) (g : Int), bs[k]? = some x → gs[k]? = some g → SS[k]? = some (skL f x g) from fun k x g hx hg => by rw [← hSS]; unfold skS; rw [List.getElem?_zipWith, hx, hg])
  have HS4 := hid (show ∀ (k : Nat) (S : List (List Pt)), SS[k]? = some S → S.length ≤ 1528823808 ∧ ∀ l ∈ S, l.length = 4 from fun k S h => by
    rw [← hSS] at h
    unfold skS at h
    rw [List.getElem?_zipWith] at h
    split at h
    · simp at h
      subst h
      exact ⟨skL_len _ _ _, fun l hl => (sk_is hl).2.1⟩
    · cases h)
  rw [hn, hgl]
  clear hAb hAg hb hg hn hgl hk hSS
  go_enter Tryd.func42, Tryd.ntmps42
  go_wp2_with fail
  replace hO := hO.allocRow (e := 23) (cur := #[]) (k := 0) (cap := 0) 1 (by omega) (by unfold maxLen; omega) rfl
  go_wp2_with fail
  (go_at_call 48; apply own_at hO; (repeat (first | (with_reducible exact hO) | (with_reducible apply Own.alloc) | (with_reducible apply Own.drew) | ((with_reducible apply Own.set_at); (focus (show _ ≤ _; omega))))); have hG := hF; clear hF; clear hO; intro hO; refine own_call hO (fun hB => HI1.out _) ?_; clear hO; intro w1 hO; (try simp only [World.size_alloc1, World.size_drew, Nat.reduceAdd] at hO); (try simp only [upd, updI, List.map_cons, List.map_nil, eq_self, if_true, if_false, reduceIte, Nat.add_eq_left, Nat.left_eq_add, Nat.reduceEqDiff, List.set_cons_zero, List.set_cons_succ, hG] at hO); clear hG; have hF := hO; (try simp only [Own, Item.Holds, apartI, CellsAt, Nat.reduceAdd, Nat.zero_add, List.mem_cons, List.not_mem_nil, or_false, forall_eq_or_imp, forall_eq, ne_eq, false_imp_iff, implies_true, and_true] at hF))
  go_wp2_with fail
  (go_at_call 48; apply own_at hO; (repeat (first | (with_reducible exact hO) | (with_reducible apply Own.alloc) | (with_reducible apply Own.drew) | ((with_reducible apply Own.set_at); (focus (show _ ≤ _; omega))))); have hG := hF; clear hF; clear hO; intro hO; refine own_call hO (fun hB => HI2.out _) ?_; clear hO; intro w1 hO; (try simp only [World.size_alloc1, World.size_drew, Nat.reduceAdd] at hO); (try simp only [upd, updI, List.map_cons, List.map_nil, eq_self, if_true, if_false, reduceIte, Nat.add_eq_left, Nat.left_eq_add, Nat.reduceEqDiff, List.set_cons_zero, List.set_cons_succ, hG] at hO); clear hG; have hF := hO; (try simp only [Own, Item.Holds, apartI, CellsAt, Nat.reduceAdd, Nat.zero_add, List.mem_cons, List.not_mem_nil, or_false, forall_eq_or_imp, forall_eq, ne_eq, false_imp_iff, implies_true, and_true] at hF))
  go_wp2_with fail
  replace hO := (hO.allocRow (e := 49) (cur := #[]) (k := 0) (cap := 0) 1 (by omega) (by unfold maxLen; omega) rfl).allocRow (e := 110) (cur := #[]) (k := 0) (cap := 0) 1 (by omega) (by unfold maxLen; omega) rfl
  simp only [World.size_alloc1] at hO
  go_loopw [10, 11, 12] (fun ua ug t wr => ∃ (k : Nat) (As : List (Value × List (Value × List Pt))) (Gs : List (Value × List Bool)), k ≤ n ∧ t = .int .i64 k ∧ Hid (AGok SS k As Gs) ∧
    Own w.heap.size (Below w.heap.size w) wr (.row 49 1 ua k (As.map (·.1)) :: .row 110 1 ug k (Gs.map (·.1)) :: (itG Gs ++ (itA As ++ [.row 23 1 (.slice (some ⟨w.heap.size, 0, none⟩) 0 0) 0 []])))) (fun _ _ t _ => n - (intOf t).toNat)
  case atStart => exact ⟨0, [], [], by omega, rfl, AGok.nil SS, hO.perm (List.Perm.swap _ _ _)⟩
  case round =>
    clear hO hF
    obtain ⟨k, As, Gs, hk, rfl, hAG, hO⟩ := hrel
    have hF := True.intro
    by_cases he : k = n
    · subst he
      have n0 : 0 < k := by omega
      obtain ⟨qa, ca, hua, _, _⟩ := hO.row_open n0
      subst hua
      obtain ⟨qg, cg2, hug, _, _⟩ := hO.2.row_open n0
      subst hug
      have HA := hid (And.intro hAG.out.1 hAG.out.2.2.1)
      have HG2 := hid (G2.start hAG.out)
      obtain ⟨gvs, hgvs⟩ : ∃ l, Gs.map (·.1) = l := ⟨_, rfl⟩
      rw [hgvs] at hO HG2
      obtain ⟨rvs, hrvs⟩ : ∃ l, As.map (·.1) = l := ⟨_, rfl⟩
      have HRV := hid (show ∀ (i : Nat) (p : Value × List (Value × List Pt)), As[i]? = some p → rvs[i]? = some p.1 from fun i p h => by rw [← hrvs, List.getElem?_map, h]; rfl)
      rw [hrvs] at hO
      obtain ⟨R, hR⟩ : ∃ R : List Item, R = [.row 23 1 (.slice (some ⟨w.heap.size, 0, none⟩) 0 0) 0 []] := ⟨_, rfl⟩
      have HR := hid hR
      rw [← hR] at hO
      clear hAG hgvs hrvs hR
      have wn : IntKind.i64.wrap ((k : Int) - 1) = (k : Int) - 1 := IntWalk.i64_in _ (by omega)
      go_wp2_with fail
      go_loopw [13] (fun t wr => ∃ (m : Nat) (Gs : List (Value × List Bool)), m ≤ k ∧ t = .int .i64 ((m : Int) - 1) ∧ Hid (G2 SS gvs k m Gs) ∧
        Own w.heap.size (Below w.heap.size w) wr (.row 49 1 (.slice (some ⟨qa, 0, none⟩) k ca) k rvs :: .row 110 1 (.slice (some ⟨qg, 0, none⟩) k cg2) k gvs :: (itG Gs ++ (itA As ++ R)))) (fun t _ => (intOf t + 1).toNat)
      case atStart => exact ⟨k, Gs, by omega, rfl, HG2.out, hO⟩
      case round =>
        clear hO hF HG2
        obtain ⟨m, Gs, hm, rfl, hG, hO⟩ := hrel
        have hF := True.intro
        cases m with
        | zero =>
          rw [show ((0 : Nat) : Int) - 1 = -1 from rfl]
          replace hO : Own w.heap.size (Below w.heap.size w) _ (.row 23 1 (.slice (some ⟨w.heap.size, 0, none⟩) 0 0) 0 [] :: .row 49 1 (.slice (some ⟨qa, 0, none⟩) k ca) k rvs :: .row 110 1 (.slice (some ⟨qg, 0, none⟩) k cg2) k gvs :: (itG Gs ++ itA As)) := hO.perm (by
            rw [HR.out]
            refine perm_cnt fun a => ?_
            simp only [List.count_append, List.count_cons, List.count_nil]
            omega)
          obtain ⟨ro, hro⟩ : ∃ ro, rzF none SS = ro := ⟨_, rfl⟩
          cases ro with
          | none =>
            as_aux_lemma =>
              have HE := hid (show rzL f bs gs = [] ∧ rzB f bs gs = false by unfold rzL rzB; rw [HZ.out, hro]; exact ⟨rfl, rfl⟩)
              obtain ⟨m, hm0⟩ : ∃ m : Nat, m = 0 := ⟨_, rfl⟩
              have hmk : m < k := by omega
              obtain ⟨⟨va, es⟩, hAm⟩ : ∃ p, As[m]? = some p := ⟨_, List.getElem?_eq_getElem (by have := HA.out.1; omega)⟩
              have hSm := HA.out.2 m _ hAm
              dsimp only at hSm
              obtain ⟨⟨gv, gk⟩, hGm⟩ : ∃ p, Gs[m]? = some p := ⟨_, List.getElem?_eq_getElem (by have := hG.out.2.1; omega)⟩
              have hgk : gk = (lsO es).map (gdB (SS.drop (m + 1))) := by
                obtain ⟨S, h1, h2, h3⟩ := hG.out.2.2 m _ hGm
                rw [hSm] at h1
                cases h1
                exact h3 (by omega)
              obtain ⟨s, hs⟩ : ∃ s, es.length = s := ⟨_, rfl⟩
              have hgl : gk.length = s := by rw [hgk, List.length_map, List.length_map, hs]
              have hel := (HS4.out m _ hSm).1
              rw [show (lsO es).length = es.length from List.length_map .., hs] at hel
              have HS := hid (And.intro hSm hs)
              have HAM := hid hAm
              have HVM := hid (HRV.out m _ hAm)
              have HGV := hid (show gvs[m]? = some gv by rw [← hG.out.1, List.getElem?_map, hGm]; rfl)
              have HAR := hid (itA_row hAm)
              have HGR := hid (itG_row hGm)
              have HGK := hid hgk
              dsimp only at HAR HGR HVM
              rw [hs] at HAR
              rw [hgl] at HGR
              obtain ⟨Av, cv, hvf⟩ : ∃ A c, va = .slice A s c := (SlAt.of_row (hO.holds _ (memW HAR.out))).form
              subst hvf
              subst hm0
              have HNO := hid (show ∀ l ∈ lsO es, gdB (SS.drop (0 + 1)) l = false from fun l hl => by
                have h0 : 0 < SS.length := by rw [HSL.out]; exact n0
                have e : SS = lsO es :: SS.drop (0 + 1) := by
                  have h1 := HS.out.1
                  rw [List.getElem?_eq_getElem h0] at h1
                  have := List.drop_eq_getElem_cons h0
                  rw [List.drop_zero, Option.some.inj h1] at this
                  exact this
                exact rz_none (by rw [← e]; exact hro) hl)
              have n0i : (0 : Int) < (k : Int) := by omega
              clear hro hAm hSm hGm hgk hs
              have a0 := hO.mem_cell (i := 0) (List.mem_cons_of_mem _ List.mem_cons_self) HVM.out
              go_wp2_with fail
              go_loopw [9, 16] (fun uo t wr => uo = .slice (some ⟨w.heap.size, 0, none⟩) 0 0 ∧ t = .int .i64 0 ∧ Own w.heap.size (Below w.heap.size w) wr (.row 23 1 (.slice (some ⟨w.heap.size, 0, none⟩) 0 0) 0 [] :: .row 49 1 (.slice (some ⟨qa, 0, none⟩) k ca) k rvs :: .row 110 1 (.slice (some ⟨qg, 0, none⟩) k cg2) k gvs :: (itG Gs ++ itA As))) (fun _ _ _ => 0)
              case atStart => exact ⟨rfl, rfl, hO⟩
              case round =>
                clear hO a0
                obtain ⟨rfl, rfl, hO⟩ := hrel
                have a0 := hO.mem_cell (i := 0) (List.mem_cons_of_mem _ List.mem_cons_self) HVM.out
                go_wp2_with fail
                go_loopw [9, 17, 18] (fun uo ub t ws => ∃ i : Nat, i ≤ s ∧ uo = .slice (some ⟨w.heap.size, 0, none⟩) 0 0 ∧ ub = .bool false ∧ t = .int .i64 i ∧ Own w.heap.size (Below w.heap.size w) ws (.row 23 1 (.slice (some ⟨w.heap.size, 0, none⟩) 0 0) 0 [] :: .row 49 1 (.slice (some ⟨qa, 0, none⟩) k ca) k rvs :: .row 110 1 (.slice (some ⟨qg, 0, none⟩) k cg2) k gvs :: (itG Gs ++ itA As))) (fun _ _ t _ => s - (intOf t).toNat)
                case atStart => exact ⟨0, by omega, rfl, rfl, rfl, hO⟩
                case round =>
                  clear hO a0
                  obtain ⟨i, hi, rfl, rfl, rfl, hO⟩ := hrel
                  have a0 := hO.mem_cell (i := 0) (List.mem_cons_of_mem _ List.mem_cons_self) HVM.out
                  by_cases he : i = s
                  · subst he
                    go_wp2_with fail
                    go_ret2
                    rw [HE.out.1, HE.out.2]
                    exact stkB_nil (hO.allocRow (e := 23) (cur := #[]) (k := 0) (cap := 0) 1 (by omega) (by unfold maxLen; omega) rfl)
                  · as_aux_lemma =>
                      have hil : i < s := by omega
                      have hil2 : (i : Int) < (s : Int) := by omega
                      have hi0 : (0 : Int) ≤ (i : Int) := by omega
                      obtain ⟨qv, cv', hv1, _, _⟩ := hO.mem_open (memW HAR.out) (by omega)
                      cases hv1
                      obtain ⟨qb, cb', hgv1, _, _⟩ := hO.mem_open (memV HGR.out) (by omega)
                      subst hgv1
                      obtain ⟨⟨c1, l⟩, hc1⟩ : ∃ c, es[i]? = some c := ⟨_, List.getElem?_eq_getElem (by have := HS.out.2; omega)⟩
                      have HC1 := hid (itA_chord HAM.out hc1)
                      dsimp only at HC1
                      have hl4 : l.length = 4 := (HS4.out 0 _ HS.out.1).2 l (List.mem_map_of_mem (List.mem_of_getElem? hc1))
                      rw [hl4] at HC1
                      obtain ⟨A1, k1, hc1f⟩ := (SlAt.of_row (hO.holds _ (memW HC1.out))).form
                      subst hc1f
                      obtain ⟨g, hg⟩ : ∃ g, gdB (SS.drop (0 + 1)) l = g := ⟨_, rfl⟩
                      have HE1 := hid (show (vsO es)[i]? = some (.slice A1 4 k1) by rw [List.getElem?_map, hc1]; rfl)
                      have HE3 := hid (show (gk.map Value.bool)[i]? = some (.bool g) by rw [HGK.out, List.getElem?_map, List.getElem?_map, List.getElem?_map, hc1]; show some (Value.bool (gdB _ l)) = _; rw [hg])
                      have HCE := hid (And.intro hc1 (And.intro hl4 hg))
                      have hg0 : g = false := by rw [← hg]; exact HNO.out l (List.mem_map_of_mem (List.mem_of_getElem? hc1))
                      subst hg0
                      clear he hc1 hl4 hg a0
                      have a0 := hO.mem_cell (i := 0) (List.mem_cons_of_mem _ List.mem_cons_self) HVM.out
                      go_wp2_with fail
                      clear a0
                      have hF := True.intro
                      apply own_code hO
                      (repeat (first | (with_reducible exact hO) | (with_reducible apply Own.alloc) | (with_reducible apply Own.drew) | ((with_reducible apply Own.set_at); (focus (show _ ≤ _; omega)))))
                      have hG := hF; clear hF; clear hO; intro hO
                      (try simp only [World.size_alloc1, World.size_drew, Nat.reduceAdd] at hO); (try simp only [upd, updI, List.map_cons, List.map_nil, eq_self, if_true, if_false, reduceIte, Nat.add_eq_left, Nat.left_eq_add, Nat.reduceEqDiff, List.set_cons_zero, List.set_cons_succ, hG] at hO); clear hG
                      refine region_own (X := fun _ => True) [] (by kernel_rfl) (hO) (trivial) (by first | exact XStab.true | exact XStab.rd | exact XStab.rdIf) ?_
                      clear hO
                      refine Sim.sP (i := 0) (d := some 168) (h := ?_)
                      refine Sim.sP (i := 1) (d := some 169) (h := ?_)
                      refine Sim.sP (i := 2) (d := some 170) (h := ?_)
                      refine Sim.sO (i := 3) (d := some 171) (v := ?_) (hy := ?_) (h := ?_)
                      rotate_left
                      · first | refine Or.inl ⟨by rfl, fun w hO => ?_⟩ | (refine Or.inr ⟨by rfl, ?_⟩; with_reducible rfl)
                        first | done | (skip; ((have a0 := hO.mem_cell (i := 0) (List.mem_cons_of_mem _ List.mem_cons_self) HVM.out; have b0 := hO.mem_cell (i := 0) (List.mem_cons_of_mem _ (List.mem_cons_of_mem _ List.mem_cons_self)) HGV.out; have c0 := hO.mem_cell (i := i) (memW HAR.out) HE1.out; have d0 := hO.mem_cell (i := i) (memV HGR.out) HE3.out)); refine Out.same ?_; go_simp; all_goals with_reducible rfl)
                      refine Sim.sP (i := 4) (d := some 172) (h := ?_)
                      refine Sim.sP (i := 5) (d := some 173) (h := ?_)
                      refine Sim.sO (i := 6) (d := some 174) (v := ?_) (hy := ?_) (h := ?_)
                      rotate_left
                      · first | refine Or.inl ⟨by rfl, fun w hO => ?_⟩ | (refine Or.inr ⟨by rfl, ?_⟩; with_reducible rfl)
                        first | done | (skip; ((have a0 := hO.mem_cell (i := 0) (List.mem_cons_of_mem _ List.mem_cons_self) HVM.out; have b0 := hO.mem_cell (i := 0) (List.mem_cons_of_mem _ (List.mem_cons_of_mem _ List.mem_cons_self)) HGV.out; have c0 := hO.mem_cell (i := i) (memW HAR.out) HE1.out; have d0 := hO.mem_cell (i := i) (memV HGR.out) HE3.out)); refine Out.same ?_; go_simp; all_goals with_reducible rfl)
                      refine Sim.sP (i := 7) (d := some 175) (h := ?_)
                      refine Sim.sP (i := 8) (d := some 176) (h := ?_)
                      refine Sim.sP (i := 9) (d := some 177) (h := ?_)
                      refine Sim.sP (i := 10) (d := some 178) (h := ?_)
                      refine Sim.sP (i := 11) (d := some 179) (h := ?_)
                      refine Sim.sP (i := 12) (d := some 180) (h := ?_)
                      refine Sim.sP (i := 13) (d := some 181) (h := ?_)
                      refine Sim.sP (i := 14) (d := some 182) (h := ?_)
                      refine Sim.sP (i := 15) (d := some 183) (h := ?_)
                      refine Sim.sP (i := 16) (d := some 184) (h := ?_)
                      refine Sim.sP (i := 17) (d := some 185) (h := ?_)
                      refine Sim.sP (i := 18) (d := some 186) (h := ?_)
                      refine Sim.sP (i := 19) (d := some 187) (h := ?_)
                      refine Sim.sP (i := 20) (d := some 188) (h := ?_)
                      refine Sim.sP (i := 21) (d := some 189) (h := ?_)
                      refine Sim.sP (i := 22) (d := some 190) (h := ?_)
                      refine Sim.sP (i := 23) (d := some 191) (h := ?_)
                      refine Sim.sP (i := 24) (d := some 192) (h := ?_)
                      refine Sim.sP (i := 25) (d := some 193) (h := ?_)
                      refine Sim.sP (i := 26) (d := some 194) (h := ?_)
                      refine Sim.done (by kernel_rfl) (fun w1 hO hX => ?_) _
                      (try simp only [World.size_alloc1, World.size_drew, Nat.reduceAdd] at hO); (try simp only [upd, updI, List.map_cons, List.map_nil, eq_self, if_true, if_false, reduceIte, Nat.add_eq_left, Nat.left_eq_add, Nat.reduceEqDiff, List.set_cons_zero, List.set_cons_succ] at hO)
                      have hF := hO; (try simp only [Own, Item.Holds, apartI, CellsAt, Nat.reduceAdd, Nat.zero_add, List.mem_cons, List.not_mem_nil, or_false, forall_eq_or_imp, forall_eq, ne_eq, false_imp_iff, implies_true, and_true] at hF)
                      go_wp2_with fail
                      go_roundw
                      case rel => exact ⟨i + 1, by omega, rfl, rfl, by go_num, hO⟩
                      case measure => simp [intOf]; omega
          | some out =>
            as_aux_lemma =>
              have HE := hid (show rzL f bs gs = out ∧ rzB f bs gs = true by unfold rzL rzB; rw [HZ.out, hro]; exact ⟨rfl, rfl⟩)
              have HRO := hid hro
              have HOL := hid (show out.length = k by rw [(rz_at hro).1, HSL.out])
              clear hro
              go_wp2_with fail
              go_loopw [9, 16] (fun uo t wr => ∃ (m : Nat) (ch : List (Value × List Pt)), m ≤ k ∧ t = .int .i64 m ∧ Hid (chOk out As m ch) ∧ Own w.heap.size (Below w.heap.size w) wr (.row 23 1 uo ch.length (vsO ch) :: .row 49 1 (.slice (some ⟨qa, 0, none⟩) k ca) k rvs :: .row 110 1 (.slice (some ⟨qg, 0, none⟩) k cg2) k gvs :: (itG Gs ++ itA As))) (fun _ t _ => k - (intOf t).toNat)
              case atStart => exact ⟨0, [], by omega, rfl, ⟨rfl, fun i c h => by simp at h, fun i h => by omega⟩, hO⟩
              case round =>
                clear hO
                obtain ⟨m, ch, hm, rfl, hch, hO⟩ := hrel
                have hF := True.intro
                by_cases he : m = k
                · subst he
                  have HLS := hid (hch.out.full HOL.out)
                  go_wp2_with fail
                  go_ret2
                  rw [HE.out.1, HE.out.2]
                  exact ⟨_, ch, rfl, HLS.out, Own.sub (.cons_cons _ (.cons _ (.cons _ ((way_sub hch.out.2.1).trans (List.sublist_append_right _ _))))) hO⟩
                · have hmk : m < k := by omega
                  have hmk2 : (m : Int) < (k : Int) := by omega
                  have hm0 : (0 : Int) ≤ (m : Int) := by omega
                  obtain ⟨⟨va, es⟩, hAm⟩ : ∃ p, As[m]? = some p := ⟨_, List.getElem?_eq_getElem (by have := HA.out.1; omega)⟩
                  have hSm := HA.out.2 m _ hAm
                  dsimp only at hSm
                  obtain ⟨⟨gv, gk⟩, hGm⟩ : ∃ p, Gs[m]? = some p := ⟨_, List.getElem?_eq_getElem (by have := hG.out.2.1; omega)⟩
                  have hgk : gk = (lsO es).map (gdB (SS.drop (m + 1))) := by
                    obtain ⟨S, h1, h2, h3⟩ := hG.out.2.2 m _ hGm
                    rw [hSm] at h1
                    cases h1
                    exact h3 (by omega)
                  obtain ⟨s, hs⟩ : ∃ s, es.length = s := ⟨_, rfl⟩
                  have hgl : gk.length = s := by rw [hgk, List.length_map, List.length_map, hs]
                  have hel := (HS4.out m _ hSm).1
                  rw [show (lsO es).length = es.length from List.length_map .., hs] at hel
                  have HS := hid (And.intro hSm hs)
                  have HAM := hid hAm
                  have HVM := hid (HRV.out m _ hAm)
                  have HGV := hid (show gvs[m]? = some gv by rw [← hG.out.1, List.getElem?_map, hGm]; rfl)
                  have HAR := hid (itA_row hAm)
                  have HGR := hid (itG_row hGm)
                  have HGK := hid hgk
                  dsimp only at HAR HGR HVM
                  rw [hs] at HAR
                  rw [hgl] at HGR
                  obtain ⟨Av, cv, hvf⟩ : ∃ A c, va = .slice A s c := (SlAt.of_row (hO.holds _ (memW HAR.out))).form
                  subst hvf
                  obtain ⟨so, hso⟩ : ∃ s, out[m]? = some s := ⟨_, List.getElem?_eq_getElem (by have := HOL.out; omega)⟩
                  have HFI := hid (show (lsO es).find? (pkP (SS.drop (m + 1)) (if m = 0 then none else out[m - 1]?)) = some so by
                    obtain ⟨T, h1, h2⟩ := rz_first HRO.out hso
                    rw [hSm] at h1
                    cases h1
                    exact h2)
                  have HSO := hid hso
                  obtain ⟨pv, hpv⟩ : ∃ p, (if m = 0 then none else out[m - 1]?) = p := ⟨_, rfl⟩
                  rw [hpv] at HFI
                  have HPV := hid hpv
                  have hcl8 : ch.length ≤ 8 := by have := hch.out.1; omega
                  clear hAm hSm hGm hgk hs hso hpv he
                  have a0 := hO.mem_cell (i := m) (List.mem_cons_of_mem _ List.mem_cons_self) HVM.out
                  go_wp2_with fail
                  go_loopw [9, 17, 18] (fun uo ub t ws => ∃ (i : Nat) (fb : Bool) (ch' : List (Value × List Pt)), i ≤ s ∧ ub = .bool fb ∧ t = .int .i64 i ∧ Hid ((fb = false ∧ ch' = ch ∧ noI (pkP (SS.drop (m + 1)) pv) es i) ∨ (fb = true ∧ ∃ c, ch' = ch ++ [c] ∧ c ∈ es ∧ c.2 = so)) ∧ Own w.heap.size (Below w.heap.size w) ws (.row 23 1 uo ch'.length (vsO ch') :: .row 49 1 (.slice (some ⟨qa, 0, none⟩) k ca) k rvs :: .row 110 1 (.slice (some ⟨qg, 0, none⟩) k cg2) k gvs :: (itG Gs ++ itA As))) (fun _ _ t _ => s - (intOf t).toNat)
                  case atStart => exact ⟨0, false, ch, by omega, rfl, rfl, Or.inl ⟨rfl, rfl, fun i' c h => by omega⟩, hO⟩
                  case round =>
                    clear hO a0
                    obtain ⟨i, fb, ch', hi, rfl, rfl, hfb, hO⟩ := hrel
                    have hF := True.intro
                    have a0 := hO.mem_cell (i := m) (List.mem_cons_of_mem _ List.mem_cons_self) HVM.out
                    cases fb
                    · obtain ⟨hce, hno⟩ : ch = ch' ∧ noI (pkP (SS.drop (m + 1)) pv) es i := by
                        rcases hfb.out with ⟨_, h1, h2⟩ | ⟨h, _⟩
                        · exact ⟨h1.symm, h2⟩
                        · cases h
                      subst hce
                      have HNO := hid hno
                      by_cases he : i = s
                      · subst he
                        have := noI_all (es := es) (by rw [HS.out.2]; exact hno)
                        rw [HFI.out] at this
                        cases this
                      · as_aux_lemma =>
                          have hil : i < s := by omega
                          have hil2 : (i : Int) < (s : Int) := by omega
                          have hi0 : (0 : Int) ≤ (i : Int) := by omega
                          obtain ⟨qv, cv', hv1, _, _⟩ := hO.mem_open (memW HAR.out) (by omega)
                          cases hv1
                          obtain ⟨qb, cb', hgv1, _, _⟩ := hO.mem_open (memV HGR.out) (by omega)
                          subst hgv1
                          obtain ⟨⟨c1, l⟩, hc1⟩ : ∃ c, es[i]? = some c := ⟨_, List.getElem?_eq_getElem (by have := HS.out.2; omega)⟩
                          have HC1 := hid (itA_chord HAM.out hc1)
                          dsimp only at HC1
                          have hl4 : l.length = 4 := (HS4.out m _ HS.out.1).2 l (List.mem_map_of_mem (List.mem_of_getElem? hc1))
                          rw [hl4] at HC1
                          obtain ⟨A1, k1, hc1f⟩ := (SlAt.of_row (hO.holds _ (memW HC1.out))).form
                          subst hc1f
                          obtain ⟨g, hg⟩ : ∃ g, gdB (SS.drop (m + 1)) l = g := ⟨_, rfl⟩
                          have HE1 := hid (show (vsO es)[i]? = some (.slice A1 4 k1) by rw [List.getElem?_map, hc1]; rfl)
                          have HE3 := hid (show (gk.map Value.bool)[i]? = some (.bool g) by rw [HGK.out, List.getElem?_map, List.getElem?_map, List.getElem?_map, hc1]; show some (Value.bool (gdB _ l)) = _; rw [hg])
                          have HCE := hid (And.intro hc1 (And.intro hl4 hg))
                          have HHIT := hid (fun (h : pkP (SS.drop (m + 1)) pv l = true) => show l = so from by
                            have := noI_hit (c := (.slice A1 4 k1, l)) HNO.out HCE.out.1 h
                            rw [HFI.out] at this
                            exact (Option.some.inj this).symm)
                          have HMISS := hid (fun (h : pkP (SS.drop (m + 1)) pv l = false) => noI_up (c := (.slice A1 4 k1, l)) HNO.out HCE.out.1 h)
                          have HPK := hid (show pkP (SS.drop (m + 1)) pv l = (g && wyB pv l) by unfold pkP; rw [hg])
                          clear he hc1 hl4 hg hno
                          cases g
                          · have HN := hid (HMISS.out (by rw [HPK.out]; rfl))
                            go_wp2_with fail
                            clear a0
                            apply own_code hO
                            (repeat (first | (with_reducible exact hO) | (with_reducible apply Own.alloc) | (with_reducible apply Own.drew) | ((with_reducible apply Own.set_at); (focus (show _ ≤ _; omega)))))
                            have hG := hF; clear hF; clear hO; intro hO
                            (try simp only [World.size_alloc1, World.size_drew, Nat.reduceAdd] at hO); (try simp only [upd, updI, List.map_cons, List.map_nil, eq_self, if_true, if_false, reduceIte, Nat.add_eq_left, Nat.left_eq_add, Nat.reduceEqDiff, List.set_cons_zero, List.set_cons_succ, hG] at hO); clear hG
                            refine region_own (X := fun _ => True) [] (by kernel_rfl) (hO) (trivial) (by first | exact XStab.true | exact XStab.rd | exact XStab.rdIf) ?_
                            clear hO
                            refine Sim.sP (i := 0) (d := some 168) (h := ?_)
                            refine Sim.sP (i := 1) (d := some 169) (h := ?_)
                            refine Sim.sP (i := 2) (d := some 170) (h := ?_)
                            refine Sim.sO (i := 3) (d := some 171) (v := ?_) (hy := ?_) (h := ?_)
                            rotate_left
                            · first | refine Or.inl ⟨by rfl, fun w hO => ?_⟩ | (refine Or.inr ⟨by rfl, ?_⟩; with_reducible rfl)
                              first | done | (skip; ((have a0 := hO.mem_cell (i := m) (List.mem_cons_of_mem _ List.mem_cons_self) HVM.out; have b0 := hO.mem_cell (i := m) (List.mem_cons_of_mem _ (List.mem_cons_of_mem _ List.mem_cons_self)) HGV.out; have c0 := hO.mem_cell (i := i) (memW HAR.out) HE1.out; have d0 := hO.mem_cell (i := i) (memV HGR.out) HE3.out)); refine Out.same ?_; go_simp; all_goals with_reducible rfl)
                            refine Sim.sP (i := 4) (d := some 172) (h := ?_)
                            refine Sim.sP (i := 5) (d := some 173) (h := ?_)
                            refine Sim.sO (i := 6) (d := some 174) (v := ?_) (hy := ?_) (h := ?_)
                            rotate_left
                            · first | refine Or.inl ⟨by rfl, fun w hO => ?_⟩ | (refine Or.inr ⟨by rfl, ?_⟩; with_reducible rfl)
                              first | done | (skip; ((have a0 := hO.mem_cell (i := m) (List.mem_cons_of_mem _ List.mem_cons_self) HVM.out; have b0 := hO.mem_cell (i := m) (List.mem_cons_of_mem _ (List.mem_cons_of_mem _ List.mem_cons_self)) HGV.out; have c0 := hO.mem_cell (i := i) (memW HAR.out) HE1.out; have d0 := hO.mem_cell (i := i) (memV HGR.out) HE3.out)); refine Out.same ?_; go_simp; all_goals with_reducible rfl)
                            refine Sim.sP (i := 7) (d := some 175) (h := ?_)
                            refine Sim.sP (i := 8) (d := some 176) (h := ?_)
                            refine Sim.sP (i := 9) (d := some 177) (h := ?_)
                            refine Sim.sP (i := 10) (d := some 178) (h := ?_)
                            refine Sim.sP (i := 11) (d := some 179) (h := ?_)
                            refine Sim.sP (i := 12) (d := some 180) (h := ?_)
                            refine Sim.sP (i := 13) (d := some 181) (h := ?_)
                            refine Sim.sP (i := 14) (d := some 182) (h := ?_)
                            refine Sim.sP (i := 15) (d := some 183) (h := ?_)
                            refine Sim.sP (i := 16) (d := some 184) (h := ?_)
                            refine Sim.sP (i := 17) (d := some 185) (h := ?_)
                            refine Sim.sP (i := 18) (d := some 186) (h := ?_)
                            refine Sim.sP (i := 19) (d := some 187) (h := ?_)
                            refine Sim.sP (i := 20) (d := some 188) (h := ?_)
                            refine Sim.sP (i := 21) (d := some 189) (h := ?_)
                            refine Sim.sP (i := 22) (d := some 190) (h := ?_)
                            refine Sim.sP (i := 23) (d := some 191) (h := ?_)
                            refine Sim.sP (i := 24) (d := some 192) (h := ?_)
                            refine Sim.sP (i := 25) (d := some 193) (h := ?_)
                            refine Sim.sP (i := 26) (d := some 194) (h := ?_)
                            refine Sim.done (by kernel_rfl) (fun w1 hO hX => ?_) _
                            (try simp only [World.size_alloc1, World.size_drew, Nat.reduceAdd] at hO); (try simp only [upd, updI, List.map_cons, List.map_nil, eq_self, if_true, if_false, reduceIte, Nat.add_eq_left, Nat.left_eq_add, Nat.reduceEqDiff, List.set_cons_zero, List.set_cons_succ] at hO)
                            have hF := hO; (try simp only [Own, Item.Holds, apartI, CellsAt, Nat.reduceAdd, Nat.zero_add, List.mem_cons, List.not_mem_nil, or_false, forall_eq_or_imp, forall_eq, ne_eq, false_imp_iff, implies_true, and_true] at hF)
                            go_wp2_with fail
                            go_roundw
                            case rel => exact ⟨i + 1, false, ch, by omega, rfl, by go_num, Or.inl ⟨rfl, rfl, HN.out⟩, hO⟩
                            case measure => simp [intOf]; omega
                          · by_cases hm1 : m = 0
                            · have HN := hid (HHIT.out (by rw [HPK.out, ← HPV.out, if_pos hm1]; rfl))
                              have hmb : ((m : Int) == 0) = true := by simp [hm1]
                              clear hm1
                              go_wp2_with fail
                              clear a0
                              apply own_code hO
                              (repeat (first | (with_reducible exact hO) | (with_reducible apply Own.alloc) | (with_reducible apply Own.drew) | ((with_reducible apply Own.set_at); (focus (show _ ≤ _; omega)))))
                              have hG := hF; clear hF; clear hO; intro hO
                              (try simp only [World.size_alloc1, World.size_drew, Nat.reduceAdd] at hO); (try simp only [upd, updI, List.map_cons, List.map_nil, eq_self, if_true, if_false, reduceIte, Nat.add_eq_left, Nat.left_eq_add, Nat.reduceEqDiff, List.set_cons_zero, List.set_cons_succ, hG] at hO); clear hG
                              refine region_own (X := fun _ => True) [] (by kernel_rfl) (hO) (trivial) (by first | exact XStab.true | exact XStab.rd | exact XStab.rdIf) ?_
                              clear hO
                              refine Sim.sP (i := 0) (d := some 168) (h := ?_)
                              refine Sim.sP (i := 1) (d := some 169) (h := ?_)
                              refine Sim.sP (i := 2) (d := some 170) (h := ?_)
                              refine Sim.sO (i := 3) (d := some 171) (v := ?_) (hy := ?_) (h := ?_)
                              rotate_left
                              · first | refine Or.inl ⟨by rfl, fun w hO => ?_⟩ | (refine Or.inr ⟨by rfl, ?_⟩; with_reducible rfl)
                                first | done | (skip; ((have a0 := hO.mem_cell (i := m) (List.mem_cons_of_mem _ List.mem_cons_self) HVM.out; have b0 := hO.mem_cell (i := m) (List.mem_cons_of_mem _ (List.mem_cons_of_mem _ List.mem_cons_self)) HGV.out; have c0 := hO.mem_cell (i := i) (memW HAR.out) HE1.out; have d0 := hO.mem_cell (i := i) (memV HGR.out) HE3.out)); refine Out.same ?_; go_simp; all_goals with_reducible rfl)
                              refine Sim.sP (i := 4) (d := some 172) (h := ?_)
                              refine Sim.sP (i := 5) (d := some 173) (h := ?_)
                              refine Sim.sO (i := 6) (d := some 174) (v := ?_) (hy := ?_) (h := ?_)
                              rotate_left
                              · first | refine Or.inl ⟨by rfl, fun w hO => ?_⟩ | (refine Or.inr ⟨by rfl, ?_⟩; with_reducible rfl)
                                first | done | (skip; ((have a0 := hO.mem_cell (i := m) (List.mem_cons_of_mem _ List.mem_cons_self) HVM.out; have b0 := hO.mem_cell (i := m) (List.mem_cons_of_mem _ (List.mem_cons_of_mem _ List.mem_cons_self)) HGV.out; have c0 := hO.mem_cell (i := i) (memW HAR.out) HE1.out; have d0 := hO.mem_cell (i := i) (memV HGR.out) HE3.out)); refine Out.same ?_; go_simp; all_goals with_reducible rfl)
                              refine Sim.sP (i := 7) (d := some 175) (h := ?_)
                              refine Sim.sP (i := 8) (d := some 176) (h := ?_)
                              refine Sim.sP (i := 9) (d := some 177) (h := ?_)
                              refine Sim.sP (i := 10) (d := some 178) (h := ?_)
                              refine Sim.sP (i := 11) (d := some 179) (h := ?_)
                              refine Sim.sP (i := 12) (d := some 180) (h := ?_)
                              refine Sim.sP (i := 13) (d := some 181) (h := ?_)
                              refine Sim.sP (i := 14) (d := some 182) (h := ?_)
                              refine Sim.sP (i := 15) (d := some 183) (h := ?_)
                              refine Sim.sP (i := 16) (d := some 184) (h := ?_)
                              refine Sim.sP (i := 17) (d := some 185) (h := ?_)
                              refine Sim.sP (i := 18) (d := some 186) (h := ?_)
                              refine Sim.sP (i := 19) (d := some 187) (h := ?_)
                              refine Sim.sP (i := 20) (d := some 188) (h := ?_)
                              refine Sim.sP (i := 21) (d := some 189) (h := ?_)
                              refine Sim.sP (i := 22) (d := some 190) (h := ?_)
                              refine Sim.sP (i := 23) (d := some 191) (h := ?_)
                              refine Sim.sP (i := 24) (d := some 192) (h := ?_)
                              refine Sim.sP (i := 25) (d := some 193) (h := ?_)
                              refine Sim.sP (i := 26) (d := some 194) (h := ?_)
                              refine Sim.done (by kernel_rfl) (fun w1 hO hX => ?_) _
                              (try simp only [World.size_alloc1, World.size_drew, Nat.reduceAdd] at hO); (try simp only [upd, updI, List.map_cons, List.map_nil, eq_self, if_true, if_false, reduceIte, Nat.add_eq_left, Nat.left_eq_add, Nat.reduceEqDiff, List.set_cons_zero, List.set_cons_succ] at hO)
                              have hF := hO; (try simp only [Own, Item.Holds, apartI, CellsAt, Nat.reduceAdd, Nat.zero_add, List.mem_cons, List.not_mem_nil, or_false, forall_eq_or_imp, forall_eq, ne_eq, false_imp_iff, implies_true, and_true] at hF)
                              have a0 := hO.mem_cell (i := m) (List.mem_cons_of_mem _ List.mem_cons_self) HVM.out
                              have c0 := hO.mem_cell (i := i) (memW HAR.out) HE1.out
                              go_wp2_with (at_builtin; apply own_list hO; (repeat (first | (with_reducible exact hO) | (with_reducible apply Own.alloc) | (with_reducible apply Own.drew) | ((with_reducible apply Own.set_at); (focus (show _ ≤ _; omega))))); have hG := hF; clear hF; clear hO; intro hO; (try simp only [World.size_alloc1, World.size_drew, Nat.reduceAdd] at hO); (try simp only [upd, updI, List.map_cons, List.map_nil, eq_self, if_true, if_false, reduceIte, Nat.add_eq_left, Nat.left_eq_add, Nat.reduceEqDiff, List.set_cons_zero, List.set_cons_succ, hG] at hO); clear hG; (try simp only [World.size_setCell] at hO); have hF := hO; (try simp only [Own, Item.Holds, apartI, CellsAt, Nat.reduceAdd, Nat.zero_add, List.mem_cons, List.not_mem_nil, or_false, forall_eq_or_imp, forall_eq, ne_eq, false_imp_iff, implies_true, and_true] at hF); replace hO := hO; refine wpList_append_item rfl _ _ 49 rfl 23 is (.slice none 0 0) 1 24 Tryd.underlying49 hs0 hs1 hs2 hs3 rfl (by decide) rfl rfl hO rfl one1k (by unfold maxLen; omega) (by omega) ?_; clear hO hF; intro v' w2 hO _; have hF := True.intro)
                              go_roundw
                              case rel => exact ⟨i + 1, true, ch ++ [(.slice A1 4 k1, l)], by omega, rfl, by go_num, Or.inr ⟨rfl, _, rfl, List.mem_of_getElem? HCE.out.1, HN.out⟩, by rw [List.length_append, vsO_snoc]; exact hO⟩
                              case measure => simp [intOf]; omega
                            · have hmb : ((m : Int) == 0) = false := by simp [hm1]
                              have hmb2 : ¬ (m : Int) = 0 := by omega
                              have wm : IntKind.i64.wrap ((m : Int) - 1) = (m : Int) - 1 := IntWalk.i64_in _ (by omega)
                              have hm2 : (0 : Int) ≤ (m : Int) - 1 := by omega
                              have hm3 : (m : Int) - 1 < (ch.length : Int) := by have := hch.out.1; omega
                              have hm4 : ((m : Int) - 1).toNat = m - 1 := by omega
                              have hm5 : (1 : Int) ≤ (m : Int) := by omega
                              have hm6 : (m : Int) - 1 < (m : Int) := by omega
                              obtain ⟨qo, co, huo, _, _⟩ := hO.row_open (by have := hch.out.1; omega)
                              subst huo
                              obtain ⟨⟨c0, l0⟩, hc0⟩ : ∃ c, ch[m - 1]? = some c := ⟨_, List.getElem?_eq_getElem (by have := hch.out.1; omega)⟩
                              obtain ⟨p0, hp0, hm0c⟩ := hch.out.2.1 (m - 1) _ hc0
                              have HC0 := hid (itA_mem hp0 hm0c)
                              dsimp only at HC0
                              have hl04 : l0.length = 4 := (HS4.out (m - 1) _ (HA.out.2 (m - 1) _ hp0)).2 l0 (List.mem_map_of_mem hm0c)
                              rw [hl04] at HC0
                              obtain ⟨A0, k0, hc0f⟩ := (SlAt.of_row (hO.holds _ (memW HC0.out))).form
                              subst hc0f
                              have HE5 := hid (show (vsO ch)[m - 1]? = some (.slice A0 4 k0) by rw [List.getElem?_map, hc0]; rfl)
                              obtain ⟨z, hz⟩ : ∃ z, mvZ l0 l = z := ⟨_, rfl⟩
                              have HWY := hid (show wyB pv l = decide (z = 0) from by
                                have h1 := hch.out.2.2 (m - 1) (by omega)
                                rw [hc0] at h1
                                rw [← HPV.out, if_neg hm1, ← h1]
                                show decide (mvZ l0 l = 0) = _
                                rw [hz])
                              have HMV := hid (fun W (ha : SlAt W (.slice A0 4 k0) 4 3 (pcC l0)) (hb : SlAt W (.slice A1 4 k1) 4 3 (pcC l)) => mvS_is hMv hl04 HCE.out.2.1 (by omega) (by omega) hz ha hb W (Below.refl _ _))
                              clear hz hc0 hp0 hm0c hl04 hm1
                              by_cases hz0 : z = 0
                              · subst hz0
                                have HN := hid (HHIT.out (by rw [HPK.out, HWY.out]; rfl))
                                go_wp2_with fail
                                clear a0
                                apply own_code hO
                                (repeat (first | (with_reducible exact hO) | (with_reducible apply Own.alloc) | (with_reducible apply Own.drew) | ((with_reducible apply Own.set_at); (focus (show _ ≤ _; omega)))))
                                have hG := hF; clear hF; clear hO; intro hO
                                (try simp only [World.size_alloc1, World.size_drew, Nat.reduceAdd] at hO); (try simp only [upd, updI, List.map_cons, List.map_nil, eq_self, if_true, if_false, reduceIte, Nat.add_eq_left, Nat.left_eq_add, Nat.reduceEqDiff, List.set_cons_zero, List.set_cons_succ, hG] at hO); clear hG
                                refine region_own (X := fun _ => True) [] (by kernel_rfl) (hO) (trivial) (by first | exact XStab.true | exact XStab.rd | exact XStab.rdIf) ?_
                                clear hO
                                refine Sim.sP (i := 0) (d := some 168) (h := ?_)
                                refine Sim.sP (i := 1) (d := some 169) (h := ?_)
                                refine Sim.sP (i := 2) (d := some 170) (h := ?_)
                                refine Sim.sO (i := 3) (d := some 171) (v := ?_) (hy := ?_) (h := ?_)
                                rotate_left
                                · first | refine Or.inl ⟨by rfl, fun w hO => ?_⟩ | (refine Or.inr ⟨by rfl, ?_⟩; with_reducible rfl)
                                  first | done | (skip; ((have a0 := hO.mem_cell (i := m) (List.mem_cons_of_mem _ List.mem_cons_self) HVM.out; have b0 := hO.mem_cell (i := m) (List.mem_cons_of_mem _ (List.mem_cons_of_mem _ List.mem_cons_self)) HGV.out; have c0 := hO.mem_cell (i := i) (memW HAR.out) HE1.out; have d0 := hO.mem_cell (i := i) (memV HGR.out) HE3.out; have f0 := hO.mem_cell (i := m - 1) List.mem_cons_self HE5.out)); refine Out.same ?_; go_simp; all_goals with_reducible rfl)
                                refine Sim.sP (i := 4) (d := some 172) (h := ?_)
                                refine Sim.sP (i := 5) (d := some 173) (h := ?_)
                                refine Sim.sO (i := 6) (d := some 174) (v := ?_) (hy := ?_) (h := ?_)
                                rotate_left
                                · first | refine Or.inl ⟨by rfl, fun w hO => ?_⟩ | (refine Or.inr ⟨by rfl, ?_⟩; with_reducible rfl)
                                  first | done | (skip; ((have a0 := hO.mem_cell (i := m) (List.mem_cons_of_mem _ List.mem_cons_self) HVM.out; have b0 := hO.mem_cell (i := m) (List.mem_cons_of_mem _ (List.mem_cons_of_mem _ List.mem_cons_self)) HGV.out; have c0 := hO.mem_cell (i := i) (memW HAR.out) HE1.out; have d0 := hO.mem_cell (i := i) (memV HGR.out) HE3.out; have f0 := hO.mem_cell (i := m - 1) List.mem_cons_self HE5.out)); refine Out.same ?_; go_simp; all_goals with_reducible rfl)
                                refine Sim.sP (i := 7) (d := some 175) (h := ?_)
                                refine Sim.sP (i := 8) (d := some 176) (h := ?_)
                                refine Sim.sP (i := 9) (d := some 177) (h := ?_)
                                refine Sim.sP (i := 10) (d := some 178) (h := ?_)
                                refine Sim.sP (i := 11) (d := some 179) (h := ?_)
                                refine Sim.sP (i := 12) (d := some 180) (h := ?_)
                                refine Sim.sP (i := 13) (d := some 181) (h := ?_)
                                refine Sim.sP (i := 14) (d := some 182) (h := ?_)
                                refine Sim.sO (i := 15) (d := some 183) (v := ?_) (hy := ?_) (h := ?_)
                                rotate_left
                                · first | refine Or.inl ⟨by rfl, fun w hO => ?_⟩ | (refine Or.inr ⟨by rfl, ?_⟩; with_reducible rfl)
                                  first | done | (skip; ((have a0 := hO.mem_cell (i := m) (List.mem_cons_of_mem _ List.mem_cons_self) HVM.out; have b0 := hO.mem_cell (i := m) (List.mem_cons_of_mem _ (List.mem_cons_of_mem _ List.mem_cons_self)) HGV.out; have c0 := hO.mem_cell (i := i) (memW HAR.out) HE1.out; have d0 := hO.mem_cell (i := i) (memV HGR.out) HE3.out; have f0 := hO.mem_cell (i := m - 1) List.mem_cons_self HE5.out)); refine Out.same ?_; go_simp; all_goals with_reducible rfl)
                                refine Sim.sP (i := 16) (d := some 184) (h := ?_)
                                refine Sim.sP (i := 17) (d := some 185) (h := ?_)
                                refine Sim.sP (i := 18) (d := some 186) (h := ?_)
                                refine Sim.sO (i := 19) (d := some 187) (v := ?_) (hy := ?_) (h := ?_)
                                rotate_left
                                · first | refine Or.inl ⟨by rfl, fun w hO => ?_⟩ | (refine Or.inr ⟨by rfl, ?_⟩; with_reducible rfl)
                                  first | done | (skip; ((have a0 := hO.mem_cell (i := m) (List.mem_cons_of_mem _ List.mem_cons_self) HVM.out; have b0 := hO.mem_cell (i := m) (List.mem_cons_of_mem _ (List.mem_cons_of_mem _ List.mem_cons_self)) HGV.out; have c0 := hO.mem_cell (i := i) (memW HAR.out) HE1.out; have d0 := hO.mem_cell (i := i) (memV HGR.out) HE3.out; have f0 := hO.mem_cell (i := m - 1) List.mem_cons_self HE5.out)); refine Out.same ?_; go_simp; all_goals with_reducible rfl)
                                refine Sim.sP (i := 20) (d := some 188) (h := ?_)
                                refine Sim.sP (i := 21) (d := some 189) (h := ?_)
                                refine Sim.sO (i := 22) (d := some 190) (v := ?_) (hy := ?_) (h := ?_)
                                rotate_left
                                · first | refine Or.inl ⟨by rfl, fun w hO => ?_⟩ | (refine Or.inr ⟨by rfl, ?_⟩; with_reducible rfl)
                                  first | done | (skip; ((have a0 := hO.mem_cell (i := m) (List.mem_cons_of_mem _ List.mem_cons_self) HVM.out; have b0 := hO.mem_cell (i := m) (List.mem_cons_of_mem _ (List.mem_cons_of_mem _ List.mem_cons_self)) HGV.out; have c0 := hO.mem_cell (i := i) (memW HAR.out) HE1.out; have d0 := hO.mem_cell (i := i) (memV HGR.out) HE3.out; have f0 := hO.mem_cell (i := m - 1) List.mem_cons_self HE5.out)); refine Out.same ?_; go_simp; all_goals with_reducible rfl)
                                refine Sim.sO (i := 23) (d := some 191) (v := ?_) (hy := ?_) (h := ?_)
                                rotate_left
                                · first | refine Or.inl ⟨by rfl, fun w hO => ?_⟩ | (refine Or.inr ⟨by rfl, ?_⟩; with_reducible rfl)
                                  first | done | (refine Out.call (f := 71) (args := ?_) ?_ ?_; rotate_left; (focus (go_simp; all_goals with_reducible rfl)); exact HMV.out _ (SlAt.of_row (hO.holds _ (memW HC0.out))) (SlAt.of_row (hO.holds _ (memW HC1.out))))
                                refine Sim.sP (i := 24) (d := some 192) (h := ?_)
                                refine Sim.sP (i := 25) (d := some 193) (h := ?_)
                                refine Sim.sP (i := 26) (d := some 194) (h := ?_)
                                refine Sim.done (by kernel_rfl) (fun w1 hO hX => ?_) _
                                (try simp only [World.size_alloc1, World.size_drew, Nat.reduceAdd] at hO); (try simp only [upd, updI, List.map_cons, List.map_nil, eq_self, if_true, if_false, reduceIte, Nat.add_eq_left, Nat.left_eq_add, Nat.reduceEqDiff, List.set_cons_zero, List.set_cons_succ] at hO)
                                have hF := hO; (try simp only [Own, Item.Holds, apartI, CellsAt, Nat.reduceAdd, Nat.zero_add, List.mem_cons, List.not_mem_nil, or_false, forall_eq_or_imp, forall_eq, ne_eq, false_imp_iff, implies_true, and_true] at hF)
                                have a0 := hO.mem_cell (i := m) (List.mem_cons_of_mem _ List.mem_cons_self) HVM.out
                                have c0 := hO.mem_cell (i := i) (memW HAR.out) HE1.out
                                go_wp2_with (at_builtin; apply own_list hO; (repeat (first | (with_reducible exact hO) | (with_reducible apply Own.alloc) | (with_reducible apply Own.drew) | ((with_reducible apply Own.set_at); (focus (show _ ≤ _; omega))))); have hG := hF; clear hF; clear hO; intro hO; (try simp only [World.size_alloc1, World.size_drew, Nat.reduceAdd] at hO); (try simp only [upd, updI, List.map_cons, List.map_nil, eq_self, if_true, if_false, reduceIte, Nat.add_eq_left, Nat.left_eq_add, Nat.reduceEqDiff, List.set_cons_zero, List.set_cons_succ, hG] at hO); clear hG; (try simp only [World.size_setCell] at hO); have hF := hO; (try simp only [Own, Item.Holds, apartI, CellsAt, Nat.reduceAdd, Nat.zero_add, List.mem_cons, List.not_mem_nil, or_false, forall_eq_or_imp, forall_eq, ne_eq, false_imp_iff, implies_true, and_true] at hF); replace hO := hO; refine wpList_append_item rfl _ _ 49 rfl 23 is (.slice none 0 0) 1 24 Tryd.underlying49 hs0 hs1 hs2 hs3 rfl (by decide) rfl rfl hO rfl one1k (by unfold maxLen; omega) (by omega) ?_; clear hO hF; intro v' w2 hO _; have hF := True.intro)
                                go_roundw
                                case rel => exact ⟨i + 1, true, ch ++ [(.slice A1 4 k1, l)], by omega, rfl, by go_num, Or.inr ⟨rfl, _, rfl, List.mem_of_getElem? HCE.out.1, HN.out⟩, by rw [List.length_append, vsO_snoc]; exact hO⟩
                                case measure => simp [intOf]; omega
                              · have hz1 : (z == 0) = false := by simp [hz0]
                                have HN := hid (HMISS.out (by rw [HPK.out, HWY.out, decide_eq_false hz0]; rfl))
                                go_wp2_with fail
                                clear a0
                                apply own_code hO
                                (repeat (first | (with_reducible exact hO) | (with_reducible apply Own.alloc) | (with_reducible apply Own.drew) | ((with_reducible apply Own.set_at); (focus (show _ ≤ _; omega)))))
                                have hG := hF; clear hF; clear hO; intro hO
                                (try simp only [World.size_alloc1, World.size_drew, Nat.reduceAdd] at hO); (try simp only [upd, updI, List.map_cons, List.map_nil, eq_self, if_true, if_false, reduceIte, Nat.add_eq_left, Nat.left_eq_add, Nat.reduceEqDiff, List.set_cons_zero, List.set_cons_succ, hG] at hO); clear hG
                                refine region_own (X := fun _ => True) [] (by kernel_rfl) (hO) (trivial) (by first | exact XStab.true | exact XStab.rd | exact XStab.rdIf) ?_
                                clear hO
                                refine Sim.sP (i := 0) (d := some 168) (h := ?_)
                                refine Sim.sP (i := 1) (d := some 169) (h := ?_)
                                refine Sim.sP (i := 2) (d := some 170) (h := ?_)
                                refine Sim.sO (i := 3) (d := some 171) (v := ?_) (hy := ?_) (h := ?_)
                                rotate_left
                                · first | refine Or.inl ⟨by rfl, fun w hO => ?_⟩ | (refine Or.inr ⟨by rfl, ?_⟩; with_reducible rfl)
                                  first | done | (skip; ((have a0 := hO.mem_cell (i := m) (List.mem_cons_of_mem _ List.mem_cons_self) HVM.out; have b0 := hO.mem_cell (i := m) (List.mem_cons_of_mem _ (List.mem_cons_of_mem _ List.mem_cons_self)) HGV.out; have c0 := hO.mem_cell (i := i) (memW HAR.out) HE1.out; have d0 := hO.mem_cell (i := i) (memV HGR.out) HE3.out; have f0 := hO.mem_cell (i := m - 1) List.mem_cons_self HE5.out)); refine Out.same ?_; go_simp; all_goals with_reducible rfl)
                                refine Sim.sP (i := 4) (d := some 172) (h := ?_)
                                refine Sim.sP (i := 5) (d := some 173) (h := ?_)
                                refine Sim.sO (i := 6) (d := some 174) (v := ?_) (hy := ?_) (h := ?_)
                                rotate_left
                                · first | refine Or.inl ⟨by rfl, fun w hO => ?_⟩ | (refine Or.inr ⟨by rfl, ?_⟩; with_reducible rfl)
                                  first | done | (skip; ((have a0 := hO.mem_cell (i := m) (List.mem_cons_of_mem _ List.mem_cons_self) HVM.out; have b0 := hO.mem_cell (i := m) (List.mem_cons_of_mem _ (List.mem_cons_of_mem _ List.mem_cons_self)) HGV.out; have c0 := hO.mem_cell (i := i) (memW HAR.out) HE1.out; have d0 := hO.mem_cell (i := i) (memV HGR.out) HE3.out; have f0 := hO.mem_cell (i := m - 1) List.mem_cons_self HE5.out)); refine Out.same ?_; go_simp; all_goals with_reducible rfl)
                                refine Sim.sP (i := 7) (d := some 175) (h := ?_)
                                refine Sim.sP (i := 8) (d := some 176) (h := ?_)
                                refine Sim.sP (i := 9) (d := some 177) (h := ?_)
                                refine Sim.sP (i := 10) (d := some 178) (h := ?_)
                                refine Sim.sP (i := 11) (d := some 179) (h := ?_)
                                refine Sim.sP (i := 12) (d := some 180) (h := ?_)
                                refine Sim.sP (i := 13) (d := some 181) (h := ?_)
                                refine Sim.sP (i := 14) (d := some 182) (h := ?_)
                                refine Sim.sO (i := 15) (d := some 183) (v := ?_) (hy := ?_) (h := ?_)
                                rotate_left
                                · first | refine Or.inl ⟨by rfl, fun w hO => ?_⟩ | (refine Or.inr ⟨by rfl, ?_⟩; with_reducible rfl)
                                  first | done | (skip; ((have a0 := hO.mem_cell (i := m) (List.mem_cons_of_mem _ List.mem_cons_self) HVM.out; have b0 := hO.mem_cell (i := m) (List.mem_cons_of_mem _ (List.mem_cons_of_mem _ List.mem_cons_self)) HGV.out; have c0 := hO.mem_cell (i := i) (memW HAR.out) HE1.out; have d0 := hO.mem_cell (i := i) (memV HGR.out) HE3.out; have f0 := hO.mem_cell (i := m - 1) List.mem_cons_self HE5.out)); refine Out.same ?_; go_simp; all_goals with_reducible rfl)
                                refine Sim.sP (i := 16) (d := some 184) (h := ?_)
                                refine Sim.sP (i := 17) (d := some 185) (h := ?_)
                                refine Sim.sP (i := 18) (d := some 186) (h := ?_)
                                refine Sim.sO (i := 19) (d := some 187) (v := ?_) (hy := ?_) (h := ?_)
                                rotate_left
                                · first | refine Or.inl ⟨by rfl, fun w hO => ?_⟩ | (refine Or.inr ⟨by rfl, ?_⟩; with_reducible rfl)
                                  first | done | (skip; ((have a0 := hO.mem_cell (i := m) (List.mem_cons_of_mem _ List.mem_cons_self) HVM.out; have b0 := hO.mem_cell (i := m) (List.mem_cons_of_mem _ (List.mem_cons_of_mem _ List.mem_cons_self)) HGV.out; have c0 := hO.mem_cell (i := i) (memW HAR.out) HE1.out; have d0 := hO.mem_cell (i := i) (memV HGR.out) HE3.out; have f0 := hO.mem_cell (i := m - 1) List.mem_cons_self HE5.out)); refine Out.same ?_; go_simp; all_goals with_reducible rfl)
                                refine Sim.sP (i := 20) (d := some 188) (h := ?_)
                                refine Sim.sP (i := 21) (d := some 189) (h := ?_)
                                refine Sim.sO (i := 22) (d := some 190) (v := ?_) (hy := ?_) (h := ?_)
                                rotate_left
                                · first | refine Or.inl ⟨by rfl, fun w hO => ?_⟩ | (refine Or.inr ⟨by rfl, ?_⟩; with_reducible rfl)
                                  first | done | (skip; ((have a0 := hO.mem_cell (i := m) (List.mem_cons_of_mem _ List.mem_cons_self) HVM.out; have b0 := hO.mem_cell (i := m) (List.mem_cons_of_mem _ (List.mem_cons_of_mem _ List.mem_cons_self)) HGV.out; have c0 := hO.mem_cell (i := i) (memW HAR.out) HE1.out; have d0 := hO.mem_cell (i := i) (memV HGR.out) HE3.out; have f0 := hO.mem_cell (i := m - 1) List.mem_cons_self HE5.out)); refine Out.same ?_; go_simp; all_goals with_reducible rfl)
                                refine Sim.sO (i := 23) (d := some 191) (v := ?_) (hy := ?_) (h := ?_)
                                rotate_left
                                · first | refine Or.inl ⟨by rfl, fun w hO => ?_⟩ | (refine Or.inr ⟨by rfl, ?_⟩; with_reducible rfl)
                                  first | done | (refine Out.call (f := 71) (args := ?_) ?_ ?_; rotate_left; (focus (go_simp; all_goals with_reducible rfl)); exact HMV.out _ (SlAt.of_row (hO.holds _ (memW HC0.out))) (SlAt.of_row (hO.holds _ (memW HC1.out))))
                                refine Sim.sP (i := 24) (d := some 192) (h := ?_)
                                refine Sim.sP (i := 25) (d := some 193) (h := ?_)
                                refine Sim.sP (i := 26) (d := some 194) (h := ?_)
                                refine Sim.done (by kernel_rfl) (fun w1 hO hX => ?_) _
                                (try simp only [World.size_alloc1, World.size_drew, Nat.reduceAdd] at hO); (try simp only [upd, updI, List.map_cons, List.map_nil, eq_self, if_true, if_false, reduceIte, Nat.add_eq_left, Nat.left_eq_add, Nat.reduceEqDiff, List.set_cons_zero, List.set_cons_succ] at hO)
                                have hF := hO; (try simp only [Own, Item.Holds, apartI, CellsAt, Nat.reduceAdd, Nat.zero_add, List.mem_cons, List.not_mem_nil, or_false, forall_eq_or_imp, forall_eq, ne_eq, false_imp_iff, implies_true, and_true] at hF)
                                go_wp2_with fail
                                go_roundw
                                case rel => exact ⟨i + 1, false, ch, by omega, rfl, by go_num, Or.inl ⟨rfl, rfl, HN.out⟩, hO⟩
                                case measure => simp [intOf]; omega
                    · obtain ⟨c, rfl, hc, hcs⟩ : ∃ c, ch' = ch ++ [c] ∧ c ∈ es ∧ c.2 = so := by
                        rcases hfb.out with ⟨h, _⟩ | ⟨_, h⟩
                        · cases h
                        · exact h
                      have HN := hid (hch.out.more HAM.out hc (by rw [HSO.out, hcs]))
                      clear hc hcs
                      have wm : IntKind.i64.wrap ((m : Int) + 1) = (m : Int) + 1 := IntWalk.i64_in _ (by omega)
                      by_cases hjs : (i : Int) < (s : Int)
                      · go_wp2_with fail
                        go_roundw
                        case rel => exact ⟨m + 1, ch ++ [c], by omega, by go_num, HN.out, hO⟩
                        case measure => simp [intOf]; omega
                      · go_wp2_with fail
                        go_roundw
                        case rel => exact ⟨m + 1, ch ++ [c], by omega, by go_num, HN.out, hO⟩
                        case measure => simp [intOf]; omega
        | succ q =>
          as_aux_lemma =>
            rw [show ((q + 1 : Nat) : Int) - 1 = (q : Int) by omega]
            have q0 : (0 : Int) ≤ (q : Int) := by omega
            have q1 : (q : Int) < (k : Int) := by omega
            obtain ⟨⟨va, es⟩, hAq⟩ : ∃ p, As[q]? = some p := ⟨_, List.getElem?_eq_getElem (by have := HA.out.1; omega)⟩
            have hSq := HA.out.2 q _ hAq
            dsimp only at hSq
            obtain ⟨⟨gv, gk0⟩, hGq⟩ : ∃ p, Gs[q]? = some p := ⟨_, List.getElem?_eq_getElem (by have := hG.out.2.1; omega)⟩
            obtain ⟨U, V, rfl, hU⟩ := split_G hGq
            have hgl0 : gk0.length = es.length := by
              obtain ⟨S, h1, h2, _⟩ := hG.out.2.2 q _ hGq
              rw [hSq] at h1
              cases h1
              simpa using h2
            have hel := (HS4.out q _ hSq).1
            rw [show (lsO es).length = es.length from List.length_map ..] at hel
            obtain ⟨s, hs⟩ : ∃ s, es.length = s := ⟨_, rfl⟩
            have HSQ := hid (And.intro hSq hs)
            have HAQ := hid hAq
            have HVQ := hid (HRV.out q _ hAq)
            have HGV := hid (show gvs[q]? = some gv by rw [← hG.out.1, List.getElem?_map, hGq]; rfl)
            rw [hs] at hgl0 hel
            have HU := hid hU
            obtain ⟨Av, cv, hvf⟩ : ∃ A c, va = .slice A s c := by
              have := (SlAt.of_row (hO.holds _ (memA2 (itA_row hAq)))).form
              dsimp only at this
              rwa [hs] at this
            subst hvf
            have HAR := hid (itA_row hAq)
            dsimp only at HAR
            rw [hs] at HAR
            have a0 := hO.mem_cell (i := q) List.mem_cons_self HVQ.out
            clear hSq hs hU hAq hGq
            go_wp2_with fail
            go_loopw [14] (fun t ws => ∃ (i : Nat) (gk : List Bool), i ≤ s ∧ t = .int .i64 i ∧ Hid (gk.length = s ∧ ∀ i', i' < i → gk[i']? = ((lsO es)[i']?).map (gdB (SS.drop (q + 1)))) ∧
              Own w.heap.size (Below w.heap.size w) ws (.row 49 1 (.slice (some ⟨qa, 0, none⟩) k ca) k rvs :: .row 110 1 (.slice (some ⟨qg, 0, none⟩) k cg2) k gvs :: (itG (U ++ (gv, gk) :: V) ++ (itA As ++ R)))) (fun t _ => s - (intOf t).toNat)
            case atStart => exact ⟨0, gk0, by omega, rfl, ⟨hgl0, fun i' h => by omega⟩, hO⟩
            case round =>
              clear hO a0
              obtain ⟨i, gk, hi, rfl, hgk, hO⟩ := hrel
              have a0 := hO.mem_cell (i := q) List.mem_cons_self HVQ.out
              have hF := True.intro
              by_cases he : i = s
              · subst he
                have HNX := hid (hG.out.step (g2 := gk) HU.out HSQ.out.1 (by
                  refine List.ext_getElem? fun i' => ?_
                  rw [List.getElem?_map]
                  rcases Nat.lt_or_ge i' i with h | h
                  · exact hgk.out.2 i' h
                  · rw [List.getElem?_eq_none (by rw [hgk.out.1]; omega), List.getElem?_eq_none (by rw [List.length_map]; have := HSQ.out.2; omega)]; rfl))
                have wq : IntKind.i64.wrap ((q : Int) - 1) = (q : Int) - 1 := IntWalk.i64_in _ (by omega)
                go_wp2_with fail
                go_roundw
                case rel => exact ⟨q, _, by omega, by go_num, HNX.out, hO⟩
                case measure => simp [intOf]
              · as_aux_lemma =>
                  have hil : i < s := by omega
                  have hil2 : (i : Int) < (s : Int) := by omega
                  have hi0 : (0 : Int) ≤ (i : Int) := by omega
                  obtain ⟨qv, cv', hv1, _, _⟩ := hO.mem_open (memA2 HAR.out) (by omega)
                  cases hv1
                  obtain ⟨⟨c1, l⟩, hc1⟩ : ∃ c, es[i]? = some c := ⟨_, List.getElem?_eq_getElem (by have := HSQ.out.2; omega)⟩
                  obtain ⟨qb, cb', hgv1, _, _⟩ := hO.mem_open (memG2 (itG_row (k := q) (p := (gv, gk)) (by rw [List.getElem?_append_right (by have := HU.out; omega), HU.out, Nat.sub_self]; rfl))) (by dsimp only; have := hgk.out.1; omega)
                  dsimp only at hgv1
                  have hgkl := hgk.out.1
                  rw [hgkl] at hgv1
                  subst hgv1
                  have hO1 := itG_head hO
                  dsimp only at hO1
                  rw [hgkl] at hO1
                  obtain ⟨old, hold⟩ : ∃ b, gk[i]? = some b := ⟨_, List.getElem?_eq_getElem (by omega)⟩
                  have e1 := hO1.row_cell (i := i) (u := .bool old) (by rw [List.getElem?_map, hold]; rfl)
                  have f1 := hO1.row_free i
                  have b0 := hO1.mem_cell (i := q) (List.mem_cons_of_mem _ (List.mem_cons_of_mem _ List.mem_cons_self)) HGV.out
                  by_cases hqk : q + 1 = k
                  · have hqb : ((q : Int) == (k : Int) - 1) = true := by simp; omega
                    have hqe : (q : Int) = (k : Int) - 1 := by omega
                    have HQE := hid hqe
                    have hq3 : ¬ (q : Int) < (k : Int) - 1 := by omega
                    have HSU := hid (set_upto (b := true) (F := fun i' => ((lsO es)[i']?).map (gdB (SS.drop (q + 1)))) hgk.out hil (by
                      rw [List.getElem?_map, hc1, List.drop_of_length_le (by rw [HSL.out]; omega)]; rfl))
                    clear hqe he hc1 hold hqk hgkl
                    go_wp2_with fail
                    clear hO
                    have hO := itG_back (p := (.slice (some ⟨qb, 0, none⟩) s cb', gk.set i true)) (by
                      dsimp only
                      rw [List.length_set, ← bool_set]
                      rw [hgk.out.1]
                      exact hO1.row_set i (.bool true))
                    clear hO1
                    go_loopw [15] (fun t ws => t = .int .i64 0 ∧ Own w.heap.size (Below w.heap.size w) ws (.row 49 1 (.slice (some ⟨qa, 0, none⟩) k ca) k rvs :: .row 110 1 (.slice (some ⟨qg, 0, none⟩) k cg2) k gvs :: (itG (U ++ (.slice (some ⟨qb, 0, none⟩) s cb', gk.set i true) :: V) ++ (itA As ++ R)))) (fun _ _ => 0)
                    case atStart => exact ⟨rfl, hO⟩
                    case round =>
                      clear hO
                      obtain ⟨rfl, hO⟩ := hrel
                      go_wp2_with fail
                      go_roundw
                      case rel => exact ⟨i + 1, gk.set i true, by omega, by go_num, HSU.out, hO⟩
                      case measure => simp [intOf]; omega
                  · as_aux_lemma =>
                      have hqb : ((q : Int) == (k : Int) - 1) = false := by simp; omega
                      have hqb2 : ¬ (q : Int) = (k : Int) - 1 := by omega
                      have hq3 : (q : Int) < (k : Int) - 1 := by omega
                      have hq4 : (q : Int) + 1 < (k : Int) := by omega
                      have hq5 : (0 : Int) ≤ (q : Int) + 1 := by omega
                      have wq : IntKind.i64.wrap ((q : Int) + 1) = (q : Int) + 1 := IntWalk.i64_in _ (by omega)
                      obtain ⟨⟨va', es'⟩, hA1⟩ : ∃ p, As[q + 1]? = some p := ⟨_, List.getElem?_eq_getElem (by have := HA.out.1; omega)⟩
                      have hS1 := HA.out.2 (q + 1) _ hA1
                      dsimp only at hS1
                      have hVne : 0 < V.length := by
                        have h1 := hG.out.2.1
                        rw [List.length_append, List.length_cons, HU.out] at h1
                        omega
                      obtain ⟨⟨gv', gd'⟩, V', rfl⟩ : ∃ p V', V = p :: V' := by
                        cases V with
                        | nil => simp at hVne
                        | cons p V' => exact ⟨p, V', rfl⟩
                      have hGq1 : (U ++ (.slice (some ⟨qb, 0, none⟩) s cb', gk0) :: (gv', gd') :: V')[q + 1]? = some (gv', gd') := by
                        rw [List.getElem?_append_right (by have := HU.out; omega), HU.out, show q + 1 - q = 1 by omega]; rfl
                      have hgdd : gd' = (lsO es').map (gdB (SS.drop (q + 1 + 1))) ∧ gd'.length = es'.length := by
                        obtain ⟨S, h1, h2, h3⟩ := hG.out.2.2 (q + 1) _ hGq1
                        rw [hS1] at h1
                        cases h1
                        exact ⟨h3 (by omega), by simpa using h2⟩
                      obtain ⟨s', hs'⟩ : ∃ s', es'.length = s' := ⟨_, rfl⟩
                      have HGD := hid hgdd
                      have HGE := hid (gd_ex (l := l) hS1)
                      have HSE := hid hs'
                      have hel' := (HS4.out (q + 1) _ hS1).1
                      rw [show (lsO es').length = es'.length from List.length_map .., hs'] at hel'
                      have HV1 := hid (HRV.out (q + 1) _ hA1)
                      have HGV1 := hid (show gvs[q + 1]? = some gv' by rw [← hG.out.1, List.getElem?_map, hGq1]; rfl)
                      have HAR1 := hid (itA_row hA1)
                      dsimp only at HAR1 HV1
                      rw [hs'] at HAR1
                      obtain ⟨Av', cv1, hvf'⟩ : ∃ A c, va' = .slice A s' c := (SlAt.of_row (hO.holds _ (memA2 HAR1.out))).form
                      subst hvf'
                      have HC1 := hid (itA_chord HAQ.out hc1)
                      dsimp only at HC1
                      have hl4 : l.length = 4 := (HS4.out q _ HSQ.out.1).2 l (List.mem_map_of_mem (List.mem_of_getElem? hc1))
                      rw [hl4] at HC1
                      obtain ⟨A1, k1, hc1f⟩ := (SlAt.of_row (hO.holds _ (memA2 HC1.out))).form
                      subst hc1f
                      have HCE := hid (And.intro hc1 hl4)
                      have HSU := hid (fun b (hb : b = true ↔ gdB (SS.drop (q + 1)) l = true) => set_upto (b := b) (F := fun i' => ((lsO es)[i']?).map (gdB (SS.drop (q + 1)))) hgk.out hil (by
                        rw [List.getElem?_map, hc1]
                        show some (gdB (SS.drop (q + 1)) l) = some b
                        rw [Bool.eq_iff_iff.2 hb]))
                      have HAQ1 := hid hA1
                      have a1 := hO.mem_cell (i := q + 1) List.mem_cons_self HV1.out
                      clear he hc1 hold hqk hgkl hl4 hA1 hS1 hVne hGq1 hgdd hs'
                      go_wp2_with fail
                      clear hO a1
                      have hO := itG_back (p := (.slice (some ⟨qb, 0, none⟩) s cb', gk.set i false)) (by
                        dsimp only
                        rw [List.length_set, ← bool_set]
                        rw [hgk.out.1]
                        exact hO1.row_set i (.bool false))
                      clear hO1
                      go_loopw [15] (fun t ws => ∃ (j : Nat) (b : Bool), j ≤ s' ∧ t = .int .i64 j ∧ Hid (b = true ↔ exJ (SS.drop (q + 1 + 1)) l es' j) ∧ Own w.heap.size (Below w.heap.size w) ws (.row 49 1 (.slice (some ⟨qa, 0, none⟩) k ca) k rvs :: .row 110 1 (.slice (some ⟨qg, 0, none⟩) k cg2) k gvs :: (itG (U ++ (.slice (some ⟨qb, 0, none⟩) s cb', gk.set i b) :: (gv', gd') :: V') ++ (itA As ++ R)))) (fun t _ => s' - (intOf t).toNat)
                      case atStart => exact ⟨0, false, by omega, rfl, Iff.intro (fun h => by cases h) (fun ⟨_, _, h, _⟩ => by omega), hO⟩
                      case round =>
                        clear hO a0 e1 f1 b0
                        obtain ⟨j, b, hj, rfl, hb, hO⟩ := hrel
                        have a0 := hO.mem_cell (i := q) List.mem_cons_self HVQ.out
                        have a1 := hO.mem_cell (i := q + 1) List.mem_cons_self HV1.out
                        have b0 := hO.mem_cell (i := q) (List.mem_cons_of_mem _ List.mem_cons_self) HGV.out
                        have b1 := hO.mem_cell (i := q + 1) (List.mem_cons_of_mem _ List.mem_cons_self) HGV1.out
                        have hO1 := itG_head hO
                        dsimp only at hO1
                        rw [show (gk.set i b).length = s by rw [List.length_set]; exact hgk.out.1] at hO1
                        have e1 := hO1.row_cell (i := i) (u := .bool b) (by rw [List.getElem?_map, List.getElem?_set_self (by have := hgk.out.1; omega)]; rfl)
                        have f1 := hO1.row_free i
                        cases b
                        · by_cases hjs : j = s'
                          · subst hjs
                            have HN := hid (HSU.out false ⟨fun h => (by cases h), fun h => (by
                              obtain ⟨j', c, h1, h2⟩ := HGE.out.1 h
                              exact (hb.out.2 ⟨j', c, by have := (List.getElem?_eq_some_iff.1 h1).1; have := HSE.out; omega, h1, h2⟩))⟩)
                            go_wp2_with fail
                            go_roundw
                            case rel => exact ⟨i + 1, gk.set i false, by omega, by go_num, HN.out, hO⟩
                            case measure => simp [intOf]; omega
                          · have hjl : j < s' := by omega
                            have hjl2 : (j : Int) < (s' : Int) := by omega
                            have hj0 : (0 : Int) ≤ (j : Int) := by omega
                            obtain ⟨qv', cv1', hv1', _, _⟩ := hO.mem_open (memA2 HAR1.out) (by omega)
                            cases hv1'
                            obtain ⟨⟨c2, l2⟩, hc2⟩ : ∃ c, es'[j]? = some c := ⟨_, List.getElem?_eq_getElem (by have := HSE.out; omega)⟩
                            have HC2 := hid (itA_chord HAQ1.out hc2)
                            dsimp only at HC2
                            have hl24 : l2.length = 4 := (HS4.out (q + 1) _ (HA.out.2 (q + 1) _ HAQ1.out)).2 l2 (List.mem_map_of_mem (List.mem_of_getElem? hc2))
                            rw [hl24] at HC2
                            obtain ⟨A2, k2, hc2f⟩ := (SlAt.of_row (hO.holds _ (memA2 HC2.out))).form
                            subst hc2f
                            obtain ⟨g', hg'⟩ : ∃ g, gdB (SS.drop (q + 1 + 1)) l2 = g := ⟨_, rfl⟩
                            have HGR := hid (itG_row (k := q + 1) (p := (gv', gd')) (Gs := U ++ (.slice (some ⟨qb, 0, none⟩) s cb', gk0) :: (gv', gd') :: V') (by
                              rw [List.getElem?_append_right (by have := HU.out; omega), HU.out, show q + 1 - q = 1 by omega]; rfl))
                            have HGR1 := hid (show Item.row 4 1 gv' s' (gd'.map Value.bool) ∈ itG (U ++ (gv', gd') :: V') from by
                              have := itG_row (k := q) (p := (gv', gd')) (Gs := U ++ (gv', gd') :: V') (by rw [List.getElem?_append_right (by have := HU.out; omega), HU.out, Nat.sub_self]; rfl)
                              dsimp only at this
                              rwa [HGD.out.2, HSE.out] at this)
                            obtain ⟨qb', cb2, hgv', _, _⟩ := hO1.mem_open (memG3 HGR1.out) (by omega)
                            subst hgv'
                            have HE1 := hid (show (vsO es)[i]? = some (.slice A1 4 k1) by rw [List.getElem?_map, HCE.out.1]; rfl)
                            have HE2 := hid (show (vsO es')[j]? = some (.slice A2 4 k2) by rw [List.getElem?_map, hc2]; rfl)
                            have HE3 := hid (show (gd'.map Value.bool)[j]? = some (.bool g') by rw [HGD.out.1, List.getElem?_map, List.getElem?_map, List.getElem?_map, hc2]; show some (Value.bool (gdB _ l2)) = _; rw [hg'])
                            have HE4 := hid (show ((gk.set i false).map Value.bool)[i]? = some (.bool false) by rw [List.getElem?_map, List.getElem?_set_self (by have := hgk.out.1; omega)]; rfl)
                            have HEX := hid (fun W (hO : Own w.heap.size (Below w.heap.size w) W (.row 4 1 (.slice (some ⟨qb, 0, none⟩) s cb') s ((gk.set i false).map Value.bool) :: .row 49 1 (.slice (some ⟨qa, 0, none⟩) k ca) k rvs :: .row 110 1 (.slice (some ⟨qg, 0, none⟩) k cg2) k gvs :: (itG (U ++ (.slice (some ⟨qb', 0, none⟩) s' cb2, gd') :: V') ++ (itA As ++ R)))) => And.intro (hO.mem_cell (i := q) (List.mem_cons_of_mem _ List.mem_cons_self) HVQ.out) (And.intro (hO.mem_cell (i := q + 1) (List.mem_cons_of_mem _ List.mem_cons_self) HV1.out) (And.intro (hO.mem_cell (i := q) (List.mem_cons_of_mem _ (List.mem_cons_of_mem _ List.mem_cons_self)) HGV.out) (And.intro (hO.mem_cell (i := q + 1) (List.mem_cons_of_mem _ (List.mem_cons_of_mem _ List.mem_cons_self)) HGV1.out) (And.intro (hO.mem_cell (i := i) (memA3 HAR.out) HE1.out) (And.intro (hO.mem_cell (i := j) (memA3 HAR1.out) HE2.out) (And.intro (hO.mem_cell (i := j) (memG3 HGR1.out) HE3.out) (And.intro (hO.row_cell HE4.out) (hO.row_free i)))))))))
                            have hnx : ¬ exJ (SS.drop (q + 1 + 1)) l es' j := fun h => by have := hb.out.2 h; cases this
                            have HXJ := hid (exJ_up hc2 hnx)
                            dsimp only at HXJ
                            rw [hg'] at HXJ
                            have HCE2 := hid (And.intro hc2 hl24)
                            clear hc2 hl24 hg' hnx hO HGR
                            have hO := hO1
                            clear hO1
                            cases g'
                            · have HN := hid (show false = true ↔ exJ (SS.drop (q + 1 + 1)) l es' (j + 1) from ⟨fun h => (by cases h), fun h => (by have := (HXJ.out.1 h).1; cases this)⟩)
                              go_wp2_with fail
                              clear a0 a1 b0 b1 e1 f1
                              apply own_code hO
                              (repeat (first | (with_reducible exact hO) | (with_reducible apply Own.alloc) | (with_reducible apply Own.drew) | ((with_reducible apply Own.set_at); (focus (show _ ≤ _; omega)))))
                              have hG := hF; clear hF; clear hO; intro hO
                              (try simp only [World.size_alloc1, World.size_drew, Nat.reduceAdd] at hO); (try simp only [upd, updI, List.map_cons, List.map_nil, eq_self, if_true, if_false, reduceIte, Nat.add_eq_left, Nat.left_eq_add, Nat.reduceEqDiff, List.set_cons_zero, List.set_cons_succ, hG] at hO); clear hG
                              refine region_own (X := fun _ => True) [33] (by kernel_rfl) (hO) (trivial) (by first | exact XStab.true | exact XStab.rd | exact XStab.rdIf) ?_
                              clear hO
                              refine Sim.sP (i := 0) (d := some 117) (h := ?_)
                              refine Sim.sP (i := 1) (d := some 118) (h := ?_)
                              refine Sim.sP (i := 2) (d := some 119) (h := ?_)
                              refine Sim.sO (i := 3) (d := some 120) (v := ?_) (hy := ?_) (h := ?_)
                              rotate_left
                              · first | refine Or.inl ⟨by rfl, fun w hO => ?_⟩ | (refine Or.inr ⟨by rfl, ?_⟩; with_reducible rfl)
                                first | done | (skip; ((have ⟨a0, a1, b0, b1, c0, c1, d0, e1, f1⟩ := HEX.out _ hO)); refine Out.same ?_; go_simp; all_goals with_reducible rfl)
                              refine Sim.sP (i := 4) (d := some 121) (h := ?_)
                              refine Sim.sP (i := 5) (d := some 122) (h := ?_)
                              refine Sim.sP (i := 6) (d := some 123) (h := ?_)
                              refine Sim.sP (i := 7) (d := some 124) (h := ?_)
                              refine Sim.sP (i := 8) (d := some 125) (h := ?_)
                              refine Sim.sO (i := 9) (d := some 126) (v := ?_) (hy := ?_) (h := ?_)
                              rotate_left
                              · first | refine Or.inl ⟨by rfl, fun w hO => ?_⟩ | (refine Or.inr ⟨by rfl, ?_⟩; with_reducible rfl)
                                first | done | (skip; ((have ⟨a0, a1, b0, b1, c0, c1, d0, e1, f1⟩ := HEX.out _ hO)); refine Out.same ?_; go_simp; all_goals with_reducible rfl)
                              refine Sim.sP (i := 10) (d := some 127) (h := ?_)
                              refine Sim.sP (i := 11) (d := some 128) (h := ?_)
                              refine Sim.sO (i := 12) (d := some 129) (v := ?_) (hy := ?_) (h := ?_)
                              rotate_left
                              · first | refine Or.inl ⟨by rfl, fun w hO => ?_⟩ | (refine Or.inr ⟨by rfl, ?_⟩; with_reducible rfl)
                                first | done | (skip; ((have ⟨a0, a1, b0, b1, c0, c1, d0, e1, f1⟩ := HEX.out _ hO)); refine Out.same ?_; go_simp; all_goals with_reducible rfl)
                              refine Sim.sP (i := 13) (d := some 130) (h := ?_)
                              refine Sim.sP (i := 14) (d := some 131) (h := ?_)
                              refine Sim.sP (i := 15) (d := some 132) (h := ?_)
                              refine Sim.sP (i := 16) (d := some 133) (h := ?_)
                              refine Sim.sP (i := 17) (d := some 134) (h := ?_)
                              refine Sim.sP (i := 18) (d := some 135) (h := ?_)
                              refine Sim.sP (i := 19) (d := some 136) (h := ?_)
                              refine Sim.sP (i := 20) (d := some 137) (h := ?_)
                              refine Sim.sP (i := 21) (d := some 138) (h := ?_)
                              refine Sim.sP (i := 22) (d := some 139) (h := ?_)
                              refine Sim.sP (i := 23) (d := some 140) (h := ?_)
                              refine Sim.sP (i := 24) (d := some 141) (h := ?_)
                              refine Sim.sP (i := 25) (d := some 142) (h := ?_)
                              refine Sim.sP (i := 26) (d := some 143) (h := ?_)
                              refine Sim.sP (i := 27) (d := some 144) (h := ?_)
                              refine Sim.sP (i := 28) (d := some 145) (h := ?_)
                              refine Sim.sP (i := 29) (d := some 146) (h := ?_)
                              refine Sim.sP (i := 30) (d := some 147) (h := ?_)
                              refine Sim.sP (i := 31) (d := some 148) (h := ?_)
                              refine Sim.sP (i := 32) (d := some 149) (h := ?_)
                              refine Sim.one' (i := 33) (oi := { dst := none, op := Op.store 4 (Operand.tmp 149) (Operand.tmp 148), type := 0, pos := "l13_figured_bass.go:88", after := #[{ on := 32, ground := Ground.data }, { on := 31, ground := Ground.data }, { on := 29, ground := Ground.chain }, { on := 0, ground := Ground.phase }, { on := 1, ground := Ground.phase }, { on := 2, ground := Ground.phase }, { on := 3, ground := Ground.phase }, { on := 4, ground := Ground.phase }, { on := 5, ground := Ground.phase }, { on := 6, ground := Ground.phase }, { on := 7, ground := Ground.phase }, { on := 8, ground := Ground.phase }, { on := 9, ground := Ground.phase }, { on := 10, ground := Ground.phase }, { on := 11, ground := Ground.phase }, { on := 12, ground := Ground.phase }, { on := 13, ground := Ground.phase }, { on := 14, ground := Ground.phase }, { on := 15, ground := Ground.phase }, { on := 16, ground := Ground.phase }, { on := 17, ground := Ground.phase }, { on := 18, ground := Ground.phase }, { on := 19, ground := Ground.phase }, { on := 20, ground := Ground.phase }, { on := 21, ground := Ground.phase }, { on := 22, ground := Ground.phase }, { on := 23, ground := Ground.phase }, { on := 24, ground := Ground.phase }, { on := 25, ground := Ground.phase }, { on := 26, ground := Ground.phase }, { on := 27, ground := Ground.phase }, { on := 28, ground := Ground.phase }, { on := 29, ground := Ground.phase }, { on := 30, ground := Ground.phase }, { on := 31, ground := Ground.phase }], guard := none }) (by kernel_rfl) rfl (by rfl) (fun w0 hO hX K hK => ?_)
                              (have hF := hO; (try simp only [Own, Item.Holds, apartI, CellsAt, Nat.reduceAdd, Nat.zero_add, List.mem_cons, List.not_mem_nil, or_false, forall_eq_or_imp, forall_eq, ne_eq, false_imp_iff, implies_true, and_true] at hF); (have ⟨a0, a1, b0, b1, c0, c1, d0, e1, f1⟩ := HEX.out _ hO))
                              go_simp
                              apply hK _ _ _ (fun _ => True)
                              · exact hO.row_set i (.bool false)
                              · exact trivial
                              · exact XStab.true
                              · exact fun h => absurd h (by decide)
                              clear hO hF
                              clear hK K
                              try simp only [Act.put, List.setIfInBounds_toArray, List.set_cons_zero, List.set_cons_succ]
                              refine Sim.done (by kernel_rfl) (fun w1 hO hX => ?_) _
                              (try simp only [World.size_alloc1, World.size_drew, Nat.reduceAdd] at hO); (try simp only [upd, updI, List.map_cons, List.map_nil, eq_self, if_true, if_false, reduceIte, Nat.add_eq_left, Nat.left_eq_add, Nat.reduceEqDiff, List.set_cons_zero, List.set_cons_succ] at hO)
                              have hF := hO; (try simp only [Own, Item.Holds, apartI, CellsAt, Nat.reduceAdd, Nat.zero_add, List.mem_cons, List.not_mem_nil, or_false, forall_eq_or_imp, forall_eq, ne_eq, false_imp_iff, implies_true, and_true] at hF)
                              replace hO := itG_back (p := (.slice (some ⟨qb, 0, none⟩) s cb', gk.set i false)) (by
                                dsimp only
                                rw [List.length_set, ← bool_set]
                                rw [hgk.out.1]
                                rw [← bool_set] at hO
                                simpa using hO)
                              go_wp2_with fail
                              go_roundw
                              case rel => exact ⟨j + 1, false, by omega, by go_num, HN.out, hO⟩
                              case measure => simp [intOf]; omega
                            · obtain ⟨z, hz⟩ : ∃ z, mvZ l l2 = z := ⟨_, rfl⟩
                              have HMV := hid (fun W (ha : SlAt W (.slice A1 4 k1) 4 3 (pcC l)) (hb : SlAt W (.slice A2 4 k2) 4 3 (pcC l2)) => mvS_is hMv HCE.out.2 HCE2.out.2 (by omega) (by omega) hz ha hb W (Below.refl _ _))
                              rw [hz] at HXJ
                              clear hz
                              by_cases hz0 : z = 0
                              · subst hz0
                                have HN := hid (show true = true ↔ exJ (SS.drop (q + 1 + 1)) l es' (j + 1) from ⟨fun _ => HXJ.out.2 ⟨rfl, rfl⟩, fun _ => rfl⟩)
                                go_wp2_with fail
                                clear a0 a1 b0 b1 e1 f1
                                apply own_code hO
                                (repeat (first | (with_reducible exact hO) | (with_reducible apply Own.alloc) | (with_reducible apply Own.drew) | ((with_reducible apply Own.set_at); (focus (show _ ≤ _; omega)))))
                                have hG := hF; clear hF; clear hO; intro hO
                                (try simp only [World.size_alloc1, World.size_drew, Nat.reduceAdd] at hO); (try simp only [upd, updI, List.map_cons, List.map_nil, eq_self, if_true, if_false, reduceIte, Nat.add_eq_left, Nat.left_eq_add, Nat.reduceEqDiff, List.set_cons_zero, List.set_cons_succ, hG] at hO); clear hG
                                refine region_own (X := fun _ => True) [33] (by kernel_rfl) (hO) (trivial) (by first | exact XStab.true | exact XStab.rd | exact XStab.rdIf) ?_
                                clear hO
                                refine Sim.sP (i := 0) (d := some 117) (h := ?_)
                                refine Sim.sP (i := 1) (d := some 118) (h := ?_)
                                refine Sim.sP (i := 2) (d := some 119) (h := ?_)
                                refine Sim.sO (i := 3) (d := some 120) (v := ?_) (hy := ?_) (h := ?_)
                                rotate_left
                                · first | refine Or.inl ⟨by rfl, fun w hO => ?_⟩ | (refine Or.inr ⟨by rfl, ?_⟩; with_reducible rfl)
                                  first | done | (skip; ((have ⟨a0, a1, b0, b1, c0, c1, d0, e1, f1⟩ := HEX.out _ hO)); refine Out.same ?_; go_simp; all_goals with_reducible rfl)
                                refine Sim.sP (i := 4) (d := some 121) (h := ?_)
                                refine Sim.sP (i := 5) (d := some 122) (h := ?_)
                                refine Sim.sP (i := 6) (d := some 123) (h := ?_)
                                refine Sim.sP (i := 7) (d := some 124) (h := ?_)
                                refine Sim.sP (i := 8) (d := some 125) (h := ?_)
                                refine Sim.sO (i := 9) (d := some 126) (v := ?_) (hy := ?_) (h := ?_)
                                rotate_left
                                · first | refine Or.inl ⟨by rfl, fun w hO => ?_⟩ | (refine Or.inr ⟨by rfl, ?_⟩; with_reducible rfl)
                                  first | done | (skip; ((have ⟨a0, a1, b0, b1, c0, c1, d0, e1, f1⟩ := HEX.out _ hO)); refine Out.same ?_; go_simp; all_goals with_reducible rfl)
                                refine Sim.sP (i := 10) (d := some 127) (h := ?_)
                                refine Sim.sP (i := 11) (d := some 128) (h := ?_)
                                refine Sim.sO (i := 12) (d := some 129) (v := ?_) (hy := ?_) (h := ?_)
                                rotate_left
                                · first | refine Or.inl ⟨by rfl, fun w hO => ?_⟩ | (refine Or.inr ⟨by rfl, ?_⟩; with_reducible rfl)
                                  first | done | (skip; ((have ⟨a0, a1, b0, b1, c0, c1, d0, e1, f1⟩ := HEX.out _ hO)); refine Out.same ?_; go_simp; all_goals with_reducible rfl)
                                refine Sim.sP (i := 13) (d := some 130) (h := ?_)
                                refine Sim.sP (i := 14) (d := some 131) (h := ?_)
                                refine Sim.sP (i := 15) (d := some 132) (h := ?_)
                                refine Sim.sP (i := 16) (d := some 133) (h := ?_)
                                refine Sim.sO (i := 17) (d := some 134) (v := ?_) (hy := ?_) (h := ?_)
                                rotate_left
                                · first | refine Or.inl ⟨by rfl, fun w hO => ?_⟩ | (refine Or.inr ⟨by rfl, ?_⟩; with_reducible rfl)
                                  first | done | (skip; ((have ⟨a0, a1, b0, b1, c0, c1, d0, e1, f1⟩ := HEX.out _ hO)); refine Out.same ?_; go_simp; all_goals with_reducible rfl)
                                refine Sim.sP (i := 18) (d := some 135) (h := ?_)
                                refine Sim.sP (i := 19) (d := some 136) (h := ?_)
                                refine Sim.sO (i := 20) (d := some 137) (v := ?_) (hy := ?_) (h := ?_)
                                rotate_left
                                · first | refine Or.inl ⟨by rfl, fun w hO => ?_⟩ | (refine Or.inr ⟨by rfl, ?_⟩; with_reducible rfl)
                                  first | done | (skip; ((have ⟨a0, a1, b0, b1, c0, c1, d0, e1, f1⟩ := HEX.out _ hO)); refine Out.same ?_; go_simp; all_goals with_reducible rfl)
                                refine Sim.sP (i := 21) (d := some 138) (h := ?_)
                                refine Sim.sP (i := 22) (d := some 139) (h := ?_)
                                refine Sim.sP (i := 23) (d := some 140) (h := ?_)
                                refine Sim.sP (i := 24) (d := some 141) (h := ?_)
                                refine Sim.sO (i := 25) (d := some 142) (v := ?_) (hy := ?_) (h := ?_)
                                rotate_left
                                · first | refine Or.inl ⟨by rfl, fun w hO => ?_⟩ | (refine Or.inr ⟨by rfl, ?_⟩; with_reducible rfl)
                                  first | done | (skip; ((have ⟨a0, a1, b0, b1, c0, c1, d0, e1, f1⟩ := HEX.out _ hO)); refine Out.same ?_; go_simp; all_goals with_reducible rfl)
                                refine Sim.sP (i := 26) (d := some 143) (h := ?_)
                                refine Sim.sP (i := 27) (d := some 144) (h := ?_)
                                refine Sim.sO (i := 28) (d := some 145) (v := ?_) (hy := ?_) (h := ?_)
                                rotate_left
                                · first | refine Or.inl ⟨by rfl, fun w hO => ?_⟩ | (refine Or.inr ⟨by rfl, ?_⟩; with_reducible rfl)
                                  first | done | (skip; ((have ⟨a0, a1, b0, b1, c0, c1, d0, e1, f1⟩ := HEX.out _ hO)); refine Out.same ?_; go_simp; all_goals with_reducible rfl)
                                refine Sim.sO (i := 29) (d := some 146) (v := ?_) (hy := ?_) (h := ?_)
                                rotate_left
                                · first | refine Or.inl ⟨by rfl, fun w hO => ?_⟩ | (refine Or.inr ⟨by rfl, ?_⟩; with_reducible rfl)
                                  first | done | (refine Out.call (f := 71) (args := ?_) ?_ ?_; rotate_left; (focus (go_simp; all_goals with_reducible rfl)); exact HMV.out _ (SlAt.of_row (hO.holds _ (memA3 HC1.out))) (SlAt.of_row (hO.holds _ (memA3 HC2.out))))
                                refine Sim.sP (i := 30) (d := some 147) (h := ?_)
                                refine Sim.sP (i := 31) (d := some 148) (h := ?_)
                                refine Sim.sP (i := 32) (d := some 149) (h := ?_)
                                refine Sim.one' (i := 33) (oi := { dst := none, op := Op.store 4 (Operand.tmp 149) (Operand.tmp 148), type := 0, pos := "l13_figured_bass.go:88", after := #[{ on := 32, ground := Ground.data }, { on := 31, ground := Ground.data }, { on := 29, ground := Ground.chain }, { on := 0, ground := Ground.phase }, { on := 1, ground := Ground.phase }, { on := 2, ground := Ground.phase }, { on := 3, ground := Ground.phase }, { on := 4, ground := Ground.phase }, { on := 5, ground := Ground.phase }, { on := 6, ground := Ground.phase }, { on := 7, ground := Ground.phase }, { on := 8, ground := Ground.phase }, { on := 9, ground := Ground.phase }, { on := 10, ground := Ground.phase }, { on := 11, ground := Ground.phase }, { on := 12, ground := Ground.phase }, { on := 13, ground := Ground.phase }, { on := 14, ground := Ground.phase }, { on := 15, ground := Ground.phase }, { on := 16, ground := Ground.phase }, { on := 17, ground := Ground.phase }, { on := 18, ground := Ground.phase }, { on := 19, ground := Ground.phase }, { on := 20, ground := Ground.phase }, { on := 21, ground := Ground.phase }, { on := 22, ground := Ground.phase }, { on := 23, ground := Ground.phase }, { on := 24, ground := Ground.phase }, { on := 25, ground := Ground.phase }, { on := 26, ground := Ground.phase }, { on := 27, ground := Ground.phase }, { on := 28, ground := Ground.phase }, { on := 29, ground := Ground.phase }, { on := 30, ground := Ground.phase }, { on := 31, ground := Ground.phase }], guard := none }) (by kernel_rfl) rfl (by rfl) (fun w0 hO hX K hK => ?_)
                                (have hF := hO; (try simp only [Own, Item.Holds, apartI, CellsAt, Nat.reduceAdd, Nat.zero_add, List.mem_cons, List.not_mem_nil, or_false, forall_eq_or_imp, forall_eq, ne_eq, false_imp_iff, implies_true, and_true] at hF); (have ⟨a0, a1, b0, b1, c0, c1, d0, e1, f1⟩ := HEX.out _ hO))
                                go_simp
                                apply hK _ _ _ (fun _ => True)
                                · exact hO.row_set i (.bool true)
                                · exact trivial
                                · exact XStab.true
                                · exact fun h => absurd h (by decide)
                                clear hO hF
                                clear hK K
                                try simp only [Act.put, List.setIfInBounds_toArray, List.set_cons_zero, List.set_cons_succ]
                                refine Sim.done (by kernel_rfl) (fun w1 hO hX => ?_) _
                                (try simp only [World.size_alloc1, World.size_drew, Nat.reduceAdd] at hO); (try simp only [upd, updI, List.map_cons, List.map_nil, eq_self, if_true, if_false, reduceIte, Nat.add_eq_left, Nat.left_eq_add, Nat.reduceEqDiff, List.set_cons_zero, List.set_cons_succ] at hO)
                                have hF := hO; (try simp only [Own, Item.Holds, apartI, CellsAt, Nat.reduceAdd, Nat.zero_add, List.mem_cons, List.not_mem_nil, or_false, forall_eq_or_imp, forall_eq, ne_eq, false_imp_iff, implies_true, and_true] at hF)
                                replace hO := itG_back (p := (.slice (some ⟨qb, 0, none⟩) s cb', gk.set i true)) (by
                                  dsimp only
                                  rw [List.length_set, ← bool_set]
                                  rw [hgk.out.1]
                                  rw [← bool_set] at hO
                                  simpa using hO)
                                go_wp2_with fail
                                go_roundw
                                case rel => exact ⟨j + 1, true, by omega, by go_num, (show true = true ↔ exJ (SS.drop (q + 1 + 1)) l es' (j + 1) from by have := HN.out; simpa using this), hO⟩
                                case measure => simp [intOf]; omega
                              · have hz1 : (z == 0) = false := by simp [hz0]
                                have HN := hid (show false = true ↔ exJ (SS.drop (q + 1 + 1)) l es' (j + 1) from ⟨fun h => (by cases h), fun h => absurd (HXJ.out.1 h).2 hz0⟩)
                                go_wp2_with fail
                                clear a0 a1 b0 b1 e1 f1
                                apply own_code hO
                                (repeat (first | (with_reducible exact hO) | (with_reducible apply Own.alloc) | (with_reducible apply Own.drew) | ((with_reducible apply Own.set_at); (focus (show _ ≤ _; omega)))))
                                have hG := hF; clear hF; clear hO; intro hO
                                (try simp only [World.size_alloc1, World.size_drew, Nat.reduceAdd] at hO); (try simp only [upd, updI, List.map_cons, List.map_nil, eq_self, if_true, if_false, reduceIte, Nat.add_eq_left, Nat.left_eq_add, Nat.reduceEqDiff, List.set_cons_zero, List.set_cons_succ, hG] at hO); clear hG
                                refine region_own (X := fun _ => True) [33] (by kernel_rfl) (hO) (trivial) (by first | exact XStab.true | exact XStab.rd | exact XStab.rdIf) ?_
                                clear hO
                                refine Sim.sP (i := 0) (d := some 117) (h := ?_)
                                refine Sim.sP (i := 1) (d := some 118) (h := ?_)
                                refine Sim.sP (i := 2) (d := some 119) (h := ?_)
                                refine Sim.sO (i := 3) (d := some 120) (v := ?_) (hy := ?_) (h := ?_)
                                rotate_left
                                · first | refine Or.inl ⟨by rfl, fun w hO => ?_⟩ | (refine Or.inr ⟨by rfl, ?_⟩; with_reducible rfl)
                                  first | done | (skip; ((have ⟨a0, a1, b0, b1, c0, c1, d0, e1, f1⟩ := HEX.out _ hO)); refine Out.same ?_; go_simp; all_goals with_reducible rfl)
                                refine Sim.sP (i := 4) (d := some 121) (h := ?_)
                                refine Sim.sP (i := 5) (d := some 122) (h := ?_)
                                refine Sim.sP (i := 6) (d := some 123) (h := ?_)
                                refine Sim.sP (i := 7) (d := some 124) (h := ?_)
                                refine Sim.sP (i := 8) (d := some 125) (h := ?_)
                                refine Sim.sO (i := 9) (d := some 126) (v := ?_) (hy := ?_) (h := ?_)
                                rotate_left
                                · first | refine Or.inl ⟨by rfl, fun w hO => ?_⟩ | (refine Or.inr ⟨by rfl, ?_⟩; with_reducible rfl)
                                  first | done | (skip; ((have ⟨a0, a1, b0, b1, c0, c1, d0, e1, f1⟩ := HEX.out _ hO)); refine Out.same ?_; go_simp; all_goals with_reducible rfl)
                                refine Sim.sP (i := 10) (d := some 127) (h := ?_)
                                refine Sim.sP (i := 11) (d := some 128) (h := ?_)
                                refine Sim.sO (i := 12) (d := some 129) (v := ?_) (hy := ?_) (h := ?_)
                                rotate_left
                                · first | refine Or.inl ⟨by rfl, fun w hO => ?_⟩ | (refine Or.inr ⟨by rfl, ?_⟩; with_reducible rfl)
                                  first | done | (skip; ((have ⟨a0, a1, b0, b1, c0, c1, d0, e1, f1⟩ := HEX.out _ hO)); refine Out.same ?_; go_simp; all_goals with_reducible rfl)
                                refine Sim.sP (i := 13) (d := some 130) (h := ?_)
                                refine Sim.sP (i := 14) (d := some 131) (h := ?_)
                                refine Sim.sP (i := 15) (d := some 132) (h := ?_)
                                refine Sim.sP (i := 16) (d := some 133) (h := ?_)
                                refine Sim.sO (i := 17) (d := some 134) (v := ?_) (hy := ?_) (h := ?_)
                                rotate_left
                                · first | refine Or.inl ⟨by rfl, fun w hO => ?_⟩ | (refine Or.inr ⟨by rfl, ?_⟩; with_reducible rfl)
                                  first | done | (skip; ((have ⟨a0, a1, b0, b1, c0, c1, d0, e1, f1⟩ := HEX.out _ hO)); refine Out.same ?_; go_simp; all_goals with_reducible rfl)
                                refine Sim.sP (i := 18) (d := some 135) (h := ?_)
                                refine Sim.sP (i := 19) (d := some 136) (h := ?_)
                                refine Sim.sO (i := 20) (d := some 137) (v := ?_) (hy := ?_) (h := ?_)
                                rotate_left
                                · first | refine Or.inl ⟨by rfl, fun w hO => ?_⟩ | (refine Or.inr ⟨by rfl, ?_⟩; with_reducible rfl)
                                  first | done | (skip; ((have ⟨a0, a1, b0, b1, c0, c1, d0, e1, f1⟩ := HEX.out _ hO)); refine Out.same ?_; go_simp; all_goals with_reducible rfl)
                                refine Sim.sP (i := 21) (d := some 138) (h := ?_)
                                refine Sim.sP (i := 22) (d := some 139) (h := ?_)
                                refine Sim.sP (i := 23) (d := some 140) (h := ?_)
                                refine Sim.sP (i := 24) (d := some 141) (h := ?_)
                                refine Sim.sO (i := 25) (d := some 142) (v := ?_) (hy := ?_) (h := ?_)
                                rotate_left
                                · first | refine Or.inl ⟨by rfl, fun w hO => ?_⟩ | (refine Or.inr ⟨by rfl, ?_⟩; with_reducible rfl)
                                  first | done | (skip; ((have ⟨a0, a1, b0, b1, c0, c1, d0, e1, f1⟩ := HEX.out _ hO)); refine Out.same ?_; go_simp; all_goals with_reducible rfl)
                                refine Sim.sP (i := 26) (d := some 143) (h := ?_)
                                refine Sim.sP (i := 27) (d := some 144) (h := ?_)
                                refine Sim.sO (i := 28) (d := some 145) (v := ?_) (hy := ?_) (h := ?_)
                                rotate_left
                                · first | refine Or.inl ⟨by rfl, fun w hO => ?_⟩ | (refine Or.inr ⟨by rfl, ?_⟩; with_reducible rfl)
                                  first | done | (skip; ((have ⟨a0, a1, b0, b1, c0, c1, d0, e1, f1⟩ := HEX.out _ hO)); refine Out.same ?_; go_simp; all_goals with_reducible rfl)
                                refine Sim.sO (i := 29) (d := some 146) (v := ?_) (hy := ?_) (h := ?_)
                                rotate_left
                                · first | refine Or.inl ⟨by rfl, fun w hO => ?_⟩ | (refine Or.inr ⟨by rfl, ?_⟩; with_reducible rfl)
                                  first | done | (refine Out.call (f := 71) (args := ?_) ?_ ?_; rotate_left; (focus (go_simp; all_goals with_reducible rfl)); exact HMV.out _ (SlAt.of_row (hO.holds _ (memA3 HC1.out))) (SlAt.of_row (hO.holds _ (memA3 HC2.out))))
                                refine Sim.sP (i := 30) (d := some 147) (h := ?_)
                                refine Sim.sP (i := 31) (d := some 148) (h := ?_)
                                refine Sim.sP (i := 32) (d := some 149) (h := ?_)
                                refine Sim.one' (i := 33) (oi := { dst := none, op := Op.store 4 (Operand.tmp 149) (Operand.tmp 148), type := 0, pos := "l13_figured_bass.go:88", after := #[{ on := 32, ground := Ground.data }, { on := 31, ground := Ground.data }, { on := 29, ground := Ground.chain }, { on := 0, ground := Ground.phase }, { on := 1, ground := Ground.phase }, { on := 2, ground := Ground.phase }, { on := 3, ground := Ground.phase }, { on := 4, ground := Ground.phase }, { on := 5, ground := Ground.phase }, { on := 6, ground := Ground.phase }, { on := 7, ground := Ground.phase }, { on := 8, ground := Ground.phase }, { on := 9, ground := Ground.phase }, { on := 10, ground := Ground.phase }, { on := 11, ground := Ground.phase }, { on := 12, ground := Ground.phase }, { on := 13, ground := Ground.phase }, { on := 14, ground := Ground.phase }, { on := 15, ground := Ground.phase }, { on := 16, ground := Ground.phase }, { on := 17, ground := Ground.phase }, { on := 18, ground := Ground.phase }, { on := 19, ground := Ground.phase }, { on := 20, ground := Ground.phase }, { on := 21, ground := Ground.phase }, { on := 22, ground := Ground.phase }, { on := 23, ground := Ground.phase }, { on := 24, ground := Ground.phase }, { on := 25, ground := Ground.phase }, { on := 26, ground := Ground.phase }, { on := 27, ground := Ground.phase }, { on := 28, ground := Ground.phase }, { on := 29, ground := Ground.phase }, { on := 30, ground := Ground.phase }, { on := 31, ground := Ground.phase }], guard := none }) (by kernel_rfl) rfl (by rfl) (fun w0 hO hX K hK => ?_)
                                (have hF := hO; (try simp only [Own, Item.Holds, apartI, CellsAt, Nat.reduceAdd, Nat.zero_add, List.mem_cons, List.not_mem_nil, or_false, forall_eq_or_imp, forall_eq, ne_eq, false_imp_iff, implies_true, and_true] at hF); (have ⟨a0, a1, b0, b1, c0, c1, d0, e1, f1⟩ := HEX.out _ hO))
                                go_simp
                                apply hK _ _ _ (fun _ => True)
                                · exact hO.row_set i (.bool false)
                                · exact trivial
                                · exact XStab.true
                                · exact fun h => absurd h (by decide)
                                clear hO hF
                                clear hK K
                                try simp only [Act.put, List.setIfInBounds_toArray, List.set_cons_zero, List.set_cons_succ]
                                refine Sim.done (by kernel_rfl) (fun w1 hO hX => ?_) _
                                (try simp only [World.size_alloc1, World.size_drew, Nat.reduceAdd] at hO); (try simp only [upd, updI, List.map_cons, List.map_nil, eq_self, if_true, if_false, reduceIte, Nat.add_eq_left, Nat.left_eq_add, Nat.reduceEqDiff, List.set_cons_zero, List.set_cons_succ] at hO)
                                have hF := hO; (try simp only [Own, Item.Holds, apartI, CellsAt, Nat.reduceAdd, Nat.zero_add, List.mem_cons, List.not_mem_nil, or_false, forall_eq_or_imp, forall_eq, ne_eq, false_imp_iff, implies_true, and_true] at hF)
                                replace hO := itG_back (p := (.slice (some ⟨qb, 0, none⟩) s cb', gk.set i false)) (by
                                  dsimp only
                                  rw [List.length_set, ← bool_set]
                                  rw [hgk.out.1]
                                  rw [← bool_set] at hO
                                  simpa using hO)
                                go_wp2_with fail
                                go_roundw
                                case rel => exact ⟨j + 1, false, by omega, by go_num, HN.out, hO⟩
                                case measure => simp [intOf]; omega
                        · have HN := hid (HSU.out true ⟨fun _ => HGE.out.2 (by obtain ⟨j', c, _, h⟩ := hb.out.1 rfl; exact ⟨j', c, h⟩), fun _ => rfl⟩)
                          by_cases hjs : (j : Int) < (s' : Int)
                          · go_wp2_with fail
                            go_roundw
                            case rel => exact ⟨i + 1, gk.set i true, by omega, by go_num, HN.out, hO⟩
                            case measure => simp [intOf]; omega
                          · go_wp2_with fail
                            go_roundw
                            case rel => exact ⟨i + 1, gk.set i true, by omega, by go_num, HN.out, hO⟩
                            case measure => simp [intOf]; omega
    · as_aux_lemma =>
        have hkl : k < n := by omega
        have hkl2 : (k : Int) < n := by omega
        have hk0 : (0 : Int) ≤ (k : Int) := by omega
        obtain ⟨x, hx⟩ : ∃ x, bs[k]? = some x := ⟨_, List.getElem?_eq_getElem (by have := HN.out.1; omega)⟩
        obtain ⟨g, hg⟩ : ∃ g, gs[k]? = some g := ⟨_, List.getElem?_eq_getElem (by have := HN.out.2; omega)⟩
        have HX := hid (And.intro hx hg)
        have hsl := skL_len f x g
        obtain ⟨S, hS⟩ : ∃ S, skL f x g = S := ⟨_, rfl⟩
        have HSX := hid ((HSK.out k x g hx hg).trans (by rw [hS]))
        rw [hS] at hsl
        have HST := hid (fun W => show Calls Tryd.prog 85 #[.int .i64 f, .agg #[.int .i64 x.s, .int .i64 x.a, .int .i64 x.o], .int .i64 g] W (StkOut S W) by
          have := skS_any f x g W
          rwa [hS] at this)
        clear he hx hg hS
        go_wp2_with fail
        apply own_code hO
        (repeat (first | (with_reducible exact hO) | (with_reducible apply Own.alloc) | (with_reducible apply Own.drew) | ((with_reducible apply Own.set_at); (focus (show _ ≤ _; omega)))))
        have hG := hF; clear hF; clear hO; intro hO
        (try simp only [World.size_alloc1, World.size_drew, Nat.reduceAdd] at hO); (try simp only [upd, updI, List.map_cons, List.map_nil, eq_self, if_true, if_false, reduceIte, Nat.add_eq_left, Nat.left_eq_add, Nat.reduceEqDiff, List.set_cons_zero, List.set_cons_succ, hG] at hO); clear hG
        refine region_own (X := fun _ => True) [12] (by kernel_rfl) (hO) (trivial) (by first | exact XStab.true | exact XStab.rd | exact XStab.rdIf) ?_
        clear hO
        refine Sim.sP (i := 0) (d := some 44) (h := ?_)
        refine Sim.sP (i := 1) (d := some 45) (h := ?_)
        refine Sim.sP (i := 2) (d := some 46) (h := ?_)
        refine Sim.sP (i := 3) (d := some 47) (h := ?_)
        refine Sim.sP (i := 4) (d := some 48) (h := ?_)
        refine Sim.sD (i := 5) (d := some 49) (v := ?_) (D := [5, 10, 11, 12, 13]) (hy := ?_) (h := ?_)
        rotate_left
        · first | refine Or.inl ⟨by rfl, fun w hO => ?_⟩ | (refine Or.inr ⟨by rfl, ?_⟩; with_reducible rfl)
          first | done | (skip; ((have ⟨x0, x1, x2⟩ := ptAt (HB.out.below hO.base) HX.out.1; have g0 := inAt (HG.out.below hO.base) HX.out.2)); refine Out.same ?_; go_simp; all_goals with_reducible rfl)
        refine Sim.sP (i := 6) (d := some 50) (h := ?_)
        refine Sim.sP (i := 7) (d := some 51) (h := ?_)
        refine Sim.sP (i := 8) (d := some 52) (h := ?_)
        refine Sim.sD (i := 9) (d := some 53) (v := ?_) (D := [9, 10, 11, 12, 13]) (hy := ?_) (h := ?_)
        rotate_left
        · first | refine Or.inl ⟨by rfl, fun w hO => ?_⟩ | (refine Or.inr ⟨by rfl, ?_⟩; with_reducible rfl)
          first | done | (skip; ((have ⟨x0, x1, x2⟩ := ptAt (HB.out.below hO.base) HX.out.1; have g0 := inAt (HG.out.below hO.base) HX.out.2)); refine Out.same ?_; go_simp; all_goals with_reducible rfl)
        refine Sim.one' (i := 10) (oi := { dst := some 54, op := Op.call { callee := Callee.value (Operand.func 85), args := #[Operand.tmp 45, Operand.tmp 49, Operand.tmp 53], argTypes := #[3, 29, 3] }, type := 49, pos := "l13_figured_bass.go:81", after := #[{ on := 1, ground := Ground.data }, { on := 5, ground := Ground.data }, { on := 9, ground := Ground.data }], guard := none }) (by kernel_rfl) rfl (by rfl) (fun w0 hO hX K hK => ?_)
        have hF := hO; (try simp only [Own, Item.Holds, apartI, CellsAt, Nat.reduceAdd, Nat.zero_add, List.mem_cons, List.not_mem_nil, or_false, forall_eq_or_imp, forall_eq, ne_eq, false_imp_iff, implies_true, and_true] at hF)
        go_simp
        refine (HST.out _).mono ?_
        rintro e wa ⟨va, es, rfl, hE, ho⟩
        obtain ⟨A7, c7, hv7⟩ := (SlAt.of_row ho.1.1).form
        subst hv7
        apply hK _ _ _ (fun _ => True)
        · exact hO.joinP ho
        · exact trivial
        · exact XStab.true
        · exact fun _ _ h => own_skipL h
        clear ho
        clear hK K hF hO
        try simp only [Act.put, List.setIfInBounds_toArray, List.set_cons_zero, List.set_cons_succ]
        refine Sim.one' (i := 11) (oi := { dst := some 55, op := Op.buildSlice 103 1 #[(0, Operand.tmp 54)], type := 103, pos := "l13_figured_bass.go:81", after := #[{ on := 10, ground := Ground.data }], guard := none }) (by kernel_rfl) rfl (by rfl) (fun w0 hO hX K hK => ?_)
        have hF := hO; (try simp only [Own, Item.Holds, apartI, CellsAt, Nat.reduceAdd, Nat.zero_add, List.mem_cons, List.not_mem_nil, or_false, forall_eq_or_imp, forall_eq, ne_eq, false_imp_iff, implies_true, and_true] at hF)
        go_simp
        apply hK _ _ _ (fun _ => True)
        (repeat (first | (with_reducible exact hO) | (with_reducible apply Own.alloc) | (with_reducible apply Own.drew) | ((with_reducible apply Own.set_at); (focus (show _ ≤ _; omega)))))
        · first | exact trivial | exact hX | exact hX.below (below1 _) | exact RdIf.gone | exact hX.keep ((Below.refl _ _).setCell (by first | omega | (dsimp only; omega)) _)
        · exact (by first | exact XStab.true | exact XStab.rd | exact XStab.rdIf)
        · first | exact fun _ _ h => h.2 | exact fun _ _ h => h | exact fun h => absurd h (by decide)
        try simp only [upd, updI, List.map_cons, List.map_nil, eq_self, if_true, if_false, reduceIte, Nat.add_eq_left, Nat.left_eq_add, Nat.reduceEqDiff, List.set_cons_zero, List.set_cons_succ, hF]
        clear hK K hF hO
        try simp only [Act.put, List.setIfInBounds_toArray, List.set_cons_zero, List.set_cons_succ]
        refine Sim.one' (i := 12) (oi := { dst := some 56, op := Op.call { callee := Callee.builtin Builtin.append, args := #[Operand.tmp 44, Operand.tmp 55], argTypes := #[103, 103] }, type := 103, pos := "l13_figured_bass.go:81", after := #[{ on := 0, ground := Ground.data }, { on := 11, ground := Ground.data }, { on := 10, ground := Ground.chain }], guard := none }) (by kernel_rfl) rfl (by rfl) (fun w0 hO hX K hK => ?_)
        replace hO := own_out hO
        refine wp_app_item _ _ 103 rfl 49 ia (.slice none 0 0) 1 24 Tryd.underlying103 ha0 ha1 ha2 ha3 rfl (by decide) rfl rfl hO rfl one1k (by unfold maxLen; omega) (by omega) ?_
        clear hO
        intro v' w3 hO
        obtain ⟨q9, cap9, hv9, hq1, hq2⟩ := hO.row_open (by omega)
        subst hv9
        apply hK _ _ _ (fun _ => True)
        · exact hO
        · exact trivial
        · exact XStab.true
        · first | exact fun _ _ h => h.2 | exact fun h => absurd h (by decide)
        clear hO
        clear hK K
        try simp only [Act.put, List.setIfInBounds_toArray, List.set_cons_zero, List.set_cons_succ]
        refine Sim.sP (i := 13) (d := some 10) (h := ?_)
        refine Sim.done (by kernel_rfl) (fun w1 hO hX => ?_) _
        (try simp only [World.size_alloc1, World.size_drew, Nat.reduceAdd] at hO); (try simp only [upd, updI, List.map_cons, List.map_nil, eq_self, if_true, if_false, reduceIte, Nat.add_eq_left, Nat.left_eq_add, Nat.reduceEqDiff, List.set_cons_zero, List.set_cons_succ] at hO)
        have hF := hO; (try simp only [Own, Item.Holds, apartI, CellsAt, Nat.reduceAdd, Nat.zero_add, List.mem_cons, List.not_mem_nil, or_false, forall_eq_or_imp, forall_eq, ne_eq, false_imp_iff, implies_true, and_true] at hF)
        all_goals
          have hel : es.length ≤ 1528823808 := by
            have : (lsO es).length = es.length := List.length_map ..
            rw [← this, hE]; exact hsl
          have hel0 : (0 : Int) ≤ (es.length : Int) := by omega
          have e0 := hO.row_cell (i := k) (u := .slice A7 es.length c7) (by
            have := hAG.out.1
            rw [List.getElem?_append_right (by rw [List.length_map]; omega), List.length_map, this, Nat.sub_self]; rfl)
          have hk9 : (k : Int) < ((k + 1 : Nat) : Int) := by omega
          go_wp2_with (first | (at_make; go_loud (refine wpList_make_item rfl _ _ 110 rfl 4 io (.bool false) 1 1 Tryd.underlying110 ho0 ho1 ho2 ho3 _ _ _ _ es.length rfl rfl rfl rfl (by omega) (by unfold maxLen; omega) (by (repeat (first | (with_reducible exact hO) | (with_reducible apply Own.alloc) | (with_reducible apply Own.drew) | ((with_reducible apply Own.set_at); (focus (show _ ≤ _; omega)))))) ?_); clear hO hF; intro qg w4 hO; rw [madeBo] at hO; have hF := True.intro) | (at_builtin; apply own_list hO; (repeat (first | (with_reducible exact hO) | (with_reducible apply Own.alloc) | (with_reducible apply Own.drew) | ((with_reducible apply Own.set_at); (focus (show _ ≤ _; omega))))); have hG := hF; clear hF; clear hO; intro hO; (try simp only [World.size_alloc1, World.size_drew, Nat.reduceAdd] at hO); (try simp only [upd, updI, List.map_cons, List.map_nil, eq_self, if_true, if_false, reduceIte, Nat.add_eq_left, Nat.left_eq_add, Nat.reduceEqDiff, List.set_cons_zero, List.set_cons_succ, hG] at hO); clear hG; (try simp only [World.size_setCell] at hO); have hF := hO; (try simp only [Own, Item.Holds, apartI, CellsAt, Nat.reduceAdd, Nat.zero_add, List.mem_cons, List.not_mem_nil, or_false, forall_eq_or_imp, forall_eq, ne_eq, false_imp_iff, implies_true, and_true] at hF); replace hO := own_out2 hO; refine wpList_append_item rfl _ _ 108 rfl 110 ib (.slice none 0 0) 1 24 Tryd.underlying108 hb0 hb1 hb2 hb3 rfl (by decide) rfl rfl hO rfl one1k (by unfold maxLen; omega) (by omega) ?_; clear hO hF; intro v' w2 hO _; have hF := True.intro))
          go_roundw
          case rel => exact ⟨k + 1, As ++ [(.slice A7 es.length c7, es)], Gs ++ [(.slice (some ⟨qg, 0, none⟩) es.length es.length, List.replicate es.length false)], by omega, by go_num, hAG.out.more HSX.out hE (by simp), by
            rw [List.map_append, List.map_append]
            exact own_more (bs := List.replicate es.length false) (by rw [List.length_replicate]; exact hO)⟩
          case measure => simp [intOf]; omega

theorem rzS_any (hMv : MvS) (f : Int) (vb vg : Value) (bs : List Pt) (gs : List Int) (w : World) (hb : SlAt w vb bs.length 3 (pcC bs)) (hg : SlAt w vg gs.length 1 (intC gs)) :
    Calls Tryd.prog 42 #[.int .i64 f, vb, vg] w (StkOutB (rzL f bs gs) (rzB f bs gs) w) := by
  by_cases hc : rzC f bs gs
  · exact rzS_in hMv f vb vg bs gs w hc hb hg
  · have := rzS_out f vb vg bs gs w hb hg hc
    unfold rzL rzB
    rw [rz_out hc]
    exact this
theorem rzS_C (hMv : MvS) (w : World) : CRz 42 w := fun f vb vg bs gs W _ _ hb hg _ _ _ _ => rzS_any hMv f vb vg bs gs W hb hg
end Go.Proofs.YtfdglkiehkilnaaDoor
