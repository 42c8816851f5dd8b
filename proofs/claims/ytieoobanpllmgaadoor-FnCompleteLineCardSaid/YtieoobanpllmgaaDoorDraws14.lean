/- The functions that draw for the laws of chapter 14: a key and a cantus; a key, a cantus and a line. -/
import Derived.Test.YtieoobanpllmgaaDoorDraws10
import Derived.Test.YtieoobanpllmgaaDoorDrawBase
import Derived.Test.YtieoobanpllmgaaDoorWalks3S
import Derived.Test.YtieoobanpllmgaaDoorRegionD
namespace Go.Proofs.YtieoobanpllmgaaDoor
set_option linter.unusedSimpArgs false
set_option linter.unusedVariables false
set_option maxRecDepth 8000
open Go.RowKit

theorem kaS14 {f s z : Int} (h : kaZ f s = z) (W : World) :
    Calls Tryd.prog 67 #[.int .i64 f, .int .i64 s] W fun e w' => e = .returned (.int .i64 z) ∧ Below W.heap.size W w' := by
  subst h; exact kaS_any f s W
theorem ka_bd14 (f s : Int) : -1 ≤ kaZ f s ∧ kaZ f s ≤ 1 := by
  unfold kaZ
  have := altZ_bd f s
  split <;> omega
/-- What is known of a pitch of a drawn cantus. -/
def caOk (x : Pt) : Prop := (0 ≤ x.s ∧ x.s ≤ 6) ∧ (-1 ≤ x.a ∧ x.a ≤ 1) ∧ x.o = 4
def cbOk (x : Pt) : Prop := (0 ≤ x.s ∧ x.s ≤ 6) ∧ (-1 ≤ x.a ∧ x.a ≤ 2) ∧ x.o = 4
theorem cb_ca {x : Pt} (h : caOk x) : cbOk x := by unfold caOk at h; unfold cbOk; omega
theorem cbOk_pt {x : Pt} (h : cbOk x) : ptOk x := by unfold cbOk at h; unfold ptOk; omega
theorem ca_snoc {v : List Pt} {x : Pt} (hv : ∀ z ∈ v, caOk z) (hx : caOk x) : ∀ z ∈ v ++ [x], caOk z := fun z hz => by
  rcases List.mem_append.1 hz with h | h
  · exact hv z h
  · simp at h; subst h; exact hx
theorem pt_of14 {f s o : Int} (hs : 0 ≤ s ∧ s ≤ 6) (ho : 0 ≤ o ∧ o ≤ 9) : ptOk ⟨s, kaZ f s, o⟩ := by
  have := ka_bd14 f s
  exact ⟨show _ ∧ _ by dsimp only; omega, show _ ∧ _ by dsimp only; omega, show _ ∧ _ by dsimp only; omega⟩
/-- The first elements of a slice that a call owns. -/
theorem Own.row_take14 {n : Nat} {B : World → Prop} {w : World} {L : List Item} {e : TypeId} {size q k m cap : Nat} {xs : List Value} (h : Own n B w (.row e size (.slice (some ⟨q, 0, none⟩) k cap) k xs :: L)) (hm : m ≤ k) : Own n B w (.row e size (.slice (some ⟨q, 0, none⟩) m cap) m (xs.take (m * size)) :: L) := by
  have h0 : w.ownsRow n e size (.slice (some ⟨q, 0, none⟩) k cap) k xs := h.1.1
  refine ⟨⟨show w.ownsRow n e size (.slice (some ⟨q, 0, none⟩) m cap) m (xs.take (m * size)) from ?_, fun y hy => ?_⟩, h.2⟩
  · have hms : m * size ≤ k * size := Nat.mul_le_mul_right _ hm
    rcases h0.2 with ⟨hv, _⟩ | ⟨g, cap', cur, hv, h1, h2, h3, h4, h5, h6⟩
    · cases hv
    · cases hv
      refine ⟨by rw [List.length_take, h0.1]; omega, Or.inr ⟨q, cap, cur, rfl, h1, h2, by omega, h4, h5, ?_⟩⟩
      rw [← h6, List.take_take, Nat.min_eq_left hms]
  · have := h.1.2 y hy
    cases y <;> exact this
/-- The fifth number of a list, or one of the four before it. -/
def sel14 (p x : Int) : Int := ([0, 2, 4, 5, p] : List Int).getD x.toNat 0
theorem sel14_bd {p : Int} (h : 0 ≤ p ∧ p ≤ 6) (x : Int) : 0 ≤ sel14 p x ∧ sel14 p x ≤ 6 := by
  unfold sel14
  obtain ⟨n, hn⟩ : ∃ n, x.toNat = n := ⟨_, rfl⟩
  rw [hn]
  rcases (show n = 0 ∨ n = 1 ∨ n = 2 ∨ n = 3 ∨ n = 4 ∨ 5 ≤ n by omega) with rfl | rfl | rfl | rfl | rfl | h5
  · simp
  · simp
  · simp
  · simp
  · simpa using h
  · rw [List.getD_eq_getElem?_getD, List.getElem?_eq_none (by simpa using h5)]; simp
theorem own_sel14 {n : Nat} {B : World → Prop} {w : World} {b : Nat} {p x : Int} {L : List Item} (h : Own n B w L) (hm : Item.blk b [.int .i64 0, .int .i64 2, .int .i64 4, .int .i64 5, .int .i64 p] ∈ L) (x0 : 0 ≤ x) (x1 : x < 5) : w.cell? ⟨b, x.toNat, none⟩ = some (.int .i64 (sel14 p x)) :=
  Own.int_at [0, 2, 4, 5, p] h hm x0 (by simpa using x1)
/-- Where the reader stands while a region draws twice. -/
def XR14 (r : Nat) (P : Int) : Nat → World → Prop
  | 0 => fun w => Rd w r P
  | 1 => fun w => Rd w r (P + 1)
  | _ + 2 => fun _ => True
theorem pcC_set14 : ∀ {l : List Pt} {k : Nat} {p : Pt}, k < l.length → (((pcC l).set (k * 3) (.int .i64 p.s)).set (k * 3 + 1) (.int .i64 p.a)).set (k * 3 + 2) (.int .i64 p.o) = pcC (l.set k p)
  | [], k, p, h => by simp at h
  | z :: l, 0, p, _ => rfl
  | z :: l, k + 1, p, h => by
    have ih := pcC_set14 (l := l) (k := k) (p := p) (by simpa using h)
    rw [List.set_cons_succ, show pcC (z :: l.set k p) = ptC z ++ pcC (l.set k p) from rfl, ← ih]
    have e : pcC (z :: l) = ptC z ++ pcC l := rfl
    have hz : (ptC z).length = 3 := rfl
    have g : ∀ (xs : List Value) (i : Nat) (v : Value), (ptC z ++ xs).set ((k + 1) * 3 + i) v = ptC z ++ xs.set (k * 3 + i) v := fun xs i v => by
      rw [List.set_append, if_neg (by omega), hz, show (k + 1) * 3 + i - 3 = k * 3 + i by omega]
    rw [e, show (k + 1) * 3 = (k + 1) * 3 + 0 by omega, g, show (k + 1) * 3 + 0 + 1 = (k + 1) * 3 + 1 by omega, g, show (k + 1) * 3 + 0 + 2 = (k + 1) * 3 + 2 by omega, g]
    rfl

/-- What drawing a key and a cantus leaves. -/
def DrewCa (r : Nat) (P : Int) (w : World) (e : Ending) (w' : World) : Prop :=
  ∃ (f : Int) (u : Value) (l : List Pt), (-3 ≤ f ∧ f ≤ 8) ∧ (∀ x ∈ l, cbOk x) ∧ 1 ≤ l.length ∧ l.length ≤ 6 ∧ e = .returned (.tuple #[.int .i64 f, u]) ∧ Own w.heap.size (Bd r w (P + 30)) w' [.row 37 3 u l.length (pcC l)]
theorem DrewCa.mk {r n : Nat} {P Q : Int} {w w' : World} {f : Int} {u : Value} {l : List Pt} (hr : r < w.heap.size) (hf : -3 ≤ f ∧ f ≤ 8) (hv : ∀ x ∈ l, cbOk x) (hn : l.length = n) (h1 : 1 ≤ n) (h6 : n ≤ 6) (hO : Own w.heap.size (Bd r w Q) w' [.row 37 3 u n (pcC l)]) (hQ : Q ≤ P + 30) : DrewCa r P w (.returned (.tuple #[.int .i64 f, u])) w' := by
  subst hn; exact ⟨f, u, l, hf, hv, h1, h6, rfl, hO.mono hr hQ⟩

set_option maxRecDepth 8000 in
set_option maxHeartbeats 8000000 in
theorem l20Cantus_any (r : Nat) (P k : Int) (w : World) (h : Rd w r P) (hP : P ≤ 700000) (k0 : 0 ≤ k) (k1 : k ≤ 1000000) :
    Calls Tryd.prog 47 #[.pointer (some ⟨r, 0, none⟩), .int .i64 k] w (DrewCa r P w) := by
  have hr0 := h.lt
  have hO := Own.startD h
  have hF := True.intro
  obtain ⟨i0, hi0, hz0, hz1, hz2⟩ := info_parts infoPi
  clear h
  go_enter Tryd.func47, Tryd.ntmps47
  go_wp2_with fail
  (go_at_call 35; apply own_at hO; (repeat (first | (with_reducible exact hO) | (with_reducible apply Own.alloc) | (with_reducible apply Own.drew) | ((with_reducible apply Own.set_at); (focus (show _ ≤ _; omega))))); have hG := hF; clear hF; clear hO; intro hO; refine own_pick (k := 7) hO hr0 (by omega) (by omega) (by omega) ?_; clear hO; intro x w1 x0 x1 hO; (try simp only [World.size_alloc1, World.size_drew, Nat.reduceAdd] at hO); (try simp only [upd, updI, List.map_cons, List.map_nil, eq_self, if_true, if_false, reduceIte, Nat.add_eq_left, Nat.left_eq_add, Nat.reduceEqDiff, List.set_cons_zero, List.set_cons_succ, hG] at hO); clear hG; have hF := hO; (try simp only [Own, Item.Holds, apartI, CellsAt, Nat.reduceAdd, Nat.zero_add, List.mem_cons, List.not_mem_nil, or_false, forall_eq_or_imp, forall_eq, ne_eq, false_imp_iff, implies_true, and_true] at hF))
  obtain ⟨f, hf⟩ : ∃ f, x - 3 = f := ⟨_, rfl⟩
  have wf : IntKind.i64.wrap (x - 3) = f := by rw [hf]; exact IntWalk.i64_in _ (by omega)
  have HFB := hid (show -3 ≤ f ∧ f ≤ 3 by omega)
  clear x0 x1 hf
  go_wp2_with fail
  have hO1 := hO.allocRow (e := 37) (cur := #[]) (k := 0) (cap := 0) 3 (by omega) (by unfold maxLen; omega) rfl
  clear hO wf
  have hO := hO1
  clear hO1
  (go_at_call 35; apply own_at hO; (repeat (first | (with_reducible exact hO) | (with_reducible apply Own.alloc) | (with_reducible apply Own.drew) | ((with_reducible apply Own.set_at); (focus (show _ ≤ _; omega))))); have hG := hF; clear hF; clear hO; intro hO; refine own_pick (k := 5) hO hr0 (by omega) (by omega) (by omega) ?_; clear hO; intro x w1 x0 x1 hO; (try simp only [World.size_alloc1, World.size_drew, Nat.reduceAdd] at hO); (try simp only [upd, updI, List.map_cons, List.map_nil, eq_self, if_true, if_false, reduceIte, Nat.add_eq_left, Nat.left_eq_add, Nat.reduceEqDiff, List.set_cons_zero, List.set_cons_succ, hG] at hO); clear hG; have hF := hO; (try simp only [Own, Item.Holds, apartI, CellsAt, Nat.reduceAdd, Nat.zero_add, List.mem_cons, List.not_mem_nil, or_false, forall_eq_or_imp, forall_eq, ne_eq, false_imp_iff, implies_true, and_true] at hF))
  have wx : IntKind.i64.wrap (2 + x) = 2 + x := IntWalk.i64_in _ (by omega)
  go_wp2_with fail
  go_loopw [7, 8] (fun u t wr => ∃ (m : Int) (v : List Pt), 0 ≤ m ∧ m ≤ 6 ∧ t = .int .i64 m ∧ 2 ≤ (v.length : Int) + m ∧ (v.length : Int) + m ≤ 6 ∧ Hid (∀ x ∈ v, caOk x) ∧ Own w.heap.size (Bd r w (P + 2 + (6 - m))) wr [.row 37 3 u v.length (pcC v)]) (fun _ t _ => (intOf t).toNat)
  case atStart => exact ⟨2 + x, [], by omega, by omega, rfl, by simp; omega, by simp; omega, fun z hz => (by cases hz), hO.mono hr0 (by omega)⟩
  case round =>
    clear hO hF x0 x1 wx
    obtain ⟨m, v, m0, m1, rfl, hl1, hl2, hv, hO⟩ := hrel
    have hF := True.intro
    have wm : IntKind.i64.wrap (m - 1) = m - 1 := IntWalk.i64_in _ (by omega)
    by_cases hm : m = 0
    · subst hm
      obtain ⟨n, hn⟩ : ∃ n, v.length = n := ⟨_, rfl⟩
      rw [hn] at hO
      have hn2 : 2 ≤ n := by omega
      have hn6 : n ≤ 6 := by omega
      have HN := hid hn
      clear wm hn hl1 hl2
      go_wp2_with fail
      (go_at_call 48; apply own_at hO; (repeat (first | (with_reducible exact hO) | (with_reducible apply Own.alloc) | (with_reducible apply Own.drew) | ((with_reducible apply Own.set_at); (focus (show _ ≤ _; omega))))); have hG := hF; clear hF; clear hO; intro hO; refine own_odd hO hr0 (by omega) (by omega) (by omega) ?_; clear hO; intro x w1 hO; (try simp only [World.size_alloc1, World.size_drew, Nat.reduceAdd] at hO); (try simp only [upd, updI, List.map_cons, List.map_nil, eq_self, if_true, if_false, reduceIte, Nat.add_eq_left, Nat.left_eq_add, Nat.reduceEqDiff, List.set_cons_zero, List.set_cons_succ, hG] at hO); clear hG; have hF := hO; (try simp only [Own, Item.Holds, apartI, CellsAt, Nat.reduceAdd, Nat.zero_add, List.mem_cons, List.not_mem_nil, or_false, forall_eq_or_imp, forall_eq, ne_eq, false_imp_iff, implies_true, and_true] at hF))
      cases x
      · go_wp2_with fail
        go_ret2
        exact DrewCa.mk hr0 (by have := HFB.out; omega) (fun z hz => cb_ca (hv.out z hz)) HN.out (by omega) hn6 hO (by omega)
      · obtain ⟨q, cap, hv1, hq1, hq2⟩ := hO.row_open (by omega)
        subst hv1
        unfold maxLen at hq2
        have hn1 : (1 : Int) ≤ (n : Int) := by omega
        have hn0 : (0 : Int) < (n : Int) := by omega
        go_wp2_with fail
        (go_at_call 35; apply own_at hO; (repeat (first | (with_reducible exact hO) | (with_reducible apply Own.alloc) | (with_reducible apply Own.drew) | ((with_reducible apply Own.set_at); (focus (show _ ≤ _; omega))))); have hG := hF; clear hF; clear hO; intro hO; refine own_pick (k := 3) hO hr0 (by omega) (by omega) (by omega) ?_; clear hO; intro x w1 x0 x1 hO; (try simp only [World.size_alloc1, World.size_drew, Nat.reduceAdd] at hO); (try simp only [upd, updI, List.map_cons, List.map_nil, eq_self, if_true, if_false, reduceIte, Nat.add_eq_left, Nat.left_eq_add, Nat.reduceEqDiff, List.set_cons_zero, List.set_cons_succ, hG] at hO); clear hG; have hF := hO; (try simp only [Own, Item.Holds, apartI, CellsAt, Nat.reduceAdd, Nat.zero_add, List.mem_cons, List.not_mem_nil, or_false, forall_eq_or_imp, forall_eq, ne_eq, false_imp_iff, implies_true, and_true] at hF))
        obtain ⟨y, v', rfl⟩ : ∃ y v', v = y :: v' := by
          cases v with
          | nil => have := HN.out; simp at this; omega
          | cons y v' => exact ⟨y, v', rfl⟩
        have hy := hv.out y List.mem_cons_self
        rcases (show x = 0 ∨ x = 1 ∨ x = 2 by omega) with rfl | rfl | rfl
        · clear x0 x1
          have hO2 := hO.row_take14 (m := 1) (by omega)
          rw [show (pcC (y :: v')).take (1 * 3) = pcC [y] from rfl] at hO2
          clear hO
          go_wp2_with fail
          go_ret2
          exact DrewCa.mk (n := 1) (l := [y]) hr0 (by have := HFB.out; omega) (fun z hz => by simp at hz; subst hz; exact cb_ca hy) rfl (by omega) (by omega) hO2 (by omega)
        · clear x0 x1
          have c1 := hO.row_cell (i := 1) (u := .int .i64 y.a) rfl
          have r1 := hO.row_free 1
          unfold caOk at hy
          have wa : IntKind.i64.wrap (y.a + 1) = y.a + 1 := IntWalk.i64_in _ (by omega)
          have hO2 := hO.row_set 1 (.int .i64 (y.a + 1))
          rw [show (pcC (y :: v')).set 1 (.int .i64 (y.a + 1)) = pcC (⟨y.s, y.a + 1, y.o⟩ :: v') from rfl] at hO2
          clear hO
          go_wp2_with fail
          go_ret2
          exact DrewCa.mk (l := ⟨y.s, y.a + 1, y.o⟩ :: v') hr0 (by have := HFB.out; omega) (fun z hz => by
            rcases List.mem_cons.1 hz with rfl | hz
            · unfold cbOk; dsimp only; omega
            · exact cb_ca (hv.out z (List.mem_cons_of_mem _ hz))) (by rw [← HN.out]; rfl) (by omega) hn6 hO2 (by omega)
        · clear x0 x1
          go_wp2_with fail
          go_ret2
          exact DrewCa.mk hr0 (by omega) (fun z hz => cb_ca (hv.out z hz)) HN.out (by omega) hn6 hO (by omega)
    · have hm1 : 0 < m := by omega
      clear hm
      go_wp2_with fail
      (go_at_call 35; apply own_at hO; (repeat (first | (with_reducible exact hO) | (with_reducible apply Own.alloc) | (with_reducible apply Own.drew) | ((with_reducible apply Own.set_at); (focus (show _ ≤ _; omega))))); have hG := hF; clear hF; clear hO; intro hO; refine own_pick (k := 7) hO hr0 (by omega) (by omega) (by omega) ?_; clear hO; intro x w1 x0 x1 hO; (try simp only [World.size_alloc1, World.size_drew, Nat.reduceAdd] at hO); (try simp only [upd, updI, List.map_cons, List.map_nil, eq_self, if_true, if_false, reduceIte, Nat.add_eq_left, Nat.left_eq_add, Nat.reduceEqDiff, List.set_cons_zero, List.set_cons_succ, hG] at hO); clear hG; have hF := hO; (try simp only [Own, Item.Holds, apartI, CellsAt, Nat.reduceAdd, Nat.zero_add, List.mem_cons, List.not_mem_nil, or_false, forall_eq_or_imp, forall_eq, ne_eq, false_imp_iff, implies_true, and_true] at hF))
      have HKA := hid (fun W => kaS14 (f := f) (s := x) rfl W)
      have HBD := hid (ka_bd14 f x)
      have HX := hid (And.intro x0 x1)
      obtain ⟨a, ha⟩ : ∃ a, kaZ f x = a := ⟨_, rfl⟩
      rw [ha] at HKA HBD
      clear x0 x1 ha
      go_wp2_with (first | (go_at_call 67; apply own_at hO; (repeat (first | (with_reducible exact hO) | (with_reducible apply Own.alloc) | (with_reducible apply Own.drew) | ((with_reducible apply Own.set_at); (focus (show _ ≤ _; omega))))); have hG := hF; clear hF; clear hO; intro hO; refine own_call hO (fun hB => HKA.out _) ?_; clear hO; intro w1 hO; (try simp only [World.size_alloc1, World.size_drew, Nat.reduceAdd] at hO); (try simp only [upd, updI, List.map_cons, List.map_nil, eq_self, if_true, if_false, reduceIte, Nat.add_eq_left, Nat.left_eq_add, Nat.reduceEqDiff, List.set_cons_zero, List.set_cons_succ, hG] at hO); clear hG; have hF := hO; (try simp only [Own, Item.Holds, apartI, CellsAt, Nat.reduceAdd, Nat.zero_add, List.mem_cons, List.not_mem_nil, or_false, forall_eq_or_imp, forall_eq, ne_eq, false_imp_iff, implies_true, and_true] at hF)) | (at_builtin; apply own_list hO; (repeat (first | (with_reducible exact hO) | (with_reducible apply Own.alloc) | (with_reducible apply Own.drew) | ((with_reducible apply Own.set_at); (focus (show _ ≤ _; omega))))); have hG := hF; clear hF; clear hO; intro hO; (try simp only [World.size_alloc1, World.size_drew, Nat.reduceAdd] at hO); (try simp only [upd, updI, List.map_cons, List.map_nil, eq_self, if_true, if_false, reduceIte, Nat.add_eq_left, Nat.left_eq_add, Nat.reduceEqDiff, List.set_cons_zero, List.set_cons_succ, hG] at hO); clear hG; (try simp only [World.size_setCell] at hO); have hF := hO; (try simp only [Own, Item.Holds, apartI, CellsAt, Nat.reduceAdd, Nat.zero_add, List.mem_cons, List.not_mem_nil, or_false, forall_eq_or_imp, forall_eq, ne_eq, false_imp_iff, implies_true, and_true] at hF); refine wpList_append_item rfl _ _ 23 rfl 37 i0 (.agg #[.int .i64 0, .int .i64 0, .int .i64 0]) 3 24 Tryd.underlying23 hi0 hz0 hz1 hz2 rfl (by decide) rfl rfl hO rfl one3t (by unfold maxLen; omega) (by omega) ?_; clear hO hF; intro v' w3 hO _; have hF := True.intro))
      rw [pcC_snoc (x := ⟨x, a, 4⟩)] at hO
      go_roundw
      case rel => exact ⟨m - 1, v ++ [⟨x, a, 4⟩], by omega, by omega, rfl, by simp; omega, by simp; omega, ca_snoc hv.out (by have := HBD.out; have := HX.out; unfold caOk; dsimp only; omega), by rw [List.length_append]; exact hO.mono hr0 (by omega)⟩
      case measure => simp [intOf]; omega