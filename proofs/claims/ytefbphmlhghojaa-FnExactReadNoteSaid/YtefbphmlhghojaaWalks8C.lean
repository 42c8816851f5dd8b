/- Chapter 8 in the program: the library's functions that it calls. -/
import Derived.Test.YtefbphmlhghojaaWalks8N
import Derived.Test.YtefbphmlhghojaaShelf
import Derived.Test.YtefbphmlhghojaaOwnMake
import Derived.Test.YtefbphmlhghojaaPure8
import Derived.Shelf.Strings.Search2
import Derived.Deep.Draws
import Derived.Test.YtefbphmlhghojaaWalks5A
import Derived.Test.YtefbphmlhghojaaWalksRead
namespace Go.Proofs.Ytefbphmlhghojaa
set_option linter.unusedSimpArgs false
set_option linter.unusedVariables false
open Go.RowKit

theorem ext_tl (s : ByteArray) (k : Nat) (h : k ≤ s.size) : s.extract k s.size = ⟨(s.data.toList.drop k).toArray⟩ := by
  apply ByteArray.ext
  rw [ByteArray.data_extract]
  apply Array.toList_inj.1
  rw [Array.toList_extract, List.extract_eq_take_drop]
  show List.take (s.size - k) (List.drop k s.data.toList) = List.drop k s.data.toList
  rw [List.take_of_length_le]
  rw [List.length_drop, Array.length_toList]
  exact Nat.le_refl _

theorem idx_one (s : ByteArray) (w : World) :
    Calls Try.prog 43 #[.string s, .string ⟨#[47]⟩] w fun e w' => e = .returned (.int .i64 (Lib.indexByte s.data.toList 47)) ∧ w = w' :=
  (Try.stringslite_Index_one s 47 w).mono fun _ _ ⟨he, hw⟩ => ⟨he, hw.symm⟩

theorem pre_any (s : ByteArray) (c : UInt8) (w : World) :
    Calls Try.prog 38 #[.string s, .string ⟨#[c]⟩] w fun e w' => e = .returned (.tuple #[.string ⟨(Lib.trimPrefix s.data.toList [c]).toArray⟩, .bool (Lib.hasPrefix s.data.toList [c])]) ∧ w = w' :=
  (Try.strings_CutPrefix s ⟨#[c]⟩ w).mono fun _ _ ⟨he, hw⟩ => ⟨he, hw.symm⟩

set_option maxHeartbeats 2000000 in
theorem cutL_hit (s : ByteArray) (w : World) (hs : s.size ≤ 4611686018427387904) (h : 47 ∈ s.data.toList) :
    Calls Try.prog 39 #[.string s, .string ⟨#[47]⟩] w fun e w' => e = .returned (.tuple #[.string ⟨(hdT s.data.toList).toArray⟩, .string ⟨(s.data.toList.drop ((hdT s.data.toList).length + 1)).toArray⟩, .bool true]) ∧ Below w.heap.size w w' := by
  obtain ⟨p, hp⟩ : ∃ p, (hdT s.data.toList).length = p := ⟨_, rfl⟩
  have hi := ib_hit h
  have e1 := ext_hd s
  have h2 : s.data.toList.length = s.size := Array.length_toList
  have hpl : p + 1 ≤ s.size := by
    have := congrArg List.length (hd_cut h)
    rw [List.length_append, List.length_cons, hp, h2] at this
    omega
  have e2 := ext_tl s (p + 1) hpl
  rw [hp] at hi e1 ⊢
  rw [← e1, ← e2]
  clear e1 e2 h h2 hp
  obtain ⟨ls, hls⟩ : ∃ ls, s.size = ls := ⟨_, rfl⟩
  rw [hls] at hs hpl ⊢
  have c1 : (0 : Int) ≤ p := by omega
  have c2 : (p : Int) ≤ ls := by omega
  have c3 : (0 : Int) ≤ (p : Int) + 1 := by omega
  have c4 : (p : Int) + 1 ≤ ls := by omega
  have c5 : ((p : Int) + 1).toNat = p + 1 := by omega
  have m1 : IntKind.i64.wrap ((p : Int) + 1) = (p : Int) + 1 := IntWalk.i64_in _ (by omega)
  have mixed : Try.prog.follows Departure.mixedOrders = true := by kernel_rfl
  go_enter Try.func39, Try.ntmps39
  go_wp2_with (go_at_call 43; refine (idx_one _ _).mono ?_; rintro e w1 ⟨rfl, rfl⟩; rw [hi])
  go_region_o
  go_wp2
  go_ret3
  exact ⟨rfl, below_drewN (Below.refl _ _) 1⟩
set_option maxHeartbeats 2000000 in
theorem cutL_miss (s : ByteArray) (w : World) (h : 47 ∉ s.data.toList) :
    Calls Try.prog 39 #[.string s, .string ⟨#[47]⟩] w fun e w' => e = .returned (.tuple #[.string s, .string ⟨#[]⟩, .bool false]) ∧ Below w.heap.size w w' := by
  have hi := ib_miss h
  go_enter Try.func39, Try.ntmps39
  go_wp2_with (go_at_call 43; refine (idx_one _ _).mono ?_; rintro e w1 ⟨rfl, rfl⟩; rw [hi])
  go_ret3
  exact ⟨rfl, Below.refl _ _⟩
/-- what is cut off at the first slash. -/
def cutOk (s N R : ByteArray) (f : Bool) : Prop := (47 ∈ s.data.toList ∧ N = ⟨(hdT s.data.toList).toArray⟩ ∧ R = ⟨(s.data.toList.drop ((hdT s.data.toList).length + 1)).toArray⟩ ∧ f = true) ∨ (47 ∉ s.data.toList ∧ N = s ∧ R = ⟨#[]⟩ ∧ f = false)
theorem cutL_any {s N R : ByteArray} {f : Bool} (h : cutOk s N R f) (hs : s.size ≤ 4611686018427387904) (w : World) :
    Calls Try.prog 39 #[.string s, .string ⟨#[47]⟩] w fun e w' => e = .returned (.tuple #[.string N, .string R, .bool f]) ∧ Below w.heap.size w w' := by
  rcases h with ⟨h, rfl, rfl, rfl⟩ | ⟨h, rfl, rfl, rfl⟩
  · exact cutL_hit _ _ hs h
  · exact cutL_miss _ _ h
set_option maxHeartbeats 1000000 in
theorem cut_any {s N R : ByteArray} {f : Bool} (h : cutOk s N R f) (hs : s.size ≤ 4611686018427387904) (w : World) :
    Calls Try.prog 33 #[.string s, .string ⟨#[47]⟩] w fun e w' => e = .returned (.tuple #[.string N, .string R, .bool f]) ∧ Below w.heap.size w w' := by
  have hO := Own.start w
  have hF := True.intro
  have hU := True.intro
  have HC := hid (fun W => cutL_any h hs W)
  clear h
  go_enter Try.func33, Try.ntmps33
  go_wp2_with (go_at_call 39; apply own_at hO; (repeat (first | (with_reducible exact hO) | (with_reducible apply Own.alloc) | (with_reducible apply Own.drew) | ((with_reducible apply Own.set_at); (focus (show _ ≤ _; omega))))); have hG := hF; clear hF; clear hO; intro hO; refine own_call hO (fun hB => HC.out _) ?_; clear hO; intro w1 hO; (try simp only [World.size_alloc1, World.size_drew, Nat.reduceAdd] at hO); (try simp only [upd, updI, List.map_cons, List.map_nil, eq_self, if_true, if_false, reduceIte, Nat.add_eq_left, Nat.left_eq_add, Nat.reduceEqDiff, List.set_cons_zero, List.set_cons_succ, hU, hG] at hO); clear hG; have hF := hO; (try simp only [Own, Item.Holds, apartI, CellsAt, Nat.reduceAdd, Nat.zero_add, List.mem_cons, List.not_mem_nil, or_false, forall_eq_or_imp, forall_eq, ne_eq, false_imp_iff, implies_true, and_true] at hF))
  go_ret3
  exact ⟨rfl, hO.base⟩

/- Chapter 8 in the program: the scanner; the notes of texts. -/
open Go.RowKit

theorem dig_any (z : Int) (w : World) :
    Calls Try.prog 37 #[.int .u8 z] w fun e w' => e = .returned (.bool (decide (48 ≤ z) && decide (z ≤ 57))) ∧ w = w' := by
  by_cases h1 : 48 ≤ z <;> by_cases h2 : z ≤ 57
  all_goals
    go_enter Try.func37, Try.ntmps37
    go_wp2
    go_ret
    simp [h1, h2]

theorem atE_any {b : Nat} {T : ByteArray} {f : Bool} (hf : T.data.toList.isEmpty = f) (w : World) (hc : w.cell? ⟨b, 0, none⟩ = some (.string T)) :
    Calls Try.prog 16 #[.pointer (some ⟨b, 0, none⟩)] w fun e w' => e = .returned (.bool f) ∧ Below w.heap.size w w' := by
  go_enter Try.func16, Try.ntmps16
  go_wp2
  go_ret
  refine ⟨?_, Below.refl _ _⟩
  show Ending.returned (.bool T.toList.isEmpty) = _
  rw [ByteArray.toList_eq, hf]

/-- a mark is read. -/
theorem take_own {n b : Nat} {B : World → Prop} {W : World} {T : ByteArray} {c : UInt8} {L : List Item} (hO : Own n B W (.blk b [.string T] :: L)) :
    Calls Try.prog 27 #[.pointer (some ⟨b, 0, none⟩), .string ⟨#[c]⟩] W
      (OwnOut n B fun v L' => v = .bool (Lib.hasPrefix T.data.toList [c]) ∧ L' = .blk b [.string ⟨(Lib.trimPrefix T.data.toList [c]).toArray⟩] :: L) := by
  have hU := upd_tail hO
  have hF := hO; (try simp only [Own, Item.Holds, apartI, CellsAt, Nat.reduceAdd, Nat.zero_add, List.mem_cons, List.not_mem_nil, or_false, forall_eq_or_imp, forall_eq, ne_eq, false_imp_iff, implies_true, and_true] at hF)
  go_enter Try.func27, Try.ntmps27
  go_wp2_with (go_at_call 38; refine (pre_any _ _ _).mono ?_; rintro e w1 ⟨rfl, rfl⟩)
  go_ret
  exact ⟨_, _, rfl, ⟨rfl, rfl⟩, by (apply Own.cast; (focus ((repeat (first | (with_reducible exact hO) | (with_reducible apply Own.alloc) | (with_reducible apply Own.drew) | ((with_reducible apply Own.set_at); (focus (show _ ≤ _; omega))))))); (first | rfl | (simp only [upd, updI, List.map_cons, List.map_nil, eq_self, if_true, if_false, reduceIte, Nat.add_eq_left, Nat.left_eq_add, Nat.reduceEqDiff, List.set_cons_zero, List.set_cons_succ, hU, hF]; done) | (simp [upd, updI, List.map_cons, List.map_nil, eq_self, if_true, if_false, reduceIte, Nat.add_eq_left, Nat.left_eq_add, Nat.reduceEqDiff, List.set_cons_zero, List.set_cons_succ, hU, hF]; done)))⟩

/-- what stands ahead of the slash is read, and the slash. -/
theorem name_own {n b : Nat} {B : World → Prop} {W : World} {T N R : ByteArray} {f : Bool} {L : List Item} (hO : Own n B W (.blk b [.string T] :: L)) (h : cutOk T N R f) (hs : T.size ≤ 4611686018427387904) :
    Calls Try.prog 24 #[.pointer (some ⟨b, 0, none⟩)] W
      (OwnOut n B fun v L' => v = .tuple #[.string N, .bool f] ∧ L' = .blk b [.string R] :: L) := by
  have hU := upd_tail hO
  have hF := hO; (try simp only [Own, Item.Holds, apartI, CellsAt, Nat.reduceAdd, Nat.zero_add, List.mem_cons, List.not_mem_nil, or_false, forall_eq_or_imp, forall_eq, ne_eq, false_imp_iff, implies_true, and_true] at hF)
  have HC := hid (fun W => cut_any h hs W)
  clear h
  go_enter Try.func24, Try.ntmps24
  go_wp2_with (go_at_call 33; apply own_at hO; (repeat (first | (with_reducible exact hO) | (with_reducible apply Own.alloc) | (with_reducible apply Own.drew) | ((with_reducible apply Own.set_at); (focus (show _ ≤ _; omega))))); have hG := hF; clear hF; clear hO; intro hO; refine own_call hO (fun hB => HC.out _) ?_; clear hO; intro w1 hO; (try simp only [World.size_alloc1, World.size_drew, Nat.reduceAdd] at hO); (try simp only [upd, updI, List.map_cons, List.map_nil, eq_self, if_true, if_false, reduceIte, Nat.add_eq_left, Nat.left_eq_add, Nat.reduceEqDiff, List.set_cons_zero, List.set_cons_succ, hU, hG] at hO); clear hG; have hF := hO; (try simp only [Own, Item.Holds, apartI, CellsAt, Nat.reduceAdd, Nat.zero_add, List.mem_cons, List.not_mem_nil, or_false, forall_eq_or_imp, forall_eq, ne_eq, false_imp_iff, implies_true, and_true] at hF))
  go_ret2
  exact ⟨_, _, rfl, ⟨rfl, rfl⟩, by (apply Own.cast; (focus ((repeat (first | (with_reducible exact hO) | (with_reducible apply Own.alloc) | (with_reducible apply Own.drew) | ((with_reducible apply Own.set_at); (focus (show _ ≤ _; omega))))))); (first | rfl | (simp only [upd, updI, List.map_cons, List.map_nil, eq_self, if_true, if_false, reduceIte, Nat.add_eq_left, Nat.left_eq_add, Nat.reduceEqDiff, List.set_cons_zero, List.set_cons_succ, hU, hF]; done) | (simp [upd, updI, List.map_cons, List.map_nil, eq_self, if_true, if_false, reduceIte, Nat.add_eq_left, Nat.left_eq_add, Nat.reduceEqDiff, List.set_cons_zero, List.set_cons_succ, hU, hF]; done)))⟩

/-- the number that is read, what is left, and is there one. -/
def tickOk (T R : ByteArray) (t : Int) (f : Bool) : Prop := (numOk (dsT T.data.toList) ∧ t = (diV (dsT T.data.toList) : Int) ∧ R = ⟨(T.data.toList.drop (dsT T.data.toList).length).toArray⟩ ∧ f = true) ∨ (¬ numOk (dsT T.data.toList) ∧ t = 0 ∧ R = T ∧ f = false)
theorem tick_yes {T R : ByteArray} {t : Int} {f : Bool} (h : tickOk T R t f) {i : Nat} (hs : dsT T.data.toList = T.data.toList.take i) (hi : i ≤ T.size) (hn : numOk (dsT T.data.toList)) : t = (diV (T.data.toList.take i) : Int) ∧ R = T.extract i T.size ∧ f = true := by
  have h2 : T.data.toList.length = T.size := Array.length_toList
  rcases h with ⟨_, h3, h4, h5⟩ | ⟨h3, _⟩
  · rw [ds_len hs (by omega)] at h4
    rw [hs] at h3
    exact ⟨h3, by rw [h4, ext_tl _ _ hi], h5⟩
  · exact absurd hn h3
theorem tick_no {T R : ByteArray} {t : Int} {f : Bool} (h : tickOk T R t f) (hn : ¬ numOk (dsT T.data.toList)) : t = 0 ∧ R = T ∧ f = false := by
  rcases h with ⟨h3, _⟩ | ⟨_, h⟩
  · exact absurd h3 hn
  · exact h
theorem dig_is {z : Int} {f : Bool} (h : (decide (48 ≤ z) && decide (z ≤ 57)) = f) (w : World) :
    Calls Try.prog 37 #[.int .u8 z] w fun e w' => e = .returned (.bool f) ∧ w = w' := by
  subst h; exact dig_any z w
theorem ext_all (T : ByteArray) : T.extract 0 T.size = T := by
  rw [ext_tl T 0 (Nat.zero_le _)]
  exact (s_mk rfl).symm

theorem hd48 {l : List UInt8} {i p : Nat} {c : UInt8} (hi : i = 0) (_ : ∀ x ∈ l.take i, isD x = true) (hc : l[i]? = some c) (hp : diV (l.take (i + 1)) = p) (h1 : 1 ≤ p) : l.head? ≠ some 48 := by
  subst hi
  intro e
  cases l with
  | nil => cases e
  | cons a l =>
    simp at e
    subst e
    have : diV (List.take (0 + 1) ((48 : UInt8) :: l)) = 0 := rfl
    omega

set_option maxHeartbeats 4000000 in
theorem ticks_own {n b : Nat} {B : World → Prop} {W : World} {T R : ByteArray} {t : Int} {f : Bool} {L : List Item} (hO : Own n B W (.blk b [.string T] :: L)) (h : tickOk T R t f) (hs : T.size ≤ 4611686018427387904) :
    Calls Try.prog 26 #[.pointer (some ⟨b, 0, none⟩)] W
      (OwnOut n B fun v L' => v = .tuple #[.int .i64 t, .bool f] ∧ L' = .blk b [.string R] :: L) := by
  have hU := upd_tail hO
  have hF := hO; (try simp only [Own, Item.Holds, apartI, CellsAt, Nat.reduceAdd, Nat.zero_add, List.mem_cons, List.not_mem_nil, or_false, forall_eq_or_imp, forall_eq, ne_eq, false_imp_iff, implies_true, and_true] at hF)
  have hlz : T.data.toList.length = T.size := Array.length_toList
  obtain ⟨l, hl⟩ : ∃ l, T.data.toList = l := ⟨_, rfl⟩
  obtain ⟨ls, hls⟩ : ∃ ls, T.size = ls := ⟨_, rfl⟩
  have HK := hid h
  have HL := hid hl
  have HS := hid hls
  rw [hls, hl] at hlz
  rw [hls] at hs
  have HZ := hid hlz
  clear h hl hlz
  go_enter Try.func26, Try.ntmps26
  go_wp2_with fail
  (apply own_code hO; (repeat (first | (with_reducible exact hO) | (with_reducible apply Own.alloc) | (with_reducible apply Own.drew) | ((with_reducible apply Own.set_at); (focus (show _ ≤ _; omega))))); have hG := hF; clear hF; clear hO; intro hO; (try simp only [World.size_alloc1, World.size_drew, Nat.reduceAdd] at hO); (try simp only [upd, updI, List.map_cons, List.map_nil, eq_self, if_true, if_false, reduceIte, Nat.add_eq_left, Nat.left_eq_add, Nat.reduceEqDiff, List.set_cons_zero, List.set_cons_succ, hU, hG] at hO); clear hG; have hF := hO; (try simp only [Own, Item.Holds, apartI, CellsAt, Nat.reduceAdd, Nat.zero_add, List.mem_cons, List.not_mem_nil, or_false, forall_eq_or_imp, forall_eq, ne_eq, false_imp_iff, implies_true, and_true] at hF))
  go_loopw [4, 5] (fun u z wr => ∃ i : Nat, i ≤ ls ∧ u = .int .i64 (diV (l.take i) : Int) ∧ z = .int .i64 i ∧ Hid (∀ c ∈ l.take i, isD c = true) ∧ Hid (i = 0 ∨ (1 ≤ diV (l.take i) ∧ l.head? ≠ some 48)) ∧ Hid (diV (l.take i) ≤ 768) ∧ Own n B wr (.blk b [.string T] :: L)) (fun _ z _ => ls - (intOf z).toNat)
  case atStart => exact ⟨0, by omega, rfl, rfl, (fun c hc => by simp at hc), Or.inl rfl, (show diV [] ≤ 768 by decide), hO⟩
  case round =>
    clear hO hF
    obtain ⟨i, hi, rfl, rfl, HD, H1, HV, hO⟩ := hrel
    have hF := hO; (try simp only [Own, Item.Holds, apartI, CellsAt, Nat.reduceAdd, Nat.zero_add, List.mem_cons, List.not_mem_nil, or_false, forall_eq_or_imp, forall_eq, ne_eq, false_imp_iff, implies_true, and_true] at hF)
    obtain ⟨q, hq⟩ : ∃ q, diV (l.take i) = q := ⟨_, rfl⟩
    have hv := HV.out
    rw [hq] at hv
    have HQ := hid hq
    rw [hq]
    clear hq
    have hc : (∃ c, i < ls ∧ l[i]? = some c ∧ isD c = true) ∨ ((i = ls ∨ (i < ls ∧ ∃ c, l[i]? = some c ∧ isD c = false))) := by
      by_cases hil : i < ls
      · have hk : i < l.length := by rw [HZ.out]; exact hil
        cases hd : isD l[i]
        · exact Or.inr (Or.inr ⟨hil, l[i], List.getElem?_eq_getElem hk, hd⟩)
        · exact Or.inl ⟨l[i], hil, List.getElem?_eq_getElem hk, hd⟩
      · exact Or.inr (Or.inl (by omega))
    rcases hc with ⟨c, hil, hc, hd⟩ | hc
    · have hix := fun W => index_at (s := T) (k := i) (c := c) (by rw [HL.out]; exact hc) W
      have hil2 : (i : Int) < ls := by omega
      have hup := di_up hc
      rw [HQ.out] at hup
      have h48 := isD_to hd
      have HC := hid (And.intro hc hd)
      obtain ⟨z, hz⟩ : ∃ z : Nat, c.toNat = z := ⟨_, rfl⟩
      rw [hz] at hup h48
      simp only [hz] at hix
      obtain ⟨p, hp⟩ : ∃ p, diV (l.take (i + 1)) = p := ⟨_, rfl⟩
      rw [hp] at hup
      have HP := hid hp
      obtain ⟨z1, z2⟩ := h48
      have hdg := fun W => dig_is (z := (z : Int)) (f := true) (by simp; omega) W
      have HDG := hid hdg
      have m1 : IntKind.i64.wrap (10 * (q : Int)) = 10 * q := IntWalk.i64_in _ (by omega)
      have m2 : IntKind.u8.wrap ((z : Int) - 48) = (z : Int) - 48 := IntWalk.u8_in _ (by omega)
      have m3 : IntKind.i64.wrap ((z : Int) - 48) = (z : Int) - 48 := IntWalk.i64_in _ (by omega)
      have m4 : IntKind.i64.wrap (10 * (q : Int) + ((z : Int) - 48)) = 10 * q + ((z : Int) - 48) := IntWalk.i64_in _ (by omega)
      have hpz : (10 * (q : Int) + ((z : Int) - 48)) = p := by omega
      clear hc hd hz hp hdg
      have hps : (p : Int) < 1 ∨ (¬ ((p : Int) < 1) ∧ 768 < (p : Int)) ∨ (¬ ((p : Int) < 1) ∧ ¬ (768 < (p : Int))) := by omega
      have hbad : (p < 1 ∨ 768 < p) → t = 0 ∧ R = T ∧ f = false := fun hx => tick_no HK.out (by
        rw [HL.out]
        exact num_bad HD.out HC.out.1 HC.out.2 (by rcases H1.out with e | e; exact Or.inl e; exact Or.inr e.1) (by rw [HP.out]; exact hx))
      have HBAD := hid hbad
      clear hbad
      rw [HS.out] at *
      rcases hps with hp1 | ⟨hp1, hp2⟩ | ⟨hp1, hp2⟩
      · have HE := hid (HBAD.out (by omega))
        clear hup
        go_wp2_with (go_at_call 37; refine (HDG.out _).mono ?_; rintro e w1 ⟨rfl, rfl⟩)
        go_ret2
        exact ⟨_, _, rfl, ⟨by rw [HE.out.1, HE.out.2.2]; rfl, by rw [HE.out.2.1]⟩, hO⟩
      · have HE := hid (HBAD.out (by omega))
        clear hup
        go_wp2_with (go_at_call 37; refine (HDG.out _).mono ?_; rintro e w1 ⟨rfl, rfl⟩)
        go_ret2
        exact ⟨_, _, rfl, ⟨by rw [HE.out.1, HE.out.2.2]; rfl, by rw [HE.out.2.1]⟩, hO⟩
      · clear hup
        go_wp2_with (go_at_call 37; refine (HDG.out _).mono ?_; rintro e w1 ⟨rfl, rfl⟩)
        go_roundw
        case rel => exact ⟨i + 1, by omega, by rw [HP.out], by go_num, dig_up HC.out.1 HD.out HC.out.2, Or.inr ⟨by rw [HP.out]; omega, by rcases H1.out with e | e; exact hd48 e HD.out HC.out.1 HP.out (by omega); exact e.2⟩, (show diV (l.take (i + 1)) ≤ 768 by rw [HP.out]; omega), hO⟩
        case measure => simp [intOf]; omega
    · have hs0 : dsT T.data.toList = T.data.toList.take i := by
        rw [HL.out]
        refine ds_stop HD.out ?_
        rcases hc with e | ⟨_, c, h1, h2⟩
        · exact Or.inl (by rw [HZ.out, e]; exact Nat.le_refl _)
        · exact Or.inr ⟨c, h1, h2⟩
      have hiT : i ≤ T.size := by rw [HS.out]; exact hi
      have hi0 : (0 : Int) ≤ i := by omega
      have hi1 : (i : Int) ≤ ls := by omega
      have hst : ∀ j : Nat, i = j → ((j : Int) < ls → ∃ c, l[j]? = some c ∧ isD c = false) := by
        intro j e hj
        subst e
        rcases hc with hc | ⟨_, c, h1, h2⟩
        · omega
        · exact ⟨c, h1, h2⟩
      have HST := hid hst
      have hcs : ¬ ((i : Int) < ls) ∨ (i : Int) < ls := by omega
      have hres : ∃ (t2 : Int) (f2 : Bool) (R2 : ByteArray), t2 = t ∧ f2 = f ∧ R2 = R ∧ t2 = (q : Int) ∧ f2 = decide ((0 : Int) < i) ∧ R2 = T.extract i ls := by
        by_cases h0 : i = 0
        · subst h0
          obtain ⟨e1, e2, e3⟩ := tick_no HK.out (num_none hs0)
          have hq0 : q = 0 := by rw [← HQ.out]; rfl
          exact ⟨t, f, R, rfl, rfl, rfl, by rw [e1, hq0]; rfl, by rw [e3]; rfl, by rw [e2, ← HS.out, ext_all]⟩
        · have hn : numOk (dsT T.data.toList) := by
            have h1 := H1.out.resolve_left h0
            rw [HL.out] at hs0 ⊢
            exact num_good hs0 HD.out (by omega) (by rw [HZ.out]; exact hi) h1.2 HV.out
          obtain ⟨e1, e2, e3⟩ := tick_yes HK.out hs0 hiT hn
          rw [HL.out] at e1
          exact ⟨t, f, R, rfl, rfl, rfl, by rw [e1, HQ.out], by rw [e3, decide_eq_true (by omega)], by rw [e2, HS.out]⟩
      obtain ⟨t2, f2, R2, e1, e2, e3, e4, e5, e6⟩ := hres
      have HE := hid (And.intro (e1.symm.trans e4) (And.intro (e2.symm.trans e5) (e3.symm.trans e6)))
      clear e1 e2 e3 e4 e5 e6 hs0 hiT hst hc
      have hp0 : (0 : Int) < i ∨ ¬ ((0 : Int) < i) := by omega
      rcases hcs with hcs | hcs
      · go_wp2_with fail
        go_ret2
        exact ⟨_, _, rfl, ⟨by rw [HE.out.1, HE.out.2.1]; rcases hp0 with h | h <;> simp [h], by rw [HE.out.2.2]⟩, by (apply Own.cast; (focus ((repeat (first | (with_reducible exact hO) | (with_reducible apply Own.alloc) | (with_reducible apply Own.drew) | ((with_reducible apply Own.set_at); (focus (show _ ≤ _; omega))))))); (first | rfl | (simp only [upd, updI, List.map_cons, List.map_nil, eq_self, if_true, if_false, reduceIte, Nat.add_eq_left, Nat.left_eq_add, Nat.reduceEqDiff, List.set_cons_zero, List.set_cons_succ, hU, hF]; done) | (simp [upd, updI, List.map_cons, List.map_nil, eq_self, if_true, if_false, reduceIte, Nat.add_eq_left, Nat.left_eq_add, Nat.reduceEqDiff, List.set_cons_zero, List.set_cons_succ, hU, hF]; done)))⟩
      · obtain ⟨c, hc, hd⟩ := HST.out i rfl hcs
        have hix := fun W => index_at (s := T) (k := i) (c := c) (by rw [HL.out]; exact hc) W
        obtain ⟨z, hz⟩ : ∃ z : Nat, c.toNat = z := ⟨_, rfl⟩
        have HDG := hid (fun W => dig_is (z := (z : Int)) (f := false) (by
          rw [← hz]
          unfold isD at hd
          rw [← hd]
          congr 1 <;> (apply decide_eq_decide.2; omega)) W)
        simp only [hz] at hix
        clear hz hd hc
        go_wp2_with (go_at_call 37; refine (HDG.out _).mono ?_; rintro e w1 ⟨rfl, rfl⟩)
        go_ret2
        exact ⟨_, _, rfl, ⟨by rw [HE.out.1, HE.out.2.1]; rcases hp0 with h | h <;> simp [h], by rw [HE.out.2.2]⟩, by (apply Own.cast; (focus ((repeat (first | (with_reducible exact hO) | (with_reducible apply Own.alloc) | (with_reducible apply Own.drew) | ((with_reducible apply Own.set_at); (focus (show _ ≤ _; omega))))))); (first | rfl | (simp only [upd, updI, List.map_cons, List.map_nil, eq_self, if_true, if_false, reduceIte, Nat.add_eq_left, Nat.left_eq_add, Nat.reduceEqDiff, List.set_cons_zero, List.set_cons_succ, hU, hF]; done) | (simp [upd, updI, List.map_cons, List.map_nil, eq_self, if_true, if_false, reduceIte, Nat.add_eq_left, Nat.left_eq_add, Nat.reduceEqDiff, List.set_cons_zero, List.set_cons_succ, hU, hF]; done)))⟩

/- Chapter 8 in the program: the scanner reads a note. -/
open Go.RowKit

theorem tl_mk (l : List UInt8) : (⟨l.toArray⟩ : ByteArray).data.toList = l := rfl
theorem toL_eq (T : ByteArray) : T.toList = T.data.toList := ByteArray.toList_eq ..
theorem rpI_ok {B : ByteArray} (hs : B.size ≤ maxLen) (h : rdOk B = true) (w : World) :
    Calls Try.prog 25 #[.string B] w fun e w' => e = .returned (.tuple #[.agg #[.int .i64 (stI (byZ B 0)), .int .i64 (alZ (midB B)), .int .i64 (byZ B (B.size - 1) - 48)], .bool true]) ∧ Below w.heap.size w w' :=
  (readI_any B w hs).mono fun e w' ⟨he, hb⟩ => ⟨by rw [he, if_pos h], hb⟩
theorem rpI_no {B : ByteArray} (hs : B.size ≤ maxLen) (h : rdOk B = false) (w : World) :
    Calls Try.prog 25 #[.string B] w fun e w' => e = .returned (.tuple #[.agg #[.int .i64 0, .int .i64 0, .int .i64 0], .bool false]) ∧ Below w.heap.size w w' :=
  (readI_any B w hs).mono fun e w' ⟨he, hb⟩ => ⟨by rw [he, h]; rfl, hb⟩
/-- the note's struct as a value. -/
def ntV (x : Nt) : Value := .agg #[.bool x.r, .int .i64 x.s, .int .i64 x.a, .int .i64 x.o, .int .i64 x.t, .bool x.y]
/-- what reading a note leaves. -/
def NoteOut (b : Nat) (T : ByteArray) (L : List Item) (v : Value) (L' : List Item) : Prop :=
  ∃ (x : Nt) (T' : ByteArray) (ok : Bool), v = .tuple #[.agg #[.bool x.r, .int .i64 x.s, .int .i64 x.a, .int .i64 x.o, .int .i64 x.t, .bool x.y], .bool ok] ∧ L' = .blk b [.string T'] :: L ∧ T'.size ≤ T.size ∧ (ok = true → noS T.data.toList = some (x, T'.data.toList)) ∧ (ok = false → noS T.data.toList = none)
theorem cut_size {T N R : ByteArray} {f : Bool} (h : cutOk T N R f) : N.size ≤ T.size ∧ R.size ≤ T.size := by
  have h2 : T.data.toList.length = T.size := Array.length_toList
  rcases h with ⟨_, rfl, rfl, _⟩ | ⟨_, rfl, rfl, _⟩
  · constructor
    · show (hdT T.data.toList).length ≤ _
      have := hd_len T.data.toList
      omega
    · show (T.data.toList.drop _).length ≤ _
      rw [List.length_drop]; omega
  · exact ⟨Nat.le_refl _, Nat.zero_le _⟩
theorem tick_size {T R : ByteArray} {t : Int} {f : Bool} (h : tickOk T R t f) : R.size ≤ T.size := by
  have h2 : T.data.toList.length = T.size := Array.length_toList
  rcases h with ⟨_, _, rfl, _⟩ | ⟨_, _, rfl, _⟩
  · show (T.data.toList.drop _).length ≤ _
    rw [List.length_drop]; omega
  · exact Nat.le_refl _
theorem pre_size (T : ByteArray) (c : UInt8) : (⟨(Lib.trimPrefix T.data.toList [c]).toArray⟩ : ByteArray).size ≤ T.size := by
  have h2 : T.data.toList.length = T.size := Array.length_toList
  show (Lib.trimPrefix T.data.toList [c]).length ≤ _
  unfold Lib.trimPrefix
  split
  · rw [List.length_drop]; omega
  · omega
/-- how a text stands to the scanner, ahead of the ticks: no slash; a name that is none; a rest or a pitch. -/
theorem head_cases (T : ByteArray) : ∃ N R f, cutOk T N R f ∧ ((f = false ∧ noS T.data.toList = none) ∨ (f = true ∧ N ≠ ⟨#[114]⟩ ∧ rdOk N = false ∧ noS T.data.toList = none) ∨
    (f = true ∧ 47 ∈ T.data.toList ∧ R.data.toList = T.data.toList.drop ((hdT T.data.toList).length + 1) ∧ ((N = ⟨#[114]⟩ ∧ hdT T.data.toList = [114]) ∨ (N ≠ ⟨#[114]⟩ ∧ rdOk N = true ∧ hdT T.data.toList ≠ [114] ∧ (⟨(hdT T.data.toList).toArray⟩ : ByteArray) = N)))) := by
  by_cases h : 47 ∈ T.data.toList
  · refine ⟨_, _, true, Or.inl ⟨h, rfl, rfl, rfl⟩, Or.inr ?_⟩
    by_cases h1 : hdT T.data.toList = [114]
    · exact Or.inr ⟨rfl, h, rfl, Or.inl ⟨by rw [h1], h1⟩⟩
    · have hne : (⟨(hdT T.data.toList).toArray⟩ : ByteArray) ≠ ⟨#[114]⟩ := fun e => h1 (mk_inj (b := [114]) e)
      cases hr : rdOk ⟨(hdT T.data.toList).toArray⟩
      · exact Or.inl ⟨rfl, hne, rfl, no_head h1 hr⟩
      · exact Or.inr ⟨rfl, h, rfl, Or.inr ⟨hne, rfl, h1, rfl⟩⟩
  · exact ⟨_, _, false, Or.inr ⟨h, rfl, rfl, rfl⟩, Or.inl ⟨rfl, no_slash h⟩⟩
theorem tick_cases (R : ByteArray) : ∃ R2 t f, tickOk R R2 t f := by
  by_cases h : numOk (dsT R.data.toList)
  · exact ⟨_, _, true, Or.inl ⟨h, rfl, rfl, rfl⟩⟩
  · exact ⟨_, _, false, Or.inr ⟨h, rfl, rfl, rfl⟩⟩
/-- the note that is read, when its head and its ticks are. -/
theorem note_end {T R R2 : ByteArray} {t : Int} {r : Bool} {s a o : Int} (h47 : 47 ∈ T.data.toList) (hR : R.data.toList = T.data.toList.drop ((hdT T.data.toList).length + 1)) (hh : hdT T.data.toList = [114] ∨ rdOk ⟨(hdT T.data.toList).toArray⟩ = true)
    (hs : scH T.data.toList = ⟨r, s, a, o, 0, false⟩) (ht : tickOk R R2 t true) : (nvB ⟨r, s, a, o, t, Lib.hasPrefix R2.data.toList [126]⟩ = true → noS T.data.toList = some (⟨r, s, a, o, t, Lib.hasPrefix R2.data.toList [126]⟩, Lib.trimPrefix R2.data.toList [126])) ∧
      (nvB ⟨r, s, a, o, t, Lib.hasPrefix R2.data.toList [126]⟩ = false → noS T.data.toList = none) := by
  rcases ht with ⟨hn, rfl, rfl, _⟩ | ⟨_, _, _, e⟩
  · obtain ⟨q, hq⟩ : ∃ q, R.data.toList.drop (dsT R.data.toList).length = q := ⟨_, rfl⟩
    have hy : decide (q.head? = some 126) = Lib.hasPrefix q [126] ∧ (if decide (q.head? = some 126) = true then q.drop 1 else q) = Lib.trimPrefix q [126] := by
      by_cases e : q.head? = some 126
      · cases q with
        | nil => cases e
        | cons c q =>
          simp at e; subst e
          obtain ⟨p1, p2⟩ := pre_yes (c := 126) (l := q)
          exact ⟨by rw [p1]; rfl, by rw [p2]; rfl⟩
      · obtain ⟨p1, p2⟩ := pre_no (c := 126) (l := q) e
        exact ⟨by rw [p1, decide_eq_false e], by rw [p2, decide_eq_false e]; rfl⟩
    have := no_some (x := ⟨r, s, a, o, (diV (dsT R.data.toList) : Int), decide (q.head? = some 126)⟩) h47 hh hR.symm hn hq (by rw [hs])
    rw [hy.1] at this
    rw [tl_mk, hq]
    refine ⟨fun h => ?_, this.2⟩
    rw [this.1 h]
    simp only
    rw [← hy.1, hy.2]
  · cases e
theorem note_no {T R R2 : ByteArray} {t : Int} (hR : R.data.toList = T.data.toList.drop ((hdT T.data.toList).length + 1)) (ht : tickOk R R2 t false) : noS T.data.toList = none := by
  rcases ht with ⟨_, _, _, e⟩ | ⟨hn, _⟩
  · cases e
  · exact no_num hR.symm hn
theorem swap_hd {n : Nat} {B : World → Prop} {w : World} {x y : Item} {L : List Item} (h : Own n B w (x :: y :: L)) : Own n B w (y :: x :: L) := h.perm (.swap y x L)

theorem take_is {n b : Nat} {B : World → Prop} {W : World} {T T3 : ByteArray} {c : UInt8} {y : Bool} {L : List Item} (hO : Own n B W (.blk b [.string T] :: L)) (hy : Lib.hasPrefix T.data.toList [c] = y) (hT : (⟨(Lib.trimPrefix T.data.toList [c]).toArray⟩ : ByteArray) = T3) :
    Calls Try.prog 27 #[.pointer (some ⟨b, 0, none⟩), .string ⟨#[c]⟩] W (OwnOut n B fun v L' => v = .bool y ∧ L' = .blk b [.string T3] :: L) := by
  subst hy hT
  exact take_own hO
theorem nvI_is {r y b : Bool} {s a o t : Int} (h : nvB ⟨r, s, a, o, t, y⟩ = b) (W : World) :
    Calls Try.prog 28 #[.agg #[.bool r, .int .i64 s, .int .i64 a, .int .i64 o, .int .i64 t, .bool y]] W fun e w' => e = .returned (.bool b) ∧ Below W.heap.size W w' := by
  subst h
  exact nvI_any ⟨r, s, a, o, t, y⟩ W

set_option maxRecDepth 8000 in
set_option maxHeartbeats 8000000 in
theorem note_own {n b : Nat} {B : World → Prop} {W : World} {T : ByteArray} {L : List Item} (hO : Own n B W (.blk b [.string T] :: L)) (hs : T.size ≤ 2097152) :
    Calls Try.prog 15 #[.pointer (some ⟨b, 0, none⟩)] W (OwnOut n B (NoteOut b T L)) := by
  have hU := And.intro (upd_tail hO) (upd_fresh hO.2 (Nat.le_refl _))
  have hF := hO; (try simp only [Own, Item.Holds, apartI, CellsAt, Nat.reduceAdd, Nat.zero_add, List.mem_cons, List.not_mem_nil, or_false, forall_eq_or_imp, forall_eq, ne_eq, false_imp_iff, implies_true, and_true] at hF)
  obtain ⟨N, R, f, hcut, hk⟩ := head_cases T
  have hz := cut_size hcut
  obtain ⟨nz, hnz⟩ : ∃ nz, N.size = nz := ⟨_, rfl⟩
  obtain ⟨rz, hrz⟩ : ∃ rz, R.size = rz := ⟨_, rfl⟩
  obtain ⟨ls, hls⟩ : ∃ ls, T.size = ls := ⟨_, rfl⟩
  rw [hnz, hrz, hls] at hz
  rw [hls] at hs
  have HZ := hid (And.intro hnz (And.intro hrz hls))
  have HC := hid hcut
  clear hcut hnz hrz hls
  rcases hk with ⟨rfl, hno⟩ | ⟨rfl, hN, hrd, hno⟩ | ⟨rfl, h47, hR, hk⟩
  · have HN := hid hno
    clear hno
    go_enter Try.func15, Try.ntmps15
    go_wp2_with ((go_at_call 24; apply own_at hO; (repeat (first | (with_reducible exact hO) | (with_reducible apply Own.alloc) | (with_reducible apply Own.drew) | ((with_reducible apply Own.set_at); (focus (show _ ≤ _; omega))))); have hG := hF; clear hF; clear hO; intro hO; (try simp only [World.size_alloc1, World.size_drew, Nat.reduceAdd] at hO); (try simp only [upd, updI, List.map_cons, List.map_nil, eq_self, if_true, if_false, reduceIte, Nat.add_eq_left, Nat.left_eq_add, Nat.reduceEqDiff, List.set_cons_zero, List.set_cons_succ, hU, hG] at hO); clear hG; replace hO := swap_hd hO; refine own_callE hO (fun hW => name_own hW HC.out (by rw [HZ.out.2.2]; omega)) ?_; clear hO; rintro v L' w1 ⟨rfl, rfl⟩ hO; (try simp only [World.size_alloc1, World.size_drew, Nat.reduceAdd] at hO); (try simp only [upd, updI, List.map_cons, List.map_nil, eq_self, if_true, if_false, reduceIte, Nat.add_eq_left, Nat.left_eq_add, Nat.reduceEqDiff, List.set_cons_zero, List.set_cons_succ, hU] at hO); have hF := hO; (try simp only [Own, Item.Holds, apartI, CellsAt, Nat.reduceAdd, Nat.zero_add, List.mem_cons, List.not_mem_nil, or_false, forall_eq_or_imp, forall_eq, ne_eq, false_imp_iff, implies_true, and_true] at hF)); have hU := And.intro hU (upd_fresh hO.2.2 (Nat.le_refl _)))
    apply own_end hO
    (repeat (first | (with_reducible exact hO) | (with_reducible apply Own.alloc) | (with_reducible apply Own.drew) | ((with_reducible apply Own.set_at); (focus (show _ ≤ _; omega)))))
    have hG := hF; clear hF; clear hO; intro hO
    refine own_ret (v := .tuple #[.agg #[.bool false, .int .i64 0, .int .i64 0, .int .i64 0, .int .i64 0, .bool false], .bool false]) hO ?_ rfl (fun hO => (by (try simp only [World.size_alloc1, World.size_drew, Nat.reduceAdd] at hO); (try simp only [upd, updI, List.map_cons, List.map_nil, eq_self, if_true, if_false, reduceIte, Nat.add_eq_left, Nat.left_eq_add, Nat.reduceEqDiff, List.set_cons_zero, List.set_cons_succ, hU, hG] at hO); clear hG; exact ⟨_, _, rfl, ⟨⟨false, 0, 0, 0, 0, false⟩, R, false, rfl, rfl, (by rw [HZ.out.2.1, HZ.out.2.2]; omega), (fun e => by cases e), (fun _ => HN.out)⟩, Own.sub (.cons_cons _ (.cons _ (.refl _))) hO⟩))
    clear hO; intro w1 hO
    (try simp only [World.size_alloc1, World.size_drew, Nat.reduceAdd] at hO); (try simp only [upd, updI, List.map_cons, List.map_nil, eq_self, if_true, if_false, reduceIte, Nat.add_eq_left, Nat.left_eq_add, Nat.reduceEqDiff, List.set_cons_zero, List.set_cons_succ, hU, hG] at hO); clear hG
    have hF := hO; (try simp only [Own, Item.Holds, apartI, CellsAt, Nat.reduceAdd, Nat.zero_add, List.mem_cons, List.not_mem_nil, or_false, forall_eq_or_imp, forall_eq, ne_eq, false_imp_iff, implies_true, and_true] at hF)
    simp [results, Try.results15, go_sem, hF]
  · have HN := hid hno
    have HP := hid (fun W => rpI_no (by rw [HZ.out.1]; unfold maxLen; omega) hrd W)
    have hbt := str_ne hN; rw [toL_r] at hbt
    clear hno hrd hN
    go_enter Try.func15, Try.ntmps15
    go_wp2_with (first | ((go_at_call 24; apply own_at hO; (repeat (first | (with_reducible exact hO) | (with_reducible apply Own.alloc) | (with_reducible apply Own.drew) | ((with_reducible apply Own.set_at); (focus (show _ ≤ _; omega))))); have hG := hF; clear hF; clear hO; intro hO; (try simp only [World.size_alloc1, World.size_drew, Nat.reduceAdd] at hO); (try simp only [upd, updI, List.map_cons, List.map_nil, eq_self, if_true, if_false, reduceIte, Nat.add_eq_left, Nat.left_eq_add, Nat.reduceEqDiff, List.set_cons_zero, List.set_cons_succ, hU, hG] at hO); clear hG; replace hO := swap_hd hO; refine own_callE hO (fun hW => name_own hW HC.out (by rw [HZ.out.2.2]; omega)) ?_; clear hO; rintro v L' w1 ⟨rfl, rfl⟩ hO; (try simp only [World.size_alloc1, World.size_drew, Nat.reduceAdd] at hO); (try simp only [upd, updI, List.map_cons, List.map_nil, eq_self, if_true, if_false, reduceIte, Nat.add_eq_left, Nat.left_eq_add, Nat.reduceEqDiff, List.set_cons_zero, List.set_cons_succ, hU] at hO); have hF := hO; (try simp only [Own, Item.Holds, apartI, CellsAt, Nat.reduceAdd, Nat.zero_add, List.mem_cons, List.not_mem_nil, or_false, forall_eq_or_imp, forall_eq, ne_eq, false_imp_iff, implies_true, and_true] at hF)); have hU := And.intro hU (upd_fresh hO.2.2 (Nat.le_refl _))) | (go_at_call 25; apply own_at hO; (repeat (first | (with_reducible exact hO) | (with_reducible apply Own.alloc) | (with_reducible apply Own.drew) | ((with_reducible apply Own.set_at); (focus (show _ ≤ _; omega))))); have hG := hF; clear hF; clear hO; intro hO; refine own_call hO (fun hB => HP.out _) ?_; clear hO; intro wb hO; (try simp only [World.size_alloc1, World.size_drew, Nat.reduceAdd] at hO); (try simp only [upd, updI, List.map_cons, List.map_nil, eq_self, if_true, if_false, reduceIte, Nat.add_eq_left, Nat.left_eq_add, Nat.reduceEqDiff, List.set_cons_zero, List.set_cons_succ, hU, hG] at hO); clear hG; have hF := hO; (try simp only [Own, Item.Holds, apartI, CellsAt, Nat.reduceAdd, Nat.zero_add, List.mem_cons, List.not_mem_nil, or_false, forall_eq_or_imp, forall_eq, ne_eq, false_imp_iff, implies_true, and_true] at hF)))
    apply own_end hO
    (repeat (first | (with_reducible exact hO) | (with_reducible apply Own.alloc) | (with_reducible apply Own.drew) | ((with_reducible apply Own.set_at); (focus (show _ ≤ _; omega)))))
    have hG := hF; clear hF; clear hO; intro hO
    refine own_ret (v := .tuple #[.agg #[.bool false, .int .i64 0, .int .i64 0, .int .i64 0, .int .i64 0, .bool false], .bool false]) hO ?_ rfl (fun hO => (by (try simp only [World.size_alloc1, World.size_drew, Nat.reduceAdd] at hO); (try simp only [upd, updI, List.map_cons, List.map_nil, eq_self, if_true, if_false, reduceIte, Nat.add_eq_left, Nat.left_eq_add, Nat.reduceEqDiff, List.set_cons_zero, List.set_cons_succ, hU, hG] at hO); clear hG; exact ⟨_, _, rfl, ⟨⟨false, 0, 0, 0, 0, false⟩, R, false, rfl, rfl, (by rw [HZ.out.2.1, HZ.out.2.2]; omega), (fun e => by cases e), (fun _ => HN.out)⟩, Own.sub (.cons _ (.cons_cons _ (.cons _ (.refl _)))) hO⟩))
    clear hO; intro w1 hO
    (try simp only [World.size_alloc1, World.size_drew, Nat.reduceAdd] at hO); (try simp only [upd, updI, List.map_cons, List.map_nil, eq_self, if_true, if_false, reduceIte, Nat.add_eq_left, Nat.left_eq_add, Nat.reduceEqDiff, List.set_cons_zero, List.set_cons_succ, hU, hG] at hO); clear hG
    have hF := hO; (try simp only [Own, Item.Holds, apartI, CellsAt, Nat.reduceAdd, Nat.zero_add, List.mem_cons, List.not_mem_nil, or_false, forall_eq_or_imp, forall_eq, ne_eq, false_imp_iff, implies_true, and_true] at hF)
    simp [results, Try.results15, go_sem, hF]
  · obtain ⟨R2, t, f2, htk⟩ := tick_cases R
    have hz2 := tick_size htk
    obtain ⟨r2, hr2⟩ : ∃ r2, R2.size = r2 := ⟨_, rfl⟩
    rw [hr2, HZ.out.2.1] at hz2
    have HZ2 := hid hr2
    have HT := hid htk
    obtain ⟨r, s, a, o, hsc, hh, hk2⟩ : ∃ r s a o, scH T.data.toList = ⟨r, s, a, o, 0, false⟩ ∧ (hdT T.data.toList = [114] ∨ rdOk ⟨(hdT T.data.toList).toArray⟩ = true) ∧ ((N = ⟨#[114]⟩ ∧ r = true ∧ s = 0 ∧ a = 0 ∧ o = 0) ∨ (N ≠ ⟨#[114]⟩ ∧ r = false ∧ ∀ W, Calls Try.prog 25 #[.string N] W fun e w' => e = .returned (.tuple #[.agg #[.int .i64 s, .int .i64 a, .int .i64 o], .bool true]) ∧ Below W.heap.size W w')) := by
      rcases hk with ⟨e1, e2⟩ | ⟨e1, e2, e3, e4⟩
      · exact ⟨_, _, _, _, scH_one e2, Or.inl e2, Or.inl ⟨e1, rfl, rfl, rfl, rfl⟩⟩
      · exact ⟨_, _, _, _, scH_ok e4 e3 e2, Or.inr (by rw [e4]; exact e2), Or.inr ⟨e1, rfl, fun W => rpI_ok (by rw [HZ.out.1]; unfold maxLen; omega) e2 W⟩⟩
    obtain ⟨y, hy⟩ : ∃ y, Lib.hasPrefix R2.data.toList [126] = y := ⟨_, rfl⟩
    obtain ⟨T3, hT3⟩ : ∃ T3, (⟨(Lib.trimPrefix R2.data.toList [126]).toArray⟩ : ByteArray) = T3 := ⟨_, rfl⟩
    have hz3 := pre_size R2 126
    rw [hT3, hr2] at hz3
    obtain ⟨r3, hr3⟩ : ∃ r3, T3.size = r3 := ⟨_, rfl⟩
    rw [hr3] at hz3
    have HZ3 := hid hr3
    have HY := hid (And.intro hy hT3)
    clear hr2 hk hr3
    cases f2
    · have HN := hid (note_no hR htk)
      clear hR htk hsc hh h47 hy hT3
      rcases hk2 with ⟨hN, rfl, rfl, rfl, rfl⟩ | ⟨hN, rfl, hP⟩
      · have hbt := str_eq hN; rw [toL_r] at hbt
        clear hN
        go_enter Try.func15, Try.ntmps15
        go_wp2_with (first | ((go_at_call 24; apply own_at hO; (repeat (first | (with_reducible exact hO) | (with_reducible apply Own.alloc) | (with_reducible apply Own.drew) | ((with_reducible apply Own.set_at); (focus (show _ ≤ _; omega))))); have hG := hF; clear hF; clear hO; intro hO; (try simp only [World.size_alloc1, World.size_drew, Nat.reduceAdd] at hO); (try simp only [upd, updI, List.map_cons, List.map_nil, eq_self, if_true, if_false, reduceIte, Nat.add_eq_left, Nat.left_eq_add, Nat.reduceEqDiff, List.set_cons_zero, List.set_cons_succ, hU, hG] at hO); clear hG; replace hO := swap_hd hO; refine own_callE hO (fun hW => name_own hW HC.out (by rw [HZ.out.2.2]; omega)) ?_; clear hO; rintro v L' w1 ⟨rfl, rfl⟩ hO; (try simp only [World.size_alloc1, World.size_drew, Nat.reduceAdd] at hO); (try simp only [upd, updI, List.map_cons, List.map_nil, eq_self, if_true, if_false, reduceIte, Nat.add_eq_left, Nat.left_eq_add, Nat.reduceEqDiff, List.set_cons_zero, List.set_cons_succ, hU] at hO); have hF := hO; (try simp only [Own, Item.Holds, apartI, CellsAt, Nat.reduceAdd, Nat.zero_add, List.mem_cons, List.not_mem_nil, or_false, forall_eq_or_imp, forall_eq, ne_eq, false_imp_iff, implies_true, and_true] at hF)); have hU := And.intro hU (upd_fresh hO.2.2 (Nat.le_refl _))) | (go_at_call 26; apply own_at hO; (repeat (first | (with_reducible exact hO) | (with_reducible apply Own.alloc) | (with_reducible apply Own.drew) | ((with_reducible apply Own.set_at); (focus (show _ ≤ _; omega))))); have hG := hF; clear hF; clear hO; intro hO; (try simp only [World.size_alloc1, World.size_drew, Nat.reduceAdd] at hO); (try simp only [upd, updI, List.map_cons, List.map_nil, eq_self, if_true, if_false, reduceIte, Nat.add_eq_left, Nat.left_eq_add, Nat.reduceEqDiff, List.set_cons_zero, List.set_cons_succ, hU, hG] at hO); clear hG; replace hO := swap_hd hO; refine own_callE hO (fun hW => ticks_own hW HT.out (by rw [HZ.out.2.1]; omega)) ?_; clear hO; rintro v L' w1 ⟨rfl, rfl⟩ hO; (try simp only [World.size_alloc1, World.size_drew, Nat.reduceAdd] at hO); (try simp only [upd, updI, List.map_cons, List.map_nil, eq_self, if_true, if_false, reduceIte, Nat.add_eq_left, Nat.left_eq_add, Nat.reduceEqDiff, List.set_cons_zero, List.set_cons_succ, hU] at hO); have hF := hO; (try simp only [Own, Item.Holds, apartI, CellsAt, Nat.reduceAdd, Nat.zero_add, List.mem_cons, List.not_mem_nil, or_false, forall_eq_or_imp, forall_eq, ne_eq, false_imp_iff, implies_true, and_true] at hF)))
        apply own_end hO
        (repeat (first | (with_reducible exact hO) | (with_reducible apply Own.alloc) | (with_reducible apply Own.drew) | ((with_reducible apply Own.set_at); (focus (show _ ≤ _; omega)))))
        have hG := hF; clear hF; clear hO; intro hO
        refine own_ret (v := .tuple #[.agg #[.bool false, .int .i64 0, .int .i64 0, .int .i64 0, .int .i64 0, .bool false], .bool false]) hO ?_ rfl (fun hO => (by (try simp only [World.size_alloc1, World.size_drew, Nat.reduceAdd] at hO); (try simp only [upd, updI, List.map_cons, List.map_nil, eq_self, if_true, if_false, reduceIte, Nat.add_eq_left, Nat.left_eq_add, Nat.reduceEqDiff, List.set_cons_zero, List.set_cons_succ, hU, hG] at hO); clear hG; exact ⟨_, _, rfl, ⟨⟨false, 0, 0, 0, 0, false⟩, R2, false, rfl, rfl, (by rw [HZ2.out, HZ.out.2.2]; omega), (fun e => by cases e), (fun _ => HN.out)⟩, Own.sub (.cons_cons _ (.cons _ (.cons _ (.refl _)))) hO⟩))
        clear hO; intro w1 hO
        (try simp only [World.size_alloc1, World.size_drew, Nat.reduceAdd] at hO); (try simp only [upd, updI, List.map_cons, List.map_nil, eq_self, if_true, if_false, reduceIte, Nat.add_eq_left, Nat.left_eq_add, Nat.reduceEqDiff, List.set_cons_zero, List.set_cons_succ, hU, hG] at hO); clear hG
        have hF := hO; (try simp only [Own, Item.Holds, apartI, CellsAt, Nat.reduceAdd, Nat.zero_add, List.mem_cons, List.not_mem_nil, or_false, forall_eq_or_imp, forall_eq, ne_eq, false_imp_iff, implies_true, and_true] at hF)
        simp [results, Try.results15, go_sem, hF]
      · have hbt := str_ne hN; rw [toL_r] at hbt
        have HP := hid hP
        clear hN hP
        go_enter Try.func15, Try.ntmps15
        go_wp2_with (first | ((go_at_call 24; apply own_at hO; (repeat (first | (with_reducible exact hO) | (with_reducible apply Own.alloc) | (with_reducible apply Own.drew) | ((with_reducible apply Own.set_at); (focus (show _ ≤ _; omega))))); have hG := hF; clear hF; clear hO; intro hO; (try simp only [World.size_alloc1, World.size_drew, Nat.reduceAdd] at hO); (try simp only [upd, updI, List.map_cons, List.map_nil, eq_self, if_true, if_false, reduceIte, Nat.add_eq_left, Nat.left_eq_add, Nat.reduceEqDiff, List.set_cons_zero, List.set_cons_succ, hU, hG] at hO); clear hG; replace hO := swap_hd hO; refine own_callE hO (fun hW => name_own hW HC.out (by rw [HZ.out.2.2]; omega)) ?_; clear hO; rintro v L' w1 ⟨rfl, rfl⟩ hO; (try simp only [World.size_alloc1, World.size_drew, Nat.reduceAdd] at hO); (try simp only [upd, updI, List.map_cons, List.map_nil, eq_self, if_true, if_false, reduceIte, Nat.add_eq_left, Nat.left_eq_add, Nat.reduceEqDiff, List.set_cons_zero, List.set_cons_succ, hU] at hO); have hF := hO; (try simp only [Own, Item.Holds, apartI, CellsAt, Nat.reduceAdd, Nat.zero_add, List.mem_cons, List.not_mem_nil, or_false, forall_eq_or_imp, forall_eq, ne_eq, false_imp_iff, implies_true, and_true] at hF)); have hU := And.intro hU (upd_fresh hO.2.2 (Nat.le_refl _))) | (go_at_call 25; apply own_at hO; (repeat (first | (with_reducible exact hO) | (with_reducible apply Own.alloc) | (with_reducible apply Own.drew) | ((with_reducible apply Own.set_at); (focus (show _ ≤ _; omega))))); have hG := hF; clear hF; clear hO; intro hO; refine own_call hO (fun hB => HP.out _) ?_; clear hO; intro wb hO; (try simp only [World.size_alloc1, World.size_drew, Nat.reduceAdd] at hO); (try simp only [upd, updI, List.map_cons, List.map_nil, eq_self, if_true, if_false, reduceIte, Nat.add_eq_left, Nat.left_eq_add, Nat.reduceEqDiff, List.set_cons_zero, List.set_cons_succ, hU, hG] at hO); clear hG; have hF := hO; (try simp only [Own, Item.Holds, apartI, CellsAt, Nat.reduceAdd, Nat.zero_add, List.mem_cons, List.not_mem_nil, or_false, forall_eq_or_imp, forall_eq, ne_eq, false_imp_iff, implies_true, and_true] at hF)) | (go_at_call 26; apply own_at hO; (repeat (first | (with_reducible exact hO) | (with_reducible apply Own.alloc) | (with_reducible apply Own.drew) | ((with_reducible apply Own.set_at); (focus (show _ ≤ _; omega))))); have hG := hF; clear hF; clear hO; intro hO; (try simp only [World.size_alloc1, World.size_drew, Nat.reduceAdd] at hO); (try simp only [upd, updI, List.map_cons, List.map_nil, eq_self, if_true, if_false, reduceIte, Nat.add_eq_left, Nat.left_eq_add, Nat.reduceEqDiff, List.set_cons_zero, List.set_cons_succ, hU, hG] at hO); clear hG; replace hO := swap_hd hO; refine own_callE hO (fun hW => ticks_own hW HT.out (by rw [HZ.out.2.1]; omega)) ?_; clear hO; rintro v L' w1 ⟨rfl, rfl⟩ hO; (try simp only [World.size_alloc1, World.size_drew, Nat.reduceAdd] at hO); (try simp only [upd, updI, List.map_cons, List.map_nil, eq_self, if_true, if_false, reduceIte, Nat.add_eq_left, Nat.left_eq_add, Nat.reduceEqDiff, List.set_cons_zero, List.set_cons_succ, hU] at hO); have hF := hO; (try simp only [Own, Item.Holds, apartI, CellsAt, Nat.reduceAdd, Nat.zero_add, List.mem_cons, List.not_mem_nil, or_false, forall_eq_or_imp, forall_eq, ne_eq, false_imp_iff, implies_true, and_true] at hF)))
        apply own_end hO
        (repeat (first | (with_reducible exact hO) | (with_reducible apply Own.alloc) | (with_reducible apply Own.drew) | ((with_reducible apply Own.set_at); (focus (show _ ≤ _; omega)))))
        have hG := hF; clear hF; clear hO; intro hO
        refine own_ret (v := .tuple #[.agg #[.bool false, .int .i64 0, .int .i64 0, .int .i64 0, .int .i64 0, .bool false], .bool false]) hO ?_ rfl (fun hO => (by (try simp only [World.size_alloc1, World.size_drew, Nat.reduceAdd] at hO); (try simp only [upd, updI, List.map_cons, List.map_nil, eq_self, if_true, if_false, reduceIte, Nat.add_eq_left, Nat.left_eq_add, Nat.reduceEqDiff, List.set_cons_zero, List.set_cons_succ, hU, hG] at hO); clear hG; exact ⟨_, _, rfl, ⟨⟨false, 0, 0, 0, 0, false⟩, R2, false, rfl, rfl, (by rw [HZ2.out, HZ.out.2.2]; omega), (fun e => by cases e), (fun _ => HN.out)⟩, Own.sub (.cons_cons _ (.cons _ (.cons _ (.refl _)))) hO⟩))
        clear hO; intro w1 hO
        (try simp only [World.size_alloc1, World.size_drew, Nat.reduceAdd] at hO); (try simp only [upd, updI, List.map_cons, List.map_nil, eq_self, if_true, if_false, reduceIte, Nat.add_eq_left, Nat.left_eq_add, Nat.reduceEqDiff, List.set_cons_zero, List.set_cons_succ, hU, hG] at hO); clear hG
        have hF := hO; (try simp only [Own, Item.Holds, apartI, CellsAt, Nat.reduceAdd, Nat.zero_add, List.mem_cons, List.not_mem_nil, or_false, forall_eq_or_imp, forall_eq, ne_eq, false_imp_iff, implies_true, and_true] at hF)
        simp [results, Try.results15, go_sem, hF]
    · have hen := note_end h47 hR hh hsc htk
      rw [hy] at hen
      have HN := hid hen
      obtain ⟨bv, hbv⟩ : ∃ bv, nvB ⟨r, s, a, o, t, y⟩ = bv := ⟨_, rfl⟩
      have HBV := hid hbv
      have HNV := hid (fun W => nvI_is hbv W)
      have HE := hid (show (bv = true → noS T.data.toList = some (⟨r, s, a, o, t, y⟩, T3.data.toList)) ∧ (bv = false → noS T.data.toList = none) from ⟨fun e => by rw [hen.1 (hbv.trans e), ← hT3], fun e => hen.2 (hbv.trans e)⟩)
      clear hR htk hsc hh h47 hy hT3 hen hbv
      rcases hk2 with ⟨hN, rfl, rfl, rfl, rfl⟩ | ⟨hN, rfl, hP⟩
      · have hbt := str_eq hN; rw [toL_r] at hbt
        clear hN
        go_enter Try.func15, Try.ntmps15
        go_wp2_with (first | ((go_at_call 24; apply own_at hO; (repeat (first | (with_reducible exact hO) | (with_reducible apply Own.alloc) | (with_reducible apply Own.drew) | ((with_reducible apply Own.set_at); (focus (show _ ≤ _; omega))))); have hG := hF; clear hF; clear hO; intro hO; (try simp only [World.size_alloc1, World.size_drew, Nat.reduceAdd] at hO); (try simp only [upd, updI, List.map_cons, List.map_nil, eq_self, if_true, if_false, reduceIte, Nat.add_eq_left, Nat.left_eq_add, Nat.reduceEqDiff, List.set_cons_zero, List.set_cons_succ, hU, hG] at hO); clear hG; replace hO := swap_hd hO; refine own_callE hO (fun hW => name_own hW HC.out (by rw [HZ.out.2.2]; omega)) ?_; clear hO; rintro v L' w1 ⟨rfl, rfl⟩ hO; (try simp only [World.size_alloc1, World.size_drew, Nat.reduceAdd] at hO); (try simp only [upd, updI, List.map_cons, List.map_nil, eq_self, if_true, if_false, reduceIte, Nat.add_eq_left, Nat.left_eq_add, Nat.reduceEqDiff, List.set_cons_zero, List.set_cons_succ, hU] at hO); have hF := hO; (try simp only [Own, Item.Holds, apartI, CellsAt, Nat.reduceAdd, Nat.zero_add, List.mem_cons, List.not_mem_nil, or_false, forall_eq_or_imp, forall_eq, ne_eq, false_imp_iff, implies_true, and_true] at hF)); have hU := And.intro hU (upd_fresh hO.2.2 (Nat.le_refl _))) | (go_at_call 26; apply own_at hO; (repeat (first | (with_reducible exact hO) | (with_reducible apply Own.alloc) | (with_reducible apply Own.drew) | ((with_reducible apply Own.set_at); (focus (show _ ≤ _; omega))))); have hG := hF; clear hF; clear hO; intro hO; (try simp only [World.size_alloc1, World.size_drew, Nat.reduceAdd] at hO); (try simp only [upd, updI, List.map_cons, List.map_nil, eq_self, if_true, if_false, reduceIte, Nat.add_eq_left, Nat.left_eq_add, Nat.reduceEqDiff, List.set_cons_zero, List.set_cons_succ, hU, hG] at hO); clear hG; replace hO := swap_hd hO; refine own_callE hO (fun hW => ticks_own hW HT.out (by rw [HZ.out.2.1]; omega)) ?_; clear hO; rintro v L' w1 ⟨rfl, rfl⟩ hO; (try simp only [World.size_alloc1, World.size_drew, Nat.reduceAdd] at hO); (try simp only [upd, updI, List.map_cons, List.map_nil, eq_self, if_true, if_false, reduceIte, Nat.add_eq_left, Nat.left_eq_add, Nat.reduceEqDiff, List.set_cons_zero, List.set_cons_succ, hU] at hO); have hF := hO; (try simp only [Own, Item.Holds, apartI, CellsAt, Nat.reduceAdd, Nat.zero_add, List.mem_cons, List.not_mem_nil, or_false, forall_eq_or_imp, forall_eq, ne_eq, false_imp_iff, implies_true, and_true] at hF)) | (go_at_call 27; apply own_at hO; (repeat (first | (with_reducible exact hO) | (with_reducible apply Own.alloc) | (with_reducible apply Own.drew) | ((with_reducible apply Own.set_at); (focus (show _ ≤ _; omega))))); have hG := hF; clear hF; clear hO; intro hO; (try simp only [World.size_alloc1, World.size_drew, Nat.reduceAdd] at hO); (try simp only [upd, updI, List.map_cons, List.map_nil, eq_self, if_true, if_false, reduceIte, Nat.add_eq_left, Nat.left_eq_add, Nat.reduceEqDiff, List.set_cons_zero, List.set_cons_succ, hU, hG] at hO); clear hG; refine own_callE hO (fun hW => take_is hW HY.out.1 HY.out.2) ?_; clear hO; rintro v L' w1 ⟨rfl, rfl⟩ hO; (try simp only [World.size_alloc1, World.size_drew, Nat.reduceAdd] at hO); (try simp only [upd, updI, List.map_cons, List.map_nil, eq_self, if_true, if_false, reduceIte, Nat.add_eq_left, Nat.left_eq_add, Nat.reduceEqDiff, List.set_cons_zero, List.set_cons_succ, hU] at hO); have hF := hO; (try simp only [Own, Item.Holds, apartI, CellsAt, Nat.reduceAdd, Nat.zero_add, List.mem_cons, List.not_mem_nil, or_false, forall_eq_or_imp, forall_eq, ne_eq, false_imp_iff, implies_true, and_true] at hF)))
        apply own_code hO
        (repeat (first | (with_reducible exact hO) | (with_reducible apply Own.alloc) | (with_reducible apply Own.drew) | ((with_reducible apply Own.set_at); (focus (show _ ≤ _; omega)))))
        have hG := hF; clear hF; clear hO; intro hO
        (try simp only [World.size_alloc1, World.size_drew, Nat.reduceAdd] at hO); (try simp only [upd, updI, List.map_cons, List.map_nil, eq_self, if_true, if_false, reduceIte, Nat.add_eq_left, Nat.left_eq_add, Nat.reduceEqDiff, List.set_cons_zero, List.set_cons_succ, hU, hG] at hO); clear hG
        refine region_own (X := fun _ => True) [3] (by kernel_rfl) (hO) (trivial) (by first | exact XStab.true | exact XStab.rd | exact XStab.rdIf) ?_
        clear hO
        refine Sim.take (i := 0) (d := some 42) (v := ?_) rfl rfl (by kernel_rfl) (by kernel_rfl) (by kernel_rfl) (by kernel_rfl) (fun _ _ _ h => h) (by first | exact XStab.true | exact XStab.rd | exact XStab.rdIf) ?_ ?_
        rotate_left
        · first | refine Or.inl ⟨by rfl, fun w hO => ?_⟩ | (refine Or.inr ⟨by rfl, ?_⟩; with_reducible rfl)
          first | done | (have hF := hO; (try simp only [Own, Item.Holds, apartI, CellsAt, Nat.reduceAdd, Nat.zero_add, List.mem_cons, List.not_mem_nil, or_false, forall_eq_or_imp, forall_eq, ne_eq, false_imp_iff, implies_true, and_true] at hF); refine Out.same ?_; go_simp; all_goals with_reducible rfl)
        try simp only [Act.put, List.setIfInBounds_toArray, List.set_cons_zero, List.set_cons_succ]
        refine Sim.one' (i := 1) (oi := { dst := some 43, op := Op.load 25 (Operand.tmp 6), type := 25, pos := "l8_texts.go:118", after := #[], guard := none }) (by kernel_rfl) rfl (by rfl) (fun w0 hO hX K hK => ?_)
        have hF := hO; (try simp only [Own, Item.Holds, apartI, CellsAt, Nat.reduceAdd, Nat.zero_add, List.mem_cons, List.not_mem_nil, or_false, forall_eq_or_imp, forall_eq, ne_eq, false_imp_iff, implies_true, and_true] at hF)
        go_simp
        apply hK _ _ _ (fun _ => True)
        (repeat (first | (with_reducible exact hO) | (with_reducible apply Own.alloc) | (with_reducible apply Own.drew) | ((with_reducible apply Own.set_at); (focus (show _ ≤ _; omega)))))
        · first | exact trivial | exact hX | exact hX.below (below1 _) | exact RdIf.gone | exact hX.keep ((Below.refl _ _).setCell (by first | omega | (dsimp only; omega)) _)
        · exact (by first | exact XStab.true | exact XStab.rd | exact XStab.rdIf)
        · first | exact fun _ _ h => h.2 | exact fun _ _ h => h | exact fun h => absurd h (by decide)
        try simp only [upd, updI, List.map_cons, List.map_nil, eq_self, if_true, if_false, reduceIte, Nat.add_eq_left, Nat.left_eq_add, Nat.reduceEqDiff, List.set_cons_zero, List.set_cons_succ, hU, hF]
        clear hK K hF hO
        try simp only [Act.put, List.setIfInBounds_toArray, List.set_cons_zero, List.set_cons_succ]
        refine Sim.take (i := 2) (d := some 44) (v := ?_) rfl rfl (by kernel_rfl) (by kernel_rfl) (by kernel_rfl) (by kernel_rfl) (fun _ _ _ h => h) (by first | exact XStab.true | exact XStab.rd | exact XStab.rdIf) ?_ ?_
        rotate_left
        · first | refine Or.inl ⟨by rfl, fun w hO => ?_⟩ | (refine Or.inr ⟨by rfl, ?_⟩; with_reducible rfl)
          first | done | (refine Out.call (f := 28) (args := ?_) ?_ ?_; rotate_left; (focus (go_simp; all_goals with_reducible rfl)); exact HNV.out _)
        try simp only [Act.put, List.setIfInBounds_toArray, List.set_cons_zero, List.set_cons_succ]
        refine Sim.one' (i := 3) (oi := { dst := none, op := Op.store 25 (Operand.tmp 2) (Operand.tmp 42), type := 0, pos := "l8_texts.go:118", after := #[{ on := 0, ground := Ground.data }, { on := 2, ground := Ground.chain }, { on := 0, ground := Ground.phase }, { on := 1, ground := Ground.textOnly Departure.lateStores }, { on := 2, ground := Ground.textOnly Departure.lateStoresUnsure }], guard := none }) (by kernel_rfl) rfl (by rfl) (fun w0 hO hX K hK => ?_)
        have hF := hO; (try simp only [Own, Item.Holds, apartI, CellsAt, Nat.reduceAdd, Nat.zero_add, List.mem_cons, List.not_mem_nil, or_false, forall_eq_or_imp, forall_eq, ne_eq, false_imp_iff, implies_true, and_true] at hF)
        go_simp
        apply hK _ _ _ (fun _ => True)
        (repeat (first | (with_reducible exact hO) | (with_reducible apply Own.alloc) | (with_reducible apply Own.drew) | ((with_reducible apply Own.set_at); (focus (show _ ≤ _; omega)))))
        · first | exact trivial | exact hX | exact hX.below (below1 _) | exact RdIf.gone | exact hX.keep ((Below.refl _ _).setCell (by first | omega | (dsimp only; omega)) _)
        · exact (by first | exact XStab.true | exact XStab.rd | exact XStab.rdIf)
        · first | exact fun _ _ h => h.2 | exact fun _ _ h => h | exact fun h => absurd h (by decide)
        try simp only [upd, updI, List.map_cons, List.map_nil, eq_self, if_true, if_false, reduceIte, Nat.add_eq_left, Nat.left_eq_add, Nat.reduceEqDiff, List.set_cons_zero, List.set_cons_succ, hU, hF]
        clear hK K hF hO
        try simp only [Act.put, List.setIfInBounds_toArray, List.set_cons_zero, List.set_cons_succ]
        refine Sim.takeP (i := 4) (d := some 3) (v := ?_) rfl rfl (by kernel_rfl) (by kernel_rfl) (by kernel_rfl) (fun _ _ _ h => h) (by first | exact XStab.true | exact XStab.rd | exact XStab.rdIf) ?_ ?_
        rotate_left
        · first | refine Or.inl ⟨by rfl, fun w => ?_⟩ | (refine Or.inr ⟨by rfl, ?_⟩; with_reducible rfl)
          first | done | (go_simp; all_goals with_reducible rfl)
        try simp only [Act.put, List.setIfInBounds_toArray, List.set_cons_zero, List.set_cons_succ]
        refine Sim.done (by kernel_rfl) (fun w1 hO hX => ?_) _
        (try simp only [World.size_alloc1, World.size_drew, Nat.reduceAdd] at hO); (try simp only [upd, updI, List.map_cons, List.map_nil, eq_self, if_true, if_false, reduceIte, Nat.add_eq_left, Nat.left_eq_add, Nat.reduceEqDiff, List.set_cons_zero, List.set_cons_succ, hU] at hO)
        have hF := hO; (try simp only [Own, Item.Holds, apartI, CellsAt, Nat.reduceAdd, Nat.zero_add, List.mem_cons, List.not_mem_nil, or_false, forall_eq_or_imp, forall_eq, ne_eq, false_imp_iff, implies_true, and_true] at hF)
        go_wp2_with fail
        apply own_end hO
        (repeat (first | (with_reducible exact hO) | (with_reducible apply Own.alloc) | (with_reducible apply Own.drew) | ((with_reducible apply Own.set_at); (focus (show _ ≤ _; omega)))))
        have hG := hF; clear hF; clear hO; intro hO
        refine own_ret (v := .tuple #[.agg #[.bool true, .int .i64 0, .int .i64 0, .int .i64 0, .int .i64 t, .bool y], .bool bv]) hO ?_ rfl (fun hO => (by (try simp only [World.size_alloc1, World.size_drew, Nat.reduceAdd] at hO); (try simp only [upd, updI, List.map_cons, List.map_nil, eq_self, if_true, if_false, reduceIte, Nat.add_eq_left, Nat.left_eq_add, Nat.reduceEqDiff, List.set_cons_zero, List.set_cons_succ, hU, hG] at hO); clear hG; exact ⟨_, _, rfl, ⟨⟨true, 0, 0, 0, t, y⟩, T3, bv, rfl, rfl, (by rw [HZ3.out, HZ.out.2.2]; omega), HE.out.1, HE.out.2⟩, Own.sub (.cons_cons _ (.cons _ (.cons _ (.refl _)))) hO⟩))
        clear hO; intro w1 hO
        (try simp only [World.size_alloc1, World.size_drew, Nat.reduceAdd] at hO); (try simp only [upd, updI, List.map_cons, List.map_nil, eq_self, if_true, if_false, reduceIte, Nat.add_eq_left, Nat.left_eq_add, Nat.reduceEqDiff, List.set_cons_zero, List.set_cons_succ, hU, hG] at hO); clear hG
        have hF := hO; (try simp only [Own, Item.Holds, apartI, CellsAt, Nat.reduceAdd, Nat.zero_add, List.mem_cons, List.not_mem_nil, or_false, forall_eq_or_imp, forall_eq, ne_eq, false_imp_iff, implies_true, and_true] at hF)
        simp [results, Try.results15, go_sem, hF]
      · have hbt := str_ne hN; rw [toL_r] at hbt
        have HP := hid hP
        clear hN hP
        go_enter Try.func15, Try.ntmps15
        go_wp2_with (first | ((go_at_call 24; apply own_at hO; (repeat (first | (with_reducible exact hO) | (with_reducible apply Own.alloc) | (with_reducible apply Own.drew) | ((with_reducible apply Own.set_at); (focus (show _ ≤ _; omega))))); have hG := hF; clear hF; clear hO; intro hO; (try simp only [World.size_alloc1, World.size_drew, Nat.reduceAdd] at hO); (try simp only [upd, updI, List.map_cons, List.map_nil, eq_self, if_true, if_false, reduceIte, Nat.add_eq_left, Nat.left_eq_add, Nat.reduceEqDiff, List.set_cons_zero, List.set_cons_succ, hU, hG] at hO); clear hG; replace hO := swap_hd hO; refine own_callE hO (fun hW => name_own hW HC.out (by rw [HZ.out.2.2]; omega)) ?_; clear hO; rintro v L' w1 ⟨rfl, rfl⟩ hO; (try simp only [World.size_alloc1, World.size_drew, Nat.reduceAdd] at hO); (try simp only [upd, updI, List.map_cons, List.map_nil, eq_self, if_true, if_false, reduceIte, Nat.add_eq_left, Nat.left_eq_add, Nat.reduceEqDiff, List.set_cons_zero, List.set_cons_succ, hU] at hO); have hF := hO; (try simp only [Own, Item.Holds, apartI, CellsAt, Nat.reduceAdd, Nat.zero_add, List.mem_cons, List.not_mem_nil, or_false, forall_eq_or_imp, forall_eq, ne_eq, false_imp_iff, implies_true, and_true] at hF)); have hU := And.intro hU (upd_fresh hO.2.2 (Nat.le_refl _))) | (go_at_call 25; apply own_at hO; (repeat (first | (with_reducible exact hO) | (with_reducible apply Own.alloc) | (with_reducible apply Own.drew) | ((with_reducible apply Own.set_at); (focus (show _ ≤ _; omega))))); have hG := hF; clear hF; clear hO; intro hO; refine own_call hO (fun hB => HP.out _) ?_; clear hO; intro wb hO; (try simp only [World.size_alloc1, World.size_drew, Nat.reduceAdd] at hO); (try simp only [upd, updI, List.map_cons, List.map_nil, eq_self, if_true, if_false, reduceIte, Nat.add_eq_left, Nat.left_eq_add, Nat.reduceEqDiff, List.set_cons_zero, List.set_cons_succ, hU, hG] at hO); clear hG; have hF := hO; (try simp only [Own, Item.Holds, apartI, CellsAt, Nat.reduceAdd, Nat.zero_add, List.mem_cons, List.not_mem_nil, or_false, forall_eq_or_imp, forall_eq, ne_eq, false_imp_iff, implies_true, and_true] at hF)) | (go_at_call 26; apply own_at hO; (repeat (first | (with_reducible exact hO) | (with_reducible apply Own.alloc) | (with_reducible apply Own.drew) | ((with_reducible apply Own.set_at); (focus (show _ ≤ _; omega))))); have hG := hF; clear hF; clear hO; intro hO; (try simp only [World.size_alloc1, World.size_drew, Nat.reduceAdd] at hO); (try simp only [upd, updI, List.map_cons, List.map_nil, eq_self, if_true, if_false, reduceIte, Nat.add_eq_left, Nat.left_eq_add, Nat.reduceEqDiff, List.set_cons_zero, List.set_cons_succ, hU, hG] at hO); clear hG; replace hO := swap_hd hO; refine own_callE hO (fun hW => ticks_own hW HT.out (by rw [HZ.out.2.1]; omega)) ?_; clear hO; rintro v L' w1 ⟨rfl, rfl⟩ hO; (try simp only [World.size_alloc1, World.size_drew, Nat.reduceAdd] at hO); (try simp only [upd, updI, List.map_cons, List.map_nil, eq_self, if_true, if_false, reduceIte, Nat.add_eq_left, Nat.left_eq_add, Nat.reduceEqDiff, List.set_cons_zero, List.set_cons_succ, hU] at hO); have hF := hO; (try simp only [Own, Item.Holds, apartI, CellsAt, Nat.reduceAdd, Nat.zero_add, List.mem_cons, List.not_mem_nil, or_false, forall_eq_or_imp, forall_eq, ne_eq, false_imp_iff, implies_true, and_true] at hF)) | (go_at_call 27; apply own_at hO; (repeat (first | (with_reducible exact hO) | (with_reducible apply Own.alloc) | (with_reducible apply Own.drew) | ((with_reducible apply Own.set_at); (focus (show _ ≤ _; omega))))); have hG := hF; clear hF; clear hO; intro hO; (try simp only [World.size_alloc1, World.size_drew, Nat.reduceAdd] at hO); (try simp only [upd, updI, List.map_cons, List.map_nil, eq_self, if_true, if_false, reduceIte, Nat.add_eq_left, Nat.left_eq_add, Nat.reduceEqDiff, List.set_cons_zero, List.set_cons_succ, hU, hG] at hO); clear hG; refine own_callE hO (fun hW => take_is hW HY.out.1 HY.out.2) ?_; clear hO; rintro v L' w1 ⟨rfl, rfl⟩ hO; (try simp only [World.size_alloc1, World.size_drew, Nat.reduceAdd] at hO); (try simp only [upd, updI, List.map_cons, List.map_nil, eq_self, if_true, if_false, reduceIte, Nat.add_eq_left, Nat.left_eq_add, Nat.reduceEqDiff, List.set_cons_zero, List.set_cons_succ, hU] at hO); have hF := hO; (try simp only [Own, Item.Holds, apartI, CellsAt, Nat.reduceAdd, Nat.zero_add, List.mem_cons, List.not_mem_nil, or_false, forall_eq_or_imp, forall_eq, ne_eq, false_imp_iff, implies_true, and_true] at hF)))
        apply own_code hO
        (repeat (first | (with_reducible exact hO) | (with_reducible apply Own.alloc) | (with_reducible apply Own.drew) | ((with_reducible apply Own.set_at); (focus (show _ ≤ _; omega)))))
        have hG := hF; clear hF; clear hO; intro hO
        (try simp only [World.size_alloc1, World.size_drew, Nat.reduceAdd] at hO); (try simp only [upd, updI, List.map_cons, List.map_nil, eq_self, if_true, if_false, reduceIte, Nat.add_eq_left, Nat.left_eq_add, Nat.reduceEqDiff, List.set_cons_zero, List.set_cons_succ, hU, hG] at hO); clear hG
        refine region_own (X := fun _ => True) [3] (by kernel_rfl) (hO) (trivial) (by first | exact XStab.true | exact XStab.rd | exact XStab.rdIf) ?_
        clear hO
        refine Sim.take (i := 0) (d := some 42) (v := ?_) rfl rfl (by kernel_rfl) (by kernel_rfl) (by kernel_rfl) (by kernel_rfl) (fun _ _ _ h => h) (by first | exact XStab.true | exact XStab.rd | exact XStab.rdIf) ?_ ?_
        rotate_left
        · first | refine Or.inl ⟨by rfl, fun w hO => ?_⟩ | (refine Or.inr ⟨by rfl, ?_⟩; with_reducible rfl)
          first | done | (have hF := hO; (try simp only [Own, Item.Holds, apartI, CellsAt, Nat.reduceAdd, Nat.zero_add, List.mem_cons, List.not_mem_nil, or_false, forall_eq_or_imp, forall_eq, ne_eq, false_imp_iff, implies_true, and_true] at hF); refine Out.same ?_; go_simp; all_goals with_reducible rfl)
        try simp only [Act.put, List.setIfInBounds_toArray, List.set_cons_zero, List.set_cons_succ]
        refine Sim.one' (i := 1) (oi := { dst := some 43, op := Op.load 25 (Operand.tmp 6), type := 25, pos := "l8_texts.go:118", after := #[], guard := none }) (by kernel_rfl) rfl (by rfl) (fun w0 hO hX K hK => ?_)
        have hF := hO; (try simp only [Own, Item.Holds, apartI, CellsAt, Nat.reduceAdd, Nat.zero_add, List.mem_cons, List.not_mem_nil, or_false, forall_eq_or_imp, forall_eq, ne_eq, false_imp_iff, implies_true, and_true] at hF)
        go_simp
        apply hK _ _ _ (fun _ => True)
        (repeat (first | (with_reducible exact hO) | (with_reducible apply Own.alloc) | (with_reducible apply Own.drew) | ((with_reducible apply Own.set_at); (focus (show _ ≤ _; omega)))))
        · first | exact trivial | exact hX | exact hX.below (below1 _) | exact RdIf.gone | exact hX.keep ((Below.refl _ _).setCell (by first | omega | (dsimp only; omega)) _)
        · exact (by first | exact XStab.true | exact XStab.rd | exact XStab.rdIf)
        · first | exact fun _ _ h => h.2 | exact fun _ _ h => h | exact fun h => absurd h (by decide)
        try simp only [upd, updI, List.map_cons, List.map_nil, eq_self, if_true, if_false, reduceIte, Nat.add_eq_left, Nat.left_eq_add, Nat.reduceEqDiff, List.set_cons_zero, List.set_cons_succ, hU, hF]
        clear hK K hF hO
        try simp only [Act.put, List.setIfInBounds_toArray, List.set_cons_zero, List.set_cons_succ]
        refine Sim.take (i := 2) (d := some 44) (v := ?_) rfl rfl (by kernel_rfl) (by kernel_rfl) (by kernel_rfl) (by kernel_rfl) (fun _ _ _ h => h) (by first | exact XStab.true | exact XStab.rd | exact XStab.rdIf) ?_ ?_
        rotate_left
        · first | refine Or.inl ⟨by rfl, fun w hO => ?_⟩ | (refine Or.inr ⟨by rfl, ?_⟩; with_reducible rfl)
          first | done | (refine Out.call (f := 28) (args := ?_) ?_ ?_; rotate_left; (focus (go_simp; all_goals with_reducible rfl)); exact HNV.out _)
        try simp only [Act.put, List.setIfInBounds_toArray, List.set_cons_zero, List.set_cons_succ]
        refine Sim.one' (i := 3) (oi := { dst := none, op := Op.store 25 (Operand.tmp 2) (Operand.tmp 42), type := 0, pos := "l8_texts.go:118", after := #[{ on := 0, ground := Ground.data }, { on := 2, ground := Ground.chain }, { on := 0, ground := Ground.phase }, { on := 1, ground := Ground.textOnly Departure.lateStores }, { on := 2, ground := Ground.textOnly Departure.lateStoresUnsure }], guard := none }) (by kernel_rfl) rfl (by rfl) (fun w0 hO hX K hK => ?_)
        have hF := hO; (try simp only [Own, Item.Holds, apartI, CellsAt, Nat.reduceAdd, Nat.zero_add, List.mem_cons, List.not_mem_nil, or_false, forall_eq_or_imp, forall_eq, ne_eq, false_imp_iff, implies_true, and_true] at hF)
        go_simp
        apply hK _ _ _ (fun _ => True)
        (repeat (first | (with_reducible exact hO) | (with_reducible apply Own.alloc) | (with_reducible apply Own.drew) | ((with_reducible apply Own.set_at); (focus (show _ ≤ _; omega)))))
        · first | exact trivial | exact hX | exact hX.below (below1 _) | exact RdIf.gone | exact hX.keep ((Below.refl _ _).setCell (by first | omega | (dsimp only; omega)) _)
        · exact (by first | exact XStab.true | exact XStab.rd | exact XStab.rdIf)
        · first | exact fun _ _ h => h.2 | exact fun _ _ h => h | exact fun h => absurd h (by decide)
        try simp only [upd, updI, List.map_cons, List.map_nil, eq_self, if_true, if_false, reduceIte, Nat.add_eq_left, Nat.left_eq_add, Nat.reduceEqDiff, List.set_cons_zero, List.set_cons_succ, hU, hF]
        clear hK K hF hO
        try simp only [Act.put, List.setIfInBounds_toArray, List.set_cons_zero, List.set_cons_succ]
        refine Sim.takeP (i := 4) (d := some 3) (v := ?_) rfl rfl (by kernel_rfl) (by kernel_rfl) (by kernel_rfl) (fun _ _ _ h => h) (by first | exact XStab.true | exact XStab.rd | exact XStab.rdIf) ?_ ?_
        rotate_left
        · first | refine Or.inl ⟨by rfl, fun w => ?_⟩ | (refine Or.inr ⟨by rfl, ?_⟩; with_reducible rfl)
          first | done | (go_simp; all_goals with_reducible rfl)
        try simp only [Act.put, List.setIfInBounds_toArray, List.set_cons_zero, List.set_cons_succ]
        refine Sim.done (by kernel_rfl) (fun w1 hO hX => ?_) _
        (try simp only [World.size_alloc1, World.size_drew, Nat.reduceAdd] at hO); (try simp only [upd, updI, List.map_cons, List.map_nil, eq_self, if_true, if_false, reduceIte, Nat.add_eq_left, Nat.left_eq_add, Nat.reduceEqDiff, List.set_cons_zero, List.set_cons_succ, hU] at hO)
        have hF := hO; (try simp only [Own, Item.Holds, apartI, CellsAt, Nat.reduceAdd, Nat.zero_add, List.mem_cons, List.not_mem_nil, or_false, forall_eq_or_imp, forall_eq, ne_eq, false_imp_iff, implies_true, and_true] at hF)
        go_wp2_with fail
        apply own_end hO
        (repeat (first | (with_reducible exact hO) | (with_reducible apply Own.alloc) | (with_reducible apply Own.drew) | ((with_reducible apply Own.set_at); (focus (show _ ≤ _; omega)))))
        have hG := hF; clear hF; clear hO; intro hO
        refine own_ret (v := .tuple #[.agg #[.bool false, .int .i64 s, .int .i64 a, .int .i64 o, .int .i64 t, .bool y], .bool bv]) hO ?_ rfl (fun hO => (by (try simp only [World.size_alloc1, World.size_drew, Nat.reduceAdd] at hO); (try simp only [upd, updI, List.map_cons, List.map_nil, eq_self, if_true, if_false, reduceIte, Nat.add_eq_left, Nat.left_eq_add, Nat.reduceEqDiff, List.set_cons_zero, List.set_cons_succ, hU, hG] at hO); clear hG; exact ⟨_, _, rfl, ⟨⟨false, s, a, o, t, y⟩, T3, bv, rfl, rfl, (by rw [HZ3.out, HZ.out.2.2]; omega), HE.out.1, HE.out.2⟩, Own.sub (.cons_cons _ (.cons _ (.cons _ (.refl _)))) hO⟩))
        clear hO; intro w1 hO
        (try simp only [World.size_alloc1, World.size_drew, Nat.reduceAdd] at hO); (try simp only [upd, updI, List.map_cons, List.map_nil, eq_self, if_true, if_false, reduceIte, Nat.add_eq_left, Nat.left_eq_add, Nat.reduceEqDiff, List.set_cons_zero, List.set_cons_succ, hU, hG] at hO); clear hG
        have hF := hO; (try simp only [Own, Item.Holds, apartI, CellsAt, Nat.reduceAdd, Nat.zero_add, List.mem_cons, List.not_mem_nil, or_false, forall_eq_or_imp, forall_eq, ne_eq, false_imp_iff, implies_true, and_true] at hF)
        simp [results, Try.results15, go_sem, hF]

/- Chapter 8 in the program: ReadNote. -/
open Go.RowKit

set_option maxHeartbeats 4000000 in
theorem rnI_any (T : ByteArray) (w : World) (hs : T.size ≤ 2097152) :
    Calls Try.prog 6 #[.string T] w fun e w' => e = .returned (.tuple #[.agg #[.bool (rnN T).r, .int .i64 (rnN T).s, .int .i64 (rnN T).a, .int .i64 (rnN T).o, .int .i64 (rnN T).t, .bool (rnN T).y], .bool (rnB T)]) ∧ Below w.heap.size w w' := by
  have hO := Own.start w
  have hF := True.intro
  have hU := True.intro
  go_enter Try.func6, Try.ntmps6
  go_wp2_with fail
  (go_at_call 15; apply own_at hO; (repeat (first | (with_reducible exact hO) | (with_reducible apply Own.alloc) | (with_reducible apply Own.drew) | ((with_reducible apply Own.set_at); (focus (show _ ≤ _; omega))))); have hG := hF; clear hF; clear hO; intro hO; (try simp only [World.size_alloc1, World.size_drew, Nat.reduceAdd] at hO); (try simp only [upd, updI, List.map_cons, List.map_nil, eq_self, if_true, if_false, reduceIte, Nat.add_eq_left, Nat.left_eq_add, Nat.reduceEqDiff, List.set_cons_zero, List.set_cons_succ, hU, hG] at hO); clear hG; refine own_callE hO (fun hW => note_own hW hs) ?_; clear hO; rintro v L' w1 ⟨⟨r, s, a, o, t, y⟩, T2, ok, rfl, rfl, hsz, h1, h2⟩ hO; (try simp only [World.size_alloc1, World.size_drew, Nat.reduceAdd] at hO); (try simp only [upd, updI, List.map_cons, List.map_nil, eq_self, if_true, if_false, reduceIte, Nat.add_eq_left, Nat.left_eq_add, Nat.reduceEqDiff, List.set_cons_zero, List.set_cons_succ, hU] at hO); have hF := hO; (try simp only [Own, Item.Holds, apartI, CellsAt, Nat.reduceAdd, Nat.zero_add, List.mem_cons, List.not_mem_nil, or_false, forall_eq_or_imp, forall_eq, ne_eq, false_imp_iff, implies_true, and_true] at hF))
  cases ok
  · have HE := hid (rn_scan_no (s := T) fun x e => by rw [h2 rfl] at e; cases e)
    clear h1 h2
    go_wp2_with fail
    rw [HE.out.1, HE.out.2]
    apply own_end hO
    (repeat (first | (with_reducible exact hO) | (with_reducible apply Own.alloc) | (with_reducible apply Own.drew) | ((with_reducible apply Own.set_at); (focus (show _ ≤ _; omega)))))
    have hG := hF; clear hF; clear hO; intro hO
    refine own_ret (v := .tuple #[.agg #[.bool false, .int .i64 0, .int .i64 0, .int .i64 0, .int .i64 0, .bool false], .bool false]) hO ?_ rfl (fun hO => ⟨rfl, hO.base⟩)
    clear hO; intro w1 hO
    (try simp only [World.size_alloc1, World.size_drew, Nat.reduceAdd] at hO); (try simp only [upd, updI, List.map_cons, List.map_nil, eq_self, if_true, if_false, reduceIte, Nat.add_eq_left, Nat.left_eq_add, Nat.reduceEqDiff, List.set_cons_zero, List.set_cons_succ, hU, hG] at hO); clear hG
    have hF := hO; (try simp only [Own, Item.Holds, apartI, CellsAt, Nat.reduceAdd, Nat.zero_add, List.mem_cons, List.not_mem_nil, or_false, forall_eq_or_imp, forall_eq, ne_eq, false_imp_iff, implies_true, and_true] at hF)
    simp [results, Try.results6, go_sem, hF]
  · have hx := h1 rfl
    clear h1 h2
    cases hf : T2.data.toList.isEmpty
    · have HE := hid (rn_scan_no (s := T) fun x e => by
        rw [hx] at e
        have e2 : T2.data.toList = [] := congrArg Prod.snd (Option.some.inj e)
        rw [e2] at hf
        cases hf)
      have HF := hid hf
      clear hf hx
      go_wp2_with (go_at_call 16; apply own_at hO; (repeat (first | (with_reducible exact hO) | (with_reducible apply Own.alloc) | (with_reducible apply Own.drew) | ((with_reducible apply Own.set_at); (focus (show _ ≤ _; omega))))); have hG := hF; clear hF; clear hO; intro hO; refine own_callO hO (fun hW => atE_any HF.out _ hW.2.1.1.1.1.1) ?_; clear hO; intro w1 hO; (try simp only [World.size_alloc1, World.size_drew, Nat.reduceAdd] at hO); (try simp only [upd, updI, List.map_cons, List.map_nil, eq_self, if_true, if_false, reduceIte, Nat.add_eq_left, Nat.left_eq_add, Nat.reduceEqDiff, List.set_cons_zero, List.set_cons_succ, hU, hG] at hO); clear hG; have hF := hO; (try simp only [Own, Item.Holds, apartI, CellsAt, Nat.reduceAdd, Nat.zero_add, List.mem_cons, List.not_mem_nil, or_false, forall_eq_or_imp, forall_eq, ne_eq, false_imp_iff, implies_true, and_true] at hF))
      rw [HE.out.1, HE.out.2]
      apply own_end hO
      (repeat (first | (with_reducible exact hO) | (with_reducible apply Own.alloc) | (with_reducible apply Own.drew) | ((with_reducible apply Own.set_at); (focus (show _ ≤ _; omega)))))
      have hG := hF; clear hF; clear hO; intro hO
      refine own_ret (v := .tuple #[.agg #[.bool false, .int .i64 0, .int .i64 0, .int .i64 0, .int .i64 0, .bool false], .bool false]) hO ?_ rfl (fun hO => ⟨rfl, hO.base⟩)
      clear hO; intro w1 hO
      (try simp only [World.size_alloc1, World.size_drew, Nat.reduceAdd] at hO); (try simp only [upd, updI, List.map_cons, List.map_nil, eq_self, if_true, if_false, reduceIte, Nat.add_eq_left, Nat.left_eq_add, Nat.reduceEqDiff, List.set_cons_zero, List.set_cons_succ, hU, hG] at hO); clear hG
      have hF := hO; (try simp only [Own, Item.Holds, apartI, CellsAt, Nat.reduceAdd, Nat.zero_add, List.mem_cons, List.not_mem_nil, or_false, forall_eq_or_imp, forall_eq, ne_eq, false_imp_iff, implies_true, and_true] at hF)
      simp [results, Try.results6, go_sem, hF]
    · have HE := hid (rn_scan (s := T) (x := ⟨r, s, a, o, t, y⟩) (by rw [hx, List.isEmpty_iff.1 hf]))
      have HF := hid hf
      clear hf hx
      go_wp2_with (go_at_call 16; apply own_at hO; (repeat (first | (with_reducible exact hO) | (with_reducible apply Own.alloc) | (with_reducible apply Own.drew) | ((with_reducible apply Own.set_at); (focus (show _ ≤ _; omega))))); have hG := hF; clear hF; clear hO; intro hO; refine own_callO hO (fun hW => atE_any HF.out _ hW.2.1.1.1.1.1) ?_; clear hO; intro w1 hO; (try simp only [World.size_alloc1, World.size_drew, Nat.reduceAdd] at hO); (try simp only [upd, updI, List.map_cons, List.map_nil, eq_self, if_true, if_false, reduceIte, Nat.add_eq_left, Nat.left_eq_add, Nat.reduceEqDiff, List.set_cons_zero, List.set_cons_succ, hU, hG] at hO); clear hG; have hF := hO; (try simp only [Own, Item.Holds, apartI, CellsAt, Nat.reduceAdd, Nat.zero_add, List.mem_cons, List.not_mem_nil, or_false, forall_eq_or_imp, forall_eq, ne_eq, false_imp_iff, implies_true, and_true] at hF))
      rw [HE.out.1, HE.out.2]
      apply own_end hO
      (repeat (first | (with_reducible exact hO) | (with_reducible apply Own.alloc) | (with_reducible apply Own.drew) | ((with_reducible apply Own.set_at); (focus (show _ ≤ _; omega)))))
      have hG := hF; clear hF; clear hO; intro hO
      refine own_ret (v := .tuple #[.agg #[.bool r, .int .i64 s, .int .i64 a, .int .i64 o, .int .i64 t, .bool y], .bool true]) hO ?_ rfl (fun hO => ⟨rfl, hO.base⟩)
      clear hO; intro w1 hO
      (try simp only [World.size_alloc1, World.size_drew, Nat.reduceAdd] at hO); (try simp only [upd, updI, List.map_cons, List.map_nil, eq_self, if_true, if_false, reduceIte, Nat.add_eq_left, Nat.left_eq_add, Nat.reduceEqDiff, List.set_cons_zero, List.set_cons_succ, hU, hG] at hO); clear hG
      have hF := hO; (try simp only [Own, Item.Holds, apartI, CellsAt, Nat.reduceAdd, Nat.zero_add, List.mem_cons, List.not_mem_nil, or_false, forall_eq_or_imp, forall_eq, ne_eq, false_imp_iff, implies_true, and_true] at hF)
      simp [results, Try.results6, go_sem, hF]
theorem rnI_C (w : World) : CReadNote 6 w := fun T W _ hs => rnI_any T W hs

/- Chapter 8 in the program: the scanner reads a voice. -/
open Go.RowKit

def lenV : Value → Nat
  | .slice _ k _ => k
  | _ => 0
/-- what reading a voice leaves. -/
def NotesOut (b : Nat) (T : ByteArray) (L : List Item) (v : Value) (L' : List Item) : Prop :=
  ∃ (u : Value) (out : List Nt) (T' : ByteArray) (ok : Bool), v = .tuple #[u, .bool ok] ∧ L' = .row 25 6 u out.length (vcC out) :: .blk b [.string T'] :: L ∧ out.length ≤ 60 ∧ (ok = true → (∀ x ∈ out, nvB x = true) ∧ T.data.toList = vxL out) ∧ (ok = false → rvB T = false ∧ rvL T = [])
/-- how far the reading of a voice has come: m: is there more. -/
def ReadsOn (T T' : ByteArray) (out : List Nt) (m : Bool) : Prop :=
  (∀ x ∈ out, nvB x = true) ∧ (m = true → (out = [] → T'.data.toList ≠ []) ∧ T.data.toList = vxW out T'.data.toList) ∧ (m = false → (T'.data.toList = [] → T.data.toList = vxL out) ∧ (T'.data.toList ≠ [] → rvB T = false ∧ rvL T = []))
theorem reads_start (T : ByteArray) {f : Bool} (hf : T.data.toList.isEmpty = f) : ReadsOn T T [] (!f) := by
  subst hf
  refine ⟨fun x hx => (by cases hx), fun h => ⟨fun _ e => ?_, ?_⟩, fun h => ⟨fun e => by rw [e]; rfl, fun e => ?_⟩⟩
  · rw [e] at h; cases h
  · unfold vxW; rw [if_pos rfl]
  · exact absurd (List.isEmpty_iff.1 (by simpa using h)) e
theorem reads_on {T T2 T3 T4 : ByteArray} {out : List Nt} {x : Nt} {y : Bool} (h : ReadsOn T T2 out true) (hx : noS T2.data.toList = some (x, T3.data.toList)) (hy : Lib.hasPrefix T3.data.toList [32] = y) (hT : (⟨(Lib.trimPrefix T3.data.toList [32]).toArray⟩ : ByteArray) = T4) : ReadsOn T T4 (out ++ [x]) y := by
  obtain ⟨h1, h2, _⟩ := h
  obtain ⟨h3, h4⟩ := h2 rfl
  have hv := (no_is hx).1
  refine ⟨fun z hz => ?_, ?_⟩
  · rcases List.mem_append.1 hz with hz | hz
    · exact h1 z hz
    · simp at hz; subst hz; exact hv
  · obtain ⟨r, hr⟩ : ∃ r, T3.data.toList = r := ⟨_, rfl⟩
    rw [hr] at hx hy hT
    have e4 : T4.data.toList = Lib.trimPrefix r [32] := by rw [← hT]
    by_cases e : r.head? = some 32
    · cases r with
      | nil => cases e
      | cons c r =>
        simp at e; subst e
        obtain ⟨p1, p2⟩ := pre_yes (c := 32) (l := r)
        rw [p1] at hy
        rw [p2] at e4
        subst hy
        exact ⟨fun _ => ⟨fun e => by simp at e, by rw [e4]; exact rv_next h4 hx⟩, fun e => by cases e⟩
    · obtain ⟨p1, p2⟩ := pre_no (c := 32) (l := r) e
      rw [p1] at hy
      rw [p2] at e4
      subst hy
      refine ⟨fun e => (by cases e), fun _ => ⟨fun e0 => ?_, fun e0 => ?_⟩⟩
      · rw [e4] at e0
        rw [e0] at hx
        exact rv_last h4 hx
      · rw [e4] at e0
        exact rv_more h1 h3 h4 hx e0 e

set_option maxRecDepth 8000 in
set_option maxHeartbeats 8000000 in
theorem notes_own {n b : Nat} {B : World → Prop} {W : World} {T : ByteArray} {L : List Item} (hO : Own n B W (.blk b [.string T] :: L)) (hs : T.size ≤ 2097152) :
    Calls Try.prog 19 #[.pointer (some ⟨b, 0, none⟩)] W (OwnOut n B (NotesOut b T L)) := by
  obtain ⟨i0, hi, hz0, hz1, hz2⟩ := info_parts infoN
  have hU := upd_tail hO
  obtain ⟨f, hf⟩ : ∃ f, T.data.toList.isEmpty = f := ⟨_, rfl⟩
  have HF := hid hf
  have HS := hid hs
  replace hO := Own.nilRow 25 6 hO
  have hF := hO; (try simp only [Own, Item.Holds, apartI, CellsAt, Nat.reduceAdd, Nat.zero_add, List.mem_cons, List.not_mem_nil, or_false, forall_eq_or_imp, forall_eq, ne_eq, false_imp_iff, implies_true, and_true] at hF)
  clear hf
  go_enter Try.func19, Try.ntmps19
  go_wp2_with (go_at_call 16; apply own_at hO; (repeat (first | (with_reducible exact hO) | (with_reducible apply Own.alloc) | (with_reducible apply Own.drew) | ((with_reducible apply Own.set_at); (focus (show _ ≤ _; omega))))); have hG := hF; clear hF; clear hO; intro hO; refine own_callO hO (fun hW => atE_any HF.out _ hW.2.1.1.1.1.1) ?_; clear hO; intro w1 hO; (try simp only [World.size_alloc1, World.size_drew, Nat.reduceAdd] at hO); (try simp only [upd, updI, List.map_cons, List.map_nil, eq_self, if_true, if_false, reduceIte, Nat.add_eq_left, Nat.left_eq_add, Nat.reduceEqDiff, List.set_cons_zero, List.set_cons_succ, hU, hG] at hO); clear hG; have hF := hO; (try simp only [Own, Item.Holds, apartI, CellsAt, Nat.reduceAdd, Nat.zero_add, List.mem_cons, List.not_mem_nil, or_false, forall_eq_or_imp, forall_eq, ne_eq, false_imp_iff, implies_true, and_true] at hF))
  (apply own_code hO; (repeat (first | (with_reducible exact hO) | (with_reducible apply Own.alloc) | (with_reducible apply Own.drew) | ((with_reducible apply Own.set_at); (focus (show _ ≤ _; omega))))); have hG := hF; clear hF; clear hO; intro hO; (try simp only [World.size_alloc1, World.size_drew, Nat.reduceAdd] at hO); (try simp only [upd, updI, List.map_cons, List.map_nil, eq_self, if_true, if_false, reduceIte, Nat.add_eq_left, Nat.left_eq_add, Nat.reduceEqDiff, List.set_cons_zero, List.set_cons_succ, hU, hG] at hO); clear hG; have hF := hO; (try simp only [Own, Item.Holds, apartI, CellsAt, Nat.reduceAdd, Nat.zero_add, List.mem_cons, List.not_mem_nil, or_false, forall_eq_or_imp, forall_eq, ne_eq, false_imp_iff, implies_true, and_true] at hF))
  go_loopw [4, 5] (fun u z wr => ∃ (out : List Nt) (T2 : ByteArray) (m : Bool), z = .bool m ∧ out.length ≤ 60 ∧ T2.size ≤ 2097152 ∧ Hid (ReadsOn T T2 out m) ∧ Own n B wr (.row 25 6 u out.length (vcC out) :: .blk b [.string T2] :: L)) (fun u _ _ => 61 - lenV u)
  case atStart => exact ⟨[], T, !f, rfl, by simp, HS.out, reads_start T HF.out, hO⟩
  case round =>
    clear hO hF
    obtain ⟨out, T2, m, rfl, hl, hs2, HR, hO⟩ := hrel
    obtain ⟨A1, cp1, hv1⟩ := (SlAt.of_row hO.1.1).form
    subst hv1
    have hF := hO; (try simp only [Own, Item.Holds, apartI, CellsAt, Nat.reduceAdd, Nat.zero_add, List.mem_cons, List.not_mem_nil, or_false, forall_eq_or_imp, forall_eq, ne_eq, false_imp_iff, implies_true, and_true] at hF)
    obtain ⟨k, hk⟩ : ∃ k, out.length = k := ⟨_, rfl⟩
    have HK := hid hk
    rw [hk] at hO hl hF ⊢
    clear hk
    cases m
    · obtain ⟨g, hg⟩ : ∃ g, T2.data.toList.isEmpty = g := ⟨_, rfl⟩
      have HG := hid hg
      clear hg
      go_wp2_with (go_at_call 16; apply own_at hO; (repeat (first | (with_reducible exact hO) | (with_reducible apply Own.alloc) | (with_reducible apply Own.drew) | ((with_reducible apply Own.set_at); (focus (show _ ≤ _; omega))))); have hG := hF; clear hF; clear hO; intro hO; refine own_callO hO (fun hW => atE_any HG.out _ hW.2.1.1.1.1.1) ?_; clear hO; intro w1 hO; (try simp only [World.size_alloc1, World.size_drew, Nat.reduceAdd] at hO); (try simp only [upd, updI, List.map_cons, List.map_nil, eq_self, if_true, if_false, reduceIte, Nat.add_eq_left, Nat.left_eq_add, Nat.reduceEqDiff, List.set_cons_zero, List.set_cons_succ, hU, hG] at hO); clear hG; have hF := hO; (try simp only [Own, Item.Holds, apartI, CellsAt, Nat.reduceAdd, Nat.zero_add, List.mem_cons, List.not_mem_nil, or_false, forall_eq_or_imp, forall_eq, ne_eq, false_imp_iff, implies_true, and_true] at hF))
      go_ret2
      obtain ⟨h1, _, h2⟩ := HR.out
      obtain ⟨h3, h4⟩ := h2 rfl
      refine ⟨_, _, rfl, ⟨_, out, T2, g, rfl, rfl, by rw [HK.out]; exact hl, fun e => ⟨h1, h3 (List.isEmpty_iff.1 (HG.out.trans e))⟩, fun e => h4 fun e2 => ?_⟩, by rw [HK.out]; exact hO⟩
      have := HG.out
      rw [e2, e] at this
      cases this
    · go_wp2_with fail
      (go_at_call 15; apply own_at hO; (repeat (first | (with_reducible exact hO) | (with_reducible apply Own.alloc) | (with_reducible apply Own.drew) | ((with_reducible apply Own.set_at); (focus (show _ ≤ _; omega))))); have hG := hF; clear hF; clear hO; intro hO; (try simp only [World.size_alloc1, World.size_drew, Nat.reduceAdd] at hO); (try simp only [upd, updI, List.map_cons, List.map_nil, eq_self, if_true, if_false, reduceIte, Nat.add_eq_left, Nat.left_eq_add, Nat.reduceEqDiff, List.set_cons_zero, List.set_cons_succ, hU, hG] at hO); clear hG; replace hO := swap_hd hO; refine own_callE hO (fun hW => note_own hW hs2) ?_; clear hO; rintro v L' w1 ⟨⟨r, s, a, o, t, y⟩, T3, ok, rfl, rfl, hsz, h1, h2⟩ hO; (try simp only [World.size_alloc1, World.size_drew, Nat.reduceAdd] at hO); (try simp only [upd, updI, List.map_cons, List.map_nil, eq_self, if_true, if_false, reduceIte, Nat.add_eq_left, Nat.left_eq_add, Nat.reduceEqDiff, List.set_cons_zero, List.set_cons_succ, hU] at hO); have hF := hO; (try simp only [Own, Item.Holds, apartI, CellsAt, Nat.reduceAdd, Nat.zero_add, List.mem_cons, List.not_mem_nil, or_false, forall_eq_or_imp, forall_eq, ne_eq, false_imp_iff, implies_true, and_true] at hF))
      have hU := And.intro hU (upd_fresh hO.2.2 (Nat.le_refl _))
      cases ok
      · have HE := hid (show rvB T = false ∧ rvL T = [] from rv_stop HR.out.1 (HR.out.2.1 rfl).1 (HR.out.2.1 rfl).2 (h2 rfl))
        clear h1 h2
        go_wp2_with fail
        go_ret2
        exact ⟨_, _, rfl, ⟨_, [], T3, false, rfl, rfl, by simp, fun e => (by cases e), fun _ => HE.out⟩, Own.nilRow _ _ (Own.sub (.cons _ (.cons_cons _ (.cons _ (.refl _)))) (by (repeat (first | (with_reducible exact hO) | (with_reducible apply Own.alloc) | (with_reducible apply Own.drew) | ((with_reducible apply Own.set_at); (focus (show _ ≤ _; omega)))))))⟩
      · have hx := h1 rfl
        have HX := hid hx
        clear h1 h2 hx
        by_cases h60 : k = 60
        · have h60' : (k : Int) = 60 := by omega
          have HE := hid (show rvB T = false ∧ rvL T = [] from rv_many HR.out.1 (HR.out.2.1 rfl).1 (HR.out.2.1 rfl).2 (by rw [HK.out, h60]))
          go_wp2_with fail
          go_ret2
          exact ⟨_, _, rfl, ⟨_, [], T3, false, rfl, rfl, by simp, fun e => (by cases e), fun _ => HE.out⟩, Own.nilRow _ _ (Own.sub (.cons _ (.cons_cons _ (.cons _ (.refl _)))) (by (repeat (first | (with_reducible exact hO) | (with_reducible apply Own.alloc) | (with_reducible apply Own.drew) | ((with_reducible apply Own.set_at); (focus (show _ ≤ _; omega)))))))⟩
        · have h60' : ¬ ((k : Int) = 60) := by omega
          obtain ⟨q, hq⟩ : ∃ q, Lib.hasPrefix T3.data.toList [32] = q := ⟨_, rfl⟩
          obtain ⟨T4, hT4⟩ : ∃ T4, (⟨(Lib.trimPrefix T3.data.toList [32]).toArray⟩ : ByteArray) = T4 := ⟨_, rfl⟩
          have hz4 := pre_size T3 32
          rw [hT4] at hz4
          have HQ := hid (And.intro hq hT4)
          have HN := hid (reads_on HR.out HX.out hq hT4)
          have HZ := hid (show T4.size ≤ 2097152 by omega)
          clear hq hT4 hz4
          go_wp2_with (first | (go_at_call 27; apply own_at hO; (repeat (first | (with_reducible exact hO) | (with_reducible apply Own.alloc) | (with_reducible apply Own.drew) | ((with_reducible apply Own.set_at); (focus (show _ ≤ _; omega))))); have hG := hF; clear hF; clear hO; intro hO; (try simp only [World.size_alloc1, World.size_drew, Nat.reduceAdd] at hO); (try simp only [upd, updI, List.map_cons, List.map_nil, eq_self, if_true, if_false, reduceIte, Nat.add_eq_left, Nat.left_eq_add, Nat.reduceEqDiff, List.set_cons_zero, List.set_cons_succ, hU, hG] at hO); clear hG; replace hO := swap_hd hO; refine own_callE hO (fun hW => take_is hW HQ.out.1 HQ.out.2) ?_; clear hO; rintro v L' w1 ⟨rfl, rfl⟩ hO; (try simp only [World.size_alloc1, World.size_drew, Nat.reduceAdd] at hO); (try simp only [upd, updI, List.map_cons, List.map_nil, eq_self, if_true, if_false, reduceIte, Nat.add_eq_left, Nat.left_eq_add, Nat.reduceEqDiff, List.set_cons_zero, List.set_cons_succ, hU] at hO); have hF := hO; (try simp only [Own, Item.Holds, apartI, CellsAt, Nat.reduceAdd, Nat.zero_add, List.mem_cons, List.not_mem_nil, or_false, forall_eq_or_imp, forall_eq, ne_eq, false_imp_iff, implies_true, and_true] at hF)) | (at_builtin; apply own_list hO; (repeat (first | (with_reducible exact hO) | (with_reducible apply Own.alloc) | (with_reducible apply Own.drew) | ((with_reducible apply Own.set_at); (focus (show _ ≤ _; omega))))); have hG := hF; clear hF; clear hO; intro hO; (try simp only [World.size_alloc1, World.size_drew, Nat.reduceAdd] at hO); (try simp only [upd, updI, List.map_cons, List.map_nil, eq_self, if_true, if_false, reduceIte, Nat.add_eq_left, Nat.left_eq_add, Nat.reduceEqDiff, List.set_cons_zero, List.set_cons_succ, hU, hG] at hO); clear hG; (try simp only [World.size_setCell] at hO); have hF := hO; (try simp only [Own, Item.Holds, apartI, CellsAt, Nat.reduceAdd, Nat.zero_add, List.mem_cons, List.not_mem_nil, or_false, forall_eq_or_imp, forall_eq, ne_eq, false_imp_iff, implies_true, and_true] at hF); replace hO := (Own.sub (.cons_cons _ (.cons _ (.refl _))) hO).perm (.cons _ (.swap _ _ _)); refine wpList_append_item rfl _ _ 30 rfl 25 i0 (.agg #[.bool false, .int .i64 0, .int .i64 0, .int .i64 0, .int .i64 0, .bool false]) 6 48 Try.underlying30 hi hz0 hz1 hz2 rfl (by decide) rfl rfl hO rfl one6w (by unfold maxLen; omega) (by omega) ?_; clear hO hF; intro v' w3 hO _; have hF := hO; (try simp only [Own, Item.Holds, apartI, CellsAt, Nat.reduceAdd, Nat.zero_add, List.mem_cons, List.not_mem_nil, or_false, forall_eq_or_imp, forall_eq, ne_eq, false_imp_iff, implies_true, and_true] at hF)))
          replace hO := swap_hd hO
          obtain ⟨A2, cp2, hv2⟩ := (SlAt.of_row hO.1.1).form
          subst hv2
          go_roundw
          case rel => exact ⟨out ++ [⟨r, s, a, o, t, y⟩], T4, q, rfl, by rw [List.length_append, HK.out]; simp; omega, HZ.out, HN, by rw [List.length_append, HK.out, vcC_up]; exact hO⟩
          case measure => simp [lenV]; omega

set_option maxHeartbeats 4000000 in
theorem rvI_any (T : ByteArray) (w : World) (hs : T.size ≤ 2097152) :
    Calls Try.prog 9 #[.string T] w (RowOutB 25 6 (rvL T).length (vcC (rvL T)) (rvB T) w) := by
  have hO := Own.start w
  have hF := True.intro
  have hU := True.intro
  go_enter Try.func9, Try.ntmps9
  go_wp2_with fail
  (go_at_call 19; apply own_at hO; (repeat (first | (with_reducible exact hO) | (with_reducible apply Own.alloc) | (with_reducible apply Own.drew) | ((with_reducible apply Own.set_at); (focus (show _ ≤ _; omega))))); have hG := hF; clear hF; clear hO; intro hO; (try simp only [World.size_alloc1, World.size_drew, Nat.reduceAdd] at hO); (try simp only [upd, updI, List.map_cons, List.map_nil, eq_self, if_true, if_false, reduceIte, Nat.add_eq_left, Nat.left_eq_add, Nat.reduceEqDiff, List.set_cons_zero, List.set_cons_succ, hU, hG] at hO); clear hG; refine own_callE hO (fun hW => notes_own hW hs) ?_; clear hO; rintro v L' w1 ⟨u, out, T2, ok, rfl, rfl, hl, h1, h2⟩ hO; (try simp only [World.size_alloc1, World.size_drew, Nat.reduceAdd] at hO); (try simp only [upd, updI, List.map_cons, List.map_nil, eq_self, if_true, if_false, reduceIte, Nat.add_eq_left, Nat.left_eq_add, Nat.reduceEqDiff, List.set_cons_zero, List.set_cons_succ, hU] at hO); have hF := hO; (try simp only [Own, Item.Holds, apartI, CellsAt, Nat.reduceAdd, Nat.zero_add, List.mem_cons, List.not_mem_nil, or_false, forall_eq_or_imp, forall_eq, ne_eq, false_imp_iff, implies_true, and_true] at hF))
  cases ok
  · have HE := hid (h2 rfl)
    clear h1 h2
    go_wp2_with fail
    go_ret2
    rw [HE.out.1, HE.out.2]
    exact RowOutB.mk (Own.nilRow _ _ (L := []) (Own.sub (List.nil_sublist _) (by (repeat (first | (with_reducible exact hO) | (with_reducible apply Own.alloc) | (with_reducible apply Own.drew) | ((with_reducible apply Own.set_at); (focus (show _ ≤ _; omega))))))))
  · obtain ⟨hv, he⟩ := h1 rfl
    have hen := rv_end hv he
    clear h1 h2 hv he
    obtain ⟨k, hk⟩ : ∃ k, out.length = k := ⟨_, rfl⟩
    obtain ⟨f, hf⟩ : ∃ f, voB out = f := ⟨_, rfl⟩
    have HV := hid (fun W hs => voI_is (va := u) (w := W) hk hs (by omega) hf W (Below.refl _ _))
    cases f
    · have HE := hid (hen.2 hf)
      rw [hk] at hO hF hl
      clear hen hk hf
      go_wp2_with (go_at_call 20; apply own_at hO; (repeat (first | (with_reducible exact hO) | (with_reducible apply Own.alloc) | (with_reducible apply Own.drew) | ((with_reducible apply Own.set_at); (focus (show _ ≤ _; omega))))); have hG := hF; clear hF; clear hO; intro hO; refine own_callO hO (fun hW => HV.out _ (SlAt.of_row hW.1.1)) ?_; clear hO; intro w1 hO; (try simp only [World.size_alloc1, World.size_drew, Nat.reduceAdd] at hO); (try simp only [upd, updI, List.map_cons, List.map_nil, eq_self, if_true, if_false, reduceIte, Nat.add_eq_left, Nat.left_eq_add, Nat.reduceEqDiff, List.set_cons_zero, List.set_cons_succ, hU, hG] at hO); clear hG; have hF := hO; (try simp only [Own, Item.Holds, apartI, CellsAt, Nat.reduceAdd, Nat.zero_add, List.mem_cons, List.not_mem_nil, or_false, forall_eq_or_imp, forall_eq, ne_eq, false_imp_iff, implies_true, and_true] at hF))
      go_ret2
      rw [HE.out.1, HE.out.2]
      exact RowOutB.mk (Own.nilRow _ _ (L := []) (Own.sub (List.nil_sublist _) (by (repeat (first | (with_reducible exact hO) | (with_reducible apply Own.alloc) | (with_reducible apply Own.drew) | ((with_reducible apply Own.set_at); (focus (show _ ≤ _; omega))))))))
    · have HE := hid (hen.1 hf)
      have HK := hid hk
      rw [hk] at hO hF hl
      clear hen hk hf
      go_wp2_with (go_at_call 20; apply own_at hO; (repeat (first | (with_reducible exact hO) | (with_reducible apply Own.alloc) | (with_reducible apply Own.drew) | ((with_reducible apply Own.set_at); (focus (show _ ≤ _; omega))))); have hG := hF; clear hF; clear hO; intro hO; refine own_callO hO (fun hW => HV.out _ (SlAt.of_row hW.1.1)) ?_; clear hO; intro w1 hO; (try simp only [World.size_alloc1, World.size_drew, Nat.reduceAdd] at hO); (try simp only [upd, updI, List.map_cons, List.map_nil, eq_self, if_true, if_false, reduceIte, Nat.add_eq_left, Nat.left_eq_add, Nat.reduceEqDiff, List.set_cons_zero, List.set_cons_succ, hU, hG] at hO); clear hG; have hF := hO; (try simp only [Own, Item.Holds, apartI, CellsAt, Nat.reduceAdd, Nat.zero_add, List.mem_cons, List.not_mem_nil, or_false, forall_eq_or_imp, forall_eq, ne_eq, false_imp_iff, implies_true, and_true] at hF))
      go_ret2
      rw [HE.out.1, HE.out.2, HK.out]
      exact RowOutB.mk hO
theorem rvI_C (w : World) : CReadVoice 9 w := fun T W _ hs => rvI_any T W hs
end Go.Proofs.Ytefbphmlhghojaa
