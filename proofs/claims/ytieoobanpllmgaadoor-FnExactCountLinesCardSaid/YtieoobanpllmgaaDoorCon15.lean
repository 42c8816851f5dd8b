/- What the functions of chapter 15 answer, as contracts; CompleteLine of the model. -/
import Derived.Test.YtieoobanpllmgaaDoorWalks15N
import Derived.Test.YtieoobanpllmgaaDoorWalks10T
namespace Go.Proofs.YtieoobanpllmgaaDoor
set_option linter.unusedSimpArgs false
set_option linter.unusedVariables false
set_option maxRecDepth 8000
open Go.RowKit

def CCt (g : FuncId) (w : World) : Prop := ∀ (f lo hi : Int) (va : Value) (c : List Pt) (W : World), Below w.heap.size w W → r64 f → r64 lo → r64 hi → SlAt W va c.length 3 (pcC c) → c.length ≤ 1048576 →
  Calls Tryd.prog g #[.int .i64 f, va, .int .i64 lo, .int .i64 hi] W fun e w' => e = .returned (.int .i64 (clZ f c lo hi)) ∧ Below W.heap.size W w'
def CNu (g : FuncId) (w : World) : Prop := ∀ (f lo hi m : Int) (va : Value) (c : List Pt) (W : World), Below w.heap.size w W → r64 f → r64 lo → r64 hi → r64 m → SlAt W va c.length 3 (pcC c) → c.length ≤ 1048576 →
  Calls Tryd.prog g #[.int .i64 f, va, .int .i64 lo, .int .i64 hi, .int .i64 m] W (RowOutB 37 3 (lnZ f c lo hi m).length (pcC (lnZ f c lo hi m)) (lbB f c lo hi m) W)
def CCp (g : FuncId) (w : World) : Prop := ∀ (f lo hi : Int) (va : Value) (c : List Pt) (W : World), Below w.heap.size w W → r64 f → r64 lo → r64 hi → SlAt W va c.length 3 (pcC c) → c.length ≤ 1048576 →
  Calls Tryd.prog g #[.int .i64 f, va, .int .i64 lo, .int .i64 hi] W (RowOutB 37 3 (lnZ f c lo hi 0).length (pcC (lnZ f c lo hi 0)) (lbB f c lo hi 0) W)
theorem CCt.to {g : FuncId} {w wd : World} (h : CCt g w) (hb : Below w.heap.size w wd) : CCt g wd := fun f lo hi va c W hW => h f lo hi va c W (btr hb hW)
theorem CNu.to {g : FuncId} {w wd : World} (h : CNu g w) (hb : Below w.heap.size w wd) : CNu g wd := fun f lo hi m va c W hW => h f lo hi m va c W (btr hb hW)
theorem CCp.to {g : FuncId} {w wd : World} (h : CCp g w) (hb : Below w.heap.size w wd) : CCp g wd := fun f lo hi va c W hW => h f lo hi va c W (btr hb hW)
theorem CCt.is {g : FuncId} {w : World} (h : CCt g w) {f lo hi z : Int} {c : List Pt} {n : Nat} (hf : r64 f) (hl : r64 lo) (hh : r64 hi) (hm : c.length = n) (hn : n ≤ 1048576) (hz : clZ f c lo hi = z) (va : Value) (W : World) (hW : Below w.heap.size w W) (hs : SlAt W va n 3 (pcC c)) :
    Calls Tryd.prog g #[.int .i64 f, va, .int .i64 lo, .int .i64 hi] W fun e w' => e = .returned (.int .i64 z) ∧ Below W.heap.size W w' := by
  subst hm hz; exact h f lo hi va c W hW hf hl hh hs hn
theorem CNu.is {g : FuncId} {w : World} (h : CNu g w) {f lo hi m : Int} {c l : List Pt} {n k : Nat} {b : Bool} (hf : r64 f) (hl : r64 lo) (hh : r64 hi) (hm6 : r64 m) (hm : c.length = n) (hn : n ≤ 1048576) (hz : lnZ f c lo hi m = l) (hk : l.length = k) (hb : lbB f c lo hi m = b) (va : Value) (W : World) (hW : Below w.heap.size w W) (hs : SlAt W va n 3 (pcC c)) :
    Calls Tryd.prog g #[.int .i64 f, va, .int .i64 lo, .int .i64 hi, .int .i64 m] W (RowOutB 37 3 k (pcC l) b W) := by
  subst hm hk hz hb; exact h f lo hi m va c W hW hf hl hh hm6 hs hn
theorem CCp.is {g : FuncId} {w : World} (h : CCp g w) {f lo hi : Int} {c l : List Pt} {n k : Nat} {b : Bool} (hf : r64 f) (hl : r64 lo) (hh : r64 hi) (hm : c.length = n) (hn : n ≤ 1048576) (hz : lnZ f c lo hi 0 = l) (hk : l.length = k) (hb : lbB f c lo hi 0 = b) (va : Value) (W : World) (hW : Below w.heap.size w W) (hs : SlAt W va n 3 (pcC c)) :
    Calls Tryd.prog g #[.int .i64 f, va, .int .i64 lo, .int .i64 hi] W (RowOutB 37 3 k (pcC l) b W) := by
  subst hm hk hz hb; exact h f lo hi va c W hW hf hl hh hs hn
theorem countS_C (w : World) : CCt 12 w := fun f lo hi va c W _ _ _ _ hs hn => countS_any f lo hi va c W hs hn

theorem numberS_C (w : World) : CNu 17 w := fun f lo hi m va c W _ _ _ _ _ hs hn => numberS_any f lo hi m va c W hs hn

set_option maxHeartbeats 1000000 in
theorem completeS_any (f lo hi : Int) (va : Value) (c : List Pt) (w : World) (hs : SlAt w va c.length 3 (pcC c)) (hn : c.length ≤ 1048576) :
    Calls Tryd.prog 22 #[.int .i64 f, va, .int .i64 lo, .int .i64 hi] w (RowOutB 37 3 (lnZ f c lo hi 0).length (pcC (lnZ f c lo hi 0)) (lbB f c lo hi 0) w) := by
  have hO := Own.start w
  have hF := True.intro
  have HN := hid (fun W (hW : Below w.heap.size w W) => numberS_any f lo hi 0 va c W (hs.below hW) hn)
  obtain ⟨A, cA, rfl⟩ := hs.form
  obtain ⟨l, hl⟩ : ∃ l, lnZ f c lo hi 0 = l := ⟨_, rfl⟩
  obtain ⟨k, hk⟩ : ∃ k, l.length = k := ⟨_, rfl⟩
  obtain ⟨b, hb⟩ : ∃ b, lbB f c lo hi 0 = b := ⟨_, rfl⟩
  rw [hl, hk, hb] at HN ⊢
  clear hs hl hk hb
  go_enter Tryd.func22, Tryd.ntmps22
  go_wp2_with (go_at_call 17; apply own_at hO; (repeat (first | (with_reducible exact hO) | (with_reducible apply Own.alloc) | (with_reducible apply Own.drew) | ((with_reducible apply Own.set_at); (focus (show _ ≤ _; omega))))); have hG := hF; clear hF; clear hO; intro hO; refine own_call_rowB hO (fun hB => HN.out _ hB) ?_; clear hO; intro v w1 hO; (try simp only [World.size_alloc1, World.size_drew, Nat.reduceAdd] at hO); (try simp only [upd, updI, List.map_cons, List.map_nil, eq_self, if_true, if_false, reduceIte, Nat.add_eq_left, Nat.left_eq_add, Nat.reduceEqDiff, List.set_cons_zero, List.set_cons_succ, hG] at hO); clear hG; have hF := hO; (try simp only [Own, Item.Holds, apartI, CellsAt, Nat.reduceAdd, Nat.zero_add, List.mem_cons, List.not_mem_nil, or_false, forall_eq_or_imp, forall_eq, ne_eq, false_imp_iff, implies_true, and_true] at hF))
  go_ret2
  exact RowOutB.mk hO

theorem completeS_C (w : World) : CCp 22 w := fun f lo hi va c W _ _ _ _ hs hn => completeS_any f lo hi va c W hs hn
end Go.Proofs.YtieoobanpllmgaaDoor
