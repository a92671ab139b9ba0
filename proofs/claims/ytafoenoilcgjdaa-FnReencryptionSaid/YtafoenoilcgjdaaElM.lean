/- A region that draws its order, loads a variable and stores into it at its very end: the loads are taken first. -/
import Derived.Test.YtafoenoilcgjdaaElJ
import Derived.Deep.RegionHeld3
import Derived.Test.YtafoenoilcgjdaaElL
import Derived.Test.YtafoenoilcgjdaaElA
import Derived.Test.YtafoenoilcgjdaaDrG5
import Derived.Test.YtafoenoilcgjdaaGrG
import Derived.Test.YtafoenoilcgjdaaTyI
namespace Go.Proofs.Ytafoenoilcgjdaa
open Go.RowKit


/-- Operation n waits for operation i. -/
def lastWaits (ops : Array Oper) (n i : Nat) : Bool :=
  match ops[n]? with
  | some o => o.after.any fun e => Region.binds .any e && e.on == i
  | none => false
/-- Whatever order is picked from here on; behind every operation but number n the condition S holds. -/
def wpJ (P : Program) (ops : Array Oper) (Q : Exit → Act → World → Prop) (n : Nat) (S : World → Prop) : Nat → Array Bool → Act → World → Prop
  | 0, L, a, w => Region.ready .any ops L = [] ∧ Q .normal a w
  | f + 1, L, a, w => (Region.ready .any ops L = [] → Q .normal a w) ∧
    ∀ i ∈ Region.ready .any ops L, wpOp P ops Q i (fun a' w' => (i ≠ n → S w') ∧ wpJ P ops Q n S f (L.setIfInBounds i true) a' w') a w
theorem wpJ_any {P : Program} {ops : Array Oper} {Q : Exit → Act → World → Prop} {n : Nat} {S : World → Prop} : ∀ (f : Nat) (L : Array Bool) (a : Act) (w : World), wpJ P ops Q n S f L a w → wpAny P .any ops Q f L a w
  | 0, _, _, _, h => h
  | f + 1, _, _, _, h => ⟨h.1, fun i hi => wpOp_mono (fun a' w' k => wpJ_any f _ a' w' k.2) (h.2 i hi)⟩
theorem wpJ_begin {P : Program} {ops : Array Oper} {Q : Exit → Act → World → Prop} {n : Nat} {S : World → Prop} {id : Nat} {a : Act} {w : World} (hm : P.follows .mixedOrders = true)
    (h : wpJ P ops Q n S ops.size (Array.replicate ops.size false) a w.drew) : (Code.region id ops true).wp P Q a w := wp_region_any hm (wpJ_any _ _ _ _ h)

section
variable {P : Program} {ops : Array Oper} {Q : Exit → Act → World → Prop} {n : Nat} {S : World → Prop}
theorem wpJ_first {i : Nat} {oi : Oper} {v : Value} (hi : ops[i]? = some oi) (hin : i ≠ n) (hlast : lastWaits ops n i = true)
    (hsel : ∀ (j : Nat) (o : Oper) cs b, ops[j]? = some o → o.op ≠ .select cs b) (hQ : ∀ c a w, Q (.panic c) (a.put oi.dst v) w → Q (.panic c) a w) :
    ∀ (f : Nat) (L : Array Bool) (a : Act) (w : World),
      (∀ j oj, ops[j]? = some oj → j ≠ i → L.getD j true = false → (∀ e ∈ oj.after, Region.binds .any e = true → e.on ≠ i) → oi.apart ops oj = true) →
      i ∈ Region.ready .any ops L → YieldsIf P ops S oi v a → S w → wpJ P ops Q n S f (L.setIfInBounds i true) (a.put oi.dst v) w → wpJ P ops Q n S (f + 1) L a w
  | f, L, a, w, hfree, hr, hy, hS, H => by
    refine ⟨fun h0 => (by rw [h0] at hr; cases hr), fun j hj => ?_⟩
    by_cases hji : j = i
    · subst hji
      exact hy.wpOp hi hS ⟨fun _ => hS, H⟩
    · cases f with
      | zero =>
        have := ready_mono hj hji
        rw [H.1] at this
        cases this
      | succ f =>
        obtain ⟨hjun, oj, hoj, hall⟩ := mem_ready.1 hj
        have hoff : L.getD i false = false := by
          have h0 := (mem_ready.1 hr).1
          rcases Nat.lt_or_ge i L.size with h' | h'
          · simp [h'] at h0 ⊢; exact h0
          · simp [Array.getElem?_eq_none h']
        have hnot : ∀ e ∈ oj.after, Region.binds .any e = true → e.on ≠ i := fun e he hb heq => by
          have h1 := hall e he hb
          rw [heq, hoff] at h1
          cases h1
        have hjn : j ≠ n := fun hjn => by
          subst hjn
          unfold lastWaits at hlast
          rw [hoj] at hlast
          obtain ⟨e, he, hb⟩ := Array.any_eq_true'.1 hlast
          simp only [Bool.and_eq_true, beq_iff_eq] at hb
          exact hnot e he hb.1 hb.2
        have h2 := wpOp_putIf hoj (hfree j oj hoj hji hjun hnot) (fun cs b => hsel i oi cs b hi) (fun cs b => hsel j oj cs b hoj) hQ hy (H.2 j (ready_mono hj hji))
        have hfree' : ∀ k ok, ops[k]? = some ok → k ≠ i → (L.setIfInBounds j true).getD k true = false →
            (∀ e ∈ ok.after, Region.binds .any e = true → e.on ≠ i) → oi.apart ops ok = true := fun k ok hk hki hun hno => by
          refine hfree k ok hk hki ?_ hno
          by_cases hjk : j = k
          · subst hjk; exact hjun
          · rw [getD_set_ne true hjk] at hun; exact hun
        refine wpOp_mono (fun a' w' h3 => ⟨fun _ => h3.2.1 hjn, wpJ_first hi hin hlast hsel hQ f _ a' w' hfree' (ready_mono hr (Ne.symm hji)) h3.1 (h3.2.1 hjn) ?_⟩) h2
        rw [Array.setIfInBounds_comm _ _ hji]
        exact h3.2.2
theorem wpJ_take {i : Nat} {oi : Oper} {v : Value} {f : Nat} {L : Array Bool} {a : Act} {w : World} (hi' : ops.toList[i]? = some oi)
    (hs : Region.noSelect ops = true) (hf : Region.free .any ops L i = true) (hr : (Region.ready .any ops L).contains i = true) (hl : (i != n && lastWaits ops n i) = true)
    (hQ : ∀ c a w, Q (.panic c) (a.put oi.dst v) w → Q (.panic c) a w) (hy : YieldsIf P ops S oi v a) (hS : S w)
    (h : wpJ P ops Q n S f (L.setIfInBounds i true) (a.put oi.dst v) w) : wpJ P ops Q n S (f + 1) L a w := by
  simp only [Bool.and_eq_true, bne_iff_ne] at hl
  have hi : ops[i]? = some oi := by rw [← Array.getElem?_toList]; exact hi'
  exact wpJ_first hi hl.1 hl.2 (Region.noSelect_spec hs) hQ f L a w (Region.free_spec hi hf) (by simpa using hr) hy hS h
theorem wpJ_one {i : Nat} {o : Oper} {f : Nat} {L : Array Bool} {a : Act} {w : World} (hr : Region.ready .any ops L = [i]) (ho' : ops.toList[i]? = some o)
    (h : ∀ K' : Act → World → Prop, Shut (∀ a w, (i ≠ n → S w) → wpJ P ops Q n S f (L.setIfInBounds i true) a w → K' a w) → if Region.wanted o (yielded ops a.tmps) = true then Oper.wp P o a w K' Q else K' (a.put o.dst undef) w) : wpJ P ops Q n S (f + 1) L a w := by
  refine ⟨fun h0 => (by rw [h0] at hr; cases hr), fun j hj => ?_⟩
  rw [hr] at hj
  obtain rfl : j = i := by simpa using hj
  have ho : ops[j]? = some o := by rw [← Array.getElem?_toList]; exact ho'
  exact wpOp_step ho (fun K' hK => h K' (fun a w hS hW => hK a w ⟨hS, hW⟩))
theorem wpJ_two {i j : Nat} {o o' : Oper} {f : Nat} {L : Array Bool} {a : Act} {w : World} (hr : Region.ready .any ops L = [i, j]) (hoi : ops.toList[i]? = some o) (hoj : ops.toList[j]? = some o')
    (h : ∀ K' : Act → World → Prop, Shut (∀ a w, (i ≠ n → S w) → wpJ P ops Q n S f (L.setIfInBounds i true) a w → K' a w) → if Region.wanted o (yielded ops a.tmps) = true then Oper.wp P o a w K' Q else K' (a.put o.dst undef) w)
    (h' : ∀ K' : Act → World → Prop, Shut (∀ a w, (j ≠ n → S w) → wpJ P ops Q n S f (L.setIfInBounds j true) a w → K' a w) → if Region.wanted o' (yielded ops a.tmps) = true then Oper.wp P o' a w K' Q else K' (a.put o'.dst undef) w) : wpJ P ops Q n S (f + 1) L a w := by
  refine ⟨fun h0 => (by rw [h0] at hr; cases hr), fun k hk => ?_⟩
  rw [hr] at hk
  simp only [List.mem_cons, List.not_mem_nil, or_false] at hk
  have ho : ops[i]? = some o := by rw [← Array.getElem?_toList]; exact hoi
  have ho' : ops[j]? = some o' := by rw [← Array.getElem?_toList]; exact hoj
  rcases hk with rfl | rfl
  · exact wpOp_step ho (fun K' hK => h K' (fun a w hS hW => hK a w ⟨hS, hW⟩))
  · exact wpOp_step ho' (fun K' hK => h' K' (fun a w hS hW => hK a w ⟨hS, hW⟩))
theorem wpJ_done {L : Array Bool} {a : Act} {w : World} (hr : Region.ready .any ops L = []) (h : Q .normal a w) : ∀ f, wpJ P ops Q n S f L a w
  | 0 => ⟨hr, h⟩
  | _ + 1 => ⟨fun _ => h, by rw [hr]; simp⟩
end


end Go.Proofs.Ytafoenoilcgjdaa

/- ElGamal: the reference's products of ciphertexts. -/
namespace Go.Proofs.Ytafoenoilcgjdaa
open Go.RowKit


theorem em_mk {W : World} {g o c : Nat} {P Q G x y p q : Int} (hg : GR W g P Q G) (ho : C2 W o x y) (hc : C2 W c p q) :
    W.cell? ⟨g, 0, none⟩ = some (.int .i64 P) ∧ W.cell? ⟨g, 1, none⟩ = some (.int .i64 Q) ∧ W.cell? ⟨g, 2, none⟩ = some (.int .i64 G) ∧ W.cell? ⟨o, 0, none⟩ = some (.int .i64 x) ∧ W.cell? ⟨o, 1, none⟩ = some (.int .i64 y) ∧ W.cell? ⟨c, 0, none⟩ = some (.int .i64 p) ∧ W.cell? ⟨c, 1, none⟩ = some (.int .i64 q) := ⟨hg.1, hg.2.1, hg.2.2, ho.1, ho.2.1, hc.1, hc.2.1⟩

set_option maxRecDepth 100000 in
set_option maxHeartbeats 12800000 in
theorem eMul_any (P Q G : Int) (h2 : 2 ≤ P) (h3 : P ≤ 2000000000) (ad : Option Addr) (n cap : Nat) (zs : List Int) (hn : zs.length = n * 2) (hl : n ≤ 2000000) (hr : ∀ z ∈ zs, 0 ≤ z ∧ z < P) (w : World) (hz : IsInts w ad zs) :
    Calls Try.prog 87 #[gv P Q G, .slice ad n cap] w fun e w' => e = .returned (cv (mulFrom P 1 (evens zs)) (mulFrom P 1 (odds zs))) ∧ Below w.heap.size w w' := by
  have HR := Lib.hid hr
  have HN := Lib.hid hn
  have HZ := Lib.hid hz
  clear hr hn hz
  have G_0 := Lib.hid (((gr_at w (w.heap.size) (by simp) P Q G 27).below (ba (w.alloc (.cells #[.int .i64 P, .int .i64 Q, .int .i64 G] 27)) (.cells #[.int .i64 0, .int .i64 0] 61))).below (ba ((w.alloc (.cells #[.int .i64 P, .int .i64 Q, .int .i64 G] 27)).alloc (.cells #[.int .i64 0, .int .i64 0] 61)) (.cells #[.int .i64 1, .int .i64 1] 61)))
  have R_0 := Lib.hid ((c2_at (w.alloc (.cells #[.int .i64 P, .int .i64 Q, .int .i64 G] 27)) (w.heap.size + 1) (by simp) 0 0 61).below (ba ((w.alloc (.cells #[.int .i64 P, .int .i64 Q, .int .i64 G] 27)).alloc (.cells #[.int .i64 0, .int .i64 0] 61)) (.cells #[.int .i64 1, .int .i64 1] 61)))
  have V_0 := Lib.hid (c2_at ((w.alloc (.cells #[.int .i64 P, .int .i64 Q, .int .i64 G] 27)).alloc (.cells #[.int .i64 0, .int .i64 0] 61)) (w.heap.size + 1 + 1) (by simp) 1 1 61)
  have HB_0 := Lib.hid (show Below w.heap.size w (((w.alloc (.cells #[.int .i64 P, .int .i64 Q, .int .i64 G] 27)).alloc (.cells #[.int .i64 0, .int .i64 0] 61)).alloc (.cells #[.int .i64 1, .int .i64 1] 61)) from bt (bt (ba _ _) (ba _ _)) (ba _ _))
  go_enter Try.func87, Try.ntmps87
  go_wp2
  go_loopw [11] (fun K wr => ∃ (k : Nat) (x y : Int), k ≤ n ∧ K = .int .i64 k ∧ (0 ≤ x ∧ x < P) ∧ (0 ≤ y ∧ y < P) ∧ mulFrom P 1 (evens zs) = mulFrom P x ((evens zs).drop k) ∧ mulFrom P 1 (odds zs) = mulFrom P y ((odds zs).drop k) ∧ Below w.heap.size w wr ∧ GR wr w.heap.size P Q G ∧ C2 wr (w.heap.size + 1) 0 0 ∧ C2 wr (w.heap.size + 1 + 1) x y) (fun K _ => n - (intOf K).toNat)
  case atStart => exact ⟨0, 1, 1, Nat.zero_le _, rfl, ⟨by decide, by omega⟩, ⟨by decide, by omega⟩, rfl, rfl, HB_0.out, G_0.out, R_0.out, V_0.out⟩
  case round =>
    obtain ⟨k, x, y, hk, rfl, ⟨x0, x1⟩, ⟨y0, y1⟩, hex, hey, hbel, hgr, hres, hv⟩ := hrel
    by_cases hkn : k < n
    · obtain ⟨b, off, p, q, rfl, hb, hc1, hc2, hd⟩ := (HZ.out.below hbel (Nat.le_refl _)).pair hkn HN.out
      have HS := Lib.hid (pair_mul hd hex hey)
      have hp := HR.out p (mem_drop hd)
      have hq := HR.out q (List.mem_of_mem_drop (i := k * 2) (by rw [hd]; simp))
      have hal := ba wr (.cells #[.int .i64 p, .int .i64 q] 61)
      have HBa := Lib.hid (bt hbel hal)
      have HGa := Lib.hid (hgr.below hal)
      have HRa := Lib.hid (hres.below hal)
      have HVa := Lib.hid (hv.below hal)
      have HCa := Lib.hid (c2_new wr p q 61)
      have hsw : w.heap.size + 1 + 1 < wr.heap.size := hv.lt
      obtain ⟨hp0, hp1⟩ := hp
      obtain ⟨hq0, hq1⟩ := hq
      have hxp0 : 0 ≤ x * p % P := Int.emod_nonneg _ (by omega)
      have hxp1 : x * p % P < P := Int.emod_lt_of_pos _ (by omega)
      have hyq0 : 0 ≤ y * q % P := Int.emod_nonneg _ (by omega)
      have hyq1 : y * q % P < P := Int.emod_lt_of_pos _ (by omega)
      have hne : w.heap.size + 1 + 1 ≠ w.heap.size := by omega
      have hnc : w.heap.size + 1 + 1 ≠ wr.heap.size := by omega
      have hs1 : (wr.alloc (.cells #[.int .i64 p, .int .i64 q] 61)).heap.size = wr.heap.size + 1 := by simp
      clear hd hex hey hbel hgr hres hv hal
      go_wp2_with fail
      have HG0 := Lib.hid (GR.drew HGa.out)
      have HV0 := Lib.hid (C2.drew HVa.out)
      have HC0 := Lib.hid (C2.drew HCa.out)
      have HR0 := Lib.hid (C2.drew HRa.out)
      have HX0 := Lib.hid (show Below (wr.alloc (.cells #[.int .i64 p, .int .i64 q] 61)).heap.size (wr.alloc (.cells #[.int .i64 p, .int .i64 q] 61)) (wr.alloc (.cells #[.int .i64 p, .int .i64 q] 61)).drew from (Below.refl _ _).drew)
      have HS0 := em_mk HG0.out HV0.out HC0.out
      refine wpJ_begin (n := 15) (S := (fun w' => w'.cell? ⟨w.heap.size, 0, none⟩ = some (.int .i64 P) ∧ w'.cell? ⟨w.heap.size, 1, none⟩ = some (.int .i64 Q) ∧ w'.cell? ⟨w.heap.size, 2, none⟩ = some (.int .i64 G) ∧ w'.cell? ⟨w.heap.size + 1 + 1, 0, none⟩ = some (.int .i64 x) ∧ w'.cell? ⟨w.heap.size + 1 + 1, 1, none⟩ = some (.int .i64 y) ∧ w'.cell? ⟨wr.heap.size, 0, none⟩ = some (.int .i64 p) ∧ w'.cell? ⟨wr.heap.size, 1, none⟩ = some (.int .i64 q))) (by kernel_rfl) ?_
      refine wpJ_take (i := 0) (v := ?_) rfl (by kernel_rfl) (by kernel_rfl) (by kernel_rfl) (by kernel_rfl) (fun _ _ _ h => h) (Or.inl ⟨by rfl, ?_⟩) HS0 ?_
      rotate_left 1
      · intro w9 hSw
        (try dsimp only at hSw)
        go_simp
        (try with_reducible rfl)
      (try simp only [Act.put, List.setIfInBounds_toArray, List.set_cons_zero, List.set_cons_succ])
      refine wpJ_take (i := 1) (v := ?_) rfl (by kernel_rfl) (by kernel_rfl) (by kernel_rfl) (by kernel_rfl) (fun _ _ _ h => h) (Or.inl ⟨by rfl, ?_⟩) HS0 ?_
      rotate_left 1
      · intro w9 hSw
        (try dsimp only at hSw)
        go_simp
        (try with_reducible rfl)
      (try simp only [Act.put, List.setIfInBounds_toArray, List.set_cons_zero, List.set_cons_succ])
      refine wpJ_take (i := 2) (v := ?_) rfl (by kernel_rfl) (by kernel_rfl) (by kernel_rfl) (by kernel_rfl) (fun _ _ _ h => h) (Or.inl ⟨by rfl, ?_⟩) HS0 ?_
      rotate_left 1
      · intro w9 hSw
        (try dsimp only at hSw)
        go_simp
        (try with_reducible rfl)
      (try simp only [Act.put, List.setIfInBounds_toArray, List.set_cons_zero, List.set_cons_succ])
      refine wpJ_take (i := 3) (v := ?_) rfl (by kernel_rfl) (by kernel_rfl) (by kernel_rfl) (by kernel_rfl) (fun _ _ _ h => h) (Or.inl ⟨by rfl, ?_⟩) HS0 ?_
      rotate_left 1
      · intro w9 hSw
        (try dsimp only at hSw)
        go_simp
        (try with_reducible rfl)
      (try simp only [Act.put, List.setIfInBounds_toArray, List.set_cons_zero, List.set_cons_succ])
      refine wpJ_take (i := 4) (v := ?_) rfl (by kernel_rfl) (by kernel_rfl) (by kernel_rfl) (by kernel_rfl) (fun _ _ _ h => h) (Or.inl ⟨by rfl, ?_⟩) HS0 ?_
      rotate_left 1
      · intro w9 hSw
        (try dsimp only at hSw)
        go_simp
        (try with_reducible rfl)
      (try simp only [Act.put, List.setIfInBounds_toArray, List.set_cons_zero, List.set_cons_succ])
      refine wpJ_take (i := 7) (v := ?_) rfl (by kernel_rfl) (by kernel_rfl) (by kernel_rfl) (by kernel_rfl) (fun _ _ _ h => h) (Or.inl ⟨by rfl, ?_⟩) HS0 ?_
      rotate_left 1
      · intro w9 hSw
        (try dsimp only at hSw)
        go_simp
        (try with_reducible rfl)
      (try simp only [Act.put, List.setIfInBounds_toArray, List.set_cons_zero, List.set_cons_succ])
      refine wpJ_take (i := 8) (v := ?_) rfl (by kernel_rfl) (by kernel_rfl) (by kernel_rfl) (by kernel_rfl) (fun _ _ _ h => h) (Or.inl ⟨by rfl, ?_⟩) HS0 ?_
      rotate_left 1
      · intro w9 hSw
        (try dsimp only at hSw)
        go_simp
        (try with_reducible rfl)
      (try simp only [Act.put, List.setIfInBounds_toArray, List.set_cons_zero, List.set_cons_succ])
      refine wpJ_take (i := 9) (v := ?_) rfl (by kernel_rfl) (by kernel_rfl) (by kernel_rfl) (by kernel_rfl) (fun _ _ _ h => h) (Or.inl ⟨by rfl, ?_⟩) HS0 ?_
      rotate_left 1
      · intro w9 hSw
        (try dsimp only at hSw)
        go_simp
        (try with_reducible rfl)
      (try simp only [Act.put, List.setIfInBounds_toArray, List.set_cons_zero, List.set_cons_succ])
      refine wpJ_take (i := 10) (v := ?_) rfl (by kernel_rfl) (by kernel_rfl) (by kernel_rfl) (by kernel_rfl) (fun _ _ _ h => h) (Or.inl ⟨by rfl, ?_⟩) HS0 ?_
      rotate_left 1
      · intro w9 hSw
        (try dsimp only at hSw)
        go_simp
        (try with_reducible rfl)
      (try simp only [Act.put, List.setIfInBounds_toArray, List.set_cons_zero, List.set_cons_succ])
      refine wpJ_take (i := 11) (v := ?_) rfl (by kernel_rfl) (by kernel_rfl) (by kernel_rfl) (by kernel_rfl) (fun _ _ _ h => h) (Or.inl ⟨by rfl, ?_⟩) HS0 ?_
      rotate_left 1
      · intro w9 hSw
        (try dsimp only at hSw)
        go_simp
        (try with_reducible rfl)
      (try simp only [Act.put, List.setIfInBounds_toArray, List.set_cons_zero, List.set_cons_succ])
      clear HS0
      refine wpJ_two (i := 5) (j := 12) (by kernel_rfl) rfl rfl ?_ ?_
      · skip
        intro K' hK
        go_simp
        have hal := ba (wr.alloc (.cells #[.int .i64 p, .int .i64 q] 61)).drew (.cells #[.int .i64 x, .int .i64 p] 3)
        have HG1 := Lib.hid (HG0.out.below hal)
        have HV1 := Lib.hid (HV0.out.below hal)
        have HC1 := Lib.hid (HC0.out.below hal)
        have HR1 := Lib.hid (HR0.out.below hal)
        have HX1 := Lib.hid (bt HX0.out hal)
        have HL5_1 := Lib.hid (show IsInts ((wr.alloc (.cells #[.int .i64 p, .int .i64 q] 61)).drew.alloc (.cells #[.int .i64 x, .int .i64 p] 3)) (some ⟨wr.heap.size + 1, 0, none⟩) [x, p] from ints_spot7 (wr.alloc (.cells #[.int .i64 p, .int .i64 q] 61)).drew (wr.heap.size + 1) hs1 [x, p] 3)
        clear hal
        refine hK.out _ _ (fun _ => em_mk HG1.out HV1.out HC1.out) ?_
        clear hK K'
        (try simp only [Act.put, List.setIfInBounds_toArray, List.set_cons_zero, List.set_cons_succ])
        refine wpJ_two (i := 6) (j := 12) (by kernel_rfl) rfl rfl ?_ ?_
        · skip
          intro K' hK
          go_simp
          go_at_call 57
          refine (gMul2_any P Q G h2 h3 _ HL5_1.out ⟨x0, x1⟩ ⟨hp0, hp1⟩).mono ?_
          rintro e v2 ⟨rfl, hpp⟩
          have HG2 := Lib.hid (HG1.out.below hpp)
          have HV2 := Lib.hid (HV1.out.below hpp)
          have HC2 := Lib.hid (HC1.out.below hpp)
          have HR2 := Lib.hid (HR1.out.below hpp)
          have HX2 := Lib.hid (bt HX1.out hpp)
          clear hpp
          go_wp2_with fail
          refine hK.out _ _ (fun _ => em_mk HG2.out HV2.out HC2.out) ?_
          clear hK K'
          (try simp only [Act.put, List.setIfInBounds_toArray, List.set_cons_zero, List.set_cons_succ])
          refine wpJ_one (i := 12) (by kernel_rfl) rfl ?_
          intro K' hK
          go_simp
          have hal := ba v2 (.cells #[.int .i64 y, .int .i64 q] 3)
          have HG3 := Lib.hid (HG2.out.below hal)
          have HV3 := Lib.hid (HV2.out.below hal)
          have HC3 := Lib.hid (HC2.out.below hal)
          have HR3 := Lib.hid (HR2.out.below hal)
          have HX3 := Lib.hid (bt HX2.out hal)
          have HL12_3 := Lib.hid (show IsInts (v2.alloc (.cells #[.int .i64 y, .int .i64 q] 3)) (some ⟨v2.heap.size, 0, none⟩) [y, q] from ints_spot7 v2 (v2.heap.size) rfl [y, q] 3)
          clear hal
          refine hK.out _ _ (fun _ => em_mk HG3.out HV3.out HC3.out) ?_
          clear hK K'
          (try simp only [Act.put, List.setIfInBounds_toArray, List.set_cons_zero, List.set_cons_succ])
          refine wpJ_one (i := 13) (by kernel_rfl) rfl ?_
          intro K' hK
          go_simp
          go_at_call 57
          refine (gMul2_any P Q G h2 h3 _ HL12_3.out ⟨y0, y1⟩ ⟨hq0, hq1⟩).mono ?_
          rintro e v4 ⟨rfl, hpp⟩
          have HG4 := Lib.hid (HG3.out.below hpp)
          have HV4 := Lib.hid (HV3.out.below hpp)
          have HC4 := Lib.hid (HC3.out.below hpp)
          have HR4 := Lib.hid (HR3.out.below hpp)
          have HX4 := Lib.hid (bt HX3.out hpp)
          clear hpp
          go_wp2_with fail
          refine hK.out _ _ (fun _ => em_mk HG4.out HV4.out HC4.out) ?_
          clear hK K'
          (try simp only [Act.put, List.setIfInBounds_toArray, List.set_cons_zero, List.set_cons_succ])
          refine wpJ_one (i := 14) (by kernel_rfl) rfl ?_
          intro K' hK
          go_simp
          refine hK.out _ _ (fun _ => em_mk HG4.out HV4.out HC4.out) ?_
          clear hK K'
          (try simp only [Act.put, List.setIfInBounds_toArray, List.set_cons_zero, List.set_cons_succ])
          refine wpJ_one (i := 15) (by kernel_rfl) rfl ?_
          intro K' hK
          obtain ⟨u0, u1, uf⟩ := HV4.out
          have uf0 := uf 0
          have uf1 := uf 1
          clear uf
          go_simp
          refine hK.out _ _ (fun h => absurd rfl h) ?_
          clear hK K'
          (try simp only [Act.put, List.setIfInBounds_toArray, List.set_cons_zero, List.set_cons_succ])
          refine wpJ_done (by kernel_rfl) ?_ _
          go_wp2
          go_roundw
          case rel => exact ⟨k + 1, _, _, by omega, by go_num, ⟨hxp0, hxp1⟩, ⟨hyq0, hyq1⟩, HS.out.1, HS.out.2, set_below (bt HBa.out HX4.out) _ (by omega) _ _, gr_pair HG4.out hne _ _, (HR4.out.other _ _ (by simp)).other _ _ (by simp), HV4.out.set _ _⟩
          case measure => simp only [intOf]; omega
        · skip
          intro K' hK
          go_simp
          have hal := ba ((wr.alloc (.cells #[.int .i64 p, .int .i64 q] 61)).drew.alloc (.cells #[.int .i64 x, .int .i64 p] 3)) (.cells #[.int .i64 y, .int .i64 q] 3)
          have HG5 := Lib.hid (HG1.out.below hal)
          have HV5 := Lib.hid (HV1.out.below hal)
          have HC5 := Lib.hid (HC1.out.below hal)
          have HR5 := Lib.hid (HR1.out.below hal)
          have HX5 := Lib.hid (bt HX1.out hal)
          have HL5_5 := Lib.hid (HL5_1.out.below hal (Nat.le_refl _))
          have HL12_5 := Lib.hid (show IsInts (((wr.alloc (.cells #[.int .i64 p, .int .i64 q] 61)).drew.alloc (.cells #[.int .i64 x, .int .i64 p] 3)).alloc (.cells #[.int .i64 y, .int .i64 q] 3)) (some ⟨wr.heap.size + 1 + 1, 0, none⟩) [y, q] from ints_spot7 ((wr.alloc (.cells #[.int .i64 p, .int .i64 q] 61)).drew.alloc (.cells #[.int .i64 x, .int .i64 p] 3)) (wr.heap.size + 1 + 1) (by first | (simp; done) | (simp; exact hs1)) [y, q] 3)
          clear hal
          refine hK.out _ _ (fun _ => em_mk HG5.out HV5.out HC5.out) ?_
          clear hK K'
          (try simp only [Act.put, List.setIfInBounds_toArray, List.set_cons_zero, List.set_cons_succ])
          refine wpJ_one (i := 6) (by kernel_rfl) rfl ?_
          intro K' hK
          go_simp
          go_at_call 57
          refine (gMul2_any P Q G h2 h3 _ HL5_5.out ⟨x0, x1⟩ ⟨hp0, hp1⟩).mono ?_
          rintro e v6 ⟨rfl, hpp⟩
          have HG6 := Lib.hid (HG5.out.below hpp)
          have HV6 := Lib.hid (HV5.out.below hpp)
          have HC6 := Lib.hid (HC5.out.below hpp)
          have HR6 := Lib.hid (HR5.out.below hpp)
          have HX6 := Lib.hid (bt HX5.out hpp)
          have HL12_6 := Lib.hid (HL12_5.out.below hpp (Nat.le_refl _))
          clear hpp
          go_wp2_with fail
          refine hK.out _ _ (fun _ => em_mk HG6.out HV6.out HC6.out) ?_
          clear hK K'
          (try simp only [Act.put, List.setIfInBounds_toArray, List.set_cons_zero, List.set_cons_succ])
          refine wpJ_one (i := 13) (by kernel_rfl) rfl ?_
          intro K' hK
          go_simp
          go_at_call 57
          refine (gMul2_any P Q G h2 h3 _ HL12_6.out ⟨y0, y1⟩ ⟨hq0, hq1⟩).mono ?_
          rintro e v7 ⟨rfl, hpp⟩
          have HG7 := Lib.hid (HG6.out.below hpp)
          have HV7 := Lib.hid (HV6.out.below hpp)
          have HC7 := Lib.hid (HC6.out.below hpp)
          have HR7 := Lib.hid (HR6.out.below hpp)
          have HX7 := Lib.hid (bt HX6.out hpp)
          clear hpp
          go_wp2_with fail
          refine hK.out _ _ (fun _ => em_mk HG7.out HV7.out HC7.out) ?_
          clear hK K'
          (try simp only [Act.put, List.setIfInBounds_toArray, List.set_cons_zero, List.set_cons_succ])
          refine wpJ_one (i := 14) (by kernel_rfl) rfl ?_
          intro K' hK
          go_simp
          refine hK.out _ _ (fun _ => em_mk HG7.out HV7.out HC7.out) ?_
          clear hK K'
          (try simp only [Act.put, List.setIfInBounds_toArray, List.set_cons_zero, List.set_cons_succ])
          refine wpJ_one (i := 15) (by kernel_rfl) rfl ?_
          intro K' hK
          obtain ⟨u0, u1, uf⟩ := HV7.out
          have uf0 := uf 0
          have uf1 := uf 1
          clear uf
          go_simp
          refine hK.out _ _ (fun h => absurd rfl h) ?_
          clear hK K'
          (try simp only [Act.put, List.setIfInBounds_toArray, List.set_cons_zero, List.set_cons_succ])
          refine wpJ_done (by kernel_rfl) ?_ _
          go_wp2
          go_roundw
          case rel => exact ⟨k + 1, _, _, by omega, by go_num, ⟨hxp0, hxp1⟩, ⟨hyq0, hyq1⟩, HS.out.1, HS.out.2, set_below (bt HBa.out HX7.out) _ (by omega) _ _, gr_pair HG7.out hne _ _, (HR7.out.other _ _ (by simp)).other _ _ (by simp), HV7.out.set _ _⟩
          case measure => simp only [intOf]; omega
      · skip
        intro K' hK
        go_simp
        have hal := ba (wr.alloc (.cells #[.int .i64 p, .int .i64 q] 61)).drew (.cells #[.int .i64 y, .int .i64 q] 3)
        have HG8 := Lib.hid (HG0.out.below hal)
        have HV8 := Lib.hid (HV0.out.below hal)
        have HC8 := Lib.hid (HC0.out.below hal)
        have HR8 := Lib.hid (HR0.out.below hal)
        have HX8 := Lib.hid (bt HX0.out hal)
        have HL12_8 := Lib.hid (show IsInts ((wr.alloc (.cells #[.int .i64 p, .int .i64 q] 61)).drew.alloc (.cells #[.int .i64 y, .int .i64 q] 3)) (some ⟨wr.heap.size + 1, 0, none⟩) [y, q] from ints_spot7 (wr.alloc (.cells #[.int .i64 p, .int .i64 q] 61)).drew (wr.heap.size + 1) hs1 [y, q] 3)
        clear hal
        refine hK.out _ _ (fun _ => em_mk HG8.out HV8.out HC8.out) ?_
        clear hK K'
        (try simp only [Act.put, List.setIfInBounds_toArray, List.set_cons_zero, List.set_cons_succ])
        refine wpJ_one (i := 5) (by kernel_rfl) rfl ?_
        intro K' hK
        go_simp
        have hal := ba ((wr.alloc (.cells #[.int .i64 p, .int .i64 q] 61)).drew.alloc (.cells #[.int .i64 y, .int .i64 q] 3)) (.cells #[.int .i64 x, .int .i64 p] 3)
        have HG9 := Lib.hid (HG8.out.below hal)
        have HV9 := Lib.hid (HV8.out.below hal)
        have HC9 := Lib.hid (HC8.out.below hal)
        have HR9 := Lib.hid (HR8.out.below hal)
        have HX9 := Lib.hid (bt HX8.out hal)
        have HL12_9 := Lib.hid (HL12_8.out.below hal (Nat.le_refl _))
        have HL5_9 := Lib.hid (show IsInts (((wr.alloc (.cells #[.int .i64 p, .int .i64 q] 61)).drew.alloc (.cells #[.int .i64 y, .int .i64 q] 3)).alloc (.cells #[.int .i64 x, .int .i64 p] 3)) (some ⟨wr.heap.size + 1 + 1, 0, none⟩) [x, p] from ints_spot7 ((wr.alloc (.cells #[.int .i64 p, .int .i64 q] 61)).drew.alloc (.cells #[.int .i64 y, .int .i64 q] 3)) (wr.heap.size + 1 + 1) (by first | (simp; done) | (simp; exact hs1)) [x, p] 3)
        clear hal
        refine hK.out _ _ (fun _ => em_mk HG9.out HV9.out HC9.out) ?_
        clear hK K'
        (try simp only [Act.put, List.setIfInBounds_toArray, List.set_cons_zero, List.set_cons_succ])
        refine wpJ_one (i := 6) (by kernel_rfl) rfl ?_
        intro K' hK
        go_simp
        go_at_call 57
        refine (gMul2_any P Q G h2 h3 _ HL5_9.out ⟨x0, x1⟩ ⟨hp0, hp1⟩).mono ?_
        rintro e v10 ⟨rfl, hpp⟩
        have HG10 := Lib.hid (HG9.out.below hpp)
        have HV10 := Lib.hid (HV9.out.below hpp)
        have HC10 := Lib.hid (HC9.out.below hpp)
        have HR10 := Lib.hid (HR9.out.below hpp)
        have HX10 := Lib.hid (bt HX9.out hpp)
        have HL12_10 := Lib.hid (HL12_9.out.below hpp (Nat.le_refl _))
        clear hpp
        go_wp2_with fail
        refine hK.out _ _ (fun _ => em_mk HG10.out HV10.out HC10.out) ?_
        clear hK K'
        (try simp only [Act.put, List.setIfInBounds_toArray, List.set_cons_zero, List.set_cons_succ])
        refine wpJ_one (i := 13) (by kernel_rfl) rfl ?_
        intro K' hK
        go_simp
        go_at_call 57
        refine (gMul2_any P Q G h2 h3 _ HL12_10.out ⟨y0, y1⟩ ⟨hq0, hq1⟩).mono ?_
        rintro e v11 ⟨rfl, hpp⟩
        have HG11 := Lib.hid (HG10.out.below hpp)
        have HV11 := Lib.hid (HV10.out.below hpp)
        have HC11 := Lib.hid (HC10.out.below hpp)
        have HR11 := Lib.hid (HR10.out.below hpp)
        have HX11 := Lib.hid (bt HX10.out hpp)
        clear hpp
        go_wp2_with fail
        refine hK.out _ _ (fun _ => em_mk HG11.out HV11.out HC11.out) ?_
        clear hK K'
        (try simp only [Act.put, List.setIfInBounds_toArray, List.set_cons_zero, List.set_cons_succ])
        refine wpJ_one (i := 14) (by kernel_rfl) rfl ?_
        intro K' hK
        go_simp
        refine hK.out _ _ (fun _ => em_mk HG11.out HV11.out HC11.out) ?_
        clear hK K'
        (try simp only [Act.put, List.setIfInBounds_toArray, List.set_cons_zero, List.set_cons_succ])
        refine wpJ_one (i := 15) (by kernel_rfl) rfl ?_
        intro K' hK
        obtain ⟨u0, u1, uf⟩ := HV11.out
        have uf0 := uf 0
        have uf1 := uf 1
        clear uf
        go_simp
        refine hK.out _ _ (fun h => absurd rfl h) ?_
        clear hK K'
        (try simp only [Act.put, List.setIfInBounds_toArray, List.set_cons_zero, List.set_cons_succ])
        refine wpJ_done (by kernel_rfl) ?_ _
        go_wp2
        go_roundw
        case rel => exact ⟨k + 1, _, _, by omega, by go_num, ⟨hxp0, hxp1⟩, ⟨hyq0, hyq1⟩, HS.out.1, HS.out.2, set_below (bt HBa.out HX11.out) _ (by omega) _ _, gr_pair HG11.out hne _ _, (HR11.out.other _ _ (by simp)).other _ _ (by simp), HV11.out.set _ _⟩
        case measure => simp only [intOf]; omega
    · have HE := Lib.hid (And.intro hex hey)
      have HBr := Lib.hid hbel
      obtain ⟨v0, v1, _⟩ := hv
      obtain ⟨r0, r1, rf⟩ := hres
      have rf0 := rf 0
      have rf1 := rf 1
      clear hex hey hbel rf
      go_wp2
      (try simp only [Exit.inBlock, Exit.then])
      refine bodyPost_ret (v := cv x y) ?_ rfl ⟨?_, ?_⟩
      · rw [results_cell_one rfl]; go_simp
      · rw [HE.out.1, HE.out.2, (pair_end HN.out (by omega)).1, (pair_end HN.out (by omega)).2]; rfl
      · exact set_below HBr.out _ (by omega) _ _

end Go.Proofs.Ytafoenoilcgjdaa

/- ElGamal: the reference's re-encryption and weighted products. -/
namespace Go.Proofs.Ytafoenoilcgjdaa
open Go.RowKit


theorem four_A {P a b x y : Int} (h0 : 0 ≤ a) (h1 : a < P) : mulFrom P 1 (evens [a, b, x, y]) = a * x % P := mulFrom_two h0 h1
theorem four_M {P a b x y : Int} (h0 : 0 ≤ b) (h1 : b < P) : mulFrom P 1 (odds [a, b, x, y]) = b * y % P := mulFrom_two h0 h1
theorem four_rng {P a b x y : Int} (ha : 0 ≤ a ∧ a < P) (hb : 0 ≤ b ∧ b < P) (hx : 0 ≤ x ∧ x < P) (hy : 0 ≤ y ∧ y < P) : ∀ z ∈ [a, b, x, y], 0 ≤ z ∧ z < P := by
  intro z hz
  simp only [List.mem_cons, List.not_mem_nil, or_false] at hz
  rcases hz with rfl | rfl | rfl | rfl
  · exact ha
  · exact hb
  · exact hx
  · exact hy

set_option maxRecDepth 100000 in
set_option maxHeartbeats 3200000 in
theorem eRe_any (P Q G key a b r : Int) (hP : 2 ≤ P ∧ P ≤ 2000000000) (hQ2 : 2 ≤ Q) (hQr : Q ≤ 2000000000) (hG : 0 ≤ G ∧ G < P) (hk : 0 ≤ key ∧ key < P) (ha : 0 ≤ a ∧ a < P) (hb : 0 ≤ b ∧ b < P) (hr : 0 ≤ r ∧ r < Q) (w : World) :
    Calls Try.prog 83 #[gv P Q G, .int .i64 key, cv a b, .int .i64 r] w fun e w' => e = .returned (cv (reA P G a r) (reM P key b r)) ∧ Below w.heap.size w w' := by
  have hy := pow_lt key r P hP.1
  have ht := pow_lt G r P hP.1
  have HM1 := Lib.hid (mul_one_lt hy.1 hy.2)
  have HFR := Lib.hid (four_rng ha hb ht hy)
  have HFA := Lib.hid (four_A (b := b) (x := Num.pow G r P) (y := Num.pow key r P) ha.1 ha.2)
  have HFM := Lib.hid (four_M (a := a) (x := Num.pow G r P) (y := Num.pow key r P) hb.1 hb.2)
  have G_0 := Lib.hid (((gr_at w (w.heap.size) (by simp) P Q G 27).below (ba (w.alloc (.cells #[.int .i64 P, .int .i64 Q, .int .i64 G] 27)) (.cells #[.int .i64 a, .int .i64 b] 61))).below (ba ((w.alloc (.cells #[.int .i64 P, .int .i64 Q, .int .i64 G] 27)).alloc (.cells #[.int .i64 a, .int .i64 b] 61)) (.cells #[.int .i64 0, .int .i64 0] 61)))
  have C_0 := Lib.hid ((c2_at (w.alloc (.cells #[.int .i64 P, .int .i64 Q, .int .i64 G] 27)) (w.heap.size + 1) (by simp) a b 61).below (ba ((w.alloc (.cells #[.int .i64 P, .int .i64 Q, .int .i64 G] 27)).alloc (.cells #[.int .i64 a, .int .i64 b] 61)) (.cells #[.int .i64 0, .int .i64 0] 61)))
  have R_0 := Lib.hid (c2_at ((w.alloc (.cells #[.int .i64 P, .int .i64 Q, .int .i64 G] 27)).alloc (.cells #[.int .i64 a, .int .i64 b] 61)) (w.heap.size + 1 + 1) (by simp) 0 0 61)
  have HB_0 := Lib.hid (show Below w.heap.size w (((w.alloc (.cells #[.int .i64 P, .int .i64 Q, .int .i64 G] 27)).alloc (.cells #[.int .i64 a, .int .i64 b] 61)).alloc (.cells #[.int .i64 0, .int .i64 0] 61)) from bt (bt (ba _ _) (ba _ _)) (ba _ _))
  go_enter Try.func83, Try.ntmps83
  go_wp2_with fail
  obtain ⟨c0, c1, c2⟩ := G_0.out
  obtain ⟨ca0, ca1, _⟩ := C_0.out
  go_region_held3 (fun w' => w'.cell? ⟨w.heap.size, 0, none⟩ = some (.int .i64 P) ∧ w'.cell? ⟨w.heap.size, 1, none⟩ = some (.int .i64 Q) ∧ w'.cell? ⟨w.heap.size, 2, none⟩ = some (.int .i64 G) ∧ w'.cell? ⟨w.heap.size + 1, 0, none⟩ = some (.int .i64 a) ∧ w'.cell? ⟨w.heap.size + 1, 1, none⟩ = some (.int .i64 b)) (first | with_reducible exact ⟨x0z, x1z, x2z, y0z, y1z⟩ | with_reducible exact ⟨x0p, x1p, x2p, y0p, y1p⟩ | exact ⟨(HGp.out.below (ba _ _)).1, (HGp.out.below (ba _ _)).2.1, (HGp.out.below (ba _ _)).2.2, (HCp.out.below (ba _ _)).1, (HCp.out.below (ba _ _)).2.1⟩ | exact ⟨c0, c1, c2, ca0, ca1⟩ | exact ⟨cell_pair x0z (by omega) _ _, cell_pair x1z (by omega) _ _, cell_pair x2z (by omega) _ _, cell_pair y0z (by omega) _ _, cell_pair y1z (by omega) _ _⟩) ((first
    | (go_at_call 111; refine (eEnc_any P Q G key 1 r hP hQ2 hQr hG hk ⟨by decide, by omega⟩ hr _).mono ?_; rw [HM1.out]; rintro e vp ⟨rfl, hp⟩; have HBp := Lib.hid (bt_drop HB_0.out hp); have HGp := Lib.hid (gr_drop G_0.out hp); have HCp := Lib.hid (c2_drop C_0.out hp); have HRp := Lib.hid (c2_drop R_0.out hp); clear hp; obtain ⟨x0p, x1p, x2p⟩ := HGp.out; obtain ⟨y0p, y1p, _⟩ := HCp.out; obtain ⟨d0p, d1p, dfp⟩ := HRp.out; have df0p := dfp 0; have df1p := dfp 1; clear dfp)
    | (go_at_call 87; refine (eMul_any P Q G hP.1 hP.2 _ 2 2 [a, b, Num.pow G r P, Num.pow key r P] rfl (by decide) HFR.out _ (ints_spot7 vp vp.heap.size rfl [a, b, Num.pow G r P, Num.pow key r P] 61)).mono ?_; rw [HFA.out, HFM.out]; rintro e vz ⟨rfl, hz⟩; have HBz := Lib.hid (bt (bt HBp.out (ba _ _)) hz); have HGz := Lib.hid ((HGp.out.below (ba _ _)).below hz); have HCz := Lib.hid ((HCp.out.below (ba _ _)).below hz); have HRz := Lib.hid ((HRp.out.below (ba _ _)).below hz); clear hz; obtain ⟨x0z, x1z, x2z⟩ := HGz.out; obtain ⟨y0z, y1z, _⟩ := HCz.out; obtain ⟨d0z, d1z, dfz⟩ := HRz.out; have df0z := dfz 0; have df1z := dfz 1; clear dfz)
    | fail))
  all_goals (
    go_wp2
    (try simp only [Exit.inBlock, Exit.then])
    refine bodyPost_ret (v := cv (reA P G a r) (reM P key b r)) ?_ rfl ⟨rfl, ?_⟩
    · rw [results_cell_one rfl]; go_simp; (try exact ⟨rfl, rfl⟩)
    · first | exact set_below HBz.out (w.heap.size + 1 + 1) (by omega) _ _ | exact set_below HBz.out.drew (w.heap.size + 1 + 1) (by omega) _ _)

theorem ep_mk {W : World} {g o c d e : Nat} {P Q G x y p q v : Int} (hg : GR W g P Q G) (ho : C2 W o x y) (hc : C2 W c p q) (he : W.cell? ⟨d, e, none⟩ = some (.int .i64 v)) :
    W.cell? ⟨g, 0, none⟩ = some (.int .i64 P) ∧ W.cell? ⟨g, 1, none⟩ = some (.int .i64 Q) ∧ W.cell? ⟨g, 2, none⟩ = some (.int .i64 G) ∧ W.cell? ⟨o, 0, none⟩ = some (.int .i64 x) ∧ W.cell? ⟨o, 1, none⟩ = some (.int .i64 y) ∧ W.cell? ⟨c, 0, none⟩ = some (.int .i64 p) ∧ W.cell? ⟨c, 1, none⟩ = some (.int .i64 q) ∧ W.cell? ⟨d, e, none⟩ = some (.int .i64 v) := ⟨hg.1, hg.2.1, hg.2.2, ho.1, ho.2.1, hc.1, hc.2.1, he⟩

set_option maxRecDepth 100000 in
set_option maxHeartbeats 12800000 in
theorem eProd_any (P Q G : Int) (hP : 2 ≤ P ∧ P ≤ 2000000000) (hQ2 : 2 ≤ Q) (hQr : Q ≤ 2000000000) (ad ad' : Option Addr) (n cap cap' : Nat) (zs es : List Int) (hn : zs.length = n * 2) (hn' : es.length = n) (hl : n ≤ 2000000) (hr : ∀ z ∈ zs, 0 ≤ z ∧ z < P) (he : ∀ e ∈ es, 0 ≤ e ∧ e < Q) (w : World) (hz : IsInts w ad zs) (hz' : IsInts w ad' es) :
    Calls Try.prog 91 #[gv P Q G, .slice ad n cap, .slice ad' n cap'] w fun e w' => e = .returned (cv (powsFrom P 1 (evens zs) es) (powsFrom P 1 (odds zs) es)) ∧ Below w.heap.size w w' := by
  have HR := Lib.hid hr
  have HE := Lib.hid he
  have HN := Lib.hid hn
  have HN' := Lib.hid hn'
  have HZ := Lib.hid hz
  have HZ' := Lib.hid hz'
  clear hr he hn hn' hz hz'
  have G_0 := Lib.hid (((gr_at w (w.heap.size) (by simp) P Q G 27).below (ba (w.alloc (.cells #[.int .i64 P, .int .i64 Q, .int .i64 G] 27)) (.cells #[.int .i64 0, .int .i64 0] 61))).below (ba ((w.alloc (.cells #[.int .i64 P, .int .i64 Q, .int .i64 G] 27)).alloc (.cells #[.int .i64 0, .int .i64 0] 61)) (.cells #[.int .i64 1, .int .i64 1] 61)))
  have R_0 := Lib.hid ((c2_at (w.alloc (.cells #[.int .i64 P, .int .i64 Q, .int .i64 G] 27)) (w.heap.size + 1) (by simp) 0 0 61).below (ba ((w.alloc (.cells #[.int .i64 P, .int .i64 Q, .int .i64 G] 27)).alloc (.cells #[.int .i64 0, .int .i64 0] 61)) (.cells #[.int .i64 1, .int .i64 1] 61)))
  have V_0 := Lib.hid (c2_at ((w.alloc (.cells #[.int .i64 P, .int .i64 Q, .int .i64 G] 27)).alloc (.cells #[.int .i64 0, .int .i64 0] 61)) (w.heap.size + 1 + 1) (by simp) 1 1 61)
  have HB_0 := Lib.hid (show Below w.heap.size w (((w.alloc (.cells #[.int .i64 P, .int .i64 Q, .int .i64 G] 27)).alloc (.cells #[.int .i64 0, .int .i64 0] 61)).alloc (.cells #[.int .i64 1, .int .i64 1] 61)) from bt (bt (ba _ _) (ba _ _)) (ba _ _))
  go_enter Try.func91, Try.ntmps91
  go_wp2
  go_loopw [8, 13] (fun _ K wr => ∃ (k : Nat) (x y : Int), k ≤ n ∧ K = .int .i64 k ∧ (0 ≤ x ∧ x < P) ∧ (0 ≤ y ∧ y < P) ∧ powsFrom P 1 (evens zs) es = powsFrom P x ((evens zs).drop k) (es.drop k) ∧ powsFrom P 1 (odds zs) es = powsFrom P y ((odds zs).drop k) (es.drop k) ∧ Below w.heap.size w wr ∧ GR wr w.heap.size P Q G ∧ C2 wr (w.heap.size + 1) 0 0 ∧ C2 wr (w.heap.size + 1 + 1) x y) (fun _ K _ => n - (intOf K).toNat)
  case atStart => exact ⟨0, 1, 1, Nat.zero_le _, rfl, ⟨by decide, by omega⟩, ⟨by decide, by omega⟩, rfl, rfl, HB_0.out, G_0.out, R_0.out, V_0.out⟩
  case round =>
    obtain ⟨k, x, y, hk, rfl, ⟨x0, x1⟩, ⟨y0, y1⟩, hex, hey, hbel, hgr, hres, hv⟩ := hrel
    by_cases hkn : k < n
    · obtain ⟨b', off', ev, hbb, hb', hc', hd'⟩ := (HZ'.out.below hbel (Nat.le_refl _)).at (k := k) (by have := HN'.out; omega)
      subst hbb
      obtain ⟨b, off, p, q, hba, hb, hc1, hc2, hd⟩ := (HZ.out.below hbel (Nat.le_refl _)).pair hkn HN.out
      subst hba
      obtain ⟨hd1, hd2⟩ := pair_step hd
      have HS := Lib.hid (And.intro (powsFrom_step hd1 hd' hex) (powsFrom_step hd2 hd' hey))
      have hp := HR.out p (mem_drop hd)
      have hq := HR.out q (List.mem_of_mem_drop (i := k * 2) (by rw [hd]; simp))
      have hev := HE.out ev (mem_drop hd')
      have hal := ba wr (.cells #[.int .i64 p, .int .i64 q] 61)
      have HBa := Lib.hid (bt hbel hal)
      have HGa := Lib.hid (hgr.below hal)
      have HRa := Lib.hid (hres.below hal)
      have HVa := Lib.hid (hv.below hal)
      have HCa := Lib.hid (c2_new wr p q 61)
      have HEa := Lib.hid ((hal.cell (p := ⟨b', off' + k, none⟩) hb').trans hc')
      have hbl : b' < (wr.alloc (.cells #[.int .i64 p, .int .i64 q] 61)).heap.size := by simp; omega
      have hsw : w.heap.size + 1 + 1 < wr.heap.size := hv.lt
      have hpe := pow_lt p ev P hP.1
      have hqe := pow_lt q ev P hP.1
      have hxp0 : 0 ≤ x * Num.pow p ev P % P := Int.emod_nonneg _ (by omega)
      have hxp1 : x * Num.pow p ev P % P < P := Int.emod_lt_of_pos _ (by omega)
      have hyq0 : 0 ≤ y * Num.pow q ev P % P := Int.emod_nonneg _ (by omega)
      have hyq1 : y * Num.pow q ev P % P < P := Int.emod_lt_of_pos _ (by omega)
      have hne : w.heap.size + 1 + 1 ≠ w.heap.size := by omega
      have hki : (k : Int) < (n : Int) := by omega
      have HFR := Lib.hid (four_rng ⟨x0, x1⟩ ⟨y0, y1⟩ hpe hqe)
      have HFA := Lib.hid (four_A (b := y) (x := Num.pow p ev P) (y := Num.pow q ev P) x0 x1)
      have HFM := Lib.hid (four_M (a := x) (x := Num.pow p ev P) (y := Num.pow q ev P) y0 y1)
      clear hd hd' hd1 hd2 hex hey hbel hgr hres hv hal
      go_wp2_with fail
      have HG0 := Lib.hid (GR.drew HGa.out)
      have HV0 := Lib.hid (C2.drew HVa.out)
      have HC0 := Lib.hid (C2.drew HCa.out)
      have HR0 := Lib.hid (C2.drew HRa.out)
      have HX0 := Lib.hid (show Below (wr.alloc (.cells #[.int .i64 p, .int .i64 q] 61)).heap.size (wr.alloc (.cells #[.int .i64 p, .int .i64 q] 61)) (wr.alloc (.cells #[.int .i64 p, .int .i64 q] 61)).drew from (Below.refl _ _).drew)
      have HE0 := Lib.hid (show (wr.alloc (.cells #[.int .i64 p, .int .i64 q] 61)).drew.cell? ⟨b', off' + k, none⟩ = some (.int .i64 ev) from HEa.out)
      have HS0 := ep_mk HG0.out HV0.out HC0.out HE0.out
      refine wpJ_begin (n := 11) (S := (fun w' => w'.cell? ⟨w.heap.size, 0, none⟩ = some (.int .i64 P) ∧ w'.cell? ⟨w.heap.size, 1, none⟩ = some (.int .i64 Q) ∧ w'.cell? ⟨w.heap.size, 2, none⟩ = some (.int .i64 G) ∧ w'.cell? ⟨w.heap.size + 1 + 1, 0, none⟩ = some (.int .i64 x) ∧ w'.cell? ⟨w.heap.size + 1 + 1, 1, none⟩ = some (.int .i64 y) ∧ w'.cell? ⟨wr.heap.size, 0, none⟩ = some (.int .i64 p) ∧ w'.cell? ⟨wr.heap.size, 1, none⟩ = some (.int .i64 q) ∧ w'.cell? ⟨b', off' + k, none⟩ = some (.int .i64 ev))) (by kernel_rfl) ?_
      refine wpJ_take (i := 0) (v := ?_) rfl (by kernel_rfl) (by kernel_rfl) (by kernel_rfl) (by kernel_rfl) (fun _ _ _ h => h) (Or.inl ⟨by rfl, ?_⟩) HS0 ?_
      rotate_left 1
      · intro w9 hSw
        (try dsimp only at hSw)
        go_simp
        (try with_reducible rfl)
      (try simp only [Act.put, List.setIfInBounds_toArray, List.set_cons_zero, List.set_cons_succ])
      refine wpJ_take (i := 1) (v := ?_) rfl (by kernel_rfl) (by kernel_rfl) (by kernel_rfl) (by kernel_rfl) (fun _ _ _ h => h) (Or.inl ⟨by rfl, ?_⟩) HS0 ?_
      rotate_left 1
      · intro w9 hSw
        (try dsimp only at hSw)
        go_simp
        (try with_reducible rfl)
      (try simp only [Act.put, List.setIfInBounds_toArray, List.set_cons_zero, List.set_cons_succ])
      refine wpJ_take (i := 2) (v := ?_) rfl (by kernel_rfl) (by kernel_rfl) (by kernel_rfl) (by kernel_rfl) (fun _ _ _ h => h) (Or.inl ⟨by rfl, ?_⟩) HS0 ?_
      rotate_left 1
      · intro w9 hSw
        (try dsimp only at hSw)
        go_simp
        (try with_reducible rfl)
      (try simp only [Act.put, List.setIfInBounds_toArray, List.set_cons_zero, List.set_cons_succ])
      refine wpJ_take (i := 3) (v := ?_) rfl (by kernel_rfl) (by kernel_rfl) (by kernel_rfl) (by kernel_rfl) (fun _ _ _ h => h) (Or.inl ⟨by rfl, ?_⟩) HS0 ?_
      rotate_left 1
      · intro w9 hSw
        (try dsimp only at hSw)
        go_simp
        (try with_reducible rfl)
      (try simp only [Act.put, List.setIfInBounds_toArray, List.set_cons_zero, List.set_cons_succ])
      refine wpJ_take (i := 4) (v := ?_) rfl (by kernel_rfl) (by kernel_rfl) (by kernel_rfl) (by kernel_rfl) (fun _ _ _ h => h) (Or.inl ⟨by rfl, ?_⟩) HS0 ?_
      rotate_left 1
      · intro w9 hSw
        (try dsimp only at hSw)
        go_simp
        (try with_reducible rfl)
      (try simp only [Act.put, List.setIfInBounds_toArray, List.set_cons_zero, List.set_cons_succ])
      refine wpJ_take (i := 5) (v := ?_) rfl (by kernel_rfl) (by kernel_rfl) (by kernel_rfl) (by kernel_rfl) (fun _ _ _ h => h) (Or.inl ⟨by rfl, ?_⟩) HS0 ?_
      rotate_left 1
      · intro w9 hSw
        (try dsimp only at hSw)
        go_simp
        (try with_reducible rfl)
      (try simp only [Act.put, List.setIfInBounds_toArray, List.set_cons_zero, List.set_cons_succ])
      refine wpJ_take (i := 6) (v := ?_) rfl (by kernel_rfl) (by kernel_rfl) (by kernel_rfl) (by kernel_rfl) (fun _ _ _ h => h) (Or.inl ⟨by rfl, ?_⟩) HS0 ?_
      rotate_left 1
      · intro w9 hSw
        (try dsimp only at hSw)
        go_simp
        (try with_reducible rfl)
      (try simp only [Act.put, List.setIfInBounds_toArray, List.set_cons_zero, List.set_cons_succ])
      refine wpJ_take (i := 7) (v := ?_) rfl (by kernel_rfl) (by kernel_rfl) (by kernel_rfl) (by kernel_rfl) (fun _ _ _ h => h) (Or.inl ⟨by rfl, ?_⟩) HS0 ?_
      rotate_left 1
      · intro w9 hSw
        (try dsimp only at hSw)
        go_simp
        (try with_reducible rfl)
      (try simp only [Act.put, List.setIfInBounds_toArray, List.set_cons_zero, List.set_cons_succ])
      clear HS0
      refine wpJ_one (i := 8) (by kernel_rfl) rfl ?_
      intro K' hK
      go_simp
      go_at_call 90
      refine (ePow_any P Q G p q ev hP hQ2 hQr hp hq hev _).mono ?_
      rintro e u1 ⟨rfl, hpp⟩
      have HG1 := Lib.hid (HG0.out.below hpp)
      have HV1 := Lib.hid (HV0.out.below hpp)
      have HC1 := Lib.hid (HC0.out.below hpp)
      have HR1 := Lib.hid (HR0.out.below hpp)
      have HX1 := Lib.hid (bt HX0.out hpp)
      have HE1 := Lib.hid ((HX1.out.cell (p := ⟨b', off' + k, none⟩) hbl).trans HEa.out)
      clear hpp
      go_wp2_with fail
      refine hK.out _ _ (fun _ => ep_mk HG1.out HV1.out HC1.out HE1.out) ?_
      clear hK K'
      (try simp only [Act.put, List.setIfInBounds_toArray, List.set_cons_zero, List.set_cons_succ])
      refine wpJ_one (i := 9) (by kernel_rfl) rfl ?_
      intro K' hK
      go_simp
      have hal := ba u1 (.cells #[.int .i64 x, .int .i64 y, .int .i64 (Num.pow p ev P), .int .i64 (Num.pow q ev P)] 61)
      have HG2 := Lib.hid (HG1.out.below hal)
      have HV2 := Lib.hid (HV1.out.below hal)
      have HC2 := Lib.hid (HC1.out.below hal)
      have HR2 := Lib.hid (HR1.out.below hal)
      have HX2 := Lib.hid (bt HX1.out hal)
      have HE2 := Lib.hid ((HX2.out.cell (p := ⟨b', off' + k, none⟩) hbl).trans HEa.out)
      clear hal
      refine hK.out _ _ (fun _ => ep_mk HG2.out HV2.out HC2.out HE2.out) ?_
      clear hK K'
      (try simp only [Act.put, List.setIfInBounds_toArray, List.set_cons_zero, List.set_cons_succ])
      refine wpJ_one (i := 10) (by kernel_rfl) rfl ?_
      intro K' hK
      go_simp
      go_at_call 87
      refine (eMul_any P Q G hP.1 hP.2 _ 2 2 [x, y, Num.pow p ev P, Num.pow q ev P] rfl (by decide) HFR.out _ (ints_spot7 u1 u1.heap.size rfl [x, y, Num.pow p ev P, Num.pow q ev P] 61)).mono ?_
      rw [HFA.out, HFM.out]
      rintro e u3 ⟨rfl, hpp⟩
      have HG3 := Lib.hid (HG2.out.below hpp)
      have HV3 := Lib.hid (HV2.out.below hpp)
      have HC3 := Lib.hid (HC2.out.below hpp)
      have HR3 := Lib.hid (HR2.out.below hpp)
      have HX3 := Lib.hid (bt HX2.out hpp)
      have HE3 := Lib.hid ((HX3.out.cell (p := ⟨b', off' + k, none⟩) hbl).trans HEa.out)
      clear hpp
      go_wp2_with fail
      refine hK.out _ _ (fun _ => ep_mk HG3.out HV3.out HC3.out HE3.out) ?_
      clear hK K'
      (try simp only [Act.put, List.setIfInBounds_toArray, List.set_cons_zero, List.set_cons_succ])
      refine wpJ_one (i := 11) (by kernel_rfl) rfl ?_
      intro K' hK
      obtain ⟨u0, u1, uf⟩ := HV3.out
      have uf0 := uf 0
      have uf1 := uf 1
      clear uf
      go_simp
      refine hK.out _ _ (fun h => absurd rfl h) ?_
      clear hK K'
      (try simp only [Act.put, List.setIfInBounds_toArray, List.set_cons_zero, List.set_cons_succ])
      refine wpJ_done (by kernel_rfl) ?_ _
      go_wp2
      go_roundw
      case rel => exact ⟨k + 1, _, _, by omega, by go_num, ⟨hxp0, hxp1⟩, ⟨hyq0, hyq1⟩, HS.out.1, HS.out.2, set_below (bt HBa.out HX3.out) _ (by omega) _ _, gr_pair HG3.out hne _ _, (HR3.out.other _ _ (by simp)).other _ _ (by simp), HV3.out.set _ _⟩
      case measure => simp only [intOf]; omega
    · have HEE := Lib.hid (And.intro hex hey)
      have HBr := Lib.hid hbel
      obtain ⟨v0, v1, _⟩ := hv
      obtain ⟨r0, r1, rf⟩ := hres
      have rf0 := rf 0
      have rf1 := rf 1
      clear hex hey hbel rf
      go_wp2
      (try simp only [Exit.inBlock, Exit.then])
      refine bodyPost_ret (v := cv x y) ?_ rfl ⟨?_, ?_⟩
      · rw [results_cell_one rfl]; go_simp
      · rw [HEE.out.1, HEE.out.2, (pair_end HN.out (by omega)).1, (pair_end HN.out (by omega)).2]; rfl
      · exact set_below HBr.out _ (by omega) _ _

end Go.Proofs.Ytafoenoilcgjdaa

/- ElGamal: the reference's Reencrypt, MulCiphers, CipherSum, WeightedProduct, ReencryptAll. -/
namespace Go.Proofs.Ytafoenoilcgjdaa
open Go.RowKit


theorem re_parts (P Q G key a b r : Int) : reB P Q G key a b r = (kgB P Q G key && cipB P Q a b && exB Q r) := by
  unfold reB encB kgB
  cases hg : goodB P Q G
  · simp
  rw [one_el hg]
  cases elB P Q key <;> cases cipB P Q a b <;> cases exB Q r <;> rfl

set_option maxHeartbeats 1600000 in
theorem sMulCiphers_any (P Q G : Int) (ad : Option Addr) (n cap : Nat) (zs : List Int) (hn : zs.length = n * 2) (hl : n ≤ 2000000) (w : World) (hz : IsInts w ad zs) :
    Calls Try.prog 40 #[gv P Q G, .slice ad n cap] w fun e w' => e = .returned (.tuple #[cv (mcA P Q G zs) (mcM P Q G zs), .bool (mcB P Q G zs)]) ∧ Below w.heap.size w w' := by
  have HN := Lib.hid hn
  clear hn
  cases h1 : goodB P Q G
  · skip
    have e0 : mcB P Q G zs = false := by simp [mcB, h1]
    obtain ⟨e1, e2⟩ := mc_off e0
    rw [e0, e1, e2]
    clear e0 e1 e2
    have H1 := Lib.hid h1
    clear h1
    have G_0 := Lib.hid ((gr_at w (w.heap.size) (by simp) P Q G 27).below (ba (w.alloc (.cells #[.int .i64 P, .int .i64 Q, .int .i64 G] 27)) (.cells #[.int .i64 0, .int .i64 0] 61)))
    have R_0 := Lib.hid (c2_at (w.alloc (.cells #[.int .i64 P, .int .i64 Q, .int .i64 G] 27)) (w.heap.size + 1) (by simp) 0 0 61)
    have HB_0 := Lib.hid (show Below w.heap.size w ((w.alloc (.cells #[.int .i64 P, .int .i64 Q, .int .i64 G] 27)).alloc (.cells #[.int .i64 0, .int .i64 0] 61)) from bt (ba _ _) (ba _ _))
    have Z_0 := Lib.hid (hz.below HB_0.out (Nat.le_refl _))
    go_enter Try.func40, Try.ntmps40
    go_wp2_with fail
    refine (l2Good_any _ _ _ _).mono ?_
    rw [H1.out]
    rintro e v1 ⟨rfl, hb⟩
    have HB_1 := Lib.hid (bt HB_0.out hb)
    have G_1 := Lib.hid (G_0.out.below hb)
    have R_1 := Lib.hid (R_0.out.below hb)
    have Z_1 := Lib.hid (Z_0.out.below hb (Nat.le_refl _))
    clear hb
    obtain ⟨gG0, gG1, gG2⟩ := G_1.out
    obtain ⟨rR0, rR1, rfR⟩ := R_1.out
    have rfR0 := rfR 0
    have rfR1 := rfR 1
    go_wp2
    (try simp only [Exit.inBlock, Exit.then])
    refine bodyPost_ret (v := .tuple #[cv 0 0, .bool false]) ?_ rfl ⟨rfl, ?_⟩
    · rw [results_cell_tmp rfl]; go_simp
    · first | exact HB_1.out | exact set_below HB_1.out (w.heap.size + 1) (by omega) _ _
  cases h2 : csB P Q zs
  · skip
    have e0 : mcB P Q G zs = false := by simp [mcB, h2]
    obtain ⟨e1, e2⟩ := mc_off e0
    rw [e0, e1, e2]
    clear e0 e1 e2
    have hmo := good_mo h1
    have hP : 2 ≤ P ∧ P ≤ 2000000000 := hmo.1
    have hQr : 0 ≤ Q ∧ Q ≤ 2000000000 := hmo.2
    have hQ2 : 2 ≤ Q := by have := goodB_true.1 h1; omega
    have hG := el_rng (good_el h1)
    have H1 := Lib.hid h1
    have H2 := Lib.hid h2
    clear h1 h2
    have G_0 := Lib.hid ((gr_at w (w.heap.size) (by simp) P Q G 27).below (ba (w.alloc (.cells #[.int .i64 P, .int .i64 Q, .int .i64 G] 27)) (.cells #[.int .i64 0, .int .i64 0] 61)))
    have R_0 := Lib.hid (c2_at (w.alloc (.cells #[.int .i64 P, .int .i64 Q, .int .i64 G] 27)) (w.heap.size + 1) (by simp) 0 0 61)
    have HB_0 := Lib.hid (show Below w.heap.size w ((w.alloc (.cells #[.int .i64 P, .int .i64 Q, .int .i64 G] 27)).alloc (.cells #[.int .i64 0, .int .i64 0] 61)) from bt (ba _ _) (ba _ _))
    have Z_0 := Lib.hid (hz.below HB_0.out (Nat.le_refl _))
    go_enter Try.func40, Try.ntmps40
    go_wp2_with fail
    refine (l2Good_any _ _ _ _).mono ?_
    rw [H1.out]
    rintro e v1 ⟨rfl, hb⟩
    have HB_1 := Lib.hid (bt HB_0.out hb)
    have G_1 := Lib.hid (G_0.out.below hb)
    have R_1 := Lib.hid (R_0.out.below hb)
    have Z_1 := Lib.hid (Z_0.out.below hb (Nat.le_refl _))
    clear hb
    obtain ⟨gG0, gG1, gG2⟩ := G_1.out
    obtain ⟨rR0, rR1, rfR⟩ := R_1.out
    have rfR0 := rfR 0
    have rfR1 := rfR 1
    go_wp2_with fail
    refine (eGood_any P Q G hmo _ _ _ zs HN.out (by omega) _ Z_1.out).mono ?_
    rw [H2.out]
    rintro e v2 ⟨rfl, hb⟩
    have HB_2 := Lib.hid (bt HB_1.out hb)
    have G_2 := Lib.hid (G_1.out.below hb)
    have R_2 := Lib.hid (R_1.out.below hb)
    have Z_2 := Lib.hid (Z_1.out.below hb (Nat.le_refl _))
    clear hb
    clear gG0 gG1 gG2 rR0 rR1 rfR rfR0 rfR1
    obtain ⟨gG0, gG1, gG2⟩ := G_2.out
    obtain ⟨rR0, rR1, rfR⟩ := R_2.out
    have rfR0 := rfR 0
    have rfR1 := rfR 1
    go_wp2
    (try simp only [Exit.inBlock, Exit.then])
    refine bodyPost_ret (v := .tuple #[cv 0 0, .bool false]) ?_ rfl ⟨rfl, ?_⟩
    · rw [results_cell_tmp rfl]; go_simp
    · first | exact HB_2.out | exact set_below HB_2.out (w.heap.size + 1) (by omega) _ _
  have e0 : mcB P Q G zs = true := by simp [mcB, h1, h2]
  obtain ⟨e1, e2⟩ := mc_on e0
  rw [e0, e1, e2]
  clear e0 e1 e2
  have hmo := good_mo h1
  have hP : 2 ≤ P ∧ P ≤ 2000000000 := hmo.1
  have hQr : 0 ≤ Q ∧ Q ≤ 2000000000 := hmo.2
  have hQ2 : 2 ≤ Q := by have := goodB_true.1 h1; omega
  have hG := el_rng (good_el h1)
  have HCR := Lib.hid (cs_rng h2).2
  have H1 := Lib.hid h1
  have H2 := Lib.hid h2
  clear h1 h2
  have G_0 := Lib.hid ((gr_at w (w.heap.size) (by simp) P Q G 27).below (ba (w.alloc (.cells #[.int .i64 P, .int .i64 Q, .int .i64 G] 27)) (.cells #[.int .i64 0, .int .i64 0] 61)))
  have R_0 := Lib.hid (c2_at (w.alloc (.cells #[.int .i64 P, .int .i64 Q, .int .i64 G] 27)) (w.heap.size + 1) (by simp) 0 0 61)
  have HB_0 := Lib.hid (show Below w.heap.size w ((w.alloc (.cells #[.int .i64 P, .int .i64 Q, .int .i64 G] 27)).alloc (.cells #[.int .i64 0, .int .i64 0] 61)) from bt (ba _ _) (ba _ _))
  have Z_0 := Lib.hid (hz.below HB_0.out (Nat.le_refl _))
  go_enter Try.func40, Try.ntmps40
  go_wp2_with fail
  refine (l2Good_any _ _ _ _).mono ?_
  rw [H1.out]
  rintro e v1 ⟨rfl, hb⟩
  have HB_1 := Lib.hid (bt HB_0.out hb)
  have G_1 := Lib.hid (G_0.out.below hb)
  have R_1 := Lib.hid (R_0.out.below hb)
  have Z_1 := Lib.hid (Z_0.out.below hb (Nat.le_refl _))
  clear hb
  obtain ⟨gG0, gG1, gG2⟩ := G_1.out
  obtain ⟨rR0, rR1, rfR⟩ := R_1.out
  have rfR0 := rfR 0
  have rfR1 := rfR 1
  go_wp2_with fail
  refine (eGood_any P Q G hmo _ _ _ zs HN.out (by omega) _ Z_1.out).mono ?_
  rw [H2.out]
  rintro e v2 ⟨rfl, hb⟩
  have HB_2 := Lib.hid (bt HB_1.out hb)
  have G_2 := Lib.hid (G_1.out.below hb)
  have R_2 := Lib.hid (R_1.out.below hb)
  have Z_2 := Lib.hid (Z_1.out.below hb (Nat.le_refl _))
  clear hb
  clear gG0 gG1 gG2 rR0 rR1 rfR rfR0 rfR1
  obtain ⟨gG0, gG1, gG2⟩ := G_2.out
  obtain ⟨rR0, rR1, rfR⟩ := R_2.out
  have rfR0 := rfR 0
  have rfR1 := rfR 1
  go_wp2_with fail
  refine (eMul_any P Q G hP.1 hP.2 _ _ _ zs HN.out hl HCR.out _ Z_2.out).mono ?_
  rintro e v3 ⟨rfl, hb⟩
  have HB_3 := Lib.hid (bt HB_2.out hb)
  have G_3 := Lib.hid (G_2.out.below hb)
  have R_3 := Lib.hid (R_2.out.below hb)
  have Z_3 := Lib.hid (Z_2.out.below hb (Nat.le_refl _))
  clear hb
  clear gG0 gG1 gG2 rR0 rR1 rfR rfR0 rfR1
  obtain ⟨gG0, gG1, gG2⟩ := G_3.out
  obtain ⟨rR0, rR1, rfR⟩ := R_3.out
  have rfR0 := rfR 0
  have rfR1 := rfR 1
  go_wp2
  (try simp only [Exit.inBlock, Exit.then])
  refine bodyPost_ret (v := .tuple #[cv (mulFrom P 1 (evens zs)) (mulFrom P 1 (odds zs)), .bool true]) ?_ rfl ⟨rfl, ?_⟩
  · rw [results_cell_tmp rfl]; go_simp
  · first | exact HB_3.out | exact set_below HB_3.out (w.heap.size + 1) (by omega) _ _

theorem sCipherSum_any (P Q G : Int) (ad : Option Addr) (n cap : Nat) (zs : List Int) (hn : zs.length = n * 2) (hl : n ≤ 2000000) (w : World) (hz : IsInts w ad zs) :
    Calls Try.prog 48 #[gv P Q G, .slice ad n cap] w fun e w' => e = .returned (.tuple #[cv (suA P Q G zs) (suM P Q G zs), .bool (suB P Q G zs)]) ∧ Below w.heap.size w w' := by
  by_cases h0 : n = 0
  · have e0 : suB P Q G zs = false := by simp [suB, hn, h0]
    have e1 : suA P Q G zs = 0 := by simp [suA, hn, h0]
    have e2 : suM P Q G zs = 0 := by simp [suM, hn, h0]
    rw [e0, e1, e2]
    subst h0
    clear e0 e1 e2 hn
    have G_0 := Lib.hid ((gr_at w (w.heap.size) (by simp) P Q G 27).below (ba (w.alloc (.cells #[.int .i64 P, .int .i64 Q, .int .i64 G] 27)) (.cells #[.int .i64 0, .int .i64 0] 61)))
    have R_0 := Lib.hid (c2_at (w.alloc (.cells #[.int .i64 P, .int .i64 Q, .int .i64 G] 27)) (w.heap.size + 1) (by simp) 0 0 61)
    have HB_0 := Lib.hid (show Below w.heap.size w ((w.alloc (.cells #[.int .i64 P, .int .i64 Q, .int .i64 G] 27)).alloc (.cells #[.int .i64 0, .int .i64 0] 61)) from bt (ba _ _) (ba _ _))
    go_enter Try.func48, Try.ntmps48
    go_wp2
    (try simp only [Exit.inBlock, Exit.then])
    refine bodyPost_ret (v := .tuple #[cv 0 0, .bool false]) ?_ rfl ⟨rfl, ?_⟩
    · rw [results_cell_tmp rfl]; go_simp
    · first | exact HB_0.out | exact set_below HB_0.out (w.heap.size + 1) (by omega) _ _
  · have e0 : suB P Q G zs = mcB P Q G zs := by unfold suB; rw [decide_eq_true (by omega)]; rfl
    have e1 : suA P Q G zs = mcA P Q G zs := by unfold suA; rw [if_neg (by omega)]
    have e2 : suM P Q G zs = mcM P Q G zs := by unfold suM; rw [if_neg (by omega)]
    rw [e0, e1, e2]
    have HN := Lib.hid hn
    have hni : ¬ (n : Int) = 0 := by omega
    have hnb : ((n : Int) == 0) = false := by simp; omega
    clear e0 e1 e2 hn
    have G_0 := Lib.hid ((gr_at w (w.heap.size) (by simp) P Q G 27).below (ba (w.alloc (.cells #[.int .i64 P, .int .i64 Q, .int .i64 G] 27)) (.cells #[.int .i64 0, .int .i64 0] 61)))
    have R_0 := Lib.hid (c2_at (w.alloc (.cells #[.int .i64 P, .int .i64 Q, .int .i64 G] 27)) (w.heap.size + 1) (by simp) 0 0 61)
    have HB_0 := Lib.hid (show Below w.heap.size w ((w.alloc (.cells #[.int .i64 P, .int .i64 Q, .int .i64 G] 27)).alloc (.cells #[.int .i64 0, .int .i64 0] 61)) from bt (ba _ _) (ba _ _))
    go_enter Try.func48, Try.ntmps48
    have Z_0 := Lib.hid (hz.below HB_0.out (Nat.le_refl _))
    go_wp2_with fail
    refine (sMulCiphers_any P Q G _ _ _ zs HN.out hl _ Z_0.out).mono ?_
    rintro e v1 ⟨rfl, hb⟩
    have HB_1 := Lib.hid (bt HB_0.out hb)
    have G_1 := Lib.hid (G_0.out.below hb)
    have R_1 := Lib.hid (R_0.out.below hb)
    have Z_1 := Lib.hid (Z_0.out.below hb (Nat.le_refl _))
    clear hb
    obtain ⟨gG0, gG1, gG2⟩ := G_1.out
    obtain ⟨rR0, rR1, rfR⟩ := R_1.out
    have rfR0 := rfR 0
    have rfR1 := rfR 1
    go_wp2
    (try simp only [Exit.inBlock, Exit.then])
    refine bodyPost_ret (v := .tuple #[cv (mcA P Q G zs) (mcM P Q G zs), .bool (mcB P Q G zs)]) ?_ rfl ⟨rfl, ?_⟩
    · rw [results_cell_tmp rfl]; go_simp
    · first | exact HB_1.out | exact set_below HB_1.out (w.heap.size + 1) (by omega) _ _

theorem wp_iff (P Q G : Int) (zs es : List Int) : wpB P Q G zs es = (goodB P Q G && csB P Q zs && decide (zs.length = es.length * 2) && allIn es 0 (Q - 1)) := rfl

set_option maxHeartbeats 3200000 in
theorem sWeightedProduct_any (P Q G : Int) (ad ad' : Option Addr) (n n' cap cap' : Nat) (zs es : List Int) (hn : zs.length = n * 2) (hn' : es.length = n') (hl : n ≤ 2000000) (hl' : n' ≤ 2000000) (w : World) (hz : IsInts w ad zs) (hz' : IsInts w ad' es) :
    Calls Try.prog 46 #[gv P Q G, .slice ad n cap, .slice ad' n' cap'] w fun e w' => e = .returned (.tuple #[cv (wpA P Q G zs es) (wpM P Q G zs es), .bool (wpB P Q G zs es)]) ∧ Below w.heap.size w w' := by
  have HN := Lib.hid hn
  have HN' := Lib.hid hn'
  have HZ0 := Lib.hid hz
  have HE0 := Lib.hid hz'
  clear hz hz'
  cases h1 : goodB P Q G
  · skip
    have e0 : wpB P Q G zs es = false := by simp [wp_iff, h1]
    obtain ⟨e1, e2⟩ := wp_off e0
    rw [e0, e1, e2]
    clear e0 e1 e2
    have H1 := Lib.hid h1
    clear hn hn' h1
    have G_0 := Lib.hid ((gr_at w (w.heap.size) (by simp) P Q G 27).below (ba (w.alloc (.cells #[.int .i64 P, .int .i64 Q, .int .i64 G] 27)) (.cells #[.int .i64 0, .int .i64 0] 61)))
    have R_0 := Lib.hid (c2_at (w.alloc (.cells #[.int .i64 P, .int .i64 Q, .int .i64 G] 27)) (w.heap.size + 1) (by simp) 0 0 61)
    have HB_0 := Lib.hid (show Below w.heap.size w ((w.alloc (.cells #[.int .i64 P, .int .i64 Q, .int .i64 G] 27)).alloc (.cells #[.int .i64 0, .int .i64 0] 61)) from bt (ba _ _) (ba _ _))
    have Z_0 := Lib.hid (HZ0.out.below HB_0.out (Nat.le_refl _))
    have E_0 := Lib.hid (HE0.out.below HB_0.out (Nat.le_refl _))
    go_enter Try.func46, Try.ntmps46
    go_wp2_with fail
    refine (l2Good_any _ _ _ _).mono ?_
    rw [H1.out]
    rintro e v1 ⟨rfl, hb⟩
    have HB_1 := Lib.hid (bt HB_0.out hb)
    have G_1 := Lib.hid (G_0.out.below hb)
    have R_1 := Lib.hid (R_0.out.below hb)
    have Z_1 := Lib.hid (Z_0.out.below hb (Nat.le_refl _))
    have E_1 := Lib.hid (E_0.out.below hb (Nat.le_refl _))
    clear hb
    obtain ⟨gG0, gG1, gG2⟩ := G_1.out
    obtain ⟨rR0, rR1, rfR⟩ := R_1.out
    have rfR0 := rfR 0
    have rfR1 := rfR 1
    go_wp2
    (try simp only [Exit.inBlock, Exit.then])
    refine bodyPost_ret (v := .tuple #[cv 0 0, .bool false]) ?_ rfl ⟨rfl, ?_⟩
    · rw [results_cell_tmp rfl]; go_simp
    · first | exact HB_1.out | exact set_below HB_1.out (w.heap.size + 1) (by omega) _ _
  cases h2 : csB P Q zs
  · skip
    have e0 : wpB P Q G zs es = false := by simp [wp_iff, h2]
    obtain ⟨e1, e2⟩ := wp_off e0
    rw [e0, e1, e2]
    clear e0 e1 e2
    have hmo := good_mo h1
    have hP : 2 ≤ P ∧ P ≤ 2000000000 := hmo.1
    have hQr : 0 ≤ Q ∧ Q ≤ 2000000000 := hmo.2
    have hQ2 : 2 ≤ Q := by have := goodB_true.1 h1; omega
    have hG := el_rng (good_el h1)
    have H1 := Lib.hid h1
    have H2 := Lib.hid h2
    clear hn hn' h1 h2
    have G_0 := Lib.hid ((gr_at w (w.heap.size) (by simp) P Q G 27).below (ba (w.alloc (.cells #[.int .i64 P, .int .i64 Q, .int .i64 G] 27)) (.cells #[.int .i64 0, .int .i64 0] 61)))
    have R_0 := Lib.hid (c2_at (w.alloc (.cells #[.int .i64 P, .int .i64 Q, .int .i64 G] 27)) (w.heap.size + 1) (by simp) 0 0 61)
    have HB_0 := Lib.hid (show Below w.heap.size w ((w.alloc (.cells #[.int .i64 P, .int .i64 Q, .int .i64 G] 27)).alloc (.cells #[.int .i64 0, .int .i64 0] 61)) from bt (ba _ _) (ba _ _))
    have Z_0 := Lib.hid (HZ0.out.below HB_0.out (Nat.le_refl _))
    have E_0 := Lib.hid (HE0.out.below HB_0.out (Nat.le_refl _))
    go_enter Try.func46, Try.ntmps46
    go_wp2_with fail
    refine (l2Good_any _ _ _ _).mono ?_
    rw [H1.out]
    rintro e v1 ⟨rfl, hb⟩
    have HB_1 := Lib.hid (bt HB_0.out hb)
    have G_1 := Lib.hid (G_0.out.below hb)
    have R_1 := Lib.hid (R_0.out.below hb)
    have Z_1 := Lib.hid (Z_0.out.below hb (Nat.le_refl _))
    have E_1 := Lib.hid (E_0.out.below hb (Nat.le_refl _))
    clear hb
    obtain ⟨gG0, gG1, gG2⟩ := G_1.out
    obtain ⟨rR0, rR1, rfR⟩ := R_1.out
    have rfR0 := rfR 0
    have rfR1 := rfR 1
    go_wp2_with fail
    refine (eGood_any P Q G hmo _ _ _ zs HN.out (by omega) _ Z_1.out).mono ?_
    rw [H2.out]
    rintro e v2 ⟨rfl, hb⟩
    have HB_2 := Lib.hid (bt HB_1.out hb)
    have G_2 := Lib.hid (G_1.out.below hb)
    have R_2 := Lib.hid (R_1.out.below hb)
    have Z_2 := Lib.hid (Z_1.out.below hb (Nat.le_refl _))
    have E_2 := Lib.hid (E_1.out.below hb (Nat.le_refl _))
    clear hb
    clear gG0 gG1 gG2 rR0 rR1 rfR rfR0 rfR1
    obtain ⟨gG0, gG1, gG2⟩ := G_2.out
    obtain ⟨rR0, rR1, rfR⟩ := R_2.out
    have rfR0 := rfR 0
    have rfR1 := rfR 1
    go_wp2
    (try simp only [Exit.inBlock, Exit.then])
    refine bodyPost_ret (v := .tuple #[cv 0 0, .bool false]) ?_ rfl ⟨rfl, ?_⟩
    · rw [results_cell_tmp rfl]; go_simp
    · first | exact HB_2.out | exact set_below HB_2.out (w.heap.size + 1) (by omega) _ _
  by_cases h9 : ¬ n' = n
  · skip
    have e0 : wpB P Q G zs es = false := by rw [wp_iff, decide_eq_false (show ¬ zs.length = es.length * 2 by omega)]; simp
    obtain ⟨e1, e2⟩ := wp_off e0
    rw [e0, e1, e2]
    clear e0 e1 e2
    have hmo := good_mo h1
    have hP : 2 ≤ P ∧ P ≤ 2000000000 := hmo.1
    have hQr : 0 ≤ Q ∧ Q ≤ 2000000000 := hmo.2
    have hQ2 : 2 ≤ Q := by have := goodB_true.1 h1; omega
    have hG := el_rng (good_el h1)
    have HCR := Lib.hid (cs_rng h2)
    have H1 := Lib.hid h1
    have H2 := Lib.hid h2
    have hnn : ((n' : Int) != (n : Int)) = true := by simp; omega
    have hni : ¬ (n' : Int) = (n : Int) := by omega
    clear hn hn' h1 h2
    have G_0 := Lib.hid ((gr_at w (w.heap.size) (by simp) P Q G 27).below (ba (w.alloc (.cells #[.int .i64 P, .int .i64 Q, .int .i64 G] 27)) (.cells #[.int .i64 0, .int .i64 0] 61)))
    have R_0 := Lib.hid (c2_at (w.alloc (.cells #[.int .i64 P, .int .i64 Q, .int .i64 G] 27)) (w.heap.size + 1) (by simp) 0 0 61)
    have HB_0 := Lib.hid (show Below w.heap.size w ((w.alloc (.cells #[.int .i64 P, .int .i64 Q, .int .i64 G] 27)).alloc (.cells #[.int .i64 0, .int .i64 0] 61)) from bt (ba _ _) (ba _ _))
    have Z_0 := Lib.hid (HZ0.out.below HB_0.out (Nat.le_refl _))
    have E_0 := Lib.hid (HE0.out.below HB_0.out (Nat.le_refl _))
    go_enter Try.func46, Try.ntmps46
    go_wp2_with fail
    refine (l2Good_any _ _ _ _).mono ?_
    rw [H1.out]
    rintro e v1 ⟨rfl, hb⟩
    have HB_1 := Lib.hid (bt HB_0.out hb)
    have G_1 := Lib.hid (G_0.out.below hb)
    have R_1 := Lib.hid (R_0.out.below hb)
    have Z_1 := Lib.hid (Z_0.out.below hb (Nat.le_refl _))
    have E_1 := Lib.hid (E_0.out.below hb (Nat.le_refl _))
    clear hb
    obtain ⟨gG0, gG1, gG2⟩ := G_1.out
    obtain ⟨rR0, rR1, rfR⟩ := R_1.out
    have rfR0 := rfR 0
    have rfR1 := rfR 1
    go_wp2_with fail
    refine (eGood_any P Q G hmo _ _ _ zs HN.out (by omega) _ Z_1.out).mono ?_
    rw [H2.out]
    rintro e v2 ⟨rfl, hb⟩
    have HB_2 := Lib.hid (bt HB_1.out hb)
    have G_2 := Lib.hid (G_1.out.below hb)
    have R_2 := Lib.hid (R_1.out.below hb)
    have Z_2 := Lib.hid (Z_1.out.below hb (Nat.le_refl _))
    have E_2 := Lib.hid (E_1.out.below hb (Nat.le_refl _))
    clear hb
    clear gG0 gG1 gG2 rR0 rR1 rfR rfR0 rfR1
    obtain ⟨gG0, gG1, gG2⟩ := G_2.out
    obtain ⟨rR0, rR1, rfR⟩ := R_2.out
    have rfR0 := rfR 0
    have rfR1 := rfR 1
    go_wp2
    (try simp only [Exit.inBlock, Exit.then])
    refine bodyPost_ret (v := .tuple #[cv 0 0, .bool false]) ?_ rfl ⟨rfl, ?_⟩
    · rw [results_cell_tmp rfl]; go_simp
    · first | exact HB_2.out | exact set_below HB_2.out (w.heap.size + 1) (by omega) _ _
  have h9 := Decidable.not_not.1 h9
  subst h9
  cases h3 : allIn es 0 (Q - 1)
  · skip
    have e0 : wpB P Q G zs es = false := by simp [wp_iff, h3]
    obtain ⟨e1, e2⟩ := wp_off e0
    rw [e0, e1, e2]
    clear e0 e1 e2
    have hmo := good_mo h1
    have hP : 2 ≤ P ∧ P ≤ 2000000000 := hmo.1
    have hQr : 0 ≤ Q ∧ Q ≤ 2000000000 := hmo.2
    have hQ2 : 2 ≤ Q := by have := goodB_true.1 h1; omega
    have hG := el_rng (good_el h1)
    have HCR := Lib.hid (cs_rng h2)
    have H1 := Lib.hid h1
    have H2 := Lib.hid h2
    have H3 := Lib.hid h3
    clear hn hn' h1 h2 h3
    have G_0 := Lib.hid ((gr_at w (w.heap.size) (by simp) P Q G 27).below (ba (w.alloc (.cells #[.int .i64 P, .int .i64 Q, .int .i64 G] 27)) (.cells #[.int .i64 0, .int .i64 0] 61)))
    have R_0 := Lib.hid (c2_at (w.alloc (.cells #[.int .i64 P, .int .i64 Q, .int .i64 G] 27)) (w.heap.size + 1) (by simp) 0 0 61)
    have HB_0 := Lib.hid (show Below w.heap.size w ((w.alloc (.cells #[.int .i64 P, .int .i64 Q, .int .i64 G] 27)).alloc (.cells #[.int .i64 0, .int .i64 0] 61)) from bt (ba _ _) (ba _ _))
    have Z_0 := Lib.hid (HZ0.out.below HB_0.out (Nat.le_refl _))
    have E_0 := Lib.hid (HE0.out.below HB_0.out (Nat.le_refl _))
    go_enter Try.func46, Try.ntmps46
    go_wp2_with fail
    refine (l2Good_any _ _ _ _).mono ?_
    rw [H1.out]
    rintro e v1 ⟨rfl, hb⟩
    have HB_1 := Lib.hid (bt HB_0.out hb)
    have G_1 := Lib.hid (G_0.out.below hb)
    have R_1 := Lib.hid (R_0.out.below hb)
    have Z_1 := Lib.hid (Z_0.out.below hb (Nat.le_refl _))
    have E_1 := Lib.hid (E_0.out.below hb (Nat.le_refl _))
    clear hb
    obtain ⟨gG0, gG1, gG2⟩ := G_1.out
    obtain ⟨rR0, rR1, rfR⟩ := R_1.out
    have rfR0 := rfR 0
    have rfR1 := rfR 1
    go_wp2_with fail
    refine (eGood_any P Q G hmo _ _ _ zs HN.out (by omega) _ Z_1.out).mono ?_
    rw [H2.out]
    rintro e v2 ⟨rfl, hb⟩
    have HB_2 := Lib.hid (bt HB_1.out hb)
    have G_2 := Lib.hid (G_1.out.below hb)
    have R_2 := Lib.hid (R_1.out.below hb)
    have Z_2 := Lib.hid (Z_1.out.below hb (Nat.le_refl _))
    have E_2 := Lib.hid (E_1.out.below hb (Nat.le_refl _))
    clear hb
    clear gG0 gG1 gG2 rR0 rR1 rfR rfR0 rfR1
    obtain ⟨gG0, gG1, gG2⟩ := G_2.out
    obtain ⟨rR0, rR1, rfR⟩ := R_2.out
    have rfR0 := rfR 0
    have rfR1 := rfR 1
    go_wp2_with fail
    refine (gExps_any P Q G hQr _ _ _ es HN'.out (by omega) _ E_2.out).mono ?_
    rw [H3.out]
    rintro e v3 ⟨rfl, hb⟩
    have HB_3 := Lib.hid (bt HB_2.out hb)
    have G_3 := Lib.hid (G_2.out.below hb)
    have R_3 := Lib.hid (R_2.out.below hb)
    have Z_3 := Lib.hid (Z_2.out.below hb (Nat.le_refl _))
    have E_3 := Lib.hid (E_2.out.below hb (Nat.le_refl _))
    clear hb
    clear gG0 gG1 gG2 rR0 rR1 rfR rfR0 rfR1
    obtain ⟨gG0, gG1, gG2⟩ := G_3.out
    obtain ⟨rR0, rR1, rfR⟩ := R_3.out
    have rfR0 := rfR 0
    have rfR1 := rfR 1
    go_wp2
    (try simp only [Exit.inBlock, Exit.then])
    refine bodyPost_ret (v := .tuple #[cv 0 0, .bool false]) ?_ rfl ⟨rfl, ?_⟩
    · rw [results_cell_tmp rfl]; go_simp
    · first | exact HB_3.out | exact set_below HB_3.out (w.heap.size + 1) (by omega) _ _
  have e0 : wpB P Q G zs es = true := by rw [wp_iff, h1, h2, h3, decide_eq_true (by omega)]; rfl
  obtain ⟨e1, e2⟩ := wp_on e0
  rw [e0, e1, e2]
  clear e0 e1 e2
  have hmo := good_mo h1
  have hP : 2 ≤ P ∧ P ≤ 2000000000 := hmo.1
  have hQr : 0 ≤ Q ∧ Q ≤ 2000000000 := hmo.2
  have hQ2 : 2 ≤ Q := by have := goodB_true.1 h1; omega
  have hG := el_rng (good_el h1)
  have HCR := Lib.hid (cs_rng h2)
  have HEX := Lib.hid (exps_iff h3)
  have n24 : n' ≤ 24 := by have := HCR.out.1; have := HN.out; omega
  have H1 := Lib.hid h1
  have H2 := Lib.hid h2
  have H3 := Lib.hid h3
  clear hn hn' h1 h2 h3
  have G_0 := Lib.hid ((gr_at w (w.heap.size) (by simp) P Q G 27).below (ba (w.alloc (.cells #[.int .i64 P, .int .i64 Q, .int .i64 G] 27)) (.cells #[.int .i64 0, .int .i64 0] 61)))
  have R_0 := Lib.hid (c2_at (w.alloc (.cells #[.int .i64 P, .int .i64 Q, .int .i64 G] 27)) (w.heap.size + 1) (by simp) 0 0 61)
  have HB_0 := Lib.hid (show Below w.heap.size w ((w.alloc (.cells #[.int .i64 P, .int .i64 Q, .int .i64 G] 27)).alloc (.cells #[.int .i64 0, .int .i64 0] 61)) from bt (ba _ _) (ba _ _))
  have Z_0 := Lib.hid (HZ0.out.below HB_0.out (Nat.le_refl _))
  have E_0 := Lib.hid (HE0.out.below HB_0.out (Nat.le_refl _))
  go_enter Try.func46, Try.ntmps46
  go_wp2_with fail
  refine (l2Good_any _ _ _ _).mono ?_
  rw [H1.out]
  rintro e v1 ⟨rfl, hb⟩
  have HB_1 := Lib.hid (bt HB_0.out hb)
  have G_1 := Lib.hid (G_0.out.below hb)
  have R_1 := Lib.hid (R_0.out.below hb)
  have Z_1 := Lib.hid (Z_0.out.below hb (Nat.le_refl _))
  have E_1 := Lib.hid (E_0.out.below hb (Nat.le_refl _))
  clear hb
  obtain ⟨gG0, gG1, gG2⟩ := G_1.out
  obtain ⟨rR0, rR1, rfR⟩ := R_1.out
  have rfR0 := rfR 0
  have rfR1 := rfR 1
  go_wp2_with fail
  refine (eGood_any P Q G hmo _ _ _ zs HN.out (by omega) _ Z_1.out).mono ?_
  rw [H2.out]
  rintro e v2 ⟨rfl, hb⟩
  have HB_2 := Lib.hid (bt HB_1.out hb)
  have G_2 := Lib.hid (G_1.out.below hb)
  have R_2 := Lib.hid (R_1.out.below hb)
  have Z_2 := Lib.hid (Z_1.out.below hb (Nat.le_refl _))
  have E_2 := Lib.hid (E_1.out.below hb (Nat.le_refl _))
  clear hb
  clear gG0 gG1 gG2 rR0 rR1 rfR rfR0 rfR1
  obtain ⟨gG0, gG1, gG2⟩ := G_2.out
  obtain ⟨rR0, rR1, rfR⟩ := R_2.out
  have rfR0 := rfR 0
  have rfR1 := rfR 1
  go_wp2_with fail
  refine (gExps_any P Q G hQr _ _ _ es HN'.out (by omega) _ E_2.out).mono ?_
  rw [H3.out]
  rintro e v3 ⟨rfl, hb⟩
  have HB_3 := Lib.hid (bt HB_2.out hb)
  have G_3 := Lib.hid (G_2.out.below hb)
  have R_3 := Lib.hid (R_2.out.below hb)
  have Z_3 := Lib.hid (Z_2.out.below hb (Nat.le_refl _))
  have E_3 := Lib.hid (E_2.out.below hb (Nat.le_refl _))
  clear hb
  clear gG0 gG1 gG2 rR0 rR1 rfR rfR0 rfR1
  obtain ⟨gG0, gG1, gG2⟩ := G_3.out
  obtain ⟨rR0, rR1, rfR⟩ := R_3.out
  have rfR0 := rfR 0
  have rfR1 := rfR 1
  go_wp2_with fail
  refine (eProd_any P Q G hP hQ2 hQr.2 _ _ _ _ _ zs es HN.out HN'.out (by omega) HCR.out.2 HEX.out _ Z_3.out E_3.out).mono ?_
  rintro e v4 ⟨rfl, hb⟩
  have HB_4 := Lib.hid (bt HB_3.out hb)
  have G_4 := Lib.hid (G_3.out.below hb)
  have R_4 := Lib.hid (R_3.out.below hb)
  have Z_4 := Lib.hid (Z_3.out.below hb (Nat.le_refl _))
  have E_4 := Lib.hid (E_3.out.below hb (Nat.le_refl _))
  clear hb
  clear gG0 gG1 gG2 rR0 rR1 rfR rfR0 rfR1
  obtain ⟨gG0, gG1, gG2⟩ := G_4.out
  obtain ⟨rR0, rR1, rfR⟩ := R_4.out
  have rfR0 := rfR 0
  have rfR1 := rfR 1
  go_wp2
  (try simp only [Exit.inBlock, Exit.then])
  refine bodyPost_ret (v := .tuple #[cv (powsFrom P 1 (evens zs) es) (powsFrom P 1 (odds zs) es), .bool true]) ?_ rfl ⟨rfl, ?_⟩
  · rw [results_cell_tmp rfl]; go_simp
  · first | exact HB_4.out | exact set_below HB_4.out (w.heap.size + 1) (by omega) _ _

theorem ra_iff (P Q G key : Int) (zs es : List Int) : raB P Q G key zs es = (kgB P Q G key && csB P Q zs && decide (zs.length = es.length * 2) && allIn es 0 (Q - 1)) := rfl
theorem take_re {P G key : Int} {zs es : List Int} {p q x : Int} {k : Nat} (hd : zs.drop (k * 2) = p :: q :: zs.drop ((k + 1) * 2)) (he : es.drop k = x :: es.drop (k + 1)) :
    (flatRe P G key zs es).take ((k + 1) * 2) = (flatRe P G key zs es).take (k * 2) ++ [reA P G p x, reM P key q x] := by
  have h := re_step2 (P := P) (G := G) (key := key) hd he
  rw [show (k + 1) * 2 = k * 2 + 2 by omega, List.take_add, h]
  rfl
theorem step_append_cip {P : Program} {w : World} {ops : Array Oper} {o : Oper} {a : Act} {K : Act → World → Prop} {Q : Exit → Act → World → Prop} {E : Prop} (hgd : o.guard = none) (s x : Operand) (t : TypeId)
    (ho : o.op = .call { callee := .builtin .append, args := #[s, x], argTypes := #[t, t] })
    (base : Nat) (e : TypeId) (i : TypeInfo) (ht : P.underlying t = some (.slice e)) (hi : P.info? e = some i) (hz : i.zero = some (.agg #[.int .i64 0, .int .i64 0]))
    (hsize : i.size = 2) (hby : i.bytes = 16)
    (v : Value) (n : Nat) (xs : List Int) (hs : a.eval s = v) (hown : w.ownsRow base e 2 v n (xs.map (Value.int .i64)))
    (g : Nat) (p q : Int) (hx : a.eval x = .slice (some ⟨g, 0, none⟩) 1 1) (h0 : w.cell? ⟨g, 0, none⟩ = some (.int .i64 p)) (h1 : w.cell? ⟨g, 1, none⟩ = some (.int .i64 q))
    (h63 : n ≤ 2000000) (hbase : base ≤ w.heap.size)
    (h : ∀ v' w', w'.ownsRow base e 2 v' (n + 1) ((xs ++ [p, q]).map (Value.int .i64)) → w.grownBy w' v.ownBlock → K (a.put o.dst v') w') :
    if Region.wanted o (yielded ops a.tmps) = true then Oper.wp P o a w K Q else E := by
  have hw : Region.wanted o (yielded ops a.tmps) = true := by simp [Region.wanted, hgd]
  rw [if_pos hw]
  refine wp_append_own w s x t ho base e i (.agg #[.int .i64 0, .int .i64 0]) 2 16 ht hi hz hsize hby rfl (by decide) v n (xs.map (Value.int .i64)) hs hown ⟨g, 0, none⟩ 1 1 [.int .i64 p, .int .i64 q] hx rfl ?_ ?_ (by unfold maxLen; omega) (by omega) hbase ?_
  · intro j u hj
    match j, hj with
    | 0, hj => simp at hj; subst hj; exact h0
    | 1, hj => simp at hj; subst hj; exact h1
    | n + 2, hj => simp at hj
  · intro u hu; simp at hu; rcases hu with rfl | rfl <;> rfl
  · intro v' w' k1 k2 _
    refine h v' w' ?_ k2
    rw [List.map_append]
    exact k1

set_option maxRecDepth 100000 in
set_option maxHeartbeats 6400000 in
theorem sReencryptAll_any (P Q G key : Int) (ad ad' : Option Addr) (n n' cap cap' : Nat) (zs es : List Int) (hn : zs.length = n * 2) (hn' : es.length = n') (hl : n ≤ 2000000) (hl' : n' ≤ 2000000) (w : World) (hz : IsInts w ad zs) (hz' : IsInts w ad' es) :
    Calls Try.prog 33 #[gv P Q G, .int .i64 key, .slice ad n cap, .slice ad' n' cap'] w (AnsE w (raV P Q G key zs es) (raB P Q G key zs es)) := by
  have HN := Lib.hid hn
  have HN' := Lib.hid hn'
  have HZ0 := Lib.hid hz
  have HE0 := Lib.hid hz'
  obtain ⟨i0, hi, hz0, hz1, hi2⟩ := info_parts Try.infoCC
  clear hz hz'
  cases h1 : kgB P Q G key
  · skip
    have e0 : raB P Q G key zs es = false := by simp [ra_iff, h1]
    rw [ra_off e0, e0]
    clear e0
    have H1 := Lib.hid h1
    clear hn hn' h1
    have G_0 := Lib.hid (gr_at w (w.heap.size) (by simp) P Q G 27)
    have HB_0 := Lib.hid (show Below w.heap.size w (w.alloc (.cells #[.int .i64 P, .int .i64 Q, .int .i64 G] 27)) from ba _ _)
    have Z_0 := Lib.hid (HZ0.out.below HB_0.out (Nat.le_refl _))
    have E_0 := Lib.hid (HE0.out.below HB_0.out (Nat.le_refl _))
    go_enter Try.func33, Try.ntmps33
    go_wp2_with fail
    refine (eKey_any _ _ _ _ _).mono ?_
    rw [H1.out]
    rintro e v1 ⟨rfl, hb⟩
    have HB_1 := Lib.hid (bt HB_0.out hb)
    have G_1 := Lib.hid (G_0.out.below hb)
    have Z_1 := Lib.hid (Z_0.out.below hb (Nat.le_refl _))
    have E_1 := Lib.hid (E_0.out.below hb (Nat.le_refl _))
    clear hb
    obtain ⟨gG0, gG1, gG2⟩ := G_1.out
    go_wp2
    go_ret2
    exact ansE_nil HB_1.out
  cases h2 : csB P Q zs
  · skip
    have e0 : raB P Q G key zs es = false := by simp [ra_iff, h2]
    rw [ra_off e0, e0]
    clear e0
    have hgk := Bool.and_eq_true_iff.1 (show (goodB P Q G && elB P Q key) = true from h1)
    have hgd := hgk.1
    have hmo := good_mo hgk.1
    have hP : 2 ≤ P ∧ P ≤ 2000000000 := hmo.1
    have hQr : 0 ≤ Q ∧ Q ≤ 2000000000 := hmo.2
    have hQ2 : 2 ≤ Q := by have := goodB_true.1 hgk.1; omega
    have hG := el_rng (good_el hgk.1)
    have hky := el_rng hgk.2
    clear hgk hgd
    have H1 := Lib.hid h1
    have H2 := Lib.hid h2
    clear hn hn' h1 h2
    have G_0 := Lib.hid (gr_at w (w.heap.size) (by simp) P Q G 27)
    have HB_0 := Lib.hid (show Below w.heap.size w (w.alloc (.cells #[.int .i64 P, .int .i64 Q, .int .i64 G] 27)) from ba _ _)
    have Z_0 := Lib.hid (HZ0.out.below HB_0.out (Nat.le_refl _))
    have E_0 := Lib.hid (HE0.out.below HB_0.out (Nat.le_refl _))
    go_enter Try.func33, Try.ntmps33
    go_wp2_with fail
    refine (eKey_any _ _ _ _ _).mono ?_
    rw [H1.out]
    rintro e v1 ⟨rfl, hb⟩
    have HB_1 := Lib.hid (bt HB_0.out hb)
    have G_1 := Lib.hid (G_0.out.below hb)
    have Z_1 := Lib.hid (Z_0.out.below hb (Nat.le_refl _))
    have E_1 := Lib.hid (E_0.out.below hb (Nat.le_refl _))
    clear hb
    obtain ⟨gG0, gG1, gG2⟩ := G_1.out
    go_wp2_with fail
    refine (eGood_any P Q G hmo _ _ _ zs HN.out (by omega) _ Z_1.out).mono ?_
    rw [H2.out]
    rintro e v2 ⟨rfl, hb⟩
    have HB_2 := Lib.hid (bt HB_1.out hb)
    have G_2 := Lib.hid (G_1.out.below hb)
    have Z_2 := Lib.hid (Z_1.out.below hb (Nat.le_refl _))
    have E_2 := Lib.hid (E_1.out.below hb (Nat.le_refl _))
    clear hb
    clear gG0 gG1 gG2
    obtain ⟨gG0, gG1, gG2⟩ := G_2.out
    go_wp2
    go_ret2
    exact ansE_nil HB_2.out
  by_cases h9 : ¬ n' = n
  · skip
    have e0 : raB P Q G key zs es = false := by rw [ra_iff, decide_eq_false (show ¬ zs.length = es.length * 2 by omega)]; simp
    rw [ra_off e0, e0]
    clear e0
    have hgk := Bool.and_eq_true_iff.1 (show (goodB P Q G && elB P Q key) = true from h1)
    have hgd := hgk.1
    have hmo := good_mo hgk.1
    have hP : 2 ≤ P ∧ P ≤ 2000000000 := hmo.1
    have hQr : 0 ≤ Q ∧ Q ≤ 2000000000 := hmo.2
    have hQ2 : 2 ≤ Q := by have := goodB_true.1 hgk.1; omega
    have hG := el_rng (good_el hgk.1)
    have hky := el_rng hgk.2
    clear hgk hgd
    have HCR := Lib.hid (cs_rng h2)
    have H1 := Lib.hid h1
    have H2 := Lib.hid h2
    have hnn : ((n' : Int) != (n : Int)) = true := by simp; omega
    have hni : ¬ (n' : Int) = (n : Int) := by omega
    clear hn hn' h1 h2
    have G_0 := Lib.hid (gr_at w (w.heap.size) (by simp) P Q G 27)
    have HB_0 := Lib.hid (show Below w.heap.size w (w.alloc (.cells #[.int .i64 P, .int .i64 Q, .int .i64 G] 27)) from ba _ _)
    have Z_0 := Lib.hid (HZ0.out.below HB_0.out (Nat.le_refl _))
    have E_0 := Lib.hid (HE0.out.below HB_0.out (Nat.le_refl _))
    go_enter Try.func33, Try.ntmps33
    go_wp2_with fail
    refine (eKey_any _ _ _ _ _).mono ?_
    rw [H1.out]
    rintro e v1 ⟨rfl, hb⟩
    have HB_1 := Lib.hid (bt HB_0.out hb)
    have G_1 := Lib.hid (G_0.out.below hb)
    have Z_1 := Lib.hid (Z_0.out.below hb (Nat.le_refl _))
    have E_1 := Lib.hid (E_0.out.below hb (Nat.le_refl _))
    clear hb
    obtain ⟨gG0, gG1, gG2⟩ := G_1.out
    go_wp2_with fail
    refine (eGood_any P Q G hmo _ _ _ zs HN.out (by omega) _ Z_1.out).mono ?_
    rw [H2.out]
    rintro e v2 ⟨rfl, hb⟩
    have HB_2 := Lib.hid (bt HB_1.out hb)
    have G_2 := Lib.hid (G_1.out.below hb)
    have Z_2 := Lib.hid (Z_1.out.below hb (Nat.le_refl _))
    have E_2 := Lib.hid (E_1.out.below hb (Nat.le_refl _))
    clear hb
    clear gG0 gG1 gG2
    obtain ⟨gG0, gG1, gG2⟩ := G_2.out
    go_wp2
    go_ret2
    exact ansE_nil HB_2.out
  have h9 := Decidable.not_not.1 h9
  subst h9
  cases h3 : allIn es 0 (Q - 1)
  · skip
    have e0 : raB P Q G key zs es = false := by simp [ra_iff, h3]
    rw [ra_off e0, e0]
    clear e0
    have hgk := Bool.and_eq_true_iff.1 (show (goodB P Q G && elB P Q key) = true from h1)
    have hgd := hgk.1
    have hmo := good_mo hgk.1
    have hP : 2 ≤ P ∧ P ≤ 2000000000 := hmo.1
    have hQr : 0 ≤ Q ∧ Q ≤ 2000000000 := hmo.2
    have hQ2 : 2 ≤ Q := by have := goodB_true.1 hgk.1; omega
    have hG := el_rng (good_el hgk.1)
    have hky := el_rng hgk.2
    clear hgk hgd
    have HCR := Lib.hid (cs_rng h2)
    have H1 := Lib.hid h1
    have H2 := Lib.hid h2
    have H3 := Lib.hid h3
    clear hn hn' h1 h2 h3
    have G_0 := Lib.hid (gr_at w (w.heap.size) (by simp) P Q G 27)
    have HB_0 := Lib.hid (show Below w.heap.size w (w.alloc (.cells #[.int .i64 P, .int .i64 Q, .int .i64 G] 27)) from ba _ _)
    have Z_0 := Lib.hid (HZ0.out.below HB_0.out (Nat.le_refl _))
    have E_0 := Lib.hid (HE0.out.below HB_0.out (Nat.le_refl _))
    go_enter Try.func33, Try.ntmps33
    go_wp2_with fail
    refine (eKey_any _ _ _ _ _).mono ?_
    rw [H1.out]
    rintro e v1 ⟨rfl, hb⟩
    have HB_1 := Lib.hid (bt HB_0.out hb)
    have G_1 := Lib.hid (G_0.out.below hb)
    have Z_1 := Lib.hid (Z_0.out.below hb (Nat.le_refl _))
    have E_1 := Lib.hid (E_0.out.below hb (Nat.le_refl _))
    clear hb
    obtain ⟨gG0, gG1, gG2⟩ := G_1.out
    go_wp2_with fail
    refine (eGood_any P Q G hmo _ _ _ zs HN.out (by omega) _ Z_1.out).mono ?_
    rw [H2.out]
    rintro e v2 ⟨rfl, hb⟩
    have HB_2 := Lib.hid (bt HB_1.out hb)
    have G_2 := Lib.hid (G_1.out.below hb)
    have Z_2 := Lib.hid (Z_1.out.below hb (Nat.le_refl _))
    have E_2 := Lib.hid (E_1.out.below hb (Nat.le_refl _))
    clear hb
    clear gG0 gG1 gG2
    obtain ⟨gG0, gG1, gG2⟩ := G_2.out
    go_wp2_with fail
    refine (gExps_any P Q G hQr _ _ _ es HN'.out (by omega) _ E_2.out).mono ?_
    rw [H3.out]
    rintro e v3 ⟨rfl, hb⟩
    have HB_3 := Lib.hid (bt HB_2.out hb)
    have G_3 := Lib.hid (G_2.out.below hb)
    have Z_3 := Lib.hid (Z_2.out.below hb (Nat.le_refl _))
    have E_3 := Lib.hid (E_2.out.below hb (Nat.le_refl _))
    clear hb
    clear gG0 gG1 gG2
    obtain ⟨gG0, gG1, gG2⟩ := G_3.out
    go_wp2
    go_ret2
    exact ansE_nil HB_3.out
  have e0 : raB P Q G key zs es = true := by rw [ra_iff, h1, h2, h3, decide_eq_true (by omega)]; rfl
  rw [ra_on e0, e0]
  clear e0
  have HFL := Lib.hid (flatRe_length P G key es zs (by omega))
  have hgk := Bool.and_eq_true_iff.1 (show (goodB P Q G && elB P Q key) = true from h1)
  have hgd := hgk.1
  have hmo := good_mo hgk.1
  have hP : 2 ≤ P ∧ P ≤ 2000000000 := hmo.1
  have hQr : 0 ≤ Q ∧ Q ≤ 2000000000 := hmo.2
  have hQ2 : 2 ≤ Q := by have := goodB_true.1 hgk.1; omega
  have hG := el_rng (good_el hgk.1)
  have hky := el_rng hgk.2
  clear hgk hgd
  have HCR := Lib.hid (cs_rng h2)
  have HEX := Lib.hid (exps_iff h3)
  have n24 : n' ≤ 24 := by have := HCR.out.1; have := HN.out; omega
  have H1 := Lib.hid h1
  have H2 := Lib.hid h2
  have H3 := Lib.hid h3
  clear hn hn' h1 h2 h3
  have G_0 := Lib.hid (gr_at w (w.heap.size) (by simp) P Q G 27)
  have HB_0 := Lib.hid (show Below w.heap.size w (w.alloc (.cells #[.int .i64 P, .int .i64 Q, .int .i64 G] 27)) from ba _ _)
  have Z_0 := Lib.hid (HZ0.out.below HB_0.out (Nat.le_refl _))
  have E_0 := Lib.hid (HE0.out.below HB_0.out (Nat.le_refl _))
  go_enter Try.func33, Try.ntmps33
  go_wp2_with fail
  refine (eKey_any _ _ _ _ _).mono ?_
  rw [H1.out]
  rintro e v1 ⟨rfl, hb⟩
  have HB_1 := Lib.hid (bt HB_0.out hb)
  have G_1 := Lib.hid (G_0.out.below hb)
  have Z_1 := Lib.hid (Z_0.out.below hb (Nat.le_refl _))
  have E_1 := Lib.hid (E_0.out.below hb (Nat.le_refl _))
  clear hb
  obtain ⟨gG0, gG1, gG2⟩ := G_1.out
  go_wp2_with fail
  refine (eGood_any P Q G hmo _ _ _ zs HN.out (by omega) _ Z_1.out).mono ?_
  rw [H2.out]
  rintro e v2 ⟨rfl, hb⟩
  have HB_2 := Lib.hid (bt HB_1.out hb)
  have G_2 := Lib.hid (G_1.out.below hb)
  have Z_2 := Lib.hid (Z_1.out.below hb (Nat.le_refl _))
  have E_2 := Lib.hid (E_1.out.below hb (Nat.le_refl _))
  clear hb
  clear gG0 gG1 gG2
  obtain ⟨gG0, gG1, gG2⟩ := G_2.out
  go_wp2_with fail
  refine (gExps_any P Q G hQr _ _ _ es HN'.out (by omega) _ E_2.out).mono ?_
  rw [H3.out]
  rintro e v3 ⟨rfl, hb⟩
  have HB_3 := Lib.hid (bt HB_2.out hb)
  have G_3 := Lib.hid (G_2.out.below hb)
  have Z_3 := Lib.hid (Z_2.out.below hb (Nat.le_refl _))
  have E_3 := Lib.hid (E_2.out.below hb (Nat.le_refl _))
  clear hb
  clear gG0 gG1 gG2
  obtain ⟨gG0, gG1, gG2⟩ := G_3.out
  go_wp2
  go_loopw [10, 11, 38] (fun V _ K wr => ∃ (k : Nat) (va : Option Addr) (vc : Nat), k ≤ n' ∧ K = .int .i64 k ∧ V = .slice va k vc ∧ wr.ownsRow v3.heap.size 61 2 (.slice va k vc) k (((flatRe P G key zs es).take (k * 2)).map (Value.int .i64)) ∧ Below v3.heap.size v3 wr) (fun _ _ K _ => n' - (intOf K).toNat)
  case atStart => exact ⟨0, none, 0, Nat.zero_le _, rfl, rfl, World.ownsRow_nil _ _ _ _, Below.refl _ _⟩
  case round =>
    obtain ⟨k, va, vc, hk, rfl, rfl, hown, hbel⟩ := hrel
    have HO := Lib.hid hown
    have HBk := Lib.hid hbel
    have G_r := Lib.hid (G_3.out.below hbel)
    have HBw := Lib.hid (HB_3.out.trans (hbel.mono HB_3.out.size))
    have hsr : v3.heap.size ≤ wr.heap.size := hbel.size
    clear hown hbel gG0 gG1 gG2
    by_cases hkn : k < n'
    · obtain ⟨b', off', x, hbb, hb', hc', hd'⟩ := HE0.out.at (k := k) (by have := HN'.out; omega)
      subst hbb
      obtain ⟨b, off, p, q, hba, hb, hc1, hc2, hd⟩ := (HZ0.out.below HBw.out (Nat.le_refl _)).pair hkn HN.out
      subst hba
      have HT := Lib.hid (take_re (P := P) (G := G) (key := key) hd hd')
      have hp := HCR.out.2 p (mem_drop hd)
      have hq := HCR.out.2 q (List.mem_of_mem_drop (i := k * 2) (by rw [hd]; simp))
      have hx := HEX.out x (mem_drop hd')
      have hal := ba wr (.cells #[.int .i64 p, .int .i64 q] 61)
      have HAL := Lib.hid hal
      have HALD := Lib.hid hal.drew
      have HC := Lib.hid (c2_new wr p q 61)
      have hbw' : b' < wr.heap.size := by have := HBw.out.size; omega
      have hce := (HBw.out.cell (p := ⟨b', off' + k, none⟩) hb').trans hc'
      have e0 := (hal.cell (p := ⟨b', off' + k, none⟩) hbw').trans hce
      have HCE := Lib.hid hce
      have hsg : w.heap.size < v3.heap.size := G_3.out.lt
      have HNG := Lib.hid (show some w.heap.size ≠ (Value.slice va k vc).ownBlock from fun hh => by have := (HO.out.lt _ hh.symm).1; omega)
      have HNC := Lib.hid (show some wr.heap.size ≠ (Value.slice va k vc).ownBlock from fun hh => by have := (HO.out.lt _ hh.symm).2; omega)
      have HNB := Lib.hid (show some b' ≠ (Value.slice va k vc).ownBlock from fun hh => by have := (HO.out.lt _ hh.symm).1; omega)
      obtain ⟨k0, k1, k2⟩ := G_r.out.below hal
      obtain ⟨y0, y1, _⟩ := HC.out
      have hki : (k : Int) < (n' : Int) := by omega
      clear hd hd' hc' hal hce
      go_wp2_with fail
      go_region_held3 (fun w' => w'.cell? ⟨w.heap.size, 0, none⟩ = some (.int .i64 P) ∧ w'.cell? ⟨w.heap.size, 1, none⟩ = some (.int .i64 Q) ∧ w'.cell? ⟨w.heap.size, 2, none⟩ = some (.int .i64 G) ∧ w'.cell? ⟨wr.heap.size, 0, none⟩ = some (.int .i64 p) ∧ w'.cell? ⟨wr.heap.size, 1, none⟩ = some (.int .i64 q) ∧ w'.cell? ⟨b', off' + k, none⟩ = some (.int .i64 x)) (first | with_reducible exact ⟨z0', z1', z2', zy0, zy1, ze0⟩ | with_reducible exact ⟨x0', x1', x2', xy0, xy1, xe0⟩ | with_reducible exact ⟨q0', q1', q2', qy0, qy1, qe0⟩ | exact ⟨k0, k1, k2, y0, y1, e0⟩) ((first
        | (go_at_call 83; refine (eRe_any P Q G key p q x hP hQ2 hQr.2 hG hky hp hq hx _).mono ?_; rintro e vx ⟨rfl, hpp⟩; have HX := Lib.hid (show Below wr.heap.size wr vx from bt HALD.out hpp); have Gx := Lib.hid (G_r.out.below HX.out); have Cx := Lib.hid (c2_drop HC.out hpp); have xe0 := (HX.out.cell (p := ⟨b', off' + k, none⟩) hbw').trans HCE.out; have HOx := Lib.hid (own_below HO.out HX.out); clear hpp; obtain ⟨x0', x1', x2'⟩ := Gx.out; obtain ⟨xy0, xy1, _⟩ := Cx.out; have halx := ba vx (.cells #[.int .i64 (reA P G p x), .int .i64 (reM P key q x)] 61); have HLx := Lib.hid (c2_new vx (reA P G p x) (reM P key q x) 61); have HXL := Lib.hid (bt HX.out halx); have HOL := Lib.hid (own_below HOx.out halx); have GL := Lib.hid (Gx.out.below halx); have CL := Lib.hid (Cx.out.below halx); have qe0 := (HXL.out.cell (p := ⟨b', off' + k, none⟩) hbw').trans HCE.out; clear halx; obtain ⟨q0', q1', q2'⟩ := GL.out; obtain ⟨qy0, qy1, _⟩ := CL.out)
        | ((refine step_append_cip (by rfl) (.tmp 43) (.tmp 52) _ (by rfl) v3.heap.size 61 i0 Try.underlying52 hi hz0 hz1 hi2 _ k ((flatRe P G key zs es).take (k * 2)) (by rfl) HOL.out vx.heap.size (reA P G p x) (reM P key q x) (by rfl) HLx.out.1 HLx.out.2.1 (by omega) (by have := HXL.out.size; omega) ?_); intro v' vz hown' hgrow; obtain ⟨va', vc', rfl⟩ := own_shape hown'; have HO2 := Lib.hid hown'; have HXZ := Lib.hid ((HBk.out.trans (HXL.out.mono HBk.out.size)).grown hgrow (by have := HXL.out.size; omega) (fun q hq => (HOL.out.lt q hq).1)); have z0' := hgrow.cell (a := ⟨w.heap.size, 0, none⟩) q0' HNG.out; have z1' := hgrow.cell (a := ⟨w.heap.size, 1, none⟩) q1' HNG.out; have z2' := hgrow.cell (a := ⟨w.heap.size, 2, none⟩) q2' HNG.out; have zy0 := hgrow.cell (a := ⟨wr.heap.size, 0, none⟩) qy0 HNC.out; have zy1 := hgrow.cell (a := ⟨wr.heap.size, 1, none⟩) qy1 HNC.out; have ze0 := hgrow.cell (a := ⟨b', off' + k, none⟩) qe0 HNB.out; clear hown' hgrow)
        | fail))
      all_goals (
        go_wp2
        go_roundw
        case rel => exact ⟨k + 1, va', vc', by omega, by go_num, rfl, by rw [HT.out]; exact HO2.out, HXZ.out⟩
        case measure => simp only [intOf]; omega)
    · obtain rfl : k = n' := by omega
      have hown2 := HO.out
      rw [List.take_of_length_le (by have := HFL.out; have := HN.out; omega)] at hown2
      have HO3 := Lib.hid hown2
      clear hown2
      go_wp2
      go_ret2
      exact ⟨_, rfl, owC_mk (own_rebase HO3.out (by intro g hg; have := (HO3.out.lt g hg).1; have := HB_3.out.size; omega)) HBw.out.size, HBw.out⟩

end Go.Proofs.Ytafoenoilcgjdaa

/- What the laws of layer 6 draw: any exponents, ciphertexts; DrawDecryptElement, DrawEncryptElement. -/
namespace Go.Proofs.Ytafoenoilcgjdaa
open Go.RowKit


theorem C2.grown {w w' : World} {b g : Nat} {x y : Int} (h : C2 w b x y) (hg : w.grownBy w' (some g)) (hne : b ≠ g) : C2 w' b x y := by
  have hl := h.lt
  obtain ⟨c0, c1, hf⟩ := h
  have hn : some b ≠ some g := by simp [hne]
  exact ⟨hg.cell (a := ⟨b, 0, none⟩) c0 hn, hg.cell (a := ⟨b, 1, none⟩) c1 hn, fun i => by rw [frozen_grown hg hl hne]; exact hf i⟩
def AnyCiPost (w : World) (g k : Nat) (e : Ending) (w' : World) : Prop :=
  ∃ a b : Int, e = .returned (cv a b) ∧ ((-8 ≤ a ∧ a ≤ 2000000000) ∧ (-8 ≤ b ∧ b ≤ 2000000000)) ∧ Cur w' g k ∧ w.grownBy w' (some g)


set_option maxRecDepth 100000 in
set_option maxHeartbeats 4000000 in
theorem anyCipher_any (g k : Nat) (hk : k ≤ 800000000) (P Q G : Int) (p0 : -7 ≤ P) (p1 : P ≤ 2000000000) (q0 : -1 ≤ Q) (q1 : Q ≤ 2000000000) (g0 : -1 ≤ G) (g1 : G ≤ 2000000001) (w : World) (hc : Cur w g k) :
    Calls Try.prog 94 #[.pointer (some ⟨g, 0, none⟩), gv P Q G] w (AnyCiPost w g (k + 8 + 8)) := by
  have hgl := hc.lt
  have hal1 := ba w (.cells #[.int .i64 P, .int .i64 Q, .int .i64 G] 27)
  have hal2 := ba (w.alloc (.cells #[.int .i64 P, .int .i64 Q, .int .i64 G] 27)) (.cells #[.int .i64 0, .int .i64 0] 61)
  have HC := Lib.hid ((hc.below hal1).below hal2)
  have HG := Lib.hid (grown_below (bt hal1 hal2) (some g))
  have HR := Lib.hid ((gr_new w P Q G 27).below hal2)
  have HX := Lib.hid (c2_at (w.alloc (.cells #[.int .i64 P, .int .i64 Q, .int .i64 G] 27)) (w.heap.size + 1) (by simp) 0 0 61)
  have hne : w.heap.size ≠ g := by omega
  have hne1 : w.heap.size + 1 ≠ g := by omega
  clear hc hal1 hal2
  obtain ⟨b0, b1, b2⟩ := HR.out
  go_enter Try.func94, Try.ntmps94
  go_wp2_with fail
  go_region_held3 (fun w' => w'.cell? ⟨w.heap.size, 0, none⟩ = some (.int .i64 P) ∧ w'.cell? ⟨w.heap.size, 1, none⟩ = some (.int .i64 Q) ∧ w'.cell? ⟨w.heap.size, 2, none⟩ = some (.int .i64 G)) (first | with_reducible exact ⟨y0, y1, y2⟩ | with_reducible exact ⟨x0, x1, x2⟩ | exact ⟨b0, b1, b2⟩ | exact ⟨cell_pair y0 (by omega) _ _, cell_pair y1 (by omega) _ _, cell_pair y2 (by omega) _ _⟩) ((first
    | (have HLx := HCp; go_at_call 62; refine (anyElement_any g (k + 8) (by omega) P Q G p0 p1 q0 q1 g0 g1 _ HCp.out).mono ?_; rintro e vq ⟨b, rfl, hbr, hcq, hgq⟩; have HCq := Lib.hid hcq; have HGq := Lib.hid (grown_trans HGp.out hgq); have HRq := Lib.hid (HRp.out.grown hgq hne); have HXq := Lib.hid (HXp.out.grown hgq hne1); have HBq := Lib.hid hbr; obtain ⟨y0, y1, y2⟩ := HRq.out; obtain ⟨d0, d1, df⟩ := HXq.out; have df0 := df 0; have df1 := df 1; clear df hcq hgq hbr)
    | (go_at_call 62; refine (anyElement_any g k (by omega) P Q G p0 p1 q0 q1 g0 g1 _ HC.out.drew).mono ?_; rintro e vp ⟨a, rfl, har, hcp, hgp⟩; have hgp' := grown_trans (grown_drew _ _) hgp; have HCp := Lib.hid hcp; have HGp := Lib.hid (grown_trans HG.out hgp'); have HRp := Lib.hid (HR.out.grown hgp' hne); have HXp := Lib.hid (HX.out.grown hgp' hne1); have HAp := Lib.hid har; obtain ⟨x0, x1, x2⟩ := HRp.out; clear hcp hgp hgp' har)
    | fail))
  all_goals (
    have har := HAp.out
    have hbr := HBq.out
    go_wp2
    (try simp only [Exit.inBlock, Exit.then])
    refine bodyPost_ret (v := cv a b) ?_ rfl ⟨a, b, rfl, ⟨⟨by omega, by omega⟩, ⟨by omega, by omega⟩⟩, ?_, ?_⟩
    · rw [results_cell_one rfl]; go_simp
    · exact ((HCq.out.other _ _ (by simp; omega)).other _ _ (by simp; omega)).mono (by omega)
    · exact grown_set (grown_set HGq.out _ _ (by simp)) _ _ (by simp))


set_option maxRecDepth 100000 in
set_option maxHeartbeats 4000000 in
theorem cipher_any (g k : Nat) (hk : k ≤ 800000000) (P Q G : Int) (p0 : -7 ≤ P) (p1 : P ≤ 2000000000) (q0 : -1 ≤ Q) (q1 : Q ≤ 2000000000) (g0 : -1 ≤ G) (g1 : G ≤ 2000000001) (w : World) (hc : Cur w g k) :
    Calls Try.prog 116 #[.pointer (some ⟨g, 0, none⟩), gv P Q G] w (AnyCiPost w g (k + 4 + 4)) := by
  have hgl := hc.lt
  have hal1 := ba w (.cells #[.int .i64 P, .int .i64 Q, .int .i64 G] 27)
  have hal2 := ba (w.alloc (.cells #[.int .i64 P, .int .i64 Q, .int .i64 G] 27)) (.cells #[.int .i64 0, .int .i64 0] 61)
  have HC := Lib.hid ((hc.below hal1).below hal2)
  have HG := Lib.hid (grown_below (bt hal1 hal2) (some g))
  have HR := Lib.hid ((gr_new w P Q G 27).below hal2)
  have HX := Lib.hid (c2_at (w.alloc (.cells #[.int .i64 P, .int .i64 Q, .int .i64 G] 27)) (w.heap.size + 1) (by simp) 0 0 61)
  have hne : w.heap.size ≠ g := by omega
  have hne1 : w.heap.size + 1 ≠ g := by omega
  clear hc hal1 hal2
  obtain ⟨b0, b1, b2⟩ := HR.out
  go_enter Try.func116, Try.ntmps116
  go_wp2_with fail
  go_region_held3 (fun w' => w'.cell? ⟨w.heap.size, 0, none⟩ = some (.int .i64 P) ∧ w'.cell? ⟨w.heap.size, 1, none⟩ = some (.int .i64 Q) ∧ w'.cell? ⟨w.heap.size, 2, none⟩ = some (.int .i64 G)) (first | with_reducible exact ⟨y0, y1, y2⟩ | with_reducible exact ⟨x0, x1, x2⟩ | exact ⟨b0, b1, b2⟩ | exact ⟨cell_pair y0 (by omega) _ _, cell_pair y1 (by omega) _ _, cell_pair y2 (by omega) _ _⟩) ((first
    | (have HLx := HCp; go_at_call 100; refine (element_any g (k + 4) (by omega) P Q G p0 p1 q0 q1 g0 g1 _ HCp.out).mono ?_; rintro e vq ⟨b, rfl, hbr, hcq, hgq⟩; have HCq := Lib.hid hcq; have HGq := Lib.hid (grown_trans HGp.out hgq); have HRq := Lib.hid (HRp.out.grown hgq hne); have HXq := Lib.hid (HXp.out.grown hgq hne1); have HBq := Lib.hid hbr; obtain ⟨y0, y1, y2⟩ := HRq.out; obtain ⟨d0, d1, df⟩ := HXq.out; have df0 := df 0; have df1 := df 1; clear df hcq hgq hbr)
    | (go_at_call 100; refine (element_any g k (by omega) P Q G p0 p1 q0 q1 g0 g1 _ HC.out.drew).mono ?_; rintro e vp ⟨a, rfl, har, hcp, hgp⟩; have hgp' := grown_trans (grown_drew _ _) hgp; have HCp := Lib.hid hcp; have HGp := Lib.hid (grown_trans HG.out hgp'); have HRp := Lib.hid (HR.out.grown hgp' hne); have HXp := Lib.hid (HX.out.grown hgp' hne1); have HAp := Lib.hid har; obtain ⟨x0, x1, x2⟩ := HRp.out; clear hcp hgp hgp' har)
    | fail))
  all_goals (
    have har := HAp.out
    have hbr := HBq.out
    go_wp2
    (try simp only [Exit.inBlock, Exit.then])
    refine bodyPost_ret (v := cv a b) ?_ rfl ⟨a, b, rfl, ⟨⟨by omega, by omega⟩, ⟨by omega, by omega⟩⟩, ?_, ?_⟩
    · rw [results_cell_one rfl]; go_simp
    · exact ((HCq.out.other _ _ (by simp; omega)).other _ _ (by simp; omega)).mono (by omega)
    · exact grown_set (grown_set HGq.out _ _ (by simp)) _ _ (by simp))


theorem results_ctc {fn : Func} {p u q : Tmp} {ty ty2 : TypeId} (h : fn.results = #[.cell p ty, .tmp u, .cell q ty2]) (tmps : Array Value) (P : Program) (w : World) :
    (results fn tmps).run P w =
      ((asAddr (tmps.getD p undef)).run P w).andThen fun a w₁ => ((loadVar ty a).run P w₁).andThen fun x w₂ => ((asAddr (tmps.getD q undef)).run P w₂).andThen fun b w₃ => ((loadVar ty2 b).run P w₃).andThen fun y w₄ => .ok (.tuple #[x, tmps.getD u undef, y]) w₄ := by
  simp only [results, h]
  simp [Sem.run_bind, Result.andThen]
theorem cell_trip {w : World} {g b o : Nat} {v : Value} (h : w.cell? ⟨b, o, none⟩ = some v) (hne : g ≠ b) (x y z : Value) : (((w.setCell ⟨g, 0, none⟩ x).setCell ⟨g, 1, none⟩ y).setCell ⟨g, 2, none⟩ z).cell? ⟨b, o, none⟩ = some v := by
  rw [World.cell?_setCell_other _ _ _ _ (fun e => hne (congrArg Addr.block e)), World.cell?_setCell_other _ _ _ _ (fun e => hne (congrArg Addr.block e)), World.cell?_setCell_other _ _ _ _ (fun e => hne (congrArg Addr.block e))]; exact h
theorem gr_trip {w : World} {b c : Nat} {P Q G : Int} (h : GR w b P Q G) (hne : c ≠ b) (x y z : Value) : GR (((w.setCell ⟨c, 0, none⟩ x).setCell ⟨c, 1, none⟩ y).setCell ⟨c, 2, none⟩ z) b P Q G := gr_after h hne x y z
def DrawDE (w : World) (e : Ending) (w' : World) : Prop := ∃ P Q G s a b : Int, e = .returned (.tuple #[gv P Q G, .int .i64 s, cv a b]) ∧ DB P Q G ∧ Below w.heap.size w w'

def DrawEE (w : World) (e : Ending) (w' : World) : Prop := ∃ P Q G x y z : Int, e = .returned (.tuple #[gv P Q G, .int .i64 x, .int .i64 y, .int .i64 z]) ∧ DB P Q G ∧ Below w.heap.size w w'

end Go.Proofs.Ytafoenoilcgjdaa

/- For the laws of layer 6: qMod; a variable laid while a region is under way; why decryption inverts encryption, for what the law FnEncryption draws. -/
namespace Go.Proofs.Ytafoenoilcgjdaa
open Go.RowKit

theorem qMod_any (a m : Int) (a0 : 0 ≤ a) (_a1 : a ≤ 100000000) (m0 : 1 ≤ m) (m1 : m ≤ 2000000000) (w : World) :
    Calls Try.prog 54 #[.int .i64 a, .int .i64 m] w fun e w' => e = .returned (.int .i64 (a % m)) ∧ w = w' := by
  have hm : m ≠ 0 := by omega
  have h1 : a.tmod m = a % m := Int.tmod_eq_emod_of_nonneg a0
  have hr : 0 ≤ a % m ∧ a % m < m := ⟨Int.emod_nonneg _ hm, Int.emod_lt_of_pos _ (by omega)⟩
  have h2 : IntKind.i64.wrap (a % m + m) = a % m + m := by rw [IntKind.wrap_i64]; omega
  have h3 : (a % m + m).tmod m = a % m := by rw [Int.tmod_eq_emod_of_nonneg (by omega), Int.add_emod_right, Int.emod_emod_of_dvd _ (Int.dvd_refl _)]
  have h4 : IntKind.i64.wrap (a.tmod m) = a % m := by rw [h1, IntKind.wrap_i64]; omega
  have h5 : IntKind.i64.wrap (a % m) = a % m := by rw [IntKind.wrap_i64]; omega
  clear hr a0 _a1 m0 m1
  go_enter Try.func54, Try.ntmps54
  go_wp2
  go_ret
  simp [*]

/-- A variable that is laid while a region is under way, not written yet: it lies above n. -/
def VarY (w : World) (b n : Nat) : Prop := C2 w b 0 0 ∧ n < b
theorem VarY.below {w w' : World} {b n : Nat} (h : VarY w b n) (hb : Below w.heap.size w w') : VarY w' b n := ⟨h.1.below hb, h.2⟩
theorem vary_new {w w' : World} {n : Nat} {x y : Int} {t : TypeId} (h : C2 w n x y) (hb : Below (w.alloc (.cells #[.int .i64 0, .int .i64 0] t)).heap.size (w.alloc (.cells #[.int .i64 0, .int .i64 0] t)) w') : VarY w' w.heap.size n := ⟨(c2_new w 0 0 t).below hb, h.lt⟩
theorem vary_drop {w w' : World} {n : Nat} {x y : Int} {t : TypeId} (h : C2 w n x y) (hb : Below (w.alloc (.cells #[.int .i64 0, .int .i64 0] t)).drew.heap.size (w.alloc (.cells #[.int .i64 0, .int .i64 0] t)).drew w') : VarY w' w.heap.size n := ⟨C2.below (w := (w.alloc (.cells #[.int .i64 0, .int .i64 0] t)).drew) (c2_new w 0 0 t) hb, h.lt⟩
theorem c2_two {w : World} {b c : Nat} {x y : Int} (h : C2 w b x y) (hne : c ≠ b) (u v : Value) : C2 ((w.setCell ⟨c, 0, none⟩ u).setCell ⟨c, 1, none⟩ v) b x y := (h.other _ _ hne).other _ _ hne

theorem dec_parts {P Q G s a b : Int} (h : decB P Q G s a b = true) : goodB P Q G = true ∧ (elB P Q a = true ∧ elB P Q b = true) ∧ 0 ≤ s ∧ s < Q := by
  simp only [decB, vcB, cipB, Bool.and_eq_true] at h
  exact ⟨h.1.1, h.1.2, exB_true.1 h.2⟩
theorem dec_make {P Q G s a b : Int} (hg : goodB P Q G = true) (ha : elB P Q a = true) (hb : elB P Q b = true) (h0 : 0 ≤ s) (h1 : s < Q) : decB P Q G s a b = true := by
  simp only [decB, vcB, cipB, Bool.and_eq_true]
  exact ⟨⟨hg, ha, hb⟩, exB_true.2 ⟨h0, h1⟩⟩
theorem dec_q {P Q G s a b : Int} (h : decB P Q G s a b = true) : 2 ≤ Q ∧ Q ≤ 2000000000 := by
  have := goodB_true.1 (dec_parts h).1
  omega
theorem dec_key {P Q G s a b : Int} (h : decB P Q G s a b = true) : keyB P Q G s = true ∧ keyV P Q G s = Num.pow G s P := by
  obtain ⟨hg, _, h0, h1⟩ := dec_parts h
  have hk : keyB P Q G s = true := by simp only [keyB, Bool.and_eq_true]; exact ⟨hg, exB_true.2 ⟨h0, h1⟩⟩
  exact ⟨hk, key_val hk⟩
/-- Encryption gives a ciphertext. -/
theorem enc_cip {P Q G key m r : Int} (h : encB P Q G key m r = true) : vcB P Q G (encA P Q G key m r) (encM P Q G key m r) = true := by
  obtain ⟨e1, e2⟩ := enc_on h
  obtain ⟨⟨⟨hg, hk⟩, hm⟩, hr⟩ := encB_true.1 h
  have hr := exB_true.1 hr
  rw [e1, e2]
  simp only [vcB, cipB, Bool.and_eq_true]
  exact ⟨hg, el_pow hg (good_el hg) hr.1, el_mul hg hm (el_pow hg hk hr.1)⟩
/-- A re-encrypted pair is decrypted to the same message. -/
theorem re_same {P Q G s a b r : Int} (h : decB P Q G s a b = true) (h0 : 0 ≤ r) (h1 : r < Q) :
    reB P Q G (keyV P Q G s) a b r = true ∧ decB P Q G s (rrA P Q G (keyV P Q G s) a b r) (rrM P Q G (keyV P Q G s) a b r) = true ∧ decV P Q G s (rrA P Q G (keyV P Q G s) a b r) (rrM P Q G (keyV P Q G s) a b r) = decV P Q G s a b := by
  obtain ⟨hg, ⟨ha, hb⟩, s0, s1⟩ := dec_parts h
  have hk := el_pow hg (good_el hg) s0
  rw [(dec_key h).2]
  have hr : reB P Q G (Num.pow G s P) a b r = true := by
    simp only [reB, cipB, Bool.and_eq_true]
    exact ⟨encB_true.2 ⟨⟨⟨hg, hk⟩, one_el hg⟩, exB_true.2 ⟨h0, h1⟩⟩, ha, hb⟩
  obtain ⟨e1, e2⟩ := rr_on hr
  rw [e1, e2]
  have hel := re_el hg hk ha hb h0
  have hd : decB P Q G s (reA P G a r) (reM P (Num.pow G s P) b r) = true := dec_make hg hel.1 hel.2 s0 s1
  refine ⟨hr, hd, ?_⟩
  rw [dec_on hd, dec_on h]
  exact dec_re hg ha hb s0 h0
/-- What was decrypted, encrypted anew, is decrypted to itself. -/
theorem enc_same {P Q G s a b r : Int} (h : decB P Q G s a b = true) (h0 : 0 ≤ r) (h1 : r < Q) :
    encB P Q G (keyV P Q G s) (decV P Q G s a b) r = true ∧ decB P Q G s (encA P Q G (keyV P Q G s) (decV P Q G s a b) r) (encM P Q G (keyV P Q G s) (decV P Q G s a b) r) = true ∧ decV P Q G s (encA P Q G (keyV P Q G s) (decV P Q G s a b) r) (encM P Q G (keyV P Q G s) (decV P Q G s a b) r) = decV P Q G s a b := by
  obtain ⟨hg, ⟨ha, hb⟩, s0, s1⟩ := dec_parts h
  have hk := el_pow hg (good_el hg) s0
  have hm : elB P Q (decV P Q G s a b) = true := by rw [dec_on h]; exact dec_el hg ha hb s0
  rw [(dec_key h).2]
  generalize decV P Q G s a b = m at hm
  have he : encB P Q G (Num.pow G s P) m r = true := encB_true.2 ⟨⟨⟨hg, hk⟩, hm⟩, exB_true.2 ⟨h0, h1⟩⟩
  obtain ⟨e1, e2⟩ := enc_on he
  rw [e1, e2]
  have hd : decB P Q G s (Num.pow G r P) (m * Num.pow (Num.pow G s P) r P % P) = true := dec_make hg (el_pow hg (good_el hg) h0) (el_mul hg hm (el_pow hg hk h0)) s0 s1
  refine ⟨he, hd, ?_⟩
  rw [dec_on hd]
  exact dec_enc hg hm s0 h0

/-- All that the law FnEncryption meets, where the drawn pair is decrypted. -/
theorem enc_all {P Q G s a b r r' : Int} (h : decB P Q G s a b = true) (h0 : 0 ≤ r) (h1 : r < Q) (h0' : 0 ≤ r') (h1' : r' < Q) :
    ∃ k m ra rm ea em : Int, (keyB P Q G s = true ∧ keyV P Q G s = k) ∧ decV P Q G s a b = m ∧
      (reB P Q G k a b r = true ∧ rrA P Q G k a b r = ra ∧ rrM P Q G k a b r = rm) ∧ (decB P Q G s ra rm = true ∧ decV P Q G s ra rm = m) ∧
      (encB P Q G k m r' = true ∧ encA P Q G k m r' = ea ∧ encM P Q G k m r' = em) ∧ (decB P Q G s ea em = true ∧ decV P Q G s ea em = m) :=
  ⟨_, _, _, _, _, _, ⟨(dec_key h).1, rfl⟩, rfl, ⟨(re_same h h0 h1).1, rfl, rfl⟩, (re_same h h0 h1).2, ⟨(enc_same h h0' h1').1, rfl, rfl⟩, (enc_same h h0' h1').2⟩

end Go.Proofs.Ytafoenoilcgjdaa

/- What the laws of layer 6 draw, on: lists of ciphertexts. -/
namespace Go.Proofs.Ytafoenoilcgjdaa
open Go.RowKit

/-- A drawn list of ciphertexts, flat. -/
def CiphsPost (w : World) (g k most : Nat) (e : Ending) (w' : World) : Prop :=
  ∃ (ad : Option Addr) (n cap : Nat) (zs : List Int), e = .returned (.slice ad n cap) ∧ w'.ownsRow (w.heap.size + 1) 61 2 (.slice ad n cap) n (zs.map (Value.int .i64)) ∧ n ≤ most ∧ Cur w' g k ∧ w.grownBy w' (some g)

set_option maxRecDepth 100000 in
set_option maxHeartbeats 6400000 in
theorem ciphers_any (g k : Nat) (hk : k ≤ 700000000) (P Q G : Int) (p0 : -7 ≤ P) (p1 : P ≤ 2000000000) (q0 : -1 ≤ Q) (q1 : Q ≤ 2000000000) (g0 : -1 ≤ G) (g1 : G ≤ 2000000001) (most : Nat) (hm : most ≤ 20) (w : World) (hc : Cur w g k) :
    Calls Try.prog 93 #[.pointer (some ⟨g, 0, none⟩), gv P Q G, .int .i64 most] w (CiphsPost w g (k + 8 * most + 30) 25) := by
  have hgl := hc.lt
  have hgl1 : g < w.heap.size + 1 := by omega
  have hne : w.heap.size ≠ g := by omega
  have hal := ba w (.cells #[.int .i64 P, .int .i64 Q, .int .i64 G] 27)
  have HC := Lib.hid (hc.below hal)
  have HG := Lib.hid (grown_below hal (some g))
  have HR := Lib.hid (gr_new w P Q G 27)
  obtain ⟨i0, hi, hz0, hz1, hz2⟩ := info_parts Try.infoCC
  clear hc hal
  go_enter Try.func93, Try.ntmps93
  go_wp2_with fail
  refine (pick_any g k _ (by omega) (by omega) _ HC.out).mono ?_
  rintro e w1 ⟨x1, rfl, hx1, hc1, hg1⟩
  have hx10 : 0 ≤ x1 := hx1.1
  have hx11 : x1 ≤ (most : Int) := by omega
  obtain ⟨j1, rfl⟩ := Int.eq_ofNat_of_zero_le hx10
  have HC1 := Lib.hid hc1
  have HG1 := Lib.hid (grown_trans HG.out hg1)
  have HR1 := Lib.hid (HR.out.grown hg1 hne)
  clear hc1 hg1 hx1
  go_wp2
  go_loopw [7, 8] (fun V K wr => ∃ (j n : Nat) (va : Option Addr) (vc : Nat) (zs : List Int), (j ≤ most ∧ n + j ≤ most) ∧ K = .int .i64 j ∧ V = .slice va n vc ∧ wr.ownsRow (w.heap.size + 1) 61 2 (.slice va n vc) n (zs.map (Value.int .i64)) ∧ Cur wr g (k + 2 + 8 * (most - j)) ∧ w.grownBy wr (some g) ∧ GR wr w.heap.size P Q G) (fun _ K _ => (intOf K).toNat)
  case atStart => exact ⟨j1, 0, none, 0, [], by omega, rfl, rfl, World.ownsRow_nil _ _ _ _, HC1.out.mono (by omega), HG1.out, HR1.out⟩
  case round =>
    obtain ⟨j, n, va, vc, zs, ⟨hj0, hj1⟩, rfl, rfl, hown, hcr, hgr, hgg⟩ := hrel
    have HO := Lib.hid hown
    have HCr := Lib.hid hcr
    have HGr := Lib.hid hgr
    have HGG := Lib.hid hgg
    clear hown hcr hgr hgg
    by_cases hj : 0 < j
    · have hji : (0 : Int) < (j : Int) := by omega
      obtain ⟨c0, c1, c2⟩ := HGG.out
      go_wp2_with fail
      refine (cipher_any g _ (by omega) P Q G p0 p1 q0 q1 g0 g1 _ HCr.out).mono ?_
      rintro e w2 ⟨x, y, rfl, _, hc2, hg2⟩
      have HO2 := Lib.hid (own_cur HO.out hg2 hgl1)
      have HC2 := Lib.hid hc2
      have HG2 := Lib.hid (grown_trans HGr.out hg2)
      have HGG2 := Lib.hid (HGG.out.grown hg2 hne)
      clear hc2 hg2 c0 c1 c2
      go_wp2_with (at_builtin; refine wpList_append_own _ rfl _ _ 52 rfl (w.heap.size + 1) 61 i0 (.agg #[.int .i64 0, .int .i64 0]) 2 16 Try.underlying52 hi hz0 hz1 hz2 rfl (by decide) _ _ _ rfl (World.ownsRow.alloc HO2.out _) ⟨w2.heap.size, 0, none⟩ 1 1 [.int .i64 x, .int .i64 y] rfl rfl ?a1 ?a2 ?a3 ?a4 ?a5 ?_)
      case a1 => exact pair_new _ _ _ _
      case a2 => intro u hu; simp at hu; first | (rcases hu with rfl | rfl <;> rfl) | (subst hu; rfl)
      case a3 => unfold maxLen; omega
      case a4 => omega
      case a5 => have := HG2.out.size; have := HC2.out.lt; simp; omega
      · intro v' w3 hown' hgrow _
        obtain ⟨va', vc', rfl⟩ := own_shape hown'
        have HO3 := Lib.hid hown'
        have hr : ∀ q, (Value.slice va n vc).ownBlock = some q → w.heap.size + 1 ≤ q := fun q hq => (HO2.out.lt q hq).1
        have hal := ba w2 (.cells #[.int .i64 x, .int .i64 y] 61)
        have HC3 := Lib.hid ((HC2.out.below hal).above hgrow hgl1 hr)
        have HG3 := Lib.hid (grown_own (grown_trans HG2.out (grown_below hal _)) hgrow (fun q hq => Nat.le_trans (Nat.le_succ _) (hr q hq)))
        have HGG3 := Lib.hid ((HGG2.out.below hal).above hgrow (Nat.lt_succ_self _) hr)
        clear hown' hgrow hr hal
        go_wp2
        go_roundw
        case rel => exact ⟨j - 1, n + 1, va', vc', zs ++ [x, y], by omega, by rw [show ((j - 1 : Nat) : Int) = (j : Int) - 1 by omega], rfl, by rw [List.map_append]; exact HO3.out, HC3.out.mono (by omega), HG3.out, HGG3.out⟩
        case measure => simp only [intOf]; omega
    · have hji : (j : Int) ≤ 0 := by omega
      go_wp2_with fail
      refine (one_any g _ _ (by omega) (by omega) _ HCr.out).mono ?_
      rintro e w2 ⟨b, rfl, hc2, hg2⟩
      have HO2 := Lib.hid (own_cur HO.out hg2 hgl1)
      have HC2 := Lib.hid hc2
      have HG2 := Lib.hid (grown_trans HGr.out hg2)
      have HGG2 := Lib.hid (HGG.out.grown hg2 hne)
      clear hc2 hg2
      cases b
      · clear HGG2
        go_wp2_with fail
        refine (one_any g _ _ (by omega) (by omega) _ HC2.out).mono ?_
        rintro e w5 ⟨b2, rfl, hc5, hg5⟩
        have HO5 := Lib.hid (own_cur HO2.out hg5 hgl1)
        have HC5 := Lib.hid hc5
        have HG5 := Lib.hid (grown_trans HG2.out hg5)
        clear hc5 hg5
        cases b2
        · go_wp2
          go_ret
          exact ⟨va, n, vc, zs, rfl, (by first | exact HO5.out | (rw [List.map_append]; exact HO5.out)), by omega, HC5.out.mono (by omega), HG5.out⟩
        · go_wp2_with fail
          refine (pick_any g _ 2 (by omega) (by omega) _ HC5.out).mono ?_
          rintro e w6 ⟨y6, rfl, hy, hc6, hg6⟩
          have hy0 : 0 ≤ y6 := hy.1
          have hy1 : y6 ≤ 1 := by omega
          obtain ⟨j6, rfl⟩ := Int.eq_ofNat_of_zero_le hy0
          have HC6 := Lib.hid hc6
          have HG6 := Lib.hid (grown_trans HG5.out hg6)
          clear hc6 hg6 hy
          go_wp2
          go_loopw [7, 9] (fun V K wr => ∃ (j n : Nat) (va : Option Addr) (vc : Nat) (zs : List Int), (j ≤ 25 ∧ n + j ≤ 25) ∧ K = .int .i64 j ∧ V = .slice va n vc ∧ wr.ownsRow (w.heap.size + 1) 61 2 (.slice va n vc) n (zs.map (Value.int .i64)) ∧ Cur wr g (k + 8 * most + 30) ∧ w.grownBy wr (some g)) (fun _ K _ => (intOf K).toNat)
          case atStart => exact ⟨24 + j6, 0, none, 0, [], by omega, by go_num, rfl, World.ownsRow_nil _ _ _ _, HC6.out.mono (by omega), HG6.out⟩
          case round =>
            obtain ⟨j, n, va, vc, zs, ⟨hj0, hj1⟩, rfl, rfl, hown, hcr, hgr⟩ := hrel
            have HO := Lib.hid hown
            have HCr := Lib.hid hcr
            have HGr := Lib.hid hgr
            clear hown hcr hgr
            by_cases hj : 0 < j
            · have hji : (0 : Int) < (j : Int) := by omega
              go_wp2_with (at_builtin; refine wpList_append_own _ rfl _ _ 52 rfl (w.heap.size + 1) 61 i0 (.agg #[.int .i64 0, .int .i64 0]) 2 16 Try.underlying52 hi hz0 hz1 hz2 rfl (by decide) _ _ _ rfl (World.ownsRow.alloc HO.out _) ⟨wr.heap.size, 0, none⟩ 1 1 [.int .i64 1, .int .i64 1] rfl rfl ?a1 ?a2 ?a3 ?a4 ?a5 ?_)
              case a1 => exact pair_new _ _ _ _
              case a2 => intro u hu; simp at hu; first | (rcases hu with rfl | rfl <;> rfl) | (subst hu; rfl)
              case a3 => unfold maxLen; omega
              case a4 => omega
              case a5 => have := HGr.out.size; have := HCr.out.lt; simp; omega
              · intro v' w7 hown' hgrow _
                obtain ⟨va', vc', rfl⟩ := own_shape hown'
                have HO7 := Lib.hid hown'
                have hr : ∀ q, (Value.slice va n vc).ownBlock = some q → w.heap.size + 1 ≤ q := fun q hq => (HO.out.lt q hq).1
                have hal := ba wr (.cells #[.int .i64 1, .int .i64 1] 61)
                have HC7 := Lib.hid ((HCr.out.below hal).above hgrow hgl1 hr)
                have HG7 := Lib.hid (grown_own (grown_trans HGr.out (grown_below hal _)) hgrow (fun q hq => Nat.le_trans (Nat.le_succ _) (hr q hq)))
                clear hown' hgrow hr hal
                go_wp2
                go_roundw
                case rel => exact ⟨j - 1, n + 1, va', vc', zs ++ [1, 1], by omega, by rw [show ((j - 1 : Nat) : Int) = (j : Int) - 1 by omega], rfl, by rw [List.map_append]; exact HO7.out, HC7.out, HG7.out⟩
                case measure => simp only [intOf]; omega
            · have hji : (j : Int) ≤ 0 := by omega
              go_wp2
              go_ret
              exact ⟨va, n, vc, zs, rfl, HO.out, by omega, HCr.out.mono (by omega), HGr.out⟩
      · obtain ⟨c0, c1, c2⟩ := HGG2.out
        go_wp2_with fail
        refine (anyCipher_any g _ (by omega) P Q G p0 p1 q0 q1 g0 g1 _ HC2.out).mono ?_
        rintro e w3 ⟨x, y, rfl, _, hc3, hg3⟩
        have HO3 := Lib.hid (own_cur HO2.out hg3 hgl1)
        have HC3 := Lib.hid hc3
        have HG3 := Lib.hid (grown_trans HG2.out hg3)
        clear hc3 hg3 c0 c1 c2
        go_wp2_with (at_builtin; refine wpList_append_own _ rfl _ _ 52 rfl (w.heap.size + 1) 61 i0 (.agg #[.int .i64 0, .int .i64 0]) 2 16 Try.underlying52 hi hz0 hz1 hz2 rfl (by decide) _ _ _ rfl (World.ownsRow.alloc HO3.out _) ⟨w3.heap.size, 0, none⟩ 1 1 [.int .i64 x, .int .i64 y] rfl rfl ?a1 ?a2 ?a3 ?a4 ?a5 ?_)
        case a1 => exact pair_new _ _ _ _
        case a2 => intro u hu; simp at hu; first | (rcases hu with rfl | rfl <;> rfl) | (subst hu; rfl)
        case a3 => unfold maxLen; omega
        case a4 => omega
        case a5 => have := HG3.out.size; have := HC3.out.lt; simp; omega
        · intro v' w4 hown' hgrow _
          obtain ⟨va', vc', rfl⟩ := own_shape hown'
          have HO4 := Lib.hid hown'
          have hr : ∀ q, (Value.slice va n vc).ownBlock = some q → w.heap.size + 1 ≤ q := fun q hq => (HO3.out.lt q hq).1
          have hal := ba w3 (.cells #[.int .i64 x, .int .i64 y] 61)
          have HC4 := Lib.hid ((HC3.out.below hal).above hgrow hgl1 hr)
          have HG4 := Lib.hid (grown_own (grown_trans HG3.out (grown_below hal _)) hgrow (fun q hq => Nat.le_trans (Nat.le_succ _) (hr q hq)))
          clear hown' hgrow hr hal
          go_wp2_with fail
          refine (one_any g _ _ (by omega) (by omega) _ HC4.out).mono ?_
          rintro e w5 ⟨b2, rfl, hc5, hg5⟩
          have HO5 := Lib.hid (own_cur HO4.out hg5 hgl1)
          have HC5 := Lib.hid hc5
          have HG5 := Lib.hid (grown_trans HG4.out hg5)
          clear hc5 hg5
          cases b2
          · go_wp2
            go_ret
            exact ⟨va', n + 1, vc', (zs ++ [x, y]), rfl, (by first | exact HO5.out | (rw [List.map_append]; exact HO5.out)), by omega, HC5.out.mono (by omega), HG5.out⟩
          · go_wp2_with fail
            refine (pick_any g _ 2 (by omega) (by omega) _ HC5.out).mono ?_
            rintro e w6 ⟨y6, rfl, hy, hc6, hg6⟩
            have hy0 : 0 ≤ y6 := hy.1
            have hy1 : y6 ≤ 1 := by omega
            obtain ⟨j6, rfl⟩ := Int.eq_ofNat_of_zero_le hy0
            have HC6 := Lib.hid hc6
            have HG6 := Lib.hid (grown_trans HG5.out hg6)
            clear hc6 hg6 hy
            go_wp2
            go_loopw [7, 9] (fun V K wr => ∃ (j n : Nat) (va : Option Addr) (vc : Nat) (zs : List Int), (j ≤ 25 ∧ n + j ≤ 25) ∧ K = .int .i64 j ∧ V = .slice va n vc ∧ wr.ownsRow (w.heap.size + 1) 61 2 (.slice va n vc) n (zs.map (Value.int .i64)) ∧ Cur wr g (k + 8 * most + 30) ∧ w.grownBy wr (some g)) (fun _ K _ => (intOf K).toNat)
            case atStart => exact ⟨24 + j6, 0, none, 0, [], by omega, by go_num, rfl, World.ownsRow_nil _ _ _ _, HC6.out.mono (by omega), HG6.out⟩
            case round =>
              obtain ⟨j, n, va, vc, zs, ⟨hj0, hj1⟩, rfl, rfl, hown, hcr, hgr⟩ := hrel
              have HO := Lib.hid hown
              have HCr := Lib.hid hcr
              have HGr := Lib.hid hgr
              clear hown hcr hgr
              by_cases hj : 0 < j
              · have hji : (0 : Int) < (j : Int) := by omega
                go_wp2_with (at_builtin; refine wpList_append_own _ rfl _ _ 52 rfl (w.heap.size + 1) 61 i0 (.agg #[.int .i64 0, .int .i64 0]) 2 16 Try.underlying52 hi hz0 hz1 hz2 rfl (by decide) _ _ _ rfl (World.ownsRow.alloc HO.out _) ⟨wr.heap.size, 0, none⟩ 1 1 [.int .i64 1, .int .i64 1] rfl rfl ?a1 ?a2 ?a3 ?a4 ?a5 ?_)
                case a1 => exact pair_new _ _ _ _
                case a2 => intro u hu; simp at hu; first | (rcases hu with rfl | rfl <;> rfl) | (subst hu; rfl)
                case a3 => unfold maxLen; omega
                case a4 => omega
                case a5 => have := HGr.out.size; have := HCr.out.lt; simp; omega
                · intro v' w7 hown' hgrow _
                  obtain ⟨va', vc', rfl⟩ := own_shape hown'
                  have HO7 := Lib.hid hown'
                  have hr : ∀ q, (Value.slice va n vc).ownBlock = some q → w.heap.size + 1 ≤ q := fun q hq => (HO.out.lt q hq).1
                  have hal := ba wr (.cells #[.int .i64 1, .int .i64 1] 61)
                  have HC7 := Lib.hid ((HCr.out.below hal).above hgrow hgl1 hr)
                  have HG7 := Lib.hid (grown_own (grown_trans HGr.out (grown_below hal _)) hgrow (fun q hq => Nat.le_trans (Nat.le_succ _) (hr q hq)))
                  clear hown' hgrow hr hal
                  go_wp2
                  go_roundw
                  case rel => exact ⟨j - 1, n + 1, va', vc', zs ++ [1, 1], by omega, by rw [show ((j - 1 : Nat) : Int) = (j : Int) - 1 by omega], rfl, by rw [List.map_append]; exact HO7.out, HC7.out, HG7.out⟩
                  case measure => simp only [intOf]; omega
              · have hji : (j : Int) ≤ 0 := by omega
                go_wp2
                go_ret
                exact ⟨va, n, vc, zs, rfl, HO.out, by omega, HCr.out.mono (by omega), HGr.out⟩

theorem results_cct {fn : Func} {p u q : Tmp} {ty ty2 : TypeId} (h : fn.results = #[.cell p ty, .cell q ty2, .tmp u]) (tmps : Array Value) (P : Program) (w : World) :
    (results fn tmps).run P w =
      ((asAddr (tmps.getD p undef)).run P w).andThen fun a w₁ => ((loadVar ty a).run P w₁).andThen fun x w₂ => ((asAddr (tmps.getD q undef)).run P w₂).andThen fun b w₃ => ((loadVar ty2 b).run P w₃).andThen fun y w₄ => .ok (.tuple #[x, y, tmps.getD u undef]) w₄ := by
  simp only [results, h]
  simp [Sem.run_bind, Result.andThen]
def DrawPC (w : World) (e : Ending) (w' : World) : Prop := ∃ P Q G s a b : Int, e = .returned (.tuple #[gv P Q G, cv a b, .int .i64 s]) ∧ DB P Q G ∧ Below w.heap.size w w'

set_option maxRecDepth 100000 in
set_option maxHeartbeats 6400000 in
theorem drawPowCipher_any (ad : Option Addr) (n cap : Nat) (w : World) (hb : IsB w ad n) :
    Calls Try.prog 51 #[.slice ad n cap] w (DrawPC w) := by
  have hal := ba w (.cells #[.int .i64 0, .int .i64 0, .int .i64 0] 27)
  have hal1 := ba (w.alloc (.cells #[.int .i64 0, .int .i64 0, .int .i64 0] 27)) (.cells #[.int .i64 0, .int .i64 0] 61)
  have HC := Lib.hid (cur_at ((w.alloc (.cells #[.int .i64 0, .int .i64 0, .int .i64 0] 27)).alloc (.cells #[.int .i64 0, .int .i64 0] 61)) (w.heap.size + 1 + 1) (by simp) ad n cap ((hb.below hal).below hal1) 85)
  have hal2 := ba ((w.alloc (.cells #[.int .i64 0, .int .i64 0, .int .i64 0] 27)).alloc (.cells #[.int .i64 0, .int .i64 0] 61)) (.cells #[.slice ad n cap, .int .i64 0, .int .u64 0] 85)
  have HB := Lib.hid (bt (bt hal hal1) hal2)
  have HO := Lib.hid (((own3_new w 0 0 0 27).below hal1).below hal2)
  have HX := Lib.hid ((c2_at (w.alloc (.cells #[.int .i64 0, .int .i64 0, .int .i64 0] 27)) (w.heap.size + 1) (by simp) 0 0 61).below hal2)
  clear hb hal hal1 hal2
  go_enter Try.func51, Try.ntmps51
  go_wp2_with fail
  refine (anyGroup_any (w.heap.size + 1 + 1) 0 (Nat.zero_le _) _ HC.out).mono ?_
  rintro e w1 ⟨P, Q, G, rfl, hd, hc1, hg1⟩
  obtain ⟨⟨p0, p1⟩, ⟨q0, q1⟩, g0, g1⟩ := hd
  have hal3 := ba w1 (.cells #[.int .i64 P, .int .i64 Q, .int .i64 G] 27)
  have hs1 : w.heap.size + 1 + 1 < w1.heap.size := hc1.lt
  have hne : w1.heap.size ≠ w.heap.size + 1 + 1 := by omega
  have hne0 : w1.heap.size ≠ w.heap.size := by omega
  have hneX : w.heap.size + 1 ≠ w1.heap.size := by omega
  have hn1 : w.heap.size ≠ w.heap.size + 1 + 1 := by omega
  have hn2 : w.heap.size + 1 ≠ w.heap.size + 1 + 1 := by omega
  have hle : w.heap.size ≤ w.heap.size + 1 + 1 := by omega
  have HC1 := Lib.hid (hc1.below hal3)
  have HB1 := Lib.hid (bt (below_at HB.out hg1 hle) hal3)
  have HO1 := Lib.hid ((HO.out.grown hg1 hn1).below hal3)
  have HX1 := Lib.hid ((HX.out.grown hg1 hn2).below hal3)
  have HV1 := Lib.hid (gr_new w1 P Q G 27)
  obtain ⟨v0, v1, v2⟩ := HV1.out
  clear hg1 hc1 hal3
  go_wp2_with fail
  go_region_held3 (fun w' => w'.cell? ⟨w1.heap.size, 0, none⟩ = some (.int .i64 P) ∧ w'.cell? ⟨w1.heap.size, 1, none⟩ = some (.int .i64 Q) ∧ w'.cell? ⟨w1.heap.size, 2, none⟩ = some (.int .i64 G)) (first | with_reducible exact ⟨z0, z1, z2⟩ | with_reducible exact ⟨x0, x1, x2⟩ | with_reducible exact ⟨cell_trip z0 (Ne.symm hne0) _ _ _, cell_trip z1 (Ne.symm hne0) _ _ _, cell_trip z2 (Ne.symm hne0) _ _ _⟩ | with_reducible exact ⟨cell_pair z0 hneX _ _, cell_pair z1 hneX _ _, cell_pair z2 hneX _ _⟩ | with_reducible exact ⟨cell_pair (cell_trip z0 (Ne.symm hne0) _ _ _) hneX _ _, cell_pair (cell_trip z1 (Ne.symm hne0) _ _ _) hneX _ _, cell_pair (cell_trip z2 (Ne.symm hne0) _ _ _) hneX _ _⟩ | with_reducible exact ⟨cell_trip (cell_pair z0 hneX _ _) (Ne.symm hne0) _ _ _, cell_trip (cell_pair z1 hneX _ _) (Ne.symm hne0) _ _ _, cell_trip (cell_pair z2 hneX _ _) (Ne.symm hne0) _ _ _⟩ | exact ⟨v0, v1, v2⟩) ((first
    | (go_at_call 94; refine (anyCipher_any (w.heap.size + 1 + 1) 12 (by decide) P Q G p0 p1 q0 q1 g0 g1 _ HC1.out.drew).mono ?_; rintro e wp ⟨a, b, rfl, _, hcp, hgp⟩; have hk := grown_trans (grown_drew _ _) hgp; have HCp := Lib.hid hcp; have HBp := Lib.hid (below_at HB1.out hk hle); have HVp := Lib.hid (HV1.out.grown hk hne); have HOp := Lib.hid (HO1.out.grown hk hn1); have HXp := Lib.hid (HX1.out.grown hk hn2); obtain ⟨x0, x1, x2⟩ := HVp.out; clear hcp hgp hk)
    | (go_at_call 95; refine (anyExpo_any (w.heap.size + 1 + 1) 28 (by decide) P Q G q0 q1 _ HCp.out).mono ?_; rintro e wz ⟨s, rfl, _, hcz, hgz⟩; have HBz := Lib.hid (below_at HBp.out hgz hle); have HVz := Lib.hid (HVp.out.grown hgz hne); have HOz := Lib.hid (HOp.out.grown hgz hn1); have HXz := Lib.hid (HXp.out.grown hgz hn2); obtain ⟨z0, z1, z2⟩ := HVz.out; obtain ⟨⟨d0, d1, d2⟩, df⟩ := HOz.out; have df0 := df 0; have df1 := df 1; have df2 := df 2; obtain ⟨e0, e1, ef⟩ := HXz.out; have ef0 := ef 0; have ef1 := ef 1; clear df ef hcz hgz)
    | fail))
  all_goals (
    go_wp2
    (try simp only [Exit.inBlock, Exit.then])
    refine bodyPost_ret (v := .tuple #[gv P Q G, cv a b, .int .i64 s]) ?_ rfl ⟨P, Q, G, s, a, b, rfl, ⟨⟨p0, p1⟩, ⟨q0, q1⟩, g0, g1⟩, ?_⟩
    · rw [results_cct rfl]; go_simp
    · first | exact set_below (((HBz.out.setCell (Nat.le_refl _) _).setCell (Nat.le_refl _) _).setCell (Nat.le_refl _) _) (w.heap.size + 1) (by omega) _ _ | exact (((set_below HBz.out (w.heap.size + 1) (by omega) _ _).setCell (Nat.le_refl _) _).setCell (Nat.le_refl _) _).setCell (Nat.le_refl _) _)

def DrawRA (w : World) (e : Ending) (w' : World) : Prop :=
  ∃ (P Q G key : Int) (ad : Option Addr) (n cap : Nat) (zs : List Int) (ad' : Option Addr) (n' cap' : Nat) (es : List Int), e = .returned (.tuple #[gv P Q G, .int .i64 key, .slice ad n cap, .slice ad' n' cap']) ∧ DB P Q G ∧
    (IsInts w' ad zs ∧ zs.length = n * 2 ∧ n ≤ 25) ∧ (IsInts w' ad' es ∧ es.length = n' ∧ n' ≤ 31) ∧ Below w.heap.size w w'

set_option maxRecDepth 100000 in
set_option maxHeartbeats 4000000 in
theorem drawReencryptAll_any (ad : Option Addr) (n cap : Nat) (w : World) (hb : IsB w ad n) :
    Calls Try.prog 50 #[.slice ad n cap] w (DrawRA w) := by
  have hal := ba w (.cells #[.int .i64 0, .int .i64 0, .int .i64 0] 27)
  have HC := Lib.hid (cur_at (w.alloc (.cells #[.int .i64 0, .int .i64 0, .int .i64 0] 27)) (w.heap.size + 1) (by simp) ad n cap (hb.below hal) 85)
  have hal2 := ba (w.alloc (.cells #[.int .i64 0, .int .i64 0, .int .i64 0] 27)) (.cells #[.slice ad n cap, .int .i64 0, .int .u64 0] 85)
  have HB := Lib.hid (bt hal hal2)
  have HO := Lib.hid ((own3_new w 0 0 0 27).below hal2)
  clear hb hal hal2
  go_enter Try.func50, Try.ntmps50
  go_wp2_with fail
  refine (anyGroup_any (w.heap.size + 1) 0 (Nat.zero_le _) _ HC.out).mono ?_
  rintro e w1 ⟨P, Q, G, rfl, hd, hc1, hg1⟩
  obtain ⟨⟨p0, p1⟩, ⟨q0, q1⟩, g0, g1⟩ := hd
  have hal3 := ba w1 (.cells #[.int .i64 P, .int .i64 Q, .int .i64 G] 27)
  have hs1 : w.heap.size + 1 < w1.heap.size := hc1.lt
  have hne : w1.heap.size ≠ w.heap.size + 1 := by omega
  have hne0 : w1.heap.size ≠ w.heap.size := by omega
  have hnc : w.heap.size ≠ w.heap.size + 1 := by omega
  have hle : w.heap.size ≤ w.heap.size + 1 := by omega
  have HC1 := Lib.hid (hc1.below hal3)
  have HB1 := Lib.hid (bt (below_at HB.out hg1 hle) hal3)
  have HO1 := Lib.hid ((HO.out.grown hg1 hnc).below hal3)
  have HV1 := Lib.hid (gr_new w1 P Q G 27)
  have HSZ := Lib.hid (show (w1.alloc (.cells #[.int .i64 P, .int .i64 Q, .int .i64 G] 27)).heap.size = w1.heap.size + 1 by simp)
  obtain ⟨v0, v1, v2⟩ := HV1.out
  clear hg1 hc1 hal3
  go_wp2_with fail
  refine (ciphers_any (w.heap.size + 1) 12 (by decide) P Q G p0 p1 q0 q1 g0 g1 5 (by decide) _ HC1.out).mono ?_
  rintro e w2 ⟨va, nn, vc, zs, rfl, hown, hnn, hc2, hg2⟩
  obtain ⟨hi2, hl2, -⟩ := ints_of_own2 hown
  have hup : ∀ a, va = some a → w.heap.size + 1 + 1 ≤ a.block := fun a ha => by
    have := own_up hown a ha
    rw [HSZ.out] at this
    omega
  have HUP := Lib.hid hup
  have HI2 := Lib.hid hi2
  have HL2 := Lib.hid hl2
  have HC2 := Lib.hid hc2
  have HB2 := Lib.hid (below_at HB1.out hg2 hle)
  have HO2 := Lib.hid (HO1.out.grown hg2 hnc)
  have HV2 := Lib.hid (HV1.out.grown hg2 hne)
  have hs2 : w1.heap.size < w2.heap.size := HV2.out.lt
  have HNE := Lib.hid (show ∀ a, va = some a → some a.block ≠ some (w.heap.size + 1) from fun a ha => by have := hup a ha; simp; omega)
  clear hown hc2 hg2 hi2 hl2 hup v0 v1 v2
  obtain ⟨v0, v1, v2⟩ := HV2.out
  have hn30 : nn ≤ 30 := by omega
  go_wp2_with fail
  go_region_held3 (fun w' => w'.cell? ⟨w1.heap.size, 0, none⟩ = some (.int .i64 P) ∧ w'.cell? ⟨w1.heap.size, 1, none⟩ = some (.int .i64 Q) ∧ w'.cell? ⟨w1.heap.size, 2, none⟩ = some (.int .i64 G)) (first | with_reducible exact ⟨x0, x1, x2⟩ | with_reducible exact ⟨y0, y1, y2⟩ | with_reducible exact ⟨cell_trip x0 (Ne.symm hne0) _ _ _, cell_trip x1 (Ne.symm hne0) _ _ _, cell_trip x2 (Ne.symm hne0) _ _ _⟩ | exact ⟨v0, v1, v2⟩) ((first
    | (go_at_call 62; refine (anyElement_any (w.heap.size + 1) (12 + 8 * 5 + 30) (by decide) P Q G p0 p1 q0 q1 g0 g1 _ HC2.out.drew).mono ?_; rintro e wp ⟨key, rfl, _, hcp, hgp⟩; have hk := grown_trans (grown_drew _ _) hgp; have HCp := Lib.hid hcp; have HIp := Lib.hid (HI2.out.grown hk HNE.out); have HBp := Lib.hid (below_at HB2.out hk hle); have HVp := Lib.hid (HV2.out.grown hk hne); have HOp := Lib.hid (HO2.out.grown hk hnc); have HSp := Lib.hid (show w2.heap.size ≤ wp.heap.size from hgp.size); obtain ⟨y0, y1, y2⟩ := HVp.out; clear hcp hgp hk)
    | (go_at_call 74; refine (anyCoins_any (w.heap.size + 1) (12 + 8 * 5 + 30 + 8) (by decide) P Q G q0 q1 nn hn30 _ HCp.out).mono ?_; rintro e w3 ⟨ea, en, ec, es, rfl, hi3, hl3, hen, hb3, _, hg3⟩; have HI3 := Lib.hid hi3; have HL3 := Lib.hid hl3; have HBE := Lib.hid (show ∀ a, ea = some a → w.heap.size + 1 ≤ a.block from fun a ha => by { have h1 := hb3 a ha; have h2 := HSp.out; omega }); have HZ3 := Lib.hid (HIp.out.grown hg3 HNE.out); have HB3 := Lib.hid (below_at HBp.out hg3 hle); have HV3 := Lib.hid (HVp.out.grown hg3 hne); obtain ⟨x0, x1, x2⟩ := HV3.out; have HO3 := Lib.hid (HOp.out.grown hg3 hnc); obtain ⟨⟨d0, d1, d2⟩, df⟩ := HO3.out; have df0 := df 0; have df1 := df 1; have df2 := df 2; clear df hg3 hi3 hl3 hb3)
    | fail))
  all_goals (
    go_wp2
    (try simp only [Exit.inBlock, Exit.then])
    refine bodyPost_ret (v := .tuple #[gv P Q G, .int .i64 key, .slice va nn vc, .slice ea en ec]) ?_ rfl ⟨P, Q, G, key, va, nn, vc, zs, ea, en, ec, es, rfl, ⟨⟨p0, p1⟩, ⟨q0, q1⟩, g0, g1⟩, ⟨?_, HL2.out, hnn⟩, ⟨?_, HL3.out, hen⟩, ?_⟩
    · rw [results_cell_tmp3 rfl]; go_simp
    · exact ints_set3 HZ3.out _ _ _ (fun a ha => by have := HUP.out a ha; omega)
    · exact ints_set3 HI3.out _ _ _ HBE.out
    · first | exact ((HB3.out.setCell (Nat.le_refl _) _).setCell (Nat.le_refl _) _).setCell (Nat.le_refl _) _ | exact (((HB3.out.drew).setCell (Nat.le_refl _) _).setCell (Nat.le_refl _) _).setCell (Nat.le_refl _) _)

set_option maxHeartbeats 1600000 in
theorem qCiphers_same (ad ad' : Option Addr) (n n' cap cap' : Nat) (zs : List Int) (hn : zs.length = n * 2) (hn' : zs.length = n' * 2) (hl : n ≤ 17592186044416) (w : World) (hz : IsInts w ad zs) (hz' : IsInts w ad' zs) :
    Calls Try.prog 52 #[.slice ad n cap, .slice ad' n' cap'] w fun e w' => e = .returned (.bool true) ∧ Below w.heap.size w w' := by
  obtain rfl : n = n' := by omega
  have HN := Lib.hid hn
  clear hn hn'
  go_enter Try.func52, Try.ntmps52
  go_wp2
  go_loopw [13] (fun K wr => ∃ k : Nat, k ≤ n ∧ K = .int .i64 k ∧ Below w.heap.size w wr) (fun K _ => n - (intOf K).toNat)
  case atStart => exact ⟨0, Nat.zero_le _, rfl, Below.refl _ _⟩
  case round =>
    obtain ⟨k, hk, rfl, hbel⟩ := hrel
    by_cases hkn : k < n
    · obtain ⟨b, off, p, q, rfl, hb, hc1, hc2, hd⟩ := (below_ints hz hbel).pair hkn HN.out
      obtain ⟨b', off', p', q', rfl, hb', hc1', hc2', hd'⟩ := (below_ints hz' hbel).pair hkn HN.out
      obtain ⟨rfl, rfl⟩ : p = p' ∧ q = q' := by rw [hd] at hd'; exact ⟨(List.cons.inj hd').1, (List.cons.inj (List.cons.inj hd').2).1⟩
      have HB := Lib.hid hbel
      clear hbel hd hd'
      go_wp2
      go_quiet (fail)
      go_wp2
      go_roundw
      case rel => exact ⟨k + 1, by omega, by go_num, below_drewN HB.out _⟩
      case measure => simp only [intOf]; omega
    · have HB := Lib.hid hbel
      clear hbel
      go_wp2
      go_ret
      exact ⟨rfl, HB.out⟩

theorem qMod_neg (r m : Int) (r0 : 0 ≤ r) (r1 : r < m) (m1 : m ≤ 2000000000) (w : World) :
    Calls Try.prog 54 #[.int .i64 (-r), .int .i64 m] w fun e w' => e = .returned (.int .i64 ((m - r) % m)) ∧ w = w' := by
  have hm : m ≠ 0 := by omega
  have h1 : (-r).tmod m = -r := by rw [Int.neg_tmod, Int.tmod_eq_of_lt r0 r1]
  have h4 : IntKind.i64.wrap ((-r).tmod m) = -r := by rw [h1, IntKind.wrap_i64]; omega
  have h2 : IntKind.i64.wrap (-r + m) = m - r := by rw [IntKind.wrap_i64]; omega
  have h3 : (m - r).tmod m = (m - r) % m := Int.tmod_eq_emod_of_nonneg (by omega)
  have hr : 0 ≤ (m - r) % m ∧ (m - r) % m < m := ⟨Int.emod_nonneg _ hm, Int.emod_lt_of_pos _ (by omega)⟩
  have h5 : IntKind.i64.wrap ((m - r) % m) = (m - r) % m := by rw [IntKind.wrap_i64]; omega
  have h6 : IntKind.i64.wrap (-r) = -r := by rw [IntKind.wrap_i64]; omega
  clear hr r0 r1 m1
  go_enter Try.func54, Try.ntmps54
  go_wp2
  go_ret
  simp [*]

theorem neg_q (m r : Int) : (m - r) % m = -r % m := by rw [show m - r = -r + m by omega, Int.add_emod_right]
theorem qMod_back (r m : Int) (r0 : 0 ≤ r) (r1 : r < m) (m1 : m ≤ 2000000000) (w : World) :
    Calls Try.prog 54 #[.int .i64 (-r), .int .i64 m] w fun e w' => e = .returned (.int .i64 (-r % m)) ∧ w = w' := by
  have h := qMod_neg r m r0 r1 m1 w
  rwa [neg_q] at h

/-- One place of a list of ciphertexts and coins: re-encrypted there and back. -/
theorem re_step {P Q G key p q r : Int} {zs es : List Int} {k : Nat} (h : raB P Q G key zs es = true) (hd : zs.drop (k * 2) = p :: q :: zs.drop ((k + 1) * 2)) (he : es.drop k = r :: es.drop (k + 1)) :
    (0 ≤ r ∧ r < Q ∧ Q ≤ 2000000000) ∧ (reB P Q G key p q r = true ∧ rrA P Q G key p q r = reA P G p r ∧ rrM P Q G key p q r = reM P key q r) ∧
      (reB P Q G key (reA P G p r) (reM P key q r) ((Q - r) % Q) = true ∧ rrA P Q G key (reA P G p r) (reM P key q r) ((Q - r) % Q) = p ∧ rrM P Q G key (reA P G p r) (reM P key q r) ((Q - r) % Q) = q) ∧
      (raV P Q G key zs es).drop (k * 2) = reA P G p r :: reM P key q r :: (raV P Q G key zs es).drop ((k + 1) * 2) := by
  have hv : raV P Q G key zs es = flatRe P G key zs es := by simp [raV, h]
  have h0 := h
  simp only [raB, csB, Bool.and_eq_true] at h0
  obtain ⟨⟨⟨⟨hg, hk⟩, _, hc⟩, _⟩, ha⟩ := h0
  have hb := goodB_true.1 hg
  have hp : elB P Q p = true := List.all_eq_true.1 hc p (List.mem_of_mem_drop (i := k * 2) (by rw [hd]; simp))
  have hq : elB P Q q = true := List.all_eq_true.1 hc q (List.mem_of_mem_drop (i := k * 2) (by rw [hd]; simp))
  have hr := inB_true.1 (List.all_eq_true.1 ha r (List.mem_of_mem_drop (i := k) (by rw [he]; simp)))
  have hr0 : 0 ≤ r ∧ r < Q := by omega
  have hn : 0 ≤ (Q - r) % Q ∧ (Q - r) % Q < Q := ⟨Int.emod_nonneg _ (by omega), Int.emod_lt_of_pos _ (by omega)⟩
  have hre := re_el hg hk hp hq hr0.1
  have mk : ∀ x y s : Int, elB P Q x = true → elB P Q y = true → 0 ≤ s → s < Q → reB P Q G key x y s = true := fun x y s hx hy s0 s1 => by
    simp only [reB, cipB, Bool.and_eq_true]
    exact ⟨encB_true.2 ⟨⟨⟨hg, hk⟩, one_el hg⟩, exB_true.2 ⟨s0, s1⟩⟩, hx, hy⟩
  have h1 := mk p q r hp hq hr0.1 hr0.2
  have h2 := mk _ _ _ hre.1 hre.2 hn.1 hn.2
  refine ⟨⟨hr0.1, hr0.2, by omega⟩, ⟨h1, rr_on h1⟩, ⟨h2, ?_, ?_⟩, ?_⟩
  · rw [(rr_on h2).1]; exact re_back hg (good_el hg) hp hr0
  · rw [(rr_on h2).2]; exact re_back hg hk hq hr0
  · rw [hv, flatRe_drop, hd, he, flatRe_drop]; rfl
/-- As the walk's simp writes it. -/
theorem re_stepN {P Q G key p q r : Int} {zs es : List Int} {k : Nat} (h : raB P Q G key zs es = true) (hd : zs.drop (k * 2) = p :: q :: zs.drop ((k + 1) * 2)) (he : es.drop k = r :: es.drop (k + 1)) :
    (0 ≤ r ∧ r < Q ∧ Q ≤ 2000000000) ∧ (reB P Q G key p q r = true ∧ rrA P Q G key p q r = reA P G p r ∧ rrM P Q G key p q r = reM P key q r) ∧
      (reB P Q G key (reA P G p r) (reM P key q r) (-r % Q) = true ∧ rrA P Q G key (reA P G p r) (reM P key q r) (-r % Q) = p ∧ rrM P Q G key (reA P G p r) (reM P key q r) (-r % Q) = q) ∧
      (raV P Q G key zs es).drop (k * 2) = reA P G p r :: reM P key q r :: (raV P Q G key zs es).drop ((k + 1) * 2) := by
  have h0 := re_step h hd he
  rwa [neg_q] at h0
/-- Cells that a law reads, in a block that lies below. -/
def D1 (w : World) (b o : Nat) (p : Int) : Prop := w.cell? ⟨b, o, none⟩ = some (.int .i64 p) ∧ b < w.heap.size
theorem D1.below {w w' : World} {b o : Nat} {p : Int} (h : D1 w b o p) (hb : Below w.heap.size w w') : D1 w' b o p := ⟨by rw [hb.cell (p := ⟨b, o, none⟩) h.2]; exact h.1, Nat.lt_of_lt_of_le h.2 hb.size⟩
theorem vary_g {w w' : World} {b : Nat} {P Q G : Int} {t : TypeId} (h : GR w b P Q G) (hb : Below (w.alloc (.cells #[.int .i64 0, .int .i64 0] t)).drew.heap.size (w.alloc (.cells #[.int .i64 0, .int .i64 0] t)).drew w') : VarY w' w.heap.size b := ⟨C2.below (w := (w.alloc (.cells #[.int .i64 0, .int .i64 0] t)).drew) (c2_new w 0 0 t) hb, h.lt⟩
theorem vary_g2 {w w' : World} {b : Nat} {P Q G : Int} {t : TypeId} (h : GR w b P Q G) (hb : Below (w.drew.alloc (.cells #[.int .i64 0, .int .i64 0] t)).heap.size (w.drew.alloc (.cells #[.int .i64 0, .int .i64 0] t)) w') : VarY w' w.drew.heap.size b := ⟨(c2_new w.drew 0 0 t).below hb, h.lt⟩
theorem set_up {w W : World} (h : Below w.heap.size w W) (b : Nat) (hb : w.heap.size ≤ b) (u v : Value) : Below w.heap.size w ((W.setCell ⟨b, 0, none⟩ u).setCell ⟨b, 1, none⟩ v) := set_below h b hb u v
theorem ra_lens {P Q G key : Int} {zs es : List Int} {n m o : Nat} (h : raB P Q G key zs es = true) (hz : zs.length = n * 2) (he : es.length = m) (ho : (raV P Q G key zs es).length = o * 2) : m = n ∧ o = n := by
  have hv : raV P Q G key zs es = flatRe P G key zs es := by simp [raV, h]
  rw [hv] at ho
  simp only [raB, Bool.and_eq_true, decide_eq_true_eq] at h
  have hl := h.1.2
  rw [flatRe_length P G key es zs hl] at ho
  omega
theorem ra_bound (P Q G key : Int) (zs es : List Int) : (raV P Q G key zs es).length ≤ 48 := by
  unfold raV
  split
  · rename_i h
    simp only [raB, csB, Bool.and_eq_true, decide_eq_true_eq] at h
    rw [flatRe_length P G key es zs h.1.2]
    exact h.1.1.2.1
  · simp

end Go.Proofs.Ytafoenoilcgjdaa

