/- Chapter 7 and 10, the program: the draft of a proof of one of several, and its completion for a claim. -/
import Derived.Test.YtfjaohmildkeoaaRngA
import Derived.Test.YtfjaohmildkeoaaSigM
import Derived.Deep.AppendLies
import Derived.Deep.RegionHeld3
namespace Go.Proofs.Ytfjaohmildkeoaa
open Go.RowKit
set_option linter.unusedVariables false
set_option linter.unusedSimpArgs false

/-! ### Two rows that grow by turns, in a box of three -/
def DApart (va vb : Option Addr) : Prop := ∀ a b, va = some a → vb = some b → a.block ≠ b.block
theorem DApart.symm {va vb : Option Addr} (h : DApart va vb) : DApart vb va := fun a b h1 h2 => (h b a h2 h1).symm
theorem dapart_ne {va vb : Option Addr} {n c : Nat} (h : DApart va vb) : ∀ a', vb = some a' → some a'.block ≠ (Value.slice va n c).ownBlock := by
  intro a' ha' he
  cases va with
  | none => simp [Value.ownBlock] at he
  | some a =>
    simp only [Value.ownBlock, Option.some.injEq] at he
    exact h a a' rfl ha' he.symm
theorem dapart_new {va vb : Option Addr} {n c g H : Nat} (h : DApart va vb) (hat : (Value.slice va n c).ownBlock = some g ∨ g = H) (hb : ∀ a', vb = some a' → a'.block < H) : DApart (some ⟨g, 0, none⟩) vb := by
  rintro a a' ⟨⟩ ha'
  rcases hat with hat | rfl
  · cases va with
    | none => simp [Value.ownBlock] at hat
    | some a =>
      simp only [Value.ownBlock, Option.some.injEq] at hat
      show g ≠ a'.block
      rw [← hat]; exact h a a' rfl ha'
  · have := hb a' ha'
    show g ≠ a'.block
    omega
theorem down_lt {w : World} {base n cap m : Nat} {ad : Option Addr} {e : TypeId} {size : Nat} {xs : List Value} (h : w.ownsRow base e size (.slice ad n cap) m xs) : ∀ a, ad = some a → base ≤ a.block ∧ a.block < w.heap.size := by
  rintro a rfl
  exact h.lt a.block rfl
/-- The draft's box d, its rows, the answer's box. -/
def DrS (w0 w : World) (va vb : Option Addr) (n m ca cb : Nat) (hs zs : List Int) : Prop :=
  B3 w w0.heap.size (.slice none 0 0) (.slice none 0 0) (.slice none 0 0) ∧ B3 w (w0.heap.size + 1) (.slice none 0 0) (.slice va n ca) (.slice vb m cb) ∧ (w.ownsRow (w0.heap.size + 2) 3 1 (.slice va n ca) n (hs.map (Value.int .i64)) ∧ w.ownsRow (w0.heap.size + 2) 3 1 (.slice vb m cb) m (zs.map (Value.int .i64))) ∧ DApart va vb ∧ Below w0.heap.size w0 w
theorem DrS.mid {w0 w w5 : World} {o : Obj} {va vb : Option Addr} {n m ca cb : Nat} {hs zs : List Int} (h : DrS w0 w va vb n m ca cb hs zs) {r : Option Nat} (hr : ∀ k, r = some k → w0.heap.size + 2 ≤ k) (hg : (w.alloc o).grownBy w5 r) :
    B3 w5 w0.heap.size (.slice none 0 0) (.slice none 0 0) (.slice none 0 0) ∧ B3 w5 (w0.heap.size + 1) (.slice none 0 0) (.slice va n ca) (.slice vb m cb) ∧ Below w0.heap.size w0 w5 := by
  have hal := ba w o
  have hk : ∀ b, b < w0.heap.size + 2 → b < w.heap.size → w5.heap[b]? = w.heap[b]? := fun b h1 h2 => by
    have h3 := hal.size
    rw [hg.block b (by omega) (fun e => by have := hr b e.symm; omega), hal.block b h2]
  have k1 := h.1.lt
  have k2 := h.2.1.lt
  have hs5 : w.heap.size ≤ w5.heap.size := Nat.le_trans hal.size hg.size
  have mv : ∀ {b : Nat} {x y z : Value}, b < w0.heap.size + 2 → B3 w b x y z → B3 w5 b x y z := fun {b x y z} hb hB => by
    have hl := hB.lt
    have hbk := hk b hb hl
    refine ⟨?_, ?_, ?_, fun i => ?_⟩
    · rw [World.cell?_of_block (a := ⟨b, 0, none⟩) hbk]; exact hB.1
    · rw [World.cell?_of_block (a := ⟨b, 1, none⟩) hbk]; exact hB.2.1
    · rw [World.cell?_of_block (a := ⟨b, 2, none⟩) hbk]; exact hB.2.2.1
    · rw [World.frozen?_of_block (a := ⟨b, i, none⟩) hbk]; exact hB.2.2.2 i
  refine ⟨mv (by omega) h.1, mv (by omega) h.2.1, ⟨hg.os.trans (hal.os.trans h.2.2.2.2.os), hg.tape.trans (hal.tape.trans h.2.2.2.2.tape), hg.output.trans (hal.output.trans h.2.2.2.2.output), Nat.le_trans h.2.2.2.2.size hs5, fun b hb => ?_⟩⟩
  rw [hk b (by omega) (by have := h.2.2.2.2.size; omega)]
  exact h.2.2.2.2.block b hb
theorem DrS.push1 {w0 w w5 : World} {o : Obj} {va vb : Option Addr} {n m ca cb g c : Nat} {hs zs : List Int} {x : Int} (h : DrS w0 w va vb n m ca cb hs zs) (hown : w5.ownsRow (w0.heap.size + 2) 3 1 (.slice (some ⟨g, 0, none⟩) (n + 1) c) (n + 1) (hs.map (Value.int .i64) ++ [.int .i64 x])) (hg : (w.alloc o).grownBy w5 (Value.slice va n ca).ownBlock) (hat : (Value.slice va n ca).ownBlock = some g ∨ g = (w.alloc o).heap.size) :
    DrS w0 (w5.setCell ⟨w0.heap.size + 1, 1, none⟩ (.slice (some ⟨g, 0, none⟩) (n + 1) c)) (some ⟨g, 0, none⟩) vb (n + 1) m c cb (hs ++ [x]) zs := by
  obtain ⟨h1, h2, h3⟩ := h.mid (fun k hk => (h.2.2.1.1.lt k hk).1) hg
  have gg := (hown.lt g rfl).1
  have hgs := grown_cell w5 ⟨w0.heap.size + 1, 1, none⟩ (.slice (some ⟨g, 0, none⟩) (n + 1) c)
  have hvb : w5.ownsRow (w0.heap.size + 2) 3 1 (.slice vb m cb) m (zs.map (Value.int .i64)) := own_ne (h.2.2.1.2.alloc o) hg (dapart_ne h.2.2.2.1)
  refine ⟨h1.other _ _ (by simp), h2.set1 _, ⟨?_, ?_⟩, dapart_new h.2.2.2.1 hat (fun a' ha' => ?_), h3.trans ((mid_cell w5 (w0.heap.size + 1) 1 _).toBelow (by omega) h3.size)⟩
  · rw [List.map_append]
    exact own_ne hown hgs (by rintro a ⟨⟩; simp; omega)
  · exact own_ne hvb hgs (fun a ha => by have := (down_lt h.2.2.1.2 a ha).1; simp; omega)
  · have := (down_lt h.2.2.1.2 a' ha').2
    have h9 := (ba w o).size
    omega
theorem DrS.push2 {w0 w w5 : World} {o : Obj} {va vb : Option Addr} {n m ca cb g c : Nat} {hs zs : List Int} {x : Int} (h : DrS w0 w va vb n m ca cb hs zs) (hown : w5.ownsRow (w0.heap.size + 2) 3 1 (.slice (some ⟨g, 0, none⟩) (m + 1) c) (m + 1) (zs.map (Value.int .i64) ++ [.int .i64 x])) (hg : (w.alloc o).grownBy w5 (Value.slice vb m cb).ownBlock) (hat : (Value.slice vb m cb).ownBlock = some g ∨ g = (w.alloc o).heap.size) :
    DrS w0 (w5.setCell ⟨w0.heap.size + 1, 2, none⟩ (.slice (some ⟨g, 0, none⟩) (m + 1) c)) va (some ⟨g, 0, none⟩) n (m + 1) ca c hs (zs ++ [x]) := by
  obtain ⟨h1, h2, h3⟩ := h.mid (fun k hk => (h.2.2.1.2.lt k hk).1) hg
  have gg := (hown.lt g rfl).1
  have hgs := grown_cell w5 ⟨w0.heap.size + 1, 2, none⟩ (.slice (some ⟨g, 0, none⟩) (m + 1) c)
  have hva : w5.ownsRow (w0.heap.size + 2) 3 1 (.slice va n ca) n (hs.map (Value.int .i64)) := own_ne (h.2.2.1.1.alloc o) hg (dapart_ne h.2.2.2.1.symm)
  refine ⟨h1.other _ _ (by simp), h2.set2 _, ⟨?_, ?_⟩, (dapart_new h.2.2.2.1.symm hat (fun a' ha' => ?_)).symm, h3.trans ((mid_cell w5 (w0.heap.size + 1) 2 _).toBelow (by omega) h3.size)⟩
  · exact own_ne hva hgs (fun a ha => by have := (down_lt h.2.2.1.1 a ha).1; simp; omega)
  · rw [List.map_append]
    exact own_ne hown hgs (by rintro a ⟨⟩; simp; omega)
  · have := (down_lt h.2.2.1.1 a' ha').2
    have h9 := (ba w o).size
    omega

/-! ### What is still to be drafted -/
theorem dr_own {which i m : Nat} {w : Int} {rem : List Int} (h : i = which) : drH which i (m + 1) rem = 0 :: drH which (i + 1) m rem ∧ drZ which w i (m + 1) rem = w :: drZ which w (i + 1) m rem := by
  subst h; simp [drH, drZ]
theorem dr_other {which i m : Nat} {w c z : Int} {r : List Int} (h : ¬ i = which) : drH which i (m + 1) (c :: z :: r) = c :: drH which (i + 1) m r ∧ drZ which w i (m + 1) (c :: z :: r) = z :: drZ which w (i + 1) m r := by
  simp [drH, drZ, h]
theorem last_at {rem : List Int} {L : Nat} (h : rem.length = L + 1) {z : Int} (hz : rem.drop L = z :: rem.drop (L + 1)) : lastC rem = z := by
  unfold lastC
  rw [List.getLastD_eq_getLast?, ← List.take_append_drop L rem, hz, List.drop_of_length_le (by omega)]
  simp
theorem three_list {l : List Int} (h : 3 ≤ l.length) : ∃ a b r, l = a :: b :: r ∧ 1 ≤ r.length := by
  match l, h with
  | a :: b :: r, h => exact ⟨a, b, r, rfl, by simp at h; omega⟩
theorem last_tail {a b : Int} {r : List Int} (h : 1 ≤ r.length) : lastC (a :: b :: r) = lastC r := by
  unfold lastC
  match r, h with
  | c :: r, _ => simp [List.getLastD_cons]

set_option maxRecDepth 100000 in
set_option maxHeartbeats 6400000 in
theorem completeClmW_any (P Q G : Int) (hg : goodB P Q G = true) (s : ByteArray) (hs : s.size ≤ 40) {u1 u2 : Value} {ps : List LinD} {es : List Int} {QC PC QX PX base gh ch gr cr x2 : Nat} {x1 : Option Addr} {dh dr xs : List Int} {which : Nat} (hok : (St.clm ps es).ok P Q = true) {w : World} (hu : KP QC PC (fun w' => InL w' u1 ps ∧ ∃ B, InI B w' u2 es) w) (hCs : (PC ≤ gh ∨ gh + 1 ≤ QC) ∧ (PC ≤ gr ∨ gr + 1 ≤ QC)) (hH : OwI gh (gh + 1) w (.slice (some ⟨gh, 0, none⟩) dh.length ch) dh) (hR : OwI gr (gr + 1) w (.slice (some ⟨gr, 0, none⟩) dr.length cr) dr) (hgn : gh ≠ gr ∧ base ≤ gh ∧ base ≤ gr ∧ gh < w.heap.size ∧ gr < w.heap.size) (hX : KP QX PX (fun w' => IsInts w' x1 xs) w) (hXs : (PX ≤ gh ∨ gh + 1 ≤ QX) ∧ (PX ≤ gr ∨ gr + 1 ≤ QX)) (hXb : xs ≠ [] → ∀ a, x1 = some a → some a.block ≠ some gr)
    (hdh : dh.length = (St.clm ps es).parts.length) (hdr : dr.length = nCols (St.clm ps es).parts) (hdi : allIn dh 0 (Q - 1) = true) (hri : allIn dr 0 (Q - 1) = true) (hxi : allIn xs 0 (Q - 1) = true) (hx1 : xs.length = 1) (hwl : which < dh.length) (hwr : which < dr.length) :
    Calls Try.prog 145 #[gv P Q G, .string s, .iface 124 (.agg #[u1, u2]), pv3 none 0 0 (some ⟨gh, 0, none⟩) dh.length ch (some ⟨gr, 0, none⟩) dr.length cr, .int .i64 (which : Int), .slice x1 xs.length x2] w (AnsQ base w (cplP P Q G s (St.clm ps es) dh dr which xs) true) := by
  have hu0 : InL w u1 ps ∧ ∃ B, InI B w u2 es := hu.out
  obtain ⟨⟨y1, y2, rfl, _⟩, _, hu2⟩ := hu0
  obtain ⟨z1, z2, rfl⟩ := hu2.shape
  clear hu2
  obtain ⟨f1, f9, f5, f6, f7, f8⟩ := clm_facts hok
  have hm2 : ∀ (k : Nat) (W : World), (method (k + 1) 124 (.agg #[.slice (some ⟨y1, 0, none⟩) ps.length y2, .slice z1 es.length z2]) "loop.example/g00878/impl.parts").run Try.prog W = .ok (223, (.agg #[.slice (some ⟨y1, 0, none⟩) ps.length y2, .slice z1 es.length z2])) W := fun _ _ => by kernel_rfl
  have hfr := f7.1.rows (St.clm ps es).parts.length (Nat.le_refl _)
  rw [List.take_length] at hfr
  have h8 := f7.1.1
  obtain ⟨hhl, hrl⟩ : dh.length ≤ 8 ∧ dr.length ≤ 64 := by omega
  have hdi0 := all_ex hdi
  obtain ⟨cm, hcm⟩ : ∃ cm, cmts P Q (St.clm ps es).parts dh dr = cm := ⟨_, rfl⟩
  have hcme : allEl P Q cm = true := hcm ▸ cmts_el hg _ _ _ (fun p hp => ⟨fun r hr => ((f7.2 p hp).1 r hr).2, (f7.2 p hp).2.2⟩) (fun e he => (hdi0 e he).1) hri
  have hcml : cm.length ≤ 64 := by have h9 := cmts_len (P := P) (Q := Q) (St.clm ps es).parts dh dr (fun q hq => (f7.1.2 q hq).2.1); rw [hcm] at h9; omega
  have hch : chB P Q G s ((St.clm ps es).els ++ cm) 3 = true := ch_ok2 hg hs (by rw [List.length_append]; omega) f6 hcme
  have hq := (good_rng hg).2.1
  obtain ⟨c, hc⟩ : ∃ c, missV P Q G s (St.clm ps es) cm dh = c := ⟨_, rfl⟩
  have hcr : 0 ≤ c ∧ c < Q := by
    rw [← hc]; unfold missV
    exact subF_rng (Q := Q) (e := 0) (by omega) ⟨by omega, by omega⟩ dh _ (chX_rng (by omega))
  have hcp : cplP P Q G s (St.clm ps es) dh dr which xs = ⟨cm, dh.set which c, dr.take (which * xs.length) ++ sxpy Q (dr.drop (which * xs.length)) c xs⟩ := by unfold cplP; simp only [hcm, hc]
  have hms := (msV_on (ch := dh) hch).trans hc
  rw [hcp]
  have HX1 := Lib.hid hx1
  rw [hx1, Nat.mul_one]
  clear hx1
  have HCM := Lib.hid hcm
  have HCH := Lib.hid hch
  have HMS := Lib.hid hms
  have HG := Lib.hid hg
  have F7 := Lib.hid f7
  have HDI := Lib.hid hdi
  have HDI0 := Lib.hid hdi0
  have HRI := Lib.hid hri
  have HRI0 := Lib.hid (all_ex hri)
  have HXI := Lib.hid (all_ex hxi)
  have HDH := Lib.hid hdh
  have HDR := Lib.hid hdr
  obtain ⟨hgne, hgb, hrb, hgw, hrw⟩ := hgn
  have hPX := hX.1
  have hPC := hu.1
  have HXB := Lib.hid hXb
  clear hXb
  clear hcm hch hms hg f6 f7 hdi hdi0 hri hxi hcme hc hcp hfr hok hdh hdr
  have G_0 := Lib.hid (((gr_new w P Q G 24).below (ba _ (.cells #[.slice none 0 0, .slice (some ⟨gh, 0, none⟩) dh.length ch, .slice (some ⟨gr, 0, none⟩) dr.length cr] 49))).below (ba _ (.cells #[.slice none 0 0, .slice none 0 0, .slice none 0 0] 49)))
  have hv := (b3_new (w.alloc (.cells #[.int .i64 P, .int .i64 Q, .int .i64 G] 24)) (.slice none 0 0) (.slice (some ⟨gh, 0, none⟩) dh.length ch) (.slice (some ⟨gr, 0, none⟩) dr.length cr) 49).below (ba _ (.cells #[.slice none 0 0, .slice none 0 0, .slice none 0 0] 49))
  rw [show (w.alloc (.cells #[.int .i64 P, .int .i64 Q, .int .i64 G] 24)).heap.size = w.heap.size + 1 by simp] at hv
  have V_0 := Lib.hid hv
  have hz := b3_new ((w.alloc (.cells #[.int .i64 P, .int .i64 Q, .int .i64 G] 24)).alloc (.cells #[.slice none 0 0, .slice (some ⟨gh, 0, none⟩) dh.length ch, .slice (some ⟨gr, 0, none⟩) dr.length cr] 49)) (.slice none 0 0) (.slice none 0 0) (.slice none 0 0) 49
  rw [show ((w.alloc (.cells #[.int .i64 P, .int .i64 Q, .int .i64 G] 24)).alloc (.cells #[.slice none 0 0, .slice (some ⟨gh, 0, none⟩) dh.length ch, .slice (some ⟨gr, 0, none⟩) dr.length cr] 49)).heap.size = w.heap.size + 2 by simp] at hz
  have Z_0 := Lib.hid hz
  have HB_0 := Lib.hid (bt (bt (ba w (.cells #[.int .i64 P, .int .i64 Q, .int .i64 G] 24)) (ba _ (.cells #[.slice none 0 0, .slice (some ⟨gh, 0, none⟩) dh.length ch, .slice (some ⟨gr, 0, none⟩) dr.length cr] 49))) (ba _ (.cells #[.slice none 0 0, .slice none 0 0, .slice none 0 0] 49)))
  have H_0 := Lib.hid (hH.below HB_0.out)
  have R_0 := Lib.hid (hR.below HB_0.out)
  have X_0 := Lib.hid (hX.below HB_0.out)
  have M1_0 := Lib.hid (hu.below HB_0.out)
  clear hv hz hH hR hX hu
  obtain ⟨W, hW⟩ : ∃ W, ((w.alloc (.cells #[.int .i64 P, .int .i64 Q, .int .i64 G] 24)).alloc (.cells #[.slice none 0 0, .slice (some ⟨gh, 0, none⟩) dh.length ch, .slice (some ⟨gr, 0, none⟩) dr.length cr] 49)).alloc (.cells #[.slice none 0 0, .slice none 0 0, .slice none 0 0] 49) = W := ⟨_, rfl⟩
  rw [hW] at HB_0 G_0 V_0 Z_0 H_0 R_0 X_0 M1_0
  have PP_0 := Lib.hid (show InP W.heap.size W (pv3 none 0 0 (some ⟨gh, 0, none⟩) dh.length ch (some ⟨gr, 0, none⟩) dr.length cr) ⟨[], dh, dr⟩ from ⟨_, _, _, rfl, InI.of (.inl rfl) (fun _ => rfl) (Nat.le_refl _), H_0.out.toIn.wide (by have := HB_0.out.size; omega) (Nat.le_refl _), R_0.out.toIn.wide (by have := HB_0.out.size; omega) (Nat.le_refl _)⟩)
  obtain ⟨g0, g1, g2⟩ := G_0.out
  obtain ⟨p0, p1, p2, pf⟩ := V_0.out
  go_enter Try.func145, Try.ntmps145
  go_wp2_with fail
  clear hW
  refine wpK_begin (n := 6) (S := (fun w' => (w'.cell? ⟨w.heap.size, 0, none⟩ = some (.int .i64 P) ∧ w'.cell? ⟨w.heap.size, 1, none⟩ = some (.int .i64 Q) ∧ w'.cell? ⟨w.heap.size, 2, none⟩ = some (.int .i64 G)) ∧ w'.cell? ⟨w.heap.size + 1, 0, none⟩ = some (.slice none 0 0) ∧ w'.cell? ⟨w.heap.size + 1, 1, none⟩ = some (.slice (some ⟨gh, 0, none⟩) dh.length ch) ∧ w'.cell? ⟨w.heap.size + 1, 2, none⟩ = some (.slice (some ⟨gr, 0, none⟩) dr.length cr))) (by kernel_rfl) ?_
  refine wpK_take (i := 0) (v := ?_) rfl (by kernel_rfl) (by kernel_rfl) (by kernel_rfl) (by kernel_rfl) (fun _ _ _ h => h) (Or.inl ⟨by kernel_rfl, ?_⟩) (show _ from ⟨⟨G_0.out.1, G_0.out.2.1, G_0.out.2.2⟩, V_0.out.1, V_0.out.2.1, V_0.out.2.2.1⟩) ?_
  rotate_left 1
  · intro w9 hSw
    (try dsimp only at hSw)
    go_simp
    (try with_reducible rfl)
  (try simp only [Act.put, List.getElem_toArray, List.getElem_cons_succ, List.getElem_cons_zero, List.setIfInBounds_toArray, List.set_cons_zero, List.set_cons_succ])
  refine wpK_take (i := 1) (v := ?_) rfl (by kernel_rfl) (by kernel_rfl) (by kernel_rfl) (by kernel_rfl) (fun _ _ _ h => h) (Or.inl ⟨by kernel_rfl, ?_⟩) (show _ from ⟨⟨G_0.out.1, G_0.out.2.1, G_0.out.2.2⟩, V_0.out.1, V_0.out.2.1, V_0.out.2.2.1⟩) ?_
  rotate_left 1
  · intro w9 hSw
    (try dsimp only at hSw)
    go_simp
    (try with_reducible rfl)
  (try simp only [Act.put, List.getElem_toArray, List.getElem_cons_succ, List.getElem_cons_zero, List.setIfInBounds_toArray, List.set_cons_zero, List.set_cons_succ])
  refine wpK_take (i := 3) (v := ?_) rfl (by kernel_rfl) (by kernel_rfl) (by kernel_rfl) (by kernel_rfl) (fun _ _ _ h => h) (Or.inl ⟨by kernel_rfl, ?_⟩) (show _ from ⟨⟨G_0.out.1, G_0.out.2.1, G_0.out.2.2⟩, V_0.out.1, V_0.out.2.1, V_0.out.2.2.1⟩) ?_
  rotate_left 1
  · intro w9 hSw
    (try dsimp only at hSw)
    go_simp
    (try with_reducible rfl)
  (try simp only [Act.put, List.getElem_toArray, List.getElem_cons_succ, List.getElem_cons_zero, List.setIfInBounds_toArray, List.set_cons_zero, List.set_cons_succ])
  refine wpK_one (i := 2) (by kernel_rfl) rfl ?_
  intro K' hK
  go_simp
  go_at_call 223
  refine (clmParts_any M1_0.out.drew.out.1 M1_0.out.drew.out.2.choose_spec).mono ?_
  rintro e vp ⟨rp, rfl, hL, hb0⟩
  obtain ⟨lg, lc, rfl, _⟩ := id hL
  have hb : Below W.heap.size W vp := bt ((Below.refl _ W).drew) hb0
  clear hb0
  have HB_p := Lib.hid (bt HB_0.out hb)
  have G_p := Lib.hid (G_0.out.below hb)
  have V_p := Lib.hid (V_0.out.below hb)
  have Z_p := Lib.hid (Z_0.out.below hb)
  have H_p := Lib.hid (H_0.out.below hb)
  have R_p := Lib.hid (R_0.out.below hb)
  have X_p := Lib.hid (X_0.out.below hb)
  have PP_p := Lib.hid (PP_0.out.below hb)
  have M1_p := Lib.hid (M1_0.out.below hb)
  clear hb
  have L_p := Lib.hid hL
  clear hL
  go_wp2_with fail
  refine hK.out _ _ (fun _ => ⟨⟨G_p.out.1, G_p.out.2.1, G_p.out.2.2⟩, V_p.out.1, V_p.out.2.1, V_p.out.2.2.1⟩) ?_
  clear hK K'
  (try simp only [Act.put, List.getElem_toArray, List.getElem_cons_succ, List.getElem_cons_zero, List.setIfInBounds_toArray, List.set_cons_zero, List.set_cons_succ])
  refine wpK_one (i := 4) (by kernel_rfl) rfl ?_
  intro K' hK
  go_simp
  go_at_call 173
  refine (commitsOf_any P Q G HG.out F7.out f8 HDH.out HDR.out HDI.out HRI.out L_p.out PP_p.out).mono ?_
  rw [HCM.out]
  rintro e vq ⟨rc, rfl, ho, hb⟩
  obtain ⟨rca, rcc, rfl⟩ := ho.toIn.shape
  have HB_q := Lib.hid (bt HB_p.out hb)
  have G_q := Lib.hid (G_p.out.below hb)
  have V_q := Lib.hid (V_p.out.below hb)
  have Z_q := Lib.hid (Z_p.out.below hb)
  have H_q := Lib.hid (H_p.out.below hb)
  have R_q := Lib.hid (R_p.out.below hb)
  have X_q := Lib.hid (X_p.out.below hb)
  have PP_q := Lib.hid (PP_p.out.below hb)
  have M1_q := Lib.hid (M1_p.out.below hb)
  clear hb
  have C_q := Lib.hid ho
  clear ho
  go_wp2_with fail
  refine hK.out _ _ (fun _ => ⟨⟨G_q.out.1, G_q.out.2.1, G_q.out.2.2⟩, V_q.out.1, V_q.out.2.1, V_q.out.2.2.1⟩) ?_
  clear hK K'
  (try simp only [Act.put, List.getElem_toArray, List.getElem_cons_succ, List.getElem_cons_zero, List.setIfInBounds_toArray, List.set_cons_zero, List.set_cons_succ])
  refine wpK_take (i := 5) (v := ?_) rfl (by kernel_rfl) (by kernel_rfl) (by kernel_rfl) (by kernel_rfl) (fun _ _ _ h => h) (Or.inl ⟨by kernel_rfl, ?_⟩) ⟨⟨G_q.out.1, G_q.out.2.1, G_q.out.2.2⟩, V_q.out.1, V_q.out.2.1, V_q.out.2.2.1⟩ ?_
  rotate_left 1
  · intro w9 hSw
    (try dsimp only at hSw)
    go_simp
    (try with_reducible rfl)
  (try simp only [Act.put, List.getElem_toArray, List.getElem_cons_succ, List.getElem_cons_zero, List.setIfInBounds_toArray, List.set_cons_zero, List.set_cons_succ])
  refine wpK_one (i := 6) (by kernel_rfl) rfl ?_
  intro K' hK
  obtain ⟨u0, u1, u2, uf⟩ := V_q.out
  have uf0 := uf 0
  clear uf
  go_simp
  refine hK.out _ _ (fun h => absurd rfl h) ?_
  clear hK K'
  (try simp only [Act.put, List.getElem_toArray, List.getElem_cons_succ, List.getElem_cons_zero, List.setIfInBounds_toArray, List.set_cons_zero, List.set_cons_succ])
  refine wpK_done (by kernel_rfl) ?_ _
  have hwq : w.heap.size + 2 < vq.heap.size := Z_q.out.lt
  have hm : Mid (w.heap.size + 1) (w.heap.size + 1 + 1) vq (vq.setCell ⟨w.heap.size + 1, 0, none⟩ (.slice rca cm.length rcc)) := mid_cell _ _ _ _
  have V_r := Lib.hid (V_q.out.set0 (.slice rca cm.length rcc))
  have G_r := Lib.hid (G_q.out.mid hm (.inl (by omega)))
  have Z_r := Lib.hid (Z_q.out.mid hm (.inr (by omega)))
  have H_r := Lib.hid (H_q.out.mid hm (.inl (by omega)))
  have R_r := Lib.hid (R_q.out.mid hm (.inl (by omega)))
  have X_r := Lib.hid (X_q.out.mid hm (by omega))
  have C_r := Lib.hid (C_q.out.mid hm (.inr (by have := Z_p.out.lt; omega)))
  have HB_r := Lib.hid (HB_q.out.trans (hm.toBelow (by omega) (by omega)))
  have M1_r := Lib.hid (M1_q.out.mid hm (by omega))
  have hcs := C_r.out.2.2.1
  generalize hX2 : vq.setCell ⟨w.heap.size + 1, 0, none⟩ (.slice rca cm.length rcc) = vr at *
  have PP_r := Lib.hid (show InP vr.heap.size vr (pv3 rca cm.length rcc (some ⟨gh, 0, none⟩) dh.length ch (some ⟨gr, 0, none⟩) dr.length cr) ⟨cm, dh, dr⟩ from ⟨_, _, _, rfl, C_r.out.toIn.wide hcs (Nat.le_refl _), H_r.out.toIn.wide H_r.out.2.2.1 (Nat.le_refl _), R_r.out.toIn.wide R_r.out.2.2.1 (Nat.le_refl _)⟩)
  clear hm g0 g1 g2 p0 p1 p2 pf
  obtain ⟨g0, g1, g2⟩ := G_r.out
  obtain ⟨p0, p1, p2, pf⟩ := V_r.out
  go_wp2_with fail
  refine (msClm_any P Q G HG.out s (by omega) f1 f9 (p := ⟨cm, dh, dr⟩) (by unfold PrD.n; simp only []; omega) HDI0.out M1_r.out.out.1 M1_r.out.out.2.choose_spec PP_r.out).mono ?_
  rw [HMS.out, HCH.out]
  rintro e vs ⟨rfl, hb⟩
  have HB_s := Lib.hid (HB_r.out.trans (hb.mono HB_r.out.size))
  have G_s := Lib.hid (G_r.out.below hb)
  have V_s := Lib.hid (V_r.out.below hb)
  have Z_s := Lib.hid (Z_r.out.below hb)
  have H_s := Lib.hid (H_r.out.below hb)
  have R_s := Lib.hid (R_r.out.below hb)
  have X_s := Lib.hid (X_r.out.below hb)
  have C_s := Lib.hid (C_r.out.below hb)
  have M1_s := Lib.hid (M1_r.out.below hb)
  have hws := Z_s.out.lt
  have hcss := C_s.out.2.2.1
  clear hb g0 g1 g2 p0 p1 p2 pf
  obtain ⟨g0, g1, g2⟩ := G_s.out
  obtain ⟨p0, p1, p2, pf⟩ := V_s.out
  have hwd : which < dh.length := hwl
  obtain ⟨hc0, hf0⟩ := sown_at H_s.out.1 (j := which) hwd (z := dh[which]) (by simp [hwd])
  have hwi : (which : Int) < (dh.length : Int) := by omega
  have hcap := own_cap R_s.out.1
  have hcz : ¬ cr = which := by have := HDR.out; have := HDH.out; omega
  go_wp2_with fail
  have hm : Mid gh (gh + 1) vs (vs.setCell ⟨gh, which, none⟩ (.int .i64 c)) := mid_cell _ _ _ _
  have G_t := Lib.hid (G_s.out.mid hm (.inr (by omega)))
  have V_t := Lib.hid (V_s.out.mid hm (.inr (by omega)))
  have Z_t := Lib.hid (Z_s.out.mid hm (.inr (by omega)))
  have H_t := Lib.hid (H_s.out.put (j := which) c)
  have R_t := Lib.hid (R_s.out.mid hm (by omega))
  have X_t := Lib.hid (X_s.out.mid hm (by omega))
  have C_t := Lib.hid (C_s.out.mid hm (.inr (by have := HB_p.out.size; omega)))
  have HB_t := Lib.hid ((HB_s.out.mono (show base ≤ w.heap.size by omega)).trans (hm.toBelow (by omega) (by have := HB_s.out.size; omega)))
  clear g0 g1 g2 p0 p1 p2 pf hc0 hf0
  obtain ⟨g0, g1, g2⟩ := G_t.out
  obtain ⟨p0, p1, p2, pf⟩ := V_t.out
  have hst := hm.size
  generalize hX3 : vs.setCell ⟨gh, which, none⟩ (.int .i64 c) = vt at *
  clear hm
  have hw0 : IntKind.i64.wrap (which : Int) = (which : Int) := by rw [IntKind.wrap_i64]; omega
  have hw1 : IntKind.i64.wrap ((which : Int) * 1) = (which : Int) := by rw [Int.mul_one]; exact hw0
  have hb0 : (0 : Int) ≤ (which : Int) := by omega
  have hb1 : (which : Int) ≤ (dr.length : Int) := by omega
  have htest := saddMultiple_any Q c gr gr which (dr.length - which) (cr - which) dr.length cr dr x1 1 x2 xs hq.1 hq.2 hcr.1 hcr.2 HRI0.out HXI.out HX1.out (by omega) (by omega) (by omega) vt.drew R_t.out.1 X_t.out.out HXB.out
  have HT := Lib.hid htest
  clear htest
  go_region_held3 (fun w' => (w'.cell? ⟨w.heap.size, 0, none⟩ = some (.int .i64 P) ∧ w'.cell? ⟨w.heap.size, 1, none⟩ = some (.int .i64 Q) ∧ w'.cell? ⟨w.heap.size, 2, none⟩ = some (.int .i64 G)) ∧ w'.cell? ⟨w.heap.size + 1, 0, none⟩ = some (.slice rca cm.length rcc) ∧ w'.cell? ⟨w.heap.size + 1, 1, none⟩ = some (.slice (some ⟨gh, 0, none⟩) dh.length ch) ∧ w'.cell? ⟨w.heap.size + 1, 2, none⟩ = some (.slice (some ⟨gr, 0, none⟩) dr.length cr)) (first | with_reducible exact ⟨⟨s0, s1, s2⟩, t0, t1, t2⟩ | exact ⟨⟨g0, g1, g2⟩, p0, p1, p2⟩) ((first
    | (go_at_call 80; refine HT.out.mono ?_; rintro e vu ⟨⟨ev, rfl⟩, hown, hgrow⟩; have hm2' : Mid gr (gr + 1) vt vu := (Mid.ofBelow ((Below.refl _ vt).drew)).trans (mid_grow hgrow); have HO := Lib.hid hown; have HMU := Lib.hid hm2'; obtain ⟨s0, s1, s2⟩ := G_t.out.mid hm2' (.inr (by omega)); obtain ⟨t0, t1, t2, _⟩ := V_t.out.mid hm2' (.inr (by omega)); clear hown hgrow hm2')
    | fail))
  all_goals (
    have hm4 := HMU.out
    have V_u := Lib.hid (V_t.out.mid hm4 (.inr (by omega)))
    have Z_u := Lib.hid (Z_t.out.mid hm4 (.inr (by omega)))
    have H_u := Lib.hid (H_t.out.mid hm4 (by omega))
    have R_u := Lib.hid (R_t.out.same HO.out (by first | (simp [sxpy_length]; done) | (simp [sxpy_length]; omega)) hm4)
    have C_u := Lib.hid (C_t.out.mid hm4 (.inr (by have := HB_p.out.size; omega)))
    have HB_u := Lib.hid (HB_t.out.trans (hm4.toBelow (by omega) (by have := HB_t.out.size; omega)))
    clear hm4
    obtain ⟨q0, q1, q2, _⟩ := V_u.out
    obtain ⟨y0, y1, y2, yf⟩ := Z_u.out
    have yf0 := yf 0
    have yf1 := yf 1
    have yf2 := yf 2
    clear yf
    have hlu := Z_u.out.lt
    go_wp2
    (try simp only [Exit.inBlock, Exit.then])
    refine bodyPost_ret (v := .tuple #[pv3 rca cm.length rcc (some ⟨gh, 0, none⟩) dh.length ch (some ⟨gr, 0, none⟩) dr.length cr, .bool true]) ?_ rfl ?_
    · rw [results_cell_tmp rfl]; go_simp
    · have hm5 := mid3 vu (w.heap.size + 2) (.slice rca cm.length rcc) (.slice (some ⟨gh, 0, none⟩) dh.length ch) (.slice (some ⟨gr, 0, none⟩) dr.length cr)
      have h1 := H_u.out.mid hm5 (.inl (by omega))
      have h2 := R_u.out.mid hm5 (.inl (by omega))
      have h3 := C_u.out.mid hm5 (.inr (by have := HB_p.out.size; have := Z_p.out.lt; omega))
      rw [List.length_set] at h1
      rw [show (dr.take which ++ sxpy Q (dr.drop which) c xs).length = dr.length by first | (simp [sxpy_length]; done) | (simp [sxpy_length]; omega)] at h2
      exact ⟨_, _, _, rfl, ⟨_, _, _, gh, gh + 1, gr, gr + 1, w.heap.size, _, rfl, h1, h2, h3.wide HB_p.out.size h3.2.2.1 (Nat.le_refl _), ⟨⟨hgb, Nat.le_trans h1.2.2.1 (Nat.le_refl _)⟩, ⟨hrb, h2.2.2.1⟩, ⟨by omega, Nat.le_refl _⟩, Nat.le_refl _⟩, by omega, by omega, by omega⟩, HB_u.out.trans (hm5.toBelow (by omega) (by have := HB_u.out.size; omega))⟩)

end Go.Proofs.Ytfjaohmildkeoaa

/- Chapter 7, the program: the draft of a proof of one of several. -/
namespace Go.Proofs.Ytfjaohmildkeoaa
open Go.RowKit
set_option linter.unusedVariables false
set_option linter.unusedSimpArgs false

def DrOut (w : World) (n : Nat) (dh dr : List Int) (e : Ending) (w' : World) : Prop := ∃ gh ch gr cr, e = .returned (pv3 none 0 0 (some ⟨gh, 0, none⟩) n ch (some ⟨gr, 0, none⟩) n cr) ∧ OwI gh (gh + 1) w' (.slice (some ⟨gh, 0, none⟩) n ch) dh ∧ OwI gr (gr + 1) w' (.slice (some ⟨gr, 0, none⟩) n cr) dr ∧ (gh ≠ gr ∧ w.heap.size ≤ gh ∧ w.heap.size ≤ gr ∧ gh < w'.heap.size ∧ gr < w'.heap.size) ∧ Below w.heap.size w w'
theorem ow_exact {w : World} {base g n c : Nat} {zs : List Int} (hl : zs.length = n) (h : w.ownsRow base 3 1 (.slice (some ⟨g, 0, none⟩) n c) n (zs.map (Value.int .i64))) : OwI g (g + 1) w (.slice (some ⟨g, 0, none⟩) n c) zs := by
  subst hl
  exact ⟨own_rebase h (fun q hq => by simp only [Value.ownBlock, Option.some.injEq] at hq; omega), fun q hq => by simp only [Value.ownBlock, Option.some.injEq] at hq; omega, (h.lt g rfl).2, Nat.le_succ g⟩
theorem row_some' {w : World} {B n vc : Nat} {va : Option Addr} {xs : List Value} (h : w.ownsRow B 3 1 (.slice va n vc) n xs) (h0 : 0 < n) : ∃ r, va = some ⟨r, 0, none⟩ := by
  rcases h.2 with ⟨_, hn⟩ | ⟨g, cap, cur, he, _⟩
  · omega
  · simp only [Value.slice.injEq] at he
    exact ⟨g, he.1⟩
theorem DrS.drew {w0 w : World} {va vb : Option Addr} {n m ca cb : Nat} {hs zs : List Int} (h : DrS w0 w va vb n m ca cb hs zs) : DrS w0 w.drew va vb n m ca cb hs zs := ⟨h.1, h.2.1, h.2.2.1, h.2.2.2.1, h.2.2.2.2.drew⟩

set_option maxRecDepth 100000 in
set_option maxHeartbeats 6400000 in
theorem draftOneOf_any (n which : Nat) (cs : List Int) {cb co cc : Nat} (hw : which < n) (hn : n ≤ 8) (hc : cs.length + 1 = 2 * n) (hcap : cs.length ≤ cc) {w : World} (hz : IsInts w (some ⟨cb, co, none⟩) cs) :
    Calls Try.prog 146 #[.int .i64 (n : Int), .int .i64 (which : Int), .slice (some ⟨cb, co, none⟩) cs.length cc] w (DrOut w n (drH which 0 n cs) (drZ which (lastC cs) 0 n cs)) := by
  obtain ⟨L0, hL0⟩ : ∃ L, cs.length = L + 1 := ⟨cs.length - 1, by omega⟩
  rw [hL0]
  have HZ := Lib.hid hz
  have HL := Lib.hid hc
  have HCP := Lib.hid (show L0 + 1 ≤ cc by omega)
  have HL0 := Lib.hid hL0
  have HWN := Lib.hid (And.intro hw hn)
  obtain ⟨i0, hi0, hz0, hz1, hz2⟩ := info_parts Try.info3
  clear hz hc hcap hL0
  have A0 := Lib.hid ((b3_new w (.slice none 0 0) (.slice none 0 0) (.slice none 0 0) 49).below (ba _ (.cells #[.slice none 0 0, .slice none 0 0, .slice none 0 0] 49)))
  have hb1 := b3_new (w.alloc (.cells #[.slice none 0 0, .slice none 0 0, .slice none 0 0] 49)) (.slice none 0 0) (.slice none 0 0) (.slice none 0 0) 49
  rw [show (w.alloc (.cells #[.slice none 0 0, .slice none 0 0, .slice none 0 0] 49)).heap.size = w.heap.size + 1 by simp] at hb1
  have A1 := Lib.hid hb1
  have HB_0 := Lib.hid (bt (ba w (.cells #[.slice none 0 0, .slice none 0 0, .slice none 0 0] 49)) (ba _ (.cells #[.slice none 0 0, .slice none 0 0, .slice none 0 0] 49)))
  clear hb1
  go_enter Try.func146, Try.ntmps146
  go_wp2_with fail
  go_loopw [2, 8, 9, 10, 12] (fun C _ _ _ K wr => ∃ (i L : Nat) (rem hs zs : List Int) (o c : Nat) (va vb : Option Addr) (ca cb' : Nat), i ≤ n ∧ K = .int .i64 (i : Nat) ∧ C = .slice (some ⟨cb, o, none⟩) (L + 1) c ∧ (rem.length = L + 1 ∧ L + 1 ≤ c) ∧ (hs ++ drH which i (n - i) rem = drH which 0 n cs ∧ zs ++ drZ which (lastC cs) i (n - i) rem = drZ which (lastC cs) 0 n cs) ∧ (hs.length = i ∧ zs.length = i) ∧ L = needC which i (n - i) ∧ lastC rem = lastC cs ∧ IsInts w (some ⟨cb, o, none⟩) rem ∧ DrS w wr va vb i i ca cb' hs zs) (fun _ _ _ _ K _ => n - (intOf K).toNat)
  case atStart => exact ⟨0, L0, cs, [], [], co, cc, none, none, 0, 0, by omega, rfl, rfl, ⟨HL0.out, HCP.out⟩, ⟨by simp, by simp⟩, ⟨rfl, rfl⟩, by unfold needC; have := HL.out; have := HL0.out; split <;> omega, rfl, HZ.out, ⟨A0.out, A1.out, ⟨World.ownsRow_nil _ _ _ _, World.ownsRow_nil _ _ _ _⟩, (fun a b h => by cases h), HB_0.out⟩⟩
  case round =>
    obtain ⟨i, L, rem, hs, zs, o, c, va, vb, ca, cb', hi, rfl, rfl, ⟨hrl, hcap⟩, ⟨e1, e2⟩, ⟨l1, l2⟩, hrn, hlast, hrem, hS⟩ := hrel
    have hwn := HWN.out
    by_cases hin : i < n
    · have hii : (i : Int) < (n : Int) := by omega
      obtain ⟨m, hm⟩ : ∃ m, n - i = m + 1 := ⟨n - i - 1, by omega⟩
      have hm1 : n - (i + 1) = m := by omega
      rw [hm] at e1 e2 hrn
      have hL16 : L ≤ 16 := by rw [hrn]; unfold needC; split <;> omega
      obtain ⟨b9, o9, z, hadr, hbl, hcell, hdrop⟩ := hrem.at (k := L) (by omega)
      cases hadr
      obtain rfl : z = lastC cs := by rw [← hlast]; exact (last_at hrl hdrop).symm
      have hcw := cellUp hS.2.2.2.2 hcell
      by_cases hwi : i = which
      · have hq : ((i : Int) == (which : Int)) = true := by subst hwi; simp
        have hq2 : ((i : Int) != (which : Int)) = false := by subst hwi; simp
        obtain ⟨d1, d2⟩ := dr_own (m := m) (w := lastC cs) (rem := rem) hwi
        rw [d1] at e1
        rw [d2] at e2
        have EE := Lib.hid (And.intro e1 e2)
        have LL := Lib.hid (And.intro l1 l2)
        have HNX := Lib.hid (show L = needC which (i + 1) m by rw [hrn]; unfold needC; subst hwi; rw [if_pos (by omega), if_neg (by omega)]; omega)
        have HRM := Lib.hid hrem
        have HLS := Lib.hid hlast
        have HRL := Lib.hid hrl
        have HM1 := Lib.hid hm1
        have HS := Lib.hid hS.drew
        have hwr : IntKind.i64.wrap (((L + 1 : Nat) : Int) - 1) = (L : Int) := by rw [IntKind.wrap_i64]; omega
        have hwr2 : IntKind.i64.wrap (L : Int) = (L : Int) := by rw [IntKind.wrap_i64]; omega
        have hw0 : (0 : Int) ≤ (L : Int) := by omega
        have hw1 : (L : Int) < (L : Int) + 1 := by omega
        clear e1 e2 l1 l2 hrn hrem hlast hrl hS hwi d1 d2 hdrop hcell hbl hm hm1
        go_wp2_with fail
        refine wp_region_held_drew (S := (fun w' => w'.cell? ⟨cb, o + L, none⟩ = some (.int .i64 (lastC cs)))) (by kernel_rfl) (show _ from hcw) (fun hHeld => ?_)
        refine wpAnyH_take (i := 0) (v := ?_) rfl (by kernel_rfl) (by kernel_rfl) (by kernel_rfl) (fun _ _ _ h => h) (Or.inl ⟨by kernel_rfl, ?_⟩) (by assumption) ?_
        rotate_left 1
        · intro w9 hSw
          try dsimp only at hSw
          go_simp
          try with_reducible rfl
        try simp only [Act.put, List.getElem_toArray, List.getElem_cons_succ, List.getElem_cons_zero, List.setIfInBounds_toArray, List.set_cons_zero, List.set_cons_succ]
        refine wpAnyH_take (i := 1) (v := ?_) rfl (by kernel_rfl) (by kernel_rfl) (by kernel_rfl) (fun _ _ _ h => h) (Or.inl ⟨by kernel_rfl, ?_⟩) (by assumption) ?_
        rotate_left 1
        · intro w9 hSw
          try dsimp only at hSw
          go_simp
          try with_reducible rfl
        try simp only [Act.put, List.getElem_toArray, List.getElem_cons_succ, List.getElem_cons_zero, List.setIfInBounds_toArray, List.set_cons_zero, List.set_cons_succ]
        refine wpAnyH_take (i := 2) (v := ?_) rfl (by kernel_rfl) (by kernel_rfl) (by kernel_rfl) (fun _ _ _ h => h) (Or.inl ⟨by kernel_rfl, ?_⟩) (by assumption) ?_
        rotate_left 1
        · intro w9 hSw
          try dsimp only at hSw
          go_simp
          try with_reducible rfl
        try simp only [Act.put, List.getElem_toArray, List.getElem_cons_succ, List.getElem_cons_zero, List.setIfInBounds_toArray, List.set_cons_zero, List.set_cons_succ]
        refine wpAnyH_take (i := 3) (v := ?_) rfl (by kernel_rfl) (by kernel_rfl) (by kernel_rfl) (fun _ _ _ h => h) (Or.inl ⟨by kernel_rfl, ?_⟩) (by assumption) ?_
        rotate_left 1
        · intro w9 hSw
          try dsimp only at hSw
          go_simp
          try with_reducible rfl
        try simp only [Act.put, List.getElem_toArray, List.getElem_cons_succ, List.getElem_cons_zero, List.setIfInBounds_toArray, List.set_cons_zero, List.set_cons_succ]
        refine wpAnyH_take (i := 4) (v := ?_) rfl (by kernel_rfl) (by kernel_rfl) (by kernel_rfl) (fun _ _ _ h => h) (Or.inl ⟨by kernel_rfl, ?_⟩) (by assumption) ?_
        rotate_left 1
        · intro w9 hSw
          try dsimp only at hSw
          go_simp
          try with_reducible rfl
        try simp only [Act.put, List.getElem_toArray, List.getElem_cons_succ, List.getElem_cons_zero, List.setIfInBounds_toArray, List.set_cons_zero, List.set_cons_succ]
        refine wpAnyH_take (i := 5) (v := ?_) rfl (by kernel_rfl) (by kernel_rfl) (by kernel_rfl) (fun _ _ _ h => h) (Or.inl ⟨by kernel_rfl, ?_⟩) (by assumption) ?_
        rotate_left 1
        · intro w9 hSw
          try dsimp only at hSw
          go_simp
          try with_reducible rfl
        try simp only [Act.put, List.getElem_toArray, List.getElem_cons_succ, List.getElem_cons_zero, List.setIfInBounds_toArray, List.set_cons_zero, List.set_cons_succ]
        refine wpAnyH_take (i := 6) (v := ?_) rfl (by kernel_rfl) (by kernel_rfl) (by kernel_rfl) (fun _ _ _ h => h) (Or.inl ⟨by kernel_rfl, ?_⟩) (by assumption) ?_
        rotate_left 1
        · intro w9 hSw
          try dsimp only at hSw
          go_simp
          try with_reducible rfl
        try simp only [Act.put, List.getElem_toArray, List.getElem_cons_succ, List.getElem_cons_zero, List.setIfInBounds_toArray, List.set_cons_zero, List.set_cons_succ]
        refine wpAnyH_take (i := 7) (v := ?_) rfl (by kernel_rfl) (by kernel_rfl) (by kernel_rfl) (fun _ _ _ h => h) (Or.inl ⟨by kernel_rfl, ?_⟩) (by assumption) ?_
        rotate_left 1
        · intro w9 hSw
          try dsimp only at hSw
          go_simp
          try with_reducible rfl
        try simp only [Act.put, List.getElem_toArray, List.getElem_cons_succ, List.getElem_cons_zero, List.setIfInBounds_toArray, List.set_cons_zero, List.set_cons_succ]
        refine wpAnyH_done (by kernel_rfl) ?_ _
        clear hwr hwr2 hcw
        generalize hW9 : wr.drew = w3 at *
        clear hW9
        obtain ⟨q0, q1, q2, _⟩ := HS.out.2.1
        go_wp2_with (first
          | (at_builtin
             refine wpList_append_lies _ rfl _ _ 25 rfl (w.heap.size + 2) 3 i0 (.int .i64 0) 1 8 Try.underlying25 hi0 hz0 hz1 hz2 rfl (by decide) _ _ _ rfl (SN1.out.2.2.1.2.alloc _) ⟨w5.heap.size, 0, none⟩ 1 1 [.int .i64 (lastC cs)] rfl rfl (fun j u h => by rw [show w5.heap.size = (w5.setCell ⟨w.heap.size + 1, 1, none⟩ (.slice (some ⟨g1, 0, none⟩) (i + 1) c1)).heap.size by simp]; exact cell_one_new _ _ _ j u h) (ints_oneCell .i64 [(lastC cs)]) (by decide) (by unfold maxLen; omega) (by omega) (by have := SN1.out.2.1.lt; simp at this ⊢; omega) ((w5.setCell ⟨w.heap.size + 1, 1, none⟩ (.slice (some ⟨g1, 0, none⟩) (i + 1) c1)).heap.size + 1) (by simp) ?_
             intro g2 c2 w7 hown2 hgr2 hat2 hlt2
             have hx2 : ((w5.setCell ⟨w.heap.size + 1, 1, none⟩ (.slice (some ⟨g1, 0, none⟩) (i + 1) c1)).alloc (.cells #[.int .i64 (lastC cs)] 3)).heap.size = (w5.setCell ⟨w.heap.size + 1, 1, none⟩ (.slice (some ⟨g1, 0, none⟩) (i + 1) c1)).heap.size + 1 := by simp
             have SN2 := Lib.hid (DrS.push2 (x := (lastC cs)) SN1.out hown2 hgr2 (by rw [hx2]; exact hat2))
             obtain ⟨_, ⟨y20, y21, y22, yf⟩, _⟩ := SN1.out.mid (fun k hk => (SN1.out.2.2.1.2.lt k hk).1) hgr2
             have yf2 := yf 2
             obtain ⟨s20, s21, s22, _⟩ := SN2.out.2.1
             clear yf hown2 hgr2 hat2 hlt2 hx2)
          | (at_builtin
             refine wpList_append_lies _ rfl _ _ 25 rfl (w.heap.size + 2) 3 i0 (.int .i64 0) 1 8 Try.underlying25 hi0 hz0 hz1 hz2 rfl (by decide) _ _ _ rfl (HS.out.2.2.1.1.alloc _) ⟨w3.heap.size, 0, none⟩ 1 1 [.int .i64 0] rfl rfl (cell_one_new _ _ _) (ints_oneCell .i64 [0]) (by decide) (by unfold maxLen; omega) (by omega) (by have := HS.out.2.1.lt; simp at this ⊢; omega) ((w3).heap.size + 1) (by simp) ?_
             intro g1 c1 w5 hown1 hgr1 hat1 hlt1
             have hx1 : ((w3).alloc (.cells #[.int .i64 0] 3)).heap.size = (w3).heap.size + 1 := by simp
             have SN1 := Lib.hid (DrS.push1 (x := 0) HS.out hown1 hgr1 (by rw [hx1]; exact hat1))
             obtain ⟨_, ⟨y10, y11, y12, yf⟩, _⟩ := HS.out.mid (fun k hk => (HS.out.2.2.1.1.lt k hk).1) hgr1
             have yf1 := yf 1
             obtain ⟨s10, s11, s12, _⟩ := SN1.out.2.1
             clear yf hown1 hgr1 hat1 hlt1 hx1))
        go_roundw
        case rel => exact ⟨i + 1, L, rem, hs ++ [0], zs ++ [lastC cs], o, c, _, _, c1, c2, by omega, by go_num, rfl, ⟨HRL.out, hcap⟩, ⟨by rw [HM1.out, List.append_assoc]; exact EE.out.1, by rw [HM1.out, List.append_assoc]; exact EE.out.2⟩, ⟨by rw [List.length_append, LL.out.1]; rfl, by rw [List.length_append, LL.out.2]; rfl⟩, by rw [HM1.out]; exact HNX.out, HLS.out, HRM.out, SN2.out⟩
        case measure => simp only [intOf]; omega
      · have hq : ((i : Int) == (which : Int)) = false := by simp only [beq_eq_false_iff_ne, ne_eq]; omega
        have hq2 : ((i : Int) != (which : Int)) = true := by simp only [bne_iff_ne, ne_eq]; omega
        have h2L : 2 ≤ L := by rw [hrn]; unfold needC; split <;> omega
        obtain ⟨a, b, r, rfl, hr1⟩ := three_list (l := rem) (by omega)
        obtain ⟨L', hLL⟩ : ∃ k, L = k + 2 := ⟨L - 2, by omega⟩
        obtain ⟨d1, d2⟩ := dr_other (m := m) (w := lastC cs) (c := a) (z := b) (r := r) hwi
        rw [d1] at e1
        rw [d2] at e2
        have EE := Lib.hid (And.intro e1 e2)
        have LL := Lib.hid (And.intro l1 l2)
        have HNX := Lib.hid (show L' = needC which (i + 1) m by
          have h9 := hrn
          rw [hLL] at h9
          unfold needC at h9 ⊢
          split at h9
          · rw [if_pos (by omega)]; omega
          · rw [if_neg (by omega)]; omega)
        obtain ⟨b1, o1, z1, hd1, _, hc1, hx1⟩ := hrem.at (k := 0) (by simp)
        cases hd1
        obtain rfl : z1 = a := by simpa using (List.cons.inj hx1).1.symm
        obtain ⟨b2, o2, z2, hd2, _, hc2, hx2⟩ := hrem.at (k := 1) (by simp)
        cases hd2
        obtain rfl : z2 = b := by simpa using (List.cons.inj hx2).1.symm
        have hcx1 : wr.cell? ⟨cb, o, none⟩ = some (.int .i64 z1) := cellUp hS.2.2.2.2 hc1
        have hcx2 : wr.cell? ⟨cb, o + 1, none⟩ = some (.int .i64 z2) := cellUp hS.2.2.2.2 hc2
        have HCX := Lib.hid (And.intro hcx1 hcx2)
        have HRM := Lib.hid (show IsInts w (some ⟨cb, o + 2, none⟩) r from hrem.tail 2)
        have HLS := Lib.hid (show lastC r = lastC cs by rw [← hlast]; exact (last_tail hr1).symm)
        have HRL := Lib.hid (show r.length = L' + 1 by simp at hrl; omega)
        have HM1 := Lib.hid hm1
        have HS := Lib.hid hS.drew.drew
        have HLL := Lib.hid hLL
        have hwr : IntKind.i64.wrap (((L + 1 : Nat) : Int) - 1) = (L : Int) := by rw [IntKind.wrap_i64]; omega
        have hwr2 : IntKind.i64.wrap (L : Int) = (L : Int) := by rw [IntKind.wrap_i64]; omega
        have hw0 : (0 : Int) ≤ (L : Int) := by omega
        have hw1 : (L : Int) < (L : Int) + 1 := by omega
        have hc2' : ¬ c = 2 := by omega
        clear e1 e2 l1 l2 hrn hrem hlast hrl hS hwi d1 d2 hdrop hcell hbl hm hm1 hc1 hc2 hx1 hx2 hcx1 hcx2 h2L hL16 hLL
        go_wp2_with fail
        refine wp_region_held_drew (S := (fun w' => w'.cell? ⟨cb, o + L, none⟩ = some (.int .i64 (lastC cs)))) (by kernel_rfl) (show _ from hcw) (fun hHeld => ?_)
        refine wpAnyH_take (i := 0) (v := ?_) rfl (by kernel_rfl) (by kernel_rfl) (by kernel_rfl) (fun _ _ _ h => h) (Or.inl ⟨by kernel_rfl, ?_⟩) (by assumption) ?_
        rotate_left 1
        · intro w9 hSw
          try dsimp only at hSw
          go_simp
          try with_reducible rfl
        try simp only [Act.put, List.getElem_toArray, List.getElem_cons_succ, List.getElem_cons_zero, List.setIfInBounds_toArray, List.set_cons_zero, List.set_cons_succ]
        refine wpAnyH_take (i := 1) (v := ?_) rfl (by kernel_rfl) (by kernel_rfl) (by kernel_rfl) (fun _ _ _ h => h) (Or.inl ⟨by kernel_rfl, ?_⟩) (by assumption) ?_
        rotate_left 1
        · intro w9 hSw
          try dsimp only at hSw
          go_simp
          try with_reducible rfl
        try simp only [Act.put, List.getElem_toArray, List.getElem_cons_succ, List.getElem_cons_zero, List.setIfInBounds_toArray, List.set_cons_zero, List.set_cons_succ]
        refine wpAnyH_take (i := 2) (v := ?_) rfl (by kernel_rfl) (by kernel_rfl) (by kernel_rfl) (fun _ _ _ h => h) (Or.inl ⟨by kernel_rfl, ?_⟩) (by assumption) ?_
        rotate_left 1
        · intro w9 hSw
          try dsimp only at hSw
          go_simp
          try with_reducible rfl
        try simp only [Act.put, List.getElem_toArray, List.getElem_cons_succ, List.getElem_cons_zero, List.setIfInBounds_toArray, List.set_cons_zero, List.set_cons_succ]
        refine wpAnyH_take (i := 3) (v := ?_) rfl (by kernel_rfl) (by kernel_rfl) (by kernel_rfl) (fun _ _ _ h => h) (Or.inl ⟨by kernel_rfl, ?_⟩) (by assumption) ?_
        rotate_left 1
        · intro w9 hSw
          try dsimp only at hSw
          go_simp
          try with_reducible rfl
        try simp only [Act.put, List.getElem_toArray, List.getElem_cons_succ, List.getElem_cons_zero, List.setIfInBounds_toArray, List.set_cons_zero, List.set_cons_succ]
        refine wpAnyH_take (i := 4) (v := ?_) rfl (by kernel_rfl) (by kernel_rfl) (by kernel_rfl) (fun _ _ _ h => h) (Or.inl ⟨by kernel_rfl, ?_⟩) (by assumption) ?_
        rotate_left 1
        · intro w9 hSw
          try dsimp only at hSw
          go_simp
          try with_reducible rfl
        try simp only [Act.put, List.getElem_toArray, List.getElem_cons_succ, List.getElem_cons_zero, List.setIfInBounds_toArray, List.set_cons_zero, List.set_cons_succ]
        refine wpAnyH_take (i := 5) (v := ?_) rfl (by kernel_rfl) (by kernel_rfl) (by kernel_rfl) (fun _ _ _ h => h) (Or.inl ⟨by kernel_rfl, ?_⟩) (by assumption) ?_
        rotate_left 1
        · intro w9 hSw
          try dsimp only at hSw
          go_simp
          try with_reducible rfl
        try simp only [Act.put, List.getElem_toArray, List.getElem_cons_succ, List.getElem_cons_zero, List.setIfInBounds_toArray, List.set_cons_zero, List.set_cons_succ]
        refine wpAnyH_take (i := 6) (v := ?_) rfl (by kernel_rfl) (by kernel_rfl) (by kernel_rfl) (fun _ _ _ h => h) (Or.inl ⟨by kernel_rfl, ?_⟩) (by assumption) ?_
        rotate_left 1
        · intro w9 hSw
          try dsimp only at hSw
          go_simp
          try with_reducible rfl
        try simp only [Act.put, List.getElem_toArray, List.getElem_cons_succ, List.getElem_cons_zero, List.setIfInBounds_toArray, List.set_cons_zero, List.set_cons_succ]
        refine wpAnyH_take (i := 7) (v := ?_) rfl (by kernel_rfl) (by kernel_rfl) (by kernel_rfl) (fun _ _ _ h => h) (Or.inl ⟨by kernel_rfl, ?_⟩) (by assumption) ?_
        rotate_left 1
        · intro w9 hSw
          try dsimp only at hSw
          go_simp
          try with_reducible rfl
        try simp only [Act.put, List.getElem_toArray, List.getElem_cons_succ, List.getElem_cons_zero, List.setIfInBounds_toArray, List.set_cons_zero, List.set_cons_succ]
        refine wpAnyH_done (by kernel_rfl) ?_ _
        clear hwr hwr2 hw0 hw1 hcw
        obtain rfl := HLL.out
        have hw2 : (0 : Int) < (L' : Int) + 2 + 1 := by omega
        have hw3 : (1 : Int) < (L' : Int) + 2 + 1 := by omega
        have hw4 : (2 : Int) ≤ (c : Int) := by omega
        have hw5 : (2 : Int) ≤ (L' : Int) + 2 + 1 := by omega
        have hw6 : (L' : Int) + 2 + 1 ≤ (c : Int) := by omega
        obtain ⟨hcx1, hcx2⟩ := HCX.out
        go_wp2_with fail
        refine wp_region_held_drew (S := (fun w' => w'.cell? ⟨cb, o, none⟩ = some (.int .i64 z1) ∧ w'.cell? ⟨cb, o + 1, none⟩ = some (.int .i64 z2))) (by kernel_rfl) (show _ from ⟨hcx1, hcx2⟩) (fun hHeld => ?_)
        refine wpAnyH_take (i := 0) (v := ?_) rfl (by kernel_rfl) (by kernel_rfl) (by kernel_rfl) (fun _ _ _ h => h) (Or.inl ⟨by kernel_rfl, ?_⟩) (by assumption) ?_
        rotate_left 1
        · intro w9 hSw
          try dsimp only at hSw
          go_simp
          try with_reducible rfl
        try simp only [Act.put, List.getElem_toArray, List.getElem_cons_succ, List.getElem_cons_zero, List.setIfInBounds_toArray, List.set_cons_zero, List.set_cons_succ]
        refine wpAnyH_take (i := 1) (v := ?_) rfl (by kernel_rfl) (by kernel_rfl) (by kernel_rfl) (fun _ _ _ h => h) (Or.inl ⟨by kernel_rfl, ?_⟩) (by assumption) ?_
        rotate_left 1
        · intro w9 hSw
          try dsimp only at hSw
          go_simp
          try with_reducible rfl
        try simp only [Act.put, List.getElem_toArray, List.getElem_cons_succ, List.getElem_cons_zero, List.setIfInBounds_toArray, List.set_cons_zero, List.set_cons_succ]
        refine wpAnyH_take (i := 2) (v := ?_) rfl (by kernel_rfl) (by kernel_rfl) (by kernel_rfl) (fun _ _ _ h => h) (Or.inl ⟨by kernel_rfl, ?_⟩) (by assumption) ?_
        rotate_left 1
        · intro w9 hSw
          try dsimp only at hSw
          go_simp
          try with_reducible rfl
        try simp only [Act.put, List.getElem_toArray, List.getElem_cons_succ, List.getElem_cons_zero, List.setIfInBounds_toArray, List.set_cons_zero, List.set_cons_succ]
        refine wpAnyH_take (i := 3) (v := ?_) rfl (by kernel_rfl) (by kernel_rfl) (by kernel_rfl) (fun _ _ _ h => h) (Or.inl ⟨by kernel_rfl, ?_⟩) (by assumption) ?_
        rotate_left 1
        · intro w9 hSw
          try dsimp only at hSw
          go_simp
          try with_reducible rfl
        try simp only [Act.put, List.getElem_toArray, List.getElem_cons_succ, List.getElem_cons_zero, List.setIfInBounds_toArray, List.set_cons_zero, List.set_cons_succ]
        refine wpAnyH_take (i := 4) (v := ?_) rfl (by kernel_rfl) (by kernel_rfl) (by kernel_rfl) (fun _ _ _ h => h) (Or.inl ⟨by kernel_rfl, ?_⟩) (by assumption) ?_
        rotate_left 1
        · intro w9 hSw
          try dsimp only at hSw
          go_simp
          try with_reducible rfl
        try simp only [Act.put, List.getElem_toArray, List.getElem_cons_succ, List.getElem_cons_zero, List.setIfInBounds_toArray, List.set_cons_zero, List.set_cons_succ]
        refine wpAnyH_take (i := 5) (v := ?_) rfl (by kernel_rfl) (by kernel_rfl) (by kernel_rfl) (fun _ _ _ h => h) (Or.inl ⟨by kernel_rfl, ?_⟩) (by assumption) ?_
        rotate_left 1
        · intro w9 hSw
          try dsimp only at hSw
          go_simp
          try with_reducible rfl
        try simp only [Act.put, List.getElem_toArray, List.getElem_cons_succ, List.getElem_cons_zero, List.setIfInBounds_toArray, List.set_cons_zero, List.set_cons_succ]
        refine wpAnyH_take (i := 6) (v := ?_) rfl (by kernel_rfl) (by kernel_rfl) (by kernel_rfl) (fun _ _ _ h => h) (Or.inl ⟨by kernel_rfl, ?_⟩) (by assumption) ?_
        rotate_left 1
        · intro w9 hSw
          try dsimp only at hSw
          go_simp
          try with_reducible rfl
        try simp only [Act.put, List.getElem_toArray, List.getElem_cons_succ, List.getElem_cons_zero, List.setIfInBounds_toArray, List.set_cons_zero, List.set_cons_succ]
        refine wpAnyH_take (i := 7) (v := ?_) rfl (by kernel_rfl) (by kernel_rfl) (by kernel_rfl) (fun _ _ _ h => h) (Or.inl ⟨by kernel_rfl, ?_⟩) (by assumption) ?_
        rotate_left 1
        · intro w9 hSw
          try dsimp only at hSw
          go_simp
          try with_reducible rfl
        try simp only [Act.put, List.getElem_toArray, List.getElem_cons_succ, List.getElem_cons_zero, List.setIfInBounds_toArray, List.set_cons_zero, List.set_cons_succ]
        refine wpAnyH_done (by kernel_rfl) ?_ _
        clear hcx1 hcx2
        generalize hW9 : wr.drew.drew = w3 at *
        clear hW9
        obtain ⟨q0, q1, q2, _⟩ := HS.out.2.1
        go_wp2_with (first
          | (at_builtin
             refine wpList_append_lies _ rfl _ _ 25 rfl (w.heap.size + 2) 3 i0 (.int .i64 0) 1 8 Try.underlying25 hi0 hz0 hz1 hz2 rfl (by decide) _ _ _ rfl (SN1.out.2.2.1.2.alloc _) ⟨w5.heap.size, 0, none⟩ 1 1 [.int .i64 z2] rfl rfl (fun j u h => by rw [show w5.heap.size = (w5.setCell ⟨w.heap.size + 1, 1, none⟩ (.slice (some ⟨g1, 0, none⟩) (i + 1) c1)).heap.size by simp]; exact cell_one_new _ _ _ j u h) (ints_oneCell .i64 [z2]) (by decide) (by unfold maxLen; omega) (by omega) (by have := SN1.out.2.1.lt; simp at this ⊢; omega) ((w5.setCell ⟨w.heap.size + 1, 1, none⟩ (.slice (some ⟨g1, 0, none⟩) (i + 1) c1)).heap.size + 1) (by simp) ?_
             intro g2 c2 w7 hown2 hgr2 hat2 hlt2
             have hx2 : ((w5.setCell ⟨w.heap.size + 1, 1, none⟩ (.slice (some ⟨g1, 0, none⟩) (i + 1) c1)).alloc (.cells #[.int .i64 z2] 3)).heap.size = (w5.setCell ⟨w.heap.size + 1, 1, none⟩ (.slice (some ⟨g1, 0, none⟩) (i + 1) c1)).heap.size + 1 := by simp
             have SN2 := Lib.hid (DrS.push2 (x := z2) SN1.out hown2 hgr2 (by rw [hx2]; exact hat2))
             obtain ⟨_, ⟨y20, y21, y22, yf⟩, _⟩ := SN1.out.mid (fun k hk => (SN1.out.2.2.1.2.lt k hk).1) hgr2
             have yf2 := yf 2
             obtain ⟨s20, s21, s22, _⟩ := SN2.out.2.1
             clear yf hown2 hgr2 hat2 hlt2 hx2)
          | (at_builtin
             refine wpList_append_lies _ rfl _ _ 25 rfl (w.heap.size + 2) 3 i0 (.int .i64 0) 1 8 Try.underlying25 hi0 hz0 hz1 hz2 rfl (by decide) _ _ _ rfl (HS.out.2.2.1.1.alloc _) ⟨w3.heap.size, 0, none⟩ 1 1 [.int .i64 z1] rfl rfl (cell_one_new _ _ _) (ints_oneCell .i64 [z1]) (by decide) (by unfold maxLen; omega) (by omega) (by have := HS.out.2.1.lt; simp at this ⊢; omega) ((w3).heap.size + 1) (by simp) ?_
             intro g1 c1 w5 hown1 hgr1 hat1 hlt1
             have hx1 : ((w3).alloc (.cells #[.int .i64 z1] 3)).heap.size = (w3).heap.size + 1 := by simp
             have SN1 := Lib.hid (DrS.push1 (x := z1) HS.out hown1 hgr1 (by rw [hx1]; exact hat1))
             obtain ⟨_, ⟨y10, y11, y12, yf⟩, _⟩ := HS.out.mid (fun k hk => (HS.out.2.2.1.1.lt k hk).1) hgr1
             have yf1 := yf 1
             obtain ⟨s10, s11, s12, _⟩ := SN1.out.2.1
             clear yf hown1 hgr1 hat1 hlt1 hx1))
        go_roundw
        case rel => exact ⟨i + 1, L', r, hs ++ [z1], zs ++ [z2], o + 2, c - 2, _, _, c1, c2, by omega, by go_num, rfl, ⟨HRL.out, by omega⟩, ⟨by rw [HM1.out, List.append_assoc]; exact EE.out.1, by rw [HM1.out, List.append_assoc]; exact EE.out.2⟩, ⟨by rw [List.length_append, LL.out.1]; rfl, by rw [List.length_append, LL.out.2]; rfl⟩, by rw [HM1.out]; exact HNX.out, HLS.out, HRM.out, SN2.out⟩
        case measure => simp only [intOf]; omega
    · obtain rfl : i = n := by omega
      have hn0 : 0 < i := by omega
      obtain ⟨gh, rfl⟩ := row_some' hS.2.2.1.1 hn0
      obtain ⟨gr, rfl⟩ := row_some' hS.2.2.1.2 hn0
      rw [Nat.sub_self] at e1 e2
      have EE := Lib.hid (show hs = drH which 0 i cs ∧ zs = drZ which (lastC cs) 0 i cs from ⟨by rw [← e1]; simp [drH], by rw [← e2]; simp [drZ]⟩)
      have LL := Lib.hid (And.intro l1 l2)
      have HS := Lib.hid hS
      clear e1 e2 l1 l2 hrem hlast hrl hS hrn
      obtain ⟨q0, q1, q2, _⟩ := HS.out.2.1
      obtain ⟨y0, y1, y2, yf⟩ := HS.out.1
      have yf0 := yf 0
      have yf1 := yf 1
      have yf2 := yf 2
      clear yf
      go_wp2
      (try simp only [Exit.inBlock, Exit.then])
      refine bodyPost_ret (v := pv3 none 0 0 (some ⟨gh, 0, none⟩) i ca (some ⟨gr, 0, none⟩) i cb') ?_ rfl ?_
      · rw [results_cell_one rfl]; go_simp
      · have hm5 := mid3 wr w.heap.size (.slice none 0 0) (.slice (some ⟨gh, 0, none⟩) i ca) (.slice (some ⟨gr, 0, none⟩) i cb')
        have hs5 := hm5.size
        have g1 : w.heap.size + 2 ≤ gh ∧ gh < wr.heap.size := down_lt HS.out.2.2.1.1 _ rfl
        have g2 : w.heap.size + 2 ≤ gr ∧ gr < wr.heap.size := down_lt HS.out.2.2.1.2 _ rfl
        have o1 := (ow_exact LL.out.1 HS.out.2.2.1.1).mid hm5 (.inr (by omega))
        have o2 := (ow_exact LL.out.2 HS.out.2.2.1.2).mid hm5 (.inr (by omega))
        have hne : gh ≠ gr := HS.out.2.2.2.1 _ _ rfl rfl
        rw [EE.out.1] at o1
        rw [EE.out.2] at o2
        exact ⟨gh, ca, gr, cb', rfl, o1, o2, ⟨hne, by omega, by omega, by omega, by omega⟩, HS.out.2.2.2.2.trans (hm5.toBelow (Nat.le_refl _) HS.out.2.2.2.2.size)⟩

end Go.Proofs.Ytfjaohmildkeoaa

/- Chapters 7 and 10, the program: a claim of which one case is true is proved; ProveSum. -/
namespace Go.Proofs.Ytfjaohmildkeoaa
open Go.RowKit
set_option linter.unusedVariables false
set_option linter.unusedSimpArgs false


theorem gr_belowB {w w' : World} {b B : Nat} {P Q G : Int} (h : GR w b P Q G) (hb : Below B w w') (hl : b < B) : GR w' b P Q G := by
  obtain ⟨h0, h1, h2⟩ := h
  exact ⟨by rw [World.cell?_of_block (a := ⟨b, 0, none⟩) (hb.block b hl)]; exact h0, by rw [World.cell?_of_block (a := ⟨b, 1, none⟩) (hb.block b hl)]; exact h1, by rw [World.cell?_of_block (a := ⟨b, 2, none⟩) (hb.block b hl)]; exact h2⟩

set_option maxRecDepth 100000 in
set_option maxHeartbeats 6400000 in
theorem proveCaseClm_any (P Q G : Int) (hg : goodB P Q G = true) (s : ByteArray) (hs : s.size ≤ 40) {u1 u2 : Value} {ps : List LinD} {es : List Int} {QC PC B cc : Nat} {ca : Option Addr} (hok : (St.clm ps es).ok P Q = true) (which : Nat) (x : Int) (cs : List Int) (hx : 0 ≤ x ∧ x < Q) (hw : which < ps.length) (hn : ps.length ≤ 8) (hnc : nCols (St.clm ps es).parts = ps.length) (hc : cs.length + 1 = 2 * ps.length) (hci : allIn cs 0 (Q - 1) = true) {w : World} (hu : KP QC PC (fun w' => InL w' u1 ps ∧ ∃ B, InI B w' u2 es) w) (hcs : InI B w (.slice ca cs.length cc) cs) :
    Calls Try.prog 100 #[gv P Q G, .string s, .iface 124 (.agg #[u1, u2]), .int .i64 (which : Int), .int .i64 x, .slice ca cs.length cc] w (AnsQ w.heap.size w (cplP P Q G s (St.clm ps es) (drH which 0 ps.length cs) (drZ which (lastC cs) 0 ps.length cs) which [x]) true) := by
  obtain ⟨p, hp⟩ : ∃ p, cplP P Q G s (St.clm ps es) (drH which 0 ps.length cs) (drZ which (lastC cs) 0 ps.length cs) which [x] = p := ⟨_, rfl⟩
  rw [hp]
  obtain ⟨cb, co, rfl⟩ : ∃ cb co, ca = some ⟨cb, co, none⟩ := by
    rcases (hcs.ints).1 with h | ⟨b, off, h, _, _⟩
    · exfalso; rw [h] at hc; simp at hc; omega
    · exact ⟨b, off, h⟩
  have hQ : 0 < Q := by omega
  have hu0 : InL w u1 ps ∧ ∃ B, InI B w u2 es := hu.out
  obtain ⟨⟨y1, y2, rfl, _⟩, _, hu2⟩ := hu0
  obtain ⟨z1, z2, rfl⟩ := hu2.shape
  clear hu2
  have hm2 : ∀ (k : Nat) (W : World), (method (k + 1) 124 (.agg #[.slice (some ⟨y1, 0, none⟩) ps.length y2, .slice z1 es.length z2]) "loop.example/g00878/impl.parts").run Try.prog W = .ok (223, (.agg #[.slice (some ⟨y1, 0, none⟩) ps.length y2, .slice z1 es.length z2])) W := fun _ _ => by kernel_rfl
  have hne : needC which 0 ps.length ≤ cs.length := by unfold needC; split <;> omega
  have HP := Lib.hid hp
  have HG := Lib.hid hg
  have HOK := Lib.hid hok
  have hwn := Lib.hid (And.intro hw hn)
  have hcl := Lib.hid hc
  have HNC := Lib.hid hnc
  have HDL := Lib.hid (dr_length which (lastC cs) ps.length 0 cs hne)
  have HDI := Lib.hid (dr_in which (lastC cs) hQ (lastC_in hQ hci) ps.length 0 cs hci)
  have HXI := Lib.hid (show allIn [x] 0 (Q - 1) = true by simp only [allIn, List.all_cons, List.all_nil, Bool.and_true]; exact inB_true.2 ⟨hx.1, by omega⟩)
  have HPC := Lib.hid hu.1
  have G_0 := Lib.hid ((gr_at w w.heap.size rfl P Q G 24).below (ba _ (.cells #[.slice none 0 0, .slice none 0 0, .slice none 0 0] 49)))
  have hv := b3_new (w.alloc (.cells #[.int .i64 P, .int .i64 Q, .int .i64 G] 24)) (.slice none 0 0) (.slice none 0 0) (.slice none 0 0) 49
  rw [show (w.alloc (.cells #[.int .i64 P, .int .i64 Q, .int .i64 G] 24)).heap.size = w.heap.size + 1 by simp] at hv
  have Z_0 := Lib.hid hv
  have HB_0 := Lib.hid (bt (ba w (.cells #[.int .i64 P, .int .i64 Q, .int .i64 G] 24)) (ba _ (.cells #[.slice none 0 0, .slice none 0 0, .slice none 0 0] 49)))
  have KC_0 := Lib.hid (hu.below HB_0.out)
  have CS_0 := Lib.hid (hcs.below HB_0.out)
  clear hp hg hok hw hn hnc hc hci hx hne hv hu hcs hQ
  obtain ⟨gG0, gG1, gG2⟩ := G_0.out
  go_enter Try.func100, Try.ntmps100
  go_wp2_with fail
  clear gG0 gG1 gG2
  generalize hW9 : (w.alloc (.cells #[.int .i64 P, .int .i64 Q, .int .i64 G] 24)).alloc (.cells #[.slice none 0 0, .slice none 0 0, .slice none 0 0] 49) = v0 at *
  clear hW9
  have hbd : Below v0.heap.size v0 v0.drew := (Below.refl _ v0).drew
  have HB_s := Lib.hid (bt HB_0.out hbd)
  have G_s := Lib.hid (G_0.out.below hbd)
  have Z_s := Lib.hid (Z_0.out.below hbd)
  have KC_s := Lib.hid (KC_0.out.below hbd)
  have CS_s := Lib.hid (CS_0.out.below hbd)
  clear hbd
  refine wp_region_held_drew (S := (fun w' => w'.cell? ⟨w.heap.size, 0, none⟩ = some (.int .i64 P) ∧ w'.cell? ⟨w.heap.size, 1, none⟩ = some (.int .i64 Q) ∧ w'.cell? ⟨w.heap.size, 2, none⟩ = some (.int .i64 G))) (by kernel_rfl) (show _ from ⟨G_0.out.1, G_0.out.2.1, G_0.out.2.2⟩) (fun hHeld => ?_)
  generalize hW0 : v0.drew = Ws at *
  clear hW0
  refine wpAnyH_take (i := 0) (v := ?_) rfl (by kernel_rfl) (by kernel_rfl) (by kernel_rfl) (fun _ _ _ h => h) (Or.inl ⟨by kernel_rfl, ?_⟩) (by assumption) ?_
  rotate_left 1
  · intro w9 hSw
    try dsimp only at hSw
    go_simp
    try with_reducible rfl
  try simp only [Act.put, List.getElem_toArray, List.getElem_cons_succ, List.getElem_cons_zero, List.setIfInBounds_toArray, List.set_cons_zero, List.set_cons_succ]
  refine wpAnyH_take (i := 1) (v := ?_) rfl (by kernel_rfl) (by kernel_rfl) (by kernel_rfl) (fun _ _ _ h => h) (Or.inl ⟨by kernel_rfl, ?_⟩) (by assumption) ?_
  rotate_left 1
  · intro w9 hSw
    try dsimp only at hSw
    go_simp
    try with_reducible rfl
  try simp only [Act.put, List.getElem_toArray, List.getElem_cons_succ, List.getElem_cons_zero, List.setIfInBounds_toArray, List.set_cons_zero, List.set_cons_succ]
  refine wpAnyH_take (i := 2) (v := ?_) rfl (by kernel_rfl) (by kernel_rfl) (by kernel_rfl) (fun _ _ _ h => h) (Or.inl ⟨by kernel_rfl, ?_⟩) (by assumption) ?_
  rotate_left 1
  · intro w9 hSw
    try dsimp only at hSw
    go_simp
    try with_reducible rfl
  try simp only [Act.put, List.getElem_toArray, List.getElem_cons_succ, List.getElem_cons_zero, List.setIfInBounds_toArray, List.set_cons_zero, List.set_cons_succ]
  refine wpAnyH_take (i := 3) (v := ?_) rfl (by kernel_rfl) (by kernel_rfl) (by kernel_rfl) (fun _ _ _ h => h) (Or.inl ⟨by kernel_rfl, ?_⟩) (by assumption) ?_
  rotate_left 1
  · intro w9 hSw
    try dsimp only at hSw
    go_simp
    try with_reducible rfl
  try simp only [Act.put, List.getElem_toArray, List.getElem_cons_succ, List.getElem_cons_zero, List.setIfInBounds_toArray, List.set_cons_zero, List.set_cons_succ]
  refine wpAnyH_take (i := 6) (v := ?_) rfl (by kernel_rfl) (by kernel_rfl) (by kernel_rfl) (fun _ _ _ h => h) (Or.inl ⟨by kernel_rfl, ?_⟩) (by assumption) ?_
  rotate_left 1
  · intro w9 hSw
    try dsimp only at hSw
    go_simp
    try with_reducible rfl
  try simp only [Act.put, List.getElem_toArray, List.getElem_cons_succ, List.getElem_cons_zero, List.setIfInBounds_toArray, List.set_cons_zero, List.set_cons_succ]
  refine wpAnyH_take (i := 7) (v := ?_) rfl (by kernel_rfl) (by kernel_rfl) (by kernel_rfl) (fun _ _ _ h => h) (Or.inl ⟨by kernel_rfl, ?_⟩) (by assumption) ?_
  rotate_left 1
  · intro w9 hSw
    try dsimp only at hSw
    go_simp
    try with_reducible rfl
  try simp only [Act.put, List.getElem_toArray, List.getElem_cons_succ, List.getElem_cons_zero, List.setIfInBounds_toArray, List.set_cons_zero, List.set_cons_succ]
  refine wpAnyH_take (i := 9) (v := ?_) rfl (by kernel_rfl) (by kernel_rfl) (by kernel_rfl) (fun _ _ _ h => h) (Or.inl ⟨by kernel_rfl, ?_⟩) (by assumption) ?_
  rotate_left 1
  · intro w9 hSw
    try dsimp only at hSw
    go_simp
    try with_reducible rfl
  try simp only [Act.put, List.getElem_toArray, List.getElem_cons_succ, List.getElem_cons_zero, List.setIfInBounds_toArray, List.set_cons_zero, List.set_cons_succ]
  refine wpAnyH_take (i := 10) (v := ?_) rfl (by kernel_rfl) (by kernel_rfl) (by kernel_rfl) (fun _ _ _ h => h) (Or.inl ⟨by kernel_rfl, ?_⟩) (by assumption) ?_
  rotate_left 1
  · intro w9 hSw
    try dsimp only at hSw
    go_simp
    try with_reducible rfl
  try simp only [Act.put, List.getElem_toArray, List.getElem_cons_succ, List.getElem_cons_zero, List.setIfInBounds_toArray, List.set_cons_zero, List.set_cons_succ]
  refine wpAnyH_ready (rs := [4, 11]) (by kernel_rfl) (by simp) ?_
  refine AllReadyH.cons rfl (fun K hK => ?_) (AllReadyH.cons rfl (fun K hK => ?_) (AllReadyH.nil))
  · go_simp
    go_at_call 223
    refine (clmParts_any KC_s.out.out.1 KC_s.out.out.2.choose_spec).mono ?_
    rintro e' Wse ⟨rp, rfl, hL, hb⟩
    obtain ⟨lg, lc, rfl, _⟩ := hL
    have HB_se := Lib.hid (bt HB_s.out hb)
    have G_se := Lib.hid (G_s.out.below hb)
    have Z_se := Lib.hid (Z_s.out.below hb)
    have KC_se := Lib.hid (KC_s.out.below hb)
    have CS_se := Lib.hid (CS_s.out.below hb)
    clear hb
    go_wp2_with fail
    refine hK.out _ _ (show _ from ⟨G_se.out.1, G_se.out.2.1, G_se.out.2.2⟩) (fun hHeld => ?_)
    clear hK K
    try simp only [Act.put, List.getElem_toArray, List.getElem_cons_succ, List.getElem_cons_zero, List.setIfInBounds_toArray, List.set_cons_zero, List.set_cons_succ]
    refine wpAnyH_take (i := 5) (v := ?_) rfl (by kernel_rfl) (by kernel_rfl) (by kernel_rfl) (fun _ _ _ h => h) (Or.inl ⟨by kernel_rfl, ?_⟩) (by assumption) ?_
    rotate_left 1
    · intro w9 hSw
      try dsimp only at hSw
      go_simp
      try with_reducible rfl
    try simp only [Act.put, List.getElem_toArray, List.getElem_cons_succ, List.getElem_cons_zero, List.setIfInBounds_toArray, List.set_cons_zero, List.set_cons_succ]
    refine wpAnyH_ready (rs := [8, 11]) (by kernel_rfl) (by simp) ?_
    refine AllReadyH.cons rfl (fun K hK => ?_) (AllReadyH.cons rfl (fun K hK => ?_) (AllReadyH.nil))
    · go_simp
      go_at_call 146
      refine (draftOneOf_any ps.length which cs hwn.out.1 hwn.out.2 hcl.out CS_se.out.cap (CS_se.out.ints).1).mono ?_
      rintro e' Wsei ⟨gh, ch, gr, cr, rfl, hH, hR, hne, hb⟩
      have HB_sei := Lib.hid (bt HB_se.out hb)
      have G_sei := Lib.hid (G_se.out.below hb)
      have Z_sei := Lib.hid (Z_se.out.below hb)
      have KC_sei := Lib.hid (KC_se.out.below hb)
      have CS_sei := Lib.hid (CS_se.out.below hb)
      have DH_sei := Lib.hid hH
      have DR_sei := Lib.hid hR
      have LD := Lib.hid (show gh ≠ gr ∧ w.heap.size + 2 ≤ gh ∧ w.heap.size + 2 ≤ gr from by have := Z_se.out.lt; omega)
      clear hH hR hne
      clear hb
      go_wp2_with fail
      refine hK.out _ _ (show _ from ⟨G_sei.out.1, G_sei.out.2.1, G_sei.out.2.2⟩) (fun hHeld => ?_)
      clear hK K
      try simp only [Act.put, List.getElem_toArray, List.getElem_cons_succ, List.getElem_cons_zero, List.setIfInBounds_toArray, List.set_cons_zero, List.set_cons_succ]
      refine wpAnyH_ready (rs := [11]) (by kernel_rfl) (by simp) ?_
      refine AllReadyH.cons rfl (fun K hK => ?_) (AllReadyH.nil)
      go_simp
      have hb := ba Wsei (.cells #[.int .i64 x] 3)
      have HB_seil := Lib.hid (bt HB_sei.out hb)
      have G_seil := Lib.hid (G_sei.out.below hb)
      have Z_seil := Lib.hid (Z_sei.out.below hb)
      have KC_seil := Lib.hid (KC_sei.out.below hb)
      have CS_seil := Lib.hid (CS_sei.out.below hb)
      have DH_seil := Lib.hid (DH_sei.out.below hb)
      have DR_seil := Lib.hid (DR_sei.out.below hb)
      have KX_seil := Lib.hid (show KP Wsei.heap.size (Wsei.heap.size + 1) (fun w0 => IsInts w0 (some ⟨Wsei.heap.size, 0, none⟩) [x]) (Wsei.alloc (.cells #[.int .i64 x] 3)) from kp_ints (ints_spot Wsei _ rfl [x] 3) (by simp) (by rintro a ⟨⟩; exact ⟨Nat.le_refl _, Nat.lt_succ_self _⟩))
      have LB := Lib.hid (show gh + 1 ≤ Wsei.heap.size ∧ gr + 1 ≤ Wsei.heap.size from ⟨DH_sei.out.2.2.1, DR_sei.out.2.2.1⟩)
      clear hb
      refine hK.out _ _ (show _ from ⟨G_seil.out.1, G_seil.out.2.1, G_seil.out.2.2⟩) (fun hHeld => ?_)
      clear hK K
      try simp only [Act.put, List.getElem_toArray, List.getElem_cons_succ, List.getElem_cons_zero, List.setIfInBounds_toArray, List.set_cons_zero, List.set_cons_succ]
      generalize hW9 : Wsei.alloc (.cells #[.int .i64 x] 3) = Wseil at *
      clear hW9
      refine wpAnyH_ready (rs := [12]) (by kernel_rfl) (by simp) ?_
      refine AllReadyH.cons rfl (fun K hK => ?_) AllReadyH.nil
      go_simp
      go_at_call 145
      have hld := LD.out
      have hlb := LB.out
      have hdl := HDL.out
      have hz9 := Z_seil.out.lt
      have q1 := DH_seil.out.2.2.1
      have q2 := DR_seil.out.2.2.1
      have key := completeClmW_any P Q G HG.out s hs (base := w.heap.size + 2) (gh := gh) (ch := ch) (gr := gr) (cr := cr) (dh := drH which 0 ps.length cs) (dr := drZ which (lastC cs) 0 ps.length cs) (x1 := some ⟨Wsei.heap.size, 0, none⟩) (x2 := 1) (xs := [x]) (which := which) HOK.out KC_seil.out ⟨.inl (by have := HPC.out; omega), .inl (by have := HPC.out; omega)⟩ (by rw [hdl.1]; exact DH_seil.out) (by rw [hdl.2]; exact DR_seil.out) ⟨hld.1, hld.2.1, hld.2.2, by omega, by omega⟩ KX_seil.out ⟨.inr hlb.1, .inr hlb.2⟩ (by rintro _ a ⟨⟩; simp; omega) (by rw [hdl.1]; rfl) (by rw [hdl.2]; exact HNC.out.symm) HDI.out.1 HDI.out.2 HXI.out rfl (by rw [hdl.1]; exact hwn.out.1) (by rw [hdl.2]; exact hwn.out.1)
      rw [hdl.1, hdl.2] at key
      refine key.mono ?_
      rw [HP.out]
      rintro e' v9 ⟨qa, qb, qc, rfl, hq, hb⟩
      obtain ⟨a1, c1, a2, c2, a3, c3, rfl, rfl, rfl⟩ := hq.shape
      have G_z := Lib.hid (gr_belowB G_seil.out hb (by omega))
      have Z_z := Lib.hid (Z_seil.out.belowB hb (by omega))
      have HB_z := Lib.hid (HB_seil.out.trans (hb.mono (by omega)))
      have AQ := Lib.hid hq
      clear hq hb key hld hlb hdl hz9 q1 q2
      go_wp2_with fail
      refine hK.out _ _ (show _ from ⟨G_z.out.1, G_z.out.2.1, G_z.out.2.2⟩) (fun hHeld => ?_)
      clear hK K
      try simp only [Act.put, List.getElem_toArray, List.getElem_cons_succ, List.getElem_cons_zero, List.setIfInBounds_toArray, List.set_cons_zero, List.set_cons_succ]
      refine wpAnyH_take (i := 13) (v := ?_) rfl (by kernel_rfl) (by kernel_rfl) (by kernel_rfl) (fun _ _ _ h => h) (Or.inl ⟨by kernel_rfl, ?_⟩) (by assumption) ?_
      rotate_left 1
      · intro w9 hSw
        try dsimp only at hSw
        go_simp
        try with_reducible rfl
      try simp only [Act.put, List.getElem_toArray, List.getElem_cons_succ, List.getElem_cons_zero, List.setIfInBounds_toArray, List.set_cons_zero, List.set_cons_succ]
      refine wpAnyH_take (i := 14) (v := ?_) rfl (by kernel_rfl) (by kernel_rfl) (by kernel_rfl) (fun _ _ _ h => h) (Or.inl ⟨by kernel_rfl, ?_⟩) (by assumption) ?_
      rotate_left 1
      · intro w9 hSw
        try dsimp only at hSw
        go_simp
        try with_reducible rfl
      try simp only [Act.put, List.getElem_toArray, List.getElem_cons_succ, List.getElem_cons_zero, List.setIfInBounds_toArray, List.set_cons_zero, List.set_cons_succ]
      have hm5 := mid3 v9 (w.heap.size + 1) (.slice a1 p.c.length c1) (.slice a2 p.h.length c2) (.slice a3 p.r.length c3)
      have hhs := hm5.size
      have G_y := Lib.hid (G_z.out.mid hm5 (.inl (by omega)))
      have AY := Lib.hid (AQ.out.mid hm5 (.inr (by omega)))
      have HB_y := Lib.hid (HB_z.out.trans (hm5.toBelow (by omega) HB_z.out.size))
      clear hm5
      refine wpAnyH_ready (rs := [15]) (by kernel_rfl) (by simp) ?_
      refine AllReadyH.cons rfl (fun K hK => ?_) AllReadyH.nil
      obtain ⟨y0, y1, y2, yf⟩ := Z_z.out
      have yf0 := yf 0
      have yf1 := yf 1
      have yf2 := yf 2
      clear yf
      go_simp
      refine hK.out _ _ (show _ from ⟨G_y.out.1, G_y.out.2.1, G_y.out.2.2⟩) (fun hHeld => ?_)
      clear hK K
      try simp only [Act.put, List.getElem_toArray, List.getElem_cons_succ, List.getElem_cons_zero, List.setIfInBounds_toArray, List.set_cons_zero, List.set_cons_succ]
      refine wpAnyH_take (i := 16) (v := ?_) rfl (by kernel_rfl) (by kernel_rfl) (by kernel_rfl) (fun _ _ _ h => h) (Or.inl ⟨by kernel_rfl, ?_⟩) (by assumption) ?_
      rotate_left 1
      · intro w9 hSw
        try dsimp only at hSw
        go_simp
        try with_reducible rfl
      try simp only [Act.put, List.getElem_toArray, List.getElem_cons_succ, List.getElem_cons_zero, List.setIfInBounds_toArray, List.set_cons_zero, List.set_cons_succ]
      refine wpAnyH_done (by kernel_rfl) ?_ _
      go_wp2
      (try simp only [Exit.inBlock, Exit.then])
      refine bodyPost_ret (v := .tuple #[.agg #[.slice a1 p.c.length c1, .slice a2 p.h.length c2, .slice a3 p.r.length c3], .bool true]) ?_ rfl ?_
      · rw [results_cell_tmp rfl]; go_simp
      · exact ⟨_, _, _, rfl, AY.out.wide (by omega) hhs (Nat.le_refl _), HB_y.out⟩
    · go_simp
      have hb := ba Wse (.cells #[.int .i64 x] 3)
      have HB_sel := Lib.hid (bt HB_se.out hb)
      have G_sel := Lib.hid (G_se.out.below hb)
      have Z_sel := Lib.hid (Z_se.out.below hb)
      have KC_sel := Lib.hid (KC_se.out.below hb)
      have CS_sel := Lib.hid (CS_se.out.below hb)
      have KX_sel := Lib.hid (show KP Wse.heap.size (Wse.heap.size + 1) (fun w0 => IsInts w0 (some ⟨Wse.heap.size, 0, none⟩) [x]) (Wse.alloc (.cells #[.int .i64 x] 3)) from kp_ints (ints_spot Wse _ rfl [x] 3) (by simp) (by rintro a ⟨⟩; exact ⟨Nat.le_refl _, Nat.lt_succ_self _⟩))
      clear hb
      refine hK.out _ _ (show _ from ⟨G_sel.out.1, G_sel.out.2.1, G_sel.out.2.2⟩) (fun hHeld => ?_)
      clear hK K
      try simp only [Act.put, List.getElem_toArray, List.getElem_cons_succ, List.getElem_cons_zero, List.setIfInBounds_toArray, List.set_cons_zero, List.set_cons_succ]
      generalize hW9 : Wse.alloc (.cells #[.int .i64 x] 3) = Wsel at *
      clear hW9
      refine wpAnyH_ready (rs := [8]) (by kernel_rfl) (by simp) ?_
      refine AllReadyH.cons rfl (fun K hK => ?_) (AllReadyH.nil)
      go_simp
      go_at_call 146
      refine (draftOneOf_any ps.length which cs hwn.out.1 hwn.out.2 hcl.out CS_sel.out.cap (CS_sel.out.ints).1).mono ?_
      rintro e' Wseli ⟨gh, ch, gr, cr, rfl, hH, hR, hne, hb⟩
      have HB_seli := Lib.hid (bt HB_sel.out hb)
      have G_seli := Lib.hid (G_sel.out.below hb)
      have Z_seli := Lib.hid (Z_sel.out.below hb)
      have KC_seli := Lib.hid (KC_sel.out.below hb)
      have CS_seli := Lib.hid (CS_sel.out.below hb)
      have KX_seli := Lib.hid (KX_sel.out.below hb)
      have DH_seli := Lib.hid hH
      have DR_seli := Lib.hid hR
      have LD := Lib.hid (show gh ≠ gr ∧ w.heap.size + 2 ≤ gh ∧ w.heap.size + 2 ≤ gr from by have := Z_sel.out.lt; omega)
      have LB := Lib.hid (show Wse.heap.size + 1 ≤ gh ∧ Wse.heap.size + 1 ≤ gr from by have h9 : Wse.heap.size + 1 ≤ Wsel.heap.size := KX_sel.out.1; omega)
      clear hH hR hne
      clear hb
      go_wp2_with fail
      refine hK.out _ _ (show _ from ⟨G_seli.out.1, G_seli.out.2.1, G_seli.out.2.2⟩) (fun hHeld => ?_)
      clear hK K
      try simp only [Act.put, List.getElem_toArray, List.getElem_cons_succ, List.getElem_cons_zero, List.setIfInBounds_toArray, List.set_cons_zero, List.set_cons_succ]
      refine wpAnyH_ready (rs := [12]) (by kernel_rfl) (by simp) ?_
      refine AllReadyH.cons rfl (fun K hK => ?_) AllReadyH.nil
      go_simp
      go_at_call 145
      have hld := LD.out
      have hlb := LB.out
      have hdl := HDL.out
      have hz9 := Z_seli.out.lt
      have q1 := DH_seli.out.2.2.1
      have q2 := DR_seli.out.2.2.1
      have key := completeClmW_any P Q G HG.out s hs (base := w.heap.size + 2) (gh := gh) (ch := ch) (gr := gr) (cr := cr) (dh := drH which 0 ps.length cs) (dr := drZ which (lastC cs) 0 ps.length cs) (x1 := some ⟨Wse.heap.size, 0, none⟩) (x2 := 1) (xs := [x]) (which := which) HOK.out KC_seli.out ⟨.inl (by have := HPC.out; omega), .inl (by have := HPC.out; omega)⟩ (by rw [hdl.1]; exact DH_seli.out) (by rw [hdl.2]; exact DR_seli.out) ⟨hld.1, hld.2.1, hld.2.2, by omega, by omega⟩ KX_seli.out ⟨.inl hlb.1, .inl hlb.2⟩ (by rintro _ a ⟨⟩; simp; omega) (by rw [hdl.1]; rfl) (by rw [hdl.2]; exact HNC.out.symm) HDI.out.1 HDI.out.2 HXI.out rfl (by rw [hdl.1]; exact hwn.out.1) (by rw [hdl.2]; exact hwn.out.1)
      rw [hdl.1, hdl.2] at key
      refine key.mono ?_
      rw [HP.out]
      rintro e' v9 ⟨qa, qb, qc, rfl, hq, hb⟩
      obtain ⟨a1, c1, a2, c2, a3, c3, rfl, rfl, rfl⟩ := hq.shape
      have G_z := Lib.hid (gr_belowB G_seli.out hb (by omega))
      have Z_z := Lib.hid (Z_seli.out.belowB hb (by omega))
      have HB_z := Lib.hid (HB_seli.out.trans (hb.mono (by omega)))
      have AQ := Lib.hid hq
      clear hq hb key hld hlb hdl hz9 q1 q2
      go_wp2_with fail
      refine hK.out _ _ (show _ from ⟨G_z.out.1, G_z.out.2.1, G_z.out.2.2⟩) (fun hHeld => ?_)
      clear hK K
      try simp only [Act.put, List.getElem_toArray, List.getElem_cons_succ, List.getElem_cons_zero, List.setIfInBounds_toArray, List.set_cons_zero, List.set_cons_succ]
      refine wpAnyH_take (i := 13) (v := ?_) rfl (by kernel_rfl) (by kernel_rfl) (by kernel_rfl) (fun _ _ _ h => h) (Or.inl ⟨by kernel_rfl, ?_⟩) (by assumption) ?_
      rotate_left 1
      · intro w9 hSw
        try dsimp only at hSw
        go_simp
        try with_reducible rfl
      try simp only [Act.put, List.getElem_toArray, List.getElem_cons_succ, List.getElem_cons_zero, List.setIfInBounds_toArray, List.set_cons_zero, List.set_cons_succ]
      refine wpAnyH_take (i := 14) (v := ?_) rfl (by kernel_rfl) (by kernel_rfl) (by kernel_rfl) (fun _ _ _ h => h) (Or.inl ⟨by kernel_rfl, ?_⟩) (by assumption) ?_
      rotate_left 1
      · intro w9 hSw
        try dsimp only at hSw
        go_simp
        try with_reducible rfl
      try simp only [Act.put, List.getElem_toArray, List.getElem_cons_succ, List.getElem_cons_zero, List.setIfInBounds_toArray, List.set_cons_zero, List.set_cons_succ]
      have hm5 := mid3 v9 (w.heap.size + 1) (.slice a1 p.c.length c1) (.slice a2 p.h.length c2) (.slice a3 p.r.length c3)
      have hhs := hm5.size
      have G_y := Lib.hid (G_z.out.mid hm5 (.inl (by omega)))
      have AY := Lib.hid (AQ.out.mid hm5 (.inr (by omega)))
      have HB_y := Lib.hid (HB_z.out.trans (hm5.toBelow (by omega) HB_z.out.size))
      clear hm5
      refine wpAnyH_ready (rs := [15]) (by kernel_rfl) (by simp) ?_
      refine AllReadyH.cons rfl (fun K hK => ?_) AllReadyH.nil
      obtain ⟨y0, y1, y2, yf⟩ := Z_z.out
      have yf0 := yf 0
      have yf1 := yf 1
      have yf2 := yf 2
      clear yf
      go_simp
      refine hK.out _ _ (show _ from ⟨G_y.out.1, G_y.out.2.1, G_y.out.2.2⟩) (fun hHeld => ?_)
      clear hK K
      try simp only [Act.put, List.getElem_toArray, List.getElem_cons_succ, List.getElem_cons_zero, List.setIfInBounds_toArray, List.set_cons_zero, List.set_cons_succ]
      refine wpAnyH_take (i := 16) (v := ?_) rfl (by kernel_rfl) (by kernel_rfl) (by kernel_rfl) (fun _ _ _ h => h) (Or.inl ⟨by kernel_rfl, ?_⟩) (by assumption) ?_
      rotate_left 1
      · intro w9 hSw
        try dsimp only at hSw
        go_simp
        try with_reducible rfl
      try simp only [Act.put, List.getElem_toArray, List.getElem_cons_succ, List.getElem_cons_zero, List.setIfInBounds_toArray, List.set_cons_zero, List.set_cons_succ]
      refine wpAnyH_done (by kernel_rfl) ?_ _
      go_wp2
      (try simp only [Exit.inBlock, Exit.then])
      refine bodyPost_ret (v := .tuple #[.agg #[.slice a1 p.c.length c1, .slice a2 p.h.length c2, .slice a3 p.r.length c3], .bool true]) ?_ rfl ?_
      · rw [results_cell_tmp rfl]; go_simp
      · exact ⟨_, _, _, rfl, AY.out.wide (by omega) hhs (Nat.le_refl _), HB_y.out⟩
  · go_simp
    have hb := ba Ws (.cells #[.int .i64 x] 3)
    have HB_sl := Lib.hid (bt HB_s.out hb)
    have G_sl := Lib.hid (G_s.out.below hb)
    have Z_sl := Lib.hid (Z_s.out.below hb)
    have KC_sl := Lib.hid (KC_s.out.below hb)
    have CS_sl := Lib.hid (CS_s.out.below hb)
    have KX_sl := Lib.hid (show KP Ws.heap.size (Ws.heap.size + 1) (fun w0 => IsInts w0 (some ⟨Ws.heap.size, 0, none⟩) [x]) (Ws.alloc (.cells #[.int .i64 x] 3)) from kp_ints (ints_spot Ws _ rfl [x] 3) (by simp) (by rintro a ⟨⟩; exact ⟨Nat.le_refl _, Nat.lt_succ_self _⟩))
    clear hb
    refine hK.out _ _ (show _ from ⟨G_sl.out.1, G_sl.out.2.1, G_sl.out.2.2⟩) (fun hHeld => ?_)
    clear hK K
    try simp only [Act.put, List.getElem_toArray, List.getElem_cons_succ, List.getElem_cons_zero, List.setIfInBounds_toArray, List.set_cons_zero, List.set_cons_succ]
    generalize hW9 : Ws.alloc (.cells #[.int .i64 x] 3) = Wsl at *
    clear hW9
    refine wpAnyH_ready (rs := [4]) (by kernel_rfl) (by simp) ?_
    refine AllReadyH.cons rfl (fun K hK => ?_) (AllReadyH.nil)
    go_simp
    go_at_call 223
    refine (clmParts_any KC_sl.out.out.1 KC_sl.out.out.2.choose_spec).mono ?_
    rintro e' Wsle ⟨rp, rfl, hL, hb⟩
    obtain ⟨lg, lc, rfl, _⟩ := hL
    have HB_sle := Lib.hid (bt HB_sl.out hb)
    have G_sle := Lib.hid (G_sl.out.below hb)
    have Z_sle := Lib.hid (Z_sl.out.below hb)
    have KC_sle := Lib.hid (KC_sl.out.below hb)
    have CS_sle := Lib.hid (CS_sl.out.below hb)
    have KX_sle := Lib.hid (KX_sl.out.below hb)
    clear hb
    go_wp2_with fail
    refine hK.out _ _ (show _ from ⟨G_sle.out.1, G_sle.out.2.1, G_sle.out.2.2⟩) (fun hHeld => ?_)
    clear hK K
    try simp only [Act.put, List.getElem_toArray, List.getElem_cons_succ, List.getElem_cons_zero, List.setIfInBounds_toArray, List.set_cons_zero, List.set_cons_succ]
    refine wpAnyH_take (i := 5) (v := ?_) rfl (by kernel_rfl) (by kernel_rfl) (by kernel_rfl) (fun _ _ _ h => h) (Or.inl ⟨by kernel_rfl, ?_⟩) (by assumption) ?_
    rotate_left 1
    · intro w9 hSw
      try dsimp only at hSw
      go_simp
      try with_reducible rfl
    try simp only [Act.put, List.getElem_toArray, List.getElem_cons_succ, List.getElem_cons_zero, List.setIfInBounds_toArray, List.set_cons_zero, List.set_cons_succ]
    refine wpAnyH_ready (rs := [8]) (by kernel_rfl) (by simp) ?_
    refine AllReadyH.cons rfl (fun K hK => ?_) (AllReadyH.nil)
    go_simp
    go_at_call 146
    refine (draftOneOf_any ps.length which cs hwn.out.1 hwn.out.2 hcl.out CS_sle.out.cap (CS_sle.out.ints).1).mono ?_
    rintro e' Wslei ⟨gh, ch, gr, cr, rfl, hH, hR, hne, hb⟩
    have HB_slei := Lib.hid (bt HB_sle.out hb)
    have G_slei := Lib.hid (G_sle.out.below hb)
    have Z_slei := Lib.hid (Z_sle.out.below hb)
    have KC_slei := Lib.hid (KC_sle.out.below hb)
    have CS_slei := Lib.hid (CS_sle.out.below hb)
    have KX_slei := Lib.hid (KX_sle.out.below hb)
    have DH_slei := Lib.hid hH
    have DR_slei := Lib.hid hR
    have LD := Lib.hid (show gh ≠ gr ∧ w.heap.size + 2 ≤ gh ∧ w.heap.size + 2 ≤ gr from by have := Z_sle.out.lt; omega)
    have LB := Lib.hid (show Ws.heap.size + 1 ≤ gh ∧ Ws.heap.size + 1 ≤ gr from by have h9 : Ws.heap.size + 1 ≤ Wsle.heap.size := KX_sle.out.1; omega)
    clear hH hR hne
    clear hb
    go_wp2_with fail
    refine hK.out _ _ (show _ from ⟨G_slei.out.1, G_slei.out.2.1, G_slei.out.2.2⟩) (fun hHeld => ?_)
    clear hK K
    try simp only [Act.put, List.getElem_toArray, List.getElem_cons_succ, List.getElem_cons_zero, List.setIfInBounds_toArray, List.set_cons_zero, List.set_cons_succ]
    refine wpAnyH_ready (rs := [12]) (by kernel_rfl) (by simp) ?_
    refine AllReadyH.cons rfl (fun K hK => ?_) AllReadyH.nil
    go_simp
    go_at_call 145
    have hld := LD.out
    have hlb := LB.out
    have hdl := HDL.out
    have hz9 := Z_slei.out.lt
    have q1 := DH_slei.out.2.2.1
    have q2 := DR_slei.out.2.2.1
    have key := completeClmW_any P Q G HG.out s hs (base := w.heap.size + 2) (gh := gh) (ch := ch) (gr := gr) (cr := cr) (dh := drH which 0 ps.length cs) (dr := drZ which (lastC cs) 0 ps.length cs) (x1 := some ⟨Ws.heap.size, 0, none⟩) (x2 := 1) (xs := [x]) (which := which) HOK.out KC_slei.out ⟨.inl (by have := HPC.out; omega), .inl (by have := HPC.out; omega)⟩ (by rw [hdl.1]; exact DH_slei.out) (by rw [hdl.2]; exact DR_slei.out) ⟨hld.1, hld.2.1, hld.2.2, by omega, by omega⟩ KX_slei.out ⟨.inl hlb.1, .inl hlb.2⟩ (by rintro _ a ⟨⟩; simp; omega) (by rw [hdl.1]; rfl) (by rw [hdl.2]; exact HNC.out.symm) HDI.out.1 HDI.out.2 HXI.out rfl (by rw [hdl.1]; exact hwn.out.1) (by rw [hdl.2]; exact hwn.out.1)
    rw [hdl.1, hdl.2] at key
    refine key.mono ?_
    rw [HP.out]
    rintro e' v9 ⟨qa, qb, qc, rfl, hq, hb⟩
    obtain ⟨a1, c1, a2, c2, a3, c3, rfl, rfl, rfl⟩ := hq.shape
    have G_z := Lib.hid (gr_belowB G_slei.out hb (by omega))
    have Z_z := Lib.hid (Z_slei.out.belowB hb (by omega))
    have HB_z := Lib.hid (HB_slei.out.trans (hb.mono (by omega)))
    have AQ := Lib.hid hq
    clear hq hb key hld hlb hdl hz9 q1 q2
    go_wp2_with fail
    refine hK.out _ _ (show _ from ⟨G_z.out.1, G_z.out.2.1, G_z.out.2.2⟩) (fun hHeld => ?_)
    clear hK K
    try simp only [Act.put, List.getElem_toArray, List.getElem_cons_succ, List.getElem_cons_zero, List.setIfInBounds_toArray, List.set_cons_zero, List.set_cons_succ]
    refine wpAnyH_take (i := 13) (v := ?_) rfl (by kernel_rfl) (by kernel_rfl) (by kernel_rfl) (fun _ _ _ h => h) (Or.inl ⟨by kernel_rfl, ?_⟩) (by assumption) ?_
    rotate_left 1
    · intro w9 hSw
      try dsimp only at hSw
      go_simp
      try with_reducible rfl
    try simp only [Act.put, List.getElem_toArray, List.getElem_cons_succ, List.getElem_cons_zero, List.setIfInBounds_toArray, List.set_cons_zero, List.set_cons_succ]
    refine wpAnyH_take (i := 14) (v := ?_) rfl (by kernel_rfl) (by kernel_rfl) (by kernel_rfl) (fun _ _ _ h => h) (Or.inl ⟨by kernel_rfl, ?_⟩) (by assumption) ?_
    rotate_left 1
    · intro w9 hSw
      try dsimp only at hSw
      go_simp
      try with_reducible rfl
    try simp only [Act.put, List.getElem_toArray, List.getElem_cons_succ, List.getElem_cons_zero, List.setIfInBounds_toArray, List.set_cons_zero, List.set_cons_succ]
    have hm5 := mid3 v9 (w.heap.size + 1) (.slice a1 p.c.length c1) (.slice a2 p.h.length c2) (.slice a3 p.r.length c3)
    have hhs := hm5.size
    have G_y := Lib.hid (G_z.out.mid hm5 (.inl (by omega)))
    have AY := Lib.hid (AQ.out.mid hm5 (.inr (by omega)))
    have HB_y := Lib.hid (HB_z.out.trans (hm5.toBelow (by omega) HB_z.out.size))
    clear hm5
    refine wpAnyH_ready (rs := [15]) (by kernel_rfl) (by simp) ?_
    refine AllReadyH.cons rfl (fun K hK => ?_) AllReadyH.nil
    obtain ⟨y0, y1, y2, yf⟩ := Z_z.out
    have yf0 := yf 0
    have yf1 := yf 1
    have yf2 := yf 2
    clear yf
    go_simp
    refine hK.out _ _ (show _ from ⟨G_y.out.1, G_y.out.2.1, G_y.out.2.2⟩) (fun hHeld => ?_)
    clear hK K
    try simp only [Act.put, List.getElem_toArray, List.getElem_cons_succ, List.getElem_cons_zero, List.setIfInBounds_toArray, List.set_cons_zero, List.set_cons_succ]
    refine wpAnyH_take (i := 16) (v := ?_) rfl (by kernel_rfl) (by kernel_rfl) (by kernel_rfl) (fun _ _ _ h => h) (Or.inl ⟨by kernel_rfl, ?_⟩) (by assumption) ?_
    rotate_left 1
    · intro w9 hSw
      try dsimp only at hSw
      go_simp
      try with_reducible rfl
    try simp only [Act.put, List.getElem_toArray, List.getElem_cons_succ, List.getElem_cons_zero, List.setIfInBounds_toArray, List.set_cons_zero, List.set_cons_succ]
    refine wpAnyH_done (by kernel_rfl) ?_ _
    go_wp2
    (try simp only [Exit.inBlock, Exit.then])
    refine bodyPost_ret (v := .tuple #[.agg #[.slice a1 p.c.length c1, .slice a2 p.h.length c2, .slice a3 p.r.length c3], .bool true]) ?_ rfl ?_
    · rw [results_cell_tmp rfl]; go_simp
    · exact ⟨_, _, _, rfl, AY.out.wide (by omega) hhs (Nat.le_refl _), HB_y.out⟩

end Go.Proofs.Ytfjaohmildkeoaa

/- Chapter 10, the program: ProveSum. -/
namespace Go.Proofs.Ytfjaohmildkeoaa
open Go.RowKit
set_option linter.unusedVariables false
set_option linter.unusedSimpArgs false

def coB' (Q n : Int) (cs : List Int) : Bool := decide ((cs.length : Int) = n) && cs.all fun z => exB Q z
set_option maxHeartbeats 1600000 in
theorem areCoins_any (P Q G n : Int) (ad : Option Addr) (k cap : Nat) (zs : List Int) (hn : zs.length = k) (hl : k ≤ 1152921504606846976) (w : World) (hz : IsInts w ad zs) :
    Calls Try.prog 97 #[gv P Q G, .slice ad k cap, .int .i64 n] w fun e w' => e = .returned (.bool (coB' Q n zs)) ∧ Below w.heap.size w w' := by
  have hmf : ∀ (fn : Fn) (first cap : Array Value) (w : World), (Instr.makeFunc fn first cap).run Try.prog w = .ok (.func fn first cap) w := fun _ _ _ _ => rfl
  have G_0 := Lib.hid (gr_at w (w.heap.size) (by simp) P Q G 24)
  have HB_0 := Lib.hid (show Below w.heap.size w (w.alloc (.cells #[.int .i64 P, .int .i64 Q, .int .i64 G] 24)) from ba _ _)
  have HZ := Lib.hid (hz.below HB_0.out (Nat.le_refl _))
  have HN := Lib.hid hn
  by_cases h : (k : Int) = n
  · have E := Lib.hid (show coB' Q n zs = zs.all fun z => exB Q z by unfold coB'; rw [hn, decide_eq_true h, Bool.true_and])
    rw [E.out]
    have hq : ((k : Int) == n) = true := by simp [h]
    clear hn hz h
    obtain ⟨c0, c1, c2⟩ := G_0.out
    go_enter Try.func97, Try.ntmps97
    go_wp2_with fail
    refine (allExps_any P Q G ad k cap zs HN.out hl _ HZ.out).mono ?_
    rintro e v1 ⟨rfl, hb⟩
    have HB_1 := Lib.hid (bt HB_0.out hb)
    clear hb
    go_wp2
    go_ret
    exact ⟨rfl, HB_1.out⟩
  · have E := Lib.hid (show coB' Q n zs = false by unfold coB'; rw [hn, decide_eq_false h, Bool.false_and])
    rw [E.out]
    have hq : ((k : Int) == n) = false := by simpa using h
    clear hn hz h
    go_enter Try.func97, Try.ntmps97
    go_wp2
    go_ret
    exact ⟨rfl, HB_0.out⟩

theorem listB_of' {zs : List Int} {m : Int} (h1 : 2 ≤ m) (h2 : m ≤ 2000000000) (h3 : zs.length ≤ 200) (h4 : allIn zs 0 (m - 1) = true) : listB zs m = true := by
  unfold listB
  rw [modB_true.2 ⟨h1, h2⟩, decide_eq_true h3]
  simp only [Bool.true_and]
  unfold allRes
  unfold allIn at h4
  rw [List.all_eq_true] at h4 ⊢
  intro z hz
  have := inB_true.1 (h4 z hz)
  simp only [resB_true]
  omega
theorem exs_in {Q : Int} {zs : List Int} : exsB Q zs = (decide (zs.length ≤ 24) && allIn zs 0 (Q - 1)) := by unfold exsB allIn exB; rfl
theorem sum_in {Q : Int} (hQ : 0 < Q) (zs : List Int) : 0 ≤ sumFrom Q 0 zs ∧ sumFrom Q 0 zs < Q := sumFrom_rng hQ zs 0 ⟨Int.le_refl _, hQ⟩
def psB (P Q G H : Int) (hs rs l cs : List Int) : Bool := bsB P Q G H hs && (decide (1 ≤ l.length ∧ l.length ≤ 24) && (decide (rs.length = l.length) && (allIn rs 0 (Q - 1) && (allIn l 0 (Q - 1) && (decide (cs.length = 1) && allIn cs 0 (Q - 1))))))
def psV (P Q G H : Int) (hs rs l cs : List Int) : PrD := if psB P Q G H hs rs l cs then suP P Q G H (sumFrom Q 0 l) (sumFrom Q 0 rs) (cs.headD 0) else nilP
theorem ps_off {P Q G H : Int} {hs rs l cs : List Int} (h : psB P Q G H hs rs l cs = false) : psV P Q G H hs rs l cs = nilP := by simp [psV, h]

set_option maxRecDepth 100000 in
set_option maxHeartbeats 6400000 in
theorem proveSum_any (P Q G H : Int) {B C D E : Nat} {y u v z : Value} {hs rs l cs : List Int} (hl : hs.length ≤ 1048576) (hrl : rs.length ≤ 1048576) (hll : l.length ≤ 1048576) (hcl : cs.length ≤ 1048576) {w : World} (hy : InI B w y hs) (hu : InI C w u rs) (hv : InI D w v l) (hz : InI E w z cs) :
    Calls Try.prog 29 #[gv P Q G, .agg #[.int .i64 H, y], u, v, z] w (AnsQ w.heap.size w (psV P Q G H hs rs l cs) (psB P Q G H hs rs l cs)) := by
  obtain ⟨ya, yc, rfl⟩ := hy.shape
  obtain ⟨ra, rc, rfl⟩ := hu.shape
  obtain ⟨la, lc, rfl⟩ := hv.shape
  obtain ⟨ka, kc, rfl⟩ := hz.shape
  have G_9 := Lib.hid ((gr_at w (w.heap.size) (by simp) P Q G 24).below (ba (w.alloc (.cells #[.int .i64 P, .int .i64 Q, .int .i64 G] 24)) (.cells #[.int .i64 H, .slice ya hs.length yc] 53)))
  have V_9 := Lib.hid (d2_at (w.alloc (.cells #[.int .i64 P, .int .i64 Q, .int .i64 G] 24)) (w.heap.size + 1) (by simp) (.int .i64 H) (.slice ya hs.length yc) 53)
  have HB_9 := Lib.hid (show Below w.heap.size w ((w.alloc (.cells #[.int .i64 P, .int .i64 Q, .int .i64 G] 24)).alloc (.cells #[.int .i64 H, .slice ya hs.length yc] 53)) from bt (ba _ _) (ba _ _))
  have G_0 := Lib.hid (G_9.out.below (ba _ (.cells #[.slice none 0 0, .slice none 0 0, .slice none 0 0] 49)))
  have V_0 := Lib.hid (V_9.out.below (ba _ (.cells #[.slice none 0 0, .slice none 0 0, .slice none 0 0] 49)))
  have hv3 := b3_new ((w.alloc (.cells #[.int .i64 P, .int .i64 Q, .int .i64 G] 24)).alloc (.cells #[.int .i64 H, .slice ya hs.length yc] 53)) (.slice none 0 0) (.slice none 0 0) (.slice none 0 0) 49
  rw [show ((w.alloc (.cells #[.int .i64 P, .int .i64 Q, .int .i64 G] 24)).alloc (.cells #[.int .i64 H, .slice ya hs.length yc] 53)).heap.size = w.heap.size + 2 by simp] at hv3
  have Z_0 := Lib.hid hv3
  have HB_0 := Lib.hid (bt HB_9.out (ba _ (.cells #[.slice none 0 0, .slice none 0 0, .slice none 0 0] 49)))
  have Y_0 := Lib.hid (hy.below HB_0.out)
  have R_0 := Lib.hid (hu.below HB_0.out)
  have U_0 := Lib.hid (hv.below HB_0.out)
  have K_0 := Lib.hid (hz.below HB_0.out)
  clear hv3 hy hu hv hz G_9 V_9 HB_9
  cases h0 : bsB P Q G H hs
  · have K0 := Lib.hid (show bsB P Q G H hs = false from h0)
    have E1 := Lib.hid (show psB P Q G H hs rs l cs = false by unfold psB; rw [h0]; rfl)
    rw [E1.out, ps_off E1.out]
    clear h0
    obtain ⟨gG0, gG1, gG2⟩ := G_0.out
    obtain ⟨rZ0, rZ1, rZ2, rfZ⟩ := Z_0.out
    have rfZ0 := rfZ 0
    have rfZ1 := rfZ 1
    have rfZ2 := rfZ 2
    obtain ⟨cV0, cV1⟩ := V_0.out
    go_enter Try.func29, Try.ntmps29
    go_wp2_with fail
    refine (isValidBases_any P Q G H (by omega) Y_0.out).mono ?_
    rw [K0.out]
    rintro e v1 ⟨rfl, hb⟩
    have HB_1 := Lib.hid (bt HB_0.out hb)
    have G_1 := Lib.hid (G_0.out.below hb)
    have V_1 := Lib.hid (V_0.out.below hb)
    have Z_1 := Lib.hid (Z_0.out.below hb)
    have Y_1 := Lib.hid (Y_0.out.below hb)
    have U_1 := Lib.hid (U_0.out.below hb)
    have R_1 := Lib.hid (R_0.out.below hb)
    have K_1 := Lib.hid (K_0.out.below hb)
    clear hb gG0 gG1 gG2 rZ0 rZ1 rZ2 rfZ rfZ0 rfZ1 rfZ2 cV0 cV1
    obtain ⟨gG0, gG1, gG2⟩ := G_1.out
    obtain ⟨rZ0, rZ1, rZ2, rfZ⟩ := Z_1.out
    have rfZ0 := rfZ 0
    have rfZ1 := rfZ 1
    have rfZ2 := rfZ 2
    obtain ⟨cV0, cV1⟩ := V_1.out
    go_wp2
    (try simp only [Exit.inBlock, Exit.then])
    refine bodyPost_ret (v := .tuple #[.agg #[.slice none 0 0, .slice none 0 0, .slice none 0 0], .bool false]) ?_ rfl ?_
    · rw [results_cell_tmp rfl]; go_simp
    · have hm5 := mid3 v1 (w.heap.size + 2) (.slice none 0 0) (.slice none 0 0) (.slice none 0 0)
      exact ⟨_, _, _, rfl, owQ_nil _ _ (Nat.le_trans HB_1.out.size hm5.size), HB_1.out.trans (hm5.toBelow (by omega) HB_1.out.size)⟩
  have K0 := Lib.hid (show bsB P Q G H hs = true from h0)
  have hgd := bs_good h0
  have hmo := good_mo hgd
  have hH0 := bs_H h0
  have hQr := (good_rng hgd).2.1
  by_cases h1 : ¬ (¬ l.length = 0)
  · have B1 : ((l.length : Int) == 0) = true := by have := Decidable.not_not.1 h1; simp [this]
    have E1 := Lib.hid (show psB P Q G H hs rs l cs = false by unfold psB; rw [decide_eq_false (by omega)]; simp)
    rw [E1.out, ps_off E1.out]
    clear h0 h1
    obtain ⟨gG0, gG1, gG2⟩ := G_0.out
    obtain ⟨rZ0, rZ1, rZ2, rfZ⟩ := Z_0.out
    have rfZ0 := rfZ 0
    have rfZ1 := rfZ 1
    have rfZ2 := rfZ 2
    obtain ⟨cV0, cV1⟩ := V_0.out
    go_enter Try.func29, Try.ntmps29
    go_wp2_with fail
    refine (isValidBases_any P Q G H (by omega) Y_0.out).mono ?_
    rw [K0.out]
    rintro e v1 ⟨rfl, hb⟩
    have HB_1 := Lib.hid (bt HB_0.out hb)
    have G_1 := Lib.hid (G_0.out.below hb)
    have V_1 := Lib.hid (V_0.out.below hb)
    have Z_1 := Lib.hid (Z_0.out.below hb)
    have Y_1 := Lib.hid (Y_0.out.below hb)
    have U_1 := Lib.hid (U_0.out.below hb)
    have R_1 := Lib.hid (R_0.out.below hb)
    have K_1 := Lib.hid (K_0.out.below hb)
    clear hb gG0 gG1 gG2 rZ0 rZ1 rZ2 rfZ rfZ0 rfZ1 rfZ2 cV0 cV1
    obtain ⟨gG0, gG1, gG2⟩ := G_1.out
    obtain ⟨rZ0, rZ1, rZ2, rfZ⟩ := Z_1.out
    have rfZ0 := rfZ 0
    have rfZ1 := rfZ 1
    have rfZ2 := rfZ 2
    obtain ⟨cV0, cV1⟩ := V_1.out
    go_wp2
    (try simp only [Exit.inBlock, Exit.then])
    refine bodyPost_ret (v := .tuple #[.agg #[.slice none 0 0, .slice none 0 0, .slice none 0 0], .bool false]) ?_ rfl ?_
    · rw [results_cell_tmp rfl]; go_simp
    · have hm5 := mid3 v1 (w.heap.size + 2) (.slice none 0 0) (.slice none 0 0) (.slice none 0 0)
      exact ⟨_, _, _, rfl, owQ_nil _ _ (Nat.le_trans HB_1.out.size hm5.size), HB_1.out.trans (hm5.toBelow (by omega) HB_1.out.size)⟩
  replace h1 := Decidable.not_not.1 h1
  have B1 : ((l.length : Int) == 0) = false := by simp only [beq_eq_false_iff_ne, ne_eq]; omega
  by_cases h2 : ¬ (l.length = rs.length)
  · have B2 : ((l.length : Int) != (rs.length : Int)) = true := by simp only [bne_iff_ne, ne_eq]; omega
    have E1 := Lib.hid (show psB P Q G H hs rs l cs = false by unfold psB; rw [decide_eq_false (p := rs.length = l.length) (by omega)]; simp)
    rw [E1.out, ps_off E1.out]
    have hx2 : ((l.length : Int) == (rs.length : Int)) = false := by simp only [beq_eq_false_iff_ne, ne_eq]; omega
    have hx3 : ¬ (l.length : Int) = (rs.length : Int) := by omega
    clear h0 h1 h2
    obtain ⟨gG0, gG1, gG2⟩ := G_0.out
    obtain ⟨rZ0, rZ1, rZ2, rfZ⟩ := Z_0.out
    have rfZ0 := rfZ 0
    have rfZ1 := rfZ 1
    have rfZ2 := rfZ 2
    obtain ⟨cV0, cV1⟩ := V_0.out
    go_enter Try.func29, Try.ntmps29
    go_wp2_with fail
    refine (isValidBases_any P Q G H (by omega) Y_0.out).mono ?_
    rw [K0.out]
    rintro e v1 ⟨rfl, hb⟩
    have HB_1 := Lib.hid (bt HB_0.out hb)
    have G_1 := Lib.hid (G_0.out.below hb)
    have V_1 := Lib.hid (V_0.out.below hb)
    have Z_1 := Lib.hid (Z_0.out.below hb)
    have Y_1 := Lib.hid (Y_0.out.below hb)
    have U_1 := Lib.hid (U_0.out.below hb)
    have R_1 := Lib.hid (R_0.out.below hb)
    have K_1 := Lib.hid (K_0.out.below hb)
    clear hb gG0 gG1 gG2 rZ0 rZ1 rZ2 rfZ rfZ0 rfZ1 rfZ2 cV0 cV1
    obtain ⟨gG0, gG1, gG2⟩ := G_1.out
    obtain ⟨rZ0, rZ1, rZ2, rfZ⟩ := Z_1.out
    have rfZ0 := rfZ 0
    have rfZ1 := rfZ 1
    have rfZ2 := rfZ 2
    obtain ⟨cV0, cV1⟩ := V_1.out
    go_wp2
    (try simp only [Exit.inBlock, Exit.then])
    refine bodyPost_ret (v := .tuple #[.agg #[.slice none 0 0, .slice none 0 0, .slice none 0 0], .bool false]) ?_ rfl ?_
    · rw [results_cell_tmp rfl]; go_simp
    · have hm5 := mid3 v1 (w.heap.size + 2) (.slice none 0 0) (.slice none 0 0) (.slice none 0 0)
      exact ⟨_, _, _, rfl, owQ_nil _ _ (Nat.le_trans HB_1.out.size hm5.size), HB_1.out.trans (hm5.toBelow (by omega) HB_1.out.size)⟩
  replace h2 := Decidable.not_not.1 h2
  have B2 : True := by trivial
  clear B2
  have HRL := Lib.hid h2.symm
  rw [← h2]
  have R_9 := R_0.out
  rw [← h2] at R_9
  clear R_0
  have R_0 := Lib.hid R_9
  clear R_9
  cases h3 : exsB Q l
  · have K3 := Lib.hid (show exsB Q l = false from h3)
    have E1 := Lib.hid (show psB P Q G H hs rs l cs = false by unfold psB; rw [exs_in] at h3; by_cases h9 : l.length ≤ 24; (rw [decide_eq_true h9, Bool.true_and] at h3; rw [h3]; simp); (rw [decide_eq_false (p := 1 ≤ l.length ∧ l.length ≤ 24) (by omega)]; simp))
    rw [E1.out, ps_off E1.out]
    clear h0 h1 h2 h3
    obtain ⟨gG0, gG1, gG2⟩ := G_0.out
    obtain ⟨rZ0, rZ1, rZ2, rfZ⟩ := Z_0.out
    have rfZ0 := rfZ 0
    have rfZ1 := rfZ 1
    have rfZ2 := rfZ 2
    obtain ⟨cV0, cV1⟩ := V_0.out
    go_enter Try.func29, Try.ntmps29
    go_wp2_with fail
    refine (isValidBases_any P Q G H (by omega) Y_0.out).mono ?_
    rw [K0.out]
    rintro e v1 ⟨rfl, hb⟩
    have HB_1 := Lib.hid (bt HB_0.out hb)
    have G_1 := Lib.hid (G_0.out.below hb)
    have V_1 := Lib.hid (V_0.out.below hb)
    have Z_1 := Lib.hid (Z_0.out.below hb)
    have Y_1 := Lib.hid (Y_0.out.below hb)
    have U_1 := Lib.hid (U_0.out.below hb)
    have R_1 := Lib.hid (R_0.out.below hb)
    have K_1 := Lib.hid (K_0.out.below hb)
    clear hb gG0 gG1 gG2 rZ0 rZ1 rZ2 rfZ rfZ0 rfZ1 rfZ2 cV0 cV1
    obtain ⟨gG0, gG1, gG2⟩ := G_1.out
    obtain ⟨rZ0, rZ1, rZ2, rfZ⟩ := Z_1.out
    have rfZ0 := rfZ 0
    have rfZ1 := rfZ 1
    have rfZ2 := rfZ 2
    obtain ⟨cV0, cV1⟩ := V_1.out
    go_wp2_with fail
    refine (areExponents_any P Q G la l.length lc l rfl (by omega) _ (U_1.out.ints).1).mono ?_
    rw [K3.out]
    rintro e v2 ⟨rfl, hb⟩
    have HB_2 := Lib.hid (bt HB_1.out hb)
    have G_2 := Lib.hid (G_1.out.below hb)
    have V_2 := Lib.hid (V_1.out.below hb)
    have Z_2 := Lib.hid (Z_1.out.below hb)
    have Y_2 := Lib.hid (Y_1.out.below hb)
    have U_2 := Lib.hid (U_1.out.below hb)
    have R_2 := Lib.hid (R_1.out.below hb)
    have K_2 := Lib.hid (K_1.out.below hb)
    clear hb gG0 gG1 gG2 rZ0 rZ1 rZ2 rfZ rfZ0 rfZ1 rfZ2 cV0 cV1
    obtain ⟨gG0, gG1, gG2⟩ := G_2.out
    obtain ⟨rZ0, rZ1, rZ2, rfZ⟩ := Z_2.out
    have rfZ0 := rfZ 0
    have rfZ1 := rfZ 1
    have rfZ2 := rfZ 2
    obtain ⟨cV0, cV1⟩ := V_2.out
    go_wp2
    (try simp only [Exit.inBlock, Exit.then])
    refine bodyPost_ret (v := .tuple #[.agg #[.slice none 0 0, .slice none 0 0, .slice none 0 0], .bool false]) ?_ rfl ?_
    · rw [results_cell_tmp rfl]; go_simp
    · have hm5 := mid3 v2 (w.heap.size + 2) (.slice none 0 0) (.slice none 0 0) (.slice none 0 0)
      exact ⟨_, _, _, rfl, owQ_nil _ _ (Nat.le_trans HB_2.out.size hm5.size), HB_2.out.trans (hm5.toBelow (by omega) HB_2.out.size)⟩
  have K3 := Lib.hid (show exsB Q l = true from h3)
  cases h4 : exsB Q rs
  · have K4 := Lib.hid (show exsB Q rs = false from h4)
    have E1 := Lib.hid (show psB P Q G H hs rs l cs = false by unfold psB; rw [exs_in] at h4; by_cases h9 : rs.length ≤ 24; (rw [decide_eq_true h9, Bool.true_and] at h4; rw [h4]; simp); (rw [decide_eq_false (p := 1 ≤ l.length ∧ l.length ≤ 24) (by omega)]; simp))
    rw [E1.out, ps_off E1.out]
    clear h0 h1 h2 h3 h4
    obtain ⟨gG0, gG1, gG2⟩ := G_0.out
    obtain ⟨rZ0, rZ1, rZ2, rfZ⟩ := Z_0.out
    have rfZ0 := rfZ 0
    have rfZ1 := rfZ 1
    have rfZ2 := rfZ 2
    obtain ⟨cV0, cV1⟩ := V_0.out
    go_enter Try.func29, Try.ntmps29
    go_wp2_with fail
    refine (isValidBases_any P Q G H (by omega) Y_0.out).mono ?_
    rw [K0.out]
    rintro e v1 ⟨rfl, hb⟩
    have HB_1 := Lib.hid (bt HB_0.out hb)
    have G_1 := Lib.hid (G_0.out.below hb)
    have V_1 := Lib.hid (V_0.out.below hb)
    have Z_1 := Lib.hid (Z_0.out.below hb)
    have Y_1 := Lib.hid (Y_0.out.below hb)
    have U_1 := Lib.hid (U_0.out.below hb)
    have R_1 := Lib.hid (R_0.out.below hb)
    have K_1 := Lib.hid (K_0.out.below hb)
    clear hb gG0 gG1 gG2 rZ0 rZ1 rZ2 rfZ rfZ0 rfZ1 rfZ2 cV0 cV1
    obtain ⟨gG0, gG1, gG2⟩ := G_1.out
    obtain ⟨rZ0, rZ1, rZ2, rfZ⟩ := Z_1.out
    have rfZ0 := rfZ 0
    have rfZ1 := rfZ 1
    have rfZ2 := rfZ 2
    obtain ⟨cV0, cV1⟩ := V_1.out
    go_wp2_with fail
    refine (areExponents_any P Q G la l.length lc l rfl (by omega) _ (U_1.out.ints).1).mono ?_
    rw [K3.out]
    rintro e v2 ⟨rfl, hb⟩
    have HB_2 := Lib.hid (bt HB_1.out hb)
    have G_2 := Lib.hid (G_1.out.below hb)
    have V_2 := Lib.hid (V_1.out.below hb)
    have Z_2 := Lib.hid (Z_1.out.below hb)
    have Y_2 := Lib.hid (Y_1.out.below hb)
    have U_2 := Lib.hid (U_1.out.below hb)
    have R_2 := Lib.hid (R_1.out.below hb)
    have K_2 := Lib.hid (K_1.out.below hb)
    clear hb gG0 gG1 gG2 rZ0 rZ1 rZ2 rfZ rfZ0 rfZ1 rfZ2 cV0 cV1
    obtain ⟨gG0, gG1, gG2⟩ := G_2.out
    obtain ⟨rZ0, rZ1, rZ2, rfZ⟩ := Z_2.out
    have rfZ0 := rfZ 0
    have rfZ1 := rfZ 1
    have rfZ2 := rfZ 2
    obtain ⟨cV0, cV1⟩ := V_2.out
    go_wp2_with fail
    refine (areExponents_any P Q G ra l.length rc rs HRL.out (by omega) _ (R_2.out.ints).1).mono ?_
    rw [K4.out]
    rintro e v3 ⟨rfl, hb⟩
    have HB_3 := Lib.hid (bt HB_2.out hb)
    have G_3 := Lib.hid (G_2.out.below hb)
    have V_3 := Lib.hid (V_2.out.below hb)
    have Z_3 := Lib.hid (Z_2.out.below hb)
    have Y_3 := Lib.hid (Y_2.out.below hb)
    have U_3 := Lib.hid (U_2.out.below hb)
    have R_3 := Lib.hid (R_2.out.below hb)
    have K_3 := Lib.hid (K_2.out.below hb)
    clear hb gG0 gG1 gG2 rZ0 rZ1 rZ2 rfZ rfZ0 rfZ1 rfZ2 cV0 cV1
    obtain ⟨gG0, gG1, gG2⟩ := G_3.out
    obtain ⟨rZ0, rZ1, rZ2, rfZ⟩ := Z_3.out
    have rfZ0 := rfZ 0
    have rfZ1 := rfZ 1
    have rfZ2 := rfZ 2
    obtain ⟨cV0, cV1⟩ := V_3.out
    go_wp2
    (try simp only [Exit.inBlock, Exit.then])
    refine bodyPost_ret (v := .tuple #[.agg #[.slice none 0 0, .slice none 0 0, .slice none 0 0], .bool false]) ?_ rfl ?_
    · rw [results_cell_tmp rfl]; go_simp
    · have hm5 := mid3 v3 (w.heap.size + 2) (.slice none 0 0) (.slice none 0 0) (.slice none 0 0)
      exact ⟨_, _, _, rfl, owQ_nil _ _ (Nat.le_trans HB_3.out.size hm5.size), HB_3.out.trans (hm5.toBelow (by omega) HB_3.out.size)⟩
  have K4 := Lib.hid (show exsB Q rs = true from h4)
  cases h5 : coB' Q 1 cs
  · have K5 := Lib.hid (show coB' Q 1 cs = false from h5)
    have E1 := Lib.hid (show psB P Q G H hs rs l cs = false by unfold psB; unfold coB' at h5; by_cases h9 : cs.length = 1; (rw [decide_eq_true (show (cs.length : Int) = 1 by omega), Bool.true_and] at h5; rw [show allIn cs 0 (Q - 1) = false from h5]; simp); (rw [decide_eq_false h9]; simp))
    rw [E1.out, ps_off E1.out]
    clear h0 h1 h2 h3 h4 h5
    obtain ⟨gG0, gG1, gG2⟩ := G_0.out
    obtain ⟨rZ0, rZ1, rZ2, rfZ⟩ := Z_0.out
    have rfZ0 := rfZ 0
    have rfZ1 := rfZ 1
    have rfZ2 := rfZ 2
    obtain ⟨cV0, cV1⟩ := V_0.out
    go_enter Try.func29, Try.ntmps29
    go_wp2_with fail
    refine (isValidBases_any P Q G H (by omega) Y_0.out).mono ?_
    rw [K0.out]
    rintro e v1 ⟨rfl, hb⟩
    have HB_1 := Lib.hid (bt HB_0.out hb)
    have G_1 := Lib.hid (G_0.out.below hb)
    have V_1 := Lib.hid (V_0.out.below hb)
    have Z_1 := Lib.hid (Z_0.out.below hb)
    have Y_1 := Lib.hid (Y_0.out.below hb)
    have U_1 := Lib.hid (U_0.out.below hb)
    have R_1 := Lib.hid (R_0.out.below hb)
    have K_1 := Lib.hid (K_0.out.below hb)
    clear hb gG0 gG1 gG2 rZ0 rZ1 rZ2 rfZ rfZ0 rfZ1 rfZ2 cV0 cV1
    obtain ⟨gG0, gG1, gG2⟩ := G_1.out
    obtain ⟨rZ0, rZ1, rZ2, rfZ⟩ := Z_1.out
    have rfZ0 := rfZ 0
    have rfZ1 := rfZ 1
    have rfZ2 := rfZ 2
    obtain ⟨cV0, cV1⟩ := V_1.out
    go_wp2_with fail
    refine (areExponents_any P Q G la l.length lc l rfl (by omega) _ (U_1.out.ints).1).mono ?_
    rw [K3.out]
    rintro e v2 ⟨rfl, hb⟩
    have HB_2 := Lib.hid (bt HB_1.out hb)
    have G_2 := Lib.hid (G_1.out.below hb)
    have V_2 := Lib.hid (V_1.out.below hb)
    have Z_2 := Lib.hid (Z_1.out.below hb)
    have Y_2 := Lib.hid (Y_1.out.below hb)
    have U_2 := Lib.hid (U_1.out.below hb)
    have R_2 := Lib.hid (R_1.out.below hb)
    have K_2 := Lib.hid (K_1.out.below hb)
    clear hb gG0 gG1 gG2 rZ0 rZ1 rZ2 rfZ rfZ0 rfZ1 rfZ2 cV0 cV1
    obtain ⟨gG0, gG1, gG2⟩ := G_2.out
    obtain ⟨rZ0, rZ1, rZ2, rfZ⟩ := Z_2.out
    have rfZ0 := rfZ 0
    have rfZ1 := rfZ 1
    have rfZ2 := rfZ 2
    obtain ⟨cV0, cV1⟩ := V_2.out
    go_wp2_with fail
    refine (areExponents_any P Q G ra l.length rc rs HRL.out (by omega) _ (R_2.out.ints).1).mono ?_
    rw [K4.out]
    rintro e v3 ⟨rfl, hb⟩
    have HB_3 := Lib.hid (bt HB_2.out hb)
    have G_3 := Lib.hid (G_2.out.below hb)
    have V_3 := Lib.hid (V_2.out.below hb)
    have Z_3 := Lib.hid (Z_2.out.below hb)
    have Y_3 := Lib.hid (Y_2.out.below hb)
    have U_3 := Lib.hid (U_2.out.below hb)
    have R_3 := Lib.hid (R_2.out.below hb)
    have K_3 := Lib.hid (K_2.out.below hb)
    clear hb gG0 gG1 gG2 rZ0 rZ1 rZ2 rfZ rfZ0 rfZ1 rfZ2 cV0 cV1
    obtain ⟨gG0, gG1, gG2⟩ := G_3.out
    obtain ⟨rZ0, rZ1, rZ2, rfZ⟩ := Z_3.out
    have rfZ0 := rfZ 0
    have rfZ1 := rfZ 1
    have rfZ2 := rfZ 2
    obtain ⟨cV0, cV1⟩ := V_3.out
    go_wp2_with fail
    refine (areCoins_any P Q G 1 ka cs.length kc cs rfl (by omega) _ (K_3.out.ints).1).mono ?_
    rw [K5.out]
    rintro e v4 ⟨rfl, hb⟩
    have HB_4 := Lib.hid (bt HB_3.out hb)
    have G_4 := Lib.hid (G_3.out.below hb)
    have V_4 := Lib.hid (V_3.out.below hb)
    have Z_4 := Lib.hid (Z_3.out.below hb)
    have Y_4 := Lib.hid (Y_3.out.below hb)
    have U_4 := Lib.hid (U_3.out.below hb)
    have R_4 := Lib.hid (R_3.out.below hb)
    have K_4 := Lib.hid (K_3.out.below hb)
    clear hb gG0 gG1 gG2 rZ0 rZ1 rZ2 rfZ rfZ0 rfZ1 rfZ2 cV0 cV1
    obtain ⟨gG0, gG1, gG2⟩ := G_4.out
    obtain ⟨rZ0, rZ1, rZ2, rfZ⟩ := Z_4.out
    have rfZ0 := rfZ 0
    have rfZ1 := rfZ 1
    have rfZ2 := rfZ 2
    obtain ⟨cV0, cV1⟩ := V_4.out
    go_wp2
    (try simp only [Exit.inBlock, Exit.then])
    refine bodyPost_ret (v := .tuple #[.agg #[.slice none 0 0, .slice none 0 0, .slice none 0 0], .bool false]) ?_ rfl ?_
    · rw [results_cell_tmp rfl]; go_simp
    · have hm5 := mid3 v4 (w.heap.size + 2) (.slice none 0 0) (.slice none 0 0) (.slice none 0 0)
      exact ⟨_, _, _, rfl, owQ_nil _ _ (Nat.le_trans HB_4.out.size hm5.size), HB_4.out.trans (hm5.toBelow (by omega) HB_4.out.size)⟩
  have K5 := Lib.hid (show coB' Q 1 cs = true from h5)
  rw [exs_in, Bool.and_eq_true, decide_eq_true_eq] at h3 h4
  unfold coB' at h5
  rw [Bool.and_eq_true, decide_eq_true_eq] at h5
  have hcs1 : cs.length = 1 := by omega
  have hcsi : allIn cs 0 (Q - 1) = true := h5.2
  have E1 := Lib.hid (show psB P Q G H hs rs l cs = true by unfold psB; rw [h0, decide_eq_true (show 1 ≤ l.length ∧ l.length ≤ 24 by omega), decide_eq_true (show rs.length = l.length by omega), h4.2, h3.2, decide_eq_true hcs1, hcsi]; rfl)
  rw [E1.out]
  obtain ⟨a, ha⟩ := one_list hcs1
  have E2 := Lib.hid (show psV P Q G H hs rs l cs = suP P Q G H (sumFrom Q 0 l) (sumFrom Q 0 rs) a by unfold psV; rw [E1.out, ha]; rfl)
  rw [E2.out]
  have LL := Lib.hid (listB_of' hQr.1 hQr.2 (by omega) h3.2)
  have LR := Lib.hid (listB_of' hQr.1 hQr.2 (by omega) h4.2)
  have SL1 := Lib.hid (show sumMod l Q = sumFrom Q 0 l by unfold sumMod; rw [LL.out]; rfl)
  have SR1 := Lib.hid (show sumMod rs Q = sumFrom Q 0 rs by unfold sumMod; rw [LR.out]; rfl)
  have htt := sum_in (show 0 < Q by omega) l
  have hrr := sum_in (show 0 < Q by omega) rs
  obtain ⟨t, ht⟩ : ∃ t, sumFrom Q 0 l = t := ⟨_, rfl⟩
  obtain ⟨r, hr⟩ : ∃ r, sumFrom Q 0 rs = r := ⟨_, rfl⟩
  rw [ht] at SL1 htt ⊢
  rw [hr] at SR1 hrr ⊢
  have hmr : allIn [t, r] 0 (Q - 1) = true := by simp only [allIn, List.all_cons, List.all_nil, Bool.and_true, Bool.and_eq_true]; exact ⟨inB_true.2 ⟨htt.1, by omega⟩, inB_true.2 ⟨hrr.1, by omega⟩⟩
  have ECB := Lib.hid (show cmB P Q G H hs t r = true by unfold cmB; rw [h0, hmr]; rfl)
  have ECV := Lib.hid (show cmV P Q G H hs t r = cmW P G H t r by unfold cmV; rw [ECB.out]; rfl)
  have hce : elB P Q (cmW P G H t r) = true := by have := pows_el hgd [G, H] [t, r] 1 (one_el hgd) (by simp [allEl, good_el hgd, hH0]) hmr; rwa [pows_two hmo.1.1] at this
  have har : 0 ≤ a ∧ a < Q := in_single (by rw [← ha]; exact hcsi)
  obtain ⟨p, hp⟩ : ∃ p, suP P Q G H t r a = p := ⟨_, rfl⟩
  have hcp := cpl_sum hgd hH0 htt hrr har
  rw [hp] at hcp ⊢
  have HSO := Lib.hid (sum_ok hgd hH0 hce htt)
  obtain ⟨c, hcw⟩ : ∃ c, cmW P G H t r = c := ⟨_, rfl⟩
  rw [hcw] at hcp HSO hce ECV
  have HP := Lib.hid (show cplP P Q G sumL (St.clm [([[H]], [decW P Q G c t])] [H, c, t]) (drH 0 0 [([[H]], [decW P Q G c t])].length cs) (drZ 0 (lastC cs) 0 [([[H]], [decW P Q G c t])].length cs) 0 [r] = p by rw [ha]; exact hcp)
  have HC1 := Lib.hid (show cs.length + 1 = 2 * [([[H]], [decW P Q G c t])].length by rw [hcs1]; rfl)
  have HOK := HSO
  have HG := Lib.hid hgd
  have HC := Lib.hid hce
  have HTr := Lib.hid htt
  have HRr := Lib.hid hrr
  have HAI := Lib.hid hcsi
  clear h0 h1 h2 h3 h4 h5 hgd hH0 hQr hcs1 ha hcsi htt hrr ht hr hmr hce har hp hcp hcw
  obtain ⟨gG0, gG1, gG2⟩ := G_0.out
  obtain ⟨rZ0, rZ1, rZ2, rfZ⟩ := Z_0.out
  have rfZ0 := rfZ 0
  have rfZ1 := rfZ 1
  have rfZ2 := rfZ 2
  obtain ⟨cV0, cV1⟩ := V_0.out
  go_enter Try.func29, Try.ntmps29
  go_wp2_with fail
  refine (isValidBases_any P Q G H (by omega) Y_0.out).mono ?_
  rw [K0.out]
  rintro e v1 ⟨rfl, hb⟩
  have HB_1 := Lib.hid (bt HB_0.out hb)
  have G_1 := Lib.hid (G_0.out.below hb)
  have V_1 := Lib.hid (V_0.out.below hb)
  have Z_1 := Lib.hid (Z_0.out.below hb)
  have Y_1 := Lib.hid (Y_0.out.below hb)
  have U_1 := Lib.hid (U_0.out.below hb)
  have R_1 := Lib.hid (R_0.out.below hb)
  have K_1 := Lib.hid (K_0.out.below hb)
  clear hb gG0 gG1 gG2 rZ0 rZ1 rZ2 rfZ rfZ0 rfZ1 rfZ2 cV0 cV1
  obtain ⟨gG0, gG1, gG2⟩ := G_1.out
  obtain ⟨rZ0, rZ1, rZ2, rfZ⟩ := Z_1.out
  have rfZ0 := rfZ 0
  have rfZ1 := rfZ 1
  have rfZ2 := rfZ 2
  obtain ⟨cV0, cV1⟩ := V_1.out
  go_wp2_with fail
  refine (areExponents_any P Q G la l.length lc l rfl (by omega) _ (U_1.out.ints).1).mono ?_
  rw [K3.out]
  rintro e v2 ⟨rfl, hb⟩
  have HB_2 := Lib.hid (bt HB_1.out hb)
  have G_2 := Lib.hid (G_1.out.below hb)
  have V_2 := Lib.hid (V_1.out.below hb)
  have Z_2 := Lib.hid (Z_1.out.below hb)
  have Y_2 := Lib.hid (Y_1.out.below hb)
  have U_2 := Lib.hid (U_1.out.below hb)
  have R_2 := Lib.hid (R_1.out.below hb)
  have K_2 := Lib.hid (K_1.out.below hb)
  clear hb gG0 gG1 gG2 rZ0 rZ1 rZ2 rfZ rfZ0 rfZ1 rfZ2 cV0 cV1
  obtain ⟨gG0, gG1, gG2⟩ := G_2.out
  obtain ⟨rZ0, rZ1, rZ2, rfZ⟩ := Z_2.out
  have rfZ0 := rfZ 0
  have rfZ1 := rfZ 1
  have rfZ2 := rfZ 2
  obtain ⟨cV0, cV1⟩ := V_2.out
  go_wp2_with fail
  refine (areExponents_any P Q G ra l.length rc rs HRL.out (by omega) _ (R_2.out.ints).1).mono ?_
  rw [K4.out]
  rintro e v3 ⟨rfl, hb⟩
  have HB_3 := Lib.hid (bt HB_2.out hb)
  have G_3 := Lib.hid (G_2.out.below hb)
  have V_3 := Lib.hid (V_2.out.below hb)
  have Z_3 := Lib.hid (Z_2.out.below hb)
  have Y_3 := Lib.hid (Y_2.out.below hb)
  have U_3 := Lib.hid (U_2.out.below hb)
  have R_3 := Lib.hid (R_2.out.below hb)
  have K_3 := Lib.hid (K_2.out.below hb)
  clear hb gG0 gG1 gG2 rZ0 rZ1 rZ2 rfZ rfZ0 rfZ1 rfZ2 cV0 cV1
  obtain ⟨gG0, gG1, gG2⟩ := G_3.out
  obtain ⟨rZ0, rZ1, rZ2, rfZ⟩ := Z_3.out
  have rfZ0 := rfZ 0
  have rfZ1 := rfZ 1
  have rfZ2 := rfZ 2
  obtain ⟨cV0, cV1⟩ := V_3.out
  go_wp2_with fail
  refine (areCoins_any P Q G 1 ka cs.length kc cs rfl (by omega) _ (K_3.out.ints).1).mono ?_
  rw [K5.out]
  rintro e v4 ⟨rfl, hb⟩
  have HB_4 := Lib.hid (bt HB_3.out hb)
  have G_4 := Lib.hid (G_3.out.below hb)
  have V_4 := Lib.hid (V_3.out.below hb)
  have Z_4 := Lib.hid (Z_3.out.below hb)
  have Y_4 := Lib.hid (Y_3.out.below hb)
  have U_4 := Lib.hid (U_3.out.below hb)
  have R_4 := Lib.hid (R_3.out.below hb)
  have K_4 := Lib.hid (K_3.out.below hb)
  clear hb gG0 gG1 gG2 rZ0 rZ1 rZ2 rfZ rfZ0 rfZ1 rfZ2 cV0 cV1
  obtain ⟨gG0, gG1, gG2⟩ := G_4.out
  obtain ⟨rZ0, rZ1, rZ2, rfZ⟩ := Z_4.out
  have rfZ0 := rfZ 0
  have rfZ1 := rfZ 1
  have rfZ2 := rfZ 2
  obtain ⟨cV0, cV1⟩ := V_4.out
  go_wp2_with fail
  refine (sumMod_any la l.length lc l Q rfl (by omega) _ (U_4.out.ints).1).mono ?_
  rw [SL1.out, LL.out]
  rintro e' va ⟨rfl, hb⟩
  have HB_a := Lib.hid (bt HB_4.out hb)
  have G_a := Lib.hid (G_4.out.below hb)
  have V_a := Lib.hid (V_4.out.below hb)
  have Z_a := Lib.hid (Z_4.out.below hb)
  have Y_a := Lib.hid (Y_4.out.below hb)
  have U_a := Lib.hid (U_4.out.below hb)
  have R_a := Lib.hid (R_4.out.below hb)
  have K_a := Lib.hid (K_4.out.below hb)
  clear hb
  clear gG0 gG1 gG2 cV0 cV1 rZ0 rZ1 rZ2 rfZ rfZ0 rfZ1 rfZ2
  obtain ⟨g0, g1, g2⟩ := G_a.out
  obtain ⟨d0, d1⟩ := V_a.out
  go_wp2_with fail
  refine (sumMod_any ra l.length rc rs Q HRL.out (by omega) _ (R_a.out.ints).1).mono ?_
  rw [SR1.out, LR.out]
  rintro e' vb ⟨rfl, hb⟩
  have HB_b := Lib.hid (bt HB_a.out hb)
  have G_b := Lib.hid (G_a.out.below hb)
  have V_b := Lib.hid (V_a.out.below hb)
  have Z_b := Lib.hid (Z_a.out.below hb)
  have Y_b := Lib.hid (Y_a.out.below hb)
  have U_b := Lib.hid (U_a.out.below hb)
  have R_b := Lib.hid (R_a.out.below hb)
  have K_b := Lib.hid (K_a.out.below hb)
  clear hb
  clear g0 g1 g2 d0 d1
  obtain ⟨g0, g1, g2⟩ := G_b.out
  obtain ⟨d0, d1⟩ := V_b.out
  go_wp2_with fail
  refine (commit_any P Q G H (by omega) t r Y_b.out).mono ?_
  rw [ECV.out, ECB.out]
  rintro e' vc ⟨rfl, hb⟩
  have HB_c := Lib.hid (bt HB_b.out hb)
  have G_c := Lib.hid (G_b.out.below hb)
  have V_c := Lib.hid (V_b.out.below hb)
  have Z_c := Lib.hid (Z_b.out.below hb)
  have Y_c := Lib.hid (Y_b.out.below hb)
  have U_c := Lib.hid (U_b.out.below hb)
  have R_c := Lib.hid (R_b.out.below hb)
  have K_c := Lib.hid (K_b.out.below hb)
  clear hb
  clear g0 g1 g2 d0 d1
  go_wp2_with fail
  have hbd : Below vc.heap.size vc vc.drew := (Below.refl _ vc).drew
  have HB_s := Lib.hid (bt HB_c.out hbd)
  have G_s := Lib.hid (G_c.out.below hbd)
  have V_s := Lib.hid (V_c.out.below hbd)
  have Z_s := Lib.hid (Z_c.out.below hbd)
  have Y_s := Lib.hid (Y_c.out.below hbd)
  have K_s := Lib.hid (K_c.out.below hbd)
  clear hbd
  refine wp_region_held_drew (S := (fun w' => (w'.cell? ⟨w.heap.size, 0, none⟩ = some (.int .i64 P) ∧ w'.cell? ⟨w.heap.size, 1, none⟩ = some (.int .i64 Q) ∧ w'.cell? ⟨w.heap.size, 2, none⟩ = some (.int .i64 G)) ∧ w'.cell? ⟨w.heap.size + 1, 0, none⟩ = some (.int .i64 H) ∧ w'.cell? ⟨w.heap.size + 1, 1, none⟩ = some (.slice ya hs.length yc))) (by kernel_rfl) (show _ from ⟨⟨G_c.out.1, G_c.out.2.1, G_c.out.2.2⟩, V_c.out.1, V_c.out.2⟩) (fun hHeld => ?_)
  generalize hW0 : vc.drew = Ws at *
  clear hW0
  refine wpAnyH_take (i := 0) (v := ?_) rfl (by kernel_rfl) (by kernel_rfl) (by kernel_rfl) (fun _ _ _ h => h) (Or.inl ⟨by kernel_rfl, ?_⟩) (by assumption) ?_
  rotate_left 1
  · intro w9 hSw
    try dsimp only at hSw
    go_simp
    try with_reducible rfl
  try simp only [Act.put, List.getElem_toArray, List.getElem_cons_succ, List.getElem_cons_zero, List.setIfInBounds_toArray, List.set_cons_zero, List.set_cons_succ]
  refine wpAnyH_take (i := 1) (v := ?_) rfl (by kernel_rfl) (by kernel_rfl) (by kernel_rfl) (fun _ _ _ h => h) (Or.inl ⟨by kernel_rfl, ?_⟩) (by assumption) ?_
  rotate_left 1
  · intro w9 hSw
    try dsimp only at hSw
    go_simp
    try with_reducible rfl
  try simp only [Act.put, List.getElem_toArray, List.getElem_cons_succ, List.getElem_cons_zero, List.setIfInBounds_toArray, List.set_cons_zero, List.set_cons_succ]
  refine wpAnyH_take (i := 2) (v := ?_) rfl (by kernel_rfl) (by kernel_rfl) (by kernel_rfl) (fun _ _ _ h => h) (Or.inl ⟨by kernel_rfl, ?_⟩) (by assumption) ?_
  rotate_left 1
  · intro w9 hSw
    try dsimp only at hSw
    go_simp
    try with_reducible rfl
  try simp only [Act.put, List.getElem_toArray, List.getElem_cons_succ, List.getElem_cons_zero, List.setIfInBounds_toArray, List.set_cons_zero, List.set_cons_succ]
  refine wpAnyH_take (i := 3) (v := ?_) rfl (by kernel_rfl) (by kernel_rfl) (by kernel_rfl) (fun _ _ _ h => h) (Or.inl ⟨by kernel_rfl, ?_⟩) (by assumption) ?_
  rotate_left 1
  · intro w9 hSw
    try dsimp only at hSw
    go_simp
    try with_reducible rfl
  try simp only [Act.put, List.getElem_toArray, List.getElem_cons_succ, List.getElem_cons_zero, List.setIfInBounds_toArray, List.set_cons_zero, List.set_cons_succ]
  refine wpAnyH_take (i := 4) (v := ?_) rfl (by kernel_rfl) (by kernel_rfl) (by kernel_rfl) (fun _ _ _ h => h) (Or.inl ⟨by kernel_rfl, ?_⟩) (by assumption) ?_
  rotate_left 1
  · intro w9 hSw
    try dsimp only at hSw
    go_simp
    try with_reducible rfl
  try simp only [Act.put, List.getElem_toArray, List.getElem_cons_succ, List.getElem_cons_zero, List.setIfInBounds_toArray, List.set_cons_zero, List.set_cons_succ]
  refine wpAnyH_take (i := 7) (v := ?_) rfl (by kernel_rfl) (by kernel_rfl) (by kernel_rfl) (fun _ _ _ h => h) (Or.inl ⟨by kernel_rfl, ?_⟩) (by assumption) ?_
  rotate_left 1
  · intro w9 hSw
    try dsimp only at hSw
    go_simp
    try with_reducible rfl
  try simp only [Act.put, List.getElem_toArray, List.getElem_cons_succ, List.getElem_cons_zero, List.setIfInBounds_toArray, List.set_cons_zero, List.set_cons_succ]
  refine wpAnyH_take (i := 8) (v := ?_) rfl (by kernel_rfl) (by kernel_rfl) (by kernel_rfl) (fun _ _ _ h => h) (Or.inl ⟨by kernel_rfl, ?_⟩) (by assumption) ?_
  rotate_left 1
  · intro w9 hSw
    try dsimp only at hSw
    go_simp
    try with_reducible rfl
  try simp only [Act.put, List.getElem_toArray, List.getElem_cons_succ, List.getElem_cons_zero, List.setIfInBounds_toArray, List.set_cons_zero, List.set_cons_succ]
  refine wpAnyH_ready (rs := [5]) (by kernel_rfl) (by simp) ?_
  refine AllReadyH.cons rfl (fun K hK => ?_) (AllReadyH.nil)
  go_simp
  go_at_call 101
  refine (sumOf_any P Q G H c t HG.out HC.out HTr.out Y_s.out).mono ?_
  rintro e' Wsf ⟨v1, v2, rfl, hk, hb⟩
  have HB_sf := Lib.hid (bt HB_s.out hb)
  have G_sf := Lib.hid (G_s.out.below hb)
  have V_sf := Lib.hid (V_s.out.below hb)
  have Z_sf := Lib.hid (Z_s.out.below hb)
  have Y_sf := Lib.hid (Y_s.out.below hb)
  have K_sf := Lib.hid (K_s.out.below hb)
  have KC_sf := Lib.hid hk
  clear hk
  clear hb
  go_wp2_with fail
  refine hK.out _ _ (show _ from ⟨⟨G_sf.out.1, G_sf.out.2.1, G_sf.out.2.2⟩, V_sf.out.1, V_sf.out.2⟩) (fun hHeld => ?_)
  clear hK K
  try simp only [Act.put, List.getElem_toArray, List.getElem_cons_succ, List.getElem_cons_zero, List.setIfInBounds_toArray, List.set_cons_zero, List.set_cons_succ]
  refine wpAnyH_take (i := 6) (v := ?_) rfl (by kernel_rfl) (by kernel_rfl) (by kernel_rfl) (fun _ _ _ h => h) (Or.inl ⟨by kernel_rfl, ?_⟩) (by assumption) ?_
  rotate_left 1
  · intro w9 hSw
    try dsimp only at hSw
    go_simp
    try with_reducible rfl
  try simp only [Act.put, List.getElem_toArray, List.getElem_cons_succ, List.getElem_cons_zero, List.setIfInBounds_toArray, List.set_cons_zero, List.set_cons_succ]
  refine wpAnyH_ready (rs := [9]) (by kernel_rfl) (by simp) ?_
  refine AllReadyH.cons rfl (fun K hK => ?_) AllReadyH.nil
  go_simp
  go_at_call 100
  have hz9 := Z_sf.out.lt
  refine (proveCaseClm_any P Q G HG.out sumL (by decide) HOK.out 0 r cs HRr.out (by simp) (by simp) rfl HC1.out HAI.out KC_sf.out K_sf.out).mono ?_
  rw [HP.out]
  rintro e' v9 ⟨qa, qb, qc, rfl, hq, hb⟩
  obtain ⟨a1, c1, a2, c2, a3, c3, rfl, rfl, rfl⟩ := hq.shape
  have G_z := Lib.hid (G_sf.out.below hb)
  have V_z := Lib.hid (V_sf.out.below hb)
  have Z_z := Lib.hid (Z_sf.out.below hb)
  have HB_z := Lib.hid (bt HB_sf.out hb)
  have AQ := Lib.hid hq
  clear hq hb
  go_wp2_with fail
  refine hK.out _ _ (show _ from ⟨⟨G_z.out.1, G_z.out.2.1, G_z.out.2.2⟩, V_z.out.1, V_z.out.2⟩) (fun hHeld => ?_)
  clear hK K
  try simp only [Act.put, List.getElem_toArray, List.getElem_cons_succ, List.getElem_cons_zero, List.setIfInBounds_toArray, List.set_cons_zero, List.set_cons_succ]
  refine wpAnyH_take (i := 10) (v := ?_) rfl (by kernel_rfl) (by kernel_rfl) (by kernel_rfl) (fun _ _ _ h => h) (Or.inl ⟨by kernel_rfl, ?_⟩) (by assumption) ?_
  rotate_left 1
  · intro w9 hSw
    try dsimp only at hSw
    go_simp
    try with_reducible rfl
  try simp only [Act.put, List.getElem_toArray, List.getElem_cons_succ, List.getElem_cons_zero, List.setIfInBounds_toArray, List.set_cons_zero, List.set_cons_succ]
  refine wpAnyH_take (i := 11) (v := ?_) rfl (by kernel_rfl) (by kernel_rfl) (by kernel_rfl) (fun _ _ _ h => h) (Or.inl ⟨by kernel_rfl, ?_⟩) (by assumption) ?_
  rotate_left 1
  · intro w9 hSw
    try dsimp only at hSw
    go_simp
    try with_reducible rfl
  try simp only [Act.put, List.getElem_toArray, List.getElem_cons_succ, List.getElem_cons_zero, List.setIfInBounds_toArray, List.set_cons_zero, List.set_cons_succ]
  have hm5 := mid3 v9 (w.heap.size + 2) (.slice a1 p.c.length c1) (.slice a2 p.h.length c2) (.slice a3 p.r.length c3)
  have hhs := hm5.size
  have G_y := Lib.hid (G_z.out.mid hm5 (.inl (by omega)))
  have V_y := Lib.hid (show D2 _ (w.heap.size + 1) (.int .i64 H) (.slice ya hs.length yc) from mid_d2 V_z.out hm5 (.inl (by omega)))
  have AY := Lib.hid (AQ.out.mid hm5 (.inr (by omega)))
  have HB_y := Lib.hid (HB_z.out.trans (hm5.toBelow (by omega) HB_z.out.size))
  clear hm5
  refine wpAnyH_ready (rs := [12]) (by kernel_rfl) (by simp) ?_
  refine AllReadyH.cons rfl (fun K hK => ?_) AllReadyH.nil
  obtain ⟨y0, y1, y2, yf⟩ := Z_z.out
  have yf0 := yf 0
  have yf1 := yf 1
  have yf2 := yf 2
  clear yf
  go_simp
  refine hK.out _ _ (show _ from ⟨⟨G_y.out.1, G_y.out.2.1, G_y.out.2.2⟩, V_y.out.1, V_y.out.2⟩) (fun hHeld => ?_)
  clear hK K
  try simp only [Act.put, List.getElem_toArray, List.getElem_cons_succ, List.getElem_cons_zero, List.setIfInBounds_toArray, List.set_cons_zero, List.set_cons_succ]
  refine wpAnyH_take (i := 13) (v := ?_) rfl (by kernel_rfl) (by kernel_rfl) (by kernel_rfl) (fun _ _ _ h => h) (Or.inl ⟨by kernel_rfl, ?_⟩) (by assumption) ?_
  rotate_left 1
  · intro w9 hSw
    try dsimp only at hSw
    go_simp
    try with_reducible rfl
  try simp only [Act.put, List.getElem_toArray, List.getElem_cons_succ, List.getElem_cons_zero, List.setIfInBounds_toArray, List.set_cons_zero, List.set_cons_succ]
  refine wpAnyH_done (by kernel_rfl) ?_ _
  go_wp2
  (try simp only [Exit.inBlock, Exit.then])
  refine bodyPost_ret (v := .tuple #[.agg #[.slice a1 p.c.length c1, .slice a2 p.h.length c2, .slice a3 p.r.length c3], .bool true]) ?_ rfl ?_
  · rw [results_cell_tmp rfl]; go_simp
  · exact ⟨_, _, _, rfl, AY.out.wide (by omega) hhs (Nat.le_refl _), HB_y.out⟩

end Go.Proofs.Ytfjaohmildkeoaa

