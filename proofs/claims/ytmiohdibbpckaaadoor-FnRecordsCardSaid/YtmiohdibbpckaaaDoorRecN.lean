/- Records are read back: the plain facts. -/
import Derived.Test.YtmiohdibbpckaaaDoorRecL
import Derived.Test.YtmiohdibbpckaaaDoorRecI
import Derived.Test.YtmiohdibbpckaaaDoorRecG
import Derived.Test.YtmiohdibbpckaaaDoorRecF
import Derived.Test.YtmiohdibbpckaaaDoorFmtB
import Derived.Test.YtmiohdibbpckaaaDoorTyI
import Derived.Test.YtmiohdibbpckaaaDoorRecA
import Derived.Test.YtmiohdibbpckaaaDoorOpP
import Derived.Deep.RegionHeld3
import Derived.Test.YtmiohdibbpckaaaDoorRecQ
import Derived.Test.YtmiohdibbpckaaaDoorFmtD
namespace Go.Proofs.YtmiohdibbpckaaaDoor
open Go.RowKit

theorem spl_enc (zss : List (List Int)) : ∀ (acc : List (List Int)) (r : List Int), spl zss.length (enc zss ++ r) acc = some (acc ++ zss, r) := by
  induction zss with
  | nil => intro acc r; simp [enc, spl]
  | cons z zs ih =>
    intro acc r
    have h1 : enc (z :: zs) ++ r = (z.length : Int) :: (z ++ (enc zs ++ r)) := by rw [enc_cons]; simp
    have htk : tkB ((z.length : Int) :: (z ++ (enc zs ++ r))) = true := tkB_cons.2 ⟨by omega, by simp; omega⟩
    rw [List.length_cons, h1, spl_go htk]
    have hA : tkA ((z.length : Int) :: (z ++ (enc zs ++ r))) = z := by simp [tkA]
    have hR : tkR ((z.length : Int) :: (z ++ (enc zs ++ r))) = enc zs ++ r := by
      unfold tkR
      rw [List.headD_cons, Int.toNat_natCast, Nat.add_comm, List.drop_succ_cons, List.drop_left]
    rw [hA, hR, ih]
    simp
theorem splOk_enc (zss : List (List Int)) : splOk zss.length (enc zss) = true ∧ splRes zss.length (enc zss) = zss := by
  have h := spl_enc zss [] []
  rw [List.append_nil, List.nil_append] at h
  exact splOk_some h
theorem dp_enc {q : PrD} (h : hashB (encP q) = true) : dpB (encP q) = true ∧ dpP (encP q) = q := by
  have h3 := splOk_enc [q.c, q.h, q.r]
  have e1 : dpB (encP q) = true := by unfold dpB; rw [h]; exact h3.1
  refine ⟨e1, ?_⟩
  rw [dpP_yes e1]
  show prOf (splRes 3 (enc [q.c, q.h, q.r])) = q
  rw [show splRes 3 (enc [q.c, q.h, q.r]) = [q.c, q.h, q.r] from h3.2]
  rfl
theorem sp_enc {zss : List (List Int)} (h : hashB ((zss.length : Int) :: enc zss) = true) : cspB ((zss.length : Int) :: enc zss) = true ∧ spR ((zss.length : Int) :: enc zss) = zss := by
  have h3 := splOk_enc zss
  have e1 : cspB ((zss.length : Int) :: enc zss) = true := by
    unfold cspB; rw [h, List.headD_cons, Int.toNat_natCast, List.drop_succ_cons, List.drop_zero, h3.1]; simp
  refine ⟨e1, ?_⟩
  rw [spR_yes e1, List.headD_cons, Int.toNat_natCast, List.drop_succ_cons, List.drop_zero, h3.2]
theorem dc_enc {xs : List Int} (h : dcB xs = true) : encC (dcL xs) = xs ∧ hashB (encC (dcL xs)) = true := by
  obtain ⟨h1, h2, h3⟩ := dcB_true.1 h
  have e : encC (dcL xs) = xs := by
    rw [dcL_yes h]
    cases xs with
    | nil => simp at h2
    | cons x t =>
      unfold encC
      rw [List.headD_cons] at h3
      rw [List.drop_succ_cons, List.drop_zero, h3]
      congr 2
      simp at h2 ⊢
      omega
  exact ⟨e, by rw [e]; exact h1⟩
theorem txt_back {s : ByteArray} (h : hashB (txt s) = true) : dtB (txt s) = true ∧ dtS (txt s) = s := by
  have hl := (hashB_true.1 h).1
  rw [txt_length] at hl
  have e1 : dtB (txt s) = true := by
    unfold txt
    rw [dtB_cons]
    refine ⟨by rw [lbl_length]; omega, by rw [lbl_length], ?_⟩
    exact List.all_eq_true.2 fun z hz => inB_true.2 (lbl_mem hz)
  refine ⟨e1, ?_⟩
  rw [dtS_yes e1]
  refine WideShapes.bytes_inj ?_
  unfold txt
  rw [List.drop_succ_cons, List.drop_zero]
  have e : ((fun z : Int => UInt8.ofNat z.toNat) ∘ fun b : UInt8 => (b.toNat : Int)) = id := funext fun b => by simp
  simp [toBy, lbl, e]

/-! ### A formatted list is read back -/
theorem dgF_dec (n : Nat) : n ≤ 4611686018427387903 → dgF (Lib.decDigits n) (-1) = some (n : Int) := by
  induction n using Nat.strongRecOn with
  | _ n ih =>
    intro hn
    rw [Lib.decDigits]
    by_cases h : n < 10
    · rw [dif_pos h, dgF_cons]
      have e : ((UInt8.ofNat (48 + n)).toNat : Int) = 48 + n := by rw [UInt8.toNat_ofNat']; omega
      have : dgN (-1) ((UInt8.ofNat (48 + n)).toNat : Int) = some (n : Int) := by
        rw [e]; unfold dgN
        rw [if_neg (by omega), if_neg (by omega), if_neg (by omega), if_pos rfl]; congr 1; omega
      rw [this]; rfl
    · rw [dif_neg h, dgF_append, ih (n / 10) (by omega) (by omega)]
      show dgF [UInt8.ofNat (48 + n % 10)] _ = _
      rw [dgF_cons]
      have e : ((UInt8.ofNat (48 + n % 10)).toNat : Int) = 48 + (n % 10 : Nat) := by rw [UInt8.toNat_ofNat']; omega
      have : dgN ((n / 10 : Nat) : Int) ((UInt8.ofNat (48 + n % 10)).toNat : Int) = some (n : Int) := by
        rw [e]; unfold dgN
        rw [if_neg (by omega), if_neg (by omega), if_neg (by omega), if_neg (by omega), if_neg (by omega)]; congr 1; omega
      rw [this]; rfl
theorem dec_no (n : Nat) : ∀ c ∈ Lib.decDigits n, 48 ≤ c.toNat ∧ c.toNat ≤ 57 := by
  induction n using Nat.strongRecOn with
  | _ n ih =>
    intro c hc
    rw [Lib.decDigits] at hc
    by_cases h : n < 10
    · rw [dif_pos h] at hc
      obtain rfl := List.mem_singleton.1 hc
      rw [UInt8.toNat_ofNat']; omega
    · rw [dif_neg h] at hc
      rcases List.mem_append.1 hc with hc | hc
      · exact ih (n / 10) (by omega) c hc
      · obtain rfl := List.mem_singleton.1 hc
        rw [UInt8.toNat_ofNat']; omega
theorem dec_ne (n : Nat) : Lib.decDigits n ≠ [] := by
  rw [Lib.decDigits]; split <;> simp
theorem pcs_word (w : List UInt8) (hw : ∀ c ∈ w, c ≠ 44) (t : List UInt8) : ∀ cur, pcs 44 cur (w ++ t) = pcs 44 (cur ++ w) t := by
  induction w with
  | nil => intro cur; simp
  | cons c w ih =>
    intro cur
    rw [List.cons_append, pcs_go _ _ (hw c (by simp)), ih (fun d hd => hw d (by simp [hd]))]
    simp
theorem itoa_nat {z : Int} (h : 0 ≤ z) : Lib.itoa z = Lib.decDigits z.toNat := by unfold Lib.itoa; rw [if_neg (by omega)]
theorem itoa_word {z : Int} (h : 0 ≤ z) : ∀ c ∈ Lib.itoa z, c ≠ 44 := by
  intro c hc e
  rw [itoa_nat h] at hc
  have := dec_no _ c hc
  subst e
  exact absurd this.1 (by decide)
theorem pcs_join (zs : List Int) (h : ∀ z ∈ zs, 0 ≤ z) : ∀ z, 0 ≤ z → pcs 44 [] (Lib.join ((z :: zs).map Lib.itoa) [44]) = (z :: zs).map Lib.itoa := by
  induction zs with
  | nil =>
    intro z hz
    rw [List.map_cons, List.map_nil, Lib.join_one]
    have := pcs_word (Lib.itoa z) (itoa_word hz) [] []
    rw [List.append_nil, List.nil_append, pcs_nil] at this
    exact this
  | cons y ys ih =>
    intro z hz
    have e : Lib.join ((z :: y :: ys).map Lib.itoa) [44] = Lib.itoa z ++ (44 :: Lib.join ((y :: ys).map Lib.itoa) [44]) := by
      rw [List.map_cons, Lib.join_cons, List.map_cons, Lib.join_cons]; simp [Lib.joinTail]
    rw [e, pcs_word _ (itoa_word hz), List.nil_append, pcs_sep, ih (fun x hx => h x (by simp [hx])) y (h y (by simp))]
    rfl
theorem numsO_itoa (zs : List Int) (h : ∀ z ∈ zs, 0 ≤ z ∧ z ≤ 4611686018427387903) : numsO (zs.map Lib.itoa) = some zs := by
  induction zs with
  | nil => rfl
  | cons z zs ih =>
    obtain ⟨h0, h1⟩ := h z (by simp)
    rw [List.map_cons, numsO_cons, ih (fun x hx => h x (by simp [hx])), numO_some (by rw [itoa_nat h0]; exact dec_ne _), itoa_nat h0, dgF_dec _ (by omega), Int.toNat_of_nonneg h0]
    rfl
theorem fmt_back {zs : List Int} (h : hashB zs = true) : plO (fmtS zs) = some zs := by
  obtain ⟨hl, hd⟩ := hashB_true.1 h
  have hd' := digsB_true.1 hd
  rw [fmtS_yes h]
  cases zs with
  | nil => exact if_pos rfl
  | cons z t =>
    have e : fmtL (z :: t) = Lib.join ((z :: t).map Lib.itoa) [44] := if_neg (by simp)
    have hne : (⟨(fmtL (z :: t)).toArray⟩ : ByteArray) ≠ ⟨#[45]⟩ := by
      intro h2
      have h3 := congrArg (fun s : ByteArray => s.data.toList) h2
      simp only at h3
      have h4 : fmtL (z :: t) = [45] := by simpa using h3
      rw [e, List.map_cons, Lib.join_cons, itoa_nat (hd' z (by simp)).1] at h4
      cases hdd : Lib.decDigits z.toNat with
      | nil => exact dec_ne _ hdd
      | cons c r =>
        have hc := dec_no z.toNat c (by rw [hdd]; simp)
        rw [hdd] at h4
        have : c = 45 := by simpa using (List.cons.inj h4).1
        subst this
        exact absurd hc.1 (by decide)
    rw [plO_nums hne]
    have e2 : (⟨(fmtL (z :: t)).toArray⟩ : ByteArray).data.toList = fmtL (z :: t) := by simp
    rw [e2, e, pcs_join t (fun x hx => (hd' x (by simp [hx])).1) z (hd' z (by simp)).1, numsO_itoa _ hd', Option.bind_some, if_pos h]

end Go.Proofs.YtmiohdibbpckaaaDoor

/- The laws' comparisons of proofs and of lists of lists. -/
namespace Go.Proofs.YtmiohdibbpckaaaDoor
open Go.RowKit

theorem sameI_any {P P' : Nat} {w : World} {v v' : Value} {zs : List Int} (h : InI P w v zs) (h' : InI P' w v' zs) (hl : zs.length ≤ 1048576) :
    Calls Tryd.prog 15 #[v, v'] w fun e w' => e = .returned (.bool true) ∧ Below w.heap.size w w' := by
  obtain ⟨ad, cap, rfl⟩ := h.shape
  obtain ⟨ad', cap', rfl⟩ := h'.shape
  exact sameInts_same ad ad' _ _ cap cap' zs rfl rfl (by omega) w h.parts.2.1.ints h'.parts.2.1.ints

theorem sameQ_any {P P' q q' cap cap' : Nat} {ad ad' : Option Addr} {w : World} {zs : List Int} (h : InI P w (.slice ad q cap) zs) (h' : InI P' w (.slice ad' q' cap') zs) (hq : zs.length = q) (hl : q ≤ 1048576) :
    Calls Tryd.prog 15 #[.slice ad q cap, .slice ad' q' cap'] w.drew fun e w' => e = .returned (.bool true) ∧ Below w.drew.heap.size w.drew w' :=
  sameI_any (w := w.drew) (h.below (Below.refl _ w).drew) (h'.below (Below.refl _ w).drew) (by omega)
theorem inP_c {P : Nat} {w : World} {p : PrD} {a b c : Value} (h : InP P w (.agg #[a, b, c]) p) : InI P w a p.c := by
  obtain ⟨a', b', c', hv, h1, h2, h3⟩ := h
  simp only [Value.agg.injEq, Array.mk.injEq, List.cons.injEq, and_true] at hv
  obtain ⟨rfl, rfl, rfl⟩ := hv
  exact h1
theorem inP_h {P : Nat} {w : World} {p : PrD} {a b c : Value} (h : InP P w (.agg #[a, b, c]) p) : InI P w b p.h := by
  obtain ⟨a', b', c', hv, h1, h2, h3⟩ := h
  simp only [Value.agg.injEq, Array.mk.injEq, List.cons.injEq, and_true] at hv
  obtain ⟨rfl, rfl, rfl⟩ := hv
  exact h2
theorem inP_r {P : Nat} {w : World} {p : PrD} {a b c : Value} (h : InP P w (.agg #[a, b, c]) p) : InI P w c p.r := by
  obtain ⟨a', b', c', hv, h1, h2, h3⟩ := h
  simp only [Value.agg.injEq, Array.mk.injEq, List.cons.injEq, and_true] at hv
  obtain ⟨rfl, rfl, rfl⟩ := hv
  exact h3
theorem len_mem {zss : List (List Int)} {z : List Int} (h : z ∈ zss) : z.length ≤ nS zss := by
  induction zss with
  | nil => cases h
  | cons x xs ih =>
    rw [nS_cons]
    rcases List.mem_cons.1 h with rfl | h
    · omega
    · have := ih h; omega
theorem mem_drop_l {zss rest : List (List Int)} {z : List Int} {k : Nat} (h : zss.drop k = z :: rest) : z ∈ zss :=
  List.mem_of_mem_drop (by rw [h]; exact List.mem_cons_self)
theorem cell_kept {w w2 : World} {b o : Nat} {u : Value} (hl : b < w.heap.size) (h : w.cell? ⟨b, o, none⟩ = some u) (hb : Below w.drew.heap.size w.drew w2) : w2.cell? ⟨b, o, none⟩ = some u := by
  have e : w2.heap[b]? = w.heap[b]? := hb.block b hl
  unfold World.cell? at h ⊢
  rw [e]; exact h

set_option maxRecDepth 100000 in
set_option maxHeartbeats 1600000 in
theorem pSameProof_same {P P' : Nat} {w : World} {v v' : Value} {p : PrD} (h : InP P w v p) (h' : InP P' w v' p) (hl : p.n ≤ 1048576) :
    Calls Tryd.prog 21 #[v, v'] w fun e w' => e = .returned (.bool true) ∧ Below w.heap.size w w' := by
  obtain ⟨a1, a2, b1, b2, c1, c2, rfl⟩ := h.shape
  obtain ⟨d1, d2, e1, e2, f1, f2, rfl⟩ := h'.shape
  have hn : p.c.length + p.h.length + p.r.length ≤ 1048576 := hl
  have hal := ba w (.cells #[.slice a1 p.c.length a2, .slice b1 p.h.length b2, .slice c1 p.r.length c2] 40)
  have hal2 := ba (w.alloc (.cells #[.slice a1 p.c.length a2, .slice b1 p.h.length b2, .slice c1 p.r.length c2] 40)) (.cells #[.slice d1 p.c.length d2, .slice e1 p.h.length e2, .slice f1 p.r.length f2] 40)
  have HB := Lib.hid (bt hal hal2)
  have HX := Lib.hid ((b3_new w (.slice a1 p.c.length a2) (.slice b1 p.h.length b2) (.slice c1 p.r.length c2) 40).below hal2)
  have HY := Lib.hid (show B3 ((w.alloc (.cells #[.slice a1 p.c.length a2, .slice b1 p.h.length b2, .slice c1 p.r.length c2] 40)).alloc (.cells #[.slice d1 p.c.length d2, .slice e1 p.h.length e2, .slice f1 p.r.length f2] 40)) (w.heap.size + 1) (.slice d1 p.c.length d2) (.slice e1 p.h.length e2) (.slice f1 p.r.length f2) from by
    have h := b3_new (w.alloc (.cells #[.slice a1 p.c.length a2, .slice b1 p.h.length b2, .slice c1 p.r.length c2] 40)) (.slice d1 p.c.length d2) (.slice e1 p.h.length e2) (.slice f1 p.r.length f2) 40
    simpa using h)
  have HP := Lib.hid ((h.below hal).below hal2)
  have HQ := Lib.hid ((h'.below hal).below hal2)
  clear hal hal2 h h'
  obtain ⟨x0, x1, x2, _⟩ := HX.out
  obtain ⟨y0, y1, y2, _⟩ := HY.out
  go_enter Tryd.func21, Tryd.ntmps21
  go_wp2_with fail
  refine (sameI_any (inP_c HP.out) (inP_c HQ.out) (by omega)).mono ?_
  rintro e w1 ⟨rfl, hb1⟩
  have HB1 := Lib.hid (bt HB.out hb1)
  have HX1 := Lib.hid (HX.out.below hb1)
  have HY1 := Lib.hid (HY.out.below hb1)
  have HP1 := Lib.hid (HP.out.below hb1)
  have HQ1 := Lib.hid (HQ.out.below hb1)
  clear hb1 x0 x1 x2 y0 y1 y2
  obtain ⟨x0, x1, x2, _⟩ := HX1.out
  obtain ⟨y0, y1, y2, _⟩ := HY1.out
  go_wp2_with fail
  refine (sameI_any (inP_h HP1.out) (inP_h HQ1.out) (by omega)).mono ?_
  rintro e w2 ⟨rfl, hb2⟩
  have HB2 := Lib.hid (bt HB1.out hb2)
  have HX2 := Lib.hid (HX1.out.below hb2)
  have HY2 := Lib.hid (HY1.out.below hb2)
  have HP2 := Lib.hid (HP1.out.below hb2)
  have HQ2 := Lib.hid (HQ1.out.below hb2)
  clear hb2 x0 x1 x2 y0 y1 y2
  obtain ⟨x0, x1, x2, _⟩ := HX2.out
  obtain ⟨y0, y1, y2, _⟩ := HY2.out
  go_wp2_with fail
  refine (sameI_any (inP_r HP2.out) (inP_r HQ2.out) (by omega)).mono ?_
  rintro e w3 ⟨rfl, hb3⟩
  have HB3 := Lib.hid (bt HB2.out hb3)
  clear hb3 x0 x1 x2 y0 y1 y2
  go_wp2
  go_ret
  exact ⟨rfl, HB3.out⟩

set_option maxRecDepth 100000 in
set_option maxHeartbeats 1600000 in
theorem sameLists_same {P P' : Nat} {w : World} {v v' : Value} {zss : List (List Int)} (h : InS P w v zss) (h' : InS P' w v' zss) (hl : zss.length ≤ 1048576) (hr : nS zss ≤ 1048576) :
    Calls Tryd.prog 26 #[v, v'] w fun e w' => e = .returned (.bool true) ∧ Below w.heap.size w w' := by
  obtain ⟨ad, cap, rfl⟩ := h.shape
  obtain ⟨ad', cap', rfl⟩ := h'.shape
  generalize hn : zss.length = n at *
  have HN := Lib.hid hn
  have H := Lib.hid h
  have H' := Lib.hid h'
  have HR := Lib.hid hr
  clear h h' hn hr
  go_enter Tryd.func26, Tryd.ntmps26
  go_wp2
  go_loopw [5, 13] (fun _ K wr => ∃ k : Nat, k ≤ n ∧ K = .int .i64 k ∧ Below w.heap.size w wr) (fun _ K _ => n - (intOf K).toNat)
  case atStart => exact ⟨0, Nat.zero_le _, rfl, Below.refl _ _⟩
  case round =>
    obtain ⟨k, hk, rfl, hbel⟩ := hrel
    have HB := Lib.hid hbel
    by_cases hkn : k < n
    · have hki : (k : Int) < (n : Int) := by omega
      obtain ⟨b, off, a, c, z, rfl, hb, hc, hz, hd⟩ := (H.out.below hbel).at (k := k) (by have := HN.out; omega)
      obtain ⟨b', off', a', c', z', rfl, hb', hc', hz', hd'⟩ := (H'.out.below hbel).at (k := k) (by have := HN.out; omega)
      obtain rfl : z = z' := by rw [hd] at hd'; exact (List.cons.inj hd').1
      have hzl : z.length ≤ 1048576 := Nat.le_trans (len_mem (mem_drop_l hd)) HR.out
      have HZ := Lib.hid hz
      have HZ' := Lib.hid hz'
      generalize hzn : z.length = q at *
      have HQ := Lib.hid hzn
      clear hd hd' hz hz' hbel hzn
      go_wp2_with fail
      go_region_held3 (fun w' => w'.cell? ⟨b, off + k, none⟩ = some (.slice a q c) ∧ w'.cell? ⟨b', off' + k, none⟩ = some (.slice a' q c')) (first | exact ⟨hc, hc'⟩ | exact ⟨d0, d1⟩) ((first
        | (go_at_call 15; refine (sameQ_any HZ.out HZ'.out HQ.out hzl).mono ?_; rintro e w2 ⟨rfl, hb2⟩; have d0 := cell_kept hb hc hb2; have d1 := cell_kept hb' hc' hb2; have HB2 := Lib.hid (show Below w.heap.size w w2 from bt HB.out.drew hb2); clear hb2)
        | fail))
      all_goals (
        go_wp2
        go_roundw
        case rel => exact ⟨k + 1, by omega, by go_num, by first | exact HB2.out | exact HB2.out.drew⟩
        case measure => simp only [intOf]; omega)
    · have hki : ¬ (k : Int) < (n : Int) := by omega
      clear hbel
      go_wp2
      go_ret
      exact ⟨rfl, HB.out⟩

end Go.Proofs.YtmiohdibbpckaaaDoor

/- The law FnRecords: the walk. -/
namespace Go.Proofs.YtmiohdibbpckaaaDoor
open Go.RowKit

theorem fmtS_size {zs : List Int} (h : hashB zs = true) : (fmtS zs).size ≤ 10000 := by
  obtain ⟨hl, hd⟩ := hashB_true.1 h
  rw [fmtS_yes h]
  have h1 : (fmtL zs).length ≤ 8001 := by
    unfold fmtL
    split
    · simp
    · have := fmtJ_short hd zs.length
      rw [List.take_of_length_le (Nat.le_refl _)] at this
      omega
  have h2 : (⟨(fmtL zs).toArray⟩ : ByteArray).size = (fmtL zs).length := by simp [ByteArray.size]
  omega

set_option maxRecDepth 100000 in
set_option maxHeartbeats 6400000 in
theorem FnRecords_true (a0 a1 : Option Addr) (len0 len1 cap0 cap1 : Nat) (w : World) (s0 : len0 ≤ 140737488351232) (hb0 : IsB w a0 len0) (hb1 : IsB w a1 len1) (hT : Lib.TabIs Tryd.prog w "internal/strconv.uint64pow10" .u64 Lib.pow10Tab) :
    Calls Tryd.prog 4 #[.slice a0 len0 cap0, .slice a1 len1 cap1] w fun e w' => e = .returned (.bool true) ∧ Below w.heap.size w w' := by
  by_cases hbig : 1048576 < (len0 : Int) + len1
  · go_enter Tryd.func4, Tryd.ntmps4
    go_wp2_with fail
    refine (big_yes _ _ _ _ _ _ _ s0 hbig).mono ?_
    rintro e w' ⟨rfl, rfl⟩
    go_wp2
    go_ret
    exact ⟨rfl, Below.refl _ _⟩
  have HBIG := Lib.hid (show (len0 : Int) + len1 ≤ 1048576 from by omega)
  have Hs_0 := Lib.hid hb0
  have Ht_0 := Lib.hid hb1
  have HT := Lib.hid (Lib.tabBelow_of_tabIs hT)
  clear hb0 hb1 hT hbig s0
  go_enter Tryd.func4, Tryd.ntmps4
  go_wp2_with fail
  refine (big_no _ _ _ _ _ _ _ HBIG.out).mono ?_
  rintro e w' ⟨rfl, rfl⟩
  go_wp2_with fail
  refine (drawEncodeProof_any _ _ _ _ Hs_0.out).mono ?_
  rintro e v1 ⟨pa, pb, pc, p, rfl, hp, ⟨hp1, hp2, hp3⟩, hb1⟩
  have hpn : p.n ≤ 1203 := by unfold PrD.n; omega
  obtain ⟨pa1, pa2, pb1, pb2, pc1, pc2, hsh⟩ := InP.shape hp
  simp only [Value.agg.injEq, Array.mk.injEq, List.cons.injEq, and_true] at hsh
  obtain ⟨rfl, rfl, rfl⟩ := hsh
  have hba := ba v1 (.cells #[.slice pa1 p.c.length pa2, .slice pb1 p.h.length pb2, .slice pc1 p.r.length pc2] 40)
  have hb := bt hb1 hba
  have Hs_1 := Lib.hid (Hs_0.out.below hb)
  have Ht_1 := Lib.hid (Ht_0.out.below hb)
  have HB_1 := Lib.hid (hb)
  have HP_1 := Lib.hid (hp.below hba)
  have HX_1 := Lib.hid (b3_new v1 (.slice pa1 p.c.length pa2) (.slice pb1 p.h.length pb2) (.slice pc1 p.r.length pc2) 40)
  clear hb Hs_0 Ht_0
  clear hb1 hba
  clear hp
  obtain ⟨x0, x1, x2, _⟩ := HX_1.out
  go_wp2_with fail
  refine (encodeProof_any HP_1.out (by omega)).mono ?_
  rintro e v2 ⟨rl, rfl, ho, hb⟩
  clear x0 x1 x2
  have Hs_2 := Lib.hid (Hs_1.out.below hb)
  have Ht_2 := Lib.hid (Ht_1.out.below hb)
  have HP_2 := Lib.hid (HP_1.out.below hb)
  have HX_2 := Lib.hid (HX_1.out.below hb)
  have HB_2 := Lib.hid (bt HB_1.out hb)
  have HL_2 := Lib.hid (ho.toIn)
  clear hb Hs_1 Ht_1 HP_1 HX_1 HB_1
  clear ho
  obtain ⟨x0, x1, x2, _⟩ := HX_2.out
  go_wp2_with fail
  refine (sEncodeProof_any HP_2.out (by omega)).mono ?_
  rintro e v3 ⟨rs, rfl, ho, hb⟩
  clear x0 x1 x2
  have Hs_3 := Lib.hid (Hs_2.out.below hb)
  have Ht_3 := Lib.hid (Ht_2.out.below hb)
  have HP_3 := Lib.hid (HP_2.out.below hb)
  have HX_3 := Lib.hid (HX_2.out.below hb)
  have HL_3 := Lib.hid (HL_2.out.below hb)
  have HB_3 := Lib.hid (bt HB_2.out hb)
  clear hb Hs_2 Ht_2 HP_2 HX_2 HL_2 HB_2
  clear ho
  cases hh : hashB (encP p)
  case' false =>
    have Js := Hs_3
    have Jt := Ht_3
    have JB := HB_3
    clear Hs_3 Ht_3 HP_3 HX_3 HL_3 HB_3
  case' true =>
    have HL_y := Lib.hid (show InI _ _ rl (encP p) from by have h := HL_3.out; rw [recL_yes hh] at h; exact h)
    clear HL_3
    obtain ⟨hd1, hd2⟩ := dp_enc hh
    have HD1 := Lib.hid hd1
    have HD2 := Lib.hid hd2
    have hl4 := (hashB_true.1 hh).1
    clear hd1 hd2
    go_wp2_with fail
    refine (decodeProof_any HL_y.out (by omega)).mono ?_
    rw [HD2.out]
    rw [HD1.out]
    rintro e v4 ⟨qa, qb, qc, rfl, ho, hb1⟩
    obtain ⟨qa1, qa2, qb1, qb2, qc1, qc2, hsh⟩ := InP.shape (OwP.toIn ho)
    simp only [Value.agg.injEq, Array.mk.injEq, List.cons.injEq, and_true] at hsh
    obtain ⟨rfl, rfl, rfl⟩ := hsh
    have hq := OwP.toIn ho
    have hba := ba v4 (.cells #[.slice qa1 p.c.length qa2, .slice qb1 p.h.length qb2, .slice qc1 p.r.length qc2] 40)
    have hb := bt hb1 hba
    have Hs_4 := Lib.hid (Hs_3.out.below hb)
    have Ht_4 := Lib.hid (Ht_3.out.below hb)
    have HP_4 := Lib.hid (HP_3.out.below hb)
    have HX_4 := Lib.hid (HX_3.out.below hb)
    have HL_4 := Lib.hid (HL_y.out.below hb)
    have HB_4 := Lib.hid (bt HB_3.out hb)
    have HQ_4 := Lib.hid (hq.below hba)
    have HY_4 := Lib.hid (b3_new v4 (.slice qa1 p.c.length qa2) (.slice qb1 p.h.length qb2) (.slice qc1 p.r.length qc2) 40)
    clear hb Hs_3 Ht_3 HP_3 HX_3 HL_y HB_3
    clear hb1 hba
    clear hq ho
    obtain ⟨x0, x1, x2, _⟩ := HX_4.out
    obtain ⟨y0, y1, y2, _⟩ := HY_4.out
    go_wp2_with fail
    refine (pSameProof_same HP_4.out HQ_4.out (by omega)).mono ?_
    rintro e v5 ⟨rfl, hb⟩
    clear x0 x1 x2
    clear y0 y1 y2
    have Hs_5 := Lib.hid (Hs_4.out.below hb)
    have Ht_5 := Lib.hid (Ht_4.out.below hb)
    have HP_5 := Lib.hid (HP_4.out.below hb)
    have HX_5 := Lib.hid (HX_4.out.below hb)
    have HL_5 := Lib.hid (HL_4.out.below hb)
    have HQ_5 := Lib.hid (HQ_4.out.below hb)
    have HY_5 := Lib.hid (HY_4.out.below hb)
    have HB_5 := Lib.hid (bt HB_4.out hb)
    clear hb Hs_4 Ht_4 HP_4 HX_4 HL_4 HQ_4 HY_4 HB_4
    clear hl4 HD1 HD2
    have Js := Hs_5
    have Jt := Ht_5
    have JB := HB_5
    clear Hs_5 Ht_5 HP_5 HX_5 HL_5 HQ_5 HY_5 HB_5
  all_goals (
    have Hs_0 := Js
    have Ht_0 := Jt
    have HB_0 := JB
    clear Js Jt JB
    go_wp2_with fail
    refine (drawJoinRecords_any _ _ _ _ Hs_0.out).mono ?_
    rintro e v6 ⟨jv, zss, rfl, hj, hz3, hzn, hb⟩
    have Hs_6 := Lib.hid (Hs_0.out.below hb)
    have Ht_6 := Lib.hid (Ht_0.out.below hb)
    have HB_6 := Lib.hid (bt HB_0.out hb)
    have HZ_6 := Lib.hid (hj)
    clear hb Hs_0 Ht_0 HB_0
    clear hj
    go_wp2_with fail
    refine (joinRecords_any HZ_6.out (by omega) (by omega)).mono ?_
    rintro e v7 ⟨ml, rfl, ho, hb⟩
    have Hs_7 := Lib.hid (Hs_6.out.below hb)
    have Ht_7 := Lib.hid (Ht_6.out.below hb)
    have HZ_7 := Lib.hid (HZ_6.out.below hb)
    have HB_7 := Lib.hid (bt HB_6.out hb)
    have HM_7 := Lib.hid (ho.toIn)
    clear hb Hs_6 Ht_6 HZ_6 HB_6
    clear ho
    go_wp2_with fail
    refine (sJoinRecords_any HZ_7.out (by omega) (by omega)).mono ?_
    rintro e v8 ⟨ms, rfl, ho, hb⟩
    have Hs_8 := Lib.hid (Hs_7.out.below hb)
    have Ht_8 := Lib.hid (Ht_7.out.below hb)
    have HZ_8 := Lib.hid (HZ_7.out.below hb)
    have HM_8 := Lib.hid (HM_7.out.below hb)
    have HB_8 := Lib.hid (bt HB_7.out hb)
    clear hb Hs_7 Ht_7 HZ_7 HM_7 HB_7
    clear ho
    cases h2 : hashB ((zss.length : Int) :: enc zss)
    case' false =>
      have Jt := Ht_8
      have JB := HB_8
      clear Hs_8 Ht_8 HZ_8 HM_8 HB_8
    case' true =>
      obtain ⟨hs1, hs2⟩ := sp_enc h2
      have hfb := fmt_back h2
      have hl4 := (hashB_true.1 h2).1
      have HF1 := Lib.hid (show plL (fmtS ((zss.length : Int) :: enc zss)) = ((zss.length : Int) :: enc zss) by unfold plL; rw [hfb]; rfl)
      have HF2 := Lib.hid (show plB (fmtS ((zss.length : Int) :: enc zss)) = true by unfold plB; rw [hfb]; rfl)
      have hfs := fmtS_size h2
      have HM_y := Lib.hid (show InI _ _ ml ((zss.length : Int) :: enc zss) from by have h := HM_8.out; rw [recL_yes h2] at h; exact h)
      clear HM_8 hfb
      have HH2 := Lib.hid h2
      generalize hjl : ((zss.length : Int) :: enc zss) = js at *
      have HS1 := Lib.hid hs1
      have HS2 := Lib.hid hs2
      clear hs1 hs2 h2 hjl
      go_wp2_with fail
      refine (splitRecords_ans HM_y.out (by omega)).mono ?_
      rw [HS2.out]
      rw [HS1.out]
      rintro e v9 ⟨bk, rfl, ho, hb⟩
      have Hs_9 := Lib.hid (Hs_8.out.below hb)
      have Ht_9 := Lib.hid (Ht_8.out.below hb)
      have HZ_9 := Lib.hid (HZ_8.out.below hb)
      have HM_9 := Lib.hid (HM_y.out.below hb)
      have HB_9 := Lib.hid (bt HB_8.out hb)
      have HK_9 := Lib.hid (ho.toIn)
      clear hb Hs_8 Ht_8 HZ_8 HM_y HB_8
      clear ho
      go_wp2_with fail
      refine (sameLists_same HK_9.out HZ_9.out (by omega) (by omega)).mono ?_
      rintro e v10 ⟨rfl, hb⟩
      have Hs_10 := Lib.hid (Hs_9.out.below hb)
      have Ht_10 := Lib.hid (Ht_9.out.below hb)
      have HZ_10 := Lib.hid (HZ_9.out.below hb)
      have HM_10 := Lib.hid (HM_9.out.below hb)
      have HB_10 := Lib.hid (bt HB_9.out hb)
      clear hb Hs_9 Ht_9 HZ_9 HM_9 HK_9 HB_9
      generalize hfq : fmtS js = fs at *
      have HFQ := Lib.hid hfq
      clear hfq
      go_wp2_with fail
      refine (formatList_ans HM_10.out (by omega) (HT.out _ HB_10.out)).mono ?_
      rw [HFQ.out]
      rw [HH2.out]
      rintro e v11 ⟨rfl, hb⟩
      have Hs_11 := Lib.hid (Hs_10.out.below hb)
      have Ht_11 := Lib.hid (Ht_10.out.below hb)
      have HZ_11 := Lib.hid (HZ_10.out.below hb)
      have HM_11 := Lib.hid (HM_10.out.below hb)
      have HB_11 := Lib.hid (bt HB_10.out hb)
      clear hb Hs_10 Ht_10 HZ_10 HM_10 HB_10
      go_wp2_with fail
      refine (parseList_ans fs (by omega) _).mono ?_
      rw [HF1.out]
      rw [HF2.out]
      rintro e v12 ⟨ag, rfl, ho, hb⟩
      have Hs_12 := Lib.hid (Hs_11.out.below hb)
      have Ht_12 := Lib.hid (Ht_11.out.below hb)
      have HZ_12 := Lib.hid (HZ_11.out.below hb)
      have HM_12 := Lib.hid (HM_11.out.below hb)
      have HB_12 := Lib.hid (bt HB_11.out hb)
      have HG_12 := Lib.hid (ho.toIn)
      clear hb Hs_11 Ht_11 HZ_11 HM_11 HB_11
      clear ho
      go_wp2_with fail
      refine (sameI_any HG_12.out HM_12.out (by omega)).mono ?_
      rintro e v13 ⟨rfl, hb⟩
      have Hs_13 := Lib.hid (Hs_12.out.below hb)
      have Ht_13 := Lib.hid (Ht_12.out.below hb)
      have HZ_13 := Lib.hid (HZ_12.out.below hb)
      have HM_13 := Lib.hid (HM_12.out.below hb)
      have HG_13 := Lib.hid (HG_12.out.below hb)
      have HB_13 := Lib.hid (bt HB_12.out hb)
      clear hb Hs_12 Ht_12 HZ_12 HM_12 HG_12 HB_12
      clear HF1 HF2 HS1 HS2 HH2 HFQ hl4 hfs
      have Jt := Ht_13
      have JB := HB_13
      clear Hs_13 Ht_13 HZ_13 HM_13 HG_13 HB_13
    all_goals (
      have Ht_0 := Jt
      have HB_0 := JB
      clear Jt JB
      go_wp2_with fail
      refine (drawDecodeCiphers_any _ _ _ _ Ht_0.out).mono ?_
      rintro e v14 ⟨xv, xs, rfl, hx, hxl, hb⟩
      have Ht_14 := Lib.hid (Ht_0.out.below hb)
      have HB_14 := Lib.hid (bt HB_0.out hb)
      have HE_14 := Lib.hid (hx)
      clear hb Ht_0 HB_0
      clear hx
      go_wp2_with fail
      refine (decodeCiphers_any HE_14.out (by omega)).mono ?_
      rintro e v15 ⟨cv, rfl, ho, hb⟩
      have Ht_15 := Lib.hid (Ht_14.out.below hb)
      have HE_15 := Lib.hid (HE_14.out.below hb)
      have HB_15 := Lib.hid (bt HB_14.out hb)
      have HC_15 := Lib.hid (ho.toIn)
      clear hb Ht_14 HE_14 HB_14
      clear ho
      go_wp2_with fail
      refine (sDecodeCiphers_any HE_15.out (by omega)).mono ?_
      rintro e v16 ⟨cw, rfl, ho, hb⟩
      have Ht_16 := Lib.hid (Ht_15.out.below hb)
      have HE_16 := Lib.hid (HE_15.out.below hb)
      have HC_16 := Lib.hid (HC_15.out.below hb)
      have HB_16 := Lib.hid (bt HB_15.out hb)
      clear hb Ht_15 HE_15 HC_15 HB_15
      clear ho
      cases h3 : dcB xs
      case' false =>
        have Jt := Ht_16
        have JB := HB_16
        clear Ht_16 HE_16 HC_16 HB_16
      case' true =>
        obtain ⟨hc1, hc2⟩ := dc_enc h3
        have hdl := dcL_length xs
        have HC1 := Lib.hid hc1
        have HC2 := Lib.hid (show hashB xs = true by rw [← hc1]; exact hc2)
        have HC3 := Lib.hid (recL_yes HC2.out)
        clear hc1 hc2
        go_wp2_with fail
        refine (encodeCiphers_any HC_16.out (by omega)).mono ?_
        rw [HC1.out]
        rw [HC3.out]
        rw [HC2.out]
        rintro e v17 ⟨el, rfl, ho, hb⟩
        have Ht_17 := Lib.hid (Ht_16.out.below hb)
        have HE_17 := Lib.hid (HE_16.out.below hb)
        have HC_17 := Lib.hid (HC_16.out.below hb)
        have HB_17 := Lib.hid (bt HB_16.out hb)
        have HW_17 := Lib.hid (ho.toIn)
        clear hb Ht_16 HE_16 HC_16 HB_16
        clear ho
        go_wp2_with fail
        refine (sameI_any HW_17.out HE_17.out (by omega)).mono ?_
        rintro e v18 ⟨rfl, hb⟩
        have Ht_18 := Lib.hid (Ht_17.out.below hb)
        have HE_18 := Lib.hid (HE_17.out.below hb)
        have HC_18 := Lib.hid (HC_17.out.below hb)
        have HW_18 := Lib.hid (HW_17.out.below hb)
        have HB_18 := Lib.hid (bt HB_17.out hb)
        clear hb Ht_17 HE_17 HC_17 HW_17 HB_17
        clear HC1 HC2 HC3 hdl
        have Jt := Ht_18
        have JB := HB_18
        clear Ht_18 HE_18 HC_18 HW_18 HB_18
      all_goals (
        have Ht_0 := Jt
        have HB_0 := JB
        clear Jt JB
        go_wp2_with fail
        refine (drawEncodeText_any _ _ _ _ Ht_0.out).mono ?_
        rintro e v19 ⟨tx, rfl, htx, hb⟩
        have Ht_19 := Lib.hid (Ht_0.out.below hb)
        have HB_19 := Lib.hid (bt HB_0.out hb)
        clear hb Ht_0 HB_0
        go_wp2_with fail
        refine (encodeText_any tx (by omega) _).mono ?_
        rintro e v20 ⟨tl, rfl, ho, hb⟩
        have Ht_20 := Lib.hid (Ht_19.out.below hb)
        have HB_20 := Lib.hid (bt HB_19.out hb)
        have HA_20 := Lib.hid (ho.toIn)
        clear hb Ht_19 HB_19
        clear ho
        have hrl := recL_length (txt tx)
        go_wp2_with fail
        refine (decodeText_any HA_20.out (by omega)).mono ?_
        rintro e v21 ⟨rfl, hb⟩
        have Ht_21 := Lib.hid (Ht_20.out.below hb)
        have HA_21 := Lib.hid (HA_20.out.below hb)
        have HB_21 := Lib.hid (bt HB_20.out hb)
        clear hb Ht_20 HA_20 HB_20
        go_wp2_with fail
        refine (sEncodeText_any tx (by omega) _).mono ?_
        rintro e v22 ⟨tm, rfl, ho, hb⟩
        have Ht_22 := Lib.hid (Ht_21.out.below hb)
        have HA_22 := Lib.hid (HA_21.out.below hb)
        have HB_22 := Lib.hid (bt HB_21.out hb)
        clear hb Ht_21 HA_21 HB_21
        clear ho hrl
        cases h4 : hashB (txt tx)
        · go_wp2
          go_ret
          exact ⟨rfl, HB_22.out⟩
        · obtain ⟨k1, k2⟩ := txt_back h4
          have k3 := recL_yes h4
          rw [k3, k1, k2]
          clear k1 k2 k3
          go_wp2
          go_ret
          exact ⟨rfl, HB_22.out⟩)))

end Go.Proofs.YtmiohdibbpckaaaDoor

