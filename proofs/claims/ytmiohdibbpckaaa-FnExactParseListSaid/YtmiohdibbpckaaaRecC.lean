/- EncodeProof and JoinRecords of the program and of the reference. -/
import Derived.Test.YtmiohdibbpckaaaRecB
namespace Go.Proofs.Ytmiohdibbpckaaa
open Go.RowKit

/-- A list that is answered, with a bool. -/
def AnsI (w : World) (zs : List Int) (ok : Bool) (e : Ending) (w' : World) : Prop := ∃ v, e = .returned (.tuple #[v, .bool ok]) ∧ OwI w.heap.size w'.heap.size w' v zs ∧ Below w.heap.size w w'
theorem ansI_nil {w w' : World} (h : Below w.heap.size w w') : AnsI w [] false (.returned (.tuple #[.slice none 0 0, .bool false])) w' :=
  ⟨_, rfl, owI_nil _ _ h.size, h⟩
theorem ansI_of {w w1 w' : World} {B : Nat} {zs : List Int} {ok : Bool} {e : Ending} (h : RecOut B w1 zs ok e w') (hb : Below w.heap.size w w1) (hB : w.heap.size ≤ B) : AnsI w zs ok e w' := by
  obtain ⟨va, k, vc, rfl, ho, hb'⟩ := h
  have hbb := hb.trans (hb'.mono hB)
  exact ⟨_, rfl, owI_mk (own_rebase ho (fun g hg => Nat.le_trans hB (ho.lt g hg).1)) hbb.size, hbb⟩

def encP (p : PrD) : List Int := enc [p.c, p.h, p.r]
theorem inS_three {w : World} {P : Nat} {a b c : Value} {p : PrD} (h1 : InI P w a p.c) (h2 : InI P w b p.h) (h3 : InI P w c p.r) (t : TypeId) :
    InS (w.heap.size + 1) (w.alloc (.cells #[a, b, c] t)) (.slice (some ⟨w.heap.size, 0, none⟩) 3 3) [p.c, p.h, p.r] := by
  have hb := ba w (.cells #[a, b, c] t)
  have hs : (w.alloc (.cells #[a, b, c] t)).heap.size = w.heap.size + 1 := by simp
  have hP := h1.1
  refine ⟨by omega, some ⟨w.heap.size, 0, none⟩, 3, rfl, (fun h => by cases h), .inr ⟨w.heap.size, 0, rfl, by omega, by omega, fun i z hz => ?_⟩⟩
  have k1 := (h1.below hb).wide (P' := w.heap.size + 1) (by omega) (by omega)
  have k2 := (h2.below hb).wide (P' := w.heap.size + 1) (by omega) (by omega)
  have k3 := (h3.below hb).wide (P' := w.heap.size + 1) (by omega) (by omega)
  match i, hz with
  | 0, hz => simp at hz; subst hz; exact ⟨a, by rw [World.cell?_alloc_at _ _ _ _ rfl]; rfl, k1⟩
  | 1, hz => simp at hz; subst hz; exact ⟨b, by rw [World.cell?_alloc_at _ _ _ _ rfl]; rfl, k2⟩
  | 2, hz => simp at hz; subst hz; exact ⟨c, by rw [World.cell?_alloc_at _ _ _ _ rfl]; rfl, k3⟩
  | i + 3, hz => simp at hz

set_option maxRecDepth 100000 in
set_option maxHeartbeats 1600000 in
theorem encodeProof_any {P : Nat} {w : World} {v : Value} {p : PrD} (h : InP P w v p) (hl : p.n ≤ 1048576) :
    Calls Try.prog 15 #[v] w (AnsI w (recL (encP p)) (hashB (encP p))) := by
  obtain ⟨a, b, c, rfl, h1, h2, h3⟩ := h
  have hr : ∀ z ∈ [p.c, p.h, p.r], z.length ≤ 1048576 := by
    unfold PrD.n at hl
    intro z hz
    simp only [List.mem_cons, List.not_mem_nil, or_false] at hz
    rcases hz with rfl | rfl | rfl <;> omega
  have hal := ba w (.cells #[a, b, c] 28)
  have hs1 : (w.alloc (.cells #[a, b, c] 28)).heap.size = w.heap.size + 1 := by simp
  have hS := inS_three (h1.below hal) (h2.below hal) (h3.below hal) 22
  rw [hs1] at hS
  have hX := b3_new w a b c 28
  obtain ⟨a1, a2, rfl⟩ := h1.shape
  obtain ⟨b1, b2, rfl⟩ := h2.shape
  obtain ⟨c1, c2, rfl⟩ := h3.shape
  have HS := Lib.hid hS
  have HR := Lib.hid hr
  have HA := Lib.hid (bt hal (ba _ (.cells #[.slice a1 p.c.length a2, .slice b1 p.h.length b2, .slice c1 p.r.length c2] 22)))
  obtain ⟨x0, x1, x2, _⟩ := hX
  clear hal hS hr hs1 h1 h2 h3
  go_enter Try.func15, Try.ntmps15
  go_wp2_with fail
  refine (encodeParts_any (w.heap.size + 2) none 0 0 [] (by decide) _ 3 3 [p.c, p.h, p.r] rfl (by decide) HR.out _ (by simp) (World.ownsRow_nil _ _ _ _) HS.out).mono ?_
  rintro e w1 ho
  have HO := Lib.hid (ansI_of ho HA.out (Nat.le_add_right _ 2))
  obtain ⟨va, k, vc, rfl, _⟩ := ho
  go_wp2
  go_ret2
  exact HO.out

theorem joinRecords_any {P : Nat} {w : World} {v : Value} {zss : List (List Int)} (h : InS P w v zss) (hl : zss.length ≤ 1048576) (hr : nS zss ≤ 1048576) :
    Calls Try.prog 41 #[v] w (AnsI w (recL ((zss.length : Int) :: enc zss)) (hashB ((zss.length : Int) :: enc zss))) := by
  obtain ⟨ad, cap, rfl⟩ := h.shape
  have hrr : ∀ z ∈ zss, z.length ≤ 1048576 := fun z hz => Nat.le_trans (nS_le hz) hr
  have hP := h.1
  generalize hn : zss.length = n at h
  have hnn : n ≤ 1048576 := by omega
  have hnn0 : 0 ≤ (n : Int) := by omega
  have hal := ba w (.cells #[.int .i64 (n : Int)] 3)
  have HS := Lib.hid (show InS w.heap.size (w.alloc (.cells #[.int .i64 (n : Int)] 3)) (.slice ad n cap) zss from by
    have h2 := h.below hal
    obtain ⟨q0, ad', cap', q1, q2, q3⟩ := h2
    refine ⟨by simp, ad', cap', q1, q2, ?_⟩
    rcases q3 with q3 | ⟨b, off, r1, r2, r3, r4⟩
    · exact .inl q3
    · refine .inr ⟨b, off, r1, by omega, r3, fun i z hz => ?_⟩
      obtain ⟨u, hu, hi⟩ := r4 i z hz
      exact ⟨u, hu, hi.wide hP (by simp)⟩)
  have HO := Lib.hid (own_lit w [(n : Int)] (by simp) 3)
  have HA := Lib.hid hal
  have HR := Lib.hid hrr
  have HN := Lib.hid hn
  clear hal hrr hn hl hr h
  go_enter Try.func41, Try.ntmps41
  go_wp2_with fail
  refine (encodeParts_any w.heap.size _ 1 1 [(n : Int)] (by decide) _ n cap zss HN.out hnn HR.out _ (by simp) HO.out HS.out).mono ?_
  rintro e w1 ho
  have HOO := Lib.hid (ansI_of ho HA.out (Nat.le_refl _))
  obtain ⟨va, k, vc, rfl, _⟩ := ho
  go_wp2
  go_ret2
  exact HOO.out

/-! ### The reference -/
set_option maxRecDepth 100000 in
set_option maxHeartbeats 3200000 in
theorem cJoin_any {P : Nat} {w : World} {v : Value} {zss : List (List Int)} (h : InS P w v zss) (hl : zss.length ≤ 1048576) (hr : nS zss ≤ 1048576) :
    Calls Try.prog 62 #[v] w (PutOut w.heap.size w ((zss.length : Int) :: enc zss)) := by
  obtain ⟨ad, cap, rfl⟩ := h.shape
  have hP := h.1
  have HR := Lib.hid hr
  generalize hn : zss.length = n at h
  have hnn : n ≤ 1048576 := by omega
  have hnn0 : 0 ≤ (n : Int) := by omega
  have HO := Lib.hid (own_lit w [(n : Int)] (by simp) 3)
  have HA := Lib.hid (ba w (.cells #[.int .i64 (n : Int)] 3))
  have H := Lib.hid h
  have HN := Lib.hid hn
  clear hn hl hr h
  go_enter Try.func62, Try.ntmps62
  go_wp2
  go_loopw [3, 5, 11] (fun V _ K wr => ∃ (k m : Nat) (va : Option Addr) (vc : Nat) (ys : List Int), k ≤ n ∧ m = 1 + k + nS (zss.take k) ∧ K = .int .i64 k ∧ V = .slice va m vc ∧ wr.ownsRow w.heap.size 3 1 (.slice va m vc) m (ys.map (Value.int .i64)) ∧ Below w.heap.size w wr ∧ [(n : Int)] ++ enc zss = ys ++ enc (zss.drop k)) (fun _ _ K _ => n - (intOf K).toNat)
  case atStart => exact ⟨0, 1, _, _, [(n : Int)], Nat.zero_le _, by simp [nS], rfl, rfl, HO.out, HA.out, rfl⟩
  case round =>
    obtain ⟨k, m, va, vc, ys, hk, hm, rfl, rfl, hown, hbel, he⟩ := hrel
    have hyl : ys.length = m := by have := hown.1; simpa using this
    have hmb : m ≤ 10000000 := by
      have := nS_drop zss k
      have := HR.out
      omega
    have HOr := Lib.hid hown
    have HB := Lib.hid hbel
    have HM := Lib.hid hm
    by_cases hkn : k < n
    · obtain ⟨b, off, a, c, z, rfl, hb, hc, hin, hd⟩ := (H.out.below hbel).at (k := k) (by have := HN.out; omega)
      have hzl : z.length ≤ 1048576 := Nat.le_trans (nS_le (List.mem_of_mem_drop (i := k) (by rw [hd]; simp))) HR.out
      have HI := Lib.hid hin
      have HE := Lib.hid (enc_step hd he)
      have HT := Lib.hid (mkS_take zss 0 hd).2.1
      clear hown hbel he hyl hin hd hm
      go_wp2_with fail
      refine (l4Put_any w.heap.size va m vc ys (by omega) a z.length c z rfl (by omega) HI.out.parts.2.2 _ HB.out.size HOr.out (HI.out.parts.2.1.mono hP)).mono ?_
      rintro e w2 ⟨va2, k2, vc2, rfl, ho2, hb2⟩
      have hk2 : k2 = m + 1 + z.length := by
        have h1 := ho2.1
        have h2 := HOr.out.1
        simp at h1 h2
        omega
      have HO2 := Lib.hid ho2
      have HB2 := Lib.hid (HB.out.trans hb2)
      have HK2 := Lib.hid hk2
      clear ho2 hb2 hk2 hc
      go_wp2
      go_roundw
      case rel =>
        refine ⟨k + 1, k2, va2, vc2, ys ++ (z.length : Int) :: z, by omega, ?_, by go_num, rfl, HO2.out, HB2.out, ?_⟩
        · rw [HT.out]
          have := HK2.out
          have := HM.out
          omega
        · have := HE.out
          simpa using this
      case measure => simp only [intOf]; omega
    · have HE := Lib.hid he
      obtain rfl : k = n := by omega
      clear hown hbel he hyl hm
      go_wp2
      go_ret
      have e1 := HE.out
      rw [List.drop_of_length_le (by have := HN.out; omega), enc_nil, List.append_nil] at e1
      exact ⟨va, m, vc, rfl, by
        rw [show (k : Int) :: enc zss = ys from e1]
        exact HOr.out, HB.out⟩

theorem sJoinRecords_any {P : Nat} {w : World} {v : Value} {zss : List (List Int)} (h : InS P w v zss) (hl : zss.length ≤ 1048576) (hr : nS zss ≤ 1048576) :
    Calls Try.prog 39 #[v] w (AnsI w (recL ((zss.length : Int) :: enc zss)) (hashB ((zss.length : Int) :: enc zss))) := by
  obtain ⟨ad, cap, rfl⟩ := h.shape
  have H := Lib.hid h
  clear h
  have hel : ((zss.length : Int) :: enc zss).length ≤ 10000000 := by
    simp only [List.length_cons, enc_length]; omega
  generalize he : (zss.length : Int) :: enc zss = es at hel
  have HE := Lib.hid he
  cases hrec : hashB es
  · have HRC := Lib.hid hrec
    have e2 := recL_no hrec
    rw [e2]
    clear he hrec e2
    go_enter Try.func39, Try.ntmps39
    go_wp2_with fail
    refine (cJoin_any H.out hl hr).mono ?_
    rw [HE.out]
    rintro e w1 ⟨va, k, vc, rfl, ho, hb⟩
    have HO := Lib.hid ho
    have HB := Lib.hid hb
    clear ho hb
    go_wp2_with fail
    refine (l4If_no va k vc es (own_ints HO.out).2.1 (by have := (own_ints HO.out).2.1; omega) HRC.out _ (own_ints HO.out).1).mono ?_
    rintro e w' ⟨rfl, rfl⟩
    go_wp2
    go_ret2
    exact ansI_nil HB.out
  · have HRC := Lib.hid hrec
    have e2 := recL_yes hrec
    rw [e2]
    clear he hrec e2
    go_enter Try.func39, Try.ntmps39
    go_wp2_with fail
    refine (cJoin_any H.out hl hr).mono ?_
    rw [HE.out]
    rintro e w1 ⟨va, k, vc, rfl, ho, hb⟩
    have HO := Lib.hid ho
    have HB := Lib.hid hb
    clear ho hb
    go_wp2_with fail
    refine (l4If_yes va k vc es (own_ints HO.out).2.1 (by have := (own_ints HO.out).2.1; omega) HRC.out _ (own_ints HO.out).1).mono ?_
    rintro e w' ⟨rfl, rfl⟩
    go_wp2
    go_ret2
    exact ⟨_, rfl, owI_mk HO.out HB.out.size, HB.out⟩

theorem encP_eq (p : PrD) : encP p = (([] ++ (p.c.length : Int) :: p.c) ++ (p.h.length : Int) :: p.h) ++ (p.r.length : Int) :: p.r := by
  unfold encP; rw [enc_cons, enc_cons, enc_cons, enc_nil]; simp
theorem encP_length (p : PrD) : (encP p).length = 3 + p.n := by
  unfold encP PrD.n; rw [enc_length]; simp [nS]; omega

set_option maxRecDepth 100000 in
set_option maxHeartbeats 3200000 in
theorem cProof_any {P : Nat} {w : World} {v : Value} {p : PrD} (h : InP P w v p) (hl : p.n ≤ 1048576) :
    Calls Try.prog 51 #[v] w (PutOut w.heap.size w (encP p)) := by
  obtain ⟨a, b, c, rfl, h1, h2, h3⟩ := h
  obtain ⟨hl1, hl2, hl3⟩ : p.c.length ≤ 1048576 ∧ p.h.length ≤ 1048576 ∧ p.r.length ≤ 1048576 := by unfold PrD.n at hl; omega
  rw [encP_eq]
  have hP := h1.1
  have hal := ba w (.cells #[a, b, c] 28)
  have hs1 : (w.alloc (.cells #[a, b, c] 28)).heap.size = w.heap.size + 1 := by simp
  have hX := b3_new w a b c 28
  have hal2 := ba (w.alloc (.cells #[a, b, c] 28)) (.cells #[] 3)
  have hX2 := hX.below hal2
  have hs2 : ((w.alloc (.cells #[a, b, c] 28)).alloc (.cells #[] 3)).heap.size = w.heap.size + 2 := by simp
  have hO := own_lit (w.alloc (.cells #[a, b, c] 28)) [] (by simp) 3
  rw [hs1] at hO
  have J1 := Lib.hid ((((h1.below hal).below hal2).wide (P' := w.heap.size + 1) (by omega) (by omega)).belowP (Below.refl _ _).drew)
  have J2 := Lib.hid ((((h2.below hal).below hal2).wide (P' := w.heap.size + 1) (by omega) (by omega)).belowP (Below.refl _ _).drew)
  have J3 := Lib.hid ((((h3.below hal).below hal2).wide (P' := w.heap.size + 1) (by omega) (by omega)).belowP (Below.refl _ _).drew)
  have HB0 := Lib.hid ((bt hal hal2).drew)
  have HO := Lib.hid (show World.ownsRow ((w.alloc (.cells #[a, b, c] 28)).alloc (.cells #[] 3)).drew (w.heap.size + 1) 3 1 (.slice (some ⟨w.heap.size + 1, 0, none⟩) 0 0) 0 (([] : List Int).map (Value.int .i64)) from own_below hO ((Below.refl _ _).drew))
  have HS := Lib.hid hs2
  obtain ⟨a1, a2, rfl⟩ := h1.shape
  obtain ⟨b1, b2, rfl⟩ := h2.shape
  obtain ⟨c1, c2, rfl⟩ := h3.shape
  have HP1 := Lib.hid J1.out.parts.2.1
  have HQ1 := Lib.hid J1.out.parts.2.2
  have HP2 := Lib.hid J2.out.parts.2.1
  have HQ2 := Lib.hid J2.out.parts.2.2
  have HP3 := Lib.hid J3.out.parts.2.1
  have HQ3 := Lib.hid J3.out.parts.2.2
  have HZ0 := Lib.hid J1.out.1
  have HX3 := Lib.hid (hX2.below (Below.refl _ _).drew)
  have HX := Lib.hid hX
  have HX2 := Lib.hid hX2
  obtain ⟨x0, x1, x2, _⟩ := hX
  obtain ⟨y0, y1, y2, _⟩ := hX2
  clear hal hal2 hs1 hs2 hO h1 h2 h3
  go_enter Try.func51, Try.ntmps51
  go_wp2_with fail
  go_region_held3 (fun w' => w'.cell? ⟨w.heap.size, 0, none⟩ = some (.slice a1 p.c.length a2) ∧ w'.cell? ⟨w.heap.size, 1, none⟩ = some (.slice b1 p.h.length b2) ∧ w'.cell? ⟨w.heap.size, 2, none⟩ = some (.slice c1 p.r.length c2)) (first | with_reducible exact ⟨s0, s1, s2⟩ | with_reducible exact ⟨t0, t1, t2⟩ | with_reducible exact ⟨u0, u1, u2⟩ | exact ⟨y0, y1, y2⟩ | exact ⟨x0, x1, x2⟩) ((first
    | (go_at_call 67; (with_reducible refine (l4Put_any (w.heap.size + 1) vb kb vcb _ (by have := HKb.out; simp at this; omega) c1 p.r.length c2 p.r rfl (by omega) HQ3.out _ (by with_reducible exact HZb.out) HOb.out (by with_reducible exact HP3b.out)).mono ?_); rintro e wc ⟨vc, kc, vcc, rfl, hoc, hbc⟩; have HOc := Lib.hid hoc; have HBc := Lib.hid (HBb.out.trans hbc); obtain ⟨s0, s1, s2, _⟩ := HXb.out.belowB hbc (Nat.lt_succ_self _); clear hoc hbc)
    | (go_at_call 67; (with_reducible refine (l4Put_any (w.heap.size + 1) va ka vca _ (by have := HKa.out; simp at this; omega) b1 p.h.length b2 p.h rfl (by omega) HQ2.out _ (by with_reducible exact HZa.out) HOa.out (by with_reducible exact HP2a.out)).mono ?_); rintro e wb ⟨vb, kb, vcb, rfl, hob, hbb⟩; have HKb := Lib.hid (own_ints hob).2.1; have HOb := Lib.hid hob; have HXb := Lib.hid (HXa.out.belowB hbb (Nat.lt_succ_self _)); have HBb := Lib.hid (HBa.out.trans hbb); have HP3b := Lib.hid (HP3a.out.below hbb); have HZb := Lib.hid (Nat.le_trans HZa.out hbb.size); obtain ⟨t0, t1, t2, _⟩ := HXb.out; clear hob hbb)
    | (go_at_call 67; (with_reducible refine (l4Put_any (w.heap.size + 1) _ 0 _ [] (by decide) a1 p.c.length a2 p.c rfl (by omega) HQ1.out _ (by with_reducible exact HZ0.out) HO.out HP1.out).mono ?_); rintro e wa ⟨va, ka, vca, rfl, hoa, hba⟩; have HKa := Lib.hid (own_ints hoa).2.1; have HOa := Lib.hid hoa; have HXa := Lib.hid (HX3.out.belowB hba (Nat.lt_succ_self _)); have HBa := Lib.hid hba; have HP2a := Lib.hid (HP2.out.below hba); have HP3a := Lib.hid (HP3.out.below hba); have HZa := Lib.hid (Nat.le_trans HZ0.out hba.size); obtain ⟨u0, u1, u2, _⟩ := HXa.out; clear hoa hba)))
  all_goals (
    go_wp2
    go_ret
    exact ⟨vc, kc, vcc, rfl, own_rebase HOc.out (fun g hg => Nat.le_trans (Nat.le_succ _) (HOc.out.lt g hg).1), HB0.out.trans (HBc.out.mono (Nat.le_succ _))⟩)

theorem sEncodeProof_any {P : Nat} {w : World} {v : Value} {p : PrD} (h : InP P w v p) (hl : p.n ≤ 1048576) :
    Calls Try.prog 13 #[v] w (AnsI w (recL (encP p)) (hashB (encP p))) := by
  have hel : (encP p).length ≤ 10000000 := by rw [encP_length]; omega
  generalize he : encP p = es at hel
  have HE := Lib.hid he
  obtain ⟨a, b, c, rfl, h1, h2, h3⟩ := h
  have hal := ba w (.cells #[a, b, c] 28)
  have H := Lib.hid (show InP P (w.alloc (.cells #[a, b, c] 28)) (.agg #[a, b, c]) p from ⟨a, b, c, rfl, h1.below hal, h2.below hal, h3.below hal⟩)
  have HA := Lib.hid hal
  have hX := b3_new w a b c 28
  obtain ⟨a1, a2, rfl⟩ := h1.shape
  obtain ⟨b1, b2, rfl⟩ := h2.shape
  obtain ⟨c1, c2, rfl⟩ := h3.shape
  obtain ⟨x0, x1, x2, _⟩ := hX
  clear h1 h2 h3 hal
  cases hrec : hashB es
  · have HRC := Lib.hid hrec
    have e2 := recL_no hrec
    rw [e2]
    clear he hrec e2
    go_enter Try.func13, Try.ntmps13
    go_wp2_with fail
    refine (cProof_any H.out hl).mono ?_
    rw [HE.out]
    rintro e w1 ⟨va, k, vc, rfl, ho, hb⟩
    have HO := Lib.hid ho
    have HB := Lib.hid (bt HA.out hb)
    clear ho hb
    go_wp2_with fail
    refine (l4If_no va k vc es (own_ints HO.out).2.1 (by have := (own_ints HO.out).2.1; omega) HRC.out _ (own_ints HO.out).1).mono ?_
    rintro e w' ⟨rfl, rfl⟩
    go_wp2
    go_ret2
    exact ansI_nil HB.out
  · have HRC := Lib.hid hrec
    have e2 := recL_yes hrec
    rw [e2]
    clear he hrec e2
    go_enter Try.func13, Try.ntmps13
    go_wp2_with fail
    refine (cProof_any H.out hl).mono ?_
    rw [HE.out]
    rintro e w1 ⟨va, k, vc, rfl, ho, hb⟩
    have HO := Lib.hid ho
    have HB := Lib.hid (bt HA.out hb)
    clear ho hb
    go_wp2_with fail
    refine (l4If_yes va k vc es (own_ints HO.out).2.1 (by have := (own_ints HO.out).2.1; omega) HRC.out _ (own_ints HO.out).1).mono ?_
    rintro e w' ⟨rfl, rfl⟩
    go_wp2
    go_ret2
    exact ⟨_, rfl, owI_mk (own_rebase HO.out (fun g hg => Nat.le_trans HA.out.size (HO.out.lt g hg).1)) HB.out.size, HB.out⟩




end Go.Proofs.Ytmiohdibbpckaaa

