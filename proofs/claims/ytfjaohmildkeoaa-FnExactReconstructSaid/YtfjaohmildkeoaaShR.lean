/- Chapter 11: Reconstruct of both. -/
import Derived.Test.YtfjaohmildkeoaaShM
import Derived.Deep.AppendLies
namespace Go.Proofs.Ytfjaohmildkeoaa
open Go.RowKit
set_option linter.unusedVariables false
set_option linter.unusedSimpArgs false

/-- Two rows that lie in different blocks. -/
def Apa (va va' : Option Addr) : Prop := ∀ a a', va = some a → va' = some a' → a.block ≠ a'.block
theorem Apa.symm {va va' : Option Addr} (h : Apa va va') : Apa va' va := fun a a' h1 h2 => (h a' a h2 h1).symm
theorem apa_ne {va va' : Option Addr} {n c : Nat} (h : Apa va va') : ∀ a', va' = some a' → some a'.block ≠ (Value.slice va n c).ownBlock := by
  intro a' ha' he
  cases va with
  | none => simp [Value.ownBlock] at he
  | some a =>
    simp only [Value.ownBlock, Option.some.injEq] at he
    exact h a a' rfl ha' he.symm
theorem apa_new {va va' : Option Addr} {n c g H : Nat} (h : Apa va va') (hat : (Value.slice va n c).ownBlock = some g ∨ g = H) (hb : ∀ a', va' = some a' → a'.block < H) : Apa (some ⟨g, 0, none⟩) va' := by
  rintro a a' ⟨⟩ ha'
  rcases hat with hat | rfl
  · cases va with
    | none => simp [Value.ownBlock] at hat
    | some a =>
      simp only [Value.ownBlock, Option.some.injEq] at hat
      show g ≠ a'.block
      rw [← hat]; exact h a a' rfl ha'
  · have := hb a' ha'
    show g ≠ a'.block
    omega
theorem own_lt7 {w : World} {base n cap m : Nat} {ad : Option Addr} {e : TypeId} {size : Nat} {xs : List Value} (h : w.ownsRow base e size (.slice ad n cap) m xs) : ∀ a, ad = some a → base ≤ a.block ∧ a.block < w.heap.size := by
  rintro a rfl
  exact h.lt a.block rfl


theorem short7 : ∀ (n : Nat) (zs : List Int), zs.Nodup → (∀ z ∈ zs, 1 ≤ z ∧ z ≤ (n : Int)) → zs.length ≤ n
  | 0, zs, _, h => by
    cases zs with
    | nil => simp
    | cons z zs => have := h z (by simp); omega
  | n + 1, zs, hn, h => by
    by_cases hm : ((n : Int) + 1) ∈ zs
    · have h1 := short7 n (zs.erase ((n : Int) + 1)) (hn.erase _) (fun z hz => by
        have h2 := (hn.mem_erase_iff).1 hz
        have h3 := h z h2.2
        have := h2.1
        omega)
      rw [List.length_erase_of_mem hm] at h1
      omega
    · have h1 := short7 n zs hn (fun z hz => by
        have h3 := h z hz
        have : z ≠ (n : Int) + 1 := fun e => hm (e ▸ hz)
        omega)
      omega
/-! ### Different trustees -/
def trsB (zs : List Int) : Bool := zs.all isTr && decide zs.Nodup
theorem trsB_true {zs : List Int} : trsB zs = true ↔ (∀ z ∈ zs, 1 ≤ z ∧ z ≤ 7) ∧ zs.Nodup := by
  simp only [trsB, Bool.and_eq_true, decide_eq_true_eq, List.all_eq_true, isTr_true]
theorem trsB_len {zs : List Int} (h : trsB zs = true) : zs.length ≤ 7 := short7 7 zs (trsB_true.1 h).2 (trsB_true.1 h).1
theorem trs_ref {zs : List Int} (h : zs.length ≤ 7) : trsB zs = (allIn zs 1 7 && decide zs.Nodup) := rfl
set_option maxHeartbeats 1600000 in
theorem areTrustees_any (ad : Option Addr) (n cap : Nat) (zs : List Int) (hn : zs.length = n) (hl : n ≤ 17592186044416) (hcap : n ≤ cap) (w : World) (hx : IsInts w ad zs) :
    Calls Try.prog 111 #[.slice ad n cap] w fun e w' => e = .returned (.bool (trsB zs)) ∧ w = w' := by
  have HN := Lib.hid hn
  clear hn
  go_enter Try.func111, Try.ntmps111
  go_wp2_with fail
  go_loop [3, 4, 7] (fun _ _ K => ∃ k : Nat, k ≤ n ∧ K = .int .i64 k ∧ (zs.take k).Nodup ∧ ∀ z ∈ zs.take k, isTr z = true) (fun _ _ K => n - (intOf K).toNat)
  case atStart => exact ⟨0, Nat.zero_le _, rfl, by simp, by simp⟩
  case round =>
    obtain ⟨k, hk, rfl, he, hal⟩ := hrel
    by_cases hkn : k < n
    · obtain ⟨b, off, z, rfl, hb, hc, hd⟩ := hx.at (k := k) (by have := HN.out; omega)
      have HT := Lib.hid (hx.take k)
      have HTL := Lib.hid (show (zs.take k).length = k by simp; have := HN.out; omega)
      cases ht : isTr z
      · have HE := Lib.hid (show trsB zs = false by
          rw [← Bool.not_eq_true, trsB_true]
          intro h
          have := isTr_true.2 (h.1 z (mem_drop hd))
          rw [ht] at this; cases this)
        have HM := Lib.hid ht
        clear he hd ht hal
        go_wp2_with fail
        refine (isTrustee_any z _).mono ?_
        rw [HM.out]
        rintro e w' ⟨rfl, rfl⟩
        go_wp2
        go_ret
        exact ⟨by rw [HE.out]; rfl, rfl⟩
      · have HI := Lib.hid ht
        by_cases hm : z ∈ zs.take k
        · have HE := Lib.hid (show trsB zs = false by
            rw [← Bool.not_eq_true, trsB_true]
            exact fun h => not_nodup hd hm h.2)
          have HM := Lib.hid (decide_eq_true hm)
          clear he hd hm ht hal
          go_wp2_with fail
          refine (isTrustee_any z _).mono ?_
          rw [HI.out]
          rintro e w' ⟨rfl, rfl⟩
          go_wp2_with fail
          refine (contains_any _ k _ (zs.take k) z HTL.out (by omega) _ HT.out).mono ?_
          rintro e w' ⟨rfl, rfl⟩; rw [HM.out]
          go_wp2
          go_ret
          exact ⟨by rw [HE.out]; rfl, rfl⟩
        · have HS := Lib.hid (nodup_step hd he hm)
          have HA := Lib.hid (show ∀ y ∈ zs.take (k + 1), isTr y = true by
            intro y hy
            obtain ⟨hk', hz⟩ := head_of_drop hd
            rw [List.take_succ_eq_append_getElem hk', hz, List.mem_append] at hy
            rcases hy with h | h
            · exact hal y h
            · simp at h; rw [h]; exact HI.out)
          have HM := Lib.hid (decide_eq_false hm)
          clear he hd hm ht hal
          go_wp2_with fail
          refine (isTrustee_any z _).mono ?_
          rw [HI.out]
          rintro e w' ⟨rfl, rfl⟩
          go_wp2_with fail
          refine (contains_any _ k _ (zs.take k) z HTL.out (by omega) _ HT.out).mono ?_
          rintro e w' ⟨rfl, rfl⟩; rw [HM.out]
          go_wp2
          go_round
          case rel => exact ⟨k + 1, by omega, by go_num, HS.out, HA.out⟩
          case measure => simp only [intOf]; omega
    · have HE := Lib.hid (show trsB zs = true by
        rw [List.take_of_length_le (by have := HN.out; omega)] at he hal
        exact trsB_true.2 ⟨fun z hz => isTr_true.1 (hal z hz), he⟩)
      clear he hal
      go_wp2
      go_ret
      exact ⟨by rw [HE.out]; rfl, rfl⟩

/-! ### The first right shares -/
def slL (P Q G : Int) (cs zs ss : List Int) : Nat → List Nat
  | 0 => []
  | k + 1 => if (slL P Q G cs zs ss k).length < cs.length ∧ fitB P Q G cs (zs.getD k 0) (ss.getD k 0) = true then slL P Q G cs zs ss k ++ [k] else slL P Q G cs zs ss k
def pk (zs : List Int) (l : List Nat) : List Int := l.map fun j => zs.getD j 0
theorem pk_length (zs : List Int) (l : List Nat) : (pk zs l).length = l.length := by simp [pk]
theorem slL_on {P Q G : Int} {cs zs ss : List Int} {k : Nat} {z x : Int} (hz : zs.getD k 0 = z) (hx : ss.getD k 0 = x) (h1 : (slL P Q G cs zs ss k).length < cs.length) (h2 : fitB P Q G cs z x = true) : slL P Q G cs zs ss (k + 1) = slL P Q G cs zs ss k ++ [k] := by
  rw [slL, if_pos ⟨h1, by rw [hz, hx]; exact h2⟩]
theorem slL_off {P Q G : Int} {cs zs ss : List Int} {k : Nat} {z x : Int} (hz : zs.getD k 0 = z) (hx : ss.getD k 0 = x) (h : ¬ ((slL P Q G cs zs ss k).length < cs.length ∧ fitB P Q G cs z x = true)) : slL P Q G cs zs ss (k + 1) = slL P Q G cs zs ss k := by
  rw [slL, if_neg (by rw [hz, hx]; exact h)]
theorem slL_lt {P Q G : Int} {cs zs ss : List Int} : ∀ k, ∀ j ∈ slL P Q G cs zs ss k, j < k
  | 0, j, h => by simp [slL] at h
  | k + 1, j, h => by
    rw [slL] at h
    split at h
    · rcases List.mem_append.1 h with h | h
      · have := slL_lt k j h; omega
      · simp at h; omega
    · have := slL_lt k j h; omega
theorem slL_pw {P Q G : Int} {cs zs ss : List Int} : ∀ k, (slL P Q G cs zs ss k).Pairwise (· < ·)
  | 0 => by simp [slL]
  | k + 1 => by
    rw [slL]
    split
    · rw [List.pairwise_append]
      exact ⟨slL_pw k, by simp, fun a ha b hb => by simp at hb; rw [hb]; exact slL_lt k a ha⟩
    · exact slL_pw k
theorem slL_le {P Q G : Int} {cs zs ss : List Int} : ∀ k, (slL P Q G cs zs ss k).length ≤ k
  | 0 => by simp [slL]
  | k + 1 => by
    have := slL_le (P := P) (Q := Q) (G := G) (cs := cs) (zs := zs) (ss := ss) k
    rw [slL]
    split
    · simp; omega
    · omega
theorem pk_nodup {zs : List Int} (hn : zs.Nodup) {l : List Nat} (hp : l.Pairwise (· < ·)) (hl : ∀ j ∈ l, j < zs.length) : (pk zs l).Nodup := by
  unfold pk
  rw [List.nodup_iff_pairwise_ne, List.pairwise_map]
  exact List.Pairwise.imp_of_mem (fun {a b} _ hb hab => nodup_getD hn hab (hl b hb)) hp
theorem pk_mem {zs : List Int} {l : List Nat} (hl : ∀ j ∈ l, j < zs.length) : ∀ z ∈ pk zs l, z ∈ zs := by
  intro z hz
  unfold pk at hz
  obtain ⟨j, hj, rfl⟩ := List.mem_map.1 hz
  rw [getD_in (hl j hj)]
  exact List.getElem_mem _
def rkB (P Q G : Int) (cs zs ss : List Int) : Bool := trB P Q G && (cmsB P Q cs && (trsB zs && (decide (ss.length = zs.length) && allIn ss 0 (Q - 1))))
theorem rkB_true {P Q G : Int} {cs zs ss : List Int} : rkB P Q G cs zs ss = true ↔ trB P Q G = true ∧ cmsB P Q cs = true ∧ trsB zs = true ∧ ss.length = zs.length ∧ allIn ss 0 (Q - 1) = true := by
  simp [rkB]
theorem rkB_off {P Q G : Int} {cs zs ss : List Int} (h : ¬ (trB P Q G = true ∧ cmsB P Q cs = true ∧ trsB zs = true ∧ ss.length = zs.length ∧ allIn ss 0 (Q - 1) = true)) : rkB P Q G cs zs ss = false := by
  rw [← Bool.not_eq_true, rkB_true]; exact h
def rkOK (P Q G : Int) (cs zs ss : List Int) : Bool := rkB P Q G cs zs ss && decide (cs.length ≤ (slL P Q G cs zs ss zs.length).length)
def rkX (P Q G : Int) (cs zs ss : List Int) : Int := dotFrom Q 0 (lagr Q 0 (pk zs (slL P Q G cs zs ss zs.length))) (pk ss (slL P Q G cs zs ss zs.length))
def rkV (P Q G : Int) (cs zs ss : List Int) : Int := if rkOK P Q G cs zs ss then rkX P Q G cs zs ss else 0
theorem rk_facts {P Q G : Int} {cs zs ss : List Int} (h : rkB P Q G cs zs ss = true) : goodB P Q G = true ∧ 7 < Q ∧ allEl P Q cs = true ∧ (1 ≤ cs.length ∧ cs.length ≤ 7) ∧ (∀ z ∈ zs, 1 ≤ z ∧ z ≤ 7) ∧ zs.Nodup ∧ zs.length ≤ 7 ∧ ss.length = zs.length ∧ (∀ s ∈ ss, 0 ≤ s ∧ s < Q) ∧ isPr Q = true := by
  obtain ⟨h1, h2, h3, h4, h5⟩ := rkB_true.1 h
  obtain ⟨c1, c2, c3⟩ := cmsB_true.1 h2
  exact ⟨(trB_of h1).1, (trB_of h1).2.2, c3, ⟨c1, c2⟩, (trsB_true.1 h3).1, (trsB_true.1 h3).2, trsB_len h3, h4, allIn_res7 h5, isPr_Q (trB_of h1).1⟩
theorem rk_val {P Q G : Int} {cs zs ss : List Int} (h : rkB P Q G cs zs ss = true) (ht : cs.length ≤ (slL P Q G cs zs ss zs.length).length) :
    valB Q 0 (pk zs (slL P Q G cs zs ss zs.length)) (pk ss (slL P Q G cs zs ss zs.length)) = true ∧ valRes Q 0 (pk zs (slL P Q G cs zs ss zs.length)) (pk ss (slL P Q G cs zs ss zs.length)) = rkX P Q G cs zs ss ∧
    (∀ z ∈ pk zs (slL P Q G cs zs ss zs.length), 0 ≤ z ∧ z < Q) ∧ (∀ z ∈ pk ss (slL P Q G cs zs ss zs.length), 0 ≤ z ∧ z < Q) ∧ (pk zs (slL P Q G cs zs ss zs.length)).Nodup := by
  obtain ⟨hg, h7, hce, ⟨hc1, hc7⟩, hz, hn, hl7, hln, hs, hq⟩ := rk_facts h
  obtain ⟨q2, q3, _⟩ := isPr_num hq
  have hlt := slL_lt (P := P) (Q := Q) (G := G) (cs := cs) (zs := zs) (ss := ss) zs.length
  have hle := slL_le (P := P) (Q := Q) (G := G) (cs := cs) (zs := zs) (ss := ss) zs.length
  have hx : ∀ z ∈ pk zs (slL P Q G cs zs ss zs.length), 0 ≤ z ∧ z < Q := fun z hm => by have := hz z (pk_mem hlt z hm); omega
  have hy : ∀ z ∈ pk ss (slL P Q G cs zs ss zs.length), 0 ≤ z ∧ z < Q := fun z hm => hs z (pk_mem (fun j hj => by rw [hln]; exact hlt j hj) z hm)
  have hnd := pk_nodup hn (slL_pw (P := P) (Q := Q) (G := G) (cs := cs) (zs := zs) (ss := ss) zs.length) hlt
  have hv : valB Q 0 (pk zs (slL P Q G cs zs ss zs.length)) (pk ss (slL P Q G cs zs ss zs.length)) = true := by
    unfold valB
    rw [tabB_eq, field_mk2 hq (short_of q2 q3 (by rw [pk_length]; omega) hx) (short_of q2 q3 (by rw [pk_length]; omega) hy), decide_eq_true hnd, decide_eq_true (by rw [pk_length]; omega), decide_eq_true (by rw [pk_length, pk_length]), resB_true.2 ⟨q2, q3, by omega, by omega⟩]; rfl
  exact ⟨hv, by simp [valRes, hv, rkX], hx, hy, hnd⟩

theorem pk_app (zs : List Int) (l : List Nat) (k : Nat) : pk zs (l ++ [k]) = pk zs l ++ [zs.getD k 0] := by simp [pk]

set_option maxRecDepth 100000 in
set_option maxHeartbeats 6400000 in
theorem reconstruct_any (P Q G : Int) (ca za sa : Option Addr) (cc zc sc : Nat) (cs zs ss : List Int) (hl : cs.length ≤ 1048576) (hl' : zs.length ≤ 1048576) (hl2 : ss.length ≤ 1048576) (hzc : zs.length ≤ zc) {w : World} (hc : IsInts w ca cs) (hz : IsInts w za zs) (hs : IsInts w sa ss) :
    Calls Try.prog 50 #[gv P Q G, .slice ca cs.length cc, .slice za zs.length zc, .slice sa ss.length sc] w fun e w' => e = .returned (.tuple #[.int .i64 (rkV P Q G cs zs ss), .bool (rkOK P Q G cs zs ss)]) ∧ Below w.heap.size w w' := by
  have G_0 := Lib.hid (gr_atS w (w.heap.size) (by simp) P Q G 24)
  have HB_0 := Lib.hid (show Below w.heap.size w (w.alloc (.cells #[.int .i64 P, .int .i64 Q, .int .i64 G] 24)) from ba _ _)
  have C_0 := Lib.hid (LZ.below hc HB_0.out)
  have Z_0 := Lib.hid (LZ.below hz HB_0.out)
  have T_0 := Lib.hid (LZ.below hs HB_0.out)
  clear hc hz hs
  cases h0 : trB P Q G
  · have K0 := Lib.hid (show trB P Q G = false from h0)
    have E1 := Lib.hid (show rkB P Q G cs zs ss = false from rkB_off (fun h => by rw [h0] at h; exact absurd h.1 (by simp)))
    have E2 := Lib.hid (show rkOK P Q G cs zs ss = false by simp [rkOK, E1.out])
    have E3 := Lib.hid (show rkV P Q G cs zs ss = 0 by simp [rkV, E2.out])
    rw [E2.out, E3.out]
    clear h0
    obtain ⟨gG0, gG1, gG2⟩ := G_0.out
    go_enter Try.func50, Try.ntmps50
    go_wp2_with fail
    refine (hasTrustees_any P Q G _).mono ?_
    rw [K0.out]
    rintro e v1 ⟨rfl, hb⟩
    have HB_1 := Lib.hid (bt HB_0.out hb)
    have G_1 := Lib.hid (G_0.out.below hb)
    have C_1 := Lib.hid (C_0.out.below hb)
    have Z_1 := Lib.hid (Z_0.out.below hb)
    have T_1 := Lib.hid (T_0.out.below hb)
    clear hb gG0 gG1 gG2
    obtain ⟨gG0, gG1, gG2⟩ := G_1.out
    go_wp2
    go_ret2
    exact ⟨rfl, HB_1.out⟩
  have K0 := Lib.hid (show trB P Q G = true from h0)
  have hmo := (trB_of h0).2.1
  cases h1 : cmsB P Q cs
  · have K1 := Lib.hid (show cmsB P Q cs = false from h1)
    have E1 := Lib.hid (show rkB P Q G cs zs ss = false from rkB_off (fun h => by rw [h1] at h; exact absurd h.2.1 (by simp)))
    have E2 := Lib.hid (show rkOK P Q G cs zs ss = false by simp [rkOK, E1.out])
    have E3 := Lib.hid (show rkV P Q G cs zs ss = 0 by simp [rkV, E2.out])
    rw [E2.out, E3.out]
    clear h0 h1
    obtain ⟨gG0, gG1, gG2⟩ := G_0.out
    go_enter Try.func50, Try.ntmps50
    go_wp2_with fail
    refine (hasTrustees_any P Q G _).mono ?_
    rw [K0.out]
    rintro e v1 ⟨rfl, hb⟩
    have HB_1 := Lib.hid (bt HB_0.out hb)
    have G_1 := Lib.hid (G_0.out.below hb)
    have C_1 := Lib.hid (C_0.out.below hb)
    have Z_1 := Lib.hid (Z_0.out.below hb)
    have T_1 := Lib.hid (T_0.out.below hb)
    clear hb gG0 gG1 gG2
    obtain ⟨gG0, gG1, gG2⟩ := G_1.out
    go_wp2_with fail
    refine (areCommits_any P Q G hmo ca cs.length cc cs rfl (by omega) _ C_1.out).mono ?_
    rw [K1.out]
    rintro e v2 ⟨rfl, hb⟩
    have HB_2 := Lib.hid (bt HB_1.out hb)
    have G_2 := Lib.hid (G_1.out.below hb)
    have C_2 := Lib.hid (C_1.out.below hb)
    have Z_2 := Lib.hid (Z_1.out.below hb)
    have T_2 := Lib.hid (T_1.out.below hb)
    clear hb gG0 gG1 gG2
    obtain ⟨gG0, gG1, gG2⟩ := G_2.out
    go_wp2
    go_ret2
    exact ⟨rfl, HB_2.out⟩
  have K1 := Lib.hid (show cmsB P Q cs = true from h1)
  cases h2 : trsB zs
  · have K2 := Lib.hid (show trsB zs = false from h2)
    have E1 := Lib.hid (show rkB P Q G cs zs ss = false from rkB_off (fun h => by rw [h2] at h; exact absurd h.2.2.1 (by simp)))
    have E2 := Lib.hid (show rkOK P Q G cs zs ss = false by simp [rkOK, E1.out])
    have E3 := Lib.hid (show rkV P Q G cs zs ss = 0 by simp [rkV, E2.out])
    rw [E2.out, E3.out]
    clear h0 h1 h2
    obtain ⟨gG0, gG1, gG2⟩ := G_0.out
    go_enter Try.func50, Try.ntmps50
    go_wp2_with fail
    refine (hasTrustees_any P Q G _).mono ?_
    rw [K0.out]
    rintro e v1 ⟨rfl, hb⟩
    have HB_1 := Lib.hid (bt HB_0.out hb)
    have G_1 := Lib.hid (G_0.out.below hb)
    have C_1 := Lib.hid (C_0.out.below hb)
    have Z_1 := Lib.hid (Z_0.out.below hb)
    have T_1 := Lib.hid (T_0.out.below hb)
    clear hb gG0 gG1 gG2
    obtain ⟨gG0, gG1, gG2⟩ := G_1.out
    go_wp2_with fail
    refine (areCommits_any P Q G hmo ca cs.length cc cs rfl (by omega) _ C_1.out).mono ?_
    rw [K1.out]
    rintro e v2 ⟨rfl, hb⟩
    have HB_2 := Lib.hid (bt HB_1.out hb)
    have G_2 := Lib.hid (G_1.out.below hb)
    have C_2 := Lib.hid (C_1.out.below hb)
    have Z_2 := Lib.hid (Z_1.out.below hb)
    have T_2 := Lib.hid (T_1.out.below hb)
    clear hb gG0 gG1 gG2
    obtain ⟨gG0, gG1, gG2⟩ := G_2.out
    go_wp2_with fail
    refine (areTrustees_any za zs.length zc zs rfl (by omega) hzc _ Z_2.out).mono ?_
    rw [K2.out]
    rintro e w' ⟨rfl, rfl⟩
    go_wp2
    go_ret2
    exact ⟨rfl, HB_2.out⟩
  have K2 := Lib.hid (show trsB zs = true from h2)
  have hz7 := trsB_len h2
  by_cases h3 : ¬ (zs.length = ss.length)
  · have B3 : ((zs.length : Int) != (ss.length : Int)) = true := by simp; intro h; exact h3 (by omega)
    have E1 := Lib.hid (show rkB P Q G cs zs ss = false from rkB_off (fun h => h3 h.2.2.2.1.symm))
    have E2 := Lib.hid (show rkOK P Q G cs zs ss = false by simp [rkOK, E1.out])
    have E3 := Lib.hid (show rkV P Q G cs zs ss = 0 by simp [rkV, E2.out])
    rw [E2.out, E3.out]
    clear h0 h1 h2 h3
    obtain ⟨gG0, gG1, gG2⟩ := G_0.out
    go_enter Try.func50, Try.ntmps50
    go_wp2_with fail
    refine (hasTrustees_any P Q G _).mono ?_
    rw [K0.out]
    rintro e v1 ⟨rfl, hb⟩
    have HB_1 := Lib.hid (bt HB_0.out hb)
    have G_1 := Lib.hid (G_0.out.below hb)
    have C_1 := Lib.hid (C_0.out.below hb)
    have Z_1 := Lib.hid (Z_0.out.below hb)
    have T_1 := Lib.hid (T_0.out.below hb)
    clear hb gG0 gG1 gG2
    obtain ⟨gG0, gG1, gG2⟩ := G_1.out
    go_wp2_with fail
    refine (areCommits_any P Q G hmo ca cs.length cc cs rfl (by omega) _ C_1.out).mono ?_
    rw [K1.out]
    rintro e v2 ⟨rfl, hb⟩
    have HB_2 := Lib.hid (bt HB_1.out hb)
    have G_2 := Lib.hid (G_1.out.below hb)
    have C_2 := Lib.hid (C_1.out.below hb)
    have Z_2 := Lib.hid (Z_1.out.below hb)
    have T_2 := Lib.hid (T_1.out.below hb)
    clear hb gG0 gG1 gG2
    obtain ⟨gG0, gG1, gG2⟩ := G_2.out
    go_wp2_with fail
    refine (areTrustees_any za zs.length zc zs rfl (by omega) hzc _ Z_2.out).mono ?_
    rw [K2.out]
    rintro e w' ⟨rfl, rfl⟩
    go_wp2
    go_ret2
    exact ⟨rfl, HB_2.out⟩
  replace h3 := Decidable.not_not.1 h3
  have B3 : ((zs.length : Int) != (ss.length : Int)) = false := by simp [h3]
  cases h4 : exsB Q ss
  · have K4 := Lib.hid (show exsB Q ss = false from h4)
    have E1 := Lib.hid (show rkB P Q G cs zs ss = false from rkB_off (fun h => by rw [exsB_short (by omega)] at h4; rw [h4] at h; exact absurd h.2.2.2.2 (by simp)))
    have E2 := Lib.hid (show rkOK P Q G cs zs ss = false by simp [rkOK, E1.out])
    have E3 := Lib.hid (show rkV P Q G cs zs ss = 0 by simp [rkV, E2.out])
    rw [E2.out, E3.out]
    clear h0 h1 h2 h3 h4
    obtain ⟨gG0, gG1, gG2⟩ := G_0.out
    go_enter Try.func50, Try.ntmps50
    go_wp2_with fail
    refine (hasTrustees_any P Q G _).mono ?_
    rw [K0.out]
    rintro e v1 ⟨rfl, hb⟩
    have HB_1 := Lib.hid (bt HB_0.out hb)
    have G_1 := Lib.hid (G_0.out.below hb)
    have C_1 := Lib.hid (C_0.out.below hb)
    have Z_1 := Lib.hid (Z_0.out.below hb)
    have T_1 := Lib.hid (T_0.out.below hb)
    clear hb gG0 gG1 gG2
    obtain ⟨gG0, gG1, gG2⟩ := G_1.out
    go_wp2_with fail
    refine (areCommits_any P Q G hmo ca cs.length cc cs rfl (by omega) _ C_1.out).mono ?_
    rw [K1.out]
    rintro e v2 ⟨rfl, hb⟩
    have HB_2 := Lib.hid (bt HB_1.out hb)
    have G_2 := Lib.hid (G_1.out.below hb)
    have C_2 := Lib.hid (C_1.out.below hb)
    have Z_2 := Lib.hid (Z_1.out.below hb)
    have T_2 := Lib.hid (T_1.out.below hb)
    clear hb gG0 gG1 gG2
    obtain ⟨gG0, gG1, gG2⟩ := G_2.out
    go_wp2_with fail
    refine (areTrustees_any za zs.length zc zs rfl (by omega) hzc _ Z_2.out).mono ?_
    rw [K2.out]
    rintro e w' ⟨rfl, rfl⟩
    go_wp2_with fail
    refine (areExponents_any P Q G sa ss.length sc ss rfl (by omega) _ T_2.out).mono ?_
    rw [K4.out]
    rintro e v3 ⟨rfl, hb⟩
    have HB_3 := Lib.hid (bt HB_2.out hb)
    have G_3 := Lib.hid (G_2.out.below hb)
    have C_3 := Lib.hid (C_2.out.below hb)
    have Z_3 := Lib.hid (Z_2.out.below hb)
    have T_3 := Lib.hid (T_2.out.below hb)
    clear hb gG0 gG1 gG2
    obtain ⟨gG0, gG1, gG2⟩ := G_3.out
    go_wp2
    go_ret2
    exact ⟨rfl, HB_3.out⟩
  have K4 := Lib.hid (show exsB Q ss = true from h4)
  have E1 := Lib.hid (show rkB P Q G cs zs ss = true from rkB_true.2 ⟨h0, h1, h2, h3.symm, by rw [← exsB_short (by omega)]; exact h4⟩)
  clear h0 h1 h2 h3 h4 hz7
  obtain ⟨hgd, hq7, hce, ⟨hc1, hc7⟩, hzr, hnd, hz7, hln, hsr, hpr⟩ := rk_facts E1.out
  have HGD := Lib.hid hgd
  have HCE := Lib.hid hce
  have HZR := Lib.hid hzr
  have HND := Lib.hid hnd
  have HSR := Lib.hid hsr
  have HLN := Lib.hid hln
  have HPR := Lib.hid hpr
  obtain ⟨i0, hi, hy0, hy1, hy2⟩ := info_parts Try.info3
  have hss7 : ss.length ≤ 7 := by omega
  clear hgd hce hzr hnd hsr hln hpr
  obtain ⟨gG0, gG1, gG2⟩ := G_0.out
  go_enter Try.func50, Try.ntmps50
  go_wp2_with fail
  refine (hasTrustees_any P Q G _).mono ?_
  rw [K0.out]
  rintro e v1 ⟨rfl, hb⟩
  have HB_1 := Lib.hid (bt HB_0.out hb)
  have G_1 := Lib.hid (G_0.out.below hb)
  have C_1 := Lib.hid (C_0.out.below hb)
  have Z_1 := Lib.hid (Z_0.out.below hb)
  have T_1 := Lib.hid (T_0.out.below hb)
  clear hb gG0 gG1 gG2
  obtain ⟨gG0, gG1, gG2⟩ := G_1.out
  go_wp2_with fail
  refine (areCommits_any P Q G hmo ca cs.length cc cs rfl (by omega) _ C_1.out).mono ?_
  rw [K1.out]
  rintro e v2 ⟨rfl, hb⟩
  have HB_2 := Lib.hid (bt HB_1.out hb)
  have G_2 := Lib.hid (G_1.out.below hb)
  have C_2 := Lib.hid (C_1.out.below hb)
  have Z_2 := Lib.hid (Z_1.out.below hb)
  have T_2 := Lib.hid (T_1.out.below hb)
  clear hb gG0 gG1 gG2
  obtain ⟨gG0, gG1, gG2⟩ := G_2.out
  go_wp2_with fail
  refine (areTrustees_any za zs.length zc zs rfl (by omega) hzc _ Z_2.out).mono ?_
  rw [K2.out]
  rintro e w' ⟨rfl, rfl⟩
  go_wp2_with fail
  refine (areExponents_any P Q G sa ss.length sc ss rfl (by omega) _ T_2.out).mono ?_
  rw [K4.out]
  rintro e v3 ⟨rfl, hb⟩
  have HB_3 := Lib.hid (bt HB_2.out hb)
  have G_3 := Lib.hid (G_2.out.below hb)
  have C_3 := Lib.hid (C_2.out.below hb)
  have Z_3 := Lib.hid (Z_2.out.below hb)
  have T_3 := Lib.hid (T_2.out.below hb)
  clear hb gG0 gG1 gG2
  obtain ⟨gG0, gG1, gG2⟩ := G_3.out
  go_wp2_with fail
  refine (receive_any P Q G HGD.out ca za sa cc zc sc cs zs ss (by omega) HCE.out HZR.out HND.out HSR.out HLN.out (by omega) zs.length rfl C_3.out Z_3.out T_3.out).mono ?_
  rintro e wq ⟨mm, rfl, hrc, hb⟩
  have HRC := Lib.hid hrc
  have Z_k := Lib.hid (Z_3.out.below hb)
  have T_k := Lib.hid (T_3.out.below hb)
  have G_k := Lib.hid (G_3.out.below hb)
  have HBq := Lib.hid (bt HB_3.out hb)
  clear hrc hb gG0 gG1 gG2
  go_wp2_with fail
  go_loopw [11, 12, 14, 15, 16, 51] (fun X Y _ _ _ K wr => ∃ (k : Nat) (va : Option Addr) (vc : Nat) (va' : Option Addr) (vc' : Nat), k ≤ zs.length ∧ X = .slice va (slL P Q G cs zs ss k).length vc ∧ Y = .slice va' (slL P Q G cs zs ss k).length vc' ∧ K = .int .i64 k ∧ wr.ownsRow wq.heap.size 3 1 (.slice va (slL P Q G cs zs ss k).length vc) (slL P Q G cs zs ss k).length ((pk zs (slL P Q G cs zs ss k)).map (Value.int .i64)) ∧ wr.ownsRow wq.heap.size 3 1 (.slice va' (slL P Q G cs zs ss k).length vc') (slL P Q G cs zs ss k).length ((pk ss (slL P Q G cs zs ss k)).map (Value.int .i64)) ∧ Apa va va' ∧ Below wq.heap.size wq wr) (fun _ _ _ _ _ K _ => zs.length - (intOf K).toNat)
  case atStart => exact ⟨0, none, 0, none, 0, Nat.zero_le _, rfl, rfl, rfl, World.ownsRow_nil _ _ _ _, World.ownsRow_nil _ _ _ _, (fun a a' h => by cases h), Below.refl _ _⟩
  case round =>
    obtain ⟨k, va, vc, va', vc', hk, rfl, rfl, rfl, hox, hoy, hap, hbel⟩ := hrel
    obtain ⟨l, hsl⟩ : ∃ l, slL P Q G cs zs ss k = l := ⟨_, rfl⟩
    obtain ⟨m, hm⟩ : ∃ m, l.length = m := ⟨_, rfl⟩
    rw [hsl, hm] at hox hoy
    have hmk : m ≤ 7 := by have h1 := slL_le (P := P) (Q := Q) (G := G) (cs := cs) (zs := zs) (ss := ss) k; rw [hsl, hm] at h1; omega
    have HM := Lib.hid hm
    have HSL := Lib.hid hsl
    have HX := Lib.hid hox
    have HY := Lib.hid hoy
    have HA := Lib.hid hap
    have HBr := Lib.hid hbel
    simp only [hsl, hm]
    clear hox hoy hap hbel hsl hm
    by_cases hkn : k < zs.length
    · obtain ⟨zb, zo, z, rfl, hzb, hzx, hzd⟩ := (show IsInts wr za zs from Z_k.out.below HBr.out).at (k := k) hkn
      obtain ⟨sb, so, x, rfl, hsb, hsx, hsd⟩ := (show IsInts wr sa ss from T_k.out.below HBr.out).at (k := k) (by have := HLN.out; omega)
      have hkss : k < ss.length := by have := HLN.out; omega
      have hz17 := HZR.out z (mem_drop hzd)
      have hxr := HSR.out x (mem_drop hsd)
      have hzv : zs.getD k 0 = z := by obtain ⟨h1, h2⟩ := head_of_drop hzd; rw [getD_in h1]; exact h2
      have hxv : ss.getD k 0 = x := by obtain ⟨h1, h2⟩ := head_of_drop hsd; rw [getD_in h1]; exact h2
      have HZV := Lib.hid hzv
      have HXV := Lib.hid hxv
      clear hzd hsd
      obtain ⟨D, hown, hism, hat⟩ := HRC.out.below HBr.out
      have hatk := hat k hkn
      rw [hzv, hxv] at hatk
      obtain ⟨v, ps, hrun, hR⟩ := hown.lookup Try.keyedI Try.underlying108 (zero_any wr) (show rcR .nilIface = some (.nil, []) from rfl) (key_small (z := z) (by omega) (by omega))
      rw [hatk] at hR
      have hv := rcR_inv hR
      clear hown hism hat hatk hR
      cases hf : fitB P Q G cs z x
      · rw [hf] at hv
        simp only [if_false, Bool.false_eq_true] at hv
        subst hv
        have HL := Lib.hid (show slL P Q G cs zs ss (k + 1) = l by rw [← HSL.out]; exact slL_off hzv hxv (by rw [hf]; simp))
        have hta := ta_wrong x wr
        clear hf hzv hxv
        go_wp2
        go_roundw
        case rel => exact ⟨k + 1, va, vc, va', vc', by omega, by rw [HL.out, HM.out], by rw [HL.out, HM.out], by go_num, by rw [HL.out, HM.out]; exact HX.out, by rw [HL.out, HM.out]; exact HY.out, HA.out, HBr.out⟩
        case measure => simp only [intOf]; omega
      · rw [hf] at hv
        simp only [if_true] at hv
        subst hv
        have hta := ta_right x wr
        by_cases hlt : m < cs.length
        · have HL := Lib.hid (show slL P Q G cs zs ss (k + 1) = l ++ [k] by rw [← HSL.out]; exact slL_on hzv hxv (by rw [HSL.out, HM.out]; exact hlt) hf)
          clear hf hzv hxv
          go_wp2_with (at_builtin
                       first
                       | (refine wpList_append_lies _ rfl _ _ 25 rfl wq.heap.size 3 i0 (.int .i64 0) 1 8 Try.underlying25 hi hy0 hy1 hy2 rfl (by decide) _ _ _ rfl (HX.out.alloc _) ⟨wr.heap.size, 0, none⟩ 1 1 [.int .i64 z] rfl rfl (cell_one_new _ _ _) (ints_oneCell .i64 [z]) (by decide) (by unfold maxLen; omega) (by omega) (by have := HBr.out.size; simp; omega) (wr.heap.size + 1) (by simp) ?_
                          intro g5 c5 w5 hown5 hgr5 hat5 hlt5
                          have HX5 := Lib.hid (show w5.ownsRow wq.heap.size 3 1 (.slice (some ⟨g5, 0, none⟩) (m + 1) c5) (m + 1) ((pk zs l ++ [z]).map (Value.int .i64)) by rw [List.map_append]; exact hown5)
                          have HY5 := Lib.hid (own_ne (HY.out.alloc (.cells #[.int .i64 z] 3)) hgr5 (apa_ne HA.out))
                          have HA5 := Lib.hid (apa_new HA.out hat5 (fun a' ha' => by have := (own_lt7 HY.out a' ha').2; omega))
                          have HB5 := Lib.hid ((HBr.out.alloc HBr.out.size (.cells #[.int .i64 z] 3)).grown hgr5 (Nat.le_trans HBr.out.size (by simp)) (fun q hq => (HX.out.lt q hq).1))
                          have HS5 := Lib.hid (Nat.le_of_lt_succ (Nat.lt_succ_of_le HB5.out.size))
                          clear hown5 hgr5 hat5 hlt5)
                       | (refine wpList_append_lies _ rfl _ _ 25 rfl wq.heap.size 3 i0 (.int .i64 0) 1 8 Try.underlying25 hi hy0 hy1 hy2 rfl (by decide) _ _ _ rfl (HY5.out.alloc _) ⟨w5.heap.size, 0, none⟩ 1 1 [.int .i64 x] rfl rfl (cell_one_new _ _ _) (ints_oneCell .i64 [x]) (by decide) (by unfold maxLen; omega) (by omega) (by have := HB5.out.size; simp; omega) (w5.heap.size + 1) (by simp) ?_
                          intro g7 c7 w7 hown7 hgr7 hat7 hlt7
                          have HY7 := Lib.hid (show w7.ownsRow wq.heap.size 3 1 (.slice (some ⟨g7, 0, none⟩) (m + 1) c7) (m + 1) ((pk ss l ++ [x]).map (Value.int .i64)) by rw [List.map_append]; exact hown7)
                          have HX7 := Lib.hid (own_ne (HX5.out.alloc (.cells #[.int .i64 x] 3)) hgr7 (apa_ne HA5.out.symm))
                          have HA7 := Lib.hid (apa_new HA5.out.symm hat7 (fun a' ha' => by have := (own_lt7 HX5.out a' ha').2; omega)).symm
                          have HB7 := Lib.hid ((HB5.out.alloc HB5.out.size (.cells #[.int .i64 x] 3)).grown hgr7 (Nat.le_trans HB5.out.size (by simp)) (fun q hq => (HY5.out.lt q hq).1))
                          clear hown7 hgr7 hat7 hlt7))
          go_roundw
          case rel => exact ⟨k + 1, some ⟨g5, 0, none⟩, c5, some ⟨g7, 0, none⟩, c7, by omega, by rw [HL.out]; simp [HM.out], by rw [HL.out]; simp [HM.out], by go_num, by rw [HL.out, List.length_append, HM.out, pk_app, HZV.out]; exact HX7.out, by rw [HL.out, List.length_append, HM.out, pk_app, HXV.out]; exact HY7.out, HA7.out, HB7.out⟩
          case measure => simp only [intOf]; omega
        · have HL := Lib.hid (show slL P Q G cs zs ss (k + 1) = l by rw [← HSL.out]; exact slL_off hzv hxv (by rw [HSL.out, HM.out]; omega))
          clear hf hzv hxv
          go_wp2
          go_roundw
          case rel => exact ⟨k + 1, va, vc, va', vc', by omega, by rw [HL.out, HM.out], by rw [HL.out, HM.out], by go_num, by rw [HL.out, HM.out]; exact HX.out, by rw [HL.out, HM.out]; exact HY.out, HA.out, HBr.out⟩
          case measure => simp only [intOf]; omega
    · obtain rfl : k = zs.length := by omega
      obtain ⟨gG0, gG1, gG2⟩ := G_k.out.below HBr.out
      by_cases ht : cs.length ≤ m
      · obtain ⟨hvB, hvR, _, _, _⟩ := rk_val E1.out (by rw [HSL.out, HM.out]; exact ht)
        have E2 := Lib.hid (show rkOK P Q G cs zs ss = true by unfold rkOK; rw [E1.out, HSL.out, HM.out, decide_eq_true ht]; rfl)
        have E3 := Lib.hid (show rkV P Q G cs zs ss = rkX P Q G cs zs ss by simp [rkV, E2.out])
        have hnt : ¬ (m < cs.length) := by omega
        rw [HSL.out] at hvB hvR
        have HVB := Lib.hid hvB
        have HVR := Lib.hid hvR
        have HX2 := Lib.hid (LZ_own HX.out)
        have HY2 := Lib.hid (LZ_own HY.out)
        have hcap : m ≤ vc := own_cap HX.out
        clear hvB hvR ht
        go_wp2_with fail
        refine (valueFrom_any Q va va' m m vc vc' (pk zs l) (pk ss l) 0 (by rw [pk_length, HM.out]) (by rw [pk_length, HM.out]) (by omega) (by omega) hcap _ HX2.out HY2.out).mono ?_
        rw [HVB.out, HVR.out]
        rintro e w9 ⟨rfl, hb9⟩
        have HB9 := Lib.hid (bt (bt HBq.out HBr.out) hb9)
        clear hb9
        go_wp2
        go_ret2
        exact ⟨by rw [E2.out, E3.out]; try rfl, HB9.out⟩
      · have E2 := Lib.hid (show rkOK P Q G cs zs ss = false by unfold rkOK; rw [E1.out, HSL.out, HM.out, decide_eq_false ht]; rfl)
        have E3 := Lib.hid (show rkV P Q G cs zs ss = 0 by simp [rkV, E2.out])
        have hnt : m < cs.length := by omega
        clear ht
        go_wp2
        go_ret2
        exact ⟨by rw [E2.out, E3.out]; try rfl, bt HBq.out HBr.out⟩

set_option maxRecDepth 100000 in
set_option maxHeartbeats 6400000 in
theorem sReconstruct_any (P Q G : Int) (ca za sa : Option Addr) (cc zc sc : Nat) (cs zs ss : List Int) (hl : cs.length ≤ 1048576) (hl' : zs.length ≤ 1048576) (hl2 : ss.length ≤ 1048576) (hzc : zs.length ≤ zc) {w : World} (hc : IsInts w ca cs) (hz : IsInts w za zs) (hs : IsInts w sa ss) :
    Calls Try.prog 49 #[gv P Q G, .slice ca cs.length cc, .slice za zs.length zc, .slice sa ss.length sc] w fun e w' => e = .returned (.tuple #[.int .i64 (rkV P Q G cs zs ss), .bool (rkOK P Q G cs zs ss)]) ∧ Below w.heap.size w w' := by
  have G_0 := Lib.hid (gr_atS w (w.heap.size) (by simp) P Q G 24)
  have HB_0 := Lib.hid (show Below w.heap.size w (w.alloc (.cells #[.int .i64 P, .int .i64 Q, .int .i64 G] 24)) from ba _ _)
  have C_0 := Lib.hid (LZ.below hc HB_0.out)
  have Z_0 := Lib.hid (LZ.below hz HB_0.out)
  have T_0 := Lib.hid (LZ.below hs HB_0.out)
  clear hc hz hs
  cases h0 : trB P Q G
  · have K0 := Lib.hid (show trB P Q G = false from h0)
    have E1 := Lib.hid (show rkB P Q G cs zs ss = false from rkB_off (fun h => by rw [h0] at h; exact absurd h.1 (by simp)))
    have E2 := Lib.hid (show rkOK P Q G cs zs ss = false by simp [rkOK, E1.out])
    have E3 := Lib.hid (show rkV P Q G cs zs ss = 0 by simp [rkV, E2.out])
    rw [E2.out, E3.out]
    clear h0
    obtain ⟨gG0, gG1, gG2⟩ := G_0.out
    go_enter Try.func49, Try.ntmps49
    go_wp2_with fail
    refine (sGroup_any P Q G _).mono ?_
    rw [K0.out]
    rintro e v1 ⟨rfl, hb⟩
    have HB_1 := Lib.hid (bt HB_0.out hb)
    have G_1 := Lib.hid (G_0.out.below hb)
    have C_1 := Lib.hid (C_0.out.below hb)
    have Z_1 := Lib.hid (Z_0.out.below hb)
    have T_1 := Lib.hid (T_0.out.below hb)
    clear hb gG0 gG1 gG2
    obtain ⟨gG0, gG1, gG2⟩ := G_1.out
    go_wp2
    go_ret2
    exact ⟨rfl, HB_1.out⟩
  have K0 := Lib.hid (show trB P Q G = true from h0)
  have hmo := (trB_of h0).2.1
  cases h1 : cmsB P Q cs
  · have K1 := Lib.hid (show cmsB P Q cs = false from h1)
    have E1 := Lib.hid (show rkB P Q G cs zs ss = false from rkB_off (fun h => by rw [h1] at h; exact absurd h.2.1 (by simp)))
    have E2 := Lib.hid (show rkOK P Q G cs zs ss = false by simp [rkOK, E1.out])
    have E3 := Lib.hid (show rkV P Q G cs zs ss = 0 by simp [rkV, E2.out])
    rw [E2.out, E3.out]
    clear h0 h1
    obtain ⟨gG0, gG1, gG2⟩ := G_0.out
    go_enter Try.func49, Try.ntmps49
    go_wp2_with fail
    refine (sGroup_any P Q G _).mono ?_
    rw [K0.out]
    rintro e v1 ⟨rfl, hb⟩
    have HB_1 := Lib.hid (bt HB_0.out hb)
    have G_1 := Lib.hid (G_0.out.below hb)
    have C_1 := Lib.hid (C_0.out.below hb)
    have Z_1 := Lib.hid (Z_0.out.below hb)
    have T_1 := Lib.hid (T_0.out.below hb)
    clear hb gG0 gG1 gG2
    obtain ⟨gG0, gG1, gG2⟩ := G_1.out
    go_wp2_with fail
    refine (sCommits_any P Q G hmo ca cs.length cc cs rfl (by omega) _ C_1.out).mono ?_
    rw [K1.out]
    rintro e v2 ⟨rfl, hb⟩
    have HB_2 := Lib.hid (bt HB_1.out hb)
    have G_2 := Lib.hid (G_1.out.below hb)
    have C_2 := Lib.hid (C_1.out.below hb)
    have Z_2 := Lib.hid (Z_1.out.below hb)
    have T_2 := Lib.hid (T_1.out.below hb)
    clear hb gG0 gG1 gG2
    obtain ⟨gG0, gG1, gG2⟩ := G_2.out
    go_wp2
    go_ret2
    exact ⟨rfl, HB_2.out⟩
  have K1 := Lib.hid (show cmsB P Q cs = true from h1)
  by_cases h2 : ¬ (zs.length ≤ 7)
  · have B2 : (7 : Int) < (zs.length : Int) := by omega
    have E1 := Lib.hid (show rkB P Q G cs zs ss = false from rkB_off (fun h => h2 (trsB_len h.2.2.1)))
    have E2 := Lib.hid (show rkOK P Q G cs zs ss = false by simp [rkOK, E1.out])
    have E3 := Lib.hid (show rkV P Q G cs zs ss = 0 by simp [rkV, E2.out])
    rw [E2.out, E3.out]
    clear h0 h1 h2
    obtain ⟨gG0, gG1, gG2⟩ := G_0.out
    go_enter Try.func49, Try.ntmps49
    go_wp2_with fail
    refine (sGroup_any P Q G _).mono ?_
    rw [K0.out]
    rintro e v1 ⟨rfl, hb⟩
    have HB_1 := Lib.hid (bt HB_0.out hb)
    have G_1 := Lib.hid (G_0.out.below hb)
    have C_1 := Lib.hid (C_0.out.below hb)
    have Z_1 := Lib.hid (Z_0.out.below hb)
    have T_1 := Lib.hid (T_0.out.below hb)
    clear hb gG0 gG1 gG2
    obtain ⟨gG0, gG1, gG2⟩ := G_1.out
    go_wp2_with fail
    refine (sCommits_any P Q G hmo ca cs.length cc cs rfl (by omega) _ C_1.out).mono ?_
    rw [K1.out]
    rintro e v2 ⟨rfl, hb⟩
    have HB_2 := Lib.hid (bt HB_1.out hb)
    have G_2 := Lib.hid (G_1.out.below hb)
    have C_2 := Lib.hid (C_1.out.below hb)
    have Z_2 := Lib.hid (Z_1.out.below hb)
    have T_2 := Lib.hid (T_1.out.below hb)
    clear hb gG0 gG1 gG2
    obtain ⟨gG0, gG1, gG2⟩ := G_2.out
    go_wp2
    go_ret2
    exact ⟨rfl, HB_2.out⟩
  replace h2 := Decidable.not_not.1 h2
  have B2 : (zs.length : Int) ≤ 7 := by omega
  cases h3 : allIn zs 1 7
  · have K3 := Lib.hid (show allIn zs 1 7 = false from h3)
    have E1 := Lib.hid (show rkB P Q G cs zs ss = false from rkB_off (fun h => by have h9 := h.2.2.1; rw [trs_ref (by omega), h3] at h9; simp at h9))
    have E2 := Lib.hid (show rkOK P Q G cs zs ss = false by simp [rkOK, E1.out])
    have E3 := Lib.hid (show rkV P Q G cs zs ss = 0 by simp [rkV, E2.out])
    rw [E2.out, E3.out]
    clear h0 h1 h2 h3
    obtain ⟨gG0, gG1, gG2⟩ := G_0.out
    go_enter Try.func49, Try.ntmps49
    go_wp2_with fail
    refine (sGroup_any P Q G _).mono ?_
    rw [K0.out]
    rintro e v1 ⟨rfl, hb⟩
    have HB_1 := Lib.hid (bt HB_0.out hb)
    have G_1 := Lib.hid (G_0.out.below hb)
    have C_1 := Lib.hid (C_0.out.below hb)
    have Z_1 := Lib.hid (Z_0.out.below hb)
    have T_1 := Lib.hid (T_0.out.below hb)
    clear hb gG0 gG1 gG2
    obtain ⟨gG0, gG1, gG2⟩ := G_1.out
    go_wp2_with fail
    refine (sCommits_any P Q G hmo ca cs.length cc cs rfl (by omega) _ C_1.out).mono ?_
    rw [K1.out]
    rintro e v2 ⟨rfl, hb⟩
    have HB_2 := Lib.hid (bt HB_1.out hb)
    have G_2 := Lib.hid (G_1.out.below hb)
    have C_2 := Lib.hid (C_1.out.below hb)
    have Z_2 := Lib.hid (Z_1.out.below hb)
    have T_2 := Lib.hid (T_1.out.below hb)
    clear hb gG0 gG1 gG2
    obtain ⟨gG0, gG1, gG2⟩ := G_2.out
    go_wp2_with fail
    refine (l1All_any za zs.length zc zs 1 7 rfl (by omega) _ Z_2.out).mono ?_
    rw [K3.out]
    rintro e w' ⟨rfl, rfl⟩
    go_wp2
    go_ret2
    exact ⟨rfl, HB_2.out⟩
  have K3 := Lib.hid (show allIn zs 1 7 = true from h3)
  cases h4 : decide zs.Nodup
  · have K4 := Lib.hid (show decide zs.Nodup = false from h4)
    have E1 := Lib.hid (show rkB P Q G cs zs ss = false from rkB_off (fun h => by have h9 := h.2.2.1; rw [trs_ref (by omega), h4] at h9; simp at h9))
    have E2 := Lib.hid (show rkOK P Q G cs zs ss = false by simp [rkOK, E1.out])
    have E3 := Lib.hid (show rkV P Q G cs zs ss = 0 by simp [rkV, E2.out])
    rw [E2.out, E3.out]
    clear h0 h1 h2 h3 h4
    obtain ⟨gG0, gG1, gG2⟩ := G_0.out
    go_enter Try.func49, Try.ntmps49
    go_wp2_with fail
    refine (sGroup_any P Q G _).mono ?_
    rw [K0.out]
    rintro e v1 ⟨rfl, hb⟩
    have HB_1 := Lib.hid (bt HB_0.out hb)
    have G_1 := Lib.hid (G_0.out.below hb)
    have C_1 := Lib.hid (C_0.out.below hb)
    have Z_1 := Lib.hid (Z_0.out.below hb)
    have T_1 := Lib.hid (T_0.out.below hb)
    clear hb gG0 gG1 gG2
    obtain ⟨gG0, gG1, gG2⟩ := G_1.out
    go_wp2_with fail
    refine (sCommits_any P Q G hmo ca cs.length cc cs rfl (by omega) _ C_1.out).mono ?_
    rw [K1.out]
    rintro e v2 ⟨rfl, hb⟩
    have HB_2 := Lib.hid (bt HB_1.out hb)
    have G_2 := Lib.hid (G_1.out.below hb)
    have C_2 := Lib.hid (C_1.out.below hb)
    have Z_2 := Lib.hid (Z_1.out.below hb)
    have T_2 := Lib.hid (T_1.out.below hb)
    clear hb gG0 gG1 gG2
    obtain ⟨gG0, gG1, gG2⟩ := G_2.out
    go_wp2_with fail
    refine (l1All_any za zs.length zc zs 1 7 rfl (by omega) _ Z_2.out).mono ?_
    rw [K3.out]
    rintro e w' ⟨rfl, rfl⟩
    go_wp2_with fail
    refine (yPoints_any za zs.length zc zs rfl (by omega) hzc _ Z_2.out).mono ?_
    rw [K4.out]
    rintro e w' ⟨rfl, rfl⟩
    go_wp2
    go_ret2
    exact ⟨rfl, HB_2.out⟩
  have K4 := Lib.hid (show decide zs.Nodup = true from h4)
  by_cases h5 : ¬ (ss.length = zs.length)
  · have B5 : ((ss.length : Int) != (zs.length : Int)) = true := by simp; intro h; exact h5 (by omega)
    have E1 := Lib.hid (show rkB P Q G cs zs ss = false from rkB_off (fun h => h5 h.2.2.2.1))
    have E2 := Lib.hid (show rkOK P Q G cs zs ss = false by simp [rkOK, E1.out])
    have E3 := Lib.hid (show rkV P Q G cs zs ss = 0 by simp [rkV, E2.out])
    rw [E2.out, E3.out]
    clear h0 h1 h2 h3 h4 h5
    obtain ⟨gG0, gG1, gG2⟩ := G_0.out
    go_enter Try.func49, Try.ntmps49
    go_wp2_with fail
    refine (sGroup_any P Q G _).mono ?_
    rw [K0.out]
    rintro e v1 ⟨rfl, hb⟩
    have HB_1 := Lib.hid (bt HB_0.out hb)
    have G_1 := Lib.hid (G_0.out.below hb)
    have C_1 := Lib.hid (C_0.out.below hb)
    have Z_1 := Lib.hid (Z_0.out.below hb)
    have T_1 := Lib.hid (T_0.out.below hb)
    clear hb gG0 gG1 gG2
    obtain ⟨gG0, gG1, gG2⟩ := G_1.out
    go_wp2_with fail
    refine (sCommits_any P Q G hmo ca cs.length cc cs rfl (by omega) _ C_1.out).mono ?_
    rw [K1.out]
    rintro e v2 ⟨rfl, hb⟩
    have HB_2 := Lib.hid (bt HB_1.out hb)
    have G_2 := Lib.hid (G_1.out.below hb)
    have C_2 := Lib.hid (C_1.out.below hb)
    have Z_2 := Lib.hid (Z_1.out.below hb)
    have T_2 := Lib.hid (T_1.out.below hb)
    clear hb gG0 gG1 gG2
    obtain ⟨gG0, gG1, gG2⟩ := G_2.out
    go_wp2_with fail
    refine (l1All_any za zs.length zc zs 1 7 rfl (by omega) _ Z_2.out).mono ?_
    rw [K3.out]
    rintro e w' ⟨rfl, rfl⟩
    go_wp2_with fail
    refine (yPoints_any za zs.length zc zs rfl (by omega) hzc _ Z_2.out).mono ?_
    rw [K4.out]
    rintro e w' ⟨rfl, rfl⟩
    go_wp2
    go_ret2
    exact ⟨rfl, HB_2.out⟩
  replace h5 := Decidable.not_not.1 h5
  have B5 : ((ss.length : Int) != (zs.length : Int)) = false := by simp [h5]
  cases h6 : allIn ss 0 (Q - 1)
  · have K6 := Lib.hid (show allIn ss 0 (Q - 1) = false from h6)
    have E1 := Lib.hid (show rkB P Q G cs zs ss = false from rkB_off (fun h => by rw [h6] at h; exact absurd h.2.2.2.2 (by simp)))
    have E2 := Lib.hid (show rkOK P Q G cs zs ss = false by simp [rkOK, E1.out])
    have E3 := Lib.hid (show rkV P Q G cs zs ss = 0 by simp [rkV, E2.out])
    rw [E2.out, E3.out]
    clear h0 h1 h2 h3 h4 h5 h6
    obtain ⟨gG0, gG1, gG2⟩ := G_0.out
    go_enter Try.func49, Try.ntmps49
    go_wp2_with fail
    refine (sGroup_any P Q G _).mono ?_
    rw [K0.out]
    rintro e v1 ⟨rfl, hb⟩
    have HB_1 := Lib.hid (bt HB_0.out hb)
    have G_1 := Lib.hid (G_0.out.below hb)
    have C_1 := Lib.hid (C_0.out.below hb)
    have Z_1 := Lib.hid (Z_0.out.below hb)
    have T_1 := Lib.hid (T_0.out.below hb)
    clear hb gG0 gG1 gG2
    obtain ⟨gG0, gG1, gG2⟩ := G_1.out
    go_wp2_with fail
    refine (sCommits_any P Q G hmo ca cs.length cc cs rfl (by omega) _ C_1.out).mono ?_
    rw [K1.out]
    rintro e v2 ⟨rfl, hb⟩
    have HB_2 := Lib.hid (bt HB_1.out hb)
    have G_2 := Lib.hid (G_1.out.below hb)
    have C_2 := Lib.hid (C_1.out.below hb)
    have Z_2 := Lib.hid (Z_1.out.below hb)
    have T_2 := Lib.hid (T_1.out.below hb)
    clear hb gG0 gG1 gG2
    obtain ⟨gG0, gG1, gG2⟩ := G_2.out
    go_wp2_with fail
    refine (l1All_any za zs.length zc zs 1 7 rfl (by omega) _ Z_2.out).mono ?_
    rw [K3.out]
    rintro e w' ⟨rfl, rfl⟩
    go_wp2_with fail
    refine (yPoints_any za zs.length zc zs rfl (by omega) hzc _ Z_2.out).mono ?_
    rw [K4.out]
    rintro e w' ⟨rfl, rfl⟩
    go_wp2_with fail
    refine (gExps_any P Q G hmo.2 sa ss.length sc ss rfl (by omega) _ T_2.out).mono ?_
    rw [K6.out]
    rintro e v3 ⟨rfl, hb⟩
    have HB_3 := Lib.hid (bt HB_2.out hb)
    have G_3 := Lib.hid (G_2.out.below hb)
    have C_3 := Lib.hid (C_2.out.below hb)
    have Z_3 := Lib.hid (Z_2.out.below hb)
    have T_3 := Lib.hid (T_2.out.below hb)
    clear hb gG0 gG1 gG2
    obtain ⟨gG0, gG1, gG2⟩ := G_3.out
    go_wp2
    go_ret2
    exact ⟨rfl, HB_3.out⟩
  have K6 := Lib.hid (show allIn ss 0 (Q - 1) = true from h6)
  have E1 := Lib.hid (show rkB P Q G cs zs ss = true from rkB_true.2 ⟨h0, h1, by rw [trs_ref (by omega), h3, h4]; rfl, h5, h6⟩)
  clear h0 h1 h2 h3 h4 h5 h6
  obtain ⟨hgd, hq7, hce, ⟨hc1, hc7⟩, hzr, hnd, hz7, hln, hsr, hpr⟩ := rk_facts E1.out
  have HGD := Lib.hid hgd
  have HCE := Lib.hid hce
  have HZR := Lib.hid hzr
  have HND := Lib.hid hnd
  have HSR := Lib.hid hsr
  have HLN := Lib.hid hln
  have HPR := Lib.hid hpr
  obtain ⟨i0, hi, hy0, hy1, hy2⟩ := info_parts Try.info3
  have hss7 : ss.length ≤ 7 := by omega
  clear hgd hce hzr hnd hsr hln hpr
  obtain ⟨gG0, gG1, gG2⟩ := G_0.out
  go_enter Try.func49, Try.ntmps49
  go_wp2_with fail
  refine (sGroup_any P Q G _).mono ?_
  rw [K0.out]
  rintro e v1 ⟨rfl, hb⟩
  have HB_1 := Lib.hid (bt HB_0.out hb)
  have G_1 := Lib.hid (G_0.out.below hb)
  have C_1 := Lib.hid (C_0.out.below hb)
  have Z_1 := Lib.hid (Z_0.out.below hb)
  have T_1 := Lib.hid (T_0.out.below hb)
  clear hb gG0 gG1 gG2
  obtain ⟨gG0, gG1, gG2⟩ := G_1.out
  go_wp2_with fail
  refine (sCommits_any P Q G hmo ca cs.length cc cs rfl (by omega) _ C_1.out).mono ?_
  rw [K1.out]
  rintro e v2 ⟨rfl, hb⟩
  have HB_2 := Lib.hid (bt HB_1.out hb)
  have G_2 := Lib.hid (G_1.out.below hb)
  have C_2 := Lib.hid (C_1.out.below hb)
  have Z_2 := Lib.hid (Z_1.out.below hb)
  have T_2 := Lib.hid (T_1.out.below hb)
  clear hb gG0 gG1 gG2
  obtain ⟨gG0, gG1, gG2⟩ := G_2.out
  go_wp2_with fail
  refine (l1All_any za zs.length zc zs 1 7 rfl (by omega) _ Z_2.out).mono ?_
  rw [K3.out]
  rintro e w' ⟨rfl, rfl⟩
  go_wp2_with fail
  refine (yPoints_any za zs.length zc zs rfl (by omega) hzc _ Z_2.out).mono ?_
  rw [K4.out]
  rintro e w' ⟨rfl, rfl⟩
  go_wp2_with fail
  refine (gExps_any P Q G hmo.2 sa ss.length sc ss rfl (by omega) _ T_2.out).mono ?_
  rw [K6.out]
  rintro e v3 ⟨rfl, hb⟩
  have HB_3 := Lib.hid (bt HB_2.out hb)
  have G_3 := Lib.hid (G_2.out.below hb)
  have C_3 := Lib.hid (C_2.out.below hb)
  have Z_3 := Lib.hid (Z_2.out.below hb)
  have T_3 := Lib.hid (T_2.out.below hb)
  clear hb gG0 gG1 gG2
  obtain ⟨gG0, gG1, gG2⟩ := G_3.out
  go_wp2_with fail
  go_loopw [10, 11, 12, 13, 53] (fun X Y _ _ K wr => ∃ (k : Nat) (va : Option Addr) (vc : Nat) (va' : Option Addr) (vc' : Nat), k ≤ zs.length ∧ X = .slice va (slL P Q G cs zs ss k).length vc ∧ Y = .slice va' (slL P Q G cs zs ss k).length vc' ∧ K = .int .i64 k ∧ wr.ownsRow v3.heap.size 3 1 (.slice va (slL P Q G cs zs ss k).length vc) (slL P Q G cs zs ss k).length ((pk zs (slL P Q G cs zs ss k)).map (Value.int .i64)) ∧ wr.ownsRow v3.heap.size 3 1 (.slice va' (slL P Q G cs zs ss k).length vc') (slL P Q G cs zs ss k).length ((pk ss (slL P Q G cs zs ss k)).map (Value.int .i64)) ∧ Apa va va' ∧ Below v3.heap.size v3 wr) (fun _ _ _ _ K _ => zs.length - (intOf K).toNat)
  case atStart => exact ⟨0, none, 0, none, 0, Nat.zero_le _, rfl, rfl, rfl, World.ownsRow_nil _ _ _ _, World.ownsRow_nil _ _ _ _, (fun a a' h => by cases h), Below.refl _ _⟩
  case round =>
    obtain ⟨k, va, vc, va', vc', hk, rfl, rfl, rfl, hox, hoy, hap, hbel⟩ := hrel
    obtain ⟨l, hsl⟩ : ∃ l, slL P Q G cs zs ss k = l := ⟨_, rfl⟩
    obtain ⟨m, hm⟩ : ∃ m, l.length = m := ⟨_, rfl⟩
    rw [hsl, hm] at hox hoy
    have hmk : m ≤ 7 := by have h1 := slL_le (P := P) (Q := Q) (G := G) (cs := cs) (zs := zs) (ss := ss) k; rw [hsl, hm] at h1; omega
    have HM := Lib.hid hm
    have HSL := Lib.hid hsl
    have HXr := Lib.hid hox
    have HYr := Lib.hid hoy
    have HA := Lib.hid hap
    have HBr := Lib.hid hbel
    have HBe := HBr
    simp only [hsl, hm]
    clear hox hoy hap hbel hsl hm
    by_cases hkn : k < zs.length
    · obtain ⟨zb, zo, z, rfl, hzb, hzx, hzd⟩ := (show IsInts v3 za zs from Z_3.out).at (k := k) hkn
      obtain ⟨sb, so, x, rfl, hsb, hsx, hsd⟩ := (show IsInts v3 sa ss from T_3.out).at (k := k) (by have := HLN.out; omega)
      have hkss : k < ss.length := by have := HLN.out; omega
      have hz17 := HZR.out z (mem_drop hzd)
      have hxr := HSR.out x (mem_drop hsd)
      have hzv : zs.getD k 0 = z := by obtain ⟨h1, h2⟩ := head_of_drop hzd; rw [getD_in h1]; exact h2
      have hxv : ss.getD k 0 = x := by obtain ⟨h1, h2⟩ := head_of_drop hsd; rw [getD_in h1]; exact h2
      have HZV := Lib.hid hzv
      have HXV := Lib.hid hxv
      have XZ := Lib.hid (show CZ v3 ⟨zb, zo + k, none⟩ (.int .i64 z) from hzx)
      have XS := Lib.hid (show CZ v3 ⟨sb, so + k, none⟩ (.int .i64 x) from hsx)
      have G_r := Lib.hid (G_3.out.below HBr.out)
      have C_r := Lib.hid (C_3.out.below HBr.out)
      have XZr := Lib.hid (XZ.out.below HBr.out)
      have XSr := Lib.hid (XS.out.below HBr.out)
      have hzx9 : wr.cell? ⟨zb, zo + k, none⟩ = some (.int .i64 z) := XZr.out
      clear hzd hsd hzx hsx
      by_cases hlt : m < cs.length
      · have hd1 : decide (m < cs.length) = true := decide_eq_true hlt
        have hd2 : decide ((m : Int) < (cs.length : Int)) = true := decide_eq_true (by omega)
        cases hf : fitB P Q G cs z x
        · have HV := Lib.hid hf
          have HL := Lib.hid (show slL P Q G cs zs ss (k + 1) = l by rw [← HSL.out]; exact slL_off hzv hxv (by rw [hf]; simp))
          clear hf hzv hxv HBr
          go_wp2_with fail
          refine wp_region_held_drew (S := (fun w' => (w'.cell? ⟨w.heap.size, 0, none⟩ = some (.int .i64 P) ∧ w'.cell? ⟨w.heap.size, 1, none⟩ = some (.int .i64 Q) ∧ w'.cell? ⟨w.heap.size, 2, none⟩ = some (.int .i64 G)) ∧ w'.cell? ⟨sb, so + k, none⟩ = some (.int .i64 x))) (by kernel_rfl) (by first | exact ⟨G_r.out, XSr.out⟩ | (dsimp only; exact ⟨G_r.out, XSr.out⟩)) (fun hHeld => ?_)
          refine wpAnyH_take (i := 0) (v := ?_) rfl (by kernel_rfl) (by kernel_rfl) (by kernel_rfl) (fun _ _ _ h => h) (Or.inl ⟨by kernel_rfl, ?_⟩) (by assumption) ?_
          rotate_left 1
          · intro w hSw
            try dsimp only at hSw
            go_simp
            try with_reducible rfl
          try simp only [Act.put, List.getElem_toArray, List.getElem_cons_succ, List.getElem_cons_zero, List.setIfInBounds_toArray, List.set_cons_zero, List.set_cons_succ]
          refine wpAnyH_take (i := 1) (v := ?_) rfl (by kernel_rfl) (by kernel_rfl) (by kernel_rfl) (fun _ _ _ h => h) (Or.inl ⟨by kernel_rfl, ?_⟩) (by assumption) ?_
          rotate_left 1
          · intro w hSw
            try dsimp only at hSw
            go_simp
            try with_reducible rfl
          try simp only [Act.put, List.getElem_toArray, List.getElem_cons_succ, List.getElem_cons_zero, List.setIfInBounds_toArray, List.set_cons_zero, List.set_cons_succ]
          refine wpAnyH_take (i := 2) (v := ?_) rfl (by kernel_rfl) (by kernel_rfl) (by kernel_rfl) (fun _ _ _ h => h) (Or.inl ⟨by kernel_rfl, ?_⟩) (by assumption) ?_
          rotate_left 1
          · intro w hSw
            try dsimp only at hSw
            go_simp
            try with_reducible rfl
          try simp only [Act.put, List.getElem_toArray, List.getElem_cons_succ, List.getElem_cons_zero, List.setIfInBounds_toArray, List.set_cons_zero, List.set_cons_succ]
          refine wpAnyH_take (i := 3) (v := ?_) rfl (by kernel_rfl) (by kernel_rfl) (by kernel_rfl) (fun _ _ _ h => h) (Or.inl ⟨by kernel_rfl, ?_⟩) (by assumption) ?_
          rotate_left 1
          · intro w hSw
            try dsimp only at hSw
            go_simp
            try with_reducible rfl
          try simp only [Act.put, List.getElem_toArray, List.getElem_cons_succ, List.getElem_cons_zero, List.setIfInBounds_toArray, List.set_cons_zero, List.set_cons_succ]
          refine wpAnyH_take (i := 4) (v := ?_) rfl (by kernel_rfl) (by kernel_rfl) (by kernel_rfl) (fun _ _ _ h => h) (Or.inl ⟨by kernel_rfl, ?_⟩) (by assumption) ?_
          rotate_left 1
          · intro w hSw
            try dsimp only at hSw
            go_simp
            try with_reducible rfl
          try simp only [Act.put, List.getElem_toArray, List.getElem_cons_succ, List.getElem_cons_zero, List.setIfInBounds_toArray, List.set_cons_zero, List.set_cons_succ]
          refine wpAnyH_take (i := 5) (v := ?_) rfl (by kernel_rfl) (by kernel_rfl) (by kernel_rfl) (fun _ _ _ h => h) (Or.inl ⟨by kernel_rfl, ?_⟩) (by assumption) ?_
          rotate_left 1
          · intro w hSw
            try dsimp only at hSw
            go_simp
            try with_reducible rfl
          try simp only [Act.put, List.getElem_toArray, List.getElem_cons_succ, List.getElem_cons_zero, List.setIfInBounds_toArray, List.set_cons_zero, List.set_cons_succ]
          refine wpAnyH_take (i := 6) (v := ?_) rfl (by kernel_rfl) (by kernel_rfl) (by kernel_rfl) (fun _ _ _ h => h) (Or.inl ⟨by kernel_rfl, ?_⟩) (by assumption) ?_
          rotate_left 1
          · intro w hSw
            try dsimp only at hSw
            go_simp
            try with_reducible rfl
          try simp only [Act.put, List.getElem_toArray, List.getElem_cons_succ, List.getElem_cons_zero, List.setIfInBounds_toArray, List.set_cons_zero, List.set_cons_succ]
          refine wpAnyH_take (i := 7) (v := ?_) rfl (by kernel_rfl) (by kernel_rfl) (by kernel_rfl) (fun _ _ _ h => h) (Or.inl ⟨by kernel_rfl, ?_⟩) (by assumption) ?_
          rotate_left 1
          · intro w hSw
            try dsimp only at hSw
            go_simp
            try with_reducible rfl
          try simp only [Act.put, List.getElem_toArray, List.getElem_cons_succ, List.getElem_cons_zero, List.setIfInBounds_toArray, List.set_cons_zero, List.set_cons_succ]
          refine wpAnyH_take (i := 8) (v := ?_) rfl (by kernel_rfl) (by kernel_rfl) (by kernel_rfl) (fun _ _ _ h => h) (Or.inl ⟨by kernel_rfl, ?_⟩) (by assumption) ?_
          rotate_left 1
          · intro w hSw
            try dsimp only at hSw
            go_simp
            try with_reducible rfl
          try simp only [Act.put, List.getElem_toArray, List.getElem_cons_succ, List.getElem_cons_zero, List.setIfInBounds_toArray, List.set_cons_zero, List.set_cons_succ]
          refine wpAnyH_take (i := 9) (v := ?_) rfl (by kernel_rfl) (by kernel_rfl) (by kernel_rfl) (fun _ _ _ h => h) (Or.inl ⟨by kernel_rfl, ?_⟩) (by assumption) ?_
          rotate_left 1
          · intro w hSw
            try dsimp only at hSw
            go_simp
            try with_reducible rfl
          try simp only [Act.put, List.getElem_toArray, List.getElem_cons_succ, List.getElem_cons_zero, List.setIfInBounds_toArray, List.set_cons_zero, List.set_cons_succ]
          refine wpAnyH_take (i := 10) (v := ?_) rfl (by kernel_rfl) (by kernel_rfl) (by kernel_rfl) (fun _ _ _ h => h) (Or.inl ⟨by kernel_rfl, ?_⟩) (by assumption) ?_
          rotate_left 1
          · intro w hSw
            try dsimp only at hSw
            go_simp
            try with_reducible rfl
          try simp only [Act.put, List.getElem_toArray, List.getElem_cons_succ, List.getElem_cons_zero, List.setIfInBounds_toArray, List.set_cons_zero, List.set_cons_succ]
          refine wpAnyH_take (i := 11) (v := ?_) rfl (by kernel_rfl) (by kernel_rfl) (by kernel_rfl) (fun _ _ _ h => h) (Or.inl ⟨by kernel_rfl, ?_⟩) (by assumption) ?_
          rotate_left 1
          · intro w hSw
            try dsimp only at hSw
            go_simp
            try with_reducible rfl
          try simp only [Act.put, List.getElem_toArray, List.getElem_cons_succ, List.getElem_cons_zero, List.setIfInBounds_toArray, List.set_cons_zero, List.set_cons_succ]
          refine wpAnyH_take (i := 12) (v := ?_) rfl (by kernel_rfl) (by kernel_rfl) (by kernel_rfl) (fun _ _ _ h => h) (Or.inl ⟨by kernel_rfl, ?_⟩) (by assumption) ?_
          rotate_left 1
          · intro w hSw
            try dsimp only at hSw
            go_simp
            try with_reducible rfl
          try simp only [Act.put, List.getElem_toArray, List.getElem_cons_succ, List.getElem_cons_zero, List.setIfInBounds_toArray, List.set_cons_zero, List.set_cons_succ]
          refine wpAnyH_ready (rs := [13]) (by kernel_rfl) (by simp) ?_
          refine AllReadyH.cons rfl (fun K hK => ?_) AllReadyH.nil
          go_simp
          have hbd : Below wr.heap.size wr wr.drew := (Below.refl _ wr).drew
          have C_d := Lib.hid (C_r.out.below hbd)
          go_at_call 73
          refine (sFits_any P Q G z x HGD.out (by omega) (by omega) hxr ca cs.length cc cs rfl (by omega) HCE.out _ C_d.out).mono ?_
          rw [HV.out]
          rintro e' wf ⟨rfl, hbf0⟩
          have hbf := bt hbd hbf0
          clear hbd hbf0 C_d
          have G_s := Lib.hid (G_r.out.below hbf)
          have XS_s := Lib.hid (XSr.out.below hbf)
          have XZ_s := Lib.hid (XZr.out.below hbf)
          have HX := Lib.hid (own_below HXr.out hbf)
          have HY := Lib.hid (own_below HYr.out hbf)
          have HBr := Lib.hid (bt HBe.out hbf)
          clear hbf
          refine hK.out _ _ (by first | exact ⟨G_s.out, XS_s.out⟩ | (dsimp only; exact ⟨G_s.out, XS_s.out⟩)) (fun hHeld => ?_)
          clear hK K
          try simp only [Act.put, List.getElem_toArray, List.getElem_cons_succ, List.getElem_cons_zero, List.setIfInBounds_toArray, List.set_cons_zero, List.set_cons_succ]
          refine wpAnyH_take (i := 14) (v := ?_) rfl (by kernel_rfl) (by kernel_rfl) (by kernel_rfl) (fun _ _ _ h => h) (Or.inl ⟨by kernel_rfl, ?_⟩) (by assumption) ?_
          rotate_left 1
          · intro w hSw
            try dsimp only at hSw
            go_simp
            try with_reducible rfl
          try simp only [Act.put, List.getElem_toArray, List.getElem_cons_succ, List.getElem_cons_zero, List.setIfInBounds_toArray, List.set_cons_zero, List.set_cons_succ]
          refine wpAnyH_done (by kernel_rfl) ?_ _
          clear hHeld
          go_wp2
          go_roundw
          case rel => exact ⟨k + 1, va, vc, va', vc', by omega, by rw [HL.out, HM.out], by rw [HL.out, HM.out], by go_num, by rw [HL.out, HM.out]; exact HX.out, by rw [HL.out, HM.out]; exact HY.out, HA.out, HBr.out⟩
          case measure => simp only [intOf]; omega
        · have HV := Lib.hid hf
          have HL := Lib.hid (show slL P Q G cs zs ss (k + 1) = l ++ [k] by rw [← HSL.out]; exact slL_on hzv hxv (by rw [HSL.out, HM.out]; exact hlt) hf)
          clear hf hzv hxv HBr
          go_wp2_with fail
          refine wp_region_held_drew (S := (fun w' => (w'.cell? ⟨w.heap.size, 0, none⟩ = some (.int .i64 P) ∧ w'.cell? ⟨w.heap.size, 1, none⟩ = some (.int .i64 Q) ∧ w'.cell? ⟨w.heap.size, 2, none⟩ = some (.int .i64 G)) ∧ w'.cell? ⟨sb, so + k, none⟩ = some (.int .i64 x))) (by kernel_rfl) (by first | exact ⟨G_r.out, XSr.out⟩ | (dsimp only; exact ⟨G_r.out, XSr.out⟩)) (fun hHeld => ?_)
          refine wpAnyH_take (i := 0) (v := ?_) rfl (by kernel_rfl) (by kernel_rfl) (by kernel_rfl) (fun _ _ _ h => h) (Or.inl ⟨by kernel_rfl, ?_⟩) (by assumption) ?_
          rotate_left 1
          · intro w hSw
            try dsimp only at hSw
            go_simp
            try with_reducible rfl
          try simp only [Act.put, List.getElem_toArray, List.getElem_cons_succ, List.getElem_cons_zero, List.setIfInBounds_toArray, List.set_cons_zero, List.set_cons_succ]
          refine wpAnyH_take (i := 1) (v := ?_) rfl (by kernel_rfl) (by kernel_rfl) (by kernel_rfl) (fun _ _ _ h => h) (Or.inl ⟨by kernel_rfl, ?_⟩) (by assumption) ?_
          rotate_left 1
          · intro w hSw
            try dsimp only at hSw
            go_simp
            try with_reducible rfl
          try simp only [Act.put, List.getElem_toArray, List.getElem_cons_succ, List.getElem_cons_zero, List.setIfInBounds_toArray, List.set_cons_zero, List.set_cons_succ]
          refine wpAnyH_take (i := 2) (v := ?_) rfl (by kernel_rfl) (by kernel_rfl) (by kernel_rfl) (fun _ _ _ h => h) (Or.inl ⟨by kernel_rfl, ?_⟩) (by assumption) ?_
          rotate_left 1
          · intro w hSw
            try dsimp only at hSw
            go_simp
            try with_reducible rfl
          try simp only [Act.put, List.getElem_toArray, List.getElem_cons_succ, List.getElem_cons_zero, List.setIfInBounds_toArray, List.set_cons_zero, List.set_cons_succ]
          refine wpAnyH_take (i := 3) (v := ?_) rfl (by kernel_rfl) (by kernel_rfl) (by kernel_rfl) (fun _ _ _ h => h) (Or.inl ⟨by kernel_rfl, ?_⟩) (by assumption) ?_
          rotate_left 1
          · intro w hSw
            try dsimp only at hSw
            go_simp
            try with_reducible rfl
          try simp only [Act.put, List.getElem_toArray, List.getElem_cons_succ, List.getElem_cons_zero, List.setIfInBounds_toArray, List.set_cons_zero, List.set_cons_succ]
          refine wpAnyH_take (i := 4) (v := ?_) rfl (by kernel_rfl) (by kernel_rfl) (by kernel_rfl) (fun _ _ _ h => h) (Or.inl ⟨by kernel_rfl, ?_⟩) (by assumption) ?_
          rotate_left 1
          · intro w hSw
            try dsimp only at hSw
            go_simp
            try with_reducible rfl
          try simp only [Act.put, List.getElem_toArray, List.getElem_cons_succ, List.getElem_cons_zero, List.setIfInBounds_toArray, List.set_cons_zero, List.set_cons_succ]
          refine wpAnyH_take (i := 5) (v := ?_) rfl (by kernel_rfl) (by kernel_rfl) (by kernel_rfl) (fun _ _ _ h => h) (Or.inl ⟨by kernel_rfl, ?_⟩) (by assumption) ?_
          rotate_left 1
          · intro w hSw
            try dsimp only at hSw
            go_simp
            try with_reducible rfl
          try simp only [Act.put, List.getElem_toArray, List.getElem_cons_succ, List.getElem_cons_zero, List.setIfInBounds_toArray, List.set_cons_zero, List.set_cons_succ]
          refine wpAnyH_take (i := 6) (v := ?_) rfl (by kernel_rfl) (by kernel_rfl) (by kernel_rfl) (fun _ _ _ h => h) (Or.inl ⟨by kernel_rfl, ?_⟩) (by assumption) ?_
          rotate_left 1
          · intro w hSw
            try dsimp only at hSw
            go_simp
            try with_reducible rfl
          try simp only [Act.put, List.getElem_toArray, List.getElem_cons_succ, List.getElem_cons_zero, List.setIfInBounds_toArray, List.set_cons_zero, List.set_cons_succ]
          refine wpAnyH_take (i := 7) (v := ?_) rfl (by kernel_rfl) (by kernel_rfl) (by kernel_rfl) (fun _ _ _ h => h) (Or.inl ⟨by kernel_rfl, ?_⟩) (by assumption) ?_
          rotate_left 1
          · intro w hSw
            try dsimp only at hSw
            go_simp
            try with_reducible rfl
          try simp only [Act.put, List.getElem_toArray, List.getElem_cons_succ, List.getElem_cons_zero, List.setIfInBounds_toArray, List.set_cons_zero, List.set_cons_succ]
          refine wpAnyH_take (i := 8) (v := ?_) rfl (by kernel_rfl) (by kernel_rfl) (by kernel_rfl) (fun _ _ _ h => h) (Or.inl ⟨by kernel_rfl, ?_⟩) (by assumption) ?_
          rotate_left 1
          · intro w hSw
            try dsimp only at hSw
            go_simp
            try with_reducible rfl
          try simp only [Act.put, List.getElem_toArray, List.getElem_cons_succ, List.getElem_cons_zero, List.setIfInBounds_toArray, List.set_cons_zero, List.set_cons_succ]
          refine wpAnyH_take (i := 9) (v := ?_) rfl (by kernel_rfl) (by kernel_rfl) (by kernel_rfl) (fun _ _ _ h => h) (Or.inl ⟨by kernel_rfl, ?_⟩) (by assumption) ?_
          rotate_left 1
          · intro w hSw
            try dsimp only at hSw
            go_simp
            try with_reducible rfl
          try simp only [Act.put, List.getElem_toArray, List.getElem_cons_succ, List.getElem_cons_zero, List.setIfInBounds_toArray, List.set_cons_zero, List.set_cons_succ]
          refine wpAnyH_take (i := 10) (v := ?_) rfl (by kernel_rfl) (by kernel_rfl) (by kernel_rfl) (fun _ _ _ h => h) (Or.inl ⟨by kernel_rfl, ?_⟩) (by assumption) ?_
          rotate_left 1
          · intro w hSw
            try dsimp only at hSw
            go_simp
            try with_reducible rfl
          try simp only [Act.put, List.getElem_toArray, List.getElem_cons_succ, List.getElem_cons_zero, List.setIfInBounds_toArray, List.set_cons_zero, List.set_cons_succ]
          refine wpAnyH_take (i := 11) (v := ?_) rfl (by kernel_rfl) (by kernel_rfl) (by kernel_rfl) (fun _ _ _ h => h) (Or.inl ⟨by kernel_rfl, ?_⟩) (by assumption) ?_
          rotate_left 1
          · intro w hSw
            try dsimp only at hSw
            go_simp
            try with_reducible rfl
          try simp only [Act.put, List.getElem_toArray, List.getElem_cons_succ, List.getElem_cons_zero, List.setIfInBounds_toArray, List.set_cons_zero, List.set_cons_succ]
          refine wpAnyH_take (i := 12) (v := ?_) rfl (by kernel_rfl) (by kernel_rfl) (by kernel_rfl) (fun _ _ _ h => h) (Or.inl ⟨by kernel_rfl, ?_⟩) (by assumption) ?_
          rotate_left 1
          · intro w hSw
            try dsimp only at hSw
            go_simp
            try with_reducible rfl
          try simp only [Act.put, List.getElem_toArray, List.getElem_cons_succ, List.getElem_cons_zero, List.setIfInBounds_toArray, List.set_cons_zero, List.set_cons_succ]
          refine wpAnyH_ready (rs := [13]) (by kernel_rfl) (by simp) ?_
          refine AllReadyH.cons rfl (fun K hK => ?_) AllReadyH.nil
          go_simp
          have hbd : Below wr.heap.size wr wr.drew := (Below.refl _ wr).drew
          have C_d := Lib.hid (C_r.out.below hbd)
          go_at_call 73
          refine (sFits_any P Q G z x HGD.out (by omega) (by omega) hxr ca cs.length cc cs rfl (by omega) HCE.out _ C_d.out).mono ?_
          rw [HV.out]
          rintro e' wf ⟨rfl, hbf0⟩
          have hbf := bt hbd hbf0
          clear hbd hbf0 C_d
          have G_s := Lib.hid (G_r.out.below hbf)
          have XS_s := Lib.hid (XSr.out.below hbf)
          have XZ_s := Lib.hid (XZr.out.below hbf)
          have HX := Lib.hid (own_below HXr.out hbf)
          have HY := Lib.hid (own_below HYr.out hbf)
          have HBr := Lib.hid (bt HBe.out hbf)
          clear hbf
          refine hK.out _ _ (by first | exact ⟨G_s.out, XS_s.out⟩ | (dsimp only; exact ⟨G_s.out, XS_s.out⟩)) (fun hHeld => ?_)
          clear hK K
          try simp only [Act.put, List.getElem_toArray, List.getElem_cons_succ, List.getElem_cons_zero, List.setIfInBounds_toArray, List.set_cons_zero, List.set_cons_succ]
          refine wpAnyH_take (i := 14) (v := ?_) rfl (by kernel_rfl) (by kernel_rfl) (by kernel_rfl) (fun _ _ _ h => h) (Or.inl ⟨by kernel_rfl, ?_⟩) (by assumption) ?_
          rotate_left 1
          · intro w hSw
            try dsimp only at hSw
            go_simp
            try with_reducible rfl
          try simp only [Act.put, List.getElem_toArray, List.getElem_cons_succ, List.getElem_cons_zero, List.setIfInBounds_toArray, List.set_cons_zero, List.set_cons_succ]
          refine wpAnyH_done (by kernel_rfl) ?_ _
          clear hHeld
          have hsx9 : wf.cell? ⟨sb, so + k, none⟩ = some (.int .i64 x) := XS_s.out
          go_wp2_with (at_builtin
                       first
                       | (refine wpList_append_lies _ rfl _ _ 25 rfl v3.heap.size 3 i0 (.int .i64 0) 1 8 Try.underlying25 hi hy0 hy1 hy2 rfl (by decide) _ _ _ rfl (HX.out.alloc _) ⟨wf.heap.size, 0, none⟩ 1 1 [.int .i64 z] rfl rfl (cell_one_new _ _ _) (ints_oneCell .i64 [z]) (by decide) (by unfold maxLen; omega) (by omega) (by have := HBr.out.size; simp; omega) (wf.heap.size + 1) (by simp) ?_
                          intro g5 c5 w5 hown5 hgr5 hat5 hlt5
                          have HX5 := Lib.hid (show w5.ownsRow v3.heap.size 3 1 (.slice (some ⟨g5, 0, none⟩) (m + 1) c5) (m + 1) ((pk zs l ++ [z]).map (Value.int .i64)) by rw [List.map_append]; exact hown5)
                          have HY5 := Lib.hid (own_ne (HY.out.alloc (.cells #[.int .i64 z] 3)) hgr5 (apa_ne HA.out))
                          have HA5 := Lib.hid (apa_new HA.out hat5 (fun a' ha' => by have := (own_lt7 HY.out a' ha').2; omega))
                          have HB5 := Lib.hid ((HBr.out.alloc HBr.out.size (.cells #[.int .i64 z] 3)).grown hgr5 (Nat.le_trans HBr.out.size (by simp)) (fun q hq => (HX.out.lt q hq).1))
                          have hsx5 : w5.cell? ⟨sb, so + k, none⟩ = some (.int .i64 x) := XS.out.below HB5.out
                          have HS5 := Lib.hid (Nat.le_of_lt_succ (Nat.lt_succ_of_le HB5.out.size))
                          clear hown5 hgr5 hat5 hlt5)
                       | (refine wpList_append_lies _ rfl _ _ 25 rfl v3.heap.size 3 i0 (.int .i64 0) 1 8 Try.underlying25 hi hy0 hy1 hy2 rfl (by decide) _ _ _ rfl (HY5.out.alloc _) ⟨w5.heap.size, 0, none⟩ 1 1 [.int .i64 x] rfl rfl (cell_one_new _ _ _) (ints_oneCell .i64 [x]) (by decide) (by unfold maxLen; omega) (by omega) (by have := HB5.out.size; simp; omega) (w5.heap.size + 1) (by simp) ?_
                          intro g7 c7 w7 hown7 hgr7 hat7 hlt7
                          have HY7 := Lib.hid (show w7.ownsRow v3.heap.size 3 1 (.slice (some ⟨g7, 0, none⟩) (m + 1) c7) (m + 1) ((pk ss l ++ [x]).map (Value.int .i64)) by rw [List.map_append]; exact hown7)
                          have HX7 := Lib.hid (own_ne (HX5.out.alloc (.cells #[.int .i64 x] 3)) hgr7 (apa_ne HA5.out.symm))
                          have HA7 := Lib.hid (apa_new HA5.out.symm hat7 (fun a' ha' => by have := (own_lt7 HX5.out a' ha').2; omega)).symm
                          have HB7 := Lib.hid ((HB5.out.alloc HB5.out.size (.cells #[.int .i64 x] 3)).grown hgr7 (Nat.le_trans HB5.out.size (by simp)) (fun q hq => (HY5.out.lt q hq).1))
                          clear hown7 hgr7 hat7 hlt7))
          go_roundw
          case rel => exact ⟨k + 1, some ⟨g5, 0, none⟩, c5, some ⟨g7, 0, none⟩, c7, by omega, by rw [HL.out]; simp [HM.out], by rw [HL.out]; simp [HM.out], by go_num, by rw [HL.out, List.length_append, HM.out, pk_app, HZV.out]; exact HX7.out, by rw [HL.out, List.length_append, HM.out, pk_app, HXV.out]; exact HY7.out, HA7.out, HB7.out⟩
          case measure => simp only [intOf]; omega
      · have hd1 : decide (m < cs.length) = false := decide_eq_false hlt
        have hd2 : decide ((m : Int) < (cs.length : Int)) = false := decide_eq_false (by omega)
        have HL := Lib.hid (show slL P Q G cs zs ss (k + 1) = l by rw [← HSL.out]; exact slL_off hzv hxv (by rw [HSL.out, HM.out]; omega))
        have HX := HXr
        have HY := HYr
        clear hzv hxv
        go_wp2_with fail
        refine wp_region_held_drew (S := (fun w' => (w'.cell? ⟨w.heap.size, 0, none⟩ = some (.int .i64 P) ∧ w'.cell? ⟨w.heap.size, 1, none⟩ = some (.int .i64 Q) ∧ w'.cell? ⟨w.heap.size, 2, none⟩ = some (.int .i64 G)) ∧ w'.cell? ⟨sb, so + k, none⟩ = some (.int .i64 x))) (by kernel_rfl) (by first | exact ⟨G_r.out, XSr.out⟩ | (dsimp only; exact ⟨G_r.out, XSr.out⟩)) (fun hHeld => ?_)
        refine wpAnyH_take (i := 0) (v := ?_) rfl (by kernel_rfl) (by kernel_rfl) (by kernel_rfl) (fun _ _ _ h => h) (Or.inl ⟨by kernel_rfl, ?_⟩) (by assumption) ?_
        rotate_left 1
        · intro w hSw
          try dsimp only at hSw
          go_simp
          try with_reducible rfl
        try simp only [Act.put, List.getElem_toArray, List.getElem_cons_succ, List.getElem_cons_zero, List.setIfInBounds_toArray, List.set_cons_zero, List.set_cons_succ]
        refine wpAnyH_take (i := 1) (v := ?_) rfl (by kernel_rfl) (by kernel_rfl) (by kernel_rfl) (fun _ _ _ h => h) (Or.inl ⟨by kernel_rfl, ?_⟩) (by assumption) ?_
        rotate_left 1
        · intro w hSw
          try dsimp only at hSw
          go_simp
          try with_reducible rfl
        try simp only [Act.put, List.getElem_toArray, List.getElem_cons_succ, List.getElem_cons_zero, List.setIfInBounds_toArray, List.set_cons_zero, List.set_cons_succ]
        refine wpAnyH_take (i := 2) (v := ?_) rfl (by kernel_rfl) (by kernel_rfl) (by kernel_rfl) (fun _ _ _ h => h) (Or.inl ⟨by kernel_rfl, ?_⟩) (by assumption) ?_
        rotate_left 1
        · intro w hSw
          try dsimp only at hSw
          go_simp
          try with_reducible rfl
        try simp only [Act.put, List.getElem_toArray, List.getElem_cons_succ, List.getElem_cons_zero, List.setIfInBounds_toArray, List.set_cons_zero, List.set_cons_succ]
        refine wpAnyH_take (i := 3) (v := ?_) rfl (by kernel_rfl) (by kernel_rfl) (by kernel_rfl) (fun _ _ _ h => h) (Or.inl ⟨by kernel_rfl, ?_⟩) (by assumption) ?_
        rotate_left 1
        · intro w hSw
          try dsimp only at hSw
          go_simp
          try with_reducible rfl
        try simp only [Act.put, List.getElem_toArray, List.getElem_cons_succ, List.getElem_cons_zero, List.setIfInBounds_toArray, List.set_cons_zero, List.set_cons_succ]
        refine wpAnyH_take (i := 4) (v := ?_) rfl (by kernel_rfl) (by kernel_rfl) (by kernel_rfl) (fun _ _ _ h => h) (Or.inl ⟨by kernel_rfl, ?_⟩) (by assumption) ?_
        rotate_left 1
        · intro w hSw
          try dsimp only at hSw
          go_simp
          try with_reducible rfl
        try simp only [Act.put, List.getElem_toArray, List.getElem_cons_succ, List.getElem_cons_zero, List.setIfInBounds_toArray, List.set_cons_zero, List.set_cons_succ]
        refine wpAnyH_take (i := 5) (v := ?_) rfl (by kernel_rfl) (by kernel_rfl) (by kernel_rfl) (fun _ _ _ h => h) (Or.inl ⟨by kernel_rfl, ?_⟩) (by assumption) ?_
        rotate_left 1
        · intro w hSw
          try dsimp only at hSw
          go_simp
          try with_reducible rfl
        try simp only [Act.put, List.getElem_toArray, List.getElem_cons_succ, List.getElem_cons_zero, List.setIfInBounds_toArray, List.set_cons_zero, List.set_cons_succ]
        refine wpAnyH_take (i := 6) (v := undef) rfl (by kernel_rfl) (by kernel_rfl) (by kernel_rfl) (fun _ _ _ h => h) (Or.inr ⟨by kernel_rfl, rfl⟩) (by assumption) ?_
        try simp only [Act.put, List.getElem_toArray, List.getElem_cons_succ, List.getElem_cons_zero, List.setIfInBounds_toArray, List.set_cons_zero, List.set_cons_succ]
        refine wpAnyH_take (i := 7) (v := undef) rfl (by kernel_rfl) (by kernel_rfl) (by kernel_rfl) (fun _ _ _ h => h) (Or.inr ⟨by kernel_rfl, rfl⟩) (by assumption) ?_
        try simp only [Act.put, List.getElem_toArray, List.getElem_cons_succ, List.getElem_cons_zero, List.setIfInBounds_toArray, List.set_cons_zero, List.set_cons_succ]
        refine wpAnyH_take (i := 8) (v := undef) rfl (by kernel_rfl) (by kernel_rfl) (by kernel_rfl) (fun _ _ _ h => h) (Or.inr ⟨by kernel_rfl, rfl⟩) (by assumption) ?_
        try simp only [Act.put, List.getElem_toArray, List.getElem_cons_succ, List.getElem_cons_zero, List.setIfInBounds_toArray, List.set_cons_zero, List.set_cons_succ]
        refine wpAnyH_take (i := 9) (v := undef) rfl (by kernel_rfl) (by kernel_rfl) (by kernel_rfl) (fun _ _ _ h => h) (Or.inr ⟨by kernel_rfl, rfl⟩) (by assumption) ?_
        try simp only [Act.put, List.getElem_toArray, List.getElem_cons_succ, List.getElem_cons_zero, List.setIfInBounds_toArray, List.set_cons_zero, List.set_cons_succ]
        refine wpAnyH_take (i := 10) (v := undef) rfl (by kernel_rfl) (by kernel_rfl) (by kernel_rfl) (fun _ _ _ h => h) (Or.inr ⟨by kernel_rfl, rfl⟩) (by assumption) ?_
        try simp only [Act.put, List.getElem_toArray, List.getElem_cons_succ, List.getElem_cons_zero, List.setIfInBounds_toArray, List.set_cons_zero, List.set_cons_succ]
        refine wpAnyH_take (i := 11) (v := undef) rfl (by kernel_rfl) (by kernel_rfl) (by kernel_rfl) (fun _ _ _ h => h) (Or.inr ⟨by kernel_rfl, rfl⟩) (by assumption) ?_
        try simp only [Act.put, List.getElem_toArray, List.getElem_cons_succ, List.getElem_cons_zero, List.setIfInBounds_toArray, List.set_cons_zero, List.set_cons_succ]
        refine wpAnyH_take (i := 12) (v := undef) rfl (by kernel_rfl) (by kernel_rfl) (by kernel_rfl) (fun _ _ _ h => h) (Or.inr ⟨by kernel_rfl, rfl⟩) (by assumption) ?_
        try simp only [Act.put, List.getElem_toArray, List.getElem_cons_succ, List.getElem_cons_zero, List.setIfInBounds_toArray, List.set_cons_zero, List.set_cons_succ]
        refine wpAnyH_take (i := 13) (v := undef) rfl (by kernel_rfl) (by kernel_rfl) (by kernel_rfl) (fun _ _ _ h => h) (Or.inr ⟨by kernel_rfl, rfl⟩) (by assumption) ?_
        try simp only [Act.put, List.getElem_toArray, List.getElem_cons_succ, List.getElem_cons_zero, List.setIfInBounds_toArray, List.set_cons_zero, List.set_cons_succ]
        refine wpAnyH_take (i := 14) (v := ?_) rfl (by kernel_rfl) (by kernel_rfl) (by kernel_rfl) (fun _ _ _ h => h) (Or.inl ⟨by kernel_rfl, ?_⟩) (by assumption) ?_
        rotate_left 1
        · intro w hSw
          try dsimp only at hSw
          go_simp
          try with_reducible rfl
        try simp only [Act.put, List.getElem_toArray, List.getElem_cons_succ, List.getElem_cons_zero, List.setIfInBounds_toArray, List.set_cons_zero, List.set_cons_succ]
        refine wpAnyH_done (by kernel_rfl) ?_ _
        clear hHeld
        go_wp2
        go_roundw
        case rel => exact ⟨k + 1, va, vc, va', vc', by omega, by rw [HL.out, HM.out], by rw [HL.out, HM.out], by go_num, by rw [HL.out, HM.out]; exact HX.out, by rw [HL.out, HM.out]; exact HY.out, HA.out, HBr.out.drew⟩
        case measure => simp only [intOf]; omega
    · obtain rfl : k = zs.length := by omega
      have G_r := Lib.hid (G_3.out.below HBr.out)
      by_cases ht : cs.length ≤ m
      · obtain ⟨_, _, hrx, hry, hnx⟩ := rk_val E1.out (by rw [HSL.out, HM.out]; exact ht)
        have E2 := Lib.hid (show rkOK P Q G cs zs ss = true by unfold rkOK; rw [E1.out, HSL.out, HM.out, decide_eq_true ht]; rfl)
        have E3 := Lib.hid (show rkV P Q G cs zs ss = dotFrom Q 0 (lagr Q 0 (pk zs l)) (pk ss l) by simp [rkV, E2.out, rkX, HSL.out])
        have hnt : ¬ (m < cs.length) := by omega
        rw [HSL.out] at hrx hry hnx
        obtain ⟨q2, q3, _⟩ := isPr_num HPR.out
        have HRX := Lib.hid hrx
        have HRY := Lib.hid hry
        have HNX := Lib.hid hnx
        have HP1 := Lib.hid (show (pk zs l).length = m by rw [pk_length, HM.out])
        have HP2 := Lib.hid (show (pk ss l).length = m by rw [pk_length, HM.out])
        have X_r := Lib.hid (LZ_own HXr.out)
        have Y_r := Lib.hid (LZ_own HYr.out)
        have HB_r := Lib.hid (bt HB_3.out HBr.out)
        clear hrx hry hnx ht HXr HYr HBr HBe
        go_wp2_with fail
        have hbd : Below wr.heap.size wr wr.drew := (Below.refl _ wr).drew
        have HB_s := Lib.hid (bt HB_r.out hbd)
        have G_s := Lib.hid (G_r.out.below hbd)
        have X_s := Lib.hid (X_r.out.below hbd)
        have Y_s := Lib.hid (Y_r.out.below hbd)
        clear hbd
        refine wp_region_held_drew (S := (fun w' => w'.cell? ⟨w.heap.size, 0, none⟩ = some (.int .i64 P) ∧ w'.cell? ⟨w.heap.size, 1, none⟩ = some (.int .i64 Q) ∧ w'.cell? ⟨w.heap.size, 2, none⟩ = some (.int .i64 G))) (by kernel_rfl) (show _ from G_r.out) (fun hHeld => ?_)
        generalize hW0 : wr.drew = Ws at *
        clear hW0
        refine wpAnyH_take (i := 0) (v := ?_) rfl (by kernel_rfl) (by kernel_rfl) (by kernel_rfl) (fun _ _ _ h => h) (Or.inl ⟨by kernel_rfl, ?_⟩) (by assumption) ?_
        rotate_left 1
        · intro w9 hSw
          try dsimp only at hSw
          go_simp
          try with_reducible rfl
        try simp only [Act.put, List.getElem_toArray, List.getElem_cons_succ, List.getElem_cons_zero, List.setIfInBounds_toArray, List.set_cons_zero, List.set_cons_succ]
        refine wpAnyH_take (i := 1) (v := ?_) rfl (by kernel_rfl) (by kernel_rfl) (by kernel_rfl) (fun _ _ _ h => h) (Or.inl ⟨by kernel_rfl, ?_⟩) (by assumption) ?_
        rotate_left 1
        · intro w9 hSw
          try dsimp only at hSw
          go_simp
          try with_reducible rfl
        try simp only [Act.put, List.getElem_toArray, List.getElem_cons_succ, List.getElem_cons_zero, List.setIfInBounds_toArray, List.set_cons_zero, List.set_cons_succ]
        refine wpAnyH_take (i := 2) (v := ?_) rfl (by kernel_rfl) (by kernel_rfl) (by kernel_rfl) (fun _ _ _ h => h) (Or.inl ⟨by kernel_rfl, ?_⟩) (by assumption) ?_
        rotate_left 1
        · intro w9 hSw
          try dsimp only at hSw
          go_simp
          try with_reducible rfl
        try simp only [Act.put, List.getElem_toArray, List.getElem_cons_succ, List.getElem_cons_zero, List.setIfInBounds_toArray, List.set_cons_zero, List.set_cons_succ]
        refine wpAnyH_take (i := 4) (v := ?_) rfl (by kernel_rfl) (by kernel_rfl) (by kernel_rfl) (fun _ _ _ h => h) (Or.inl ⟨by kernel_rfl, ?_⟩) (by assumption) ?_
        rotate_left 1
        · intro w9 hSw
          try dsimp only at hSw
          go_simp
          try with_reducible rfl
        try simp only [Act.put, List.getElem_toArray, List.getElem_cons_succ, List.getElem_cons_zero, List.setIfInBounds_toArray, List.set_cons_zero, List.set_cons_succ]
        refine wpAnyH_take (i := 5) (v := ?_) rfl (by kernel_rfl) (by kernel_rfl) (by kernel_rfl) (fun _ _ _ h => h) (Or.inl ⟨by kernel_rfl, ?_⟩) (by assumption) ?_
        rotate_left 1
        · intro w9 hSw
          try dsimp only at hSw
          go_simp
          try with_reducible rfl
        try simp only [Act.put, List.getElem_toArray, List.getElem_cons_succ, List.getElem_cons_zero, List.setIfInBounds_toArray, List.set_cons_zero, List.set_cons_succ]
        refine wpAnyH_take (i := 6) (v := ?_) rfl (by kernel_rfl) (by kernel_rfl) (by kernel_rfl) (fun _ _ _ h => h) (Or.inl ⟨by kernel_rfl, ?_⟩) (by assumption) ?_
        rotate_left 1
        · intro w9 hSw
          try dsimp only at hSw
          go_simp
          try with_reducible rfl
        try simp only [Act.put, List.getElem_toArray, List.getElem_cons_succ, List.getElem_cons_zero, List.setIfInBounds_toArray, List.set_cons_zero, List.set_cons_succ]
        refine wpAnyH_ready (rs := [3]) (by kernel_rfl) (by simp) ?_
        refine AllReadyH.cons rfl (fun K hK => ?_) (AllReadyH.nil)
        go_simp
        go_at_call 110
        refine (yLagrange_any Q va m vc (pk zs l) 0 HP1.out (by omega) HPR.out HRX.out HNX.out (by omega) (by omega) _ (show IsInts _ va (pk zs l) from X_s.out)).mono ?_
        rintro e' Wsd ⟨la, lc, rfl, hown, hb⟩
        have hll := lagr_length Q 0 (pk zs l)
        rw [HP1.out] at hll
        have HB_sd := Lib.hid (bt HB_s.out hb)
        have G_sd := Lib.hid (G_s.out.below hb)
        have X_sd := Lib.hid (X_s.out.below hb)
        have Y_sd := Lib.hid (Y_s.out.below hb)
        have L_sd := Lib.hid (LZ_own hown)
        clear hown
        clear hb
        go_wp2_with fail
        refine hK.out _ _ (show _ from G_sd.out) (fun hHeld => ?_)
        clear hK K
        try simp only [Act.put, List.getElem_toArray, List.getElem_cons_succ, List.getElem_cons_zero, List.setIfInBounds_toArray, List.set_cons_zero, List.set_cons_succ]
        refine wpAnyH_ready (rs := [7]) (by kernel_rfl) (by simp) ?_
        refine AllReadyH.cons rfl (fun K hK => ?_) (AllReadyH.nil)
        go_simp
        go_at_call 109
        refine (nDot_any _ _ m _ _ (lagr Q 0 (pk zs l)) (pk ss l) Q hll HP2.out (by omega) q2 q3 (lagr_res (by omega) _) HRY.out _ L_sd.out (show IsInts _ va' (pk ss l) from Y_sd.out)).mono ?_
        rintro e' w' ⟨rfl, rfl⟩
        go_wp2_with fail
        refine hK.out _ _ (show _ from G_sd.out) (fun hHeld => ?_)
        clear hK K
        try simp only [Act.put, List.getElem_toArray, List.getElem_cons_succ, List.getElem_cons_zero, List.setIfInBounds_toArray, List.set_cons_zero, List.set_cons_succ]
        refine wpAnyH_take (i := 8) (v := ?_) rfl (by kernel_rfl) (by kernel_rfl) (by kernel_rfl) (fun _ _ _ h => h) (Or.inl ⟨by kernel_rfl, ?_⟩) (by assumption) ?_
        rotate_left 1
        · intro w9 hSw
          try dsimp only at hSw
          go_simp
          try with_reducible rfl
        try simp only [Act.put, List.getElem_toArray, List.getElem_cons_succ, List.getElem_cons_zero, List.setIfInBounds_toArray, List.set_cons_zero, List.set_cons_succ]
        refine wpAnyH_take (i := 9) (v := ?_) rfl (by kernel_rfl) (by kernel_rfl) (by kernel_rfl) (fun _ _ _ h => h) (Or.inl ⟨by kernel_rfl, ?_⟩) (by assumption) ?_
        rotate_left 1
        · intro w9 hSw
          try dsimp only at hSw
          go_simp
          try with_reducible rfl
        try simp only [Act.put, List.getElem_toArray, List.getElem_cons_succ, List.getElem_cons_zero, List.setIfInBounds_toArray, List.set_cons_zero, List.set_cons_succ]
        refine wpAnyH_done (by kernel_rfl) ?_ _
        clear hHeld
        go_wp2
        go_ret2
        exact ⟨by rw [E2.out, E3.out]; try rfl, HB_sd.out⟩
      · have E2 := Lib.hid (show rkOK P Q G cs zs ss = false by unfold rkOK; rw [E1.out, HSL.out, HM.out, decide_eq_false ht]; rfl)
        have E3 := Lib.hid (show rkV P Q G cs zs ss = 0 by simp [rkV, E2.out])
        have hnt : m < cs.length := by omega
        clear ht
        go_wp2
        go_ret2
        exact ⟨by rw [E2.out, E3.out]; try rfl, bt HB_3.out HBr.out⟩

theorem reconstruct_ans (P Q G : Int) {B B' B2 : Nat} {v1 v2 v3 : Value} {cs zs ss : List Int} (hl : cs.length ≤ 1048576) (hl' : zs.length ≤ 1048576) (hl2 : ss.length ≤ 1048576) {w : World} (h1 : InI B w v1 cs) (h2 : InI B' w v2 zs) (h3 : InI B2 w v3 ss) :
    Calls Try.prog 50 #[gv P Q G, v1, v2, v3] w fun e w' => e = .returned (.tuple #[.int .i64 (rkV P Q G cs zs ss), .bool (rkOK P Q G cs zs ss)]) ∧ Below w.heap.size w w' := by
  obtain ⟨_, a1, c1, rfl, i1, _, _⟩ := h1
  obtain ⟨_, a2, c2, rfl, i2, _, k2⟩ := h2
  obtain ⟨_, a3, c3, rfl, i3, _, _⟩ := h3
  exact reconstruct_any P Q G a1 a2 a3 c1 c2 c3 cs zs ss hl hl' hl2 k2 i1.ints i2.ints i3.ints

theorem sReconstruct_ans (P Q G : Int) {B B' B2 : Nat} {v1 v2 v3 : Value} {cs zs ss : List Int} (hl : cs.length ≤ 1048576) (hl' : zs.length ≤ 1048576) (hl2 : ss.length ≤ 1048576) {w : World} (h1 : InI B w v1 cs) (h2 : InI B' w v2 zs) (h3 : InI B2 w v3 ss) :
    Calls Try.prog 49 #[gv P Q G, v1, v2, v3] w fun e w' => e = .returned (.tuple #[.int .i64 (rkV P Q G cs zs ss), .bool (rkOK P Q G cs zs ss)]) ∧ Below w.heap.size w w' := by
  obtain ⟨_, a1, c1, rfl, i1, _, _⟩ := h1
  obtain ⟨_, a2, c2, rfl, i2, _, k2⟩ := h2
  obtain ⟨_, a3, c3, rfl, i3, _, _⟩ := h3
  exact sReconstruct_any P Q G a1 a2 a3 c1 c2 c3 cs zs ss hl hl' hl2 k2 i1.ints i2.ints i3.ints

end Go.Proofs.Ytfjaohmildkeoaa

