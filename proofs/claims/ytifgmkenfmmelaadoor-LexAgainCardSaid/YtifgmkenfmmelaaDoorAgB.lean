/-
  Plain facts for LexAgain (no walk): proved is that the text of a text's tokens, each with a part behind it, is read as the same tokens, but their places.
-/
import Derived.Test.YtifgmkenfmmelaaDoorAgA
import Derived.Test.YtifgmkenfmmelaaDoorNumB
namespace Go.Proofs.YtifgmkenfmmelaaDoor
open Go

/-- What stands in t from byte b on. -/
def Suf (t : ByteArray) (b : Nat) (L : List UInt8) : Prop := b ≤ t.size ∧ t.data.toList.drop b = L
theorem Suf.len {t : ByteArray} {b : Nat} {L : List UInt8} (h : Suf t b L) : b + L.length = t.size := by
  have := congrArg List.length h.2
  rw [List.length_drop, Array.length_toList] at this
  have h1 := h.1
  have e : t.data.size = t.size := rfl
  omega
theorem Suf.app {t : ByteArray} {b : Nat} {x y : List UInt8} (h : Suf t b (x ++ y)) : Suf t (b + x.length) y := by
  have hl := h.len
  rw [List.length_append] at hl
  refine ⟨by omega, ?_⟩
  rw [← List.drop_drop, h.2, List.drop_left]
theorem Suf.byte {t : ByteArray} {b : Nat} {L : List UInt8} (h : Suf t b L) {j : Nat} {c : UInt8} (hc : L[j]? = some c) : byt t (b + j) = c.toNat := by
  unfold byt
  rw [get!_list]
  simp only [List.getD]
  rw [← h.2, List.getElem?_drop] at hc
  rw [hc]; rfl
theorem Suf.byteL {t : ByteArray} {b : Nat} {x y : List UInt8} (h : Suf t b (x ++ y)) {j : Nat} (hj : j < x.length) : byt t (b + j) = x[j].toNat :=
  h.byte (by rw [List.getElem?_append_left hj, List.getElem?_eq_getElem hj])

/-- ASCII ahead of what is UTF-8 is UTF-8. -/
theorem chk_piece (t : ByteArray) : ∀ k p, p + k ≤ t.size → (∀ j, j < k → byt t (p + j) < 128) → (∀ f, chk t f (p + k) = (0, 0)) → ∀ f, chk t f p = (0, 0)
  | 0, p, _, _, h, f => h f
  | k + 1, p, hp, ha, h, f => by
    cases f with
    | zero => rfl
    | succ f =>
      have h0 := ha 0 (by omega)
      rw [Nat.add_zero] at h0
      have hd := ascii_dec t p h0
      have hb : badB t p = false := by
        unfold badB
        have : (rn t p == 65533) = false := by rw [beq_eq_false_iff_ne]; omega
        rw [this]; rfl
      rw [chk_step t f p (by omega) hb, hd.2]
      exact chk_piece t k (p + 1) (by omega) (fun j hj => by have := ha (j + 1) (by omega); rwa [show p + (j + 1) = p + 1 + j by omega] at this) (fun f => by have := h f; rwa [show p + (k + 1) = p + 1 + k by omega] at this) f
theorem chk_span {told : Int → Bool} (htold : ∀ s p, told (rn s p) = true → badB s p = false) (t : ByteArray) : ∀ F p, p ≤ t.size → (∀ f, chk t f (spE told t F p) = (0, 0)) → ∀ f, chk t f p = (0, 0)
  | 0, p, _, h, f => h f
  | F + 1, p, hp, h, f => by
    by_cases hq : p < t.size ∧ told (rn t p) = true
    · rw [spE_go hq.1 hq.2] at h
      have hd := dec_facts t p hq.1
      cases f with
      | zero => rfl
      | succ f =>
        rw [chk_step t f p hq.1 (htold t p hq.2)]
        exact chk_span htold t F (p + wd t p) hd.2.1 h f
    · have e : spE told t (F + 1) p = p := by
        by_cases hlt : p < t.size
        · exact spE_stop (by cases e : told (rn t p) with | false => rfl | true => exact absurd ⟨hlt, e⟩ hq)
        · exact spE_end hlt
      rw [e] at h
      exact h f
theorem chk_tok {t : ByteArray} {b n : Nat} {kind num : Int} (hb : b < t.size) (ho : oneT t b = (0, n, kind, num)) (h : ∀ f, chk t f n = (0, 0)) : ∀ f, chk t f b = (0, 0) := by
  have hn := oneT_end t b hb ho rfl
  simp only at hn
  unfold oneT at ho
  by_cases h3 : cls (rn t b) = 3
  · rw [if_pos h3] at ho
    have hsp : spE inNm t t.size b = n := by
      unfold letT at ho
      split at ho
      · exact (tok_inj ho).2.1
      · split at ho
        · exact absurd (tok_inj ho).1 (by decide)
        · exact (tok_inj ho).2.1
    exact chk_span (fun s p hp => inNm_good s p hp) t t.size b (by omega) (by rw [hsp]; exact h)
  · rw [if_neg h3] at ho
    by_cases h4 : cls (rn t b) = 4
    · rw [if_pos h4] at ho
      have hsp : spE isDig t t.size b = n := by
        unfold digT at ho
        split at ho
        · exact absurd (tok_inj ho).1 (by decide)
        · split at ho
          · exact (tok_inj ho).2.1
          · exact absurd (tok_inj ho).1 (by decide)
      exact chk_span (fun s p hp => inNm_good s p (inDig hp)) t t.size b (by omega) (by rw [hsp]; exact h)
    · rw [if_neg h4] at ho
      by_cases h5 : cls (rn t b) = 5
      · rw [if_pos h5] at ho
        have hc := cls_byte h5
        unfold sigT at ho
        rw [sgL_eq t b hb] at ho
        by_cases h2 : twoL (if b + 1 < t.size then [t.get! b, t.get! (b + 1)] else [t.get! b]) = true
        · rw [if_pos h2, if_pos (by decide)] at ho
          have hn2 : b + 2 = n := (tok_inj ho).2.1
          rw [if_pos (show b + 1 < t.size by omega)] at h2
          have h6 := twoL_snd h2
          refine chk_piece t 2 b (by omega) (fun j hj => ?_) (by rw [hn2]; exact h)
          have : j = 0 ∨ j = 1 := by omega
          rcases this with rfl | rfl
          · exact hc.1
          · unfold byt
            rcases h6 with h6 | h6 | h6 <;> (rw [h6]; decide)
        · rw [if_neg h2] at ho
          by_cases h38 : byt t b = 38 ∨ byt t b = 124
          · rw [if_pos h38, if_neg (by decide)] at ho
            exact absurd (tok_inj ho).1 (by decide)
          · rw [if_neg h38, if_pos (by decide)] at ho
            have hn2 : b + 1 = n := (tok_inj ho).2.1
            refine chk_piece t 1 b (by omega) (fun j hj => ?_) (by rw [hn2]; exact h)
            have : j = 0 := by omega
            subst this
            exact hc.1
      · rw [if_neg h5] at ho
        exact absurd (tok_inj ho).1 (by decide)

/-- What parts the tokens. -/
def sepL (c : Bool) : List UInt8 := if c = true then [32, 35, 32, 61, 32, 10, 9] else [32]
theorem sep_head (c : Bool) : ∃ r, sepL c = 32 :: r := by cases c; exact ⟨[], rfl⟩; exact ⟨_, rfl⟩
theorem sep_skip {t : ByteArray} {p : Nat} {c : Bool} {y : List UInt8} (h : Suf t p (sepL c ++ y)) : ptE t t.size p false = ptE t t.size (p + (sepL c).length) false := by
  have hl := h.len
  rw [List.length_append] at hl
  cases c with
  | false =>
    have hz : (sepL false).length = 1 := rfl
    have b0 : byt t (p + 0) = 32 := h.byteL (j := 0) (by decide)
    have d0 := blank_at (t := t) (p := p) b0
    rw [hz] at hl ⊢
    rw [ptE_fuel t t.size (t.size + 1) p false (by omega) (by omega), ptE_space (by omega) (by rw [d0.1]; decide +kernel), d0.2]
  | true =>
    have hz : (sepL true).length = 7 := rfl
    have b0 : byt t (p + 0) = 32 := h.byteL (j := 0) (by decide)
    have b1 : byt t (p + 1) = 35 := h.byteL (j := 1) (by decide)
    have b2 : byt t (p + 2) = 32 := h.byteL (j := 2) (by decide)
    have b3 : byt t (p + 3) = 61 := h.byteL (j := 3) (by decide)
    have b4 : byt t (p + 4) = 32 := h.byteL (j := 4) (by decide)
    have b5 : byt t (p + 5) = 10 := h.byteL (j := 5) (by decide)
    have b6 : byt t (p + 6) = 9 := h.byteL (j := 6) (by decide)
    rw [Nat.add_zero] at b0
    have d0 := ascii_dec t p (by omega)
    have d1 := ascii_dec t (p + 1) (by omega)
    have d2 := ascii_dec t (p + 2) (by omega)
    have d3 := ascii_dec t (p + 3) (by omega)
    have d4 := ascii_dec t (p + 4) (by omega)
    have d5 := ascii_dec t (p + 5) (by omega)
    have d6 := ascii_dec t (p + 6) (by omega)
    rw [b0] at d0; rw [b1] at d1; rw [b2] at d2; rw [b3] at d3; rw [b4] at d4; rw [b5] at d5; rw [b6] at d6
    rw [hz] at hl ⊢
    rw [ptE_fuel t t.size (t.size + 1 + 1 + 1 + 1 + 1 + 1 + 1) p false (by omega) (by omega)]
    rw [ptE_space (by omega) (by rw [d0.1]; decide +kernel), d0.2]
    rw [ptE_on (by omega) (by rw [d1.1]; decide +kernel) (by rw [d1.1]; decide +kernel) (.inr (by rw [d1.1])), d1.2]
    rw [ptE_space (by omega) (by rw [d2.1]; decide +kernel), d2.2]
    rw [ptE_on (by omega) (by rw [d3.1]; decide +kernel) (by rw [d3.1]; decide +kernel) (.inl rfl), d3.2]
    rw [ptE_space (by omega) (by rw [d4.1]; decide +kernel), d4.2]
    rw [ptE_line (by omega) (by rw [d5.1]; decide +kernel), d5.2]
    rw [ptE_space (by omega) (by rw [d6.1]; decide +kernel), d6.2]
theorem sep_asc (c : Bool) : ∀ x ∈ sepL c, x.toNat < 128 := by cases c <;> decide
theorem sep_chk {t : ByteArray} {p : Nat} {c : Bool} {y : List UInt8} (h : Suf t p (sepL c ++ y)) (hg : ∀ f, chk t f (p + (sepL c).length) = (0, 0)) : ∀ f, chk t f p = (0, 0) := by
  have hl := h.len
  rw [List.length_append] at hl
  refine chk_piece t (sepL c).length p (by omega) (fun j hj => ?_) hg
  rw [h.byteL hj]
  exact sep_asc c _ (List.getElem_mem hj)

/-- A token that some text has. -/
def IsTok (k : Tk) : Prop := ∃ s a n, a < s.size ∧ oneT s a = (0, n, k.kind, k.num) ∧ k.text = s.extract a n
def joinL (c : Bool) : List Tk → List UInt8
  | [] => []
  | k :: r => k.text.data.toList ++ (sepL c ++ joinL c r)
theorem IsTok.there {k : Tk} (hk : IsTok k) {t : ByteArray} {b : Nat} {c : Bool} {y : List UInt8} (h : Suf t b (k.text.data.toList ++ (sepL c ++ y))) :
    b < t.size ∧ 0 < k.text.size ∧ oneT t b = (0, b + k.text.size, k.kind, k.num) ∧ t.extract b (b + k.text.size) = k.text ∧ b + k.text.size < t.size := by
  obtain ⟨s, a, n, ha, ho, htx⟩ := hk
  have hn := oneT_end s a ha ho rfl
  simp only at hn
  have hsz : k.text.size = n - a := by rw [htx]; simp <;> omega
  have hlen : k.text.data.toList.length = n - a := by rw [Array.length_toList]; exact hsz
  have hl := h.len
  obtain ⟨r, hr⟩ := sep_head c
  rw [List.length_append, List.length_append, hlen, hr] at hl
  simp only [List.length_cons] at hl
  have hlies : Lies s a n t b := fun j hj => by
    have e := h.byteL (j := j) (by omega)
    rw [e, ← byt_extract s a n j hj hn.2, ← htx]
    unfold byt
    rw [get!_list]
    simp only [List.getD]
    rw [List.getElem?_eq_getElem (by omega)]
    rfl
  have h32 : byt t (b + (n - a)) = 32 := by
    have := h.app
    rw [hlen, hr] at this
    have e := this.byte (j := 0) (c := 32) rfl
    exact e
  have h1 := oneT_lies ha ho hlies (by omega) h32
  have h2 := lies_text hlies (by omega) hn.2 (by omega)
  rw [hsz]
  exact ⟨by omega, by omega, h1, by rw [h2, htx], by omega⟩
theorem cls_tok {t : ByteArray} {b n : Nat} {k m : Int} (h : oneT t b = (0, n, k, m)) : cls (rn t b) = 3 ∨ cls (rn t b) = 4 ∨ cls (rn t b) = 5 := by
  unfold oneT at h
  split at h
  · exact .inl ‹_›
  · split at h
    · exact .inr (.inl ‹_›)
    · split at h
      · exact .inr (.inr ‹_›)
      · exact absurd (tok_inj h).1 (by decide)
theorem tok_stop {t : ByteArray} {b n f : Nat} {k m : Int} (h : oneT t b = (0, n, k, m)) : ptE t f b false = b := by
  have hc := cls_tok h
  refine ptE_stop (by omega) (by omega) (fun e => ?_)
  rcases e with e | e
  · cases e
  · have e2 : cls ((rn t b : Nat) : Int) = 6 := by
      have : ((rn t b : Nat) : Int) = 35 := by omega
      rw [this]; decide +kernel
    omega
/-- What stands from a token's first byte on, or at the end. -/
def restL (c : Bool) (r : List Tk) : List UInt8 := match r with
  | [] => []
  | _ :: _ => joinL c r ++ sepL c
theorem rest_at {t : ByteArray} {c : Bool} {r : List Tk} {p : Nat} (hr : ∀ k ∈ r, IsTok k) (h : Suf t p (joinL c r ++ sepL c)) :
    ∃ b, ptE t t.size p false = b ∧ p ≤ b ∧ Suf t b (restL c r) ∧ ((∀ f, chk t f b = (0, 0)) → ∀ f, chk t f p = (0, 0)) := by
  cases r with
  | nil =>
    have h' : Suf t p (sepL c ++ []) := by simpa [joinL] using h
    have hs := h'.app
    have hl := hs.len
    simp only [List.length_nil, Nat.add_zero] at hl
    refine ⟨p + (sepL c).length, ?_, by omega, hs, fun hg => sep_chk h' hg⟩
    rw [sep_skip h', ptE_end (by omega)]
  | cons k r =>
    have e : joinL c (k :: r) ++ sepL c = k.text.data.toList ++ (sepL c ++ (joinL c r ++ sepL c)) := by simp [joinL]
    have h2 := h
    rw [e] at h2
    have ht := (hr k (.head _)).there h2
    exact ⟨p, tok_stop ht.2.2.1, Nat.le_refl _, h, fun hg => hg⟩
def Tk.core (k : Tk) : Int × ByteArray × Int := (k.kind, k.text, k.num)
theorem again_from {t : ByteArray} {c : Bool} : ∀ (r : List Tk) (b f : Nat) (Q : Int × Int) (pre : List Tk), (∀ k ∈ r, IsTok k) → Suf t b (restL c r) → t.size < b + f → pre.length + r.length ≤ 32768 →
    (∃ l' Q', lexC t f b Q pre = (0, (0, 0), pre ++ l' ++ [⟨5, ⟨#[]⟩, 0, Q'⟩]) ∧ l'.map Tk.core = r.map Tk.core) ∧ (∀ f, chk t f b = (0, 0))
  | [], b, f, Q, pre, _, h, hf, _ => by
    have hl := h.len
    simp only [restL, List.length_nil, Nat.add_zero] at hl
    cases f with
    | zero => omega
    | succ f =>
      refine ⟨⟨[], Q, ?_, rfl⟩, fun f => chk_end t f b (by omega)⟩
      rw [lexC_end (by omega)]
      have e : t.extract b b = ⟨#[]⟩ := by simp; rfl
      rw [e]; simp
  | k :: r, b, f, Q, pre, hk, h, hf, hp => by
    have e : restL c (k :: r) = k.text.data.toList ++ (sepL c ++ (joinL c r ++ sepL c)) := by simp [restL, joinL]
    rw [e] at h
    have ht := (hk k (.head _)).there h
    have h1 := h.app
    have hsz : k.text.data.toList.length = k.text.size := by rw [Array.length_toList]; rfl
    rw [hsz] at h1
    have h2 := h1.app
    obtain ⟨b2, hb2, hle, hs2, hg2⟩ := rest_at (fun x hx => hk x (.tail _ hx)) h2
    have hto : tokT t b pre.length = (0, b + k.text.size, k.kind, k.num) := by
      unfold tokT
      rw [if_neg (by simp at hp; omega)]
      exact ht.2.2.1
    cases f with
    | zero => omega
    | succ f =>
      have ih := again_from r b2 f (mvE t (ptE t t.size (b + k.text.size) false) t.size (b + k.text.size) (mvE t (b + k.text.size) t.size b Q)) (pre ++ [⟨k.kind, t.extract b (b + k.text.size), k.num, Q⟩]) (fun x hx => hk x (.tail _ hx)) hs2 (by omega) (by simp at hp ⊢; omega)
      obtain ⟨⟨l', Q', ih1, ih2⟩, ih3⟩ := ih
      refine ⟨⟨⟨k.kind, t.extract b (b + k.text.size), k.num, Q⟩ :: l', Q', ?_, ?_⟩, chk_tok ht.1 ht.2.2.1 (sep_chk h1 (hg2 ih3))⟩
      · rw [lexC_tok ht.1 hto rfl]
        simp only
        rw [sep_skip h1, hb2] at ih1 ⊢
        rw [ih1]
        simp
      · simp only [List.map_cons]
        rw [ih2]
        unfold Tk.core
        simp only [ht.2.2.2.1]
theorem lexC_toks {s : ByteArray} : ∀ f b Q (l : List Tk) L, s.size < b + f → b ≤ s.size → (∀ k ∈ l, IsTok k) → l.length ≤ 32768 → lexC s f b Q l = (0, (0, 0), L) → ∃ l0 Q', L = l0 ++ [⟨5, ⟨#[]⟩, 0, Q'⟩] ∧ (∀ k ∈ l0, IsTok k) ∧ l0.length ≤ 32768
  | 0, b, Q, l, L, hf, hb, _, _, _ => by omega
  | f + 1, b, Q, l, L, hf, hb, hl, hn, h => by
    by_cases hlt : b < s.size
    · obtain ⟨o, ho⟩ : ∃ o, tokT s b l.length = o := ⟨_, rfl⟩
      by_cases he : o.1 = 0
      · rw [lexC_tok hlt ho he] at h
        have ht := tokT_end s b l.length hlt ho he
        have hp := ptE_bounds s s.size o.2.1 false ht.2.1
        refine lexC_toks f _ _ _ L (by omega) hp.2 (fun k hk => ?_) (by simp; omega) h
        rcases List.mem_append.1 hk with hk | hk
        · exact hl k hk
        · simp only [List.mem_singleton] at hk
          subst hk
          refine ⟨s, b, o.2.1, hlt, ?_, rfl⟩
          have ho2 : oneT s b = o := by
            unfold tokT at ho
            rwa [if_neg ht.2.2] at ho
          rw [ho2]
          obtain ⟨oe, on, ok, om⟩ := o
          simp only at he
          subst he; rfl
      · rw [lexC_bad hlt ho he] at h
        exact absurd (Prod.mk.inj h).1 he
    · rw [lexC_end hlt] at h
      have h2 := (Prod.mk.inj (Prod.mk.inj h).2).2
      have e : s.extract b b = ⟨#[]⟩ := by simp; rfl
      rw [e] at h2
      exact ⟨l, Q, h2.symm, hl, hn⟩
theorem lexC_pl (s : ByteArray) : ∀ f b Q (l : List Tk), (lexC s f b Q l).1 = 0 → (lexC s f b Q l).2.1 = (0, 0)
  | 0, b, Q, l, _ => rfl
  | f + 1, b, Q, l, h => by
    by_cases hlt : b < s.size
    · obtain ⟨o, ho⟩ : ∃ o, tokT s b l.length = o := ⟨_, rfl⟩
      by_cases he : o.1 = 0
      · rw [lexC_tok hlt ho he] at h ⊢
        exact lexC_pl s f _ _ _ h
      · rw [lexC_bad hlt ho he] at h
        exact absurd h he
    · rw [lexC_end hlt]
/-- A text's tokens, parted, are read as the same ones. -/
theorem lex_again {s : ByteArray} {P : Int × Int} {L : List Tk} (c : Bool) (h : lexV s = (0, P, L)) : ∃ l0 Q, L = l0 ++ [⟨5, ⟨#[]⟩, 0, Q⟩] ∧ l0.length ≤ 32768 ∧
    (∀ t : ByteArray, t.size ≤ 65536 → t.data.toList = joinL c L → ∃ L', lexV t = (0, (0, 0), L') ∧ L'.map Tk.core = L.map Tk.core) := by
  have hL : ∃ l0 Q, L = l0 ++ [⟨5, ⟨#[]⟩, 0, Q⟩] ∧ (∀ k ∈ l0, IsTok k) ∧ l0.length ≤ 32768 := by
    by_cases hc : (chkAll s).2 = 0
    · have h2 := h
      unfold lexV at h2
      rw [if_pos hc] at h2
      have hP : P = (0, 0) := by
        have h0 := lexC_pl s (s.size + 1) (ptE s s.size 0 false) (mvE s (ptE s s.size 0 false) s.size 0 (1, 1)) []
        rw [h2] at h0
        exact h0 rfl
      rw [hP] at h2
      exact lexC_toks _ _ _ _ L (by omega) (ptE_bounds s s.size 0 false (by omega)).2 (fun k hk => by cases hk) (by simp) h2
    · unfold lexV at h
      rw [if_neg hc] at h
      exact absurd (Prod.mk.inj h).1 hc
  obtain ⟨l0, Q, rfl, hk, hn⟩ := hL
  refine ⟨l0, Q, rfl, hn, fun t hsz ht => ?_⟩
  have hj : joinL c (l0 ++ [⟨5, ⟨#[]⟩, 0, Q⟩]) = joinL c l0 ++ sepL c := by
    clear hk hn ht h
    induction l0 with
    | nil => simp [joinL]
    | cons k r ih =>
      have : joinL c (k :: r ++ [⟨5, ⟨#[]⟩, 0, Q⟩]) = k.text.data.toList ++ (sepL c ++ joinL c (r ++ [⟨5, ⟨#[]⟩, 0, Q⟩])) := rfl
      rw [this, ih]
      simp [joinL]
  rw [hj] at ht
  have h0 : Suf t 0 (joinL c l0 ++ sepL c) := ⟨by omega, by rw [List.drop_zero]; exact ht⟩
  obtain ⟨b, hb, _, hs, hg⟩ := rest_at hk h0
  obtain ⟨⟨l', Q', h1, h2⟩, h3⟩ := again_from l0 b (t.size + 1) (mvE t b t.size 0 (1, 1)) [] hk hs (by omega) (by simpa using hn)
  have hgood : chkAll t = (0, 0) := by
    rw [chkAll_of t (by omega)]
    exact hg h3 _
  refine ⟨l' ++ [⟨5, ⟨#[]⟩, 0, Q'⟩], ?_, ?_⟩
  · unfold lexV
    rw [hgood, if_pos rfl, hb, h1]
    simp
  · rw [List.map_append, List.map_append, h2]
    rfl
end Go.Proofs.YtifgmkenfmmelaaDoor
