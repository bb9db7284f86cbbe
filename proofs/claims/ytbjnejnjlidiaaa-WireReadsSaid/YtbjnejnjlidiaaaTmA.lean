/- Terms as texts: what a term is, and a parser that goes as the document's does. No condition beside those that each theorem names. -/
import Derived.Test.YtbjnejnjlidiaaaNumA
namespace Go.Proofs.Ytbjnejnjlidiaaa.tmA
open numA numB numC numE
set_option linter.unusedVariables false
set_option linter.unusedSimpArgs false

abbrev Txt := List UInt8

/-- What is read of a term: its kind, its number, its bytes, its parts. -/
structure Nd where
  k : Nat
  n : Nat
  b : Txt
  ps : List Txt
deriving DecidableEq, Inhabited

def letters : Txt := [48, 97, 110, 120, 112, 100, 104, 107, 109, 115, 108]
def letter (k : Nat) : UInt8 := letters.getD (k - 1) 0
def kindOf (c : UInt8) : Nat := if letters.contains c then letters.idxOf c + 1 else 0

def right (k n : Nat) : Bool := if k = 5 then n == 1 else if k = 6 ∨ k = 8 ∨ k = 9 then n == 2 else if k = 7 then decide (1 ≤ n) else if k = 10 then n == 3 else true
def numbered (k : Nat) : Bool := k == 8 || k == 10
def nOk (k n : Nat) : Bool := if k = 8 then decide (1 ≤ n) && decide (n ≤ 3) else if k = 10 then decide (n ≤ most) else n == 0
def gt (a b : Txt) : Bool := !(Op.bytesLess a b || a == b)
def sorted (k : Nat) (ps : List Txt) : Bool := !(k == 6 && gt (ps.getD 0 []) (ps.getD 1 []))

def join : List Txt → Txt
  | [] => []
  | [p] => p
  | p :: q :: r => p ++ 44 :: join (q :: r)

def pre (k n : Nat) : Txt := if numbered k then dec n ++ [44] else []

/-- The text t is a term; what is read of it is d. -/
inductive T : Txt → Nd → Prop
  | zero : T [48] ⟨1, 0, [], []⟩
  | atom (n : Nat) (h : n ≤ 4294967295) : T (97 :: dec n) ⟨2, n, [], []⟩
  | num (n : Nat) (h : n ≤ most) : T (110 :: dec n) ⟨3, n, [], []⟩
  | data (b : Txt) : T (120 :: hexs b) ⟨4, 0, b, []⟩
  | node (k n : Nat) (ps : List Txt) (h5 : 5 ≤ k) (h11 : k ≤ 11) (hn : nOk k n = true) (hr : right k ps.length = true) (hs : sorted k ps = true) (g : Txt → Nd) (hp : ∀ p ∈ ps, T p (g p)) :
      T (letter k :: 40 :: (pre k n ++ (join ps ++ [41]))) ⟨k, n, [], ps⟩

theorem T.mk {k n : Nat} {ps : List Txt} (h5 : 5 ≤ k) (h11 : k ≤ 11) (hn : nOk k n = true) (hr : right k ps.length = true) (hs : sorted k ps = true) (hp : ∀ p ∈ ps, ∃ d, T p d) :
    T (letter k :: 40 :: (pre k n ++ (join ps ++ [41]))) ⟨k, n, [], ps⟩ := by
  classical
  refine .node k n ps h5 h11 hn hr hs (fun p => if h : p ∈ ps then Classical.choose (hp p h) else default) fun p h => ?_
  simp only [h, dif_pos]
  exact Classical.choose_spec (hp p h)

def stop (c : UInt8) : Bool := c == 44 || c == 41
def wordOf (l : Txt) : Txt := l.takeWhile fun c => !stop c
def restOf (l : Txt) : Txt := l.dropWhile fun c => !stop c

def folw : Txt → Bool
  | [] => true
  | c :: _ => stop c

def leafR (k : Nat) (r : Txt) : Option (Nd × Txt) :=
  if k = 4 then (if (wordOf r).all isHex && (wordOf r).length % 2 == 0 then some (⟨4, 0, unhex (wordOf r), []⟩, restOf r) else none)
  else if isNum (wordOf r) && decide (val (wordOf r) ≤ most) && !(k == 2 && decide (4294967295 < val (wordOf r))) then some (⟨k, val (wordOf r), [], []⟩, restOf r) else none

def headR (k : Nat) (l : Txt) : Option (Nat × Txt) :=
  if numbered k then
    (if isNum (wordOf l) && decide (val (wordOf l) ≤ most) && !(k == 8 && (decide (val (wordOf l) < 1) || decide (3 < val (wordOf l)))) then
      (match restOf l with
        | c :: r => if c = 44 then some (val (wordOf l), r) else none
        | [] => none)
    else none)
  else some (0, l)

mutual
def tmR : Nat → Txt → Option (Nd × Txt)
  | 0, _ => none
  | _ + 1, [] => none
  | f + 1, c :: r =>
    if kindOf c = 0 then none
    else if kindOf c = 1 then some (⟨1, 0, [], []⟩, r)
    else if kindOf c ≤ 4 then leafR (kindOf c) r
    else match r with
      | [] => none
      | o :: r1 => if o = 40 then (match headR (kindOf c) r1 with
          | none => none
          | some (n, r2) => if kindOf c = 11 ∧ r2.head? = some 41 then some (⟨11, n, [], []⟩, r2.tail) else lpR f (kindOf c) n [] r2)
        else none
def lpR : Nat → Nat → Nat → List Txt → Txt → Option (Nd × Txt)
  | 0, _, _, _, _ => none
  | f + 1, k, n, acc, l => match tmR f l with
    | none => none
    | some (_, rest) => match rest with
      | [] => none
      | c :: r =>
        if c = 41 then (if right k (acc ++ [l.take (l.length - rest.length)]).length && sorted k (acc ++ [l.take (l.length - rest.length)]) then some (⟨k, n, [], acc ++ [l.take (l.length - rest.length)]⟩, r) else none)
        else if c = 44 then lpR f k n (acc ++ [l.take (l.length - rest.length)]) r
        else none
end

theorem tmR_zero (l : Txt) : tmR 0 l = none := by rw [tmR.eq_def]
theorem tmR_nil (f : Nat) : tmR f [] = none := by rw [tmR.eq_def]; cases f <;> rfl
theorem tmR_cons (f : Nat) (c : UInt8) (r : Txt) : tmR (f + 1) (c :: r) = (if kindOf c = 0 then none
    else if kindOf c = 1 then some (⟨1, 0, [], []⟩, r)
    else if kindOf c ≤ 4 then leafR (kindOf c) r
    else match r with
      | [] => none
      | o :: r1 => if o = 40 then (match headR (kindOf c) r1 with
          | none => none
          | some (n, r2) => if kindOf c = 11 ∧ r2.head? = some 41 then some (⟨11, n, [], []⟩, r2.tail) else lpR f (kindOf c) n [] r2)
        else none) := by rw [tmR.eq_def]; rfl
theorem lpR_zero (k n : Nat) (acc : List Txt) (l : Txt) : lpR 0 k n acc l = none := by rw [lpR.eq_def]
theorem lpR_succ (f k n : Nat) (acc : List Txt) (l : Txt) : lpR (f + 1) k n acc l = (match tmR f l with
    | none => none
    | some (_, rest) => match rest with
      | [] => none
      | c :: r =>
        if c = 41 then (if right k (acc ++ [l.take (l.length - rest.length)]).length && sorted k (acc ++ [l.take (l.length - rest.length)]) then some (⟨k, n, [], acc ++ [l.take (l.length - rest.length)]⟩, r) else none)
        else if c = 44 then lpR f k n (acc ++ [l.take (l.length - rest.length)]) r
        else none) := by rw [lpR.eq_def]

theorem letter_kind : ∀ k, 1 ≤ k → k ≤ 11 → kindOf (letter k) = k := by
  intro k h1 h2
  have : ∀ i : Fin 11, kindOf (letter (i.val + 1)) = i.val + 1 := by decide
  have := this ⟨k - 1, by omega⟩
  simpa [show k - 1 + 1 = k by omega] using this

theorem kind_letter (c : UInt8) (h : kindOf c ≠ 0) : c = letter (kindOf c) ∧ 1 ≤ kindOf c ∧ kindOf c ≤ 11 := by
  have key : ∀ i : Fin 256, kindOf (UInt8.ofNat i.val) ≠ 0 → UInt8.ofNat i.val = letter (kindOf (UInt8.ofNat i.val)) ∧ 1 ≤ kindOf (UInt8.ofNat i.val) ∧ kindOf (UInt8.ofNat i.val) ≤ 11 := by decide +kernel
  have := key ⟨c.toNat, c.toNat_lt⟩
  simpa using this (by simpa using h)

theorem stop_dig {c : UInt8} (h : dig c = true) : stop c = false := by
  have key : ∀ i : Fin 256, dig (UInt8.ofNat i.val) = true → stop (UInt8.ofNat i.val) = false := by decide +kernel
  have := key ⟨c.toNat, c.toNat_lt⟩
  simpa using this (by simpa using h)

theorem stop_hex {c : UInt8} (h : isHex c = true) : stop c = false := by
  have key : ∀ i : Fin 256, isHex (UInt8.ofNat i.val) = true → stop (UInt8.ofNat i.val) = false := by decide +kernel
  have := key ⟨c.toNat, c.toNat_lt⟩
  simpa using this (by simpa using h)

theorem word_app {d rest : Txt} (h : ∀ c ∈ d, stop c = false) (hf : folw rest = true) : wordOf (d ++ rest) = d ∧ restOf (d ++ rest) = rest := by
  have e1 : rest.takeWhile (fun c => !stop c) = [] := by
    cases rest with
    | nil => rfl
    | cons c r => simp [folw] at hf; simp [hf]
  have e2 : rest.dropWhile (fun c => !stop c) = rest := by
    cases rest with
    | nil => rfl
    | cons c r => simp [folw] at hf; simp [hf]
  refine ⟨?_, ?_⟩
  · rw [wordOf, List.takeWhile_append_of_pos (by simpa using h), e1, List.append_nil]
  · rw [restOf, List.dropWhile_append_of_pos (by simpa using h), e2]

theorem word_rest (l : Txt) : wordOf l ++ restOf l = l := List.takeWhile_append_dropWhile ..

theorem rest_follow (l : Txt) : folw (restOf l) = true := by
  unfold restOf
  induction l with
  | nil => rfl
  | cons c r ih =>
    rw [List.dropWhile_cons]
    split
    · exact ih
    · simp_all [folw]
end Go.Proofs.Ytbjnejnjlidiaaa.tmA
namespace Go.Proofs.Ytbjnejnjlidiaaa.tmB
open numA numB numC numE tmA
set_option linter.unusedVariables false
set_option linter.unusedSimpArgs false

theorem T.ne {t : Txt} {d : Nd} (h : T t d) : ∃ c r, t = c :: r ∧ kindOf c = d.k ∧ 1 ≤ d.k ∧ d.k ≤ 11 := by
  cases h with
  | zero => exact ⟨_, _, rfl, by decide, by decide, by decide⟩
  | atom n h => exact ⟨_, _, rfl, (show kindOf 97 = 2 from by decide), by simp, by simp⟩
  | num n h => exact ⟨_, _, rfl, (show kindOf 110 = 3 from by decide), by simp, by simp⟩
  | data b => exact ⟨_, _, rfl, (show kindOf 120 = 4 from by decide), by simp, by simp⟩
  | node k n ps h5 h11 => exact ⟨_, _, rfl, letter_kind k (by omega) h11, by show 1 ≤ k; omega, h11⟩

theorem take_part (p rest : Txt) : (p ++ rest).take ((p ++ rest).length - rest.length) = p := by
  rw [List.length_append, Nat.add_sub_cancel, List.take_left']
  rfl

theorem leaf_sound {k : Nat} {r : Txt} {d : Nd} {rest : Txt} (h2 : 2 ≤ k) (h4 : k ≤ 4) (h : leafR k r = some (d, rest)) : ∃ t, r = t ++ rest ∧ T (letter k :: t) d ∧ folw rest = true := by
  have e : k = 2 ∨ k = 3 ∨ k = 4 := by omega
  unfold leafR at h
  rcases e with rfl | rfl | rfl
  · rw [if_neg (by decide)] at h
    split at h
    · rename_i hc
      simp only [Bool.and_eq_true, decide_eq_true_eq, Bool.not_eq_true', Bool.and_eq_false_iff, decide_eq_false_iff_not, beq_eq_false_iff_ne] at hc
      obtain ⟨⟨h1, hm⟩, hb⟩ := hc
      have hb : val (wordOf r) ≤ 4294967295 := by
        rcases hb with hb | hb
        · exact absurd rfl hb
        · omega
      simp only [Option.some.injEq, Prod.mk.injEq] at h
      obtain ⟨rfl, rfl⟩ := h
      refine ⟨wordOf r, (word_rest r).symm, ?_, rest_follow r⟩
      have := T.atom (val (wordOf r)) hb
      rwa [dec_val _ _ rfl h1] at this
    · cases h
  · rw [if_neg (by decide)] at h
    split at h
    · rename_i hc
      simp only [Bool.and_eq_true, decide_eq_true_eq] at hc
      obtain ⟨⟨h1, hm⟩, hb⟩ := hc
      simp only [Option.some.injEq, Prod.mk.injEq] at h
      obtain ⟨rfl, rfl⟩ := h
      refine ⟨wordOf r, (word_rest r).symm, ?_, rest_follow r⟩
      have := T.num (val (wordOf r)) hm
      rwa [dec_val _ _ rfl h1] at this
    · cases h
  · rw [if_pos rfl] at h
    split at h
    · rename_i hc
      simp only [Bool.and_eq_true, beq_iff_eq] at hc
      simp only [Option.some.injEq, Prod.mk.injEq] at h
      obtain ⟨rfl, rfl⟩ := h
      refine ⟨wordOf r, (word_rest r).symm, ?_, rest_follow r⟩
      have := T.data (unhex (wordOf r))
      rwa [hexs_unhex _ _ (Nat.le_refl _) hc.1 hc.2] at this
    · cases h

theorem head_sound {k : Nat} {l : Txt} {n : Nat} {r2 : Txt} (h5 : 5 ≤ k) (h11 : k ≤ 11) (h : headR k l = some (n, r2)) : l = pre k n ++ r2 ∧ nOk k n = true := by
  unfold headR at h
  split at h
  · rename_i hk
    split at h
    · rename_i hc
      have hw := word_rest l
      cases hr : restOf l with
      | nil => rw [hr] at h; cases h
      | cons c r =>
        rw [hr] at h
        by_cases hc44 : c = 44
        · simp only [hc44, ↓reduceIte, Option.some.injEq, Prod.mk.injEq] at h
          obtain ⟨rfl, rfl⟩ := h
          simp only [Bool.and_eq_true, decide_eq_true_eq] at hc
          obtain ⟨⟨h1, hm⟩, hb⟩ := hc
          refine ⟨?_, ?_⟩
          · rw [pre, if_pos hk, dec_val _ _ rfl h1, List.append_assoc]
            show l = wordOf l ++ 44 :: r
            rw [← hc44, ← hr, hw]
          · have e : k = 8 ∨ k = 10 := by simpa [numbered] using hk
            rcases e with rfl | rfl
            · simp [nOk] at hb ⊢
              omega
            · simpa [nOk] using hm
        · simp [hc44] at h
    · cases h
  · rename_i hk
    simp only [Option.some.injEq, Prod.mk.injEq] at h
    obtain ⟨rfl, rfl⟩ := h
    have e : ¬ (k = 8 ∨ k = 10) := by simpa [numbered] using hk
    refine ⟨by rw [pre, if_neg hk]; rfl, ?_⟩
    unfold nOk
    rw [if_neg (fun q => e (.inl q)), if_neg (fun q => e (.inr q))]
    rfl

theorem join_cons (p : Txt) (ps : List Txt) (h : ps ≠ []) : join (p :: ps) = p ++ 44 :: join ps := by
  cases ps with
  | nil => exact absurd rfl h
  | cons q r => rfl

theorem soundR : ∀ f, (∀ l d rest, tmR f l = some (d, rest) → ∃ t, l = t ++ rest ∧ T t d ∧ (2 ≤ d.k → d.k ≤ 4 → folw rest = true)) ∧
    (∀ k n acc l d rest, 5 ≤ k → k ≤ 11 → lpR f k n acc l = some (d, rest) → ∃ ps, ps ≠ [] ∧ (∀ p ∈ ps, ∃ d, T p d) ∧ l = join ps ++ 41 :: rest ∧ d = ⟨k, n, [], acc ++ ps⟩ ∧ right k (acc ++ ps).length = true ∧ sorted k (acc ++ ps) = true) := by
  intro f
  induction f with
  | zero => exact ⟨fun l d rest h => (by rw [tmR_zero] at h; cases h), fun k n acc l d rest _ _ h => (by rw [lpR_zero] at h; cases h)⟩
  | succ f ih =>
    obtain ⟨ih1, ih2⟩ := ih
    refine ⟨fun l d rest h => ?_, fun k n acc l d rest h5 h11 h => ?_⟩
    · cases l with
      | nil => rw [tmR_nil] at h; cases h
      | cons c r =>
        rw [tmR_cons] at h
        split at h
        · cases h
        · rename_i h0
          obtain ⟨hc, hk1, hk11⟩ := kind_letter c h0
          split at h
          · rename_i h1
            simp only [Option.some.injEq, Prod.mk.injEq] at h
            obtain ⟨rfl, rfl⟩ := h
            rw [h1] at hc
            exact ⟨[48], by rw [hc]; rfl, .zero, fun h => absurd h (by decide)⟩
          · rename_i h1
            split at h
            · rename_i h4
              obtain ⟨t, rfl, ht, hf⟩ := leaf_sound (by omega) h4 h
              exact ⟨c :: t, rfl, by rw [← hc] at ht; exact ht, fun _ _ => hf⟩
            · rename_i h4
              cases r with
              | nil => cases h
              | cons o r1 =>
                by_cases ho : o = 40
                · simp only [ho, ↓reduceIte] at h
                  cases hh : headR (kindOf c) r1 with
                  | none => rw [hh] at h; cases h
                  | some q =>
                    obtain ⟨n, r2⟩ := q
                    rw [hh] at h
                    obtain ⟨e1, hn⟩ := head_sound (by omega) hk11 hh
                    simp only at h
                    split at h
                    · rename_i h11
                      simp only [Option.some.injEq, Prod.mk.injEq] at h
                      obtain ⟨rfl, rfl⟩ := h
                      obtain ⟨hk, h41⟩ := h11
                      cases r2 with
                      | nil => cases h41
                      | cons x r3 =>
                        simp at h41
                        subst h41
                        rw [hk] at hn hc e1
                        have := T.mk (k := 11) (n := n) (ps := []) (by omega) (by omega) hn rfl rfl (by simp)
                        refine ⟨_, ?_, this, fun _ h => absurd h (by simp)⟩
                        rw [hc, ho, e1]
                        simp [join]
                    · obtain ⟨ps, hne, hps, e2, rfl, hr, hs⟩ := ih2 _ _ _ _ _ _ (by omega) hk11 h
                      simp only [List.nil_append] at hr hs ⊢
                      refine ⟨_, ?_, T.mk (by omega) hk11 hn hr hs hps, fun _ h => absurd h h4⟩
                      rw [← hc, ho, e1, e2]
                      simp
                · simp [ho] at h
    · rw [lpR_succ] at h
      cases ht : tmR f l with
      | none => rw [ht] at h; cases h
      | some q =>
        obtain ⟨d1, rest1⟩ := q
        rw [ht] at h
        obtain ⟨p, e, hT, _⟩ := ih1 _ _ _ ht
        simp only at h
        cases rest1 with
        | nil => cases h
        | cons c r =>
          have epart : l.take (l.length - (c :: r).length) = p := by rw [e, take_part]
          simp only [epart] at h
          split at h
          · rename_i h41
            split at h
            · rename_i hrs
              simp only [Option.some.injEq, Prod.mk.injEq] at h
              obtain ⟨rfl, rfl⟩ := h
              simp only [Bool.and_eq_true] at hrs
              exact ⟨[p], by simp, by simpa using ⟨_, hT⟩, by rw [e, h41]; rfl, rfl, hrs.1, hrs.2⟩
            · cases h
          · split at h
            · rename_i h44
              obtain ⟨ps, hne, hps, e2, rfl, hr, hs⟩ := ih2 _ _ _ _ _ _ h5 h11 h
              refine ⟨p :: ps, by simp, ?_, ?_, by simp, by simpa using hr, by simpa using hs⟩
              · intro q hq
                simp only [List.mem_cons] at hq
                rcases hq with rfl | hq
                · exact ⟨_, hT⟩
                · exact hps q hq
              · rw [e, h44, join_cons p ps hne, e2]
                simp
            · cases h

theorem stop_all {d : Txt} (h : d.all dig = true) : ∀ c ∈ d, stop c = false := fun c hc => stop_dig (List.all_eq_true.1 h c hc)
theorem stop_allx {d : Txt} (h : d.all isHex = true) : ∀ c ∈ d, stop c = false := fun c hc => stop_hex (List.all_eq_true.1 h c hc)

theorem head_full {k n : Nat} (h5 : 5 ≤ k) (h11 : k ≤ 11) (hn : nOk k n = true) (r : Txt) : headR k (pre k n ++ r) = some (n, r) := by
  by_cases hk : numbered k = true
  · have e : k = 8 ∨ k = 10 := by simpa [numbered] using hk
    rw [headR, if_pos hk, pre, if_pos hk, List.append_assoc]
    obtain ⟨w1, w2⟩ := word_app (d := dec n) (rest := [44] ++ r) (stop_all (dec_all n)) rfl
    rw [w1, w2]
    have hm : n ≤ most := by
      rcases e with rfl | rfl
      · simp [nOk] at hn; unfold most; omega
      · simpa [nOk] using hn
    have hc : (isNum (dec n) && decide (val (dec n) ≤ most) && !(k == 8 && (decide (val (dec n) < 1) || decide (3 < val (dec n))))) = true := by
      rw [isNum_dec, val_dec]
      rcases e with rfl | rfl
      · simp [nOk] at hn
        simp [hm]
        omega
      · simp [hm]
    rw [if_pos hc, val_dec]
    rfl
  · rw [headR, if_neg hk, pre, if_neg hk]
    have e : ¬ (k = 8 ∨ k = 10) := by simpa [numbered] using hk
    unfold nOk at hn
    rw [if_neg (fun q => e (.inl q)), if_neg (fun q => e (.inr q))] at hn
    simp at hn
    subst hn
    rfl

theorem lp_full (k n : Nat) (rest : Txt) : ∀ (ps acc : List Txt) (f : Nat), (∀ p ∈ ps, ∃ d, ∀ (r : Txt) (f : Nat), folw r = true → 2 * p.length ≤ f → tmR f (p ++ r) = some (d, r)) → ps ≠ [] → 2 * (join ps).length + 1 ≤ f →
    lpR f k n acc (join ps ++ 41 :: rest) = if right k (acc ++ ps).length && sorted k (acc ++ ps) then some (⟨k, n, [], acc ++ ps⟩, rest) else none := by
  intro ps
  induction ps with
  | nil => intro acc f _ h; exact absurd rfl h
  | cons p ps ih =>
    intro acc f hp _ hf
    obtain ⟨f, rfl⟩ : ∃ g, f = g + 1 := ⟨f - 1, by omega⟩
    obtain ⟨d, hd⟩ := hp p (by simp)
    by_cases he : ps = []
    · subst he
      have e := hd (41 :: rest) f rfl (by simp [join] at hf; omega)
      have j1 : join [p] = p := rfl
      rw [lpR_succ, j1, e]
      simp only
      rw [take_part]
      simp
    · have jl : (join (p :: ps)).length = p.length + (join ps).length + 1 := by rw [join_cons p ps he]; simp; omega
      have e := hd (44 :: (join ps ++ 41 :: rest)) f rfl (by omega)
      have ej : join (p :: ps) ++ 41 :: rest = p ++ 44 :: (join ps ++ 41 :: rest) := by rw [join_cons p ps he]; simp
      rw [lpR_succ, ej, e]
      simp only
      rw [take_part, if_neg (by decide)]
      simp only [↓reduceIte]
      rw [ih (acc ++ [p]) f (fun q hq => hp q (by simp [hq])) he (by omega)]
      simp

theorem fullR {t : Txt} {d : Nd} (h : T t d) : ∀ (rest : Txt) (f : Nat), folw rest = true → 2 * t.length ≤ f → tmR f (t ++ rest) = some (d, rest) := by
  induction h with
  | zero =>
    intro rest f _ hf
    obtain ⟨f, rfl⟩ : ∃ g, f = g + 1 := ⟨f - 1, by simp at hf; omega⟩
    show tmR (f + 1) (48 :: rest) = _
    rw [tmR_cons, if_neg (by decide), if_pos (by decide)]
  | atom n hn =>
    intro rest f hr hf
    obtain ⟨f, rfl⟩ : ∃ g, f = g + 1 := ⟨f - 1, by simp at hf; omega⟩
    show tmR (f + 1) (97 :: (dec n ++ rest)) = _
    obtain ⟨w1, w2⟩ := word_app (stop_all (dec_all n)) hr
    have k2 : kindOf 97 = 2 := by decide
    rw [tmR_cons, k2, if_neg (by decide), if_neg (by decide), if_pos (by decide), leafR, w1, w2, isNum_dec, val_dec, if_neg (by decide), if_pos (by simp; unfold most; omega)]
  | num n hn =>
    intro rest f hr hf
    obtain ⟨f, rfl⟩ : ∃ g, f = g + 1 := ⟨f - 1, by simp at hf; omega⟩
    show tmR (f + 1) (110 :: (dec n ++ rest)) = _
    obtain ⟨w1, w2⟩ := word_app (stop_all (dec_all n)) hr
    have k2 : kindOf 110 = 3 := by decide
    rw [tmR_cons, k2, if_neg (by decide), if_neg (by decide), if_pos (by decide), leafR, w1, w2, isNum_dec, val_dec, if_neg (by decide), if_pos (by simp; omega)]
  | data b =>
    intro rest f hr hf
    obtain ⟨f, rfl⟩ : ∃ g, f = g + 1 := ⟨f - 1, by simp at hf; omega⟩
    show tmR (f + 1) (120 :: (hexs b ++ rest)) = _
    obtain ⟨w1, w2⟩ := word_app (stop_allx (hexs_all b)) hr
    have k2 : kindOf 120 = 4 := by decide
    rw [tmR_cons, k2, if_neg (by decide), if_neg (by decide), if_pos (by decide), leafR, w1, w2, if_pos rfl, hexs_all, hexs_len, unhex_hexs, if_pos (by simp)]
  | node k n ps h5 h11 hn hr hs g hp ih =>
    intro rest f hrest hf
    obtain ⟨f, rfl⟩ : ∃ g, f = g + 1 := ⟨f - 1, by simp at hf; omega⟩
    have e : letter k :: 40 :: (pre k n ++ (join ps ++ [41])) ++ rest = letter k :: 40 :: (pre k n ++ (join ps ++ 41 :: rest)) := by simp
    rw [e, tmR_cons, letter_kind k (by omega) h11, if_neg (by omega), if_neg (by omega), if_neg (by omega)]
    simp only [↓reduceIte, head_full h5 h11 hn]
    by_cases he : ps = []
    · subst he
      have hk : k = 11 := by
        unfold right at hr
        have : k = 5 ∨ k = 6 ∨ k = 7 ∨ k = 8 ∨ k = 9 ∨ k = 10 ∨ k = 11 := by omega
        rcases this with rfl | rfl | rfl | rfl | rfl | rfl | rfl <;> simp at hr ⊢
      subst hk
      simp [join]
    · have hh : ¬ (k = 11 ∧ (join ps ++ 41 :: rest).head? = some 41) := by
        rintro ⟨rfl, h41⟩
        cases ps with
        | nil => exact he rfl
        | cons p ps =>
          obtain ⟨c, r, e1, e2, e3, _⟩ := T.ne (hp p (by simp))
          have : (join (p :: ps) ++ 41 :: rest).head? = some c := by
            cases ps with
            | nil => rw [join, e1]; rfl
            | cons q r' => rw [join, e1]; rfl
          rw [this] at h41
          simp at h41
          subst h41
          rw [show kindOf 41 = 0 from by decide] at e2
          omega
      rw [if_neg hh, lp_full k n rest ps [] f (fun p hp' => ⟨g p, fun r f' h1 h2 => ih p hp' r f' h1 h2⟩) he (by simp at hf; omega)]
      simp [hr, hs]

/-- What is read of a text as a whole. -/
def rdT (t : Txt) : Option Nd := if t.length ≤ 65536 then (match tmR (2 * t.length + 2) t with | some (d, []) => some d | _ => none) else none

theorem rdT_iff {t : Txt} {d : Nd} : rdT t = some d ↔ T t d ∧ t.length ≤ 65536 := by
  unfold rdT
  constructor
  · intro h
    split at h
    · rename_i hl
      split at h
      · rename_i d' e
        cases h
        obtain ⟨t', e1, hT, _⟩ := (soundR _).1 _ _ _ e
        rw [List.append_nil] at e1
        exact ⟨e1 ▸ hT, hl⟩
      · cases h
    · cases h
  · rintro ⟨hT, hl⟩
    have := fullR hT [] (2 * t.length + 2) rfl (by omega)
    rw [List.append_nil] at this
    rw [if_pos hl, this]

end Go.Proofs.Ytbjnejnjlidiaaa.tmB
namespace Go.Proofs.Ytbjnejnjlidiaaa.tmC
open numA numB numC numE tmA tmB
set_option linter.unusedVariables false
set_option linter.unusedSimpArgs false

def least (k : Nat) : Nat := if k = 5 ∨ k = 7 then 1 else if k = 10 then 3 else if k = 11 then 0 else 2
def mostk (k : Nat) : Nat := if k = 5 then 1 else if k = 7 ∨ k = 11 then 65536 else if k = 10 then 3 else 2
def lowk (k : Nat) : Nat := if k = 8 then 1 else 0
def highk (k : Nat) : Nat := if k = 8 then 3 else if k = 10 then most else 0

def numOf (lo hi : Nat) (l : Txt) : Option (Nat × Txt) :=
  if isNum (l.takeWhile dig) && decide (val (l.takeWhile dig) ≤ most) && decide (lo ≤ val (l.takeWhile dig)) && decide (val (l.takeWhile dig) ≤ hi) then some (val (l.takeWhile dig), l.dropWhile dig) else none
def datOf (l : Txt) : Option Txt := if (l.takeWhile isHex).length % 2 = 0 then some (l.dropWhile isHex) else none

def headOf (k : Nat) (l : Txt) : Option (Nat × Txt) :=
  if numbered k then (match numOf (lowk k) (highk k) l with
    | none => none
    | some (n, r) => (match r with
      | [] => none
      | c :: r' => if c = 44 then some (n, r') else none))
  else some (0, l)

mutual
def tmC : Nat → Txt → Option (Nat × Nat × List Txt × Txt)
  | 0, _ => none
  | _ + 1, [] => none
  | f + 1, c :: r =>
    if kindOf c = 0 then none
    else if kindOf c = 1 then some (1, 0, [], r)
    else if kindOf c = 2 then (match numOf 0 4294967295 r with | none => none | some (n, r2) => some (2, n, [], r2))
    else if kindOf c = 3 then (match numOf 0 most r with | none => none | some (n, r2) => some (3, n, [], r2))
    else if kindOf c = 4 then (match datOf r with | none => none | some r2 => some (4, 0, [], r2))
    else (match insC f (kindOf c) r with | none => none | some (n, ps, rest) => some (kindOf c, n, ps, rest))
def insC : Nat → Nat → Txt → Option (Nat × List Txt × Txt)
  | 0, _, _ => none
  | _ + 1, _, [] => none
  | f + 1, k, o :: r1 => if o = 40 then (match headOf k r1 with
      | none => none
      | some (n, r2) => if k = 11 ∧ r2.head? = some 41 then some (n, [], r2.tail) else (match lpC f k [] r2 with | none => none | some (ps, rest) => some (n, ps, rest)))
    else none
def lpC : Nat → Nat → List Txt → Txt → Option (List Txt × Txt)
  | 0, _, _, _ => none
  | f + 1, k, acc, l => match tmC f l with
    | none => none
    | some (_, _, _, rest) =>
      if k = 6 ∧ 0 < acc.length ∧ gt (acc.getLastD []) (l.take (l.length - rest.length)) = true then none
      else if acc.length + 1 < mostk k ∧ rest.head? = some 44 then lpC f k (acc ++ [l.take (l.length - rest.length)]) rest.tail
      else if acc.length + 1 < least k then none
      else if rest.head? = some 41 then some (acc ++ [l.take (l.length - rest.length)], rest.tail)
      else none
end

theorem tmC_zero (l : Txt) : tmC 0 l = none := by rw [tmC.eq_def]
theorem tmC_nil (f : Nat) : tmC f [] = none := by rw [tmC.eq_def]; cases f <;> rfl
theorem tmC_cons (f : Nat) (c : UInt8) (r : Txt) : tmC (f + 1) (c :: r) = (if kindOf c = 0 then none
    else if kindOf c = 1 then some (1, 0, [], r)
    else if kindOf c = 2 then (match numOf 0 4294967295 r with | none => none | some (n, r2) => some (2, n, [], r2))
    else if kindOf c = 3 then (match numOf 0 most r with | none => none | some (n, r2) => some (3, n, [], r2))
    else if kindOf c = 4 then (match datOf r with | none => none | some r2 => some (4, 0, [], r2))
    else (match insC f (kindOf c) r with | none => none | some (n, ps, rest) => some (kindOf c, n, ps, rest))) := by rw [tmC.eq_def]
theorem insC_zero (k : Nat) (l : Txt) : insC 0 k l = none := by rw [insC.eq_def]
theorem insC_nil (f k : Nat) : insC f k [] = none := by rw [insC.eq_def]; cases f <;> rfl
theorem insC_cons (f k : Nat) (o : UInt8) (r1 : Txt) : insC (f + 1) k (o :: r1) = (if o = 40 then (match headOf k r1 with
      | none => none
      | some (n, r2) => if k = 11 ∧ r2.head? = some 41 then some (n, [], r2.tail) else (match lpC f k [] r2 with | none => none | some (ps, rest) => some (n, ps, rest)))
    else none) := by rw [insC.eq_def]
theorem lpC_zero (k : Nat) (acc : List Txt) (l : Txt) : lpC 0 k acc l = none := by rw [lpC.eq_def]
theorem lpC_succ (f k : Nat) (acc : List Txt) (l : Txt) : lpC (f + 1) k acc l = (match tmC f l with
    | none => none
    | some (_, _, _, rest) =>
      if k = 6 ∧ 0 < acc.length ∧ gt (acc.getLastD []) (l.take (l.length - rest.length)) = true then none
      else if acc.length + 1 < mostk k ∧ rest.head? = some 44 then lpC f k (acc ++ [l.take (l.length - rest.length)]) rest.tail
      else if acc.length + 1 < least k then none
      else if rest.head? = some 41 then some (acc ++ [l.take (l.length - rest.length)], rest.tail)
      else none) := by rw [lpC.eq_def]

theorem span_app {p : UInt8 → Bool} {d rest : Txt} (h : d.all p = true) (hs : ∀ c, p c = true → stop c = false) (hf : folw rest = true) : (d ++ rest).takeWhile p = d ∧ (d ++ rest).dropWhile p = rest := by
  have hr : ∀ c r, rest = c :: r → p c = false := by
    intro c r e
    subst e
    simp [folw] at hf
    cases hp : p c with
    | false => rfl
    | true => rw [hs c hp] at hf; cases hf
  have e1 : rest.takeWhile p = [] := by
    cases rest with
    | nil => rfl
    | cons c r => simp [hr c r rfl]
  have e2 : rest.dropWhile p = rest := by
    cases rest with
    | nil => rfl
    | cons c r => simp [hr c r rfl]
  refine ⟨?_, ?_⟩
  · rw [List.takeWhile_append_of_pos (List.all_eq_true.1 h), e1, List.append_nil]
  · rw [List.dropWhile_append_of_pos (List.all_eq_true.1 h), e2]

theorem num_sound {lo hi : Nat} {l : Txt} {n : Nat} {r : Txt} (h : numOf lo hi l = some (n, r)) : l = dec n ++ r ∧ lo ≤ n ∧ n ≤ hi ∧ n ≤ most := by
  unfold numOf at h
  split at h
  · rename_i hc
    simp only [Bool.and_eq_true, decide_eq_true_eq] at hc
    obtain ⟨⟨⟨h1, hm⟩, h2⟩, h3⟩ := hc
    simp only [Option.some.injEq, Prod.mk.injEq] at h
    obtain ⟨rfl, rfl⟩ := h
    exact ⟨by rw [dec_val _ _ rfl h1, List.takeWhile_append_dropWhile], h2, h3, hm⟩
  · cases h

theorem num_full {lo hi n : Nat} (h1 : lo ≤ n) (h2 : n ≤ hi) (hm : n ≤ most) {r : Txt} (hf : folw r = true) : numOf lo hi (dec n ++ r) = some (n, r) := by
  obtain ⟨w1, w2⟩ := span_app (dec_all n) (fun c => stop_dig) hf
  unfold numOf
  rw [w1, w2, isNum_dec, val_dec, if_pos (by simp [h1, h2, hm])]

theorem headC_sound {k : Nat} {l : Txt} {n : Nat} {r2 : Txt} (h5 : 5 ≤ k) (h11 : k ≤ 11) (h : headOf k l = some (n, r2)) : l = pre k n ++ r2 ∧ nOk k n = true := by
  unfold headOf at h
  split at h
  · rename_i hk
    have e : k = 8 ∨ k = 10 := by simpa [numbered] using hk
    cases hn : numOf (lowk k) (highk k) l with
    | none => rw [hn] at h; cases h
    | some q =>
      obtain ⟨n', r⟩ := q
      rw [hn] at h
      obtain ⟨e1, h1, h2, hm⟩ := num_sound hn
      cases r with
      | nil => cases h
      | cons c r' =>
        by_cases hc : c = 44
        · simp only [hc, ↓reduceIte, Option.some.injEq, Prod.mk.injEq] at h
          obtain ⟨rfl, rfl⟩ := h
          refine ⟨by rw [e1, pre, if_pos hk, hc]; simp, ?_⟩
          rcases e with rfl | rfl
          · simp [lowk, highk] at h1 h2
            simp [nOk]
            omega
          · simpa [nOk] using hm
        · simp [hc] at h
  · rename_i hk
    simp only [Option.some.injEq, Prod.mk.injEq] at h
    obtain ⟨rfl, rfl⟩ := h
    have e : ¬ (k = 8 ∨ k = 10) := by simpa [numbered] using hk
    refine ⟨by rw [pre, if_neg hk]; rfl, ?_⟩
    unfold nOk
    rw [if_neg (fun q => e (.inl q)), if_neg (fun q => e (.inr q))]
    rfl

theorem headC_full {k n : Nat} (h5 : 5 ≤ k) (h11 : k ≤ 11) (hn : nOk k n = true) (r : Txt) : headOf k (pre k n ++ r) = some (n, r) := by
  by_cases hk : numbered k = true
  · have e : k = 8 ∨ k = 10 := by simpa [numbered] using hk
    rw [headOf, if_pos hk, pre, if_pos hk, List.append_assoc]
    have hb : lowk k ≤ n ∧ n ≤ highk k ∧ n ≤ most := by
      rcases e with rfl | rfl
      · simp [nOk] at hn; simp [lowk, highk]; unfold most; omega
      · simp [nOk] at hn; simp [lowk, highk]; omega
    rw [num_full hb.1 hb.2.1 hb.2.2 (r := [44] ++ r) rfl]
    rfl
  · rw [headOf, if_neg hk, pre, if_neg hk]
    have e : ¬ (k = 8 ∨ k = 10) := by simpa [numbered] using hk
    unfold nOk at hn
    rw [if_neg (fun q => e (.inl q)), if_neg (fun q => e (.inr q))] at hn
    simp at hn
    subst hn
    rfl

theorem right_of {k n : Nat} (h5 : 5 ≤ k) (h11 : k ≤ 11) (h1 : least k ≤ n) (h2 : n ≤ mostk k) : right k n = true := by
  have e : k = 5 ∨ k = 6 ∨ k = 7 ∨ k = 8 ∨ k = 9 ∨ k = 10 ∨ k = 11 := by omega
  rcases e with rfl | rfl | rfl | rfl | rfl | rfl | rfl <;> simp [least, mostk] at h1 h2 <;> simp [right] <;> omega

theorem of_right {k n : Nat} (h5 : 5 ≤ k) (h11 : k ≤ 11) (h : right k n = true) (hn : n ≤ 65536) : least k ≤ n ∧ n ≤ mostk k := by
  have e : k = 5 ∨ k = 6 ∨ k = 7 ∨ k = 8 ∨ k = 9 ∨ k = 10 ∨ k = 11 := by omega
  rcases e with rfl | rfl | rfl | rfl | rfl | rfl | rfl <;> simp [right] at h <;> simp [least, mostk] <;> omega

theorem soundC : ∀ f, (∀ l k n ps rest, tmC f l = some (k, n, ps, rest) → folw rest = true → ∃ t d, l = t ++ rest ∧ T t d ∧ d.k = k ∧ d.n = n ∧ d.ps = ps) ∧
    (∀ k l n ps rest, 5 ≤ k → k ≤ 11 → insC f k l = some (n, ps, rest) → ∃ s, l = s ++ rest ∧ T (letter k :: s) ⟨k, n, [], ps⟩) ∧
    (∀ k acc l ps rest, 5 ≤ k → k ≤ 11 → acc.length < mostk k → lpC f k acc l = some (ps, rest) → ∃ qs, qs ≠ [] ∧ (∀ p ∈ qs, ∃ d, T p d) ∧ l = join qs ++ 41 :: rest ∧ ps = acc ++ qs ∧ least k ≤ ps.length ∧ ps.length ≤ mostk k ∧
      (k = 6 → acc = [] → gt (ps.getD 0 []) (ps.getD 1 []) = false) ∧ (k = 6 → ∀ a, acc = [a] → gt a (ps.getD 1 []) = false)) := by
  intro f
  induction f with
  | zero => exact ⟨fun l k n ps rest h => (by rw [tmC_zero] at h; cases h), fun k l n ps rest _ _ h => (by rw [insC_zero] at h; cases h), fun k acc l ps rest _ _ _ h => (by rw [lpC_zero] at h; cases h)⟩
  | succ f ih =>
    obtain ⟨ih1, ih2, ih3⟩ := ih
    refine ⟨fun l k n ps rest h hf => ?_, fun k l n ps rest h5 h11 h => ?_, fun k acc l ps rest h5 h11 hacc h => ?_⟩
    · cases l with
      | nil => rw [tmC_nil] at h; cases h
      | cons c r =>
        rw [tmC_cons] at h
        split at h
        · cases h
        rename_i h0
        obtain ⟨hc, hk1, hk11⟩ := kind_letter c h0
        split at h
        · rename_i h1
          simp only [Option.some.injEq, Prod.mk.injEq] at h
          obtain ⟨rfl, rfl, rfl, rfl⟩ := h
          rw [h1] at hc
          exact ⟨[48], _, by rw [hc]; rfl, .zero, rfl, rfl, rfl⟩
        rename_i h1
        split at h
        · rename_i h2
          cases hn : numOf 0 4294967295 r with
          | none => rw [hn] at h; cases h
          | some q =>
            obtain ⟨n', r2⟩ := q
            rw [hn] at h
            simp only [Option.some.injEq, Prod.mk.injEq] at h
            obtain ⟨rfl, rfl, rfl, rfl⟩ := h
            obtain ⟨e1, _, hb, _⟩ := num_sound hn
            rw [h2] at hc
            exact ⟨_, _, by rw [hc, e1]; rfl, T.atom n' hb, rfl, rfl, rfl⟩
        rename_i h2
        split at h
        · rename_i h3
          cases hn : numOf 0 most r with
          | none => rw [hn] at h; cases h
          | some q =>
            obtain ⟨n', r2⟩ := q
            rw [hn] at h
            simp only [Option.some.injEq, Prod.mk.injEq] at h
            obtain ⟨rfl, rfl, rfl, rfl⟩ := h
            obtain ⟨e1, _, hb, _⟩ := num_sound hn
            rw [h3] at hc
            exact ⟨_, _, by rw [hc, e1]; rfl, T.num n' hb, rfl, rfl, rfl⟩
        rename_i h3
        split at h
        · rename_i h4
          unfold datOf at h
          by_cases hev : (r.takeWhile isHex).length % 2 = 0
          · rw [if_pos hev] at h
            simp only [Option.some.injEq, Prod.mk.injEq] at h
            obtain ⟨rfl, rfl, rfl, rfl⟩ := h
            rw [h4] at hc
            have := T.data (unhex (r.takeWhile isHex))
            rw [hexs_unhex _ _ (Nat.le_refl _) List.all_takeWhile hev] at this
            exact ⟨_, _, by rw [hc]; show letter 4 :: r = letter 4 :: (r.takeWhile isHex ++ r.dropWhile isHex); rw [List.takeWhile_append_dropWhile], this, rfl, rfl, rfl⟩
          · rw [if_neg hev] at h; cases h
        rename_i h4
        cases hi : insC f (kindOf c) r with
        | none => rw [hi] at h; cases h
        | some q =>
          obtain ⟨n', ps', rest'⟩ := q
          rw [hi] at h
          simp only [Option.some.injEq, Prod.mk.injEq] at h
          obtain ⟨rfl, rfl, rfl, rfl⟩ := h
          obtain ⟨s, e1, hT⟩ := ih2 _ _ _ _ _ (by omega) hk11 hi
          exact ⟨_, _, by rw [e1, List.cons_append], by rw [← hc] at hT; exact hT, rfl, rfl, rfl⟩
    · cases l with
      | nil => rw [insC_nil] at h; cases h
      | cons o r1 =>
        rw [insC_cons] at h
        by_cases ho : o = 40
        · rw [if_pos ho] at h
          cases hh : headOf k r1 with
          | none => rw [hh] at h; cases h
          | some q =>
            obtain ⟨n', r2⟩ := q
            rw [hh] at h
            obtain ⟨e1, hn⟩ := headC_sound h5 h11 hh
            simp only at h
            split at h
            · rename_i hk
              obtain ⟨hk, h41⟩ := hk
              simp only [Option.some.injEq, Prod.mk.injEq] at h
              obtain ⟨rfl, rfl, rfl⟩ := h
              cases r2 with
              | nil => cases h41
              | cons x r3 =>
                simp at h41
                subst h41 hk
                refine ⟨_, ?_, T.mk (k := 11) (n := n') (ps := []) (by omega) (by omega) hn rfl rfl (by simp)⟩
                rw [ho, e1]
                simp [join]
            · cases hl : lpC f k [] r2 with
              | none => rw [hl] at h; cases h
              | some q =>
                obtain ⟨ps', rest'⟩ := q
                rw [hl] at h
                simp only [Option.some.injEq, Prod.mk.injEq] at h
                obtain ⟨rfl, rfl, rfl⟩ := h
                obtain ⟨qs, hne, hq, e2, e3, g1, g2, g3, _⟩ := ih3 _ _ _ _ _ h5 h11 (by unfold mostk; simp; split <;> first | omega | (split <;> first | omega | (split <;> omega))) hl
                rw [List.nil_append] at e3
                subst e3
                refine ⟨_, ?_, T.mk h5 h11 hn (right_of h5 h11 g1 g2) ?_ hq⟩
                · rw [ho, e1, e2]
                  simp
                · unfold sorted
                  by_cases h6 : k = 6
                  · rw [g3 h6 rfl]
                    simp
                  · simp [h6]
        · rw [if_neg ho] at h; cases h
    · rw [lpC_succ] at h
      cases ht : tmC f l with
      | none => rw [ht] at h; cases h
      | some q =>
        obtain ⟨k1, n1, ps1, rest1⟩ := q
        rw [ht] at h
        simp only at h
        split at h
        · cases h
        rename_i hsort
        have key : folw rest1 = true → ∃ p, l = p ++ rest1 ∧ (∃ d, T p d) ∧ l.take (l.length - rest1.length) = p := fun hf => by
          obtain ⟨p, d, e1, hT, _⟩ := ih1 _ _ _ _ _ ht hf
          exact ⟨p, e1, ⟨d, hT⟩, by rw [e1, take_part]⟩
        split at h
        · rename_i hc
          obtain ⟨hlt, h44⟩ := hc
          cases rest1 with
          | nil => cases h44
          | cons x r =>
            simp at h44
            subst h44
            obtain ⟨p, e1, hT, ep⟩ := key rfl
            rw [ep] at h hsort
            obtain ⟨qs, hne, hq, e2, e3, g1, g2, g3, g4⟩ := ih3 _ _ _ _ _ h5 h11 (by simp; omega) h
            refine ⟨p :: qs, by simp, ?_, ?_, by rw [e3]; simp, g1, g2, fun h6 ha => ?_, fun h6 a ha => ?_⟩
            · intro q hq'
              simp only [List.mem_cons] at hq'
              rcases hq' with rfl | hq'
              · exact hT
              · exact hq q hq'
            · rw [e1, join_cons p qs hne]
              simp only [List.tail_cons] at e2
              rw [e2]
              simp
            · subst ha
              have := g4 h6 p rfl
              rw [e3] at this ⊢
              simpa using this
            · subst h6 ha
              simp [mostk] at hlt
        · split at h
          · cases h
          rename_i hmid hle
          split at h
          · rename_i h41
            simp only [Option.some.injEq, Prod.mk.injEq] at h
            obtain ⟨rfl, rfl⟩ := h
            cases rest1 with
            | nil => cases h41
            | cons x r =>
              simp at h41
              subst h41
              obtain ⟨p, e1, hT, ep⟩ := key rfl
              rw [ep] at hsort ⊢
              refine ⟨[p], by simp, by simpa using hT, by rw [e1]; rfl, rfl, by simp; omega, by simp; omega, fun h6 ha => ?_, fun h6 a ha => ?_⟩
              · subst h6 ha
                simp [least] at hle
              · subst ha
                by_cases hg : gt a p = true
                · exact absurd ⟨h6, by simp, by simpa using hg⟩ hsort
                · simpa using hg
          · cases h

theorem join_len : ∀ ps : List Txt, (∀ p ∈ ps, p ≠ []) → ps.length ≤ (join ps).length
  | [], _ => Nat.le_refl _
  | [p], h => by
    have : 0 < p.length := List.length_pos_iff.2 (h p (by simp))
    simp [join]
    omega
  | p :: q :: r, h => by
    have := join_len (q :: r) fun x hx => h x (by simp [hx])
    rw [join_cons p (q :: r) (by simp)]
    simp at this ⊢
    omega

theorem lpC_full (k : Nat) (rest : Txt) (h5 : 5 ≤ k) : ∀ (ps acc : List Txt) (f : Nat), (∀ p ∈ ps, ∃ k n qs, ∀ (r : Txt) (f : Nat), folw r = true → 2 * p.length ≤ f → tmC f (p ++ r) = some (k, n, qs, r)) → ps ≠ [] → 2 * (join ps).length + 1 ≤ f →
    least k ≤ (acc ++ ps).length → (acc ++ ps).length ≤ mostk k → (k = 6 → gt ((acc ++ ps).getD 0 []) ((acc ++ ps).getD 1 []) = false) → lpC f k acc (join ps ++ 41 :: rest) = some (acc ++ ps, rest) := by
  intro ps
  induction ps with
  | nil => intro acc f _ h; exact absurd rfl h
  | cons p ps ih =>
    intro acc f hp _ hf h1 h2 hs
    obtain ⟨f, rfl⟩ : ∃ g, f = g + 1 := ⟨f - 1, by omega⟩
    obtain ⟨k1, n1, qs1, hd⟩ := hp p (by simp)
    have hsort : ¬ (k = 6 ∧ 0 < acc.length ∧ gt (acc.getLastD []) p = true) := by
      rintro ⟨rfl, ha, hg⟩
      have h3 := hs rfl
      have hl : (acc ++ p :: ps).length ≤ 2 := by simpa [mostk] using h2
      match acc, ha with
      | [a], _ => simp at h3 hg; rw [hg] at h3; cases h3
      | a :: b :: r, _ => simp at hl
    by_cases he : ps = []
    · subst he
      have e := hd (41 :: rest) f rfl (by simp [join] at hf; omega)
      have j1 : join [p] = p := rfl
      rw [lpC_succ, j1, e]
      simp only
      rw [take_part, if_neg hsort, if_neg (by simp), if_neg (by simp at h1; omega)]
      simp
    · have jl : (join (p :: ps)).length = p.length + (join ps).length + 1 := by rw [join_cons p ps he]; simp; omega
      have e := hd (44 :: (join ps ++ 41 :: rest)) f rfl (by omega)
      have ej : join (p :: ps) ++ 41 :: rest = p ++ 44 :: (join ps ++ 41 :: rest) := by rw [join_cons p ps he]; simp
      have hpos : 0 < ps.length := List.length_pos_iff.2 he
      rw [lpC_succ, ej, e]
      simp only
      rw [take_part, if_neg hsort, if_pos ⟨by simp at h2; omega, rfl⟩]
      simp only [List.tail_cons]
      rw [ih (acc ++ [p]) f (fun q hq => hp q (by simp [hq])) he (by omega) (by simpa using h1) (by simpa using h2) (by simpa using hs)]
      simp

theorem fullC {t : Txt} {d : Nd} (h : T t d) : ∀ (rest : Txt) (f : Nat), t.length ≤ 65536 → folw rest = true → 2 * t.length ≤ f → tmC f (t ++ rest) = some (d.k, d.n, d.ps, rest) := by
  induction h with
  | zero =>
    intro rest f _ _ hf
    obtain ⟨f, rfl⟩ : ∃ g, f = g + 1 := ⟨f - 1, by simp at hf; omega⟩
    show tmC (f + 1) (48 :: rest) = _
    rw [tmC_cons, if_neg (by decide), if_pos (by decide)]
  | atom n hn =>
    intro rest f _ hr hf
    obtain ⟨f, rfl⟩ : ∃ g, f = g + 1 := ⟨f - 1, by simp at hf; omega⟩
    show tmC (f + 1) (97 :: (dec n ++ rest)) = _
    have k2 : kindOf 97 = 2 := by decide
    rw [tmC_cons, k2, if_neg (by decide), if_neg (by decide), if_pos rfl, num_full (Nat.zero_le _) hn (by unfold most; omega) hr]
  | num n hn =>
    intro rest f _ hr hf
    obtain ⟨f, rfl⟩ : ∃ g, f = g + 1 := ⟨f - 1, by simp at hf; omega⟩
    show tmC (f + 1) (110 :: (dec n ++ rest)) = _
    have k2 : kindOf 110 = 3 := by decide
    rw [tmC_cons, k2, if_neg (by decide), if_neg (by decide), if_neg (by decide), if_pos rfl, num_full (Nat.zero_le _) hn hn hr]
  | data b =>
    intro rest f _ hr hf
    obtain ⟨f, rfl⟩ : ∃ g, f = g + 1 := ⟨f - 1, by simp at hf; omega⟩
    show tmC (f + 1) (120 :: (hexs b ++ rest)) = _
    have k2 : kindOf 120 = 4 := by decide
    obtain ⟨w1, w2⟩ := span_app (hexs_all b) (fun c => stop_hex) hr
    rw [tmC_cons, k2, if_neg (by decide), if_neg (by decide), if_neg (by decide), if_neg (by decide), if_pos rfl, datOf, w1, w2, hexs_len, if_pos (by simp)]
  | node k n ps h5 h11 hn hr hs g hp ih =>
    intro rest f hlen hrest hf
    obtain ⟨f, rfl⟩ : ∃ g, f = g + 1 := ⟨f - 1, by simp at hf; omega⟩
    obtain ⟨f, rfl⟩ : ∃ g, f = g + 1 := ⟨f - 1, by simp at hf; omega⟩
    have e : letter k :: 40 :: (pre k n ++ (join ps ++ [41])) ++ rest = letter k :: 40 :: (pre k n ++ (join ps ++ 41 :: rest)) := by simp
    rw [e, tmC_cons, letter_kind k (by omega) h11, if_neg (by omega), if_neg (by omega), if_neg (by omega), if_neg (by omega), if_neg (by omega), insC_cons, if_pos rfl, headC_full h5 h11 hn]
    simp only
    have hjl := join_len ps fun p hpp => by
      obtain ⟨c, r, e1, _⟩ := T.ne (hp p hpp)
      rw [e1]
      simp
    obtain ⟨g1, g2⟩ := of_right h5 h11 hr (by simp at hlen; omega)
    by_cases he : ps = []
    · subst he
      have hk : k = 11 := by
        have : k = 5 ∨ k = 6 ∨ k = 7 ∨ k = 8 ∨ k = 9 ∨ k = 10 ∨ k = 11 := by omega
        rcases this with rfl | rfl | rfl | rfl | rfl | rfl | rfl <;> simp [least] at g1 ⊢
      subst hk
      simp [join]
    · have hh : ¬ (k = 11 ∧ (join ps ++ 41 :: rest).head? = some 41) := by
        rintro ⟨rfl, h41⟩
        cases ps with
        | nil => exact he rfl
        | cons p ps =>
          obtain ⟨c, r, e1, e2, e3, _⟩ := T.ne (hp p (by simp))
          have : (join (p :: ps) ++ 41 :: rest).head? = some c := by
            cases ps with
            | nil => rw [join, e1]; rfl
            | cons q r' => rw [join, e1]; rfl
          rw [this] at h41
          simp at h41
          subst h41
          rw [show kindOf 41 = 0 from by decide] at e2
          omega
      have hin : ∀ p ∈ ps, p.length ≤ (join ps).length := by
        clear e hjl g1 g2 he hh hf hlen hr hs ih hp
        intro p hpp
        induction ps with
        | nil => cases hpp
        | cons q r ih2 =>
          by_cases hr : r = []
          · subst hr
            simp at hpp
            subst hpp
            exact Nat.le_refl _
          · rw [join_cons q r hr]
            simp only [List.mem_cons] at hpp
            rcases hpp with rfl | hpp
            · simp
            · have := ih2 hpp
              simp
              omega
      rw [if_neg hh, lpC_full k rest h5 ps [] f (fun p hp' => ⟨_, _, _, fun r f' h1 h2 => ih p hp' r f' (by have := hin p hp'; simp at hlen; omega) h1 h2⟩) he (by simp at hf; omega) (by simpa using g1) (by simpa using g2) (fun h6 => by
        subst h6
        simpa [sorted] using hs)]
      simp

theorem parseC {t : Txt} {f : Nat} (h : t.length ≤ 65536) (hf : 2 * t.length ≤ f) : (∃ d, rdT t = some d ∧ tmC f t = some (d.k, d.n, d.ps, [])) ∨ (rdT t = none ∧ ∀ k n ps, tmC f t ≠ some (k, n, ps, [])) := by
  cases hr : rdT t with
  | some d =>
    obtain ⟨hT, _⟩ := rdT_iff.1 hr
    have := fullC hT [] f h rfl hf
    rw [List.append_nil] at this
    exact .inl ⟨d, rfl, this⟩
  | none =>
    refine .inr ⟨rfl, fun k n ps hc => ?_⟩
    obtain ⟨t', d, e, hT, _⟩ := (soundC f).1 _ _ _ _ _ hc rfl
    rw [List.append_nil] at e
    subst e
    rw [rdT_iff.2 ⟨hT, h⟩] at hr
    cases hr
end Go.Proofs.Ytbjnejnjlidiaaa.tmC
namespace Go.Proofs.Ytbjnejnjlidiaaa.tmD
open numA numB numC numE tmA tmB tmC
set_option linter.unusedVariables false
set_option linter.unusedSimpArgs false

theorem less_tri : ∀ a b : Txt, Op.bytesLess a b = false → a ≠ b → Op.bytesLess b a = true := by
  intro a
  induction a with
  | nil =>
    intro b h hn
    cases b with
    | nil => exact absurd rfl hn
    | cons y ys => simp [Op.bytesLess] at h
  | cons x xs ih =>
    intro b h hn
    cases b with
    | nil => simp [Op.bytesLess]
    | cons y ys =>
      simp only [Op.bytesLess, Bool.or_eq_false_iff, decide_eq_false_iff_not, Bool.and_eq_false_iff, beq_eq_false_iff_ne] at h
      simp only [Op.bytesLess, Bool.or_eq_true, decide_eq_true_eq, Bool.and_eq_true, beq_iff_eq]
      by_cases hxy : x = y
      · subst hxy
        right
        refine ⟨rfl, ih ys (h.2.resolve_left (by simp)) fun e => hn (by rw [e])⟩
      · left
        have := h.1
        rw [UInt8.lt_iff_toNat_lt] at this ⊢
        have hne : x.toNat ≠ y.toNat := fun e => hxy (UInt8.toNat_inj.1 e)
        omega

theorem gt_not {a b : Txt} (h : gt a b = true) : gt b a = false := by
  simp only [gt, Bool.not_eq_true', Bool.or_eq_false_iff, beq_eq_false_iff_ne] at h
  simp [gt, less_tri a b h.1 h.2]

theorem T.front {p q a b : Txt} {d e : Nd} (hp : T p d) (hq : T q e) (h : p ++ a = q ++ b) (fa : folw a = true) (fb : folw b = true) : p = q ∧ a = b := by
  have h1 := fullR hp a (2 * (p.length + q.length)) fa (by omega)
  have h2 := fullR hq b (2 * (p.length + q.length)) fb (by omega)
  rw [h, h2] at h1
  simp only [Option.some.injEq, Prod.mk.injEq] at h1
  obtain ⟨_, rfl⟩ := h1
  exact ⟨List.append_cancel_right h, rfl⟩

theorem not_stop {p : Txt} {d : Nd} (h : T p d) (r : Txt) {c : UInt8} {x : Txt} (hc : stop c = true) : p ++ r ≠ c :: x := by
  obtain ⟨c', r', rfl, hk, h1, h2⟩ := T.ne h
  intro e
  simp only [List.cons_append, List.cons.injEq] at e
  obtain ⟨rfl, _⟩ := e
  have : kindOf c' = 0 := by
    simp only [stop, Bool.or_eq_true, beq_iff_eq] at hc
    rcases hc with rfl | rfl <;> decide
  omega

theorem join_inj : ∀ (ps qs : List Txt) (a b : Txt), (∀ p ∈ ps, ∃ d, T p d) → (∀ q ∈ qs, ∃ d, T q d) → join ps ++ 41 :: a = join qs ++ 41 :: b → ps = qs := by
  intro ps
  induction ps with
  | nil =>
    intro qs a b hp hq h
    cases qs with
    | nil => rfl
    | cons q qs =>
      obtain ⟨e, hT⟩ := hq q (by simp)
      cases qs with
      | nil => exact absurd h.symm (not_stop hT _ (by decide))
      | cons q' qs =>
        rw [join_cons q (q' :: qs) (by simp), List.append_assoc] at h
        exact absurd h.symm (not_stop hT _ (by decide))
  | cons p ps ih =>
    intro qs a b hp hq h
    obtain ⟨d, hT⟩ := hp p (by simp)
    cases qs with
    | nil =>
      cases ps with
      | nil => exact absurd h (not_stop hT _ (by decide))
      | cons p' ps =>
        rw [join_cons p (p' :: ps) (by simp), List.append_assoc] at h
        exact absurd h (not_stop hT _ (by decide))
    | cons q qs =>
      obtain ⟨e, hU⟩ := hq q (by simp)
      cases ps with
      | nil =>
        cases qs with
        | nil =>
          obtain ⟨rfl, _⟩ := T.front hT hU h rfl rfl
          rfl
        | cons q' qs =>
          rw [join_cons q (q' :: qs) (by simp), List.append_assoc] at h
          obtain ⟨_, h2⟩ := T.front hT hU h rfl rfl
          simp at h2
      | cons p' ps =>
        rw [join_cons p (p' :: ps) (by simp), List.append_assoc] at h
        cases qs with
        | nil =>
          obtain ⟨_, h2⟩ := T.front hT hU h rfl rfl
          simp at h2
        | cons q' qs =>
          rw [join_cons q (q' :: qs) (by simp), List.append_assoc] at h
          obtain ⟨rfl, h2⟩ := T.front hT hU h rfl rfl
          simp only [List.cons_append, List.cons.injEq, true_and] at h2
          rw [ih (q' :: qs) a b (fun x hx => hp x (List.mem_cons_of_mem _ hx)) (fun x hx => hq x (List.mem_cons_of_mem _ hx)) h2]

theorem letter_inj {k k' : Nat} (h1 : 1 ≤ k) (h11 : k ≤ 11) (h1' : 1 ≤ k') (h11' : k' ≤ 11) (h : letter k = letter k') : k = k' := by
  rw [← letter_kind k h1 h11, ← letter_kind k' h1' h11', h]

/-- The number that a kind holds. -/
def numOfK (k n : Nat) : Nat := if numbered k then n else 0

theorem pre_num (k n : Nat) : pre k (numOfK k n) = pre k n := by
  unfold pre numOfK
  split <;> rfl

theorem pre_inj {k n n' : Nat} {a b : Txt} (hk : numbered k = true) (h : dec n ++ 44 :: a = dec n' ++ 44 :: b) : n = n' ∧ a = b := by
  have h1 := word_app (d := dec n) (rest := 44 :: a) (stop_all (dec_all n)) rfl
  have h2 := word_app (d := dec n') (rest := 44 :: b) (stop_all (dec_all n')) rfl
  rw [h, h2.1, h2.2] at h1
  refine ⟨?_, by have := h1.2; simp at this; exact this.symm⟩
  rw [← val_dec n, ← val_dec n', h1.1]

/-- Which texts in brackets are terms. -/
theorem cand_T {k n : Nat} {ps : List Txt} (h5 : 5 ≤ k) (h11 : k ≤ 11) (hps : ∀ p ∈ ps, ∃ d, T p d) {d : Nd} : T (letter k :: 40 :: (pre k n ++ (join ps ++ [41]))) d ↔ (right k ps.length = true ∧ sorted k ps = true ∧ nOk k (numOfK k n) = true ∧ d = ⟨k, numOfK k n, [], ps⟩) := by
  constructor
  · intro h
    generalize ht : letter k :: 40 :: (pre k n ++ (join ps ++ [41])) = t at h
    have hne : ∀ c : UInt8, kindOf c ≤ 4 → letter k ≠ c := fun c hc e => by
      have := letter_kind k (by omega) h11
      rw [e] at this
      omega
    cases h with
    | zero =>
      rw [List.cons.injEq] at ht
      exact absurd ht.1 (hne 48 (by decide))
    | atom m hm =>
      rw [List.cons.injEq] at ht
      exact absurd ht.1 (hne 97 (by decide))
    | num m hm =>
      rw [List.cons.injEq] at ht
      exact absurd ht.1 (hne 110 (by decide))
    | data b =>
      rw [List.cons.injEq] at ht
      exact absurd ht.1 (hne 120 (by decide))
    | node k' n' ps' h5' h11' hn hr hs g hp =>
      rw [List.cons.injEq, List.cons.injEq] at ht
      obtain ⟨e1, _, e2⟩ := ht
      obtain rfl := letter_inj (by omega) h11 (by omega) h11' e1
      have key : numOfK k n = n' ∧ join ps ++ [41] = join ps' ++ [41] := by
        by_cases hk : numbered k = true
        · simp only [pre, if_pos hk, List.append_assoc, List.cons_append, List.nil_append] at e2
          obtain ⟨q1, q2⟩ := pre_inj hk e2
          exact ⟨by rw [numOfK, if_pos hk, q1], q2⟩
        · simp only [pre, if_neg hk, List.nil_append] at e2
          refine ⟨?_, e2⟩
          rw [numOfK, if_neg hk]
          simp only [numbered, Bool.or_eq_true, beq_iff_eq, not_or] at hk
          simp only [nOk, if_neg hk.1, if_neg hk.2, beq_iff_eq] at hn
          exact hn.symm
      obtain ⟨rfl, q⟩ := key
      obtain rfl := join_inj ps ps' [] [] hps (fun p h => ⟨_, hp p h⟩) q
      exact ⟨hr, hs, hn, rfl⟩
  · rintro ⟨hr, hs, hn, rfl⟩
    rw [← pre_num]
    exact T.mk h5 h11 hn hr hs hps

/-- Without the comma behind the number it is none. -/
theorem bare_T {k n : Nat} (h11 : k ≤ 11) (h5 : 5 ≤ k) (hk : numbered k = true) (d : Nd) : ¬ T (letter k :: 40 :: (dec n ++ [41])) d := by
  intro h
  generalize ht : letter k :: 40 :: (dec n ++ [41]) = t at h
  have hne : ∀ c : UInt8, kindOf c ≤ 4 → letter k ≠ c := fun c hc e => by
    have := letter_kind k (by omega) h11
    rw [e] at this
    omega
  cases h with
  | zero =>
    rw [List.cons.injEq] at ht
    exact absurd ht.1 (hne 48 (by decide))
  | atom m hm =>
    rw [List.cons.injEq] at ht
    exact absurd ht.1 (hne 97 (by decide))
  | num m hm =>
    rw [List.cons.injEq] at ht
    exact absurd ht.1 (hne 110 (by decide))
  | data b =>
    rw [List.cons.injEq] at ht
    exact absurd ht.1 (hne 120 (by decide))
  | node k' n' ps' h5' h11' hn hr hs g hp =>
    rw [List.cons.injEq, List.cons.injEq] at ht
    obtain ⟨e1, _, e2⟩ := ht
    obtain rfl := letter_inj (by omega) h11 (by omega) h11' e1
    simp only [pre, if_pos hk, List.append_assoc, List.cons_append, List.nil_append] at e2
    have h1 := word_app (d := dec n) (rest := [41]) (stop_all (dec_all n)) rfl
    have h2 := word_app (d := dec n') (rest := 44 :: (join ps' ++ [41])) (stop_all (dec_all n')) rfl
    rw [e2, h2.1, h2.2] at h1
    have := h1.2
    simp at this

/-- The parts in their order. -/
def srt (k : Nat) (ps : List Txt) : List Txt := if k = 6 ∧ ps.length = 2 ∧ gt (ps.getD 0 []) (ps.getD 1 []) = true then [ps.getD 1 [], ps.getD 0 []] else ps

theorem srt_len (k : Nat) (ps : List Txt) : (srt k ps).length = ps.length := by
  unfold srt
  split
  · rename_i h
    rw [h.2.1]
    rfl
  · rfl

theorem two_of {ps : List Txt} (h : ps.length = 2) : ps = [ps.getD 0 [], ps.getD 1 []] := by
  match ps, h with
  | [a, b], _ => rfl

theorem srt_mem {k : Nat} {ps : List Txt} {p : Txt} : p ∈ srt k ps ↔ p ∈ ps := by
  unfold srt
  split
  · rename_i h
    conv => rhs; rw [two_of h.2.1]
    simp [or_comm]
  · rfl

theorem srt_sorted {k : Nat} {ps : List Txt} (h : k = 6 → ps.length = 2) : sorted k (srt k ps) = true := by
  unfold sorted srt
  by_cases h6 : k = 6
  · subst h6
    have h2 := h rfl
    by_cases hg : gt (ps.getD 0 []) (ps.getD 1 []) = true
    · rw [if_pos ⟨rfl, h2, hg⟩]
      simpa using gt_not hg
    · rw [if_neg (fun q => hg q.2.2)]
      simp only [Bool.not_eq_true] at hg
      simpa using hg
  · simp [h6]

theorem srt_id {k : Nat} {ps : List Txt} (h : sorted k ps = true) : srt k ps = ps := by
  unfold srt
  rw [if_neg]
  rintro ⟨rfl, _, hg⟩
  simp only [sorted, hg] at h
  exact absurd h (by decide)

def isT (t : Txt) : Bool := (rdT t).isSome

theorem isT_iff {t : Txt} : isT t = true ↔ (∃ d, T t d) ∧ t.length ≤ 65536 := by
  unfold isT
  cases h : rdT t with
  | none =>
    simp only [Option.isSome_none, Bool.false_eq_true, false_iff, not_and]
    rintro ⟨d, hd⟩ hl
    rw [rdT_iff.2 ⟨hd, hl⟩] at h
    cases h
  | some d =>
    obtain ⟨h1, h2⟩ := rdT_iff.1 h
    simp only [Option.isSome_some, true_iff]
    exact ⟨⟨d, h1⟩, h2⟩

def total (ps : List Txt) : Nat := (ps.map List.length).sum

/-- What the program asks ahead. -/
def fitsB (k n : Nat) (ps : List Txt) : Prop := least k ≤ ps.length ∧ ps.length ≤ mostk k ∧ (numbered k = true → lowk k ≤ n ∧ n ≤ highk k) ∧ (∀ p ∈ ps, isT p = true) ∧ total ps ≤ 65536 ∧ (letter k :: 40 :: (pre k n ++ (join (srt k ps) ++ [41]))).length ≤ 65536

theorem total_join : ∀ ps : List Txt, total ps ≤ (join ps).length := by
  intro ps
  induction ps with
  | nil => exact Nat.zero_le _
  | cons p ps ih =>
    cases ps with
    | nil => simp [total, join]
    | cons q qs =>
      rw [join_cons p (q :: qs) (by simp)]
      simp only [total, List.map_cons, List.sum_cons, List.length_append, List.length_cons] at ih ⊢
      omega

theorem total_srt (k : Nat) (ps : List Txt) : total (srt k ps) = total ps := by
  unfold srt
  split
  · rename_i h
    conv => rhs; rw [two_of h.2.1]
    simp [total]
    omega
  · rfl

theorem nOk_iff {k n : Nat} (hn : n ≤ most) : nOk k (numOfK k n) = true ↔ (numbered k = true → lowk k ≤ n ∧ n ≤ highk k) := by
  unfold nOk numOfK lowk highk
  by_cases h8 : k = 8
  · subst h8
    simp [numbered]
  · by_cases h10 : k = 10
    · subst h10
      simp [numbered, hn]
    · have : numbered k = false := by simp [numbered, h8, h10]
      simp [h8, h10, this]

/-- What the document asks behind it, and what the program asks ahead, is the same. -/
theorem fits_iff {k n : Nat} {ps : List Txt} (h5 : 5 ≤ k) (h11 : k ≤ 11) (hn : n ≤ most) : ((∀ p ∈ ps, isT p = true) ∧ isT (letter k :: 40 :: (pre k n ++ (join (srt k ps) ++ [41]))) = true) ↔ fitsB k n ps := by
  constructor
  · rintro ⟨hp, ht⟩
    have hT : ∀ p ∈ srt k ps, ∃ d, T p d := fun p h => (isT_iff.1 (hp p (srt_mem.1 h))).1
    obtain ⟨⟨d, hd⟩, hl⟩ := isT_iff.1 ht
    obtain ⟨hr, hs, hnk, rfl⟩ := (cand_T h5 h11 hT).1 hd
    have hjl := join_len (srt k ps) fun p h => by
      obtain ⟨d, q⟩ := hT p h
      obtain ⟨c, r, e, _⟩ := T.ne q
      rw [e]
      simp
    have htj := total_join (srt k ps)
    simp only [List.length_cons, List.length_append] at hl
    rw [srt_len] at hr hjl
    have := of_right h5 h11 hr (by omega)
    refine ⟨this.1, this.2, (nOk_iff hn).1 hnk, hp, by rw [total_srt] at htj; omega, by simp only [List.length_cons, List.length_append]; omega⟩
  · rintro ⟨h1, h2, h3, hp, h4, hl⟩
    have hT : ∀ p ∈ srt k ps, ∃ d, T p d := fun p h => (isT_iff.1 (hp p (srt_mem.1 h))).1
    refine ⟨hp, isT_iff.2 ⟨⟨_, (cand_T h5 h11 hT).2 ⟨?_, ?_, (nOk_iff hn).2 h3, rfl⟩⟩, hl⟩⟩
    · rw [srt_len]
      exact right_of h5 h11 h1 h2
    · refine srt_sorted fun h6 => ?_
      subst h6
      have a1 : least 6 = 2 := by decide
      have a2 : mostk 6 = 2 := by decide
      omega

instance (k n : Nat) (ps : List Txt) : Decidable (fitsB k n ps) := by unfold fitsB; infer_instance

/-- What is made; nothing, where there is no such term. -/
def mkT (k n : Nat) (b : Txt) (ps : List Txt) : Txt :=
  if k = 1 then (if ps = [] then [48] else [])
  else if k = 2 then (if ps = [] ∧ n ≤ 4294967295 then 97 :: dec n else [])
  else if k = 3 then (if ps = [] then 110 :: dec n else [])
  else if k = 4 then (if ps = [] ∧ b.length ≤ 32767 then 120 :: hexs b else [])
  else if 5 ≤ k ∧ k ≤ 11 then (if fitsB k n ps then letter k :: 40 :: (pre k n ++ (join (srt k ps) ++ [41])) else [])
  else []

end Go.Proofs.Ytbjnejnjlidiaaa.tmD
namespace Go.Proofs.Ytbjnejnjlidiaaa.tmE
open numA numB numC numE tmA tmB tmC tmD
set_option linter.unusedVariables false
set_option linter.unusedSimpArgs false

theorem len_total {ps : List Txt} {p : Txt} (h : p ∈ ps) : p.length ≤ total ps := by
  induction ps with
  | nil => cases h
  | cons q ps ih =>
    simp only [total, List.map_cons, List.sum_cons] at ih ⊢
    rcases List.mem_cons.1 h with rfl | h
    · omega
    · have := ih h
      omega

theorem mk_br {k n : Nat} {b : Txt} {ps : List Txt} (h5 : 5 ≤ k) (h11 : k ≤ 11) : mkT k n b ps = if fitsB k n ps then letter k :: 40 :: (pre k n ++ (join (srt k ps) ++ [41])) else [] := by
  rw [mkT, if_neg (by omega), if_neg (by omega), if_neg (by omega), if_neg (by omega), if_pos ⟨h5, h11⟩]

theorem nOk_most {k n : Nat} (h : nOk k n = true) : n ≤ most := by
  unfold nOk at h
  unfold most
  split at h
  · simp at h
    omega
  · split at h
    · unfold most at h
      simpa using h
    · simp at h
      omega

theorem make_read {t : Txt} {d : Nd} (h : rdT t = some d) : mkT d.k d.n d.b d.ps = t := by
  obtain ⟨hT, hl⟩ := rdT_iff.1 h
  have hi : isT t = true := by rw [isT, h]; rfl
  cases hT with
  | zero => rfl
  | atom n hn => simp [mkT, hn]
  | num n hn => simp [mkT]
  | data b =>
    have : b.length ≤ 32767 := by
      rw [List.length_cons, hexs_len] at hl
      omega
    simp [mkT, this]
  | node k n ps h5 h11 hn hr hs g hp =>
    show mkT k n [] ps = _
    have hj : total ps ≤ 65536 := by
      have := total_join ps
      simp only [List.length_cons, List.length_append] at hl
      omega
    rw [mk_br h5 h11, srt_id hs, if_pos]
    refine (fits_iff h5 h11 (nOk_most hn)).1 ⟨fun p hpm => isT_iff.2 ⟨⟨_, hp p hpm⟩, by have := len_total hpm; omega⟩, ?_⟩
    rw [srt_id hs]
    exact hi

/-- What is read of what is made. -/
def nodeOf (k n : Nat) (b : Txt) (ps : List Txt) : Nd := ⟨k, if k = 2 ∨ k = 3 ∨ k = 8 ∨ k = 10 then n else 0, if k = 4 then b else [], srt k ps⟩

theorem dec_short {n : Nat} (hn : n ≤ most) : (dec n).length ≤ 20 := dec_len 19 n (by unfold most at hn; omega)

theorem read_make {k n : Nat} {b : Txt} {ps : List Txt} (hn : n ≤ most) (h : mkT k n b ps ≠ []) : rdT (mkT k n b ps) = some (nodeOf k n b ps) := by
  by_cases h1 : k = 1
  · subst h1
    by_cases hp : ps = []
    · subst hp
      show rdT [48] = some ⟨1, 0, [], []⟩
      exact rdT_iff.2 ⟨T.zero, by decide⟩
    · exact absurd (by rw [mkT, if_pos rfl, if_neg hp]) h
  by_cases h2 : k = 2
  · subst h2
    rw [mkT, if_neg h1, if_pos rfl] at h ⊢
    by_cases hp : ps = [] ∧ n ≤ 4294967295
    · rw [if_pos hp]
      obtain ⟨rfl, hm⟩ := hp
      exact rdT_iff.2 ⟨T.atom n hm, by have := dec_short hn; rw [List.length_cons]; omega⟩
    · exact absurd (if_neg hp) h
  by_cases h3 : k = 3
  · subst h3
    rw [mkT, if_neg h1, if_neg h2, if_pos rfl] at h ⊢
    by_cases hp : ps = []
    · rw [if_pos hp]
      subst hp
      exact rdT_iff.2 ⟨T.num n hn, by have := dec_short hn; rw [List.length_cons]; omega⟩
    · exact absurd (if_neg hp) h
  by_cases h4 : k = 4
  · subst h4
    rw [mkT, if_neg h1, if_neg h2, if_neg h3, if_pos rfl] at h ⊢
    by_cases hp : ps = [] ∧ b.length ≤ 32767
    · rw [if_pos hp]
      obtain ⟨rfl, hm⟩ := hp
      exact rdT_iff.2 ⟨T.data b, by rw [List.length_cons, hexs_len]; omega⟩
    · exact absurd (if_neg hp) h
  by_cases h5 : 5 ≤ k ∧ k ≤ 11
  · rw [mk_br h5.1 h5.2] at h ⊢
    by_cases hf : fitsB k n ps
    · rw [if_pos hf]
      obtain ⟨hp, hi⟩ := (fits_iff h5.1 h5.2 hn).2 hf
      unfold isT at hi
      cases hr : rdT (letter k :: 40 :: (pre k n ++ (join (srt k ps) ++ [41]))) with
      | none => rw [hr] at hi; cases hi
      | some d =>
        obtain ⟨hT, _⟩ := rdT_iff.1 hr
        obtain ⟨_, _, _, rfl⟩ := (cand_T h5.1 h5.2 fun p h => (isT_iff.1 (hp p (srt_mem.1 h))).1).1 hT
        congr 1
        unfold nodeOf numOfK
        rw [if_neg h4]
        congr 1
        by_cases hk : numbered k = true
        · have e : k = 8 ∨ k = 10 := by simpa [numbered] using hk
          rw [if_pos hk, if_pos (by omega)]
        · have e : ¬ (k = 8 ∨ k = 10) := by simpa [numbered] using hk
          rw [if_neg hk, if_neg (by omega)]
    · exact absurd (if_neg hf) h
  · exact absurd (by rw [mkT, if_neg h1, if_neg h2, if_neg h3, if_neg h4, if_neg h5]) h

theorem less_asym : ∀ a b : Txt, Op.bytesLess a b = true → Op.bytesLess b a = false := by
  intro a
  induction a with
  | nil =>
    intro b h
    cases b with
    | nil => simp [Op.bytesLess] at h
    | cons y ys => simp [Op.bytesLess]
  | cons x xs ih =>
    intro b h
    cases b with
    | nil => simp [Op.bytesLess] at h
    | cons y ys =>
      simp only [Op.bytesLess, Bool.or_eq_true, decide_eq_true_eq, Bool.and_eq_true, beq_iff_eq] at h
      simp only [Op.bytesLess, Bool.or_eq_false_iff, decide_eq_false_iff_not, Bool.and_eq_false_iff, beq_eq_false_iff_ne]
      rcases h with h | ⟨rfl, h⟩
      · rw [UInt8.lt_iff_toNat_lt] at h
        refine ⟨by rw [UInt8.lt_iff_toNat_lt]; omega, .inl fun e => ?_⟩
        rw [e] at h
        omega
      · exact ⟨by rw [UInt8.lt_iff_toNat_lt]; omega, .inr (ih ys h)⟩

theorem gt_anti {a b : Txt} (h1 : gt a b = false) (h2 : gt b a = false) : a = b := by
  simp only [gt, Bool.not_eq_false', Bool.or_eq_true, beq_iff_eq] at h1 h2
  rcases h1 with h1 | h1
  · rcases h2 with h2 | h2
    · rw [less_asym a b h1] at h2
      cases h2
    · exact h2.symm
  · exact h1

theorem srt_two (x y : Txt) : srt 6 [x, y] = if gt x y = true then [y, x] else [x, y] := by
  unfold srt
  by_cases h : gt x y = true
  · rw [if_pos h, if_pos ⟨rfl, rfl, h⟩]
    rfl
  · rw [if_neg h, if_neg (fun q => h q.2.2)]

theorem srt_swap (x y : Txt) : srt 6 [x, y] = srt 6 [y, x] := by
  rw [srt_two, srt_two]
  by_cases h : gt x y = true
  · rw [if_pos h, if_neg (by rw [gt_not h]; decide)]
  · by_cases h' : gt y x = true
    · rw [if_neg h, if_pos h']
    · rw [if_neg h, if_neg h']
      obtain rfl := gt_anti (Bool.not_eq_true _ ▸ h) (Bool.not_eq_true _ ▸ h')
      rfl

theorem mk_swap (x y : Txt) : mkT 6 0 [] [x, y] = mkT 6 0 [] [y, x] := by
  rw [mk_br (by decide) (by decide), mk_br (by decide) (by decide), srt_swap x y]
  have e : fitsB 6 0 [x, y] ↔ fitsB 6 0 [y, x] := by
    unfold fitsB
    rw [srt_swap x y]
    simp only [total, List.map_cons, List.map_nil, List.sum_cons, List.sum_nil, List.length_cons, List.length_nil, List.mem_cons, List.not_mem_nil, or_false, forall_eq_or_imp, forall_eq]
    constructor
    · rintro ⟨a, b, c, ⟨d, d'⟩, e, f⟩
      exact ⟨a, b, c, ⟨d', d⟩, by omega, f⟩
    · rintro ⟨a, b, c, ⟨d, d'⟩, e, f⟩
      exact ⟨a, b, c, ⟨d', d⟩, by omega, f⟩
  by_cases h : fitsB 6 0 [x, y]
  · rw [if_pos h, if_pos (e.1 h)]
  · rw [if_neg h, if_neg (fun q => h (e.2 q))]

/-- What a text is read as; kind 0 of no term. -/
def nd (t : Txt) : Nd := (rdT t).getD ⟨0, 0, [], []⟩

theorem nd_make {k n : Nat} {b : Txt} {ps : List Txt} (hn : n ≤ most) (h : mkT k n b ps ≠ []) : nd (mkT k n b ps) = nodeOf k n b ps := by
  rw [nd, read_make hn h]
  rfl

theorem nd_nil : nd [] = ⟨0, 0, [], []⟩ := by
  unfold nd
  cases h : rdT [] with
  | none => rfl
  | some d =>
    obtain ⟨hT, _⟩ := rdT_iff.1 h
    obtain ⟨c, r, e, _⟩ := T.ne hT
    cases e

theorem nd_cases (t : Txt) : (nd t = ⟨0, 0, [], []⟩ ∧ isT t = false) ∨ (T t (nd t) ∧ t.length ≤ 65536 ∧ rdT t = some (nd t) ∧ isT t = true) := by
  unfold nd isT
  cases h : rdT t with
  | none => exact .inl ⟨rfl, rfl⟩
  | some d => exact .inr ⟨(rdT_iff.1 h).1, (rdT_iff.1 h).2, rfl, rfl⟩

/-- How many parts there are. -/
theorem nd_right {t : Txt} (h : 5 ≤ (nd t).k) : right (nd t).k (nd t).ps.length = true := by
  rcases nd_cases t with ⟨e, _⟩ | ⟨hT, _⟩
  · rw [e] at h
    cases h
  · generalize nd t = d at h hT
    cases hT with
    | zero => simp at h
    | atom n hn => simp at h
    | num n hn => simp at h
    | data b => simp at h
    | node k n ps h5 h11 hn hr hs g hp => exact hr

/-- The parts are terms. -/
theorem nd_parts {t : Txt} {p : Txt} (h : p ∈ (nd t).ps) : isT p = true ∧ p.length + 2 ≤ t.length := by
  rcases nd_cases t with ⟨e, _⟩ | ⟨hT, hl, _⟩
  · rw [e] at h
    cases h
  · generalize nd t = d at h hT
    cases hT with
    | zero => cases h
    | atom n hn => cases h
    | num n hn => cases h
    | data b => cases h
    | node k n ps h5 h11 hn hr hs g hp =>
      have h1 : p.length ≤ total ps := len_total h
      have h2 := total_join ps
      simp only [List.length_cons, List.length_append, List.length_nil] at hl ⊢
      exact ⟨isT_iff.2 ⟨⟨_, hp p h⟩, by omega⟩, by omega⟩

def agr (x p : Txt) : Txt := if (nd p).k = 5 then mkT 6 0 [] [x, (nd p).ps.getD 0 []] else []

theorem pub_ok {x : Txt} (hl : x.length ≤ 60000) : mkT 5 0 [] [x] = if isT x = true then 112 :: 40 :: (x ++ [41]) else [] := by
  rw [mk_br (by decide) (by decide)]
  have e : fitsB 5 0 [x] ↔ isT x = true := by
    unfold fitsB
    simp only [total, List.map_cons, List.map_nil, List.sum_cons, List.sum_nil, List.length_cons, List.length_nil, List.mem_cons, List.not_mem_nil, or_false, forall_eq]
    constructor
    · exact fun h => h.2.2.2.1
    · intro h
      refine ⟨by decide, by decide, (fun q => (by cases q)), h, by omega, ?_⟩
      rw [show srt 5 [x] = [x] from rfl, show pre 5 0 = [] from rfl]
      simp only [join, List.length_append, List.length_cons, List.length_nil]
      omega
  by_cases h : isT x = true
  · rw [if_pos h, if_pos (e.2 h)]
    rfl
  · rw [if_neg h, if_neg (fun q => h (e.1 q))]

theorem nd_pub {x : Txt} (hl : x.length ≤ 60000) (h : isT x = true) : nd (mkT 5 0 [] [x]) = ⟨5, 0, [], [x]⟩ := by
  rw [nd_make (by decide) (by rw [pub_ok hl, if_pos h]; simp)]
  rfl

theorem agr_pub {x y : Txt} (hl : y.length ≤ 60000) : agr x (mkT 5 0 [] [y]) = if isT y = true then mkT 6 0 [] [x, y] else [] := by
  unfold agr
  by_cases h : isT y = true
  · rw [nd_pub hl h, if_pos h]
    rfl
  · rw [pub_ok hl, if_neg h, nd_nil, if_neg h]
    rfl

end Go.Proofs.Ytbjnejnjlidiaaa.tmE
