
import PyProof.Rows.All
import Wide.All
import OpenK.AllK
import Wide.FinOn
import HandS.ForMost
import HandS.Codes
import HandS.StrMore
import HandS.Defaults
import HandS.IntHex
import HandS.IsInst
import HandS.TupAny
import HandS.TupMul
import PyProof.FString3
import PyProof.Rows.StrIntSpec
import PyProof.StrOps2
import KE.IntText
import KE.KIntText
import KE.IntTextLaws
import HandS.Exc
import HandS.ExcOwn
import HandS.TryOnly
import HandS.TryMany
import HandS.ExcIs
import HandS.WordsExc
import HandS.ForExc

import HandS.Gcd
import PySem.Challenge.RW_breakback_k16_fractions
set_option Elab.async false
set_option linter.all false
set_option maxRecDepth 100000
set_option maxHeartbeats 4000000
namespace My
open PySem PySem.Spec PyProof.Rows L2
theorem snocInd {α : Type} {P : List α → Prop} (h0 : P []) (h1 : ∀ l a, P l → P (l ++ [a])) (l : List α) : P l := by
  have h : ∀ (n : Nat) (l : List α), l.length = n → P l := by
    intro n
    induction n with
    | zero =>
      intro l e
      rw [List.eq_nil_of_length_eq_zero e]
      exact h0
    | succ n ih =>
      intro l e
      have hn : l ≠ [] := fun z => by
        rw [z] at e
        cases e
      rw [← List.dropLast_concat_getLast hn]
      exact h1 _ _ (ih _ (by rw [List.length_dropLast, e]; rfl))
  exact h _ l rfl
/-! ### strings of bits -/
def cB (b : Bool) : Nat := if b then 49 else 48
def sb (bs : List Bool) : Str := SX.S (bs.map cB)
def toB : Nat → Nat → List Bool
  | 0, _ => []
  | n + 1, k => toB n (k / 2) ++ [k % 2 == 1]
def bit (b : Bool) : Nat := if b then 1 else 0
def val (bs : List Bool) : Nat := bs.foldl (fun a b => 2 * a + bit b) 0
theorem toB_len : ∀ n k, (toB n k).length = n
  | 0, _ => rfl
  | n + 1, k => by
    show (toB n (k / 2) ++ [k % 2 == 1]).length = n + 1
    rw [List.length_append, toB_len n]
    rfl
theorem sb_len (bs : List Bool) : (sb bs).length = bs.length := by
  unfold sb
  rw [SX.S_len, List.length_map]
theorem cB_inj {a b : Bool} (h : cB a = cB b) : a = b := by
  cases a <;> cases b <;> first | rfl | (exact absurd h (by decide))
theorem map_cB_inj : ∀ {l m : List Bool}, l.map cB = m.map cB → l = m
  | [], [], _ => rfl
  | [], _ :: _, h => by simp at h
  | _ :: _, [], h => by simp at h
  | a :: l, b :: m, h => by
    rw [List.map_cons, List.map_cons] at h
    injection h with h1 h2
    rw [cB_inj h1, map_cB_inj h2]
theorem sb_inj {l m : List Bool} (h : sb l = sb m) : l = m := map_cB_inj (SX.S_inj h)
theorem sb_cat (l m : List Bool) : sb l ++ sb m = sb (l ++ m) := by
  unfold sb
  rw [SX.S_cat, List.map_append]
theorem val_snoc (l : List Bool) (b : Bool) : val (l ++ [b]) = 2 * val l + bit b := by
  unfold val
  rw [List.foldl_append]
  rfl
theorem bit_lt (b : Bool) : bit b < 2 := by cases b <;> decide
theorem toB_val (bs : List Bool) : toB bs.length (val bs) = bs := by
  induction bs using snocInd with
  | h0 => rfl
  | h1 l b ih =>
    rw [List.length_append, val_snoc]
    show toB (l.length + 1) _ = _
    show toB l.length ((2 * val l + bit b) / 2) ++ [(2 * val l + bit b) % 2 == 1] = l ++ [b]
    have h := bit_lt b
    rw [show (2 * val l + bit b) / 2 = val l by omega, ih, show (2 * val l + bit b) % 2 = bit b by omega]
    cases b <;> rfl
theorem val_lt (bs : List Bool) : val bs < 2 ^ bs.length := by
  induction bs using snocInd with
  | h0 => exact Nat.one_pos
  | h1 l b ih =>
    rw [List.length_append, val_snoc]
    show _ < 2 ^ (l.length + 1)
    have h := bit_lt b
    rw [Nat.pow_succ]
    omega
theorem val_toB : ∀ (n k : Nat), k < 2 ^ n → val (toB n k) = k
  | 0, k, h => by
    have e : k = 0 := by
      have : k < 1 := h
      omega
    subst e
    rfl
  | n + 1, k, h => by
    show val (toB n (k / 2) ++ [k % 2 == 1]) = k
    rw [Nat.pow_succ] at h
    rw [val_snoc, val_toB n (k / 2) (by omega)]
    have e : bit (k % 2 == 1) = k % 2 := by
      rcases Nat.mod_two_eq_zero_or_one k with z | z <;> rw [z] <;> rfl
    rw [e]
    omega
theorem toB_zero (n : Nat) : toB n 0 = List.replicate n false := by
  induction n with
  | zero => rfl
  | succ n ih =>
    show toB n 0 ++ [false] = _
    rw [ih, List.replicate_succ']
/-! ### two strings place by place -/
theorem toB_xor : ∀ (n a b : Nat), toB n (a ^^^ b) = List.zipWith (fun x y => x != y) (toB n a) (toB n b)
  | 0, _, _ => rfl
  | n + 1, a, b => by
    show toB n ((a ^^^ b) / 2) ++ [(a ^^^ b) % 2 == 1] = List.zipWith (fun x y => x != y) (toB n (a / 2) ++ [a % 2 == 1]) (toB n (b / 2) ++ [b % 2 == 1])
    rw [List.zipWith_append (by rw [toB_len, toB_len]), Nat.xor_div_two, toB_xor n]
    congr 1
    have e : (a ^^^ b) % 2 = (a % 2) ^^^ (b % 2) := by
      have h := Nat.xor_mod_two_pow (a := a) (b := b) (n := 1)
      rw [Nat.pow_one] at h
      exact h
    rw [e]
    rcases Nat.mod_two_eq_zero_or_one a with z | z <;> rcases Nat.mod_two_eq_zero_or_one b with y | y <;> rw [z, y] <;> rfl
theorem toB_and : ∀ (n a b : Nat), toB n (a &&& b) = List.zipWith (fun x y => x && y) (toB n a) (toB n b)
  | 0, _, _ => rfl
  | n + 1, a, b => by
    show toB n ((a &&& b) / 2) ++ [(a &&& b) % 2 == 1] = List.zipWith (fun x y => x && y) (toB n (a / 2) ++ [a % 2 == 1]) (toB n (b / 2) ++ [b % 2 == 1])
    rw [List.zipWith_append (by rw [toB_len, toB_len]), Nat.and_div_two, toB_and n]
    congr 1
    have e : (a &&& b) % 2 = (a % 2) * (b % 2) := by
      have h := Nat.and_mod_two_pow (a := a) (b := b) (n := 1)
      rw [Nat.pow_one] at h
      rw [h]
      rcases Nat.mod_two_eq_zero_or_one a with z | z <;> rcases Nat.mod_two_eq_zero_or_one b with y | y <;> rw [z, y] <;> rfl
    rw [e]
    rcases Nat.mod_two_eq_zero_or_one a with z | z <;> rcases Nat.mod_two_eq_zero_or_one b with y | y <;> rw [z, y] <;> rfl
/-! ### the digits that Python writes -/
def dig (k : Nat) : List Nat := (Nat.toDigits 2 k).map Char.toNat
theorem dig_lt {k : Nat} (h : k < 2) : dig k = [cB (k == 1)] := by
  unfold dig
  rw [Nat.toDigits_of_lt_base h]
  have : k = 0 ∨ k = 1 := by omega
  rcases this with e | e <;> subst e <;> rfl
theorem dig_ge {k : Nat} (h : 2 ≤ k) : dig k = dig (k / 2) ++ [cB (k % 2 == 1)] := by
  unfold dig
  rw [Nat.toDigits_of_base_le (by decide) h, List.map_append]
  congr 1
  rcases Nat.mod_two_eq_zero_or_one k with z | z <;> rw [z] <;> rfl
theorem dig_toB : ∀ (n k : Nat), k < 2 ^ (n + 1) → ∃ p, (toB (n + 1) k).map cB = List.replicate p 48 ++ dig k
  | 0, k, h => by
    have hk : k < 2 := h
    refine ⟨0, ?_⟩
    rw [dig_lt hk]
    show [cB (k % 2 == 1)] = [cB (k == 1)]
    rw [Nat.mod_eq_of_lt hk]
  | n + 1, k, h => by
    show ∃ p, (toB (n + 1) (k / 2) ++ [k % 2 == 1]).map cB = _
    rw [List.map_append]
    by_cases hk : k < 2
    · refine ⟨n + 1, ?_⟩
      rw [dig_lt hk, show k / 2 = 0 by omega, toB_zero, List.map_replicate, Nat.mod_eq_of_lt hk]
      rfl
    · have h' : k < 2 ^ (n + 1) * 2 := by
        rw [← Nat.pow_succ]
        exact h
      obtain ⟨p, e⟩ := dig_toB n (k / 2) (by omega)
      refine ⟨p, ?_⟩
      rw [e, dig_ge (k := k) (by omega), List.append_assoc]
      rfl
theorem dig_len_pos (k : Nat) : 0 < (dig k).length := by
  unfold dig
  rw [List.length_map]
  exact Nat.length_toDigits_pos
theorem dig_head (k : Nat) : ∃ c r, dig k = c :: r ∧ (c = 48 ∨ c = 49) := by
  induction k using Nat.strongRecOn with
  | _ k ih =>
    by_cases hk : k < 2
    · rw [dig_lt hk]
      exact ⟨_, _, rfl, by cases (k == 1) <;> decide⟩
    · obtain ⟨c, r, e, h⟩ := ih (k / 2) (by omega)
      rw [dig_ge (by omega), e]
      exact ⟨c, r ++ [_], rfl, h⟩
theorem zfill_dig (n k : Nat) (h : k < 2 ^ (n + 1)) : Txt.zfill (SX.S (dig k)) ((n + 1 : Nat) : Int) = sb (toB (n + 1) k) := by
  obtain ⟨p, e⟩ := dig_toB n k h
  have hl : n + 1 = p + (dig k).length := by
    have := congrArg List.length e
    rw [List.length_map, toB_len, List.length_append, List.length_replicate] at this
    exact this
  unfold sb
  rw [e]
  unfold Txt.zfill
  rw [SX.S_len]
  by_cases hp : p = 0
  · subst hp
    rw [if_pos (by omega)]
    rfl
  · rw [if_neg (by omega)]
    obtain ⟨c, r, ed, hc⟩ := dig_head k
    have hm : ((n + 1 : Nat) : Int).toNat - (dig k).length = p := by omega
    rw [hm]
    unfold zfilled
    rw [ed]
    rcases hc with rfl | rfl
    · show Builtin.Str.padded _ p 0 48 = _
      refine TL.ext_tl ?_
      simp [Builtin.Str.padded, TL.tl, SX.S]
    · show Builtin.Str.padded _ p 0 48 = _
      refine TL.ext_tl ?_
      simp [Builtin.Str.padded, TL.tl, SX.S]
section
open Builtin Builtin.Str Builtin.Int Builtin.Float
theorem ite_n {c : Prop} [Decidable c] {X Y : Prop} (hc : ¬ c) (h : Y) : if c then X else Y := by
  rw [if_neg hc]
  exact h
theorem ite_y {c : Prop} [Decidable c] {X Y : Prop} (hc : c) (h : X) : if c then X else Y := by
  rw [if_pos hc]
  exact h
/-- the text of the bits of n, as the format "b" makes it -/
theorem field_b (l : List Nat) (hl : l ≠ []) : intField' { fill := 32, align := 62, type := some 98 } false [] l [] 4 = ⟨l.toArray⟩ := by
  unfold intField'
  have h0 : l.isEmpty = false := by
    cases l with
    | nil => exact absurd rfl hl
    | cons a r => rfl
  simp [h0]
theorem wp_eq {α : Type} {M : Model} {A : Around} {t t' : Sem α} {Q : α → Shared → Prop} {E : Value → Shared → Prop} {s : Shared} (e : t = t') (h : wpAny M A t' Q E s) : wpAny M A t Q E s := by
  rw [e]
  exact h
set_option maxHeartbeats 1000000 in
theorem gives_fmtB {spec : PySem.Str} (n : Nat) (t u : Tok) (hz : (Nat.toDigits 2 n).length ≤ sizeLine)
    (hp : parseFormatSpec spec.cps.toList "int" 62 = .ok { fill := 32, align := 62, type := some 98 }) (hne : (spec.length == 0) = false)
    (hasc : ((spec.cps.toList.drop 1).any (· ≥ 128) || (spec.cps.getD 0 0 ≥ 128 && !([60, 62, 61, 94] : List Nat).contains (spec.cps.getD 1 0))) = false) :
    Gives («int.__format__» ⟨[.int (n : Int) t, .str spec u], []⟩) (.str ⟨((Nat.toDigits 2 n).map Char.toNat).toArray⟩) := by
  intro prog w A R s hq
  unfold Builtin.«int.__format__»
  simp only [selfAndOne, noKeywords, Int.intOfSelf, asInt?, asStr?, List.isEmpty_nil, if_true, pure_bind, bind_pure, bind_assoc, hne, hasc, Bool.false_eq_true, if_false,
    show (Value.str spec u == Value.none) = false from rfl]
  refine wpAny_bind (wpAny_typeNameOf (T := "str") (typeIs_str _ _ _) (by decide) fun _ => ?_)
  refine wpAny_bind (wpAny_typeNameOfCut_int ?_)
  simp only [hp, Option.getD_some]
  refine wpAny_ite (ite_y (by decide) ?_)
  refine wp_eq (t' := retStr (intField' { fill := 32, align := 62, type := some 98 } (decide ((n : Int) < 0)) [] ((Nat.toDigits 2 n).map fun c => (if (98 : Nat) == 88 then c.toUpper else c).toNat) [] 4)) (by kernel_rfl) ?_
  rw [show decide ((n : Int) < 0) = false from decide_eq_false (by omega), field_b _ (by
    have := Nat.length_toDigits_pos (b := 2) (n := n)
    intro z
    rw [List.map_eq_nil_iff] at z
    rw [z] at this
    exact absurd this (by decide))]
  refine wpAny_bind (wpAny_mkStr (wpAny_pure hq.2) ?_)
  show (List.toArray _).size ≤ _
  rw [List.size_toArray, List.length_map]
  exact hz
end
/-! ### a text times an int -/
theorem foldl_app (x : Array Nat) : ∀ (n : Nat) (acc : Array Nat), ((List.replicate n x).foldl (· ++ ·) acc).toList = acc.toList ++ (List.replicate n x.toList).flatten
  | 0, acc => by simp
  | n + 1, acc => by
    rw [List.replicate_succ, List.foldl_cons, foldl_app x n, List.replicate_succ, List.flatten_cons, Array.toList_append, List.append_assoc]
def rRepS : R2 := fun x y H Q => ∃ (l : List Nat) (k : Int), x = .str (SX.S l) ∧ y = .int k ∧ (0 ≤ k ∧ l.length * k.toNat ≤ 16777216 ∧ k ≤ 16777216) ∧ Q (.str (SX.S (List.replicate k.toNat l).flatten)) H
theorem op_repS {X : Cx} : OpR X (binaryOp .Mult) rRepS := by
  intro pins s σ H x y v u Q I rx ry h
  obtain ⟨l, k, rfl, rfl, ⟨h0, hz, hk⟩, q⟩ := h
  obtain ⟨t, rfl⟩ := rx
  obtain ⟨t', rfl⟩ := ry
  have hs : sizeLine = 16777216 := sizeLine_eq
  refine PySem.P.mul_str ?_ (fun h1 _ => ?_) (fun _ _ => ?_) ?_
  · rw [decide_eq_false (by omega), decide_eq_false (by omega)]
    rfl
  · rw [SX.S_len]
    have hp : 0 < k := by omega
    have : (l.length : Int) * k ≤ 16777216 := by
      have e : ((l.length * k.toNat : Nat) : Int) = (l.length : Int) * k := by
        rw [Int.natCast_mul, Int.toNat_of_nonneg h0]
      omega
    have := (Int.le_ediv_iff_mul_le hp (a := (l.length : Int)) (b := 2 ^ 63 - 1)).mpr (by omega)
    omega
  · rw [SX.S_len]
    unfold Builtin.Str.tooLong
    rw [sizeLine_eq]
    exact decide_eq_false (by omega)
  · by_cases h1 : k < 1
    · rw [if_pos h1]
      have e : k = 0 := by omega
      subst e
      exact ⟨by decide, .str (SX.S []), H, I.tok _, ⟨_, rfl⟩, q⟩
    · rw [if_neg h1]
      by_cases h2 : (k == 1 || (SX.S l).length == 0) = true
      · rw [if_pos h2]
        have e : (List.replicate k.toNat l).flatten = l := by
          rw [Bool.or_eq_true, beq_iff_eq, beq_iff_eq, SX.S_len] at h2
          rcases h2 with e | e
          · subst e
            simp
          · rw [List.eq_nil_of_length_eq_zero e]
            simp
        rw [e] at q
        exact ⟨.str (SX.S l), H, I, ⟨t, rfl⟩, q⟩
      · rw [if_neg h2]
        have e : (⟨(List.replicate k.toNat (SX.S l).cps).foldl (· ++ ·) #[]⟩ : Str) = SX.S (List.replicate k.toNat l).flatten := by
          refine TL.ext_tl ?_
          show (List.foldl (· ++ ·) (#[] : Array Nat) (List.replicate k.toNat l.toArray)).toList = _
          rw [foldl_app]
          rfl
        rw [e]
        refine ⟨?_, .str _, H, I.tok _, ⟨_, rfl⟩, q⟩
        rw [SX.S_len, List.length_flatten, List.map_replicate, List.sum_replicate_nat, hs]
        rw [Nat.mul_comm]
        exact hz
/-! ### f(k = v, ..): keywords alone -/
theorem pe_callN0 {X : Cx} {CX : CXT} {k : Nat} {f : Addr} {fd : FuncData} {ps ks : List Str} {sp : Sp} {E : XK} {x : Str} {p pos : Pos} {kws : List Keyword} {tk : TA} {g : List Value → List Value → List Value} {gV : List V → List V → List V}
    (F : FnOk X.prog X.w X.K X.mg X.base CX k f fd ps sp) (hr : Room k X.A) (hg : Gl X x) (hm : X.mg x = some (.ref f)) (hk : PySem.W.keepIn X.K (.ref f) = true) (hb : KBn X.K fd ps 0 ks g gV) (hx : Passes CX X E)
    (hkw : PK X kws tk) (hall : (backToKw pos (keywordEach kws X.env)).all (·.1.isSome) = true := by rfl) (hks : (backToKw pos (keywordEach kws X.env)).filterMap (·.1) = ks := by rfl)
    (hdb : (x == ("__debug__" : Str)) = false := by decide)
    (hpl : ((backTo pos (starEach [] X.env)).any (·.1) || (backToKw pos (keywordEach kws X.env)).any (·.1.isNone)) = false := by rfl) :
    PE X (.Call (.Name x p) [] kws pos) (tCallN 0 ks.length sp gV E tNil tk) := by
  refine ⟨fun pins s σ H Q I h => ?_⟩
  refine wpAny_Call_Name_kw (ld_glob I hg hm ?_ hdb)
  refine PySem.W.callWith_KW0 (h₀ := X.base) I.ok.mod.kin hk hall ?_ hpl
  refine thn (hkw.run pos pins s σ H _ I h) fun ws s2 ⟨zs, H2, I2, rz, l1, l2, q2⟩ => ⟨I2.kIn, ?_⟩
  rw [hks]
  exact run_fnN (us := []) (vs := []) F hr hb hx I2 .nil rz rfl l2 q2
/-! ### int(t, 2) -/
namespace Two
open PySem.NumText PySem.Calls
def Bin (c : Nat) : Prop := c = 48 ∨ c = 49
def num (l : List Nat) : Nat := l.foldl (fun a c => a * 2 + (c - 48)) 0
theorem Bin.plain {c : Nat} (h : Bin c) : c ≠ 95 ∧ c ≠ 0 ∧ c < 128 ∧ 33 ≤ c ∧ c ≠ 32 ∧ c ≠ 43 ∧ c ≠ 45 := by
  rcases h with e | e <;> subst e <;> decide
theorem one {ds : Array Nat} {b : Bool} {c : Nat} (h : Bin c) : PySem.NumText.step 2 (ds, b) c = some (ds.push (c - 48), true) := by
  rcases h with e | e <;> subst e <;> rfl
theorem more : ∀ (cs : List Nat) (ds : Array Nat), (∀ c ∈ cs, Bin c) → cs.foldlM (PySem.NumText.step 2) (ds, true) = some ((ds.toList ++ cs.map (· - 48)).toArray, true)
  | [], ds, _ => by simp
  | c :: cs, ds, h => by
    rw [List.foldlM_cons, one (h c (List.mem_cons_self ..))]
    refine (more cs (ds.push (c - 48)) fun d hd => h d (List.mem_cons_of_mem _ hd)).trans ?_
    simp
theorem all {cs : List Nat} (h : ∀ c ∈ cs, Bin c) (hne : cs ≠ []) : digits? 2 cs = some (cs.map (· - 48)).toArray := by
  cases cs with
  | nil => exact absurd rfl hne
  | cons c cs =>
    have e : List.foldlM (PySem.NumText.step 2) ((#[] : Array Nat), false) (c :: cs) = some (((c :: cs).map (· - 48)).toArray, true) := by
      rw [List.foldlM_cons, one (h c (List.mem_cons_self ..))]
      refine (more cs (#[].push (c - 48)) fun d hd => h d (List.mem_cons_of_mem _ hd)).trans ?_
      simp
    unfold digits?
    rw [e]
    rfl
theorem worth (l : List Nat) : (l.map (· - 48)).toArray.foldl (fun acc d => acc * 2 + d) 0 = num l := by
  rw [← Array.foldl_toList]
  unfold num
  rw [List.foldl_map]
theorem noBlank {cs : List Nat} (h : ∀ c ∈ cs, Bin c) : cs.dropWhile blank = cs := by
  cases cs with
  | nil => rfl
  | cons c cs =>
    have := (h c (List.mem_cons_self ..)).plain
    exact dropWhile_of (by omega)
theorem noSign {cs : List Nat} (h : ∀ c ∈ cs, Bin c) : sign cs = (false, cs) := by
  cases cs with
  | nil => rfl
  | cons c cs =>
    have := (h c (List.mem_cons_self ..)).plain
    exact sign_of (by omega) (by omega)
theorem noPre {cs : List Nat} (h : ∀ c ∈ cs, Bin c) : based 2 cs = (2, false, cs) := by
  match cs, h with
  | [], _ => rfl
  | [a], h =>
    rcases h a (List.mem_cons_self ..) with e | e <;> subst e <;> rfl
  | a :: c :: r, h =>
    rcases h a (List.mem_cons_self ..) with e | e <;> subst e <;>
      rcases h c (List.mem_cons_of_mem _ (List.mem_cons_self ..)) with e | e <;> subst e <;> rfl
theorem read {cs : List Nat} (h : ∀ c ∈ cs, Bin c) (hne : cs ≠ []) : (int_private% "readNumeral") 0 2 cs = (int_private% "Numeral.value") ((num cs : Nat) : Int) := by
  have hb : based 2 cs = (2, false, cs) := noPre h
  have hr : ∀ c ∈ cs.reverse, Bin c := fun c hc => h c (List.mem_reverse.mp hc)
  rw [readNumeral_eq 0 2 cs, noBlank h, noSign h]
  show judge 0 false (based 2 cs).1 (based 2 cs).2.1 (digits? (based 2 cs).1 (((based 2 cs).2.2.reverse.dropWhile blank).reverse)) = _
  rw [hb]
  show judge 0 false 2 false (digits? 2 ((cs.reverse.dropWhile blank).reverse)) = _
  rw [noBlank hr, List.reverse_reverse, all h hne]
  show (int_private% "Numeral.value") (((cs.map (· - 48)).toArray.foldl (fun acc d => acc * 2 + d) 0 : Nat) : Int) = _
  rw [worth]
theorem seen {x : Str} (h : ∀ c ∈ x.cps.toList, Bin c) : numTextOf x = x.cps.toList ∧ numSeenOf x = x.cps.toList := by
  have e1 : numTextOf x = x.cps.toList := if_pos (by
    rw [← Array.all_toList, List.all_eq_true]
    exact fun c hc => decide_eq_true (h c hc).plain.2.2.1)
  refine ⟨e1, ?_⟩
  show List.takeWhile _ (numTextOf x) = _
  rw [e1]
  exact takeWhile_all fun c hc => bne_iff_ne.mpr (h c hc).plain.2.1
set_option maxHeartbeats 4000000 in
theorem gives {x : PySem.Str} {u t : Tok} (hl : x.length ≤ 640) (h : ∀ c ∈ x.cps.toList, Bin c) (hne : x.cps.toList ≠ []) :
    Gives (Builtin.«int.__new__» ⟨[.type "int", .str x u, .int 2 t], []⟩) (.int ((num x.cps.toList : Nat) : Int)) :=
  .of_wp fun M A E s Q hQ => by
    obtain ⟨hp, g, d, tk, os⟩ := s
    have f1 := F.conv_sub_int
    have f2 := F.madeHere_int
    have f6 : typeOf (.str x u) = pure (.type "str") := rfl
    obtain ⟨e1, e2⟩ := seen h
    have hk : Hx.Hid ((numSeenOf x).length ≤ 640 ∧ (int_private% "readNumeral") 0 2 (numSeenOf x) = (int_private% "Numeral.value") ((num x.cps.toList : Nat) : Int) ∧ ((numSeenOf x).length == (numTextOf x).length) = true) := by
      refine ⟨?_, ?_, ?_⟩
      · rw [e2, Array.length_toList]
        exact hl
      · rw [e2]
        exact read h hne
      · rw [e1, e2]
        exact beq_self_eq_true _
    clear e1 e2 hl hne h
    repeat (any_goals (first
      | assumption
      | ((with_reducible show wpAny _ _ ((int_private% "intFromText") _ _ _) _ _ _); refine Hx.wp_textB hk.out.1 hk.out.2.1 hk.out.2.2 ?_)
      | wp_step))
    all_goals (try exact ⟨_, rfl, hQ⟩)
end Two
def rIntBin : List V → Hp → VK → Prop := fun xs H Q => ∃ l : List Nat, xs = [.str (SX.S l), .int 2] ∧ (l ≠ [] ∧ l.length ≤ 640 ∧ ∀ c ∈ l, Two.Bin c) ∧ Q (.int ((Two.num l : Nat) : Int)) H
theorem call_int_bin {X : Cx} : CallR X (.type "int") rIntBin := by
  intro pins s σ H xs us Q I r h
  obtain ⟨l, rfl, ⟨hne, hl, hx⟩, q⟩ := h
  obtain ⟨u, w', rfl, ⟨t1, rfl⟩, ⟨t2, rfl⟩⟩ := vals2 r
  exact callType_new F.called_int F.newNe_int (Hx.typeCall_int_2 _ _) (Hx.newCall_int_2 _ _) (fun obj => F.initArgs_range_2 obj _ _) F.entry_int_new
    (Two.gives (x := SX.S l) (u := t1) (t := t2) (by rw [SX.S_len]; exact hl) hx hne).meets (show (Made.int ((Two.num l : Nat) : Int)).post _ s from ⟨rfl, .int ((Two.num l : Nat) : Int), H, I.tok _, ⟨_, rfl⟩, q⟩)
/-! ### f"{n:b}" -/
def tFmtB (te : TE) : TE := fun σ H Q => te σ H fun x H1 => ∃ n : Nat, x = .int (n : Int) ∧ (dig n).length ≤ 16777216 ∧ Q (.str (SX.S (dig n))) H1
theorem spec_b : Builtin.Float.parseFormatSpec (Str.ofString "b").cps.toList "int" 62 = .ok { fill := 32, align := 62, type := some 98 } := by kernel_rfl
theorem pe_fmtB {X : Cx} {e : Expr} {te : TE} {j : Nat} {p1 p2 p3 p4 : Pos} (he : PE X e te) : PE X (.JoinedStr [.FormattedValue e (-1) (some (.JoinedStr [.Constant (.str "b") j p1] p2)) p3] p4) (tFmtB te) := by
  refine ⟨fun pins s σ H Q I h => ?_⟩
  refine wpAny_JoinedStr_one (wpAny_FormattedValue_spec (thn (he.run pins s σ H _ I h) fun v s1 hv => ?_))
  obtain ⟨x, H1, I1, r1, n, rfl, hz, q⟩ := hv
  obtain ⟨t, rfl⟩ := r1
  refine wpAny_JoinedStr_one (thn ((pe_str (X := X) (x := "b") (j := j) (pos := p1)).run pins s1 σ H1 (fun v H2 => v = .str "b" ∧ H2 = H1) I1 ⟨rfl, rfl⟩) fun v s2 hv => ?_)
  obtain ⟨x, H2, I2, r2, rfl, rfl⟩ := hv
  obtain ⟨t2, rfl⟩ := r2
  have hd : (Nat.toDigits 2 n).length ≤ sizeLine := by
    have h := hz
    unfold dig at h
    rw [List.length_map] at h
    rw [sizeLine_eq]
    exact h
  refine ⟨_, t2, rfl, wpAny_formatField_spec (by decide) (fun s' => typeIs_int s' _ t) F.slot_int_format F.entry_int_format F.args_int_format_2 (fun u => gives_fmtB n t u hd spec_b (by decide) (by decide)) ⟨.str (SX.S (dig n)), _, I2.tok _, ⟨_, rfl⟩, q⟩ (by decide) ?_⟩
  show (List.toArray _).size ≤ _
  rw [List.size_toArray, List.length_map]
  exact hd
/-! ### a def under its name, with its promise -/
structure Df (K : PySem.W.Frag) (mg : Str → Option Value) (x : Str) (st : Stmt) (ps : List Str) (f : Addr) (fd : FuncData) : Prop where
  fn : Fun K x x st f fd
  bi : Binds K fd ps []
  gl : mg x = some (.ref f)
structure Cl (P : Program) (w : World) (K : PySem.W.Frag) (mg : Str → Option Value) (base : Heap) (CX : CXT) (k : Nat) (x : Str) (sp : Sp) : Prop where
  ex : ∃ (f : Addr) (fd : FuncData) (ps : List Str), FnOk P w K mg base CX k f fd ps sp ∧ mg x = some (.ref f) ∧ PySem.W.keepIn K (.ref f) = true ∧ Binds K fd ps []
structure Ck (P : Program) (w : World) (K : PySem.W.Frag) (mg : Str → Option Value) (base : Heap) (CX : CXT) (k n : Nat) (x : Str) (ks : List Str) (gV : List V → List V → List V) (sp : Sp) : Prop where
  ex : ∃ (f : Addr) (fd : FuncData) (ps : List Str) (g : List Value → List Value → List Value), FnOk P w K mg base CX k f fd ps sp ∧ mg x = some (.ref f) ∧ PySem.W.keepIn K (.ref f) = true ∧ KBn K fd ps n ks g gV
section
variable {P : Program} {w : World} {K : PySem.W.Frag} {mg : Str → Option Value} {base : Heap} {CX : CXT} {k j : Nat} {x : Str} {sp : Sp}
theorem Df.cl {st : Stmt} {ps : List Str} {f : Addr} {fd : FuncData} (D : Df K mg x st ps f fd) (h : FnOk P w K mg base CX k f fd ps sp) : Cl P w K mg base CX k x sp := ⟨f, fd, ps, h, D.gl, D.fn.kp, D.bi⟩
theorem pe_cl {X : Cx} {p pos : Pos} {e : Expr} {es : List Expr} {t : TA} (c : Cl X.prog X.w X.K X.mg X.base CX0 k x sp) (hr : Room j X.A) (hk : k ≤ j) (hg : Gl X x) (ha : PA X (e :: es) t)
    (hdb : (x == ("__debug__" : Str)) = false := by decide) (he : starEach (e :: es) X.env = (false, eval e X.env) :: starEach es X.env := by rfl) (hpl : (backTo pos (starEach es X.env)).any (·.1) = false := by rfl) :
    PE X (.Call (.Name x p) (e :: es) [] pos) (tCall sp [] E0 t) := by
  obtain ⟨f, fd, ps, F, hm, kp, b⟩ := c.ex
  exact pe_call F (hr.mono hk) hg hm kp b .nil pass0 ha hdb he hpl
theorem pe_ck0 {X : Cx} {p pos : Pos} {kws : List Keyword} {tk : TA} {ks : List Str} {gV : List V → List V → List V} (c : Ck X.prog X.w X.K X.mg X.base CX0 k 0 x ks gV sp) (hr : Room j X.A) (hk : k ≤ j) (hg : Gl X x) (hkw : PK X kws tk)
    (hall : (backToKw pos (keywordEach kws X.env)).all (·.1.isSome) = true := by rfl) (hks : (backToKw pos (keywordEach kws X.env)).filterMap (·.1) = ks := by rfl)
    (hdb : (x == ("__debug__" : Str)) = false := by decide)
    (hpl : ((backTo pos (starEach [] X.env)).any (·.1) || (backToKw pos (keywordEach kws X.env)).any (·.1.isNone)) = false := by rfl) :
    PE X (.Call (.Name x p) [] kws pos) (tCallN 0 ks.length sp gV E0 tNil tk) := by
  obtain ⟨f, fd, ps, g, F, hm, kp, b⟩ := c.ex
  exact pe_callN0 F (hr.mono hk) hg hm kp b pass0 hkw hall hks hdb hpl
end
/-! ### rules that speak of the written part, K named (a comprehension's block asks it so) -/
section
variable {X : Cx}
theorem ixL (K : PySem.W.Frag) (h : X.K = K := by rfl) : IxR X (rIxL K) := by
  subst h
  exact ix_list
theorem ixT (K : PySem.W.Frag) (h : X.K = K := by rfl) : IxR X (rIxT K) := by
  subst h
  exact ix_tup
def rLenS (K : PySem.W.Frag) : List V → Hp → VK → Prop := fun xs H Q => ∃ p ys, xs = [.ref p] ∧ (SqL K H p ys ∨ SqT K H p ys) ∧ Q (.int (ys.length : Nat)) H
theorem lenS (K : PySem.W.Frag) (h : X.K = K := by rfl) : CallR X (.builtin "len") (rLenS K) := by
  subst h
  exact call_len_seq
def rListOf (K : PySem.W.Frag) : List V → Hp → VK → Prop := fun xs H Q => ∃ p ys, xs = [.ref p] ∧ (SqL K H p ys ∨ SqT K H p ys) ∧ ∀ l, H l = none → Q (.ref l) (upd H l (.lst ys))
theorem listOf (K : PySem.W.Frag) (h : X.K = K := by rfl) : CallR X (.type "list") (rListOf K) := by
  subst h
  exact call_list_of
def rTupOf (K : PySem.W.Frag) : List V → Hp → VK → Prop := fun xs H Q => ∃ p ys, xs = [.ref p] ∧ ((SqL K H p ys ∧ ∀ l, H l = none → Q (.ref l) (upd H l (.tup ys))) ∨ (SqT K H p ys ∧ Q (.ref p) H))
theorem tupOf (K : PySem.W.Frag) (h : X.K = K := by rfl) : CallR X (.type "tuple") (rTupOf K) := by
  subst h
  exact call_tuple_of
theorem crSum (K : PySem.W.Frag) (hc : X.calm = true) (h : X.K = K := by rfl) : CallR X (.builtin "sum") (rSum K) := by
  subst h
  exact cr_sum hc
theorem crAll (K : PySem.W.Frag) (hc : X.calm = true) (h : X.K = K := by rfl) : CallR X (.builtin "all") (rAll K) := by
  subst h
  exact cr_all hc
theorem isiK (K : PySem.W.Frag) (h : X.K = K := by rfl) : CallR X (.builtin "isinstance") (rIsi K) := by
  subst h
  exact call_isi
theorem opCatA (K : PySem.W.Frag) (h : X.K = K := by rfl) : OpR X (binaryOp .Add) (rCatA K) := by
  subst h
  exact op_catA
theorem slL (K : PySem.W.Frag) (h : X.K = K := by rfl) : SlR X (rSlL K) := by
  subst h
  exact sl_list
def rJoin (K : PySem.W.Frag) : V → List V → Hp → VK → Prop := fun x xs H Q => ∃ (a : Str) (p : Addr) (ys : List Str), x = .str a ∧ xs = [.ref p] ∧ (SqL K H p (ys.map V.str) ∨ SqT K H p (ys.map V.str)) ∧ (ys.map (·.length)).sum + ys.length * a.length ≤ 16777216 ∧ Q (.str (Txt.join a ys)) H
theorem mtJoin (K : PySem.W.Frag) (h : X.K = K := by rfl) : MtR X "str.join" (rJoin K) := by
  subst h
  exact mt_join
theorem slTA (K : PySem.W.Frag) (h : X.K = K := by rfl) : SlR X (rSlA K) := by
  subst h
  exact sl_tupA
/-- a built-in class as a value -/
theorem pe_ty {x : Str} {pos : Pos} (t : String) (hg : Gl X x) (hm : X.mg x = none) (hv : bootBuiltins x = some (.type t)) (hn : x ≠ "__name__" := by decide +kernel) (hd : (x == ("__debug__" : Str)) = false := by decide +kernel) : PE X (.Name x pos) (tC (.ty t)) := pe_bltn hg hm hv rfl hn hd
end

theorem Vals.rev : ∀ {xs : List V} {us : List Value}, Vals xs us → Vals xs.reverse us.reverse
  | _, _, .nil => .nil
  | _, _, .cons r t => by
    rw [List.reverse_cons, List.reverse_cons]
    exact Vals.append (Vals.rev t) (.cons r .nil)
theorem Fun.kb {K : PySem.W.Frag} {x qual : Str} {st : Stmt} {f : Addr} {fd : FuncData} {ps ks : List Str} {g : List Value → List Value → List Value} {gV : List V → List V → List V} (F : Fun K x qual st f fd) (n : Nat)
    (h : ∀ (kV doc pm : Value) (an : Option Addr) (cdv ct : Value) (us ws : List Value), us.length = n → ws.length = ks.length → bindArgs (PySem.W.fnOf x qual (defArgs st) (defBody st) (defScope st) .none kV doc pm an cdv ct) ⟨us, ks.zip ws⟩ = pure (ps.zip (g us ws)))
    (hrel : ∀ {vs : List V} {us : List Value} {zs : List V} {ws : List Value}, Vals vs us → Vals zs ws → Vals (gV vs zs) (g us ws)) : KBn K fd ps n ks g gV := by
  obtain ⟨oc, od, kV, doc, pm, an, cdv, ct, osl, rfl, lk, hcd⟩ := F.ex
  exact ⟨fun s us ws _ l1 l2 => .of_eq (h kV doc pm an cdv ct us ws l1 l2), hrel⟩

/-! ### own errors -/
structure Exn (K : PySem.W.Frag) (mg : Str → Option Value) (x : Str) (C : Addr) : Prop where
  inn : PySem.W.excIn K C [.type "ValueError", .type "Exception", .type "BaseException", .type "object"] "ValueError.__new__" = true
  gl : mg x = some (.ref C)
  kp : PySem.W.keepIn K (.ref C) = true
  ba : PySem.W.subIn K (.ref C) (.type "BaseException") = some true
  ty : PySem.W.typeIn K (.ref C) = some (.type "type")
section
variable {X : Cx} {C : Addr} {x m : Str} {j k i : Nat} {p p2 pos pos2 : Pos} {W : WX} {sp : Sp} {e : Expr} {es : List Expr} {t : TA}
theorem ps_raiseE (e : Exn X.K X.mg x C) (hc : X.calm = true) (tk : Takes X W) (hg : Gl X x) (hdb : (x == ("__debug__" : Str)) = false := by decide) :
    PS X (.Raise (some (.Call (.Name x p) [.Constant (.str m) j p2] [] pos)) none pos2) (fun _ σ H => W (.ref C) none σ H) :=
  ps_raise hc tk (pmk_own PySem.F.excBase_ValueError e.inn e.gl e.kp (raises_own e.ba e.ty) hg hdb)
theorem pe_clX (c : Cl X.prog X.w X.K X.mg X.base (L2.CX X.prog X.w) k x sp) (hr : Room i X.A) (hk : k ≤ i) (hg : Gl X x) (tk : Takes X W) (ha : PA X (e :: es) t)
    (hdb : (x == ("__debug__" : Str)) = false := by decide) (he : starEach (e :: es) X.env = (false, eval e X.env) :: starEach es X.env := by rfl) (hpl : (backTo pos (starEach es X.env)).any (·.1) = false := by rfl) :
    PE X (.Call (.Name x p) (e :: es) [] pos) (tCallS sp (WE W) t) := by
  obtain ⟨f, fd, ps, F, hm, kp, b⟩ := c.ex
  exact pe_callS F (hr.mono hk) hg hm kp b (fun σ => passAt tk σ) ha hdb he hpl
end

/-! ### data: what a value is, to any depth -/
theorem dp_all_len {K : PySem.W.Frag} {H : Hp} : ∀ {vs : List V} {ds : List PyData}, DpAll K H vs ds → vs.length = ds.length
  | _, _, .nil => rfl
  | _, _, .cons _ t => congrArg Nat.succ (dp_all_len t)
theorem dp_all_get {K : PySem.W.Frag} {H : Hp} : ∀ {vs : List V} {ds : List PyData} {i : Nat} {v : V}, DpAll K H vs ds → vs[i]? = some v → ∃ d, ds[i]? = some d ∧ Dp K H v d
  | _, _, _, _, .nil, h => by simp at h
  | _, _, 0, v, .cons h t, e => by
    have e' := Option.some.inj e
    subst e'
    exact ⟨_, rfl, h⟩
  | _, _, i + 1, v, .cons h t, e => dp_all_get (i := i) t e
theorem same_sqt {K : PySem.W.Frag} {H H' : Hp} {a : Addr} {xs : List V} (e : Same H H') (h : SqT K H a xs) : SqT K H' a xs := by
  rcases h with (h | ⟨o, h⟩) | h
  · exact .inl (.inl (e _ _ h))
  · exact .inl (.inr ⟨o, e _ _ h⟩)
  · exact .inr h
mutual
theorem dp_same {K : PySem.W.Frag} {H H' : Hp} (e : Same H H') : ∀ (d : PyData) {v : V}, Dp K H v d → Dp K H' v d
  | .none, _, .non => .non
  | .bool _, _, .bl b => .bl b
  | .int _, _, .int i => .int i
  | .str _, _, .str x => .str x
  | .list ds, _, .lst hs ha => .lst (e.seq hs) (dps_same e ds ha)
  | .tuple ds, _, .tup hs ha => .tup (same_sqt e hs) (dps_same e ds ha)
  | .dict _, _, h => by cases h
theorem dps_same {K : PySem.W.Frag} {H H' : Hp} (e : Same H H') : ∀ (ds : List PyData) {vs : List V}, DpAll K H vs ds → DpAll K H' vs ds
  | [], _, .nil => .nil
  | d :: ds, _, .cons h t => .cons (dp_same e d h) (dps_same e ds t)
end
def okT (x : Str) : Prop := PySem.PyData.strOk x = true ∧ x.length ≤ 5000
/-- plain data of so many levels at most, nothing large -/
def Gd : Nat → PyData → Prop
  | 0, d => match d with
    | .none => True
    | .bool _ => True
    | .int _ => True
    | .str x => okT x
    | _ => False
  | n + 1, d => match d with
    | .none => True
    | .bool _ => True
    | .int _ => True
    | .str x => okT x
    | .list xs => xs.length ≤ 5000 ∧ ∀ x ∈ xs, Gd n x
    | .tuple xs => xs.length ≤ 5000 ∧ ∀ x ∈ xs, Gd n x
    | .dict _ => False
theorem gd_str {n : Nat} {x : Str} (h : Gd n (.str x)) : okT x := by
  cases n with
  | zero => exact h
  | succ n => exact h
theorem gd_tup {n : Nat} {xs : List PyData} (h : Gd n (.tuple xs)) : xs.length ≤ 5000 ∧ ∃ m, n = m + 1 ∧ ∀ x ∈ xs, Gd m x := by
  cases n with
  | zero => exact h.elim
  | succ n => exact ⟨h.1, n, rfl, h.2⟩
theorem gd_lst {n : Nat} {xs : List PyData} (h : Gd n (.list xs)) : xs.length ≤ 5000 ∧ ∃ m, n = m + 1 ∧ ∀ x ∈ xs, Gd m x := by
  cases n with
  | zero => exact h.elim
  | succ n => exact ⟨h.1, n, rfl, h.2⟩
theorem gd_up : ∀ {n : Nat} {d : PyData}, Gd n d → Gd (n + 1) d
  | 0, .none, h => h
  | 0, .bool _, h => h
  | 0, .int _, h => h
  | 0, .str _, h => h
  | n + 1, .none, h => h
  | n + 1, .bool _, h => h
  | n + 1, .int _, h => h
  | n + 1, .str _, h => h
  | n + 1, .list xs, h => ⟨h.1, fun x hx => gd_up (h.2 x hx)⟩
  | n + 1, .tuple xs, h => ⟨h.1, fun x hx => gd_up (h.2 x hx)⟩
theorem gd_le {n m : Nat} {d : PyData} (h : Gd n d) (hm : n ≤ m) : Gd m d := by
  induction hm with
  | refl => exact h
  | step _ ih => exact gd_up ih
theorem depthAll_le {n : Nat} : ∀ {xs : List PyData}, (∀ x ∈ xs, x.depth ≤ n) → PyData.depthAll xs ≤ n
  | [], _ => by
    unfold PyData.depthAll
    exact Nat.zero_le _
  | x :: xs, h => by
    unfold PyData.depthAll
    exact Nat.max_le.mpr ⟨h x List.mem_cons_self, depthAll_le fun y hy => h y (List.mem_cons_of_mem _ hy)⟩
theorem layAll_of : ∀ {xs : List PyData}, (∀ x ∈ xs, x.canLay0 = true) → PyData.canLayAll0 xs = true
  | [], _ => by
    unfold PyData.canLayAll0
    rfl
  | x :: xs, h => by
    unfold PyData.canLayAll0
    rw [h x List.mem_cons_self, layAll_of fun y hy => h y (List.mem_cons_of_mem _ hy)]
    rfl
theorem gd_facts : ∀ {n : Nat} {d : PyData}, Gd n d → d.canLay0 = true ∧ d.depth ≤ n
  | 0, .none, h => ⟨by unfold PyData.canLay0; rfl, by unfold PyData.depth; omega⟩
  | 0, .bool _, h => ⟨by unfold PyData.canLay0; rfl, by unfold PyData.depth; omega⟩
  | 0, .int _, h => ⟨by unfold PyData.canLay0; rfl, by unfold PyData.depth; omega⟩
  | 0, .str _, h => ⟨by unfold PyData.canLay0; exact h.1, by unfold PyData.depth; omega⟩
  | n + 1, .none, h => ⟨by unfold PyData.canLay0; rfl, by unfold PyData.depth; omega⟩
  | n + 1, .bool _, h => ⟨by unfold PyData.canLay0; rfl, by unfold PyData.depth; omega⟩
  | n + 1, .int _, h => ⟨by unfold PyData.canLay0; rfl, by unfold PyData.depth; omega⟩
  | n + 1, .str _, h => ⟨by unfold PyData.canLay0; exact h.1, by unfold PyData.depth; omega⟩
  | n + 1, .list xs, h => ⟨by unfold PyData.canLay0; exact layAll_of fun x hx => (gd_facts (h.2 x hx)).1, by
      unfold PyData.depth
      have := depthAll_le fun x hx => (gd_facts (h.2 x hx)).2
      omega⟩
  | n + 1, .tuple xs, h => ⟨by unfold PyData.canLay0; exact layAll_of fun x hx => (gd_facts (h.2 x hx)).1, by
      unfold PyData.depth
      have := depthAll_le fun x hx => (gd_facts (h.2 x hx)).2
      omega⟩
theorem gd_shaped {n : Nat} {d : PyData} (h : Gd n d) (hn : n ≤ 64) : SeqAt.shaped d = true := by
  obtain ⟨h1, h2⟩ := gd_facts h
  unfold SeqAt.shaped
  rw [h1, decide_eq_true (Nat.le_trans h2 hn)]
  rfl
/-! ### types -/
def tyN : PyData → String
  | .none => "NoneType"
  | .bool _ => "bool"
  | .int _ => "int"
  | .str _ => "str"
  | .list _ => "list"
  | .tuple _ => "tuple"
  | .dict _ => "dict"
theorem dp_ty {K : PySem.W.Frag} {H : Hp} {v : V} : ∀ {d : PyData}, Dp K H v d → TyX K H v (.type (tyN d))
  | _, .non => .base .non
  | _, .bl b => .base (.bl b)
  | _, .int i => .base (.int i)
  | _, .str x => .base (.str x)
  | _, .lst hs _ => by
    rcases hs with (h | ⟨o, h⟩) | ⟨o, _, _, h, hc, _⟩
    · exact .base (.lst h)
    · exact .base (.frz h)
    · exact .kList h hc
  | _, .tup hs _ => by
    rcases hs with (h | ⟨o, h⟩) | ⟨o, _, _, h, hc, _⟩
    · exact .base (.tup h)
    · exact .fTuple h
    · exact .kTuple h hc
def isInt : PyData → Bool
  | .int _ => true
  | .bool _ => true
  | _ => false
def isBool : PyData → Bool
  | .bool _ => true
  | _ => false
def isStr : PyData → Bool
  | .str _ => true
  | _ => false
def isTup : PyData → Bool
  | .tuple _ => true
  | _ => false
theorem kit_int {K : PySem.W.Frag} (d : PyData) : PySem.W.kitOne K (.type (tyN d)) (.type "int") = some (isInt d) := by
  cases d with
  | none => exact kit_ty (show kitB "NoneType" "int" = some false by decide +kernel)
  | bool _ => exact kit_ty (show kitB "bool" "int" = some true by decide +kernel)
  | int _ => exact kit_ty (show kitB "int" "int" = some true by decide +kernel)
  | str _ => exact kit_ty (show kitB "str" "int" = some false by decide +kernel)
  | list _ => exact kit_ty (show kitB "list" "int" = some false by decide +kernel)
  | tuple _ => exact kit_ty (show kitB "tuple" "int" = some false by decide +kernel)
  | dict _ => exact kit_ty (show kitB "dict" "int" = some false by decide +kernel)
theorem kit_bool {K : PySem.W.Frag} (d : PyData) : PySem.W.kitOne K (.type (tyN d)) (.type "bool") = some (isBool d) := by
  cases d with
  | none => exact kit_ty (show kitB "NoneType" "bool" = some false by decide +kernel)
  | bool _ => exact kit_ty (show kitB "bool" "bool" = some true by decide +kernel)
  | int _ => exact kit_ty (show kitB "int" "bool" = some false by decide +kernel)
  | str _ => exact kit_ty (show kitB "str" "bool" = some false by decide +kernel)
  | list _ => exact kit_ty (show kitB "list" "bool" = some false by decide +kernel)
  | tuple _ => exact kit_ty (show kitB "tuple" "bool" = some false by decide +kernel)
  | dict _ => exact kit_ty (show kitB "dict" "bool" = some false by decide +kernel)
theorem kit_str {K : PySem.W.Frag} (d : PyData) : PySem.W.kitOne K (.type (tyN d)) (.type "str") = some (isStr d) := by
  cases d with
  | none => exact kit_ty (show kitB "NoneType" "str" = some false by decide +kernel)
  | bool _ => exact kit_ty (show kitB "bool" "str" = some false by decide +kernel)
  | int _ => exact kit_ty (show kitB "int" "str" = some false by decide +kernel)
  | str _ => exact kit_ty (show kitB "str" "str" = some true by decide +kernel)
  | list _ => exact kit_ty (show kitB "list" "str" = some false by decide +kernel)
  | tuple _ => exact kit_ty (show kitB "tuple" "str" = some false by decide +kernel)
  | dict _ => exact kit_ty (show kitB "dict" "str" = some false by decide +kernel)
theorem kit_tup {K : PySem.W.Frag} (d : PyData) : PySem.W.kitOne K (.type (tyN d)) (.type "tuple") = some (isTup d) := by
  cases d with
  | none => exact kit_ty (show kitB "NoneType" "tuple" = some false by decide +kernel)
  | bool _ => exact kit_ty (show kitB "bool" "tuple" = some false by decide +kernel)
  | int _ => exact kit_ty (show kitB "int" "tuple" = some false by decide +kernel)
  | str _ => exact kit_ty (show kitB "str" "tuple" = some false by decide +kernel)
  | list _ => exact kit_ty (show kitB "list" "tuple" = some false by decide +kernel)
  | tuple _ => exact kit_ty (show kitB "tuple" "tuple" = some true by decide +kernel)
  | dict _ => exact kit_ty (show kitB "dict" "tuple" = some false by decide +kernel)
/-! ### what a block is -/
def whole : PyData → Int → Int → Bool
  | .int i, lo, hi => decide (lo ≤ i) && decide (i ≤ hi)
  | _, _, _ => false
def strLen (m : Int) : PyData → Bool
  | .str x => decide ((x.length : Int) = m)
  | _ => false
def bitRow (m : Int) : PyData → Bool
  | .str x => decide ((x.length : Int) = m) && x.cps.toList.all (fun c => c == 48 || c == 49)
  | _ => false
def rowsOk : PyData → Int → Int → Bool
  | .tuple xs, many, m => decide ((xs.length : Int) = many) && xs.all (bitRow m)
  | _, _, _ => false
def named (x : Str) (d : PyData) : Bool := PyData.eqv d (.str x)
def genRows : PyData → PyData → PyData → Bool
  | .int n, .int m, r => rowsOk r (1 * 2 ^ n.toNat) m
  | _, _, _ => false
def genOk : PyData → Bool
  | .tuple [k, n, m, r] => named "generator" k && whole n 1 10 && whole m 1 40 && genRows n m r
  | _ => false
def sumLe : PyData → PyData → Bool
  | .int n, .int l => decide (n + l ≤ 12)
  | _, _ => false
def funTabs : PyData → PyData → PyData → PyData → Bool
  | .int n, .int l, .int m, .tuple ts => decide ((ts.length : Int) = 1 * 2 ^ n.toNat) && ts.all (fun r => rowsOk r (1 * 2 ^ l.toNat) m)
  | _, _, _, _ => false
def funOk : PyData → Bool
  | .tuple [k, n, l, m, t] => named "function" k && whole n 1 8 && whole l 1 8 && sumLe n l && whole m 1 40 && funTabs n l m t
  | _ => false
theorem gen_no {xs : List PyData} (h : ¬ xs.length = 4) : genOk (.tuple xs) = false := by
  unfold genOk
  split
  · rename_i e
    cases e
    exact absurd rfl h
  · rfl
theorem fun_no {xs : List PyData} (h : ¬ xs.length = 5) : funOk (.tuple xs) = false := by
  unfold funOk
  split
  · rename_i e
    cases e
    exact absurd rfl h
  · rfl
def blockOk (d : PyData) : Bool := genOk d || funOk d
/-! ### strip of 0 and 1 -/
theorem strip_all (x : Str) : decide (V.str (Txt.stripChars x "01") = V.str "") = x.cps.toList.all (fun c => c == 48 || c == 49) := by
  have goes : ∀ c : Nat, (("01" : Str).cps.contains c) = (c == 48 || c == 49) := fun c => by
    show (#[48, 49] : Array Nat).contains c = _
    by_cases h1 : c = 48
    · subst h1
      simp
    · by_cases h2 : c = 49
      · subst h2
        simp
      · simp [h1, h2]
  have hn : x.cps.toList.length = x.length := by simp [Str.length]
  have key : Txt.stripChars x "01" = "" ↔ ∀ k, k < x.length → (("01" : Str).cps.contains (x.cps.getD k 0)) = true := by
    unfold Txt.stripChars
    rw [stripBy_eq]
    obtain ⟨a1, a2, a3⟩ := lo_facts ("01" : Str).cps.contains x
    obtain ⟨b1, b2, b3, _⟩ := hi_facts ("01" : Str).cps.contains x _ a1
    generalize stripLo ("01" : Str).cps.contains true x = lo at a1 a2 a3 b1 b2 b3
    generalize stripHi ("01" : Str).cps.contains true x lo = hi at b1 b2 b3
    have hl : (Builtin.Str.strSub x lo hi).cps.toList = (x.cps.toList.drop lo).take (hi - lo) := PySem.StrLaws.strSub_toList x lo hi
    constructor
    · intro e k hk
      have h0 : (x.cps.toList.drop lo).take (hi - lo) = [] := by
        rw [← hl, e]
        rfl
      have h1 := congrArg List.length h0
      rw [List.length_take, List.length_drop, hn] at h1
      have h2 : min (hi - lo) (x.length - lo) = 0 := h1
      by_cases hk' : k < lo
      · exact a2 k hk'
      · exact b3 k (by omega) hk
    · intro h
      have e : lo = x.length := by
        rcases a3 with z | z
        · exact z
        · by_cases c : lo < x.length
          · rw [h lo c] at z
            cases z
          · omega
      refine TL.ext_tl ?_
      show (Builtin.Str.strSub x lo hi).cps.toList = []
      rw [hl, List.drop_eq_nil_of_le (by omega)]
      exact List.take_nil
  have e2 : (∀ k, k < x.length → (("01" : Str).cps.contains (x.cps.getD k 0)) = true) ↔ x.cps.toList.all (fun c => c == 48 || c == 49) = true := by
    rw [List.all_eq_true]
    constructor
    · intro h c hc
      obtain ⟨k, hk, e⟩ := List.getElem_of_mem hc
      have := h k (by omega)
      rw [← getD_list, List.getD_eq_getElem?_getD, List.getElem?_eq_getElem hk] at this
      rw [← goes c, ← e]
      exact this
    · intro h k hk
      rw [← getD_list, List.getD_eq_getElem?_getD, List.getElem?_eq_getElem (by omega)]
      rw [goes]
      exact h _ (List.getElem_mem _)
  by_cases c : Txt.stripChars x "01" = ""
  · rw [c, decide_eq_true rfl]
    exact (e2.mp (key.mp c)).symm
  · rw [decide_eq_false fun z => c (V.str.inj z)]
    cases hq : x.cps.toList.all (fun c => c == 48 || c == 49)
    · rfl
    · exact absurd (key.mpr (e2.mpr hq)) c
/-! ### what the law makes -/
def rowsD (rows : List (List Bool)) : PyData := .tuple (rows.map fun r => .str (sb r))
def tabD (n m : Nat) (rows : List (List Bool)) : PyData := .tuple [.str "generator", .int (n : Int), .int (m : Int), rowsD rows]
def funD (n l m : Nat) (tabs : List (List (List Bool))) : PyData := .tuple [.str "function", .int (n : Int), .int (l : Int), .int (m : Int), .tuple (tabs.map rowsD)]
theorem dp_bits {K : PySem.W.Frag} {H : Hp} : ∀ rows : List (List Bool), DpAll K H (rows.map fun r => V.str (sb r)) (rows.map fun r => PyData.str (sb r))
  | [] => .nil
  | r :: rows => .cons (.str _) (dp_bits rows)
theorem dpAll_snoc {K : PySem.W.Frag} {H : Hp} {v : V} {d : PyData} : ∀ {vs : List V} {ds : List PyData}, DpAll K H vs ds → Dp K H v d → DpAll K H (vs ++ [v]) (ds ++ [d])
  | _, _, .nil, h => .cons h .nil
  | _, _, .cons h t, h' => .cons h (dpAll_snoc t h')

def topS (i : Nat) : Stmt := PySem.Challenge.pw_breakback_k16_fractions.main.body.getD i (.Pass ⟨0, 0, 0, 0⟩)
abbrev s_fraction : Stmt := topS 4
abbrev s_add : Stmt := topS 5
abbrev s_less : Stmt := topS 6
abbrev s_times : Stmt := topS 7
abbrev s_law_draws : Stmt := topS 9
abbrev s_law_take : Stmt := topS 10
abbrev s_law_gcd : Stmt := topS 11
abbrev s_law_lowest : Stmt := topS 12
abbrev s_law_whole : Stmt := topS 13
abbrev s_law_same : Stmt := topS 14
abbrev s_law_is_sum : Stmt := topS 15
abbrev s_law_asked : Stmt := topS 16
abbrev s_law : Stmt := topS 17
theorem sc_fraction : FnScope ["numerator", "denominator", "common"] ["numerator", "denominator"] (defScope s_fraction) := ⟨rfl, rfl, rfl, by decide +kernel, rfl, by decide +kernel, by decide +kernel⟩
theorem sc_add : FnScope ["first", "second"] ["first", "second"] (defScope s_add) := ⟨rfl, rfl, rfl, by decide +kernel, rfl, by decide +kernel, by decide +kernel⟩
theorem sc_less : FnScope ["first", "second"] ["first", "second"] (defScope s_less) := ⟨rfl, rfl, rfl, by decide +kernel, rfl, by decide +kernel, by decide +kernel⟩
theorem sc_times : FnScope ["first", "second"] ["first", "second"] (defScope s_times) := ⟨rfl, rfl, rfl, by decide +kernel, rfl, by decide +kernel, by decide +kernel⟩
theorem sc_law_draws : FnScope ["script", "many", "rests", "draws", "k", "cell", "at", "mixed"] ["script", "many"] (defScope s_law_draws) := ⟨rfl, rfl, rfl, by decide +kernel, rfl, by decide +kernel, by decide +kernel⟩
theorem sc_law_take : FnScope ["hand", "many", "at", "draws"] ["hand", "many"] (defScope s_law_take) := ⟨rfl, rfl, rfl, by decide +kernel, rfl, by decide +kernel, by decide +kernel⟩
theorem sc_law_gcd : FnScope ["a", "b", "rest"] ["a", "b"] (defScope s_law_gcd) := ⟨rfl, rfl, rfl, by decide +kernel, rfl, by decide +kernel, by decide +kernel⟩
theorem sc_law_lowest : FnScope ["top", "bottom", "common"] ["top", "bottom"] (defScope s_law_lowest) := ⟨rfl, rfl, rfl, by decide +kernel, rfl, by decide +kernel, by decide +kernel⟩
theorem sc_law_whole : FnScope ["hand", "kind", "number", "k"] ["hand"] (defScope s_law_whole) := ⟨rfl, rfl, rfl, by decide +kernel, rfl, by decide +kernel, by decide +kernel⟩
theorem sc_law_same : FnScope ["told", "due"] ["told", "due"] (defScope s_law_same) := ⟨rfl, rfl, rfl, by decide +kernel, rfl, by decide +kernel, by decide +kernel⟩
theorem sc_law_is_sum : FnScope ["one", "two", "due", "other", "product"] ["one", "two"] (defScope s_law_is_sum) := ⟨rfl, rfl, rfl, by decide +kernel, rfl, by decide +kernel, by decide +kernel⟩
theorem sc_law_asked : FnScope ["hand", "found", "k", "top", "bottom", "due", "factor"] ["hand"] (defScope s_law_asked) := ⟨rfl, rfl, rfl, by decide +kernel, rfl, by decide +kernel, by decide +kernel⟩
theorem sc_law : FnScope ["script"] ["script"] (defScope s_law) := ⟨rfl, rfl, rfl, by decide +kernel, rfl, by decide +kernel, by decide +kernel⟩
structure Cs where
  BreakError : Addr
structure Txt (K : PySem.W.Frag) (mg : Str → Option Value) (cs : Cs) : Prop where
  gl_BreakError : mg "BreakError" = some (.ref cs.BreakError)
  n_abs : mg "abs" = none
  n_bool : mg "bool" = none
  n_int : mg "int" = none
  n_isinstance : mg "isinstance" = none
  n_len : mg "len" = none
  n_max : mg "max" = none
  n_min : mg "min" = none
  n_range : mg "range" = none
  n_tuple : mg "tuple" = none
  m_gcd : mg "gcd" = some (.builtin "math.gcd")
/-! ### the promises -/
/-- the hand: a list of the draws' list and the number of the next draw -/
def Hnd (H : Hp) (a d : Addr) : Prop := ∃ (ds : List Int) (i : Nat), H a = some (.lst [.ref d, .int (i : Int)]) ∧ H d = some (.lst (ds.map V.int)) ∧ (∀ x ∈ ds, 0 ≤ x) ∧ d ≠ a
/-- all but the hand is as it was -/
def Keep (a : Addr) (H H' : Hp) : Prop := ∀ b o, H b = some o → b ≠ a → H' b = some o
theorem Keep.trans {a : Addr} {H H1 H2 : Hp} (h : Keep a H H1) (h' : Keep a H1 H2) : Keep a H H2 := fun b o e n => h' b o (h b o e n) n
theorem Keep.refl (a : Addr) (H : Hp) : Keep a H H := fun _ _ e _ => e
theorem Keep.new {a p : Addr} {H : Hp} {o : HO} (np : H p = none) : Keep a H (upd H p o) := fun b u e _ => by
  rw [upd_ne (ne_of_none e np)]
  exact e
theorem same_new {H : Hp} {p : Addr} {o : HO} (h : H p = none) : Same H (upd H p o) := fun b x e => by
  rw [upd_ne (ne_of_none e h)]
  exact e
theorem Hnd.same {H H' : Hp} {a d : Addr} (h : Hnd H a d) (s : Same H H') : Hnd H' a d := by
  obtain ⟨ds, i, h1, h2, h3, h4⟩ := h
  exact ⟨ds, i, s _ _ h1, s _ _ h2, h3, h4⟩
theorem Hnd.new {H : Hp} {a d p : Addr} {o : HO} (h : Hnd H a d) (np : H p = none) : Hnd (upd H p o) a d := h.same (same_new np)
theorem Hnd.some {H : Hp} {a d : Addr} (h : Hnd H a d) : ∃ o, H a = some o := by
  obtain ⟨ds, i, h1, _⟩ := h
  exact ⟨_, h1⟩
/-- what is new is neither the hand nor the draws -/
theorem Hnd.ne {H : Hp} {a d p : Addr} (h : Hnd H a d) (np : H p = none) : p ≠ a ∧ p ≠ d := by
  obtain ⟨ds, i, h1, h2, _⟩ := h
  exact ⟨(ne_of_none h1 np).symm, (ne_of_none h2 np).symm⟩
/-- an object beside the hand may change -/
theorem Hnd.set {H : Hp} {a d p : Addr} {o : HO} (h : Hnd H a d) (pa : p ≠ a) (pd : p ≠ d) : Hnd (upd H p o) a d := by
  obtain ⟨ds, i, h1, h2, h3, h4⟩ := h
  exact ⟨ds, i, by rw [upd_ne pa.symm]; exact h1, by rw [upd_ne pd.symm]; exact h2, h3, h4⟩
theorem Keep.same {a : Addr} {H H' : Hp} (s : Same H H') : Keep a H H' := fun b o e _ => s b o e
def spDraws (K : PySem.W.Frag) : Sp := fun vs H Q _ => ∃ (a : Addr) (ns : List Int) (many : Nat), vs = [.ref a, .int (many : Int)] ∧ SqL K H a (ns.map V.int) ∧ ns.length ≤ 63 ∧ many ≤ 5000 ∧
  ∀ (p : Addr) (ds : List Int) (H' : Hp), H p = none → Same H H' → H' p = some (.lst (ds.map V.int)) → (∀ x ∈ ds, (0 : Int) ≤ x) → Q (.ref p) H'
def spTake : Sp := fun vs H Q _ => ∃ (a d : Addr) (many : Int), vs = [.ref a, .int many] ∧ 0 < many ∧ Hnd H a d ∧ ∀ r H', 0 ≤ r → r < many → Hnd H' a d → Keep a H H' → Q (.int r) H'
def spString : Sp := fun vs H Q _ => ∃ (a d : Addr) (n : Nat), vs = [.ref a, .int (n : Int)] ∧ n ≤ 5000 ∧ Hnd H a d ∧ ∀ bs H', bs.length = n → Hnd H' a d → Keep a H H' → Q (.str (sb bs)) H'
def spBits : Sp := fun vs H Q _ => ∃ n k : Nat, vs = [.int (n : Int), .int (k : Int)] ∧ n ≤ 5000 ∧ k < 2 ^ n ∧ Q (.str (sb (toB n k))) H
def spNumber : Sp := fun vs H Q _ => ∃ bs : List Bool, vs = [.str (sb bs)] ∧ bs.length ≤ 640 ∧ Q (.int ((val bs : Nat) : Int)) H
def spXor : Sp := fun vs H Q _ => ∃ l m : List Bool, vs = [.str (sb l), .str (sb m)] ∧ l.length = m.length ∧ l.length ≤ 640 ∧ Q (.str (sb (List.zipWith (fun x y => x != y) l m))) H
def spParity : Sp := fun vs H Q _ => ∃ l m : List Bool, vs = [.str (sb l), .str (sb m)] ∧ l.length = m.length ∧ l.length ≤ 640 ∧ Q (.int ((((List.zipWith (fun x y => x && y) l m).count true : Nat) : Int) % 2)) H
def spIsS : Sp := fun vs H Q _ => ∃ x y : Str, vs = [.str x, .str y] ∧ Q (.bl (decide (x = y))) H
def spIsN : Sp := fun vs H Q _ => ∃ x y : Int, vs = [.int x, .int y] ∧ Q (.bl (decide (x = y))) H
def spPair : Sp := fun vs H Q _ => ∃ l m : List Bool, vs = [.str (sb l), .str (sb m)] ∧ l.length = m.length ∧ l.length ≤ 640 ∧ ∀ H', Same H H' → Q (.bl true) H'
def spLaw (K : PySem.W.Frag) : Sp := fun vs H Q _ => ∃ (a : Addr) (ns : List Int), vs = [.ref a] ∧ SqL K H a (ns.map V.int) ∧ ns.length ≤ 63 ∧ ∀ H', Q (.bl true) H'
/-- what was made anew may change: nothing that was there is it -/
theorem Keep.set {a p : Addr} {H H' : Hp} {o : HO} (h : Keep a H H') (np : H p = none) : Keep a H (upd H' p o) := fun b u e n => by
  rw [upd_ne (ne_of_none e np)]
  exact h b u e n
theorem Keep.free {a p : Addr} {H H' : Hp} (h : Keep a H H') (np : H' p = none) (pa : p ≠ a) : H p = none := by
  cases e : H p with
  | none => rfl
  | some o =>
    have := h p o e pa
    rw [np] at this
    cases this
/-- the heap without the hand: what data stand on -/
def off (a : Addr) (H : Hp) : Hp := fun b => if b = a then none else H b
theorem off_ne {a b : Addr} {H : Hp} (h : b ≠ a) : off a H b = H b := if_neg h
theorem off_same (a : Addr) (H : Hp) : Same (off a H) H := fun b o e => by
  unfold off at e
  by_cases h : b = a
  · rw [if_pos h] at e
    cases e
  · rw [if_neg h] at e
    exact e
theorem Keep.off {a : Addr} {H H' : Hp} (k : Keep a H H') : Same (off a H) (off a H') := fun b o e => by
  unfold My.off at e ⊢
  by_cases h : b = a
  · rw [if_pos h] at e
    cases e
  · rw [if_neg h] at e ⊢
    exact k b o e h

/-! ### whole numbers of any size -/
def Bn (k : Nat) (x : Int) : Prop := x.natAbs < 2 ^ k
theorem Bn.mono {k m : Nat} {x : Int} (h : Bn k x) (hk : k ≤ m) : Bn m x := Nat.lt_of_lt_of_le h (Nat.pow_le_pow_right (by decide) hk)
theorem Bn.neg {k : Nat} {x : Int} (h : Bn k x) : Bn k (-x) := by
  unfold Bn
  rw [Int.natAbs_neg]
  exact h
theorem Bn.mul {k m : Nat} {x y : Int} (h : Bn k x) (h' : Bn m y) : Bn (k + m) (x * y) := by
  unfold Bn at *
  rw [Int.natAbs_mul, Nat.pow_add]
  exact Nat.mul_lt_mul'' h h'
theorem Bn.add {k : Nat} {x y : Int} (h : Bn k x) (h' : Bn k y) : Bn (k + 1) (x + y) := by
  unfold Bn at *
  rw [Nat.pow_succ]
  have := Int.natAbs_add_le x y
  omega
theorem Bn.le {k : Nat} {x y : Int} (h : Bn k y) (h' : x.natAbs ≤ y.natAbs) : Bn k x := Nat.lt_of_le_of_lt h' h
def CMulB (i j : Int) : Prop := Bn 4000 i ∧ Bn 4000 j
def CDivB (i j : Int) : Prop := j ≠ 0 ∧ Bn 4000 j
section
variable {X : Cx}
theorem op_mulB : OpR X (binaryOp .Mult) (rI CMulB fun i j => .int (i * j)) := opI fun _ _ _ _ _ _ _ hc q =>
  mul_int q (IntMulOk.of_bits (Nat.le_trans (intBits_le hc.1) (by decide)) (Nat.le_trans (intBits_le hc.2) (by decide)))
theorem op_fdivB : OpR X (binaryOp .FloorDiv) (rI CDivB fun i j => .int (i.fdiv j)) := opI fun i j _ _ _ _ _ hc q =>
  floordiv_int hc.1 q (.inl (PyProof.noPylong_of_log2 (by
    have h0 : j.natAbs ≠ 0 := fun z => hc.1 (Int.natAbs_eq_zero.mp z)
    have := (Nat.log2_lt h0).mpr hc.2
    omega)))
end
/-! ### fractions in lowest terms -/
def gc (t b : Int) : Int := ((Nat.gcd t.natAbs b.natAbs : Nat) : Int)
def cm (t b : Int) : Int := if b < 0 then -gc t b else gc t b
def lowN (t b : Int) : Int := t.fdiv (cm t b)
def lowD (t b : Int) : Int := b.fdiv (cm t b)
theorem gc_pos {t b : Int} (h : b ≠ 0) : 0 < gc t b := by
  have : 0 < Nat.gcd t.natAbs b.natAbs := Nat.gcd_pos_of_pos_right _ (Int.natAbs_pos.mpr h)
  unfold gc
  omega
theorem gc_dl (t b : Int) : gc t b ∣ t := PySem.W.mg_dvd_left t b
theorem gc_dr (t b : Int) : gc t b ∣ b := PySem.W.mg_dvd_right t b
theorem cm_dl (t b : Int) : cm t b ∣ t := by
  unfold cm
  split
  · exact Int.neg_dvd.mpr (gc_dl t b)
  · exact gc_dl t b
theorem cm_dr (t b : Int) : cm t b ∣ b := by
  unfold cm
  split
  · exact Int.neg_dvd.mpr (gc_dr t b)
  · exact gc_dr t b
theorem cm_ne {t b : Int} (h : b ≠ 0) : cm t b ≠ 0 := by
  have := gc_pos (t := t) h
  unfold cm
  split <;> omega
theorem cm_abs (t b : Int) : (cm t b).natAbs = Nat.gcd t.natAbs b.natAbs := by
  unfold cm gc
  split
  · rw [Int.natAbs_neg]
    rfl
  · rfl
theorem cm_bn {t b : Int} {k : Nat} (h : b ≠ 0) (hb : Bn k b) : Bn k (cm t b) := by
  refine hb.le ?_
  rw [cm_abs]
  exact Nat.gcd_le_right _ (Int.natAbs_pos.mpr h)
theorem lowN_mul {t b : Int} : lowN t b * cm t b = t := Int.fdiv_mul_cancel (cm_dl t b)
theorem lowD_mul {t b : Int} : lowD t b * cm t b = b := Int.fdiv_mul_cancel (cm_dr t b)
theorem lowN_bn {t b : Int} {k : Nat} (h : b ≠ 0) (ht : Bn k t) : Bn k (lowN t b) := by
  refine ht.le ?_
  have e := congrArg Int.natAbs (lowN_mul (t := t) (b := b))
  rw [Int.natAbs_mul] at e
  have := Int.natAbs_pos.mpr (cm_ne (t := t) h)
  rw [← e]
  exact Nat.le_mul_of_pos_right _ this
theorem lowD_bn {t b : Int} {k : Nat} (h : b ≠ 0) (hb : Bn k b) : Bn k (lowD t b) := by
  refine hb.le ?_
  have e := congrArg Int.natAbs (lowD_mul (t := t) (b := b))
  rw [Int.natAbs_mul] at e
  have := Int.natAbs_pos.mpr (cm_ne (t := t) h)
  rw [← e]
  exact Nat.le_mul_of_pos_right _ this
theorem lowD_pos {t b : Int} (h : b ≠ 0) : 0 < lowD t b := by
  have e := lowD_mul (t := t) (b := b)
  have g := gc_pos (t := t) h
  generalize lowD t b = d at e
  unfold cm at e
  rcases Int.lt_or_le 0 d with hd | hd
  · exact hd
  exfalso
  split at e
  · rename_i hb
    have : d * -gc t b ≥ 0 := by
      rw [Int.mul_neg, ← Int.neg_mul]
      exact Int.mul_nonneg (by omega) (by omega)
    omega
  · rename_i hb
    have : 0 ≤ (-d) * gc t b := Int.mul_nonneg (by omega) (by omega)
    rw [Int.neg_mul] at this
    omega
theorem low_cop {t b : Int} (h : b ≠ 0) : Nat.gcd (lowN t b).natAbs (lowD t b).natAbs = 1 := by
  have e1 := congrArg Int.natAbs (lowN_mul (t := t) (b := b))
  have e2 := congrArg Int.natAbs (lowD_mul (t := t) (b := b))
  rw [Int.natAbs_mul, cm_abs] at e1 e2
  have g : 0 < Nat.gcd t.natAbs b.natAbs := Nat.gcd_pos_of_pos_right _ (Int.natAbs_pos.mpr h)
  refine Nat.eq_of_mul_eq_mul_right g ?_
  rw [← Nat.gcd_mul_right, e1, e2, Nat.one_mul]
/-- a fraction in lowest terms, of so many bits -/
structure Fr (k : Nat) (p q : Int) : Prop where
  pos : 0 < q
  cop : Nat.gcd p.natAbs q.natAbs = 1
  bp : Bn k p
  bq : Bn k q
theorem Fr.low {k : Nat} {t b : Int} (h : b ≠ 0) (ht : Bn k t) (hb : Bn k b) : Fr k (lowN t b) (lowD t b) := ⟨lowD_pos h, low_cop h, lowN_bn h ht, lowD_bn h hb⟩
theorem cop_dvd {p q u v : Int} (h : Nat.gcd p.natAbs q.natAbs = 1) (e : p * v = u * q) : q.natAbs ∣ v.natAbs := by
  have e' := congrArg Int.natAbs e
  rw [Int.natAbs_mul, Int.natAbs_mul] at e'
  have hc : Nat.Coprime q.natAbs p.natAbs := by
    unfold Nat.Coprime
    rw [Nat.gcd_comm]
    exact h
  refine hc.dvd_of_dvd_mul_left ?_
  rw [e']
  exact Nat.dvd_mul_left _ _
theorem frac_eq {p q u v : Int} (hq : 0 < q) (hv : 0 < v) (h : Nat.gcd p.natAbs q.natAbs = 1) (h' : Nat.gcd u.natAbs v.natAbs = 1) (e : p * v = u * q) : p = u ∧ q = v := by
  have d1 := cop_dvd h e
  have d2 := cop_dvd h' e.symm
  have e1 := Nat.dvd_antisymm d1 d2
  have e2 : q = v := by omega
  subst e2
  exact ⟨Int.eq_of_mul_eq_mul_right (by omega) e, rfl⟩
/-- what is equal to a fraction in lowest terms has that form -/
theorem low_is {k : Nat} {p q t b : Int} (f : Fr k p q) (h : b ≠ 0) (e : p * b = t * q) : lowN t b = p ∧ lowD t b = q := by
  refine frac_eq (lowD_pos h) f.pos (low_cop h) f.cop ?_
  refine Int.eq_of_mul_eq_mul_right (cm_ne (t := t) h) ?_
  have h1 := lowN_mul (t := t) (b := b)
  have h2 := lowD_mul (t := t) (b := b)
  generalize lowN t b = n at *
  generalize lowD t b = d at *
  generalize cm t b = c at *
  grind
theorem low_cross {t b : Int} : lowN t b * b = t * lowD t b := by
  have h1 := lowN_mul (t := t) (b := b)
  have h2 := lowD_mul (t := t) (b := b)
  generalize lowN t b = n at *
  generalize lowD t b = d at *
  generalize cm t b = c at *
  grind
theorem low_back {k : Nat} {p q u v : Int} (f : Fr k p q) (hv : 0 < v) : lowN (lowN (p * v + u * q) (q * v) * v + -u * lowD (p * v + u * q) (q * v)) (lowD (p * v + u * q) (q * v) * v) = p ∧
    lowD (lowN (p * v + u * q) (q * v) * v + -u * lowD (p * v + u * q) (q * v)) (lowD (p * v + u * q) (q * v) * v) = q := by
  have hq := f.pos
  have hb : q * v ≠ 0 := Int.ne_of_gt (Int.mul_pos hq hv)
  have hd := lowD_pos (t := p * v + u * q) hb
  have e := low_cross (t := p * v + u * q) (b := q * v)
  generalize lowN (p * v + u * q) (q * v) = n at *
  generalize lowD (p * v + u * q) (q * v) = d at *
  refine low_is f (Int.ne_of_gt (Int.mul_pos hd hv)) ?_
  refine Int.eq_of_mul_eq_mul_right (Int.ne_of_gt hv) ?_
  grind
theorem low_nought {p q : Int} (hq : 0 < q) : lowN (p * q + (0 - p) * q) (q * q) = 0 ∧ lowD (p * q + (0 - p) * q) (q * q) = 1 := by
  refine low_is (k := 1) (p := 0) (q := 1) ⟨by decide, by decide, by unfold Bn; decide, by unfold Bn; decide⟩ (Int.ne_of_gt (Int.mul_pos hq hq)) ?_
  grind
theorem low_factor {k : Nat} {p q f : Int} (h : Fr k p q) (hf : 0 < f) : lowN (f * p) (f * q) = p ∧ lowD (f * p) (f * q) = q := by
  refine low_is h (Int.ne_of_gt (Int.mul_pos hf h.pos)) ?_
  grind
/-! ### the gcd as the law finds it -/
theorem gcd_turn {a b : Int} (hb : 0 < b) (ha : 0 ≤ a) : Nat.gcd b.natAbs (a - a.fdiv b * b).natAbs = Nat.gcd a.natAbs b.natAbs := by
  have e : a - a.fdiv b * b = a % b := by
    rw [Int.fdiv_eq_ediv_of_nonneg a (by omega)]
    have := Int.mul_ediv_add_emod a b
    have h2 : a / b * b = b * (a / b) := Int.mul_comm _ _
    omega
  rw [e]
  have h3 : (a % b).natAbs = a.natAbs % b.natAbs := by
    rw [Int.natAbs_emod_of_nonneg ha]
  rw [h3, Nat.gcd_comm b.natAbs, ← Nat.gcd_rec, Nat.gcd_comm]

def lowT (t b : Int) : HO := .tup [.int (lowN t b), .int (lowD t b)]
def prT (p q : Int) : HO := .tup [.int p, .int q]
def spLow : Sp := fun vs H Q _ => ∃ t b : Int, vs = [.int t, .int b] ∧ b ≠ 0 ∧ Bn 3000 t ∧ Bn 3000 b ∧ ∀ p H', H p = none → Same H H' → H' p = some (prT (lowN t b) (lowD t b)) → Q (.ref p) H'
def spGcd : Sp := fun vs H Q _ => ∃ a b : Int, vs = [.int a, .int b] ∧ 0 ≤ a ∧ 0 ≤ b ∧ Bn 3000 a ∧ Bn 3000 b ∧ Q (.int (gc a b)) H
def spTwo (g : Int → Int → Int → Int → Int) (g' : Int → Int → Int → Int → Int) : Sp := fun vs H Q _ => ∃ (a b : Addr) (p q u v : Int), vs = [.ref a, .ref b] ∧ H a = some (prT p q) ∧ H b = some (prT u v) ∧ 0 < q ∧ 0 < v ∧ Bn 1400 p ∧ Bn 1400 q ∧ Bn 1400 u ∧ Bn 1400 v ∧
  ∀ r H', H r = none → Same H H' → H' r = some (prT (lowN (g p q u v) (g' p q u v)) (lowD (g p q u v) (g' p q u v))) → Q (.ref r) H'
def spAdd : Sp := spTwo (fun p q u v => p * v + u * q) (fun _ q _ v => q * v)
def spLess : Sp := spTwo (fun p q u v => p * v + -u * q) (fun _ q _ v => q * v)
def spTimes : Sp := spTwo (fun p _ u _ => p * u) (fun _ q _ v => q * v)
def spSm : Sp := fun vs H Q _ => ∃ (a b : Addr) (p q : Int), vs = [.ref a, .ref b] ∧ H a = some (prT p q) ∧ H b = some (prT p q) ∧ Q (.bl true) H
def spIsSum : Sp := fun vs H Q _ => ∃ (a b : Addr) (p q u v : Int), vs = [.ref a, .ref b] ∧ H a = some (prT p q) ∧ H b = some (prT u v) ∧ Fr 200 p q ∧ Fr 200 u v ∧ ∀ H', Same H H' → Q (.bl true) H'
def spW16 : Sp := fun vs H Q _ => ∃ a d : Addr, vs = [.ref a] ∧ Hnd H a d ∧ ∀ x H', Bn 110 x → Hnd H' a d → Keep a H H' → Q (.int x) H'
def spAsked : Sp := fun vs H Q _ => ∃ a d : Addr, vs = [.ref a] ∧ Hnd H a d ∧ ∀ H', Q (.bl true) H'

def top_level : Nat := 6
section
variable {P : Program} {w : World} {K : PySem.W.Frag} {mg : Str → Option Value} {base : Heap} {cs : Cs}
theorem map_int_set (rs : List Int) (j : Nat) (x : Int) : (rs.map V.int).set j (.int x) = (rs.set j x).map V.int := by
  rw [List.map_set]
theorem at_int {rs : List Int} {j : Nat} {z : Int} (h : rs[j]? = some z) : atI (rs.map V.int) ((j : Nat) : Int) = some (.int z) := atI_nat (by
  rw [List.getElem?_map, h]
  rfl)
theorem ok_draws {f : Addr} {fd : FuncData} (D : Df K mg "_law_draws" s_law_draws ["script", "many"] f fd) (T : Txt K mg cs) : FnOk P w K mg base CX0 1 f fd ["script", "many"] (spDraws K) := by
  refine D.fn.ok sc_law_draws (fun vs H Q E h => ?_) (fun cdv A outer s H vs Q E hr h => ?_)
  · obtain ⟨a, ns, many, rfl, _⟩ := h
    rfl
  · obtain ⟨a, ns, many, rfl, hS, hl, hm, q⟩ := h
    refine ⟨_, (pss_cons (ps_setLc (i := 2) (own := [("cell", 5)]) (g := gName 5) (tt := tYes) rfl sc_law_draws.nd rfl rfl (sw_true rfl rfl rfl (by decide +kernel)) (pi_list (pv 0)) (blkOk_by (own := [("cell", 5)]) (N := ["script", "many", "rests", "draws", "k", "cell", "at", "mixed"]) (sc := defScope s_law_draws) (by decide +kernel)) (fun _ _ _ _ _ => (pg_name (i := 5) sc_law_draws.nd rfl (.inl rfl))) (fun _ _ _ _ _ => pts_nil) (fun _ _ _ _ _ => (pe_callB call_abs (by rfl) T.n_abs (by decide +kernel) (pa_cons (pe_callTy call_int1 (by rfl) T.n_int (by decide +kernel) (pa_cons (pv 5) pa_nil)) pa_nil)))) (pss_cons (ps_set (i := 3) sc_law_draws.nd rfl (.inl rfl) (pe_lst pa_nil)) (pss_cons (ps_for PassesOwn.never rfl (pi_range1 (by rfl) T.n_range (pa_cons (pv 1) pa_nil)) (pg_name (i := 4) sc_law_draws.nd rfl (.inl rfl)) (pss_cons (ps_set (i := 5) sc_law_draws.nd rfl (.inl rfl) (pv 4)) (C8.pss_cut (ps_if (pt_cmpR op_gt (pe_callB (lenS K) (by rfl) T.n_len (by decide +kernel) (pa_cons (pv 0) pa_nil)) pe_int (nomark _)) (pss_cons (ps_set (i := 6) sc_law_draws.nd rfl (.inl rfl) (pe_op op_mod (pv 4) (pe_callB (lenS K) (by rfl) T.n_len (by decide +kernel) (pa_cons (pv 0) pa_nil)))) (pss_cons (ps_set (i := 5) sc_law_draws.nd rfl (.inl rfl) (pe_callTy call_int1 (by rfl) T.n_int (by decide +kernel) (pa_cons (pe_ix (ixL K) (pv 0) (pv 6) (fun _ _ => rfl)) pa_nil))) (pss_one (ps_if (PW.pt (pw_and (pt_cmpR op_ge (pv 5) (pe_op op_pow pe_int pe_int) (nomark _)) (pw_and1 (pt_cmpR op_gt (pe_ix (ixL K) (pv 2) (pv 6) (fun _ _ => rfl)) pe_int (nomark _))))) (pss_cons (ps_expr (pe_bm PySem.F.plainAttrs_list PySem.F.slot_list_append PySem.F.type_list_append mt_append (pv 3) (pa_cons (pe_op op_mod (pe_callTy call_int1 (by rfl) T.n_int (by decide +kernel) (pa_cons (pe_ix (ixL K) (pv 2) (pv 6) (fun _ _ => rfl)) pa_nil)) pe_int) pa_nil))) (pss_cons (ps_asg (pe_op op_fdiv (pe_callTy call_int1 (by rfl) T.n_int (by decide +kernel) (pa_cons (pe_ix (ixL K) (pv 2) (pv 6) (fun _ _ => rfl)) pa_nil)) pe_int) (pg_sub (pv 2) (pv 6) set_list)) (pss_one ps_continue))) pss_nil)))) pss_nil) (pss_cons (ps_set (i := 7) sc_law_draws.nd rfl (.inl rfl) (pe_op op_mod (pe_callTy call_int1 (by rfl) T.n_int (by decide +kernel) (pa_cons (pe_op op_add (pe_op op_add (pe_op op_mul (pv 5) pe_int) (pe_op op_mul (pv 4) pe_int)) pe_int) pa_nil)) pe_int)) (pss_cons (ps_set (i := 7) sc_law_draws.nd rfl (.inl rfl) (pe_op op_mod (pe_callTy call_int1 (by rfl) T.n_int (by decide +kernel) (pa_cons (pe_op op_add (pe_op op_fdiv (pe_op op_mul (pv 7) (pv 7)) pe_int) (pv 7)) pa_nil)) pe_int)) (pss_one (ps_expr (pe_bm PySem.F.plainAttrs_list PySem.F.slot_list_append PySem.F.type_list_append mt_append (pv 3) (pa_cons (pe_op op_mod (pe_callTy call_int1 (by rfl) T.n_int (by decide +kernel) (pa_cons (pe_op op_add (pe_op op_fdiv (pe_op op_mul (pv 7) (pv 7)) pe_int) (pe_op op_mul (pv 4) pe_int)) pa_nil)) pe_int) pa_nil))))))))) (pss_one (ps_ret (pv 3)))))), ?_⟩
    -- rests
    refine ⟨_, rfl, a, rfl, ⟨_, hS⟩, fun R hR => ?_⟩
    refine lc_list (xs := ns.map V.int) (fun i H' => ∃ rs : List Int, rs.length = i ∧ (∀ x ∈ rs, 0 ≤ x) ∧ Same H H' ∧ H' R = some (.lst (rs.map V.int))) ?_ ?_ ?_ ?_
    · exact ⟨[], rfl, fun x hx => (nomatch hx), same_new hR, upd_same⟩
    · rintro i H' _ ⟨rs, _, _, hs, _⟩
      exact hs.seq hS
    · rintro i x H' hx ⟨rs, hn, h0, hs, hr'⟩
      obtain ⟨z, hz⟩ : ∃ z, x = V.int z := by
        rw [List.getElem?_map] at hx
        cases e : ns[i]? with
        | none =>
          rw [e] at hx
          cases hx
        | some z =>
          rw [e] at hx
          exact ⟨z, (Option.some.inj hx).symm⟩
      subst hz
      have hi : i < ns.length := by
        have := (List.getElem?_eq_some_iff.mp hx).1
        rw [List.length_map] at this
        exact this
      refine ⟨rfl, ?_⟩
      refine ⟨_, rfl, .inl ⟨_, rfl, _, rfl, _, hr', ?_, ?_⟩⟩
      · rw [List.length_map]
        exact small1000 (by omega)
      · refine ⟨rs ++ [if z < 0 then -z else z], by rw [List.length_append, hn]; rfl, ?_, ?_, ?_⟩
        · intro y hy
          rcases List.mem_append.mp hy with hy | hy
          · exact h0 y hy
          · rw [List.mem_singleton.mp hy]
            split <;> omega
        · intro b o e
          rw [upd_ne (ne_of_none e hR)]
          exact hs b o e
        · rw [upd_same, List.map_append]
          rfl
    · rintro H1 ⟨rs, hn, h0, s1, e1⟩
      rw [List.length_map] at hn
      -- draws = []
      refine ⟨Nat.zero_le _, fun L hL => ?_⟩
      have nRL : R ≠ L := ne_of_none e1 hL
      have hL0 : H L = none := s1.free hL
      -- the loop
      refine ⟨_, rfl, _, rfl, by omega, by omega, for_range (lo := 0) (n := many) (fun i σ H' => ∃ (rs ds : List Int) (y4 y5 y6 y7 : Option V), σ = [some (.ref a), some (.int (many : Int)), some (.ref R), some (.ref L), y4, y5, y6, y7] ∧
        rs.length = ns.length ∧ (∀ x ∈ rs, 0 ≤ x) ∧ ds.length = i ∧ (∀ x ∈ ds, 0 ≤ x) ∧ Same H H' ∧ H' R = some (.lst (rs.map V.int)) ∧ H' L = some (.lst (ds.map V.int))) ?_ ?_ ?_⟩
      · refine ⟨rs, [], none, none, none, none, rfl, hn, h0, rfl, fun x hx => (nomatch hx), s1.trans (same_new hL), ?_, upd_same⟩
        rw [upd_ne nRL]
        exact e1
      · clear e1 hn h0 rs s1 hL
        rintro i σ H' hi ⟨rs, ds, y4, y5, y6, y7, rfl, hn, h0, hd, hd0, s1, e1, e2⟩
        have hSL : SqL K H' a (ns.map V.int) := s1.seq hS
        -- what the rest of the turn asks: a number is put behind the draws
        have put : ∀ (x : Int) (σ' : L2.St) (H2 : Hp) (rs' : List Int), 0 ≤ x → rs'.length = ns.length → (∀ x ∈ rs', 0 ≤ x) → Same H H2 → H2 R = some (.lst (rs'.map V.int)) → H2 L = some (.lst ((ds ++ [x]).map V.int)) →
            (∃ y4 y5 y6 y7 : Option V, σ' = [some (.ref a), some (.int (many : Int)), some (.ref R), some (.ref L), y4, y5, y6, y7]) →
            (fun (i : Nat) (σ : L2.St) (H' : Hp) => ∃ (rs ds : List Int) (y4 y5 y6 y7 : Option V), σ = [some (.ref a), some (.int (many : Int)), some (.ref R), some (.ref L), y4, y5, y6, y7] ∧
              rs.length = ns.length ∧ (∀ x ∈ rs, 0 ≤ x) ∧ ds.length = i ∧ (∀ x ∈ ds, 0 ≤ x) ∧ Same H H' ∧ H' R = some (.lst (rs.map V.int)) ∧ H' L = some (.lst (ds.map V.int))) (i + 1) σ' H2 := by
          rintro x σ' H2 rs' hx g1 g2 g3 g4 g5 ⟨z4, z5, z6, z7, rfl⟩
          refine ⟨rs', ds ++ [x], z4, z5, z6, z7, rfl, g1, g2, by rw [List.length_append, hd]; rfl, ?_, g3, g4, g5⟩
          intro y hy
          rcases List.mem_append.mp hy with hy | hy
          · exact hd0 y hy
          · rw [List.mem_singleton.mp hy]
            exact hx
        have app : ∀ (x : Int), upd H' L (.lst (ds.map V.int ++ [.int x])) R = some (.lst (rs.map V.int)) ∧ Same H (upd H' L (.lst (ds.map V.int ++ [.int x]))) ∧ upd H' L (.lst (ds.map V.int ++ [.int x])) L = some (.lst ((ds ++ [x]).map V.int)) := by
          intro x
          refine ⟨by rw [upd_ne nRL]; exact e1, fun b u e => ?_, ?_⟩
          · rw [upd_ne (ne_of_none e hL0)]
            exact s1 b u e
          · rw [upd_same, List.map_append]
            rfl
        have hsz : (ds.map V.int).length < sizeLine := by
          rw [List.length_map]
          exact Nat.lt_of_lt_of_le (show ds.length < 10000 by omega) (by decide)
        -- cell = k
        refine ⟨_, rfl, ?_⟩
        refine ⟨fun σ2 H2 => H2 = H' ∧ ∃ (c : Int) (y6 : Option V), σ2 = [some (.ref a), some (.int (many : Int)), some (.ref R), some (.ref L), some (.int (0 + (i : Int))), some (.int c), y6, y7], ?_, ?_⟩
        · -- if len(script) > 0
          refine ⟨_, rfl, a, _, rfl, .inl hSL, _, _, rfl, rfl, _, rfl, ite2 (fun c => ?_) (fun c => ?_)⟩
          · have hp : 0 < ns.length := by
              have c' : (0 : Int) < (((ns.map V.int).length : Nat) : Int) := of_decide_eq_true c
              rw [List.length_map] at c'
              omega
            -- at = k % len(script)
            refine ⟨_, rfl, _, rfl, a, _, rfl, .inl hSL, _, _, rfl, rfl, ?_, ?_⟩
            · rw [List.length_map]
              omega
            · obtain ⟨j, hj, hjl⟩ : ∃ j : Nat, (0 + (i : Int)) % (((ns.map V.int).length : Nat) : Int) = (j : Int) ∧ j < ns.length := by
                rw [List.length_map]
                have h1 := Int.emod_nonneg (0 + (i : Int)) (b := (ns.length : Int)) (by omega)
                have h2 := Int.emod_lt_of_pos (0 + (i : Int)) (b := (ns.length : Int)) (by omega)
                exact ⟨((0 + (i : Int)) % (ns.length : Int)).toNat, by omega, by omega⟩
              show gName 6 (V.int ((0 + (i : Int)) % (((ns.map V.int).length : Nat) : Int))) _ _ _
              rw [hj]
              have hx : (ns.map V.int)[j]? = some (.int ns[j]) := by
                rw [List.getElem?_map, List.getElem?_eq_getElem hjl]
                rfl
              have hjr : j < rs.length := by omega
              have hy : (rs.map V.int)[j]? = some (.int rs[j]) := by
                rw [List.getElem?_map, List.getElem?_eq_getElem hjr]
                rfl
              -- cell = int(script[at])
              refine ⟨_, rfl, _, rfl, a, _, (j : Int), _, rfl, rfl, hSL, atI_nat hx, .inl ⟨_, rfl, ?_⟩⟩
              -- if cell >= 10 ** 18 and rests[at] > 0
              refine ⟨_, rfl, _, _, rfl, rfl, ⟨by decide, by decide, by decide⟩, _, _, rfl, rfl, _, rfl, ite2 (fun c => ?_) (fun c => ?_)⟩
              · refine ⟨_, rfl, _, rfl, R, _, (j : Int), _, rfl, rfl, .inl (.inl e1), atI_nat hy, _, _, rfl, rfl, _, rfl, ite2 (fun c => ?_) (fun c => ?_)⟩
                · have hr0 : 0 ≤ rs[j] := h0 _ (List.getElem_mem hjr)
                  -- draws.append(int(rests[at]) % 1000003)
                  refine ⟨_, rfl, .inl ⟨rfl, _, .inl (.inl e2)⟩, _, rfl, _, rfl, R, _, (j : Int), _, rfl, rfl, .inl (.inl e1), atI_nat hy, .inl ⟨_, rfl, _, _, rfl, rfl, (by show (0 : Int) < 1000003; decide), L, _, _, rfl, rfl, e2, hsz, ?_⟩⟩
                  obtain ⟨p1, p2, p3⟩ := app (rs[j] % 1000003)
                  -- rests[at] = int(rests[at]) // 1000003
                  refine ⟨_, rfl, _, rfl, R, _, (j : Int), _, rfl, rfl, .inl (.inl p1), atI_nat hy, .inl ⟨_, rfl, _, _, rfl, rfl, ⟨by decide, by decide⟩, _, rfl, _, rfl, R, _, (j : Int), j, rfl, rfl, p1, ?_, ?_⟩⟩
                  · unfold ixN
                    rw [if_pos (by omega), if_pos (by rw [List.length_map]; omega)]
                    rfl
                  · refine put (rs[j] % 1000003) _ _ (rs.set j (rs[j] / 1000003)) (by omega) (by rw [List.length_set]; exact hn) ?_ ?_ ?_ ?_ ⟨_, _, _, _, rfl⟩
                    · intro y hy'
                      rcases List.mem_or_eq_of_mem_set hy' with z | z
                      · exact h0 y z
                      · rw [z]
                        omega
                    · intro b u e
                      rw [upd_ne (ne_of_none e hR)]
                      exact p2 b u e
                    · rw [upd_same, List.map_set]
                    · rw [upd_ne nRL.symm]
                      exact p3
                · exact ⟨rfl, _, _, rfl⟩
              · exact ⟨rfl, _, _, rfl⟩
          · exact ⟨rfl, _, _, rfl⟩
        · rintro σ2 H2 ⟨rfl, c, z6, rfl⟩
          -- mixed, twice
          refine ⟨_, rfl, _, _, rfl, rfl, .inr ⟨by decide, by decide⟩, _, rfl, _, _, rfl, rfl, .inr ⟨by decide, by decide⟩, _, _, rfl, rfl, _, _, rfl, rfl, .inl ⟨_, rfl, _, _, rfl, rfl, (by show (0 : Int) < 2147483647; decide), ?_⟩⟩
          refine ⟨_, rfl, _, rfl, _, _, rfl, rfl, .inl ⟨?_, ?_⟩, _, _, rfl, rfl, ⟨by decide, by decide⟩, _, rfl, _, _, rfl, rfl, .inl ⟨_, rfl, _, _, rfl, rfl, (by show (0 : Int) < 2147483629; decide), ?_⟩⟩
          · omega
          · omega
          -- draws.append
          refine ⟨_, rfl, .inl ⟨rfl, _, .inl (.inl e2)⟩, _, rfl, _, rfl, _, _, rfl, rfl, .inl ⟨?_, ?_⟩, _, _, rfl, rfl, ⟨by decide, by decide⟩, _, rfl, _, _, rfl, rfl, .inr ⟨by decide, by decide⟩, _, _, rfl, rfl, .inl ⟨_, rfl, _, _, rfl, rfl, (by show (0 : Int) < 2147483629; decide), L, _, _, rfl, rfl, e2, hsz, ?_⟩⟩
          · omega
          · omega
          refine put _ _ _ rs ?_ hn h0 (app _).2.1 (app _).1 (app _).2.2 ⟨_, _, _, _, rfl⟩
          exact Int.emod_nonneg _ (by decide)
      · rintro σ H2 ⟨rs, ds, y4, y5, y6, y7, rfl, hn, h0, hd, hd0, s2, e1, e2⟩
        exact ⟨_, rfl, q L ds H2 hL0 s2 e2 hd0⟩

theorem ok_take {f : Addr} {fd : FuncData} (D : Df K mg "_law_take" s_law_take ["hand", "many"] f fd) (T : Txt K mg cs) : FnOk P w K mg base CX0 1 f fd ["hand", "many"] spTake := by
  refine D.fn.ok sc_law_take (fun vs H Q E h => ?_) (fun cdv A outer s H vs Q E hr h => ?_)
  · obtain ⟨a, d, many, rfl, _⟩ := h
    rfl
  · obtain ⟨a, d, many, rfl, hm, ⟨ds, i, h1, h2, h3, h4⟩, q⟩ := h
    refine ⟨_, (pss_cons (ps_set (i := 2) sc_law_take.nd rfl (.inl rfl) (pe_ix (ixL K) (pv 0) pe_int (fun _ _ => rfl))) (pss_cons (ps_asg (pe_op op_add (pv 2) pe_int) (pg_sub (pv 0) pe_int set_list)) (pss_cons (ps_set (i := 3) sc_law_take.nd rfl (.inl rfl) (pe_ix (ixL K) (pv 0) pe_int (fun _ _ => rfl))) (pss_cons (ps_if (pt_cmpR op_ge (pv 2) (pe_callB (lenS K) (by rfl) T.n_len (by decide +kernel) (pa_cons (pv 3) pa_nil)) (nomark _)) (pss_one (ps_ret pe_int)) pss_nil) (pss_one (ps_ret (pe_op op_mod (pe_op op_fdiv (pe_callTy call_int1 (by rfl) T.n_int (by decide +kernel) (pa_cons (pe_ix (ixL K) (pv 3) (pv 2) (fun _ _ => rfl)) pa_nil)) pe_int) (pv 1)))))))), ?_⟩
    have s1 : Same H H := Same.refl H
    -- at = hand[1]
    refine ⟨_, rfl, a, _, 1, .int (i : Int), rfl, rfl, .inl (.inl h1), rfl, ?_⟩
    -- hand[1] = at + 1
    refine ⟨_, rfl, _, _, rfl, rfl, _, rfl, a, _, 1, 1, rfl, rfl, h1, rfl, ?_⟩
    -- draws = hand[0]
    refine ⟨_, rfl, a, _, 0, .ref d, rfl, rfl, .inl (.inl upd_same), rfl, ?_⟩
    have hd : (upd H a (.lst [.ref d, .int ((i : Int) + 1)])) d = some (.lst (ds.map V.int)) := by
      rw [upd_ne h4]
      exact h2
    have hn : Hnd (upd H a (.lst [.ref d, .int ((i : Int) + 1)])) a d := ⟨ds, i + 1, upd_same, hd, h3, h4⟩
    have hk : Keep a H (upd H a (.lst [.ref d, .int ((i : Int) + 1)])) := fun b o e n => by
      rw [upd_ne n]
      exact e
    -- at >= len(draws)
    refine ⟨_, rfl, _, rfl, d, _, rfl, .inl (.inl (.inl hd)), _, _, rfl, rfl, _, rfl, ite2 (fun c => ?_) (fun c => ?_)⟩
    · exact q 0 _ (Int.le_refl 0) hm hn hk
    · have hi : i < ds.length := by
        have c' : ¬ (((ds.map V.int).length : Int) ≤ (i : Int)) := fun z => c (decide_eq_true z)
        rw [List.length_map] at c'
        omega
      have hx : (ds.map V.int)[i]? = some (.int ds[i]) := by
        rw [List.getElem?_map, List.getElem?_eq_getElem hi]
        rfl
      have h0 := h3 ds[i] (List.getElem_mem hi)
      refine ⟨_, rfl, _, rfl, d, _, (i : Int), .int ds[i], rfl, rfl, .inl (.inl hd), atI_nat hx, .inl ⟨_, rfl, ?_⟩⟩
      refine ⟨_, _, rfl, rfl, ⟨by decide, by decide⟩, _, rfl, _, _, rfl, rfl, hm, ?_⟩
      exact q _ _ (Int.emod_nonneg _ (by omega)) (Int.emod_lt_of_pos _ hm) hn hk

theorem ok_fraction {f : Addr} {fd : FuncData} (D : Df K mg "fraction" s_fraction ["numerator", "denominator"] f fd) (T : Txt K mg cs) : FnOk P w K mg base CX0 1 f fd ["numerator", "denominator"] spLow := by
  refine D.fn.ok sc_fraction (fun vs H Q E h => ?_) (fun cdv A outer s H vs Q E hr h => ?_)
  · obtain ⟨t, b, rfl, _⟩ := h
    rfl
  · obtain ⟨t, b, rfl, hb, ht, hbb, q⟩ := h
    refine ⟨_, (pss_cons (ps_set (i := 2) sc_fraction.nd rfl (.inl rfl) (pe_callBfun cr_gcd (by rfl) T.m_gcd (pa_cons (pv 0) (pa_cons (pv 1) pa_nil)))) (pss_cons (ps_if (pt_cmpR op_lt (pv 1) pe_int (nomark _)) (pss_one (ps_set (i := 2) sc_fraction.nd rfl (.inl rfl) (pe_un un_neg (pv 2)))) pss_nil) (pss_one (ps_ret (pe_tup (pa_cons (pe_op op_fdivB (pv 0) (pv 2)) (pa_cons (pe_op op_fdivB (pv 1) (pv 2)) pa_nil))))))), ?_⟩
    have hc := cm_ne (t := t) hb
    have hk : Bn 4000 (cm t b) := (cm_bn hb hbb).mono (by decide)
    refine ⟨_, rfl, _, rfl, t, b, rfl, ?_⟩
    by_cases hn : b < 0
    · have e : -gc t b = cm t b := by
        unfold cm
        rw [if_pos hn]
      refine ⟨_, rfl, _, _, rfl, rfl, _, rfl, ite_y (decide_eq_true hn) ⟨_, rfl, _, rfl, ?_⟩⟩
      refine ⟨_, rfl, _, rfl, t, cm t b, rfl, congrArg V.int e, ⟨hc, hk⟩, _, rfl, _, rfl, b, cm t b, rfl, congrArg V.int e, ⟨hc, hk⟩, (by show 2 ≤ sizeLine; decide), fun p hp => ?_⟩
      exact q p _ hp (same_new hp) upd_same
    · have e : gc t b = cm t b := by
        unfold cm
        rw [if_neg hn]
      refine ⟨_, rfl, _, _, rfl, rfl, _, rfl, ite_n (fun z => hn (of_decide_eq_true z)) ?_⟩
      refine ⟨_, rfl, _, rfl, t, cm t b, rfl, congrArg V.int e, ⟨hc, hk⟩, _, rfl, _, rfl, b, cm t b, rfl, congrArg V.int e, ⟨hc, hk⟩, (by show 2 ≤ sizeLine; decide), fun p hp => ?_⟩
      exact q p _ hp (same_new hp) upd_same
theorem ok_add {f : Addr} {fd : FuncData} (D : Df K mg "add" s_add ["first", "second"] f fd) (T : Txt K mg cs) (c_fraction : Cl P w K mg base CX0 1 "fraction" spLow) : FnOk P w K mg base CX0 2 f fd ["first", "second"] spAdd := by
  refine D.fn.ok sc_add (fun vs H Q E h => ?_) (fun cdv A outer s H vs Q E hr h => ?_)
  · obtain ⟨a, b, p, q, u, v, rfl, _⟩ := h
    rfl
  · obtain ⟨a, b, p, q, u, v, rfl, ea, eb, hq, hv, bp, bq, bu, bv, k⟩ := h
    refine ⟨_, (pss_one (ps_ret (pe_cl c_fraction hr (by first | decide | omega) (by rfl) (pa_cons (pe_op op_add (pe_op op_mulB (pe_ix (ixT K) (pv 0) pe_int (fun _ _ => rfl)) (pe_ix (ixT K) (pv 1) pe_int (fun _ _ => rfl))) (pe_op op_mulB (pe_ix (ixT K) (pv 1) pe_int (fun _ _ => rfl)) (pe_ix (ixT K) (pv 0) pe_int (fun _ _ => rfl)))) (pa_cons (pe_op op_mulB (pe_ix (ixT K) (pv 0) pe_int (fun _ _ => rfl)) (pe_ix (ixT K) (pv 1) pe_int (fun _ _ => rfl))) pa_nil))))), ?_⟩
    have i0 : ∀ {r : Addr} {x y : Int}, H r = some (prT x y) → SqT K H r [.int x, .int y] := fun h => .inl (.inl h)
    refine ⟨_, rfl, a, _, 0, .int p, rfl, rfl, i0 ea, rfl, _, rfl, b, _, 1, .int v, rfl, rfl, i0 eb, rfl, _, _, rfl, rfl, ⟨bp.mono (by decide), bv.mono (by decide)⟩, ?_⟩
    refine ⟨_, rfl, b, _, 0, .int u, rfl, rfl, i0 eb, rfl, _, rfl, a, _, 1, .int q, rfl, rfl, i0 ea, rfl, _, _, rfl, rfl, ⟨bu.mono (by decide), bq.mono (by decide)⟩, _, _, rfl, rfl, ?_⟩
    refine ⟨_, rfl, a, _, 1, .int q, rfl, rfl, i0 ea, rfl, _, rfl, b, _, 1, .int v, rfl, rfl, i0 eb, rfl, _, _, rfl, rfl, ⟨bq.mono (by decide), bv.mono (by decide)⟩, ?_⟩
    exact ⟨_, _, rfl, Int.ne_of_gt (Int.mul_pos hq hv), ((bp.mul bv).add (bu.mul bq)).mono (by decide), (bq.mul bv).mono (by decide), fun r H' hr' s' e' => k r H' hr' s' e'⟩
theorem ok_less {f : Addr} {fd : FuncData} (D : Df K mg "less" s_less ["first", "second"] f fd) (T : Txt K mg cs) (c_add : Cl P w K mg base CX0 2 "add" spAdd) : FnOk P w K mg base CX0 3 f fd ["first", "second"] spLess := by
  refine D.fn.ok sc_less (fun vs H Q E h => ?_) (fun cdv A outer s H vs Q E hr h => ?_)
  · obtain ⟨a, b, p, q, u, v, rfl, _⟩ := h
    rfl
  · obtain ⟨a, b, p, q, u, v, rfl, ea, eb, hq, hv, bp, bq, bu, bv, k⟩ := h
    refine ⟨_, (pss_one (ps_ret (pe_cl c_add hr (by first | decide | omega) (by rfl) (pa_cons (pv 0) (pa_cons (pe_tup (pa_cons (pe_un un_neg (pe_ix (ixT K) (pv 1) pe_int (fun _ _ => rfl))) (pa_cons (pe_ix (ixT K) (pv 1) pe_int (fun _ _ => rfl)) pa_nil))) pa_nil))))), ?_⟩
    have i0 : ∀ {r : Addr} {x y : Int}, H r = some (prT x y) → SqT K H r [.int x, .int y] := fun h => .inl (.inl h)
    refine ⟨_, rfl, _, rfl, b, _, 0, .int u, rfl, rfl, i0 eb, rfl, _, rfl, _, rfl, b, _, 1, .int v, rfl, rfl, i0 eb, rfl, (by show 2 ≤ sizeLine; decide), fun r nr => ?_⟩
    refine ⟨a, r, p, q, -u, v, rfl, by rw [upd_ne (ne_of_none ea nr)]; exact ea, upd_same, hq, hv, bp, bq, bu.neg, bv, fun r' H' hr' s' e' => ?_⟩
    refine k r' H' ?_ (fun x o e => s' x o (by rw [upd_ne (ne_of_none e nr)]; exact e)) e'
    exact (same_new nr).free hr'
theorem ok_times {f : Addr} {fd : FuncData} (D : Df K mg "times" s_times ["first", "second"] f fd) (T : Txt K mg cs) (c_fraction : Cl P w K mg base CX0 1 "fraction" spLow) : FnOk P w K mg base CX0 2 f fd ["first", "second"] spTimes := by
  refine D.fn.ok sc_times (fun vs H Q E h => ?_) (fun cdv A outer s H vs Q E hr h => ?_)
  · obtain ⟨a, b, p, q, u, v, rfl, _⟩ := h
    rfl
  · obtain ⟨a, b, p, q, u, v, rfl, ea, eb, hq, hv, bp, bq, bu, bv, k⟩ := h
    refine ⟨_, (pss_one (ps_ret (pe_cl c_fraction hr (by first | decide | omega) (by rfl) (pa_cons (pe_op op_mulB (pe_ix (ixT K) (pv 0) pe_int (fun _ _ => rfl)) (pe_ix (ixT K) (pv 1) pe_int (fun _ _ => rfl))) (pa_cons (pe_op op_mulB (pe_ix (ixT K) (pv 0) pe_int (fun _ _ => rfl)) (pe_ix (ixT K) (pv 1) pe_int (fun _ _ => rfl))) pa_nil))))), ?_⟩
    have i0 : ∀ {r : Addr} {x y : Int}, H r = some (prT x y) → SqT K H r [.int x, .int y] := fun h => .inl (.inl h)
    refine ⟨_, rfl, a, _, 0, .int p, rfl, rfl, i0 ea, rfl, _, rfl, b, _, 0, .int u, rfl, rfl, i0 eb, rfl, _, _, rfl, rfl, ⟨bp.mono (by decide), bu.mono (by decide)⟩, ?_⟩
    refine ⟨_, rfl, a, _, 1, .int q, rfl, rfl, i0 ea, rfl, _, rfl, b, _, 1, .int v, rfl, rfl, i0 eb, rfl, _, _, rfl, rfl, ⟨bq.mono (by decide), bv.mono (by decide)⟩, ?_⟩
    exact ⟨_, _, rfl, Int.ne_of_gt (Int.mul_pos hq hv), (bp.mul bu).mono (by decide), (bq.mul bv).mono (by decide), fun r H' hr' s' e' => k r H' hr' s' e'⟩
theorem ok_gcd {f : Addr} {fd : FuncData} (D : Df K mg "_law_gcd" s_law_gcd ["a", "b"] f fd) (T : Txt K mg cs) : FnOk P w K mg base CX0 1 f fd ["a", "b"] spGcd := by
  refine D.fn.ok sc_law_gcd (fun vs H Q E h => ?_) (fun cdv A outer s H vs Q E hr h => ?_)
  · obtain ⟨a, b, rfl, _⟩ := h
    rfl
  · obtain ⟨a, b, rfl, ha, hb, ba, bb, q⟩ := h
    refine ⟨_, (pss_cons (ps_while PassesOwn.never (pt_cmpR op_gt (pv 1) pe_int (nomark _)) (pss_cons (ps_set (i := 2) sc_law_gcd.nd rfl (.inl rfl) (pe_op op_sub (pv 0) (pe_op op_mulB (pe_op op_fdivB (pv 0) (pv 1)) (pv 1)))) (pss_cons (ps_set (i := 0) sc_law_gcd.nd rfl (.inl rfl) (pv 1)) (pss_one (ps_set (i := 1) sc_law_gcd.nd rfl (.inl rfl) (pv 2)))))) (pss_one (ps_ret (pv 0)))), ?_⟩
    refine ⟨fun m σ H' => H' = H ∧ ∃ (x y : Int) (z : Option V), σ = [some (.int x), some (.int y), z] ∧ y.natAbs = m ∧ 0 ≤ x ∧ 0 ≤ y ∧ Bn 3000 x ∧ Bn 3000 y ∧ Nat.gcd x.natAbs y.natAbs = Nat.gcd a.natAbs b.natAbs, ⟨b.natAbs, rfl, a, b, none, rfl, rfl, ha, hb, ba, bb, rfl⟩, ?_⟩
    rintro m σ H' ⟨rfl, x, y, z, rfl, hm, hx, hy, bx, by', hg⟩
    refine ⟨_, rfl, _, _, rfl, rfl, _, rfl, ite2 (fun c => ?_) (fun c => ?_)⟩
    · have hp : 0 < y := of_decide_eq_true c
      have e1 : x - x.fdiv y * y = x % y := by
        rw [Int.fdiv_eq_ediv_of_nonneg x (by omega)]
        have := Int.mul_ediv_add_emod x y
        have h2 : x / y * y = y * (x / y) := Int.mul_comm _ _
        omega
      have l1 := Int.emod_nonneg x (b := y) (by omega)
      have l2 := Int.emod_lt_of_pos x hp
      have hq1 : Bn 4000 (x.fdiv y) := by
        refine (bx.le ?_).mono (by decide)
        rw [Int.fdiv_eq_ediv_of_nonneg x (by omega)]
        have h3 : 0 ≤ x / y := Int.ediv_nonneg hx hy
        have h4 : x / y ≤ x := Int.ediv_le_self _ hx
        omega
      refine ⟨fun σ' H2 => H2 = H' ∧ ∃ z : Option V, σ' = [some (.int y), some (.int (x - x.fdiv y * y)), z], ?_, ?_⟩
      · rintro σ' H2 ⟨rfl, z', rfl⟩
        refine ⟨(x - x.fdiv y * y).natAbs, ?_, rfl, y, _, z', rfl, rfl, hy, ?_, by', ?_, ?_⟩
        · rw [e1]
          omega
        · rw [e1]
          exact l1
        · rw [e1]
          refine by'.le ?_
          omega
        · rw [gcd_turn hp hx]
          exact hg
      · refine ⟨_, rfl, _, rfl, _, rfl, _, _, rfl, rfl, ⟨by omega, by'.mono (by decide)⟩, _, rfl, _, _, rfl, rfl, ⟨hq1, by'.mono (by decide)⟩, _, _, rfl, rfl, ?_⟩
        exact ⟨_, rfl, _, rfl, rfl, _, rfl⟩
    · have h0 : y = 0 := by
        have : ¬ 0 < y := fun z => c (decide_eq_true z)
        omega
      subst h0
      refine ⟨_, rfl, ?_⟩
      have e : gc a b = x := by
        unfold gc
        rw [← hg]
        show ((Nat.gcd x.natAbs 0 : Nat) : Int) = x
        rw [Nat.gcd_zero_right]
        omega
      rw [← e]
      exact q
theorem ok_lowest {f : Addr} {fd : FuncData} (D : Df K mg "_law_lowest" s_law_lowest ["top", "bottom"] f fd) (T : Txt K mg cs) (c_law_gcd : Cl P w K mg base CX0 1 "_law_gcd" spGcd) : FnOk P w K mg base CX0 2 f fd ["top", "bottom"] spLow := by
  refine D.fn.ok sc_law_lowest (fun vs H Q E h => ?_) (fun cdv A outer s H vs Q E hr h => ?_)
  · obtain ⟨t, b, rfl, _⟩ := h
    rfl
  · obtain ⟨t, b, rfl, hb, ht, hbb, q⟩ := h
    refine ⟨_, (pss_cons (ps_set (i := 2) sc_law_lowest.nd rfl (.inl rfl) (pe_cl c_law_gcd hr (by first | decide | omega) (by rfl) (pa_cons (pe_callB (call_max2 rfl) (by rfl) T.n_max (by decide +kernel) (pa_cons (pe_callB call_abs (by rfl) T.n_abs (by decide +kernel) (pa_cons (pv 0) pa_nil)) (pa_cons (pe_callB call_abs (by rfl) T.n_abs (by decide +kernel) (pa_cons (pv 1) pa_nil)) pa_nil))) (pa_cons (pe_callB (call_min2 rfl) (by rfl) T.n_min (by decide +kernel) (pa_cons (pe_callB call_abs (by rfl) T.n_abs (by decide +kernel) (pa_cons (pv 0) pa_nil)) (pa_cons (pe_callB call_abs (by rfl) T.n_abs (by decide +kernel) (pa_cons (pv 1) pa_nil)) pa_nil))) pa_nil)))) (pss_cons (ps_if (pt_cmpR op_lt (pv 1) pe_int (nomark _)) (pss_one (ps_set (i := 2) sc_law_lowest.nd rfl (.inl rfl) (pe_op op_sub pe_int (pv 2)))) pss_nil) (pss_one (ps_ret (pe_tup (pa_cons (pe_op op_fdivB (pv 0) (pv 2)) (pa_cons (pe_op op_fdivB (pv 1) (pv 2)) pa_nil))))))), ?_⟩
    have hc := cm_ne (t := t) hb
    have hk : Bn 4000 (cm t b) := (cm_bn hb hbb).mono (by decide)
    have et : (if t < 0 then -t else t) = (t.natAbs : Int) := by
      split <;> omega
    have eb : (if b < 0 then -b else b) = (b.natAbs : Int) := by
      split <;> omega
    refine ⟨_, rfl, t, rfl, _, rfl, b, rfl, _, _, rfl, _, rfl, t, rfl, _, rfl, b, rfl, _, _, rfl, ?_⟩
    rw [et, eb]
    have bt' : Bn 3000 (t.natAbs : Int) := ht
    have bb' : Bn 3000 (b.natAbs : Int) := hbb
    refine ⟨if (b.natAbs : Int) > (t.natAbs : Int) then (b.natAbs : Int) else (t.natAbs : Int), if (b.natAbs : Int) < (t.natAbs : Int) then (b.natAbs : Int) else (t.natAbs : Int), rfl, by split <;> omega, by split <;> omega, by split <;> assumption, by split <;> assumption, ?_⟩
    have eg : gc (if (b.natAbs : Int) > (t.natAbs : Int) then (b.natAbs : Int) else (t.natAbs : Int)) (if (b.natAbs : Int) < (t.natAbs : Int) then (b.natAbs : Int) else (t.natAbs : Int)) = gc t b := by
      unfold gc
      by_cases h1 : (b.natAbs : Int) > (t.natAbs : Int)
      · rw [if_pos h1, if_neg (by omega)]
        show ((Nat.gcd b.natAbs t.natAbs : Nat) : Int) = _
        rw [Nat.gcd_comm]
      · rw [if_neg h1]
        by_cases h2 : (b.natAbs : Int) < (t.natAbs : Int)
        · rw [if_pos h2]
          rfl
        · rw [if_neg h2]
          show ((Nat.gcd t.natAbs t.natAbs : Nat) : Int) = _
          rw [show b.natAbs = t.natAbs by omega]
    rw [eg]
    by_cases hn : b < 0
    · have e : 0 - gc t b = cm t b := by
        unfold cm
        rw [if_pos hn]
        omega
      refine ⟨_, rfl, _, _, rfl, rfl, _, rfl, ite_y (decide_eq_true hn) ⟨_, rfl, _, _, rfl, rfl, ?_⟩⟩
      refine ⟨_, rfl, _, rfl, t, cm t b, rfl, congrArg V.int e, ⟨hc, hk⟩, _, rfl, _, rfl, b, cm t b, rfl, congrArg V.int e, ⟨hc, hk⟩, (by show 2 ≤ sizeLine; decide), fun p hp => ?_⟩
      exact q p _ hp (same_new hp) upd_same
    · have e : gc t b = cm t b := by
        unfold cm
        rw [if_neg hn]
      refine ⟨_, rfl, _, _, rfl, rfl, _, rfl, ite_n (fun z => hn (of_decide_eq_true z)) ?_⟩
      refine ⟨_, rfl, _, rfl, t, cm t b, rfl, congrArg V.int e, ⟨hc, hk⟩, _, rfl, _, rfl, b, cm t b, rfl, congrArg V.int e, ⟨hc, hk⟩, (by show 2 ≤ sizeLine; decide), fun p hp => ?_⟩
      exact q p _ hp (same_new hp) upd_same
theorem ok_whole16 {f : Addr} {fd : FuncData} (D : Df K mg "_law_whole" s_law_whole ["hand"] f fd) (T : Txt K mg cs) (c_law_take : Cl P w K mg base CX0 1 "_law_take" spTake) : FnOk P w K mg base CX0 2 f fd ["hand"] spW16 := by
  refine D.fn.ok sc_law_whole (fun vs H Q E h => ?_) (fun cdv A outer s H vs Q E hr h => ?_)
  · obtain ⟨a, d, rfl, _⟩ := h
    rfl
  · obtain ⟨a, d, rfl, hn, q⟩ := h
    refine ⟨_, (pss_cons (ps_set (i := 1) sc_law_whole.nd rfl (.inl rfl) (pe_cl c_law_take hr (by first | decide | omega) (by rfl) (pa_cons (pv 0) (pa_cons pe_int pa_nil)))) (pss_cons (ps_if (pt_cmpR op_lt (pv 1) pe_int (nomark _)) (pss_one (ps_ret (pe_op op_sub (pe_cl c_law_take hr (by first | decide | omega) (by rfl) (pa_cons (pv 0) (pa_cons pe_int pa_nil))) pe_int))) pss_nil) (pss_cons (ps_set (i := 2) sc_law_whole.nd rfl (.inl rfl) (pe_cl c_law_take hr (by first | decide | omega) (by rfl) (pa_cons (pv 0) (pa_cons (pe_op op_pow pe_int pe_int) pa_nil)))) (C8.pss_cut (ps_if (pt_cmpR op_eq (pv 1) pe_int (nomark _)) (pss_one (ps_for PassesOwn.never rfl (pi_range1 (by rfl) T.n_range (pa_cons pe_int pa_nil)) (pg_name (i := 3) sc_law_whole.nd rfl (.inl rfl)) (pss_one (ps_set (i := 2) sc_law_whole.nd rfl (.inl rfl) (pe_op op_add (pe_op op_mulB (pv 2) (pe_op op_pow pe_int pe_int)) (pe_cl c_law_take hr (by first | decide | omega) (by rfl) (pa_cons (pv 0) (pa_cons (pe_op op_pow pe_int pe_int) pa_nil)))))))) pss_nil) (pss_one (ps_ret (pe_op op_mulB (pv 2) (pe_op op_sub pe_int (pe_op op_mulB pe_int (pe_cl c_law_take hr (by first | decide | omega) (by rfl) (pa_cons (pv 0) (pa_cons pe_int pa_nil)))))))))))), ?_⟩
    refine ⟨_, rfl, a, d, 6, rfl, by decide, hn, fun r1 H1 l1 u1 n1 k1 => ?_⟩
    refine ⟨_, rfl, _, _, rfl, rfl, _, rfl, ite2 (fun c => ?_) (fun c => ?_)⟩
    · refine ⟨_, rfl, a, d, 17, rfl, by decide, n1, fun r2 H2 l2 u2 n2 k2 => ⟨_, _, rfl, rfl, q _ _ ?_ n2 (k1.trans k2)⟩⟩
      exact Bn.mono (k := 6) (by unfold Bn; omega) (by decide)
    · refine ⟨_, rfl, _, _, rfl, rfl, ⟨by decide, by decide, by decide⟩, a, d, 1000000, rfl, by decide, n1, fun r2 H2 l2 u2 n2 k2 => ?_⟩
      refine ⟨fun σ H3 => ∃ (x : Int) (z : Option V), σ = [some (.ref a), some (.int r1), some (.int x), z] ∧ 0 ≤ x ∧ x < 10 ^ 30 ∧ Hnd H3 a d ∧ Keep a H H3, ?_, ?_⟩
      · refine ⟨_, rfl, rfl, _, rfl, ?_⟩
        by_cases c5 : r1 = 5
        · rw [decide_eq_true (show V.int r1 = V.int 5 by rw [c5])]
          refine ⟨_, rfl, by decide, by decide, for_range (lo := 0) (n := 4) (fun i σ H3 => ∃ (x : Int) (z : Option V), σ = [some (.ref a), some (.int r1), some (.int x), z] ∧ 0 ≤ x ∧ x < 10 ^ (6 * (i + 1)) ∧ Hnd H3 a d ∧ Keep a H H3) ?_ ?_ ?_⟩
          · exact ⟨r2, none, rfl, l2, u2, n2, k1.trans k2⟩
          · rintro i σ H3 hi ⟨x, z, rfl, x0, x1, n3, k3⟩
            have hp : (10 : Int) ^ (6 * (i + 1 + 1)) = 10 ^ (6 * (i + 1)) * 1000000 := by
              rw [show 6 * (i + 1 + 1) = 6 * (i + 1) + 6 by omega, Int.pow_add]
              rfl
            have hx : Bn 4000 x := by
              have h30 : (10 : Int) ^ (6 * (i + 1)) ≤ 10 ^ 30 := by
                have : i = 0 ∨ i = 1 ∨ i = 2 ∨ i = 3 := by omega
                rcases this with h | h | h | h <;> subst h <;> decide
              refine Bn.mono (k := 100) ?_ (by decide)
              unfold Bn
              have : (10 : Int) ^ 30 < 2 ^ 100 := by decide
              omega
            refine ⟨_, rfl, _, _, rfl, rfl, ⟨by decide, by decide, by decide⟩, _, _, rfl, rfl, ⟨hx, ?_⟩, _, rfl, _, _, rfl, rfl, ⟨by decide, by decide, by decide⟩, a, d, 1000000, rfl, by decide, n3, fun r4 H4 l4 u4 n4 k4 => ⟨_, _, rfl, rfl, ?_⟩⟩
            · exact Bn.mono (k := 20) (by unfold Bn; decide) (by decide)
            · refine ⟨x * 1000000 + r4, _, rfl, by omega, ?_, n4, k3.trans k4⟩
              rw [hp]
              omega
          · rintro σ H3 ⟨x, z, rfl, x0, x1, n3, k3⟩
            exact ⟨x, z, rfl, x0, x1, n3, k3⟩
        · rw [decide_eq_false (show ¬ V.int r1 = V.int 5 from fun z => c5 (V.int.inj z))]
          exact ⟨r2, none, rfl, l2, Int.lt_trans u2 (by decide), n2, k1.trans k2⟩
      · rintro σ H3 ⟨x, z, rfl, x0, x1, n3, k3⟩
        refine ⟨_, rfl, _, rfl, a, d, 2, rfl, by decide, n3, fun r4 H4 l4 u4 n4 k4 => ?_⟩
        have h30 : (10 : Int) ^ 30 < 2 ^ 100 := by decide
        have bx : Bn 100 x := by
          unfold Bn
          omega
        have b2 : Bn 3 r4 := by
          unfold Bn
          omega
        have b3 : Bn 5 (1 - 2 * r4) := by
          unfold Bn
          omega
        refine ⟨_, _, rfl, rfl, ⟨Bn.mono (k := 3) (by unfold Bn; decide) (by decide), b2.mono (by decide)⟩, _, _, rfl, rfl, _, _, rfl, rfl, ⟨bx.mono (by decide), b3.mono (by decide)⟩, q _ _ ?_ n4 (k3.trans k4)⟩
        exact (bx.mul b3).mono (by decide)

theorem ok_sm {f : Addr} {fd : FuncData} (D : Df K mg "_law_same" s_law_same ["told", "due"] f fd) (T : Txt K mg cs) : FnOk P w K mg base CX0 1 f fd ["told", "due"] spSm := by
  refine D.fn.ok sc_law_same (fun vs H Q E h => ?_) (fun cdv A outer s H vs Q E hr h => ?_)
  · obtain ⟨a, b, p, q, rfl, _⟩ := h
    rfl
  · obtain ⟨a, b, p, q, rfl, ea, eb, k⟩ := h
    refine ⟨_, (pss_cons (ps_if (PW.pt (pw_or (pt_not (pt_val (pe_callB (isiK K) (by rfl) T.n_isinstance (by decide +kernel) (pa_cons (pv 0) (pa_cons (pe_ty "tuple" (by rfl) T.n_tuple (by decide +kernel)) pa_nil))))) (pw_or (pt_cmpR op_ne (pe_callB (lenS K) (by rfl) T.n_len (by decide +kernel) (pa_cons (pv 0) pa_nil)) pe_int (nomark _)) (pw_or (pt_val (pe_callB (isiK K) (by rfl) T.n_isinstance (by decide +kernel) (pa_cons (pe_ix (ixT K) (pv 0) pe_int (fun _ _ => rfl)) (pa_cons (pe_ty "bool" (by rfl) T.n_bool (by decide +kernel)) pa_nil)))) (pw_or1 (pt_val (pe_callB (isiK K) (by rfl) T.n_isinstance (by decide +kernel) (pa_cons (pe_ix (ixT K) (pv 0) pe_int (fun _ _ => rfl)) (pa_cons (pe_ty "bool" (by rfl) T.n_bool (by decide +kernel)) pa_nil))))))))) (pss_one (ps_ret pe_bl)) pss_nil) (pss_one (ps_ret (pe_and (pe_callB (isiK K) (by rfl) T.n_isinstance (by decide +kernel) (pa_cons (pe_ix (ixT K) (pv 0) pe_int (fun _ _ => rfl)) (pa_cons (pe_ty "int" (by rfl) T.n_int (by decide +kernel)) pa_nil))) (pe_and (pe_callB (isiK K) (by rfl) T.n_isinstance (by decide +kernel) (pa_cons (pe_ix (ixT K) (pv 0) pe_int (fun _ _ => rfl)) (pa_cons (pe_ty "int" (by rfl) T.n_int (by decide +kernel)) pa_nil))) (pe_one (pe_cmpR (op_eqD hr.units) (pv 0) (pv 1) (nomark _)))))))), ?_⟩
    have sa : SqT K H a [.int p, .int q] := .inl (.inl ea)
    have sb' : SqT K H b [.int p, .int q] := .inl (.inl eb)
    have da : Dp K H (.ref a) (.tuple [.int p, .int q]) := .tup sa (.cons (.int p) (.cons (.int q) .nil))
    have db : Dp K H (.ref b) (.tuple [.int p, .int q]) := .tup sb' (.cons (.int p) (.cons (.int q) .nil))
    have hs : SeqAt.shaped (.tuple [.int p, .int q]) = true := gd_shaped (n := 1) ⟨(by show 2 ≤ 5000; decide), fun x hx => by
      rcases List.mem_cons.mp hx with e | hx
      · subst e
        trivial
      rcases List.mem_cons.mp hx with e | hx
      · subst e
        trivial
      cases hx⟩ (by decide)
    refine ⟨_, rfl, _, _, _, _, _, rfl, .ty "tuple", dp_ty da, kit_tup _, _, rfl, ?_⟩
    refine ⟨_, rfl, a, _, rfl, .inr sa, rfl, _, rfl, ?_⟩
    refine ⟨_, rfl, a, _, 0, .int p, rfl, rfl, sa, rfl, _, _, _, _, false, rfl, .ty "bool", .base (.int p), kit_ty (by decide +kernel), _, rfl, ?_⟩
    refine ⟨_, rfl, a, _, 1, .int q, rfl, rfl, sa, rfl, _, _, _, _, false, rfl, .ty "bool", .base (.int q), kit_ty (by decide +kernel), _, rfl, ?_⟩
    refine ⟨_, rfl, a, _, 0, .int p, rfl, rfl, sa, rfl, _, _, _, _, true, rfl, .ty "int", .base (.int p), kit_ty (by decide +kernel), _, rfl, ?_⟩
    refine ⟨_, rfl, a, _, 1, .int q, rfl, rfl, sa, rfl, _, _, _, _, true, rfl, .ty "int", .base (.int q), kit_ty (by decide +kernel), _, rfl, ?_⟩
    refine ⟨_, rfl, _, rfl, _, _, da, db, hs, hs, ?_⟩
    have e : PyData.eqv (.tuple [.int p, .int q]) (.tuple [.int p, .int q]) = true := by
      simp [PyData.eqv, PyData.eqvAll]
    rw [e]
    exact k
theorem ok_issum {f : Addr} {fd : FuncData} (D : Df K mg "_law_is_sum" s_law_is_sum ["one", "two"] f fd) (T : Txt K mg cs) (c_law_lowest : Cl P w K mg base CX0 2 "_law_lowest" spLow) (c_law_same : Cl P w K mg base CX0 1 "_law_same" spSm)
    (c_add : Cl P w K mg base CX0 2 "add" spAdd) (k_add : Ck P w K mg base CX0 2 0 "add" ["second", "first"] (fun _ zs => zs.reverse) spAdd) (c_less : Cl P w K mg base CX0 3 "less" spLess) (k_less : Ck P w K mg base CX0 3 0 "less" ["second", "first"] (fun _ zs => zs.reverse) spLess)
    (c_times : Cl P w K mg base CX0 2 "times" spTimes) (k_times : Ck P w K mg base CX0 2 0 "times" ["second", "first"] (fun _ zs => zs.reverse) spTimes) : FnOk P w K mg base CX0 4 f fd ["one", "two"] spIsSum := by
  refine D.fn.ok sc_law_is_sum (fun vs H Q E h => ?_) (fun cdv A outer s H vs Q E hr h => ?_)
  · obtain ⟨a, b, p, q, u, v, rfl, _⟩ := h
    rfl
  · obtain ⟨a, b, p, q, u, v, rfl, ea, eb, fa, fb, k⟩ := h
    refine ⟨_, (pss_cons (ps_set (i := 2) sc_law_is_sum.nd rfl (.inl rfl) (pe_cl c_law_lowest hr (by first | decide | omega) (by rfl) (pa_cons (pe_op op_add (pe_op op_mulB (pe_ix (ixT K) (pv 0) pe_int (fun _ _ => rfl)) (pe_ix (ixT K) (pv 1) pe_int (fun _ _ => rfl))) (pe_op op_mulB (pe_ix (ixT K) (pv 1) pe_int (fun _ _ => rfl)) (pe_ix (ixT K) (pv 0) pe_int (fun _ _ => rfl)))) (pa_cons (pe_op op_mulB (pe_ix (ixT K) (pv 0) pe_int (fun _ _ => rfl)) (pe_ix (ixT K) (pv 1) pe_int (fun _ _ => rfl))) pa_nil)))) (pss_cons (ps_set (i := 3) sc_law_is_sum.nd rfl (.inl rfl) (pe_cl c_law_lowest hr (by first | decide | omega) (by rfl) (pa_cons (pe_op op_sub (pe_op op_mulB (pe_ix (ixT K) (pv 0) pe_int (fun _ _ => rfl)) (pe_ix (ixT K) (pv 1) pe_int (fun _ _ => rfl))) (pe_op op_mulB (pe_ix (ixT K) (pv 1) pe_int (fun _ _ => rfl)) (pe_ix (ixT K) (pv 0) pe_int (fun _ _ => rfl)))) (pa_cons (pe_op op_mulB (pe_ix (ixT K) (pv 0) pe_int (fun _ _ => rfl)) (pe_ix (ixT K) (pv 1) pe_int (fun _ _ => rfl))) pa_nil)))) (pss_cons (ps_if (PW.pt (pw_or (pt_not (pt_val (pe_cl c_law_same hr (by first | decide | omega) (by rfl) (pa_cons (pe_cl c_add hr (by first | decide | omega) (by rfl) (pa_cons (pv 0) (pa_cons (pv 1) pa_nil))) (pa_cons (pv 2) pa_nil))))) (pw_or1 (pt_not (pt_val (pe_cl c_law_same hr (by first | decide | omega) (by rfl) (pa_cons (pe_ck0 k_add hr (by first | decide | omega) (by rfl) (pk_cons (pv 0) (pk_cons (pv 1) pk_nil))) (pa_cons (pv 2) pa_nil)))))))) (pss_one (ps_ret pe_bl)) pss_nil) (pss_cons (ps_if (PW.pt (pw_or (pt_not (pt_val (pe_cl c_law_same hr (by first | decide | omega) (by rfl) (pa_cons (pe_cl c_less hr (by first | decide | omega) (by rfl) (pa_cons (pv 0) (pa_cons (pv 1) pa_nil))) (pa_cons (pv 3) pa_nil))))) (pw_or1 (pt_not (pt_val (pe_cl c_law_same hr (by first | decide | omega) (by rfl) (pa_cons (pe_ck0 k_less hr (by first | decide | omega) (by rfl) (pk_cons (pv 1) (pk_cons (pv 0) pk_nil))) (pa_cons (pv 3) pa_nil)))))))) (pss_one (ps_ret pe_bl)) pss_nil) (pss_cons (ps_if (PW.pt (pw_or (pt_not (pt_val (pe_cl c_law_same hr (by first | decide | omega) (by rfl) (pa_cons (pe_cl c_less hr (by first | decide | omega) (by rfl) (pa_cons (pv 2) (pa_cons (pv 1) pa_nil))) (pa_cons (pv 0) pa_nil))))) (pw_or1 (pt_not (pt_val (pe_cl c_law_same hr (by first | decide | omega) (by rfl) (pa_cons (pe_cl c_add hr (by first | decide | omega) (by rfl) (pa_cons (pv 0) (pa_cons (pe_tup (pa_cons (pe_op op_sub pe_int (pe_ix (ixT K) (pv 0) pe_int (fun _ _ => rfl))) (pa_cons (pe_ix (ixT K) (pv 0) pe_int (fun _ _ => rfl)) pa_nil))) pa_nil))) (pa_cons (pe_tup (pa_cons pe_int (pa_cons pe_int pa_nil))) pa_nil)))))))) (pss_one (ps_ret pe_bl)) pss_nil) (pss_cons (ps_set (i := 4) sc_law_is_sum.nd rfl (.inl rfl) (pe_cl c_law_lowest hr (by first | decide | omega) (by rfl) (pa_cons (pe_op op_mulB (pe_ix (ixT K) (pv 0) pe_int (fun _ _ => rfl)) (pe_ix (ixT K) (pv 1) pe_int (fun _ _ => rfl))) (pa_cons (pe_op op_mulB (pe_ix (ixT K) (pv 0) pe_int (fun _ _ => rfl)) (pe_ix (ixT K) (pv 1) pe_int (fun _ _ => rfl))) pa_nil)))) (pss_one (ps_ret (pe_and (pe_cl c_law_same hr (by first | decide | omega) (by rfl) (pa_cons (pe_cl c_times hr (by first | decide | omega) (by rfl) (pa_cons (pv 0) (pa_cons (pv 1) pa_nil))) (pa_cons (pv 4) pa_nil))) (pe_one (pe_cl c_law_same hr (by first | decide | omega) (by rfl) (pa_cons (pe_ck0 k_times hr (by first | decide | omega) (by rfl) (pk_cons (pv 0) (pk_cons (pv 1) pk_nil))) (pa_cons (pv 4) pa_nil))))))))))))), ?_⟩
    have i0 : ∀ {H : Hp} {r : Addr} {x y : Int}, H r = some (prT x y) → SqT K H r [.int x, .int y] := fun h => .inl (.inl h)
    have bp := fa.bp
    have bq := fa.bq
    have bu := fb.bp
    have bv := fb.bq
    have hqv := Int.mul_pos fa.pos fb.pos
    have hb : q * v ≠ 0 := Int.ne_of_gt hqv
    have m4 : ∀ {x : Int}, Bn 200 x → Bn 4000 x := fun h => h.mono (by decide)
    have m14 : ∀ {x : Int}, Bn 200 x → Bn 1400 x := fun h => h.mono (by decide)
    have bN : Bn 401 (p * v + u * q) := (bp.mul bv).add (bu.mul bq)
    have bD : Bn 401 (q * v) := (bq.mul bv).mono (by decide)
    -- due
    refine ⟨_, rfl, a, _, 0, .int p, rfl, rfl, i0 ea, rfl, _, rfl, b, _, 1, .int v, rfl, rfl, i0 eb, rfl, _, _, rfl, rfl, ⟨m4 bp, m4 bv⟩, ?_⟩
    refine ⟨_, rfl, b, _, 0, .int u, rfl, rfl, i0 eb, rfl, _, rfl, a, _, 1, .int q, rfl, rfl, i0 ea, rfl, _, _, rfl, rfl, ⟨m4 bu, m4 bq⟩, _, _, rfl, rfl, ?_⟩
    refine ⟨_, rfl, a, _, 1, .int q, rfl, rfl, i0 ea, rfl, _, rfl, b, _, 1, .int v, rfl, rfl, i0 eb, rfl, _, _, rfl, rfl, ⟨m4 bq, m4 bv⟩, ?_⟩
    refine ⟨p * v + u * q, q * v, rfl, hb, bN.mono (by decide), bD.mono (by decide), fun r1 H1 n1 s1 e1 => ?_⟩
    have ea1 := s1 _ _ ea
    have eb1 := s1 _ _ eb
    -- other
    refine ⟨_, rfl, a, _, 0, .int p, rfl, rfl, i0 ea1, rfl, _, rfl, b, _, 1, .int v, rfl, rfl, i0 eb1, rfl, _, _, rfl, rfl, ⟨m4 bp, m4 bv⟩, ?_⟩
    refine ⟨_, rfl, b, _, 0, .int u, rfl, rfl, i0 eb1, rfl, _, rfl, a, _, 1, .int q, rfl, rfl, i0 ea1, rfl, _, _, rfl, rfl, ⟨m4 bu, m4 bq⟩, _, _, rfl, rfl, ?_⟩
    refine ⟨_, rfl, a, _, 1, .int q, rfl, rfl, i0 ea1, rfl, _, rfl, b, _, 1, .int v, rfl, rfl, i0 eb1, rfl, _, _, rfl, rfl, ⟨m4 bq, m4 bv⟩, ?_⟩
    have eo : p * v - u * q = p * v + -u * q := by
      rw [Int.neg_mul]
      rfl
    have bO : Bn 401 (p * v - u * q) := by
      rw [eo]
      exact (bp.mul bv).add (bu.neg.mul bq)
    refine ⟨p * v - u * q, q * v, rfl, hb, bO.mono (by decide), bD.mono (by decide), fun r2 H2 n2 s2 e2 => ?_⟩
    rw [eo] at e2
    have ea2 := s2 _ _ ea1
    have eb2 := s2 _ _ eb1
    have e12 := s2 _ _ e1
    have s02 := s1.trans s2
    have fd1 : Fr 401 (lowN (p * v + u * q) (q * v)) (lowD (p * v + u * q) (q * v)) := Fr.low hb bN bD
    have hback := low_back fa fb.pos (u := u)
    generalize hn : lowN (p * v + u * q) (q * v) = n at *
    generalize hd : lowD (p * v + u * q) (q * v) = d at *
    generalize hn' : lowN (p * v + -u * q) (q * v) = n' at *
    generalize hd' : lowD (p * v + -u * q) (q * v) = d' at *
    clear ea1 eb1 e1 n1 n2 s1 s2 H1
    -- add
    refine ⟨_, rfl, _, rfl, a, b, p, q, u, v, rfl, ea2, eb2, fa.pos, fb.pos, m14 bp, m14 bq, m14 bu, m14 bv, fun r3 H3 n3 s3 e3 => ?_⟩
    rw [hn, hd] at e3
    refine ⟨_, rfl, r3, r1, n, d, rfl, e3, s3 _ _ e12, _, rfl, ?_⟩
    refine ⟨_, rfl, _, rfl, rfl, rfl, b, a, u, v, p, q, rfl, s3 _ _ eb2, s3 _ _ ea2, fb.pos, fa.pos, m14 bu, m14 bv, m14 bp, m14 bq, fun r4 H4 n4 s4 e4 => ?_⟩
    dsimp only at e4
    rw [Int.add_comm (u * q), Int.mul_comm v q, hn, hd] at e4
    have s24 := s3.trans s4
    refine ⟨_, rfl, r4, r1, n, d, rfl, e4, s24 _ _ e12, _, rfl, ?_⟩
    clear e3 n3 s3 e4 n4 s4
    -- less
    refine ⟨_, rfl, _, rfl, a, b, p, q, u, v, rfl, s24 _ _ ea2, s24 _ _ eb2, fa.pos, fb.pos, m14 bp, m14 bq, m14 bu, m14 bv, fun r5 H5 n5 s5 e5 => ?_⟩
    rw [hn', hd'] at e5
    have s25 := s24.trans s5
    refine ⟨_, rfl, r5, r2, n', d', rfl, e5, s25 _ _ e2, _, rfl, ?_⟩
    refine ⟨_, rfl, _, rfl, rfl, rfl, a, b, p, q, u, v, rfl, s25 _ _ ea2, s25 _ _ eb2, fa.pos, fb.pos, m14 bp, m14 bq, m14 bu, m14 bv, fun r6 H6 n6 s6 e6 => ?_⟩
    rw [hn', hd'] at e6
    have s26 := s25.trans s6
    refine ⟨_, rfl, r6, r2, n', d', rfl, e6, s26 _ _ e2, _, rfl, ?_⟩
    clear e5 n5 s5 e6 n6 s6
    -- less takes back add
    refine ⟨_, rfl, _, rfl, r1, b, n, d, u, v, rfl, s26 _ _ e12, s26 _ _ eb2, fd1.pos, fb.pos, fd1.bp.mono (by decide), fd1.bq.mono (by decide), m14 bu, m14 bv, fun r7 H7 n7 s7 e7 => ?_⟩
    dsimp only at e7
    rw [hback.1, hback.2] at e7
    have s27 := s26.trans s7
    refine ⟨_, rfl, r7, a, p, q, rfl, e7, s27 _ _ ea2, _, rfl, ?_⟩
    -- the negative
    refine ⟨_, rfl, _, rfl, a, _, 0, .int p, rfl, rfl, i0 (s27 _ _ ea2), rfl, _, _, rfl, rfl, _, rfl, a, _, 1, .int q, rfl, rfl, i0 (s27 _ _ ea2), rfl, (by show 2 ≤ sizeLine; decide), fun r8 n8 => ?_⟩
    have s28 : Same H2 (upd H7 r8 (.tup [.int (0 - p), .int q])) := s27.trans (same_new n8)
    refine ⟨a, r8, p, q, 0 - p, q, rfl, s28 _ _ ea2, upd_same, fa.pos, fa.pos, m14 bp, m14 bq, ?_, m14 bq, fun r9 H9 n9 s9 e9 => ?_⟩
    · rw [Int.zero_sub]
      exact m14 bp.neg
    dsimp only at e9
    rw [(low_nought fa.pos).1, (low_nought fa.pos).2] at e9
    have s29 := s28.trans s9
    refine ⟨(by show 2 ≤ sizeLine; decide), fun r10 n10 => ?_⟩
    have s210 : Same H2 (upd H9 r10 (.tup [.int 0, .int 1])) := s29.trans (same_new n10)
    refine ⟨r9, r10, 0, 1, rfl, same_new n10 _ _ e9, upd_same, _, rfl, ?_⟩
    generalize upd H9 r10 (.tup [.int 0, .int 1]) = H10 at s210
    clear e9 n9 s9 s28 n8 s29 n10 s27 e7 n7 s7 s26 s25 s24
    -- product
    refine ⟨_, rfl, a, _, 0, .int p, rfl, rfl, i0 (s210 _ _ ea2), rfl, _, rfl, b, _, 0, .int u, rfl, rfl, i0 (s210 _ _ eb2), rfl, _, _, rfl, rfl, ⟨m4 bp, m4 bu⟩, ?_⟩
    refine ⟨_, rfl, a, _, 1, .int q, rfl, rfl, i0 (s210 _ _ ea2), rfl, _, rfl, b, _, 1, .int v, rfl, rfl, i0 (s210 _ _ eb2), rfl, _, _, rfl, rfl, ⟨m4 bq, m4 bv⟩, ?_⟩
    refine ⟨p * u, q * v, rfl, hb, (bp.mul bu).mono (by decide), bD.mono (by decide), fun r11 H11 n11 s11 e11 => ?_⟩
    have s211 := s210.trans s11
    refine ⟨_, rfl, _, rfl, a, b, p, q, u, v, rfl, s211 _ _ ea2, s211 _ _ eb2, fa.pos, fb.pos, m14 bp, m14 bq, m14 bu, m14 bv, fun r12 H12 n12 s12 e12' => ?_⟩
    have s212 := s211.trans s12
    refine ⟨_, rfl, r12, r11, _, _, rfl, e12', s12 _ _ e11, _, rfl, ?_⟩
    refine ⟨_, rfl, _, rfl, rfl, rfl, b, a, u, v, p, q, rfl, s212 _ _ eb2, s212 _ _ ea2, fb.pos, fa.pos, m14 bu, m14 bv, m14 bp, m14 bq, fun r13 H13 n13 s13 e13 => ?_⟩
    dsimp only at e13
    rw [Int.mul_comm u p, Int.mul_comm v q] at e13
    refine ⟨_, rfl, r13, r11, _, _, rfl, e13, s13 _ _ (s12 _ _ e11), ?_⟩
    exact k _ ((s02.trans s212).trans s13)
theorem ok_asked {f : Addr} {fd : FuncData} (D : Df K mg "_law_asked" s_law_asked ["hand"] f fd) (T : Txt K mg cs) (c_law_take : Cl P w K mg base CX0 1 "_law_take" spTake) (c_law_whole : Cl P w K mg base CX0 2 "_law_whole" spW16) (c_law_lowest : Cl P w K mg base CX0 2 "_law_lowest" spLow) (c_law_same : Cl P w K mg base CX0 1 "_law_same" spSm)
    (c_fraction : Cl P w K mg base CX0 1 "fraction" spLow) (k_fraction : Ck P w K mg base CX0 1 0 "fraction" ["denominator", "numerator"] (fun _ zs => zs.reverse) spLow) (c_law_is_sum : Cl P w K mg base CX0 4 "_law_is_sum" spIsSum) : FnOk P w K mg base CX0 5 f fd ["hand"] spAsked := by
  refine D.fn.ok sc_law_asked (fun vs H Q E h => ?_) (fun cdv A outer s H vs Q E hr h => ?_)
  · obtain ⟨a, d, rfl, _⟩ := h
    rfl
  · obtain ⟨a, d, rfl, hn, k⟩ := h
    refine ⟨_, (pss_cons (ps_set (i := 1) sc_law_asked.nd rfl (.inl rfl) (pe_lst pa_nil)) (pss_cons (ps_for PassesOwn.never rfl (pi_range1 (by rfl) T.n_range (pa_cons pe_int pa_nil)) (pg_name (i := 2) sc_law_asked.nd rfl (.inl rfl)) (pss_cons (ps_set (i := 3) sc_law_asked.nd rfl (.inl rfl) (pe_cl c_law_whole hr (by first | decide | omega) (by rfl) (pa_cons (pv 0) pa_nil))) (pss_cons (ps_set (i := 4) sc_law_asked.nd rfl (.inl rfl) (pe_cl c_law_whole hr (by first | decide | omega) (by rfl) (pa_cons (pv 0) pa_nil))) (C8.pss_cut (ps_if (pt_cmpR op_eq (pv 4) pe_int (nomark _)) (pss_one (ps_set (i := 4) sc_law_asked.nd rfl (.inl rfl) (pe_op op_add pe_int (pe_cl c_law_take hr (by first | decide | omega) (by rfl) (pa_cons (pv 0) (pa_cons pe_int pa_nil)))))) pss_nil) (pss_cons (ps_set (i := 5) sc_law_asked.nd rfl (.inl rfl) (pe_cl c_law_lowest hr (by first | decide | omega) (by rfl) (pa_cons (pv 3) (pa_cons (pv 4) pa_nil)))) (pss_cons (ps_if (PW.pt (pw_or (pt_not (pt_val (pe_cl c_law_same hr (by first | decide | omega) (by rfl) (pa_cons (pe_cl c_fraction hr (by first | decide | omega) (by rfl) (pa_cons (pv 3) (pa_cons (pv 4) pa_nil))) (pa_cons (pv 5) pa_nil))))) (pw_or1 (pt_not (pt_val (pe_cl c_law_same hr (by first | decide | omega) (by rfl) (pa_cons (pe_ck0 k_fraction hr (by first | decide | omega) (by rfl) (pk_cons (pv 4) (pk_cons (pv 3) pk_nil))) (pa_cons (pv 5) pa_nil)))))))) (pss_one (ps_ret pe_bl)) pss_nil) (pss_one (ps_expr (pe_bm PySem.F.plainAttrs_list PySem.F.slot_list_append PySem.F.type_list_append mt_append (pv 1) (pa_cons (pv 5) pa_nil)))))))))) (pss_cons (ps_set (i := 6) sc_law_asked.nd rfl (.inl rfl) (pe_op op_add pe_int (pe_cl c_law_take hr (by first | decide | omega) (by rfl) (pa_cons (pv 0) (pa_cons pe_int pa_nil))))) (pss_cons (ps_if (pt_not (pt_val (pe_cl c_law_same hr (by first | decide | omega) (by rfl) (pa_cons (pe_cl c_fraction hr (by first | decide | omega) (by rfl) (pa_cons (pe_op op_mulB (pv 6) (pe_ix (ixT K) (pe_ix (ixL K) (pv 1) pe_int (fun _ _ => rfl)) pe_int (fun _ _ => rfl))) (pa_cons (pe_op op_mulB (pv 6) (pe_ix (ixT K) (pe_ix (ixL K) (pv 1) pe_int (fun _ _ => rfl)) pe_int (fun _ _ => rfl))) pa_nil))) (pa_cons (pe_ix (ixL K) (pv 1) pe_int (fun _ _ => rfl)) pa_nil))))) (pss_one (ps_ret pe_bl)) pss_nil) (pss_one (ps_ret (pe_and (pe_cl c_law_is_sum hr (by first | decide | omega) (by rfl) (pa_cons (pe_ix (ixL K) (pv 1) pe_int (fun _ _ => rfl)) (pa_cons (pe_ix (ixL K) (pv 1) pe_int (fun _ _ => rfl)) pa_nil))) (pe_and (pe_cl c_law_is_sum hr (by first | decide | omega) (by rfl) (pa_cons (pe_ix (ixL K) (pv 1) pe_int (fun _ _ => rfl)) (pa_cons (pe_ix (ixL K) (pv 1) pe_int (fun _ _ => rfl)) pa_nil))) (pe_one (pe_cl c_law_is_sum hr (by first | decide | omega) (by rfl) (pa_cons (pe_ix (ixL K) (pv 1) pe_int (fun _ _ => rfl)) (pa_cons (pe_ix (ixL K) (pv 1) pe_int (fun _ _ => rfl)) pa_nil)))))))))))), ?_⟩
    have i0 : ∀ {H : Hp} {r : Addr} {x y : Int}, H r = some (prT x y) → SqT K H r [.int x, .int y] := fun h => .inl (.inl h)
    -- found = []
    refine ⟨Nat.zero_le _, fun L nL => ?_⟩
    have hL := hn.ne nL
    have hn0 : Hnd (upd H L (.lst [])) a d := hn.new nL
    have eL0 : (upd H L (.lst [])) L = some (.lst []) := upd_same
    generalize upd H L (.lst []) = H0 at hn0 eL0
    clear hn nL
    refine ⟨_, rfl, by decide, by decide, for_range (lo := 0) (n := 3) (fun i σ H' => ∃ (xs : List (Addr × Int × Int)) (y2 y3 y4 y5 : Option V), σ = [some (.ref a), some (.ref L), y2, y3, y4, y5, none] ∧ xs.length = i ∧ H' L = some (.lst (xs.map fun x => V.ref x.1)) ∧
      (∀ x ∈ xs, H' x.1 = some (prT x.2.1 x.2.2) ∧ x.1 ≠ a ∧ Fr 110 x.2.1 x.2.2) ∧ Hnd H' a d) ?_ ?_ ?_⟩
    · exact ⟨[], none, none, none, none, rfl, rfl, eL0, fun x hx => (nomatch hx), hn0⟩
    · rintro i σ H' hi ⟨xs, y2, y3, y4, y5, rfl, hl, eL, hx, hh⟩
      refine ⟨_, rfl, a, d, rfl, hh, fun t H1 bt n1 k1 => ?_⟩
      refine ⟨_, rfl, a, d, rfl, n1, fun b H2 bb n2 k2 => ?_⟩
      refine ⟨fun σ2 H3 => ∃ b' : Int, σ2 = [some (.ref a), some (.ref L), some (.int (0 + (i : Int))), some (.int t), some (.int b'), y5, none] ∧ b' ≠ 0 ∧ Bn 110 b' ∧ Hnd H3 a d ∧ Keep a H' H3, ?_, ?_⟩
      · refine ⟨_, rfl, rfl, _, rfl, ?_⟩
        by_cases hb : b = 0
        · rw [decide_eq_true (show V.int b = V.int 0 by rw [hb])]
          refine ⟨_, rfl, a, d, 9, rfl, by decide, n2, fun r H3 l u n3 k3 => ⟨_, _, rfl, rfl, ?_⟩⟩
          refine ⟨1 + r, rfl, by omega, Bn.mono (k := 5) (by unfold Bn; omega) (by decide), n3, (k1.trans k2).trans k3⟩
        · rw [decide_eq_false (show ¬ V.int b = V.int 0 from fun z => hb (V.int.inj z))]
          exact ⟨b, rfl, hb, bb, n2, k1.trans k2⟩
      · rintro σ2 H3 ⟨b', rfl, hb, bb', n3, k3⟩
        have b30 : Bn 3000 t := bt.mono (by decide)
        have b31 : Bn 3000 b' := bb'.mono (by decide)
        refine ⟨_, rfl, _, rfl, t, b', rfl, hb, b30, b31, fun r1 H4 n4 s4 e4 => ?_⟩
        refine ⟨_, rfl, _, rfl, t, b', rfl, hb, b30, b31, fun r2 H5 n5 s5 e5 => ?_⟩
        refine ⟨_, rfl, r2, r1, _, _, rfl, e5, s5 _ _ e4, _, rfl, ?_⟩
        refine ⟨_, rfl, _, rfl, rfl, rfl, t, b', rfl, hb, b30, b31, fun r3 H6 n6 s6 e6 => ?_⟩
        refine ⟨_, rfl, r3, r1, _, _, rfl, e6, s6 _ _ (s5 _ _ e4), _, rfl, ?_⟩
        have s36 := (s4.trans s5).trans s6
        have k6 : Keep a H' H6 := k3.trans (Keep.same s36)
        have e46 := s6 _ _ (s5 _ _ e4)
        have hr1a : r1 ≠ a := by
          obtain ⟨o, ho⟩ := n3.some
          exact (ne_of_none ho n4).symm
        have eL6 := k6 _ _ eL hL.1
        have hr1L : r1 ≠ L := fun z => by
          rw [z, eL6] at e46
          cases e46
        refine ⟨_, rfl, .inl ⟨rfl, _, .inl (.inl eL6)⟩, _, rfl, L, _, _, rfl, rfl, eL6, ?_, ?_⟩
        · rw [List.length_map, hl]
          exact Nat.lt_of_lt_of_le (show i < 10000 by omega) (by decide)
        · refine ⟨xs ++ [(r1, lowN t b', lowD t b')], _, _, _, _, rfl, by rw [List.length_append, hl]; rfl, ?_, ?_, ?_⟩
          · rw [upd_same, List.map_append]
            rfl
          · intro x hx'
            rcases List.mem_append.mp hx' with h | h
            · obtain ⟨g1, g2, g3⟩ := hx x h
              refine ⟨?_, g2, g3⟩
              have g6 := k6 _ _ g1 g2
              rw [upd_ne (fun z => by rw [z, eL6] at g6; cases g6)]
              exact g6
            · rw [List.mem_singleton.mp h]
              refine ⟨?_, hr1a, Fr.low hb bt bb'⟩
              rw [upd_ne hr1L]
              exact e46
          · exact (n3.same s36).set hL.1 hL.2
    · rintro σ H' ⟨xs, y2, y3, y4, y5, rfl, hl, eL, hx, hh⟩
      match xs, hl, eL, hx with
      | [(x0, p0, q0), (x1, p1, q1), (x2, p2, q2)], _, eL, hx =>
        obtain ⟨e0, a0, f0⟩ := hx (x0, p0, q0) List.mem_cons_self
        obtain ⟨e1, a1, f1⟩ := hx (x1, p1, q1) (List.mem_cons_of_mem _ List.mem_cons_self)
        obtain ⟨e2, a2, f2⟩ := hx (x2, p2, q2) (List.mem_cons_of_mem _ (List.mem_cons_of_mem _ List.mem_cons_self))
        clear hx
        replace eL : H' L = some (.lst [.ref x0, .ref x1, .ref x2]) := eL
        dsimp only at e0 a0 f0 e1 a1 f1 e2 a2 f2
        have up : ∀ {p q : Int}, Fr 110 p q → Fr 200 p q := fun f => ⟨f.pos, f.cop, f.bp.mono (by decide), f.bq.mono (by decide)⟩
        -- factor
        refine ⟨_, rfl, a, d, 30, rfl, by decide, hh, fun r H1 l u n1 k1 => ⟨_, _, rfl, rfl, ?_⟩⟩
        have eL1 := k1 _ _ eL hL.1
        have g0 := k1 _ _ e0 a0
        have g1 := k1 _ _ e1 a1
        have g2 := k1 _ _ e2 a2
        have bf : Bn 6 (1 + r) := by
          unfold Bn
          omega
        refine ⟨_, rfl, _, rfl, L, _, 0, .ref x0, rfl, rfl, .inl (.inl eL1), rfl, x0, _, 0, .int p0, rfl, rfl, i0 g0, rfl, _, _, rfl, rfl, ⟨bf.mono (by decide), f0.bp.mono (by decide)⟩, ?_⟩
        refine ⟨_, rfl, _, rfl, L, _, 0, .ref x0, rfl, rfl, .inl (.inl eL1), rfl, x0, _, 1, .int q0, rfl, rfl, i0 g0, rfl, _, _, rfl, rfl, ⟨bf.mono (by decide), f0.bq.mono (by decide)⟩, ?_⟩
        have hf : 0 < 1 + r := by omega
        refine ⟨(1 + r) * p0, (1 + r) * q0, rfl, Int.ne_of_gt (Int.mul_pos hf f0.pos), (bf.mul f0.bp).mono (by decide), (bf.mul f0.bq).mono (by decide), fun r2 H2 n2 s2 e2' => ?_⟩
        rw [(low_factor f0 hf).1, (low_factor f0 hf).2] at e2'
        refine ⟨_, rfl, L, _, 0, .ref x0, rfl, rfl, .inl (.inl (s2 _ _ eL1)), rfl, r2, x0, p0, q0, rfl, e2', s2 _ _ g0, _, rfl, ?_⟩
        -- the sums
        refine ⟨_, rfl, L, _, 0, .ref x0, rfl, rfl, .inl (.inl (s2 _ _ eL1)), rfl, _, rfl, L, _, 1, .ref x1, rfl, rfl, .inl (.inl (s2 _ _ eL1)), rfl, x0, x1, p0, q0, p1, q1, rfl, s2 _ _ g0, s2 _ _ g1, up f0, up f1, fun H3 s3 => ⟨_, rfl, ?_⟩⟩
        have s13 := s2.trans s3
        refine ⟨_, rfl, L, _, 1, .ref x1, rfl, rfl, .inl (.inl (s13 _ _ eL1)), rfl, _, rfl, L, _, 2, .ref x2, rfl, rfl, .inl (.inl (s13 _ _ eL1)), rfl, x1, x2, p1, q1, p2, q2, rfl, s13 _ _ g1, s13 _ _ g2, up f1, up f2, fun H4 s4 => ⟨_, rfl, ?_⟩⟩
        have s14 := s13.trans s4
        exact ⟨_, rfl, L, _, 2, .ref x2, rfl, rfl, .inl (.inl (s14 _ _ eL1)), rfl, _, rfl, L, _, 2, .ref x2, rfl, rfl, .inl (.inl (s14 _ _ eL1)), rfl, x2, x2, p2, q2, p2, q2, rfl, s14 _ _ g2, s14 _ _ g2, up f2, up f2, fun H5 s5 => k _⟩
theorem ok_law16 {f : Addr} {fd : FuncData} (F : Fun K "law" "law" s_law f fd) (T : Txt K mg cs) (c_law_draws : Cl P w K mg base CX0 1 "_law_draws" (spDraws K)) (c_law_asked : Cl P w K mg base CX0 5 "_law_asked" spAsked) : FnOk P w K mg base CX0 6 f fd ["script"] (spLaw K) := by
  refine F.ok sc_law (fun vs H Q E h => ?_) (fun cdv A outer s H vs Q E hr h => ?_)
  · obtain ⟨a, ns, rfl, _⟩ := h
    rfl
  · obtain ⟨a, ns, rfl, hS, hlen, q⟩ := h
    refine ⟨_, (pss_one (ps_try_many (Wout := fun _ _ _ _ => False) rfl rfl takes0 (fun W pn xe tk _ => (pss_one (ps_ret (pe_cl c_law_asked hr (by first | decide | omega) (by rfl) (pa_cons (pe_lst (pa_cons (pe_cl c_law_draws hr (by first | decide | omega) (by rfl) (pa_cons (pv 0) (pa_cons pe_int pa_nil))) (pa_cons pe_int pa_nil))) pa_nil))))) (HdsOk.cons ⟨rfl, by decide, .inl T.gl_BreakError⟩ (fun a oe cls d pn hz hf => (pss_one (ps_ret pe_bl))) HdsOk.nil))), ?_⟩
    refine ⟨_, rfl, a, ns, 60, rfl, hS, hlen, by omega, fun d ds H1 nd s1 ed hd0 => ⟨(by show 2 ≤ sizeLine; decide), fun b nb => ?_⟩⟩
    have hn1 : Hnd (upd H1 b (.lst [.ref d, .int 0])) b d := ⟨ds, 0, upd_same, by rw [upd_ne (ne_of_none ed nb)]; exact ed, hd0, ne_of_none ed nb⟩
    exact ⟨b, d, rfl, hn1, fun H' => q H'⟩

theorem kb2 {x qual : Str} {st : Stmt} {f : Addr} {fd : FuncData} {ps ks : List Str} (F : Fun K x qual st f fd)
    (h : ∀ (kV doc pm : Value) (an : Option Addr) (cdv ct : Value) (us ws : List Value), us.length = 0 → ws.length = ks.length → bindArgs (PySem.W.fnOf x qual (defArgs st) (defBody st) (defScope st) .none kV doc pm an cdv ct) ⟨us, ks.zip ws⟩ = pure (ps.zip ws.reverse)) :
    KBn K fd ps 0 ks (fun _ ws => ws.reverse) (fun _ zs => zs.reverse) := Fun.kb F 0 h (fun _ r => Vals.rev r)
theorem mk_law {f1 f2 f3 f4 f5 f6 f7 f8 f9 f10 f11 f12 f : Addr} {d1 d2 d3 d4 d5 d6 d7 d8 d9 d10 d11 d12 fd : FuncData} (T : Txt K mg cs)
    (D_fraction : Df K mg "fraction" s_fraction ["numerator", "denominator"] f1 d1)
    (D_add : Df K mg "add" s_add ["first", "second"] f2 d2)
    (D_less : Df K mg "less" s_less ["first", "second"] f3 d3)
    (D_times : Df K mg "times" s_times ["first", "second"] f4 d4)
    (D__law_draws : Df K mg "_law_draws" s_law_draws ["script", "many"] f5 d5)
    (D__law_take : Df K mg "_law_take" s_law_take ["hand", "many"] f6 d6)
    (D__law_gcd : Df K mg "_law_gcd" s_law_gcd ["a", "b"] f7 d7)
    (D__law_lowest : Df K mg "_law_lowest" s_law_lowest ["top", "bottom"] f8 d8)
    (D__law_whole : Df K mg "_law_whole" s_law_whole ["hand"] f9 d9)
    (D__law_same : Df K mg "_law_same" s_law_same ["told", "due"] f10 d10)
    (D__law_is_sum : Df K mg "_law_is_sum" s_law_is_sum ["one", "two"] f11 d11)
    (D__law_asked : Df K mg "_law_asked" s_law_asked ["hand"] f12 d12)
    (F : Fun K "law" "law" s_law f fd) : FnOk P w K mg base CX0 top_level f fd ["script"] (spLaw K) := by
  have c_take : Cl P w K mg base CX0 1 "_law_take" spTake := D__law_take.cl (ok_take D__law_take T)
  have o_fr := ok_fraction (P := P) (w := w) (base := base) D_fraction T
  have c_fr : Cl P w K mg base CX0 1 "fraction" spLow := D_fraction.cl o_fr
  have o_add := ok_add (P := P) (w := w) (base := base) D_add T c_fr
  have c_add : Cl P w K mg base CX0 2 "add" spAdd := D_add.cl o_add
  have o_less := ok_less (P := P) (w := w) (base := base) D_less T c_add
  have o_times := ok_times (P := P) (w := w) (base := base) D_times T c_fr
  have c_low : Cl P w K mg base CX0 2 "_law_lowest" spLow := D__law_lowest.cl (ok_lowest D__law_lowest T (D__law_gcd.cl (ok_gcd D__law_gcd T)))
  have c_same : Cl P w K mg base CX0 1 "_law_same" spSm := D__law_same.cl (ok_sm D__law_same T)
  have k_fr : Ck P w K mg base CX0 1 0 "fraction" ["denominator", "numerator"] (fun _ zs => zs.reverse) spLow := ⟨_, _, _, _, o_fr, D_fraction.gl, D_fraction.fn.kp, kb2 D_fraction.fn (fun _ _ _ _ _ _ us ws hu hw => match us, ws, hu, hw with | [], [_, _], _, _ => rfl)⟩
  have k_add : Ck P w K mg base CX0 2 0 "add" ["second", "first"] (fun _ zs => zs.reverse) spAdd := ⟨_, _, _, _, o_add, D_add.gl, D_add.fn.kp, kb2 D_add.fn (fun _ _ _ _ _ _ us ws hu hw => match us, ws, hu, hw with | [], [_, _], _, _ => rfl)⟩
  have k_less : Ck P w K mg base CX0 3 0 "less" ["second", "first"] (fun _ zs => zs.reverse) spLess := ⟨_, _, _, _, o_less, D_less.gl, D_less.fn.kp, kb2 D_less.fn (fun _ _ _ _ _ _ us ws hu hw => match us, ws, hu, hw with | [], [_, _], _, _ => rfl)⟩
  have k_times : Ck P w K mg base CX0 2 0 "times" ["second", "first"] (fun _ zs => zs.reverse) spTimes := ⟨_, _, _, _, o_times, D_times.gl, D_times.fn.kp, kb2 D_times.fn (fun _ _ _ _ _ _ us ws hu hw => match us, ws, hu, hw with | [], [_, _], _, _ => rfl)⟩
  exact ok_law16 F T (D__law_draws.cl (ok_draws D__law_draws T)) (D__law_asked.cl (ok_asked D__law_asked T c_take (D__law_whole.cl (ok_whole16 D__law_whole T c_take)) c_low c_same c_fr k_fr
    (D__law_is_sum.cl (ok_issum D__law_is_sum T c_low c_same c_add k_add (D_less.cl o_less) k_less (D_times.cl o_times) k_times))))
end
theorem all_mk {l : PySem.W.OpenLaw} {w : World} {K : PySem.W.Frag} {h : Heap} {mg : Str → Option Value} {fa f1 f2 f3 f4 f5 f6 f7 f8 f9 f10 f11 f12 f13 : Addr} (X : K.In h) (G : h.Ns mainGlobals mg) (hfa : mg "law" = some (.ref fa))
    {od1 an1 od2 an2 od3 an3 od4 an4 od5 an5 od6 an6 od7 an7 od8 an8 od9 an9 od10 an10 od11 an11 od12 an12 od13 an13 : Option Addr} {sl1 sl2 sl3 sl4 sl5 sl6 sl7 sl8 sl9 sl10 sl11 sl12 sl13 : Array (Option Value)} {oc1 kV1 dc1 pm1 cd1 ct1 oc2 kV2 dc2 pm2 cd2 ct2 oc3 kV3 dc3 pm3 cd3 ct3 oc4 kV4 dc4 pm4 cd4 ct4 oc5 kV5 dc5 pm5 cd5 ct5 oc6 kV6 dc6 pm6 cd6 ct6 oc7 kV7 dc7 pm7 cd7 ct7 oc8 kV8 dc8 pm8 cd8 ct8 oc9 kV9 dc9 pm9 cd9 ct9 oc10 kV10 dc10 pm10 cd10 ct10 oc11 kV11 dc11 pm11 cd11 ct11 oc12 kV12 dc12 pm12 cd12 ct12 oc13 kV13 dc13 pm13 cd13 ct13 : Value}
    (a1 : PySem.W.nsIn K mainGlobals "fraction" = some (some (.ref f1))) (l1 : K.lookup f1 = some ⟨oc1, od1, .func (PySem.W.fnOf "fraction" "fraction" (defArgs s_fraction) (defBody s_fraction) (defScope s_fraction) .none kV1 dc1 pm1 an1 cd1 ct1), sl1⟩) (c1 : PySem.W.codeIn K cd1 "fraction" = true) (k1 : PySem.W.keepIn K (.ref f1) = true)
    (a2 : PySem.W.nsIn K mainGlobals "add" = some (some (.ref f2))) (l2 : K.lookup f2 = some ⟨oc2, od2, .func (PySem.W.fnOf "add" "add" (defArgs s_add) (defBody s_add) (defScope s_add) .none kV2 dc2 pm2 an2 cd2 ct2), sl2⟩) (c2 : PySem.W.codeIn K cd2 "add" = true) (k2 : PySem.W.keepIn K (.ref f2) = true)
    (a3 : PySem.W.nsIn K mainGlobals "less" = some (some (.ref f3))) (l3 : K.lookup f3 = some ⟨oc3, od3, .func (PySem.W.fnOf "less" "less" (defArgs s_less) (defBody s_less) (defScope s_less) .none kV3 dc3 pm3 an3 cd3 ct3), sl3⟩) (c3 : PySem.W.codeIn K cd3 "less" = true) (k3 : PySem.W.keepIn K (.ref f3) = true)
    (a4 : PySem.W.nsIn K mainGlobals "times" = some (some (.ref f4))) (l4 : K.lookup f4 = some ⟨oc4, od4, .func (PySem.W.fnOf "times" "times" (defArgs s_times) (defBody s_times) (defScope s_times) .none kV4 dc4 pm4 an4 cd4 ct4), sl4⟩) (c4 : PySem.W.codeIn K cd4 "times" = true) (k4 : PySem.W.keepIn K (.ref f4) = true)
    (a5 : PySem.W.nsIn K mainGlobals "_law_draws" = some (some (.ref f5))) (l5 : K.lookup f5 = some ⟨oc5, od5, .func (PySem.W.fnOf "_law_draws" "_law_draws" (defArgs s_law_draws) (defBody s_law_draws) (defScope s_law_draws) .none kV5 dc5 pm5 an5 cd5 ct5), sl5⟩) (c5 : PySem.W.codeIn K cd5 "_law_draws" = true) (k5 : PySem.W.keepIn K (.ref f5) = true)
    (a6 : PySem.W.nsIn K mainGlobals "_law_take" = some (some (.ref f6))) (l6 : K.lookup f6 = some ⟨oc6, od6, .func (PySem.W.fnOf "_law_take" "_law_take" (defArgs s_law_take) (defBody s_law_take) (defScope s_law_take) .none kV6 dc6 pm6 an6 cd6 ct6), sl6⟩) (c6 : PySem.W.codeIn K cd6 "_law_take" = true) (k6 : PySem.W.keepIn K (.ref f6) = true)
    (a7 : PySem.W.nsIn K mainGlobals "_law_gcd" = some (some (.ref f7))) (l7 : K.lookup f7 = some ⟨oc7, od7, .func (PySem.W.fnOf "_law_gcd" "_law_gcd" (defArgs s_law_gcd) (defBody s_law_gcd) (defScope s_law_gcd) .none kV7 dc7 pm7 an7 cd7 ct7), sl7⟩) (c7 : PySem.W.codeIn K cd7 "_law_gcd" = true) (k7 : PySem.W.keepIn K (.ref f7) = true)
    (a8 : PySem.W.nsIn K mainGlobals "_law_lowest" = some (some (.ref f8))) (l8 : K.lookup f8 = some ⟨oc8, od8, .func (PySem.W.fnOf "_law_lowest" "_law_lowest" (defArgs s_law_lowest) (defBody s_law_lowest) (defScope s_law_lowest) .none kV8 dc8 pm8 an8 cd8 ct8), sl8⟩) (c8 : PySem.W.codeIn K cd8 "_law_lowest" = true) (k8 : PySem.W.keepIn K (.ref f8) = true)
    (a9 : PySem.W.nsIn K mainGlobals "_law_whole" = some (some (.ref f9))) (l9 : K.lookup f9 = some ⟨oc9, od9, .func (PySem.W.fnOf "_law_whole" "_law_whole" (defArgs s_law_whole) (defBody s_law_whole) (defScope s_law_whole) .none kV9 dc9 pm9 an9 cd9 ct9), sl9⟩) (c9 : PySem.W.codeIn K cd9 "_law_whole" = true) (k9 : PySem.W.keepIn K (.ref f9) = true)
    (a10 : PySem.W.nsIn K mainGlobals "_law_same" = some (some (.ref f10))) (l10 : K.lookup f10 = some ⟨oc10, od10, .func (PySem.W.fnOf "_law_same" "_law_same" (defArgs s_law_same) (defBody s_law_same) (defScope s_law_same) .none kV10 dc10 pm10 an10 cd10 ct10), sl10⟩) (c10 : PySem.W.codeIn K cd10 "_law_same" = true) (k10 : PySem.W.keepIn K (.ref f10) = true)
    (a11 : PySem.W.nsIn K mainGlobals "_law_is_sum" = some (some (.ref f11))) (l11 : K.lookup f11 = some ⟨oc11, od11, .func (PySem.W.fnOf "_law_is_sum" "_law_is_sum" (defArgs s_law_is_sum) (defBody s_law_is_sum) (defScope s_law_is_sum) .none kV11 dc11 pm11 an11 cd11 ct11), sl11⟩) (c11 : PySem.W.codeIn K cd11 "_law_is_sum" = true) (k11 : PySem.W.keepIn K (.ref f11) = true)
    (a12 : PySem.W.nsIn K mainGlobals "_law_asked" = some (some (.ref f12))) (l12 : K.lookup f12 = some ⟨oc12, od12, .func (PySem.W.fnOf "_law_asked" "_law_asked" (defArgs s_law_asked) (defBody s_law_asked) (defScope s_law_asked) .none kV12 dc12 pm12 an12 cd12 ct12), sl12⟩) (c12 : PySem.W.codeIn K cd12 "_law_asked" = true) (k12 : PySem.W.keepIn K (.ref f12) = true)
    (a13 : PySem.W.nsIn K mainGlobals "law" = some (some (.ref f13))) (l13 : K.lookup f13 = some ⟨oc13, od13, .func (PySem.W.fnOf "law" "law" (defArgs s_law) (defBody s_law) (defScope s_law) .none kV13 dc13 pm13 an13 cd13 ct13), sl13⟩) (c13 : PySem.W.codeIn K cd13 "law" = true) (k13 : PySem.W.keepIn K (.ref f13) = true)
    (z1 : PySem.W.nsIn K mainGlobals "abs" = some none)
    (z2 : PySem.W.nsIn K mainGlobals "bool" = some none)
    (z3 : PySem.W.nsIn K mainGlobals "int" = some none)
    (z4 : PySem.W.nsIn K mainGlobals "isinstance" = some none)
    (z5 : PySem.W.nsIn K mainGlobals "len" = some none)
    (z6 : PySem.W.nsIn K mainGlobals "max" = some none)
    (z7 : PySem.W.nsIn K mainGlobals "min" = some none)
    (z8 : PySem.W.nsIn K mainGlobals "range" = some none)
    (z9 : PySem.W.nsIn K mainGlobals "tuple" = some none)
    {CBreakError : Addr}
    (wgcd : PySem.W.nsIn K mainGlobals "gcd" = some (some (.builtin "math.gcd")))
    (gBreakError : PySem.W.nsIn K mainGlobals "BreakError" = some (some (.ref CBreakError))) :
    ∃ fd : FuncData, (∀ (s : Shared) (v : Value), BindsTo s fd ⟨[v], []⟩ [("script", v)]) ∧ ∀ base : Heap, K.In base → base.Ns mainGlobals mg → FnOk l.prog w K mg base CX0 top_level fa fd ["script"] (spLaw K) := by
  have e := hfa.symm.trans (PySem.W.mg_of X G a13)
  cases e
  have T : Txt K mg ⟨CBreakError⟩ := { n_abs := PySem.W.mg_none_of X G z1, n_bool := PySem.W.mg_none_of X G z2, n_int := PySem.W.mg_none_of X G z3, n_isinstance := PySem.W.mg_none_of X G z4, n_len := PySem.W.mg_none_of X G z5, n_max := PySem.W.mg_none_of X G z6, n_min := PySem.W.mg_none_of X G z7, n_range := PySem.W.mg_none_of X G z8, n_tuple := PySem.W.mg_none_of X G z9, m_gcd := PySem.W.mg_of X G wgcd, gl_BreakError := PySem.W.mg_of X G gBreakError }
  have F1 := fun_mk (st := s_fraction) l1 c1 k1
  have b1 := F1.binds (ps := ["numerator", "denominator"]) fun _ _ _ _ _ _ us hl => match us, hl with | [_, _], _ => rfl
  have F2 := fun_mk (st := s_add) l2 c2 k2
  have b2 := F2.binds (ps := ["first", "second"]) fun _ _ _ _ _ _ us hl => match us, hl with | [_, _], _ => rfl
  have F3 := fun_mk (st := s_less) l3 c3 k3
  have b3 := F3.binds (ps := ["first", "second"]) fun _ _ _ _ _ _ us hl => match us, hl with | [_, _], _ => rfl
  have F4 := fun_mk (st := s_times) l4 c4 k4
  have b4 := F4.binds (ps := ["first", "second"]) fun _ _ _ _ _ _ us hl => match us, hl with | [_, _], _ => rfl
  have F5 := fun_mk (st := s_law_draws) l5 c5 k5
  have b5 := F5.binds (ps := ["script", "many"]) fun _ _ _ _ _ _ us hl => match us, hl with | [_, _], _ => rfl
  have F6 := fun_mk (st := s_law_take) l6 c6 k6
  have b6 := F6.binds (ps := ["hand", "many"]) fun _ _ _ _ _ _ us hl => match us, hl with | [_, _], _ => rfl
  have F7 := fun_mk (st := s_law_gcd) l7 c7 k7
  have b7 := F7.binds (ps := ["a", "b"]) fun _ _ _ _ _ _ us hl => match us, hl with | [_, _], _ => rfl
  have F8 := fun_mk (st := s_law_lowest) l8 c8 k8
  have b8 := F8.binds (ps := ["top", "bottom"]) fun _ _ _ _ _ _ us hl => match us, hl with | [_, _], _ => rfl
  have F9 := fun_mk (st := s_law_whole) l9 c9 k9
  have b9 := F9.binds (ps := ["hand"]) fun _ _ _ _ _ _ us hl => match us, hl with | [_], _ => rfl
  have F10 := fun_mk (st := s_law_same) l10 c10 k10
  have b10 := F10.binds (ps := ["told", "due"]) fun _ _ _ _ _ _ us hl => match us, hl with | [_, _], _ => rfl
  have F11 := fun_mk (st := s_law_is_sum) l11 c11 k11
  have b11 := F11.binds (ps := ["one", "two"]) fun _ _ _ _ _ _ us hl => match us, hl with | [_, _], _ => rfl
  have F12 := fun_mk (st := s_law_asked) l12 c12 k12
  have b12 := F12.binds (ps := ["hand"]) fun _ _ _ _ _ _ us hl => match us, hl with | [_], _ => rfl
  have F13 := fun_mk (st := s_law) l13 c13 k13
  have b13 := F13.binds (ps := ["script"]) fun _ _ _ _ _ _ us hl => match us, hl with | [_], _ => rfl
  refine ⟨PySem.W.fnOf "law" "law" (defArgs s_law) (defBody s_law) (defScope s_law) .none kV13 dc13 pm13 an13 cd13 ct13, fun s v => .of_eq rfl, fun base _ _ => ?_⟩
  exact mk_law T ⟨F1, b1, PySem.W.mg_of X G a1⟩ ⟨F2, b2, PySem.W.mg_of X G a2⟩ ⟨F3, b3, PySem.W.mg_of X G a3⟩ ⟨F4, b4, PySem.W.mg_of X G a4⟩ ⟨F5, b5, PySem.W.mg_of X G a5⟩ ⟨F6, b6, PySem.W.mg_of X G a6⟩ ⟨F7, b7, PySem.W.mg_of X G a7⟩ ⟨F8, b8, PySem.W.mg_of X G a8⟩ ⟨F9, b9, PySem.W.mg_of X G a9⟩ ⟨F10, b10, PySem.W.mg_of X G a10⟩ ⟨F11, b11, PySem.W.mg_of X G a11⟩ ⟨F12, b12, PySem.W.mg_of X G a12⟩ F13
end My
open PySem PySem.W PyProof.Rows
set_option maxRecDepth 100000 in
set_option maxHeartbeats 0 in
theorem PySem.Challenge.cw_breakback_k16_fractions_holds : PySem.Challenge.rw_breakback_k16_fractions.Holds := by
  w_on; o_law; k_head; (case hw => w_witness2)
  k_fill
  refine L2.walk_of (l := PySem.Challenge.rw_breakback_k16_fractions) (n := 63) (k := My.top_level) (x := "script") (CX := fun _ => L2.CX0) (sp := fun w => My.spLaw _) rfl (by decide) rfl ⟨rfl, by decide, by decide⟩ (fun w h Y => PySem.W.kIn_of Y) ?F (fun _ _ a ns hl _ hS => ⟨a, ns, rfl, hS, hl, fun _ => rfl⟩) (fun _ _ _ _ _ h => h)
  case F =>
    intro w mg fa h KX G hmg
    refine' My.all_mk KX G hmg ?a1 ?l1 ?c1 ?k1 ?a2 ?l2 ?c2 ?k2 ?a3 ?l3 ?c3 ?k3 ?a4 ?l4 ?c4 ?k4 ?a5 ?l5 ?c5 ?k5 ?a6 ?l6 ?c6 ?k6 ?a7 ?l7 ?c7 ?k7 ?a8 ?l8 ?c8 ?k8 ?a9 ?l9 ?c9 ?k9 ?a10 ?l10 ?c10 ?k10 ?a11 ?l11 ?c11 ?k11 ?a12 ?l12 ?c12 ?k12 ?a13 ?l13 ?c13 ?k13 ?z1 ?z2 ?z3 ?z4 ?z5 ?z6 ?z7 ?z8 ?z9 ?wgcd ?gBreakError
    (case a1 => k_is); (case l1 => k_is); (case c1 => k_is); (case k1 => k_is); (case a2 => k_is); (case l2 => k_is); (case c2 => k_is); (case k2 => k_is)
    (case a3 => k_is); (case l3 => k_is); (case c3 => k_is); (case k3 => k_is); (case a4 => k_is); (case l4 => k_is); (case c4 => k_is); (case k4 => k_is)
    (case a5 => k_is); (case l5 => k_is); (case c5 => k_is); (case k5 => k_is); (case a6 => k_is); (case l6 => k_is); (case c6 => k_is); (case k6 => k_is)
    (case a7 => k_is); (case l7 => k_is); (case c7 => k_is); (case k7 => k_is); (case a8 => k_is); (case l8 => k_is); (case c8 => k_is); (case k8 => k_is)
    (case a9 => k_is); (case l9 => k_is); (case c9 => k_is); (case k9 => k_is); (case a10 => k_is); (case l10 => k_is); (case c10 => k_is); (case k10 => k_is)
    (case a11 => k_is); (case l11 => k_is); (case c11 => k_is); (case k11 => k_is); (case a12 => k_is); (case l12 => k_is); (case c12 => k_is); (case k12 => k_is)
    (case a13 => k_is); (case l13 => k_is); (case c13 => k_is); (case k13 => k_is); (case z1 => k_is); (case z2 => k_is); (case z3 => k_is); (case z4 => k_is)
    (case z5 => k_is); (case z6 => k_is); (case z7 => k_is); (case z8 => k_is); (case z9 => k_is); (case wgcd => k_is); (case gBreakError => k_is)
#print axioms PySem.Challenge.cw_breakback_k16_fractions_holds
