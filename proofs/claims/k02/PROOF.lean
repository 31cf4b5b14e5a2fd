
import PyProof.Rows.All
import Wide.All
import OpenK.AllK
import Wide.FinOn
import HandS.ForMost
import HandS.Codes
import HandS.StrMore
import HandS.Defaults
import HandS.IntHex
import HandS.IsInst
import HandS.TupAny
import HandS.TupMul
import PyProof.FString3
import PyProof.Rows.StrIntSpec
import PyProof.StrOps2
import KE.IntText
import KE.KIntText
import KE.IntTextLaws
import HandS.Exc
import HandS.ExcOwn
import HandS.TryOnly
import HandS.TryMany
import HandS.ExcIs
import HandS.WordsExc
import HandS.ForExc

import PySem.Challenge.RW_breakback_k02_blocks_that_are_right
set_option Elab.async false
set_option linter.all false
set_option maxRecDepth 100000
set_option maxHeartbeats 4000000
namespace My
open PySem PySem.Spec PyProof.Rows L2
theorem snocInd {α : Type} {P : List α → Prop} (h0 : P []) (h1 : ∀ l a, P l → P (l ++ [a])) (l : List α) : P l := by
  have h : ∀ (n : Nat) (l : List α), l.length = n → P l := by
    intro n
    induction n with
    | zero =>
      intro l e
      rw [List.eq_nil_of_length_eq_zero e]
      exact h0
    | succ n ih =>
      intro l e
      have hn : l ≠ [] := fun z => by
        rw [z] at e
        cases e
      rw [← List.dropLast_concat_getLast hn]
      exact h1 _ _ (ih _ (by rw [List.length_dropLast, e]; rfl))
  exact h _ l rfl
/-! ### strings of bits -/
def cB (b : Bool) : Nat := if b then 49 else 48
def sb (bs : List Bool) : Str := SX.S (bs.map cB)
def toB : Nat → Nat → List Bool
  | 0, _ => []
  | n + 1, k => toB n (k / 2) ++ [k % 2 == 1]
def bit (b : Bool) : Nat := if b then 1 else 0
def val (bs : List Bool) : Nat := bs.foldl (fun a b => 2 * a + bit b) 0
theorem toB_len : ∀ n k, (toB n k).length = n
  | 0, _ => rfl
  | n + 1, k => by
    show (toB n (k / 2) ++ [k % 2 == 1]).length = n + 1
    rw [List.length_append, toB_len n]
    rfl
theorem sb_len (bs : List Bool) : (sb bs).length = bs.length := by
  unfold sb
  rw [SX.S_len, List.length_map]
theorem cB_inj {a b : Bool} (h : cB a = cB b) : a = b := by
  cases a <;> cases b <;> first | rfl | (exact absurd h (by decide))
theorem map_cB_inj : ∀ {l m : List Bool}, l.map cB = m.map cB → l = m
  | [], [], _ => rfl
  | [], _ :: _, h => by simp at h
  | _ :: _, [], h => by simp at h
  | a :: l, b :: m, h => by
    rw [List.map_cons, List.map_cons] at h
    injection h with h1 h2
    rw [cB_inj h1, map_cB_inj h2]
theorem sb_inj {l m : List Bool} (h : sb l = sb m) : l = m := map_cB_inj (SX.S_inj h)
theorem sb_cat (l m : List Bool) : sb l ++ sb m = sb (l ++ m) := by
  unfold sb
  rw [SX.S_cat, List.map_append]
theorem val_snoc (l : List Bool) (b : Bool) : val (l ++ [b]) = 2 * val l + bit b := by
  unfold val
  rw [List.foldl_append]
  rfl
theorem bit_lt (b : Bool) : bit b < 2 := by cases b <;> decide
theorem toB_val (bs : List Bool) : toB bs.length (val bs) = bs := by
  induction bs using snocInd with
  | h0 => rfl
  | h1 l b ih =>
    rw [List.length_append, val_snoc]
    show toB (l.length + 1) _ = _
    show toB l.length ((2 * val l + bit b) / 2) ++ [(2 * val l + bit b) % 2 == 1] = l ++ [b]
    have h := bit_lt b
    rw [show (2 * val l + bit b) / 2 = val l by omega, ih, show (2 * val l + bit b) % 2 = bit b by omega]
    cases b <;> rfl
theorem val_lt (bs : List Bool) : val bs < 2 ^ bs.length := by
  induction bs using snocInd with
  | h0 => exact Nat.one_pos
  | h1 l b ih =>
    rw [List.length_append, val_snoc]
    show _ < 2 ^ (l.length + 1)
    have h := bit_lt b
    rw [Nat.pow_succ]
    omega
theorem val_toB : ∀ (n k : Nat), k < 2 ^ n → val (toB n k) = k
  | 0, k, h => by
    have e : k = 0 := by
      have : k < 1 := h
      omega
    subst e
    rfl
  | n + 1, k, h => by
    show val (toB n (k / 2) ++ [k % 2 == 1]) = k
    rw [Nat.pow_succ] at h
    rw [val_snoc, val_toB n (k / 2) (by omega)]
    have e : bit (k % 2 == 1) = k % 2 := by
      rcases Nat.mod_two_eq_zero_or_one k with z | z <;> rw [z] <;> rfl
    rw [e]
    omega
theorem toB_zero (n : Nat) : toB n 0 = List.replicate n false := by
  induction n with
  | zero => rfl
  | succ n ih =>
    show toB n 0 ++ [false] = _
    rw [ih, List.replicate_succ']
/-! ### two strings place by place -/
theorem toB_xor : ∀ (n a b : Nat), toB n (a ^^^ b) = List.zipWith (fun x y => x != y) (toB n a) (toB n b)
  | 0, _, _ => rfl
  | n + 1, a, b => by
    show toB n ((a ^^^ b) / 2) ++ [(a ^^^ b) % 2 == 1] = List.zipWith (fun x y => x != y) (toB n (a / 2) ++ [a % 2 == 1]) (toB n (b / 2) ++ [b % 2 == 1])
    rw [List.zipWith_append (by rw [toB_len, toB_len]), Nat.xor_div_two, toB_xor n]
    congr 1
    have e : (a ^^^ b) % 2 = (a % 2) ^^^ (b % 2) := by
      have h := Nat.xor_mod_two_pow (a := a) (b := b) (n := 1)
      rw [Nat.pow_one] at h
      exact h
    rw [e]
    rcases Nat.mod_two_eq_zero_or_one a with z | z <;> rcases Nat.mod_two_eq_zero_or_one b with y | y <;> rw [z, y] <;> rfl
theorem toB_and : ∀ (n a b : Nat), toB n (a &&& b) = List.zipWith (fun x y => x && y) (toB n a) (toB n b)
  | 0, _, _ => rfl
  | n + 1, a, b => by
    show toB n ((a &&& b) / 2) ++ [(a &&& b) % 2 == 1] = List.zipWith (fun x y => x && y) (toB n (a / 2) ++ [a % 2 == 1]) (toB n (b / 2) ++ [b % 2 == 1])
    rw [List.zipWith_append (by rw [toB_len, toB_len]), Nat.and_div_two, toB_and n]
    congr 1
    have e : (a &&& b) % 2 = (a % 2) * (b % 2) := by
      have h := Nat.and_mod_two_pow (a := a) (b := b) (n := 1)
      rw [Nat.pow_one] at h
      rw [h]
      rcases Nat.mod_two_eq_zero_or_one a with z | z <;> rcases Nat.mod_two_eq_zero_or_one b with y | y <;> rw [z, y] <;> rfl
    rw [e]
    rcases Nat.mod_two_eq_zero_or_one a with z | z <;> rcases Nat.mod_two_eq_zero_or_one b with y | y <;> rw [z, y] <;> rfl
/-! ### the digits that Python writes -/
def dig (k : Nat) : List Nat := (Nat.toDigits 2 k).map Char.toNat
theorem dig_lt {k : Nat} (h : k < 2) : dig k = [cB (k == 1)] := by
  unfold dig
  rw [Nat.toDigits_of_lt_base h]
  have : k = 0 ∨ k = 1 := by omega
  rcases this with e | e <;> subst e <;> rfl
theorem dig_ge {k : Nat} (h : 2 ≤ k) : dig k = dig (k / 2) ++ [cB (k % 2 == 1)] := by
  unfold dig
  rw [Nat.toDigits_of_base_le (by decide) h, List.map_append]
  congr 1
  rcases Nat.mod_two_eq_zero_or_one k with z | z <;> rw [z] <;> rfl
theorem dig_toB : ∀ (n k : Nat), k < 2 ^ (n + 1) → ∃ p, (toB (n + 1) k).map cB = List.replicate p 48 ++ dig k
  | 0, k, h => by
    have hk : k < 2 := h
    refine ⟨0, ?_⟩
    rw [dig_lt hk]
    show [cB (k % 2 == 1)] = [cB (k == 1)]
    rw [Nat.mod_eq_of_lt hk]
  | n + 1, k, h => by
    show ∃ p, (toB (n + 1) (k / 2) ++ [k % 2 == 1]).map cB = _
    rw [List.map_append]
    by_cases hk : k < 2
    · refine ⟨n + 1, ?_⟩
      rw [dig_lt hk, show k / 2 = 0 by omega, toB_zero, List.map_replicate, Nat.mod_eq_of_lt hk]
      rfl
    · have h' : k < 2 ^ (n + 1) * 2 := by
        rw [← Nat.pow_succ]
        exact h
      obtain ⟨p, e⟩ := dig_toB n (k / 2) (by omega)
      refine ⟨p, ?_⟩
      rw [e, dig_ge (k := k) (by omega), List.append_assoc]
      rfl
theorem dig_len_pos (k : Nat) : 0 < (dig k).length := by
  unfold dig
  rw [List.length_map]
  exact Nat.length_toDigits_pos
theorem dig_head (k : Nat) : ∃ c r, dig k = c :: r ∧ (c = 48 ∨ c = 49) := by
  induction k using Nat.strongRecOn with
  | _ k ih =>
    by_cases hk : k < 2
    · rw [dig_lt hk]
      exact ⟨_, _, rfl, by cases (k == 1) <;> decide⟩
    · obtain ⟨c, r, e, h⟩ := ih (k / 2) (by omega)
      rw [dig_ge (by omega), e]
      exact ⟨c, r ++ [_], rfl, h⟩
theorem zfill_dig (n k : Nat) (h : k < 2 ^ (n + 1)) : Txt.zfill (SX.S (dig k)) ((n + 1 : Nat) : Int) = sb (toB (n + 1) k) := by
  obtain ⟨p, e⟩ := dig_toB n k h
  have hl : n + 1 = p + (dig k).length := by
    have := congrArg List.length e
    rw [List.length_map, toB_len, List.length_append, List.length_replicate] at this
    exact this
  unfold sb
  rw [e]
  unfold Txt.zfill
  rw [SX.S_len]
  by_cases hp : p = 0
  · subst hp
    rw [if_pos (by omega)]
    rfl
  · rw [if_neg (by omega)]
    obtain ⟨c, r, ed, hc⟩ := dig_head k
    have hm : ((n + 1 : Nat) : Int).toNat - (dig k).length = p := by omega
    rw [hm]
    unfold zfilled
    rw [ed]
    rcases hc with rfl | rfl
    · show Builtin.Str.padded _ p 0 48 = _
      refine TL.ext_tl ?_
      simp [Builtin.Str.padded, TL.tl, SX.S]
    · show Builtin.Str.padded _ p 0 48 = _
      refine TL.ext_tl ?_
      simp [Builtin.Str.padded, TL.tl, SX.S]
section
open Builtin Builtin.Str Builtin.Int Builtin.Float
theorem ite_n {c : Prop} [Decidable c] {X Y : Prop} (hc : ¬ c) (h : Y) : if c then X else Y := by
  rw [if_neg hc]
  exact h
theorem ite_y {c : Prop} [Decidable c] {X Y : Prop} (hc : c) (h : X) : if c then X else Y := by
  rw [if_pos hc]
  exact h
/-- the text of the bits of n, as the format "b" makes it -/
theorem field_b (l : List Nat) (hl : l ≠ []) : intField' { fill := 32, align := 62, type := some 98 } false [] l [] 4 = ⟨l.toArray⟩ := by
  unfold intField'
  have h0 : l.isEmpty = false := by
    cases l with
    | nil => exact absurd rfl hl
    | cons a r => rfl
  simp [h0]
theorem wp_eq {α : Type} {M : Model} {A : Around} {t t' : Sem α} {Q : α → Shared → Prop} {E : Value → Shared → Prop} {s : Shared} (e : t = t') (h : wpAny M A t' Q E s) : wpAny M A t Q E s := by
  rw [e]
  exact h
set_option maxHeartbeats 1000000 in
theorem gives_fmtB {spec : PySem.Str} (n : Nat) (t u : Tok) (hz : (Nat.toDigits 2 n).length ≤ sizeLine)
    (hp : parseFormatSpec spec.cps.toList "int" 62 = .ok { fill := 32, align := 62, type := some 98 }) (hne : (spec.length == 0) = false)
    (hasc : ((spec.cps.toList.drop 1).any (· ≥ 128) || (spec.cps.getD 0 0 ≥ 128 && !([60, 62, 61, 94] : List Nat).contains (spec.cps.getD 1 0))) = false) :
    Gives («int.__format__» ⟨[.int (n : Int) t, .str spec u], []⟩) (.str ⟨((Nat.toDigits 2 n).map Char.toNat).toArray⟩) := by
  intro prog w A R s hq
  unfold Builtin.«int.__format__»
  simp only [selfAndOne, noKeywords, Int.intOfSelf, asInt?, asStr?, List.isEmpty_nil, if_true, pure_bind, bind_pure, bind_assoc, hne, hasc, Bool.false_eq_true, if_false,
    show (Value.str spec u == Value.none) = false from rfl]
  refine wpAny_bind (wpAny_typeNameOf (T := "str") (typeIs_str _ _ _) (by decide) fun _ => ?_)
  refine wpAny_bind (wpAny_typeNameOfCut_int ?_)
  simp only [hp, Option.getD_some]
  refine wpAny_ite (ite_y (by decide) ?_)
  refine wp_eq (t' := retStr (intField' { fill := 32, align := 62, type := some 98 } (decide ((n : Int) < 0)) [] ((Nat.toDigits 2 n).map fun c => (if (98 : Nat) == 88 then c.toUpper else c).toNat) [] 4)) (by kernel_rfl) ?_
  rw [show decide ((n : Int) < 0) = false from decide_eq_false (by omega), field_b _ (by
    have := Nat.length_toDigits_pos (b := 2) (n := n)
    intro z
    rw [List.map_eq_nil_iff] at z
    rw [z] at this
    exact absurd this (by decide))]
  refine wpAny_bind (wpAny_mkStr (wpAny_pure hq.2) ?_)
  show (List.toArray _).size ≤ _
  rw [List.size_toArray, List.length_map]
  exact hz
end
/-! ### a text times an int -/
theorem foldl_app (x : Array Nat) : ∀ (n : Nat) (acc : Array Nat), ((List.replicate n x).foldl (· ++ ·) acc).toList = acc.toList ++ (List.replicate n x.toList).flatten
  | 0, acc => by simp
  | n + 1, acc => by
    rw [List.replicate_succ, List.foldl_cons, foldl_app x n, List.replicate_succ, List.flatten_cons, Array.toList_append, List.append_assoc]
def rRepS : R2 := fun x y H Q => ∃ (l : List Nat) (k : Int), x = .str (SX.S l) ∧ y = .int k ∧ (0 ≤ k ∧ l.length * k.toNat ≤ 16777216 ∧ k ≤ 16777216) ∧ Q (.str (SX.S (List.replicate k.toNat l).flatten)) H
theorem op_repS {X : Cx} : OpR X (binaryOp .Mult) rRepS := by
  intro pins s σ H x y v u Q I rx ry h
  obtain ⟨l, k, rfl, rfl, ⟨h0, hz, hk⟩, q⟩ := h
  obtain ⟨t, rfl⟩ := rx
  obtain ⟨t', rfl⟩ := ry
  have hs : sizeLine = 16777216 := sizeLine_eq
  refine PySem.P.mul_str ?_ (fun h1 _ => ?_) (fun _ _ => ?_) ?_
  · rw [decide_eq_false (by omega), decide_eq_false (by omega)]
    rfl
  · rw [SX.S_len]
    have hp : 0 < k := by omega
    have : (l.length : Int) * k ≤ 16777216 := by
      have e : ((l.length * k.toNat : Nat) : Int) = (l.length : Int) * k := by
        rw [Int.natCast_mul, Int.toNat_of_nonneg h0]
      omega
    have := (Int.le_ediv_iff_mul_le hp (a := (l.length : Int)) (b := 2 ^ 63 - 1)).mpr (by omega)
    omega
  · rw [SX.S_len]
    unfold Builtin.Str.tooLong
    rw [sizeLine_eq]
    exact decide_eq_false (by omega)
  · by_cases h1 : k < 1
    · rw [if_pos h1]
      have e : k = 0 := by omega
      subst e
      exact ⟨by decide, .str (SX.S []), H, I.tok _, ⟨_, rfl⟩, q⟩
    · rw [if_neg h1]
      by_cases h2 : (k == 1 || (SX.S l).length == 0) = true
      · rw [if_pos h2]
        have e : (List.replicate k.toNat l).flatten = l := by
          rw [Bool.or_eq_true, beq_iff_eq, beq_iff_eq, SX.S_len] at h2
          rcases h2 with e | e
          · subst e
            simp
          · rw [List.eq_nil_of_length_eq_zero e]
            simp
        rw [e] at q
        exact ⟨.str (SX.S l), H, I, ⟨t, rfl⟩, q⟩
      · rw [if_neg h2]
        have e : (⟨(List.replicate k.toNat (SX.S l).cps).foldl (· ++ ·) #[]⟩ : Str) = SX.S (List.replicate k.toNat l).flatten := by
          refine TL.ext_tl ?_
          show (List.foldl (· ++ ·) (#[] : Array Nat) (List.replicate k.toNat l.toArray)).toList = _
          rw [foldl_app]
          rfl
        rw [e]
        refine ⟨?_, .str _, H, I.tok _, ⟨_, rfl⟩, q⟩
        rw [SX.S_len, List.length_flatten, List.map_replicate, List.sum_replicate_nat, hs]
        rw [Nat.mul_comm]
        exact hz
/-! ### f(k = v, ..): keywords alone -/
theorem pe_callN0 {X : Cx} {CX : CXT} {k : Nat} {f : Addr} {fd : FuncData} {ps ks : List Str} {sp : Sp} {E : XK} {x : Str} {p pos : Pos} {kws : List Keyword} {tk : TA} {g : List Value → List Value → List Value} {gV : List V → List V → List V}
    (F : FnOk X.prog X.w X.K X.mg X.base CX k f fd ps sp) (hr : Room k X.A) (hg : Gl X x) (hm : X.mg x = some (.ref f)) (hk : PySem.W.keepIn X.K (.ref f) = true) (hb : KBn X.K fd ps 0 ks g gV) (hx : Passes CX X E)
    (hkw : PK X kws tk) (hall : (backToKw pos (keywordEach kws X.env)).all (·.1.isSome) = true := by rfl) (hks : (backToKw pos (keywordEach kws X.env)).filterMap (·.1) = ks := by rfl)
    (hdb : (x == ("__debug__" : Str)) = false := by decide)
    (hpl : ((backTo pos (starEach [] X.env)).any (·.1) || (backToKw pos (keywordEach kws X.env)).any (·.1.isNone)) = false := by rfl) :
    PE X (.Call (.Name x p) [] kws pos) (tCallN 0 ks.length sp gV E tNil tk) := by
  refine ⟨fun pins s σ H Q I h => ?_⟩
  refine wpAny_Call_Name_kw (ld_glob I hg hm ?_ hdb)
  refine PySem.W.callWith_KW0 (h₀ := X.base) I.ok.mod.kin hk hall ?_ hpl
  refine thn (hkw.run pos pins s σ H _ I h) fun ws s2 ⟨zs, H2, I2, rz, l1, l2, q2⟩ => ⟨I2.kIn, ?_⟩
  rw [hks]
  exact run_fnN (us := []) (vs := []) F hr hb hx I2 .nil rz rfl l2 q2
/-! ### int(t, 2) -/
namespace Two
open PySem.NumText PySem.Calls
def Bin (c : Nat) : Prop := c = 48 ∨ c = 49
def num (l : List Nat) : Nat := l.foldl (fun a c => a * 2 + (c - 48)) 0
theorem Bin.plain {c : Nat} (h : Bin c) : c ≠ 95 ∧ c ≠ 0 ∧ c < 128 ∧ 33 ≤ c ∧ c ≠ 32 ∧ c ≠ 43 ∧ c ≠ 45 := by
  rcases h with e | e <;> subst e <;> decide
theorem one {ds : Array Nat} {b : Bool} {c : Nat} (h : Bin c) : PySem.NumText.step 2 (ds, b) c = some (ds.push (c - 48), true) := by
  rcases h with e | e <;> subst e <;> rfl
theorem more : ∀ (cs : List Nat) (ds : Array Nat), (∀ c ∈ cs, Bin c) → cs.foldlM (PySem.NumText.step 2) (ds, true) = some ((ds.toList ++ cs.map (· - 48)).toArray, true)
  | [], ds, _ => by simp
  | c :: cs, ds, h => by
    rw [List.foldlM_cons, one (h c (List.mem_cons_self ..))]
    refine (more cs (ds.push (c - 48)) fun d hd => h d (List.mem_cons_of_mem _ hd)).trans ?_
    simp
theorem all {cs : List Nat} (h : ∀ c ∈ cs, Bin c) (hne : cs ≠ []) : digits? 2 cs = some (cs.map (· - 48)).toArray := by
  cases cs with
  | nil => exact absurd rfl hne
  | cons c cs =>
    have e : List.foldlM (PySem.NumText.step 2) ((#[] : Array Nat), false) (c :: cs) = some (((c :: cs).map (· - 48)).toArray, true) := by
      rw [List.foldlM_cons, one (h c (List.mem_cons_self ..))]
      refine (more cs (#[].push (c - 48)) fun d hd => h d (List.mem_cons_of_mem _ hd)).trans ?_
      simp
    unfold digits?
    rw [e]
    rfl
theorem worth (l : List Nat) : (l.map (· - 48)).toArray.foldl (fun acc d => acc * 2 + d) 0 = num l := by
  rw [← Array.foldl_toList]
  unfold num
  rw [List.foldl_map]
theorem noBlank {cs : List Nat} (h : ∀ c ∈ cs, Bin c) : cs.dropWhile blank = cs := by
  cases cs with
  | nil => rfl
  | cons c cs =>
    have := (h c (List.mem_cons_self ..)).plain
    exact dropWhile_of (by omega)
theorem noSign {cs : List Nat} (h : ∀ c ∈ cs, Bin c) : sign cs = (false, cs) := by
  cases cs with
  | nil => rfl
  | cons c cs =>
    have := (h c (List.mem_cons_self ..)).plain
    exact sign_of (by omega) (by omega)
theorem noPre {cs : List Nat} (h : ∀ c ∈ cs, Bin c) : based 2 cs = (2, false, cs) := by
  match cs, h with
  | [], _ => rfl
  | [a], h =>
    rcases h a (List.mem_cons_self ..) with e | e <;> subst e <;> rfl
  | a :: c :: r, h =>
    rcases h a (List.mem_cons_self ..) with e | e <;> subst e <;>
      rcases h c (List.mem_cons_of_mem _ (List.mem_cons_self ..)) with e | e <;> subst e <;> rfl
theorem read {cs : List Nat} (h : ∀ c ∈ cs, Bin c) (hne : cs ≠ []) : (int_private% "readNumeral") 0 2 cs = (int_private% "Numeral.value") ((num cs : Nat) : Int) := by
  have hb : based 2 cs = (2, false, cs) := noPre h
  have hr : ∀ c ∈ cs.reverse, Bin c := fun c hc => h c (List.mem_reverse.mp hc)
  rw [readNumeral_eq 0 2 cs, noBlank h, noSign h]
  show judge 0 false (based 2 cs).1 (based 2 cs).2.1 (digits? (based 2 cs).1 (((based 2 cs).2.2.reverse.dropWhile blank).reverse)) = _
  rw [hb]
  show judge 0 false 2 false (digits? 2 ((cs.reverse.dropWhile blank).reverse)) = _
  rw [noBlank hr, List.reverse_reverse, all h hne]
  show (int_private% "Numeral.value") (((cs.map (· - 48)).toArray.foldl (fun acc d => acc * 2 + d) 0 : Nat) : Int) = _
  rw [worth]
theorem seen {x : Str} (h : ∀ c ∈ x.cps.toList, Bin c) : numTextOf x = x.cps.toList ∧ numSeenOf x = x.cps.toList := by
  have e1 : numTextOf x = x.cps.toList := if_pos (by
    rw [← Array.all_toList, List.all_eq_true]
    exact fun c hc => decide_eq_true (h c hc).plain.2.2.1)
  refine ⟨e1, ?_⟩
  show List.takeWhile _ (numTextOf x) = _
  rw [e1]
  exact takeWhile_all fun c hc => bne_iff_ne.mpr (h c hc).plain.2.1
set_option maxHeartbeats 4000000 in
theorem gives {x : PySem.Str} {u t : Tok} (hl : x.length ≤ 640) (h : ∀ c ∈ x.cps.toList, Bin c) (hne : x.cps.toList ≠ []) :
    Gives (Builtin.«int.__new__» ⟨[.type "int", .str x u, .int 2 t], []⟩) (.int ((num x.cps.toList : Nat) : Int)) :=
  .of_wp fun M A E s Q hQ => by
    obtain ⟨hp, g, d, tk, os⟩ := s
    have f1 := F.conv_sub_int
    have f2 := F.madeHere_int
    have f6 : typeOf (.str x u) = pure (.type "str") := rfl
    obtain ⟨e1, e2⟩ := seen h
    have hk : Hx.Hid ((numSeenOf x).length ≤ 640 ∧ (int_private% "readNumeral") 0 2 (numSeenOf x) = (int_private% "Numeral.value") ((num x.cps.toList : Nat) : Int) ∧ ((numSeenOf x).length == (numTextOf x).length) = true) := by
      refine ⟨?_, ?_, ?_⟩
      · rw [e2, Array.length_toList]
        exact hl
      · rw [e2]
        exact read h hne
      · rw [e1, e2]
        exact beq_self_eq_true _
    clear e1 e2 hl hne h
    repeat (any_goals (first
      | assumption
      | ((with_reducible show wpAny _ _ ((int_private% "intFromText") _ _ _) _ _ _); refine Hx.wp_textB hk.out.1 hk.out.2.1 hk.out.2.2 ?_)
      | wp_step))
    all_goals (try exact ⟨_, rfl, hQ⟩)
end Two
def rIntBin : List V → Hp → VK → Prop := fun xs H Q => ∃ l : List Nat, xs = [.str (SX.S l), .int 2] ∧ (l ≠ [] ∧ l.length ≤ 640 ∧ ∀ c ∈ l, Two.Bin c) ∧ Q (.int ((Two.num l : Nat) : Int)) H
theorem call_int_bin {X : Cx} : CallR X (.type "int") rIntBin := by
  intro pins s σ H xs us Q I r h
  obtain ⟨l, rfl, ⟨hne, hl, hx⟩, q⟩ := h
  obtain ⟨u, w', rfl, ⟨t1, rfl⟩, ⟨t2, rfl⟩⟩ := vals2 r
  exact callType_new F.called_int F.newNe_int (Hx.typeCall_int_2 _ _) (Hx.newCall_int_2 _ _) (fun obj => F.initArgs_range_2 obj _ _) F.entry_int_new
    (Two.gives (x := SX.S l) (u := t1) (t := t2) (by rw [SX.S_len]; exact hl) hx hne).meets (show (Made.int ((Two.num l : Nat) : Int)).post _ s from ⟨rfl, .int ((Two.num l : Nat) : Int), H, I.tok _, ⟨_, rfl⟩, q⟩)
/-! ### f"{n:b}" -/
def tFmtB (te : TE) : TE := fun σ H Q => te σ H fun x H1 => ∃ n : Nat, x = .int (n : Int) ∧ (dig n).length ≤ 16777216 ∧ Q (.str (SX.S (dig n))) H1
theorem spec_b : Builtin.Float.parseFormatSpec (Str.ofString "b").cps.toList "int" 62 = .ok { fill := 32, align := 62, type := some 98 } := by kernel_rfl
theorem pe_fmtB {X : Cx} {e : Expr} {te : TE} {j : Nat} {p1 p2 p3 p4 : Pos} (he : PE X e te) : PE X (.JoinedStr [.FormattedValue e (-1) (some (.JoinedStr [.Constant (.str "b") j p1] p2)) p3] p4) (tFmtB te) := by
  refine ⟨fun pins s σ H Q I h => ?_⟩
  refine wpAny_JoinedStr_one (wpAny_FormattedValue_spec (thn (he.run pins s σ H _ I h) fun v s1 hv => ?_))
  obtain ⟨x, H1, I1, r1, n, rfl, hz, q⟩ := hv
  obtain ⟨t, rfl⟩ := r1
  refine wpAny_JoinedStr_one (thn ((pe_str (X := X) (x := "b") (j := j) (pos := p1)).run pins s1 σ H1 (fun v H2 => v = .str "b" ∧ H2 = H1) I1 ⟨rfl, rfl⟩) fun v s2 hv => ?_)
  obtain ⟨x, H2, I2, r2, rfl, rfl⟩ := hv
  obtain ⟨t2, rfl⟩ := r2
  have hd : (Nat.toDigits 2 n).length ≤ sizeLine := by
    have h := hz
    unfold dig at h
    rw [List.length_map] at h
    rw [sizeLine_eq]
    exact h
  refine ⟨_, t2, rfl, wpAny_formatField_spec (by decide) (fun s' => typeIs_int s' _ t) F.slot_int_format F.entry_int_format F.args_int_format_2 (fun u => gives_fmtB n t u hd spec_b (by decide) (by decide)) ⟨.str (SX.S (dig n)), _, I2.tok _, ⟨_, rfl⟩, q⟩ (by decide) ?_⟩
  show (List.toArray _).size ≤ _
  rw [List.size_toArray, List.length_map]
  exact hd
/-! ### a def under its name, with its promise -/
structure Df (K : PySem.W.Frag) (mg : Str → Option Value) (x : Str) (st : Stmt) (ps : List Str) (f : Addr) (fd : FuncData) : Prop where
  fn : Fun K x x st f fd
  bi : Binds K fd ps []
  gl : mg x = some (.ref f)
structure Cl (P : Program) (w : World) (K : PySem.W.Frag) (mg : Str → Option Value) (base : Heap) (CX : CXT) (k : Nat) (x : Str) (sp : Sp) : Prop where
  ex : ∃ (f : Addr) (fd : FuncData) (ps : List Str), FnOk P w K mg base CX k f fd ps sp ∧ mg x = some (.ref f) ∧ PySem.W.keepIn K (.ref f) = true ∧ Binds K fd ps []
structure Ck (P : Program) (w : World) (K : PySem.W.Frag) (mg : Str → Option Value) (base : Heap) (CX : CXT) (k n : Nat) (x : Str) (ks : List Str) (gV : List V → List V → List V) (sp : Sp) : Prop where
  ex : ∃ (f : Addr) (fd : FuncData) (ps : List Str) (g : List Value → List Value → List Value), FnOk P w K mg base CX k f fd ps sp ∧ mg x = some (.ref f) ∧ PySem.W.keepIn K (.ref f) = true ∧ KBn K fd ps n ks g gV
section
variable {P : Program} {w : World} {K : PySem.W.Frag} {mg : Str → Option Value} {base : Heap} {CX : CXT} {k j : Nat} {x : Str} {sp : Sp}
theorem Df.cl {st : Stmt} {ps : List Str} {f : Addr} {fd : FuncData} (D : Df K mg x st ps f fd) (h : FnOk P w K mg base CX k f fd ps sp) : Cl P w K mg base CX k x sp := ⟨f, fd, ps, h, D.gl, D.fn.kp, D.bi⟩
theorem pe_cl {X : Cx} {p pos : Pos} {e : Expr} {es : List Expr} {t : TA} (c : Cl X.prog X.w X.K X.mg X.base CX0 k x sp) (hr : Room j X.A) (hk : k ≤ j) (hg : Gl X x) (ha : PA X (e :: es) t)
    (hdb : (x == ("__debug__" : Str)) = false := by decide) (he : starEach (e :: es) X.env = (false, eval e X.env) :: starEach es X.env := by rfl) (hpl : (backTo pos (starEach es X.env)).any (·.1) = false := by rfl) :
    PE X (.Call (.Name x p) (e :: es) [] pos) (tCall sp [] E0 t) := by
  obtain ⟨f, fd, ps, F, hm, kp, b⟩ := c.ex
  exact pe_call F (hr.mono hk) hg hm kp b .nil pass0 ha hdb he hpl
theorem pe_ck0 {X : Cx} {p pos : Pos} {kws : List Keyword} {tk : TA} {ks : List Str} {gV : List V → List V → List V} (c : Ck X.prog X.w X.K X.mg X.base CX0 k 0 x ks gV sp) (hr : Room j X.A) (hk : k ≤ j) (hg : Gl X x) (hkw : PK X kws tk)
    (hall : (backToKw pos (keywordEach kws X.env)).all (·.1.isSome) = true := by rfl) (hks : (backToKw pos (keywordEach kws X.env)).filterMap (·.1) = ks := by rfl)
    (hdb : (x == ("__debug__" : Str)) = false := by decide)
    (hpl : ((backTo pos (starEach [] X.env)).any (·.1) || (backToKw pos (keywordEach kws X.env)).any (·.1.isNone)) = false := by rfl) :
    PE X (.Call (.Name x p) [] kws pos) (tCallN 0 ks.length sp gV E0 tNil tk) := by
  obtain ⟨f, fd, ps, g, F, hm, kp, b⟩ := c.ex
  exact pe_callN0 F (hr.mono hk) hg hm kp b pass0 hkw hall hks hdb hpl
end
/-! ### rules that speak of the written part, K named (a comprehension's block asks it so) -/
section
variable {X : Cx}
theorem ixL (K : PySem.W.Frag) (h : X.K = K := by rfl) : IxR X (rIxL K) := by
  subst h
  exact ix_list
theorem ixT (K : PySem.W.Frag) (h : X.K = K := by rfl) : IxR X (rIxT K) := by
  subst h
  exact ix_tup
def rLenS (K : PySem.W.Frag) : List V → Hp → VK → Prop := fun xs H Q => ∃ p ys, xs = [.ref p] ∧ (SqL K H p ys ∨ SqT K H p ys) ∧ Q (.int (ys.length : Nat)) H
theorem lenS (K : PySem.W.Frag) (h : X.K = K := by rfl) : CallR X (.builtin "len") (rLenS K) := by
  subst h
  exact call_len_seq
def rListOf (K : PySem.W.Frag) : List V → Hp → VK → Prop := fun xs H Q => ∃ p ys, xs = [.ref p] ∧ (SqL K H p ys ∨ SqT K H p ys) ∧ ∀ l, H l = none → Q (.ref l) (upd H l (.lst ys))
theorem listOf (K : PySem.W.Frag) (h : X.K = K := by rfl) : CallR X (.type "list") (rListOf K) := by
  subst h
  exact call_list_of
def rTupOf (K : PySem.W.Frag) : List V → Hp → VK → Prop := fun xs H Q => ∃ p ys, xs = [.ref p] ∧ ((SqL K H p ys ∧ ∀ l, H l = none → Q (.ref l) (upd H l (.tup ys))) ∨ (SqT K H p ys ∧ Q (.ref p) H))
theorem tupOf (K : PySem.W.Frag) (h : X.K = K := by rfl) : CallR X (.type "tuple") (rTupOf K) := by
  subst h
  exact call_tuple_of
theorem crSum (K : PySem.W.Frag) (hc : X.calm = true) (h : X.K = K := by rfl) : CallR X (.builtin "sum") (rSum K) := by
  subst h
  exact cr_sum hc
theorem crAll (K : PySem.W.Frag) (hc : X.calm = true) (h : X.K = K := by rfl) : CallR X (.builtin "all") (rAll K) := by
  subst h
  exact cr_all hc
theorem isiK (K : PySem.W.Frag) (h : X.K = K := by rfl) : CallR X (.builtin "isinstance") (rIsi K) := by
  subst h
  exact call_isi
theorem opCatA (K : PySem.W.Frag) (h : X.K = K := by rfl) : OpR X (binaryOp .Add) (rCatA K) := by
  subst h
  exact op_catA
theorem slL (K : PySem.W.Frag) (h : X.K = K := by rfl) : SlR X (rSlL K) := by
  subst h
  exact sl_list
def rJoin (K : PySem.W.Frag) : V → List V → Hp → VK → Prop := fun x xs H Q => ∃ (a : Str) (p : Addr) (ys : List Str), x = .str a ∧ xs = [.ref p] ∧ (SqL K H p (ys.map V.str) ∨ SqT K H p (ys.map V.str)) ∧ (ys.map (·.length)).sum + ys.length * a.length ≤ 16777216 ∧ Q (.str (Txt.join a ys)) H
theorem mtJoin (K : PySem.W.Frag) (h : X.K = K := by rfl) : MtR X "str.join" (rJoin K) := by
  subst h
  exact mt_join
theorem slTA (K : PySem.W.Frag) (h : X.K = K := by rfl) : SlR X (rSlA K) := by
  subst h
  exact sl_tupA
/-- a built-in class as a value -/
theorem pe_ty {x : Str} {pos : Pos} (t : String) (hg : Gl X x) (hm : X.mg x = none) (hv : bootBuiltins x = some (.type t)) (hn : x ≠ "__name__" := by decide +kernel) (hd : (x == ("__debug__" : Str)) = false := by decide +kernel) : PE X (.Name x pos) (tC (.ty t)) := pe_bltn hg hm hv rfl hn hd
end

theorem Vals.rev : ∀ {xs : List V} {us : List Value}, Vals xs us → Vals xs.reverse us.reverse
  | _, _, .nil => .nil
  | _, _, .cons r t => by
    rw [List.reverse_cons, List.reverse_cons]
    exact Vals.append (Vals.rev t) (.cons r .nil)
theorem Fun.kb {K : PySem.W.Frag} {x qual : Str} {st : Stmt} {f : Addr} {fd : FuncData} {ps ks : List Str} {g : List Value → List Value → List Value} {gV : List V → List V → List V} (F : Fun K x qual st f fd) (n : Nat)
    (h : ∀ (kV doc pm : Value) (an : Option Addr) (cdv ct : Value) (us ws : List Value), us.length = n → ws.length = ks.length → bindArgs (PySem.W.fnOf x qual (defArgs st) (defBody st) (defScope st) .none kV doc pm an cdv ct) ⟨us, ks.zip ws⟩ = pure (ps.zip (g us ws)))
    (hrel : ∀ {vs : List V} {us : List Value} {zs : List V} {ws : List Value}, Vals vs us → Vals zs ws → Vals (gV vs zs) (g us ws)) : KBn K fd ps n ks g gV := by
  obtain ⟨oc, od, kV, doc, pm, an, cdv, ct, osl, rfl, lk, hcd⟩ := F.ex
  exact ⟨fun s us ws _ l1 l2 => .of_eq (h kV doc pm an cdv ct us ws l1 l2), hrel⟩

/-! ### own errors -/
structure Exn (K : PySem.W.Frag) (mg : Str → Option Value) (x : Str) (C : Addr) : Prop where
  inn : PySem.W.excIn K C [.type "ValueError", .type "Exception", .type "BaseException", .type "object"] "ValueError.__new__" = true
  gl : mg x = some (.ref C)
  kp : PySem.W.keepIn K (.ref C) = true
  ba : PySem.W.subIn K (.ref C) (.type "BaseException") = some true
  ty : PySem.W.typeIn K (.ref C) = some (.type "type")
section
variable {X : Cx} {C : Addr} {x m : Str} {j k i : Nat} {p p2 pos pos2 : Pos} {W : WX} {sp : Sp} {e : Expr} {es : List Expr} {t : TA}
theorem ps_raiseE (e : Exn X.K X.mg x C) (hc : X.calm = true) (tk : Takes X W) (hg : Gl X x) (hdb : (x == ("__debug__" : Str)) = false := by decide) :
    PS X (.Raise (some (.Call (.Name x p) [.Constant (.str m) j p2] [] pos)) none pos2) (fun _ σ H => W (.ref C) none σ H) :=
  ps_raise hc tk (pmk_own PySem.F.excBase_ValueError e.inn e.gl e.kp (raises_own e.ba e.ty) hg hdb)
theorem pe_clX (c : Cl X.prog X.w X.K X.mg X.base (L2.CX X.prog X.w) k x sp) (hr : Room i X.A) (hk : k ≤ i) (hg : Gl X x) (tk : Takes X W) (ha : PA X (e :: es) t)
    (hdb : (x == ("__debug__" : Str)) = false := by decide) (he : starEach (e :: es) X.env = (false, eval e X.env) :: starEach es X.env := by rfl) (hpl : (backTo pos (starEach es X.env)).any (·.1) = false := by rfl) :
    PE X (.Call (.Name x p) (e :: es) [] pos) (tCallS sp (WE W) t) := by
  obtain ⟨f, fd, ps, F, hm, kp, b⟩ := c.ex
  exact pe_callS F (hr.mono hk) hg hm kp b (fun σ => passAt tk σ) ha hdb he hpl
end

/-! ### data: what a value is, to any depth -/
theorem dp_all_len {K : PySem.W.Frag} {H : Hp} : ∀ {vs : List V} {ds : List PyData}, DpAll K H vs ds → vs.length = ds.length
  | _, _, .nil => rfl
  | _, _, .cons _ t => congrArg Nat.succ (dp_all_len t)
theorem dp_all_get {K : PySem.W.Frag} {H : Hp} : ∀ {vs : List V} {ds : List PyData} {i : Nat} {v : V}, DpAll K H vs ds → vs[i]? = some v → ∃ d, ds[i]? = some d ∧ Dp K H v d
  | _, _, _, _, .nil, h => by simp at h
  | _, _, 0, v, .cons h t, e => by
    have e' := Option.some.inj e
    subst e'
    exact ⟨_, rfl, h⟩
  | _, _, i + 1, v, .cons h t, e => dp_all_get (i := i) t e
theorem same_sqt {K : PySem.W.Frag} {H H' : Hp} {a : Addr} {xs : List V} (e : Same H H') (h : SqT K H a xs) : SqT K H' a xs := by
  rcases h with (h | ⟨o, h⟩) | h
  · exact .inl (.inl (e _ _ h))
  · exact .inl (.inr ⟨o, e _ _ h⟩)
  · exact .inr h
mutual
theorem dp_same {K : PySem.W.Frag} {H H' : Hp} (e : Same H H') : ∀ (d : PyData) {v : V}, Dp K H v d → Dp K H' v d
  | .none, _, .non => .non
  | .bool _, _, .bl b => .bl b
  | .int _, _, .int i => .int i
  | .str _, _, .str x => .str x
  | .list ds, _, .lst hs ha => .lst (e.seq hs) (dps_same e ds ha)
  | .tuple ds, _, .tup hs ha => .tup (same_sqt e hs) (dps_same e ds ha)
  | .dict _, _, h => by cases h
theorem dps_same {K : PySem.W.Frag} {H H' : Hp} (e : Same H H') : ∀ (ds : List PyData) {vs : List V}, DpAll K H vs ds → DpAll K H' vs ds
  | [], _, .nil => .nil
  | d :: ds, _, .cons h t => .cons (dp_same e d h) (dps_same e ds t)
end
def okT (x : Str) : Prop := PySem.PyData.strOk x = true ∧ x.length ≤ 5000
/-- plain data of so many levels at most, nothing large -/
def Gd : Nat → PyData → Prop
  | 0, d => match d with
    | .none => True
    | .bool _ => True
    | .int _ => True
    | .str x => okT x
    | _ => False
  | n + 1, d => match d with
    | .none => True
    | .bool _ => True
    | .int _ => True
    | .str x => okT x
    | .list xs => xs.length ≤ 5000 ∧ ∀ x ∈ xs, Gd n x
    | .tuple xs => xs.length ≤ 5000 ∧ ∀ x ∈ xs, Gd n x
    | .dict _ => False
theorem gd_str {n : Nat} {x : Str} (h : Gd n (.str x)) : okT x := by
  cases n with
  | zero => exact h
  | succ n => exact h
theorem gd_tup {n : Nat} {xs : List PyData} (h : Gd n (.tuple xs)) : xs.length ≤ 5000 ∧ ∃ m, n = m + 1 ∧ ∀ x ∈ xs, Gd m x := by
  cases n with
  | zero => exact h.elim
  | succ n => exact ⟨h.1, n, rfl, h.2⟩
theorem gd_lst {n : Nat} {xs : List PyData} (h : Gd n (.list xs)) : xs.length ≤ 5000 ∧ ∃ m, n = m + 1 ∧ ∀ x ∈ xs, Gd m x := by
  cases n with
  | zero => exact h.elim
  | succ n => exact ⟨h.1, n, rfl, h.2⟩
theorem gd_up : ∀ {n : Nat} {d : PyData}, Gd n d → Gd (n + 1) d
  | 0, .none, h => h
  | 0, .bool _, h => h
  | 0, .int _, h => h
  | 0, .str _, h => h
  | n + 1, .none, h => h
  | n + 1, .bool _, h => h
  | n + 1, .int _, h => h
  | n + 1, .str _, h => h
  | n + 1, .list xs, h => ⟨h.1, fun x hx => gd_up (h.2 x hx)⟩
  | n + 1, .tuple xs, h => ⟨h.1, fun x hx => gd_up (h.2 x hx)⟩
theorem gd_le {n m : Nat} {d : PyData} (h : Gd n d) (hm : n ≤ m) : Gd m d := by
  induction hm with
  | refl => exact h
  | step _ ih => exact gd_up ih
theorem depthAll_le {n : Nat} : ∀ {xs : List PyData}, (∀ x ∈ xs, x.depth ≤ n) → PyData.depthAll xs ≤ n
  | [], _ => by
    unfold PyData.depthAll
    exact Nat.zero_le _
  | x :: xs, h => by
    unfold PyData.depthAll
    exact Nat.max_le.mpr ⟨h x List.mem_cons_self, depthAll_le fun y hy => h y (List.mem_cons_of_mem _ hy)⟩
theorem layAll_of : ∀ {xs : List PyData}, (∀ x ∈ xs, x.canLay0 = true) → PyData.canLayAll0 xs = true
  | [], _ => by
    unfold PyData.canLayAll0
    rfl
  | x :: xs, h => by
    unfold PyData.canLayAll0
    rw [h x List.mem_cons_self, layAll_of fun y hy => h y (List.mem_cons_of_mem _ hy)]
    rfl
theorem gd_facts : ∀ {n : Nat} {d : PyData}, Gd n d → d.canLay0 = true ∧ d.depth ≤ n
  | 0, .none, h => ⟨by unfold PyData.canLay0; rfl, by unfold PyData.depth; omega⟩
  | 0, .bool _, h => ⟨by unfold PyData.canLay0; rfl, by unfold PyData.depth; omega⟩
  | 0, .int _, h => ⟨by unfold PyData.canLay0; rfl, by unfold PyData.depth; omega⟩
  | 0, .str _, h => ⟨by unfold PyData.canLay0; exact h.1, by unfold PyData.depth; omega⟩
  | n + 1, .none, h => ⟨by unfold PyData.canLay0; rfl, by unfold PyData.depth; omega⟩
  | n + 1, .bool _, h => ⟨by unfold PyData.canLay0; rfl, by unfold PyData.depth; omega⟩
  | n + 1, .int _, h => ⟨by unfold PyData.canLay0; rfl, by unfold PyData.depth; omega⟩
  | n + 1, .str _, h => ⟨by unfold PyData.canLay0; exact h.1, by unfold PyData.depth; omega⟩
  | n + 1, .list xs, h => ⟨by unfold PyData.canLay0; exact layAll_of fun x hx => (gd_facts (h.2 x hx)).1, by
      unfold PyData.depth
      have := depthAll_le fun x hx => (gd_facts (h.2 x hx)).2
      omega⟩
  | n + 1, .tuple xs, h => ⟨by unfold PyData.canLay0; exact layAll_of fun x hx => (gd_facts (h.2 x hx)).1, by
      unfold PyData.depth
      have := depthAll_le fun x hx => (gd_facts (h.2 x hx)).2
      omega⟩
theorem gd_shaped {n : Nat} {d : PyData} (h : Gd n d) (hn : n ≤ 64) : SeqAt.shaped d = true := by
  obtain ⟨h1, h2⟩ := gd_facts h
  unfold SeqAt.shaped
  rw [h1, decide_eq_true (Nat.le_trans h2 hn)]
  rfl
/-! ### types -/
def tyN : PyData → String
  | .none => "NoneType"
  | .bool _ => "bool"
  | .int _ => "int"
  | .str _ => "str"
  | .list _ => "list"
  | .tuple _ => "tuple"
  | .dict _ => "dict"
theorem dp_ty {K : PySem.W.Frag} {H : Hp} {v : V} : ∀ {d : PyData}, Dp K H v d → TyX K H v (.type (tyN d))
  | _, .non => .base .non
  | _, .bl b => .base (.bl b)
  | _, .int i => .base (.int i)
  | _, .str x => .base (.str x)
  | _, .lst hs _ => by
    rcases hs with (h | ⟨o, h⟩) | ⟨o, _, _, h, hc, _⟩
    · exact .base (.lst h)
    · exact .base (.frz h)
    · exact .kList h hc
  | _, .tup hs _ => by
    rcases hs with (h | ⟨o, h⟩) | ⟨o, _, _, h, hc, _⟩
    · exact .base (.tup h)
    · exact .fTuple h
    · exact .kTuple h hc
def isInt : PyData → Bool
  | .int _ => true
  | .bool _ => true
  | _ => false
def isBool : PyData → Bool
  | .bool _ => true
  | _ => false
def isStr : PyData → Bool
  | .str _ => true
  | _ => false
def isTup : PyData → Bool
  | .tuple _ => true
  | _ => false
theorem kit_int {K : PySem.W.Frag} (d : PyData) : PySem.W.kitOne K (.type (tyN d)) (.type "int") = some (isInt d) := by
  cases d with
  | none => exact kit_ty (show kitB "NoneType" "int" = some false by decide +kernel)
  | bool _ => exact kit_ty (show kitB "bool" "int" = some true by decide +kernel)
  | int _ => exact kit_ty (show kitB "int" "int" = some true by decide +kernel)
  | str _ => exact kit_ty (show kitB "str" "int" = some false by decide +kernel)
  | list _ => exact kit_ty (show kitB "list" "int" = some false by decide +kernel)
  | tuple _ => exact kit_ty (show kitB "tuple" "int" = some false by decide +kernel)
  | dict _ => exact kit_ty (show kitB "dict" "int" = some false by decide +kernel)
theorem kit_bool {K : PySem.W.Frag} (d : PyData) : PySem.W.kitOne K (.type (tyN d)) (.type "bool") = some (isBool d) := by
  cases d with
  | none => exact kit_ty (show kitB "NoneType" "bool" = some false by decide +kernel)
  | bool _ => exact kit_ty (show kitB "bool" "bool" = some true by decide +kernel)
  | int _ => exact kit_ty (show kitB "int" "bool" = some false by decide +kernel)
  | str _ => exact kit_ty (show kitB "str" "bool" = some false by decide +kernel)
  | list _ => exact kit_ty (show kitB "list" "bool" = some false by decide +kernel)
  | tuple _ => exact kit_ty (show kitB "tuple" "bool" = some false by decide +kernel)
  | dict _ => exact kit_ty (show kitB "dict" "bool" = some false by decide +kernel)
theorem kit_str {K : PySem.W.Frag} (d : PyData) : PySem.W.kitOne K (.type (tyN d)) (.type "str") = some (isStr d) := by
  cases d with
  | none => exact kit_ty (show kitB "NoneType" "str" = some false by decide +kernel)
  | bool _ => exact kit_ty (show kitB "bool" "str" = some false by decide +kernel)
  | int _ => exact kit_ty (show kitB "int" "str" = some false by decide +kernel)
  | str _ => exact kit_ty (show kitB "str" "str" = some true by decide +kernel)
  | list _ => exact kit_ty (show kitB "list" "str" = some false by decide +kernel)
  | tuple _ => exact kit_ty (show kitB "tuple" "str" = some false by decide +kernel)
  | dict _ => exact kit_ty (show kitB "dict" "str" = some false by decide +kernel)
theorem kit_tup {K : PySem.W.Frag} (d : PyData) : PySem.W.kitOne K (.type (tyN d)) (.type "tuple") = some (isTup d) := by
  cases d with
  | none => exact kit_ty (show kitB "NoneType" "tuple" = some false by decide +kernel)
  | bool _ => exact kit_ty (show kitB "bool" "tuple" = some false by decide +kernel)
  | int _ => exact kit_ty (show kitB "int" "tuple" = some false by decide +kernel)
  | str _ => exact kit_ty (show kitB "str" "tuple" = some false by decide +kernel)
  | list _ => exact kit_ty (show kitB "list" "tuple" = some false by decide +kernel)
  | tuple _ => exact kit_ty (show kitB "tuple" "tuple" = some true by decide +kernel)
  | dict _ => exact kit_ty (show kitB "dict" "tuple" = some false by decide +kernel)
/-! ### what a block is -/
def whole : PyData → Int → Int → Bool
  | .int i, lo, hi => decide (lo ≤ i) && decide (i ≤ hi)
  | _, _, _ => false
def strLen (m : Int) : PyData → Bool
  | .str x => decide ((x.length : Int) = m)
  | _ => false
def bitRow (m : Int) : PyData → Bool
  | .str x => decide ((x.length : Int) = m) && x.cps.toList.all (fun c => c == 48 || c == 49)
  | _ => false
def rowsOk : PyData → Int → Int → Bool
  | .tuple xs, many, m => decide ((xs.length : Int) = many) && xs.all (bitRow m)
  | _, _, _ => false
def named (x : Str) (d : PyData) : Bool := PyData.eqv d (.str x)
def genRows : PyData → PyData → PyData → Bool
  | .int n, .int m, r => rowsOk r (1 * 2 ^ n.toNat) m
  | _, _, _ => false
def genOk : PyData → Bool
  | .tuple [k, n, m, r] => named "generator" k && whole n 1 10 && whole m 1 40 && genRows n m r
  | _ => false
def sumLe : PyData → PyData → Bool
  | .int n, .int l => decide (n + l ≤ 12)
  | _, _ => false
def funTabs : PyData → PyData → PyData → PyData → Bool
  | .int n, .int l, .int m, .tuple ts => decide ((ts.length : Int) = 1 * 2 ^ n.toNat) && ts.all (fun r => rowsOk r (1 * 2 ^ l.toNat) m)
  | _, _, _, _ => false
def funOk : PyData → Bool
  | .tuple [k, n, l, m, t] => named "function" k && whole n 1 8 && whole l 1 8 && sumLe n l && whole m 1 40 && funTabs n l m t
  | _ => false
theorem gen_no {xs : List PyData} (h : ¬ xs.length = 4) : genOk (.tuple xs) = false := by
  unfold genOk
  split
  · rename_i e
    cases e
    exact absurd rfl h
  · rfl
theorem fun_no {xs : List PyData} (h : ¬ xs.length = 5) : funOk (.tuple xs) = false := by
  unfold funOk
  split
  · rename_i e
    cases e
    exact absurd rfl h
  · rfl
def blockOk (d : PyData) : Bool := genOk d || funOk d
/-! ### strip of 0 and 1 -/
theorem strip_all (x : Str) : decide (V.str (Txt.stripChars x "01") = V.str "") = x.cps.toList.all (fun c => c == 48 || c == 49) := by
  have goes : ∀ c : Nat, (("01" : Str).cps.contains c) = (c == 48 || c == 49) := fun c => by
    show (#[48, 49] : Array Nat).contains c = _
    by_cases h1 : c = 48
    · subst h1
      simp
    · by_cases h2 : c = 49
      · subst h2
        simp
      · simp [h1, h2]
  have hn : x.cps.toList.length = x.length := by simp [Str.length]
  have key : Txt.stripChars x "01" = "" ↔ ∀ k, k < x.length → (("01" : Str).cps.contains (x.cps.getD k 0)) = true := by
    unfold Txt.stripChars
    rw [stripBy_eq]
    obtain ⟨a1, a2, a3⟩ := lo_facts ("01" : Str).cps.contains x
    obtain ⟨b1, b2, b3, _⟩ := hi_facts ("01" : Str).cps.contains x _ a1
    generalize stripLo ("01" : Str).cps.contains true x = lo at a1 a2 a3 b1 b2 b3
    generalize stripHi ("01" : Str).cps.contains true x lo = hi at b1 b2 b3
    have hl : (Builtin.Str.strSub x lo hi).cps.toList = (x.cps.toList.drop lo).take (hi - lo) := PySem.StrLaws.strSub_toList x lo hi
    constructor
    · intro e k hk
      have h0 : (x.cps.toList.drop lo).take (hi - lo) = [] := by
        rw [← hl, e]
        rfl
      have h1 := congrArg List.length h0
      rw [List.length_take, List.length_drop, hn] at h1
      have h2 : min (hi - lo) (x.length - lo) = 0 := h1
      by_cases hk' : k < lo
      · exact a2 k hk'
      · exact b3 k (by omega) hk
    · intro h
      have e : lo = x.length := by
        rcases a3 with z | z
        · exact z
        · by_cases c : lo < x.length
          · rw [h lo c] at z
            cases z
          · omega
      refine TL.ext_tl ?_
      show (Builtin.Str.strSub x lo hi).cps.toList = []
      rw [hl, List.drop_eq_nil_of_le (by omega)]
      exact List.take_nil
  have e2 : (∀ k, k < x.length → (("01" : Str).cps.contains (x.cps.getD k 0)) = true) ↔ x.cps.toList.all (fun c => c == 48 || c == 49) = true := by
    rw [List.all_eq_true]
    constructor
    · intro h c hc
      obtain ⟨k, hk, e⟩ := List.getElem_of_mem hc
      have := h k (by omega)
      rw [← getD_list, List.getD_eq_getElem?_getD, List.getElem?_eq_getElem hk] at this
      rw [← goes c, ← e]
      exact this
    · intro h k hk
      rw [← getD_list, List.getD_eq_getElem?_getD, List.getElem?_eq_getElem (by omega)]
      rw [goes]
      exact h _ (List.getElem_mem _)
  by_cases c : Txt.stripChars x "01" = ""
  · rw [c, decide_eq_true rfl]
    exact (e2.mp (key.mp c)).symm
  · rw [decide_eq_false fun z => c (V.str.inj z)]
    cases hq : x.cps.toList.all (fun c => c == 48 || c == 49)
    · rfl
    · exact absurd (key.mpr (e2.mpr hq)) c
/-! ### what the law makes -/
def rowsD (rows : List (List Bool)) : PyData := .tuple (rows.map fun r => .str (sb r))
def tabD (n m : Nat) (rows : List (List Bool)) : PyData := .tuple [.str "generator", .int (n : Int), .int (m : Int), rowsD rows]
def funD (n l m : Nat) (tabs : List (List (List Bool))) : PyData := .tuple [.str "function", .int (n : Int), .int (l : Int), .int (m : Int), .tuple (tabs.map rowsD)]
theorem dp_bits {K : PySem.W.Frag} {H : Hp} : ∀ rows : List (List Bool), DpAll K H (rows.map fun r => V.str (sb r)) (rows.map fun r => PyData.str (sb r))
  | [] => .nil
  | r :: rows => .cons (.str _) (dp_bits rows)
theorem dpAll_snoc {K : PySem.W.Frag} {H : Hp} {v : V} {d : PyData} : ∀ {vs : List V} {ds : List PyData}, DpAll K H vs ds → Dp K H v d → DpAll K H (vs ++ [v]) (ds ++ [d])
  | _, _, .nil, h => .cons h .nil
  | _, _, .cons h t, h' => .cons h (dpAll_snoc t h')

def topS (i : Nat) : Stmt := PySem.Challenge.pw_breakback_k02_blocks_that_are_right.main.body.getD i (.Pass ⟨0, 0, 0, 0⟩)
abbrev s_is_whole : Stmt := topS 7
abbrev s_are_rows : Stmt := topS 8
abbrev s_is_generator : Stmt := topS 9
abbrev s_is_function : Stmt := topS 10
abbrev s_check_block : Stmt := topS 11
abbrev s_law_draws : Stmt := topS 13
abbrev s_law_take : Stmt := topS 14
abbrev s_law_string : Stmt := topS 15
abbrev s_law_table : Stmt := topS 16
abbrev s_law_function : Stmt := topS 17
abbrev s_law_within : Stmt := topS 18
abbrev s_law_is_bits : Stmt := topS 19
abbrev s_law_rows_good : Stmt := topS 20
abbrev s_law_block_good : Stmt := topS 21
abbrev s_law_odd : Stmt := topS 22
abbrev s_law_bent : Stmt := topS 23
abbrev s_law_is_right : Stmt := topS 24
abbrev s_law_edge : Stmt := topS 25
abbrev s_law : Stmt := topS 26
theorem sc_is_whole : FnScope ["value", "low", "high"] ["value", "low", "high"] (defScope s_is_whole) := ⟨rfl, rfl, rfl, by decide +kernel, rfl, by decide +kernel, by decide +kernel⟩
theorem sc_are_rows : FnScope ["value", "many", "m", "row"] ["value", "many", "m"] (defScope s_are_rows) := ⟨rfl, rfl, rfl, by decide +kernel, rfl, by decide +kernel, by decide +kernel⟩
theorem sc_is_generator : FnScope ["value", "kind", "n", "m", "rows"] ["value"] (defScope s_is_generator) := ⟨rfl, rfl, rfl, by decide +kernel, rfl, by decide +kernel, by decide +kernel⟩
theorem sc_is_function : FnScope ["value", "kind", "n", "l", "m", "tables", "rows"] ["value"] (defScope s_is_function) := ⟨rfl, rfl, rfl, by decide +kernel, rfl, by decide +kernel, by decide +kernel⟩
theorem sc_check_block : FnScope ["block"] ["block"] (defScope s_check_block) := ⟨rfl, rfl, rfl, by decide +kernel, rfl, by decide +kernel, by decide +kernel⟩
theorem sc_law_draws : FnScope ["script", "many", "rests", "draws", "k", "cell", "at", "mixed"] ["script", "many"] (defScope s_law_draws) := ⟨rfl, rfl, rfl, by decide +kernel, rfl, by decide +kernel, by decide +kernel⟩
theorem sc_law_take : FnScope ["hand", "many", "at", "draws"] ["hand", "many"] (defScope s_law_take) := ⟨rfl, rfl, rfl, by decide +kernel, rfl, by decide +kernel, by decide +kernel⟩
theorem sc_law_string : FnScope ["hand", "length", "k"] ["hand", "length"] (defScope s_law_string) := ⟨rfl, rfl, rfl, by decide +kernel, rfl, by decide +kernel, by decide +kernel⟩
theorem sc_law_table : FnScope ["hand", "n", "m", "rows", "k"] ["hand", "n", "m"] (defScope s_law_table) := ⟨rfl, rfl, rfl, by decide +kernel, rfl, by decide +kernel, by decide +kernel⟩
theorem sc_law_function : FnScope ["hand", "n", "l", "m", "rows", "key", "k"] ["hand", "n", "l", "m"] (defScope s_law_function) := ⟨rfl, rfl, rfl, by decide +kernel, rfl, by decide +kernel, by decide +kernel⟩
theorem sc_law_within : FnScope ["value", "least", "most"] ["value", "least", "most"] (defScope s_law_within) := ⟨rfl, rfl, rfl, by decide +kernel, rfl, by decide +kernel, by decide +kernel⟩
theorem sc_law_is_bits : FnScope ["value", "length", "sign"] ["value", "length"] (defScope s_law_is_bits) := ⟨rfl, rfl, rfl, by decide +kernel, rfl, by decide +kernel, by decide +kernel⟩
theorem sc_law_rows_good : FnScope ["rows", "many", "length", "row"] ["rows", "many", "length"] (defScope s_law_rows_good) := ⟨rfl, rfl, rfl, by decide +kernel, rfl, by decide +kernel, by decide +kernel⟩
theorem sc_law_block_good : FnScope ["value", "rows"] ["value"] (defScope s_law_block_good) := ⟨rfl, rfl, rfl, by decide +kernel, rfl, by decide +kernel, by decide +kernel⟩
theorem sc_law_odd : FnScope ["hand", "depth", "kind", "parts", "values", "k"] ["hand", "depth"] (defScope s_law_odd) := ⟨rfl, rfl, rfl, by decide +kernel, rfl, by decide +kernel, by decide +kernel⟩
theorem sc_law_bent : FnScope ["hand", "value", "depth", "kind", "at", "sign"] ["hand", "value", "depth"] (defScope s_law_bent) := ⟨rfl, rfl, rfl, by decide +kernel, rfl, by decide +kernel, by decide +kernel⟩
theorem sc_law_is_right : FnScope ["value", "due", "e"] ["value"] (defScope s_law_is_right) := ⟨rfl, rfl, rfl, by decide +kernel, rfl, by decide +kernel, by decide +kernel⟩
theorem sc_law_edge : FnScope ["hand", "m", "row", "kind", "n", "l"] ["hand"] (defScope s_law_edge) := ⟨rfl, rfl, rfl, by decide +kernel, rfl, by decide +kernel, by decide +kernel⟩
theorem sc_law : FnScope ["script", "hand", "one", "two", "block", "step", "bent", "mixed", "value", "rows", "at", "place", "sign"] ["script"] (defScope s_law) := ⟨rfl, rfl, rfl, by decide +kernel, rfl, by decide +kernel, by decide +kernel⟩
structure Cs where
  BadBlock : Addr
  BadBreaker : Addr
  BadScheme : Addr
  BreakError : Addr
structure Txt (K : PySem.W.Frag) (mg : Str → Option Value) (cs : Cs) : Prop where
  gl_BadBlock : mg "BadBlock" = some (.ref cs.BadBlock)
  gl_BadBreaker : mg "BadBreaker" = some (.ref cs.BadBreaker)
  gl_BadScheme : mg "BadScheme" = some (.ref cs.BadScheme)
  gl_BreakError : mg "BreakError" = some (.ref cs.BreakError)
  x_BadBlock : Exn K mg "BadBlock" cs.BadBlock
  e_BadBlock : ExcC K cs.BadBlock
  exm_BadBlock_BreakError : PySem.W.exmOne K (.ref cs.BadBlock) (.ref cs.BreakError) = some true
  kit_BadBlock_BadBlock : PySem.W.kitOne K (.ref cs.BadBlock) (.ref cs.BadBlock) = some true
  kit_BadBlock_BadBreaker : PySem.W.kitOne K (.ref cs.BadBlock) (.ref cs.BadBreaker) = some false
  kit_BadBlock_BadScheme : PySem.W.kitOne K (.ref cs.BadBlock) (.ref cs.BadScheme) = some false
  kit_BadBlock_ValueError : PySem.W.kitOne K (.ref cs.BadBlock) (.type "ValueError") = some true
  n_ValueError : mg "ValueError" = none
  n_abs : mg "abs" = none
  n_all : mg "all" = none
  n_bool : mg "bool" = none
  n_int : mg "int" = none
  n_isinstance : mg "isinstance" = none
  n_len : mg "len" = none
  n_list : mg "list" = none
  n_range : mg "range" = none
  n_str : mg "str" = none
  n_tuple : mg "tuple" = none
  g_MOST_BITS : ∃ u, mg "MOST_BITS" = some u ∧ RelV (.int 40) u
/-! ### the promises -/
/-- the hand: a list of the draws' list and the number of the next draw -/
def Hnd (H : Hp) (a d : Addr) : Prop := ∃ (ds : List Int) (i : Nat), H a = some (.lst [.ref d, .int (i : Int)]) ∧ H d = some (.lst (ds.map V.int)) ∧ (∀ x ∈ ds, 0 ≤ x) ∧ d ≠ a
/-- all but the hand is as it was -/
def Keep (a : Addr) (H H' : Hp) : Prop := ∀ b o, H b = some o → b ≠ a → H' b = some o
theorem Keep.trans {a : Addr} {H H1 H2 : Hp} (h : Keep a H H1) (h' : Keep a H1 H2) : Keep a H H2 := fun b o e n => h' b o (h b o e n) n
theorem Keep.refl (a : Addr) (H : Hp) : Keep a H H := fun _ _ e _ => e
theorem Keep.new {a p : Addr} {H : Hp} {o : HO} (np : H p = none) : Keep a H (upd H p o) := fun b u e _ => by
  rw [upd_ne (ne_of_none e np)]
  exact e
theorem same_new {H : Hp} {p : Addr} {o : HO} (h : H p = none) : Same H (upd H p o) := fun b x e => by
  rw [upd_ne (ne_of_none e h)]
  exact e
theorem Hnd.same {H H' : Hp} {a d : Addr} (h : Hnd H a d) (s : Same H H') : Hnd H' a d := by
  obtain ⟨ds, i, h1, h2, h3, h4⟩ := h
  exact ⟨ds, i, s _ _ h1, s _ _ h2, h3, h4⟩
theorem Hnd.new {H : Hp} {a d p : Addr} {o : HO} (h : Hnd H a d) (np : H p = none) : Hnd (upd H p o) a d := h.same (same_new np)
theorem Hnd.some {H : Hp} {a d : Addr} (h : Hnd H a d) : ∃ o, H a = some o := by
  obtain ⟨ds, i, h1, _⟩ := h
  exact ⟨_, h1⟩
/-- what is new is neither the hand nor the draws -/
theorem Hnd.ne {H : Hp} {a d p : Addr} (h : Hnd H a d) (np : H p = none) : p ≠ a ∧ p ≠ d := by
  obtain ⟨ds, i, h1, h2, _⟩ := h
  exact ⟨(ne_of_none h1 np).symm, (ne_of_none h2 np).symm⟩
/-- an object beside the hand may change -/
theorem Hnd.set {H : Hp} {a d p : Addr} {o : HO} (h : Hnd H a d) (pa : p ≠ a) (pd : p ≠ d) : Hnd (upd H p o) a d := by
  obtain ⟨ds, i, h1, h2, h3, h4⟩ := h
  exact ⟨ds, i, by rw [upd_ne pa.symm]; exact h1, by rw [upd_ne pd.symm]; exact h2, h3, h4⟩
theorem Keep.same {a : Addr} {H H' : Hp} (s : Same H H') : Keep a H H' := fun b o e _ => s b o e
def spDraws (K : PySem.W.Frag) : Sp := fun vs H Q _ => ∃ (a : Addr) (ns : List Int) (many : Nat), vs = [.ref a, .int (many : Int)] ∧ SqL K H a (ns.map V.int) ∧ ns.length ≤ 63 ∧ many ≤ 5000 ∧
  ∀ (p : Addr) (ds : List Int) (H' : Hp), H p = none → Same H H' → H' p = some (.lst (ds.map V.int)) → (∀ x ∈ ds, (0 : Int) ≤ x) → Q (.ref p) H'
def spTake : Sp := fun vs H Q _ => ∃ (a d : Addr) (many : Int), vs = [.ref a, .int many] ∧ 0 < many ∧ Hnd H a d ∧ ∀ r H', 0 ≤ r → r < many → Hnd H' a d → Keep a H H' → Q (.int r) H'
def spString : Sp := fun vs H Q _ => ∃ (a d : Addr) (n : Nat), vs = [.ref a, .int (n : Int)] ∧ n ≤ 5000 ∧ Hnd H a d ∧ ∀ bs H', bs.length = n → Hnd H' a d → Keep a H H' → Q (.str (sb bs)) H'
def spBits : Sp := fun vs H Q _ => ∃ n k : Nat, vs = [.int (n : Int), .int (k : Int)] ∧ n ≤ 5000 ∧ k < 2 ^ n ∧ Q (.str (sb (toB n k))) H
def spNumber : Sp := fun vs H Q _ => ∃ bs : List Bool, vs = [.str (sb bs)] ∧ bs.length ≤ 640 ∧ Q (.int ((val bs : Nat) : Int)) H
def spXor : Sp := fun vs H Q _ => ∃ l m : List Bool, vs = [.str (sb l), .str (sb m)] ∧ l.length = m.length ∧ l.length ≤ 640 ∧ Q (.str (sb (List.zipWith (fun x y => x != y) l m))) H
def spParity : Sp := fun vs H Q _ => ∃ l m : List Bool, vs = [.str (sb l), .str (sb m)] ∧ l.length = m.length ∧ l.length ≤ 640 ∧ Q (.int ((((List.zipWith (fun x y => x && y) l m).count true : Nat) : Int) % 2)) H
def spIsS : Sp := fun vs H Q _ => ∃ x y : Str, vs = [.str x, .str y] ∧ Q (.bl (decide (x = y))) H
def spIsN : Sp := fun vs H Q _ => ∃ x y : Int, vs = [.int x, .int y] ∧ Q (.bl (decide (x = y))) H
def spPair : Sp := fun vs H Q _ => ∃ l m : List Bool, vs = [.str (sb l), .str (sb m)] ∧ l.length = m.length ∧ l.length ≤ 640 ∧ ∀ H', Same H H' → Q (.bl true) H'
def spLaw (K : PySem.W.Frag) : Sp := fun vs H Q _ => ∃ (a : Addr) (ns : List Int), vs = [.ref a] ∧ SqL K H a (ns.map V.int) ∧ ns.length ≤ 63 ∧ ∀ H', Q (.bl true) H'
/-- what was made anew may change: nothing that was there is it -/
theorem Keep.set {a p : Addr} {H H' : Hp} {o : HO} (h : Keep a H H') (np : H p = none) : Keep a H (upd H' p o) := fun b u e n => by
  rw [upd_ne (ne_of_none e np)]
  exact h b u e n
theorem Keep.free {a p : Addr} {H H' : Hp} (h : Keep a H H') (np : H' p = none) (pa : p ≠ a) : H p = none := by
  cases e : H p with
  | none => rfl
  | some o =>
    have := h p o e pa
    rw [np] at this
    cases this
/-- the heap without the hand: what data stand on -/
def off (a : Addr) (H : Hp) : Hp := fun b => if b = a then none else H b
theorem off_ne {a b : Addr} {H : Hp} (h : b ≠ a) : off a H b = H b := if_neg h
theorem off_same (a : Addr) (H : Hp) : Same (off a H) H := fun b o e => by
  unfold off at e
  by_cases h : b = a
  · rw [if_pos h] at e
    cases e
  · rw [if_neg h] at e
    exact e
theorem Keep.off {a : Addr} {H H' : Hp} (k : Keep a H H') : Same (off a H) (off a H') := fun b o e => by
  unfold My.off at e ⊢
  by_cases h : b = a
  · rw [if_pos h] at e
    cases e
  · rw [if_neg h] at e ⊢
    exact k b o e h

def spWhole (K : PySem.W.Frag) : Sp := fun vs H Q _ => ∃ (v : V) (d : PyData) (lo hi : Int), vs = [v, .int lo, .int hi] ∧ Dp K H v d ∧ Q (.bl (whole d lo hi)) H
def spRows (K : PySem.W.Frag) : Sp := fun vs H Q _ => ∃ (v : V) (d : PyData) (n : Nat) (many m : Int), vs = [v, .int many, .int m] ∧ Dp K H v d ∧ Gd n d ∧ many ≤ 4096 ∧ m ≤ 40 ∧ ∀ H', Same H H' → Q (.bl (rowsOk d many m)) H'
def spGen (K : PySem.W.Frag) : Sp := fun vs H Q _ => ∃ (v : V) (d : PyData) (n : Nat), vs = [v] ∧ Dp K H v d ∧ Gd n d ∧ n ≤ 64 ∧ ∀ H', Same H H' → Q (.bl (genOk d)) H'
def spFun (K : PySem.W.Frag) : Sp := fun vs H Q _ => ∃ (v : V) (d : PyData) (n : Nat), vs = [v] ∧ Dp K H v d ∧ Gd n d ∧ n ≤ 64 ∧ ∀ H', Same H H' → Q (.bl (funOk d)) H'
def spCheck (K : PySem.W.Frag) (C : Addr) : Sp := fun vs H Q E => ∃ (v : V) (d : PyData) (n : Nat), vs = [v] ∧ Dp K H v d ∧ Gd n d ∧ n ≤ 64 ∧ ∀ H', Same H H' → (blockOk d = true → Q .non H') ∧ (blockOk d = false → E (.ref C) none H')

def spTable (K : PySem.W.Frag) : Sp := fun vs H Q _ => ∃ (a d : Addr) (n m : Nat), vs = [.ref a, .int (n : Int), .int (m : Int)] ∧ n ≤ 8 ∧ m ≤ 200 ∧ Hnd H a d ∧
  ∀ v rows H', rows.length = 2 ^ n → (∀ r ∈ rows, r.length = m) → Dp K (off a H') v (tabD n m rows) → Hnd H' a d → Keep a H H' → Q v H'
def spFunction (K : PySem.W.Frag) : Sp := fun vs H Q _ => ∃ (a d : Addr) (n l m : Nat), vs = [.ref a, .int (n : Int), .int (l : Int), .int (m : Int)] ∧ n ≤ 8 ∧ l ≤ 8 ∧ m ≤ 200 ∧ Hnd H a d ∧
  ∀ v tabs H', tabs.length = 2 ^ n → (∀ rows ∈ tabs, rows.length = 2 ^ l ∧ ∀ r ∈ rows, r.length = m) → Dp K (off a H') v (funD n l m tabs) → Hnd H' a d → Keep a H H' → Q v H'

def spWithin (K : PySem.W.Frag) : Sp := fun vs H Q _ => ∃ (v : V) (d : PyData) (lo hi : Int), vs = [v, .int lo, .int hi] ∧ Dp K H v d ∧ Q (.bl (whole d lo hi)) H
def spIsBits (K : PySem.W.Frag) : Sp := fun vs H Q _ => ∃ (v : V) (d : PyData) (n : Nat) (m : Int), vs = [v, .int m] ∧ Dp K H v d ∧ Gd n d ∧ Q (.bl (bitRow m d)) H
def spRowsGood (K : PySem.W.Frag) : Sp := fun vs H Q _ => ∃ (v : V) (d : PyData) (n : Nat) (many m : Int), vs = [v, .int many, .int m] ∧ Dp K H v d ∧ Gd n d ∧ Q (.bl (rowsOk d many m)) H
def spGood (K : PySem.W.Frag) : Sp := fun vs H Q _ => ∃ (v : V) (d : PyData) (n : Nat), vs = [v] ∧ Dp K H v d ∧ Gd n d ∧ Q (.bl (blockOk d)) H

theorem for_text {x : Str} {g : TG} {tb : TS} {D : Ends} {σ : L2.St} {H : Hp} (Pv : Nat → L2.St → Hp → Prop) (h0 : Pv 0 σ H)
    (hs : ∀ i c σ H, x.cps[i]? = some c → Pv i σ H → g (.str ⟨#[c]⟩) σ H fun σ2 H2 => tb { D with nx := Pv (i + 1), ct := Pv (i + 1), bk := D.nx } σ2 H2) (hd : ∀ σ H, Pv x.cps.size σ H → D.nx σ H) :
    ∃ W : Nat → Nat → L2.St → Hp → Prop, (∃ m, W 0 m σ H) ∧ ∀ i m σ H, W i m σ H →
      ((Its x).stop i H ∧ D.nx σ H) ∨ ((Its x).go i H ∧ ∃ N : L2.St → Hp → Prop, (∀ σ' H', N σ' H' → ∃ m', m' < m ∧ W (i + 1) m' σ' H') ∧ ∀ y H', (Its x).yld i H y H' → g y σ H' fun σ2 H2 => tb { D with nx := N, ct := N, bk := D.nx } σ2 H2) := by
  refine ⟨fun i m σ H => m = x.cps.size - i ∧ i ≤ x.cps.size ∧ Pv i σ H, ⟨x.cps.size, by omega, Nat.zero_le _, h0⟩, ?_⟩
  rintro i m σ H ⟨rfl, hi, p⟩
  by_cases c : i < x.cps.size
  · refine .inr ⟨c, Pv (i + 1), fun σ' H' p' => ⟨x.cps.size - (i + 1), by omega, rfl, c, p'⟩, ?_⟩
    rintro y H' ⟨rfl, k, hk, rfl⟩
    exact hs i k σ _ hk p
  · have e : i = x.cps.size := by omega
    subst e
    exact .inl ⟨Nat.le_refl _, hd σ H p⟩

theorem name_ne {d : PyData} {x : Str} : (!PyData.eqv d (.str x)) = !named x d := rfl
theorem whole_int {d : PyData} {lo hi : Int} (h : whole d lo hi = true) : ∃ i, d = .int i ∧ lo ≤ i ∧ i ≤ hi := by
  cases d with
  | int i =>
    have h' : (decide (lo ≤ i) && decide (i ≤ hi)) = true := h
    rw [Bool.and_eq_true, decide_eq_true_eq, decide_eq_true_eq] at h'
    exact ⟨i, rfl, h'⟩
  | _ => cases h
theorem gen_eq {k n m r : PyData} : genOk (.tuple [k, n, m, r]) = (named "generator" k && whole n 1 10 && whole m 1 40 && genRows n m r) := rfl
theorem fun_eq {k n l m t : PyData} : funOk (.tuple [k, n, l, m, t]) = (named "function" k && whole n 1 8 && whole l 1 8 && sumLe n l && whole m 1 40 && funTabs n l m t) := rfl
theorem pow_le {n : Int} {b : Nat} (h0 : 1 ≤ n) (h : n ≤ (b : Int)) : (1 : Int) * 2 ^ n.toNat ≤ ((2 ^ b : Nat) : Int) := by
  have h1 : (2 : Nat) ^ n.toNat ≤ 2 ^ b := Nat.pow_le_pow_right (by decide) (by omega)
  have h2 : ((2 ^ n.toNat : Nat) : Int) ≤ ((2 ^ b : Nat) : Int) := Int.ofNat_le.mpr h1
  rw [Int.natCast_pow] at h2
  rw [Int.one_mul]
  exact h2
theorem dp4 {K : PySem.W.Frag} {H : Hp} {ws : List V} {xs : List PyData} (h : DpAll K H ws xs) (c : ws.length = 4) : ∃ v0 v1 v2 v3 d0 d1 d2 d3, ws = [v0, v1, v2, v3] ∧ xs = [d0, d1, d2, d3] ∧ Dp K H v0 d0 ∧ Dp K H v1 d1 ∧ Dp K H v2 d2 ∧ Dp K H v3 d3 := by
  match xs, ws, c, h with
  | _, [v0, v1, v2, v3], _, .cons h0 (.cons h1 (.cons h2 (.cons h3 .nil))) => exact ⟨_, _, _, _, _, _, _, _, rfl, rfl, h0, h1, h2, h3⟩
theorem dp5 {K : PySem.W.Frag} {H : Hp} {ws : List V} {xs : List PyData} (h : DpAll K H ws xs) (c : ws.length = 5) : ∃ v0 v1 v2 v3 v4 d0 d1 d2 d3 d4, ws = [v0, v1, v2, v3, v4] ∧ xs = [d0, d1, d2, d3, d4] ∧ Dp K H v0 d0 ∧ Dp K H v1 d1 ∧ Dp K H v2 d2 ∧ Dp K H v3 d3 ∧ Dp K H v4 d4 := by
  match xs, ws, c, h with
  | _, [v0, v1, v2, v3, v4], _, .cons h0 (.cons h1 (.cons h2 (.cons h3 (.cons h4 .nil)))) => exact ⟨_, _, _, _, _, _, _, _, _, _, rfl, rfl, h0, h1, h2, h3, h4⟩

/-! ### whole numbers and truth values alike -/
def wI : V → Option Int
  | .int i => some i
  | .bl b => some (b2i b)
  | _ => none
section
variable {X : Cx}
def rAddW : R2 := fun x y H Q => ∃ i j, wI x = some i ∧ y = .int j ∧ Q (.int (i + j)) H
def rSubW : R2 := fun x y H Q => ∃ i j, wI x = some i ∧ y = .int j ∧ Q (.int (i - j)) H
theorem op_addW : OpR X (binaryOp .Add) rAddW := by
  intro pins s σ H x y v u Q I rx ry h
  obtain ⟨i, j, hx, rfl, q⟩ := h
  obtain ⟨t', rfl⟩ := ry
  cases x with
  | int k =>
    cases hx
    obtain ⟨t, rfl⟩ := rx
    exact add_int ⟨.int _, H, I.tok _, ⟨_, rfl⟩, q⟩
  | bl b =>
    cases hx
    cases rx
    exact PySem.IntBool.add_bool_int ⟨.int _, H, I.tok _, ⟨_, rfl⟩, q⟩
  | _ => cases hx
theorem op_subW : OpR X (binaryOp .Sub) rSubW := by
  intro pins s σ H x y v u Q I rx ry h
  obtain ⟨i, j, hx, rfl, q⟩ := h
  obtain ⟨t', rfl⟩ := ry
  cases x with
  | int k =>
    cases hx
    obtain ⟨t, rfl⟩ := rx
    exact sub_int ⟨.int _, H, I.tok _, ⟨_, rfl⟩, q⟩
  | bl b =>
    cases hx
    cases rx
    exact PySem.IntBool.sub_bool_int ⟨.int _, H, I.tok _, ⟨_, rfl⟩, q⟩
  | _ => cases hx
theorem gives_neg_bool (a : Bool) : Gives (Builtin.«int.__neg__» ⟨[.bool a], []⟩) (.int (-(if a = true then (1 : Int) else 0))) :=
  .of_wp fun M A E s Q h => by obtain ⟨hp, g, d, tk, os⟩ := s; wp_walk; exact ⟨_, rfl, h⟩
theorem neg_boolW {prog : Program} {w : World} {A : Around} {E : Value → Shared → Prop} {s : Shared} {a : Bool} {Q : Value → Shared → Prop} (h : Q (.int (-(if a = true then (1 : Int) else 0)) s.toks) { s with toks := s.toks + 1 }) : wpAny (model prog w) A (unaryOp .USub (.bool a)) Q E s :=
  unaryOp_gives (op := .USub) (T := "bool") rfl rfl F.slot_bool_neg F.entry_int_neg (F.args_int_neg_1 _) (gives_neg_bool a) h
def rNegW : V → Hp → VK → Prop := fun x H Q => ∃ i, wI x = some i ∧ Q (.int (-i)) H
theorem un_negW : UnR X (unaryOp .USub) rNegW := by
  intro pins s σ H x v Q I rx h
  obtain ⟨i, hx, q⟩ := h
  cases x with
  | int k =>
    cases hx
    obtain ⟨t, rfl⟩ := rx
    exact neg_int ⟨.int _, H, I.tok _, ⟨_, rfl⟩, q⟩
  | bl b =>
    cases hx
    cases rx
    exact neg_boolW ⟨.int _, H, I.tok _, ⟨_, rfl⟩, q⟩
  | _ => cases hx
def rStrW : List V → Hp → VK → Prop := fun xs H Q => (∃ i, xs = [.int i] ∧ i.natAbs.log2 < 1920 ∧ Q (.str (toString i)) H) ∨ ∃ b, xs = [.bl b] ∧ Q (.str (if b then "True" else "False")) H
theorem call_strW : CallR X (.type "str") rStrW := by
  intro pins s σ H xs us Q I r h
  rcases h with ⟨i, rfl, hz, q⟩ | ⟨b, rfl, q⟩
  · obtain ⟨u, rfl, t, rfl⟩ := vals1 r
    exact PySem.P.str_of_int hz ⟨.str _, H, I.tok _, ⟨_, rfl⟩, q⟩
  · obtain ⟨u, rfl, r1⟩ := vals1 r
    cases r1
    exact PySem.P.str_of_bool ⟨.str _, H, I.tok _, ⟨_, rfl⟩, q⟩
end

/-! ### data of a size -/
def okS (s : Nat) (x : Str) : Prop := PySem.PyData.strOk x = true ∧ x.length ≤ s
def Gz (s : Nat) : Nat → PyData → Prop
  | 0, d => match d with
    | .none => True
    | .bool _ => True
    | .int i => i.natAbs < 10 ^ s
    | .str x => okS s x
    | _ => False
  | n + 1, d => match d with
    | .none => True
    | .bool _ => True
    | .int i => i.natAbs < 10 ^ s
    | .str x => okS s x
    | .list xs => xs.length ≤ s ∧ ∀ x ∈ xs, Gz s n x
    | .tuple xs => xs.length ≤ s ∧ ∀ x ∈ xs, Gz s n x
    | .dict _ => False
theorem gz_str {s n : Nat} {x : Str} : Gz s n (.str x) ↔ okS s x := by
  cases n <;> exact Iff.rfl
theorem gz_int {s n : Nat} {i : Int} : Gz s n (.int i) ↔ i.natAbs < 10 ^ s := by
  cases n <;> exact Iff.rfl
theorem gz_bool {s n : Nat} {b : Bool} : Gz s n (.bool b) := by
  cases n <;> trivial
theorem gz_none {s n : Nat} : Gz s n .none := by
  cases n <;> trivial
theorem gz_tup {s n : Nat} {xs : List PyData} (h : Gz s n (.tuple xs)) : xs.length ≤ s ∧ ∃ m, n = m + 1 ∧ ∀ x ∈ xs, Gz s m x := by
  cases n with
  | zero => exact h.elim
  | succ n => exact ⟨h.1, n, rfl, h.2⟩
theorem gz_gd {s : Nat} (hs : s ≤ 5000) : ∀ {n : Nat} {d : PyData}, Gz s n d → Gd n d
  | 0, .none, h => h
  | 0, .bool _, h => h
  | 0, .int _, h => trivial
  | 0, .str _, h => ⟨h.1, Nat.le_trans h.2 hs⟩
  | n + 1, .none, h => h
  | n + 1, .bool _, h => h
  | n + 1, .int _, h => trivial
  | n + 1, .str _, h => ⟨h.1, Nat.le_trans h.2 hs⟩
  | n + 1, .list xs, h => ⟨Nat.le_trans h.1 hs, fun x hx => gz_gd hs (h.2 x hx)⟩
  | n + 1, .tuple xs, h => ⟨Nat.le_trans h.1 hs, fun x hx => gz_gd hs (h.2 x hx)⟩
theorem gz_up {s t : Nat} (hs : s ≤ t) : ∀ {n m : Nat} {d : PyData}, n ≤ m → Gz s n d → Gz t m d
  | n, m, .none, _, h => gz_none
  | n, m, .bool _, _, h => gz_bool
  | n, m, .int _, _, h => gz_int.mpr (Nat.lt_of_lt_of_le (gz_int.mp h) (Nat.pow_le_pow_right (by decide) hs))
  | n, m, .str _, _, h => gz_str.mpr ⟨(gz_str.mp h).1, Nat.le_trans (gz_str.mp h).2 hs⟩
  | 0, m, .list _, _, h => h.elim
  | 0, m, .tuple _, _, h => h.elim
  | 0, m, .dict _, _, h => h.elim
  | n + 1, m, .dict _, _, h => h.elim
  | n + 1, m + 1, .list xs, hm, h => ⟨Nat.le_trans h.1 hs, fun x hx => gz_up hs (Nat.le_of_succ_le_succ hm) (h.2 x hx)⟩
  | n + 1, m + 1, .tuple xs, hm, h => ⟨Nat.le_trans h.1 hs, fun x hx => gz_up hs (Nat.le_of_succ_le_succ hm) (h.2 x hx)⟩
theorem sqt_off {K : PySem.W.Frag} {H : Hp} {a d p : Addr} {xs : List V} (h : Hnd H a d) (s : SqT K H p xs) : SqT K (off a H) p xs := by
  obtain ⟨ds, i, h1, _⟩ := h
  rcases s with (s | ⟨o, s⟩) | s
  · refine .inl (.inl ?_)
    rw [off_ne fun e => ?_]
    · exact s
    · rw [e, h1] at s
      cases s
  · refine .inl (.inr ⟨o, ?_⟩)
    rw [off_ne fun e => ?_]
    · exact s
    · rw [e, h1] at s
      cases s
  · exact .inr s
theorem sqt_on {K : PySem.W.Frag} {H : Hp} {a p : Addr} {xs : List V} (s : SqT K (off a H) p xs) : SqT K H p xs := same_sqt (off_same a H) s
theorem sql_on {K : PySem.W.Frag} {H : Hp} {a p : Addr} {xs : List V} (s : SqL K (off a H) p xs) : SqL K H p xs := (off_same a H).seq s
/-- a value of data of a size, beside the hand -/
def Ok (K : PySem.W.Frag) (a : Addr) (H : Hp) (s n : Nat) (v : V) : Prop := ∃ D, Dp K (off a H) v D ∧ Gz s n D
theorem Ok.same {K : PySem.W.Frag} {a : Addr} {H H' : Hp} {s n : Nat} {v : V} (h : Ok K a H s n v) (e : Same (off a H) (off a H')) : Ok K a H' s n v := by
  obtain ⟨D, h1, h2⟩ := h
  exact ⟨D, dp_same e D h1, h2⟩
theorem Ok.keep {K : PySem.W.Frag} {a : Addr} {H H' : Hp} {s n : Nat} {v : V} (h : Ok K a H s n v) (e : Keep a H H') : Ok K a H' s n v := h.same e.off
theorem Ok.up {K : PySem.W.Frag} {a : Addr} {H : Hp} {s n t m : Nat} {v : V} (h : Ok K a H s n v) (hs : s ≤ t) (hm : n ≤ m) : Ok K a H t m v := by
  obtain ⟨D, h1, h2⟩ := h
  exact ⟨D, h1, gz_up hs hm h2⟩
theorem same_off {a : Addr} {H H' : Hp} (s : Same H H') : Same (off a H) (off a H') := (Keep.same (a := a) s).off
theorem cutV_all {xs : List V} {lo hi : Option Int} (h1 : HT.sIx xs.length 0 lo = 0) (h2 : HT.sIx xs.length xs.length hi = xs.length) : cutV xs lo hi = xs := by
  unfold cutV
  rw [h1, h2]
  simp
theorem sl_any {K : PySem.W.Frag} {H : Hp} {Q : VK} {lo hi : Option Int} {a : Addr} {xs : List V} (hT : SqT K H a xs) (q : ∀ p H', Same H H' → SqT K H' p (cutV xs lo hi) → Q (.ref p) H') : rSlA K (.ref a) lo hi H Q := by
  refine ⟨a, xs, rfl, hT, fun hw => ?_, fun hw p np => ?_⟩
  · exact q a H (Same.refl H) (by rw [cutV_all hw.1 hw.2]; exact hT)
  · exact q p _ (same_new np) (.inl (.inl upd_same))
theorem sl_anyN {K : PySem.W.Frag} {σ : L2.St} {H : Hp} {Q : VK} {l : Option Int} {a : Addr} {xs : List V} (hT : SqT K H a xs) (q : ∀ p H', Same H H' → SqT K H' p (cutV xs l none) → Q (.ref p) H') : tNoPart σ H fun u H3 => rSlA K (.ref a) l u H3 Q := sl_any hT q
theorem cat_any {K : PySem.W.Frag} {H : Hp} {Q : VK} {a b : Addr} {xs ys : List V} (ha : SqT K H a xs) (hb : SqT K H b ys) (hz : xs.length + ys.length ≤ sizeLine) (q : ∀ p H', Same H H' → SqT K H' p (xs ++ ys) → Q (.ref p) H') : rCatA K (.ref a) (.ref b) H Q := by
  refine ⟨a, b, xs, ys, rfl, rfl, ha, hb, hz, fun e => ?_, fun e1 e2 => ?_, fun e1 e2 p np => ?_⟩
  · subst e
    exact q b H (Same.refl H) hb
  · subst e2
    exact q a H (Same.refl H) (by rw [List.append_nil]; exact ha)
  · exact q p _ (same_new np) (.inl (.inl upd_same))
theorem dps_drop {K : PySem.W.Frag} {H : Hp} : ∀ (i : Nat) {vs : List V} {ds : List PyData}, DpAll K H vs ds → DpAll K H (vs.drop i) (ds.drop i)
  | 0, _, _, h => h
  | i + 1, _, _, .nil => .nil
  | i + 1, _, _, .cons _ t => dps_drop i t
theorem dps_take {K : PySem.W.Frag} {H : Hp} : ∀ (i : Nat) {vs : List V} {ds : List PyData}, DpAll K H vs ds → DpAll K H (vs.take i) (ds.take i)
  | 0, _, _, h => .nil
  | i + 1, _, _, .nil => .nil
  | i + 1, _, _, .cons h t => .cons h (dps_take i t)
theorem dps_app {K : PySem.W.Frag} {H : Hp} : ∀ {vs ws : List V} {ds es : List PyData}, DpAll K H vs ds → DpAll K H ws es → DpAll K H (vs ++ ws) (ds ++ es)
  | _, _, _, _, .nil, h => h
  | _, _, _, _, .cons h t, h' => .cons h (dps_app t h')
/-- the values of a row, all of a size -/
def Oks (K : PySem.W.Frag) (a : Addr) (H : Hp) (s n : Nat) (vs : List V) : Prop := ∃ ds, DpAll K (off a H) vs ds ∧ ∀ d ∈ ds, Gz s n d
theorem Oks.keep {K : PySem.W.Frag} {a : Addr} {H H' : Hp} {s n : Nat} {vs : List V} (h : Oks K a H s n vs) (e : Keep a H H') : Oks K a H' s n vs := by
  obtain ⟨D, h1, h2⟩ := h
  exact ⟨D, dps_same e.off D h1, h2⟩
theorem Oks.up {K : PySem.W.Frag} {a : Addr} {H : Hp} {s n t m : Nat} {vs : List V} (h : Oks K a H s n vs) (hs : s ≤ t) (hm : n ≤ m) : Oks K a H t m vs := by
  obtain ⟨D, h1, h2⟩ := h
  exact ⟨D, h1, fun d hd => gz_up hs hm (h2 d hd)⟩
theorem Oks.app {K : PySem.W.Frag} {a : Addr} {H : Hp} {s n : Nat} {vs ws : List V} (h : Oks K a H s n vs) (h' : Oks K a H s n ws) : Oks K a H s n (vs ++ ws) := by
  obtain ⟨D, h1, h2⟩ := h
  obtain ⟨E, h3, h4⟩ := h'
  refine ⟨D ++ E, dps_app h1 h3, fun d hd => ?_⟩
  rcases List.mem_append.mp hd with z | z
  · exact h2 d z
  · exact h4 d z
theorem Oks.cut {K : PySem.W.Frag} {a : Addr} {H : Hp} {s n : Nat} {vs : List V} (lo hi : Option Int) (h : Oks K a H s n vs) : Oks K a H s n (cutV vs lo hi) := by
  obtain ⟨D, h1, h2⟩ := h
  exact ⟨(D.drop _).take _, dps_take _ (dps_drop _ h1), fun d hd => h2 d (List.mem_of_mem_drop (List.mem_of_mem_take hd))⟩
theorem Oks.one {K : PySem.W.Frag} {a : Addr} {H : Hp} {s n : Nat} {v : V} (h : Ok K a H s n v) : Oks K a H s n [v] := by
  obtain ⟨D, h1, h2⟩ := h
  refine ⟨[D], .cons h1 .nil, fun d hd => ?_⟩
  rw [List.mem_singleton.mp hd]
  exact h2
theorem Oks.get {K : PySem.W.Frag} {a : Addr} {H : Hp} {s n i : Nat} {v : V} {vs : List V} (h : Oks K a H s n vs) (e : vs[i]? = some v) : Ok K a H s n v := by
  obtain ⟨D, h1, h2⟩ := h
  obtain ⟨d, hd, h3⟩ := dp_all_get h1 e
  exact ⟨d, h3, h2 d (List.mem_of_getElem? hd)⟩
theorem Ok.tup {K : PySem.W.Frag} {a d p : Addr} {H : Hp} {s n : Nat} {vs : List V} (hh : Hnd H a d) (hT : SqT K H p vs) (h : Oks K a H s n vs) (hl : vs.length ≤ s) : Ok K a H s (n + 1) (.ref p) := by
  obtain ⟨D, h1, h2⟩ := h
  exact ⟨.tuple D, .tup (sqt_off hh hT) h1, by rw [← dp_all_len h1]; exact hl, h2⟩
theorem Ok.lst {K : PySem.W.Frag} {a p : Addr} {H : Hp} {s n : Nat} {vs : List V} (pa : p ≠ a) (hL : H p = some (.lst vs)) (h : Oks K a H s n vs) (hl : vs.length ≤ s) : Ok K a H s (n + 1) (.ref p) := by
  obtain ⟨D, h1, h2⟩ := h
  exact ⟨.list D, .lst (.inl (.inl (by rw [off_ne pa]; exact hL))) h1, by rw [← dp_all_len h1]; exact hl, h2⟩
theorem Ok.str {K : PySem.W.Frag} {a : Addr} {H : Hp} {s n : Nat} {x : Str} (h : okS s x) : Ok K a H s n (.str x) := ⟨.str x, .str x, gz_str.mpr h⟩
theorem Ok.int {K : PySem.W.Frag} {a : Addr} {H : Hp} {s n : Nat} {i : Int} (h : i.natAbs < 10 ^ s) : Ok K a H s n (.int i) := ⟨.int i, .int i, gz_int.mpr h⟩
theorem Ok.bl {K : PySem.W.Frag} {a : Addr} {H : Hp} {s n : Nat} {b : Bool} : Ok K a H s n (.bl b) := ⟨.bool b, .bl b, gz_bool⟩
theorem Ok.non {K : PySem.W.Frag} {a : Addr} {H : Hp} {s n : Nat} : Ok K a H s n .non := ⟨.none, .non, gz_none⟩
/-! ### signs -/
theorem strOk_iff {x : Str} : PySem.PyData.strOk x = true ↔ ∀ c ∈ x.cps.toList, c < 1114112 := by
  unfold PySem.PyData.strOk
  rw [← Array.all_toList, List.all_eq_true]
  constructor
  · intro h c hc
    exact of_decide_eq_true (h c hc)
  · intro h c hc
    exact decide_eq_true (h c hc)
theorem strOk_app {x y : Str} (hx : PySem.PyData.strOk x = true) (hy : PySem.PyData.strOk y = true) : PySem.PyData.strOk (x ++ y) = true := by
  rw [strOk_iff] at hx hy ⊢
  intro c hc
  have e : (x ++ y).cps.toList = x.cps.toList ++ y.cps.toList := by
    show (x.cps ++ y.cps).toList = _
    simp
  rw [e] at hc
  rcases List.mem_append.mp hc with z | z
  · exact hx c z
  · exact hy c z
theorem strOk_cut {x : Str} {lo hi : Option Int} (hx : PySem.PyData.strOk x = true) : PySem.PyData.strOk (cutS x lo hi) = true := by
  rw [strOk_iff] at hx ⊢
  intro c hc
  exact hx c (List.mem_of_mem_drop (List.mem_of_mem_take hc))
theorem str_app_len (x y : Str) : (x ++ y).length = x.length + y.length := by
  show (x.cps ++ y.cps).size = _
  rw [Array.size_append]
  rfl
theorem cutS_len {x : Str} {lo hi : Option Int} : (cutS x lo hi).length = min (HT.sIx x.length x.length hi - HT.sIx x.length 0 lo) (x.length - HT.sIx x.length 0 lo) := by
  show (List.toArray _).size = _
  rw [List.size_toArray, List.length_take, List.length_drop]
  rfl
theorem cutV_len {x : List V} {lo hi : Option Int} : (cutV x lo hi).length = min (HT.sIx x.length x.length hi - HT.sIx x.length 0 lo) (x.length - HT.sIx x.length 0 lo) := by
  unfold cutV
  rw [List.length_take, List.length_drop]
theorem okS_int {s : Nat} {i : Int} (h : i.natAbs < 10 ^ s) (hs : 0 < s) : okS (s + 1) (Str.ofString (toString i)) := by
  refine ⟨?_, ?_⟩
  · rw [strOk_iff, Str.ofString_eq_toList]
    intro c hc
    obtain ⟨k, _, e⟩ := List.mem_map.mp hc
    rw [← e]
    have := k.valid
    rcases this with h | ⟨_, h⟩
    · show k.val.toNat < _
      have h' : k.val.toNat < 55296 := h
      omega
    · exact h
  · rw [PySem.ofString_length]
    exact int_text_length_le10 hs h
theorem atI_mem {xs : List V} {i : Int} (h0 : 0 ≤ i) (h1 : i < (xs.length : Int)) : ∃ x, atI xs i = some x ∧ x ∈ xs := by
  obtain ⟨k, rfl⟩ : ∃ k : Nat, i = (k : Int) := ⟨i.toNat, by omega⟩
  have hk : k < xs.length := by omega
  exact ⟨xs[k], atI_nat (List.getElem?_eq_getElem hk), List.getElem_mem hk⟩
theorem okS_mono {s t : Nat} {x : Str} (h : okS s x) (e : s ≤ t) : okS t x := ⟨h.1, Nat.le_trans h.2 e⟩
theorem okS_app {s t : Nat} {x y : Str} (hx : okS s x) (hy : okS t y) : okS (s + t) (x ++ y) := ⟨strOk_app hx.1 hy.1, by
  rw [str_app_len]
  have h1 := hx.2
  have h2 := hy.2
  omega⟩
theorem sIx_n (n d k : Nat) : HT.sIx n d (some (k : Int)) = min k n := HT.sIx_nat n d k
theorem okS_pre {s k : Nat} {x : Str} (hx : okS s x) (hk : k ≤ x.length) : okS k (cutS x none (some (k : Int))) := ⟨strOk_cut hx.1, by
  rw [cutS_len, sIx_n, HT.sIx_none]
  omega⟩
theorem okS_suf {s k : Nat} {x : Str} (hx : okS s x) : okS (x.length - k) (cutS x (some (k : Int)) none) := ⟨strOk_cut hx.1, by
  rw [cutS_len, sIx_n, HT.sIx_none]
  omega⟩
theorem Oks.nil {K : PySem.W.Frag} {a : Addr} {H : Hp} {s n : Nat} : Oks K a H s n [] := ⟨[], .nil, fun d hd => nomatch hd⟩
theorem Oks.cons {K : PySem.W.Frag} {a : Addr} {H : Hp} {s n : Nat} {v : V} {vs : List V} (h : Ok K a H s n v) (h' : Oks K a H s n vs) : Oks K a H s n (v :: vs) := (Oks.one h).app h'
theorem Oks.rep {K : PySem.W.Frag} {a : Addr} {H : Hp} {s n : Nat} {v : V} (h : Ok K a H s n v) : ∀ k : Nat, Oks K a H s n (List.replicate k v)
  | 0 => .nil
  | k + 1 => by
    rw [List.replicate_succ]
    exact .cons h (Oks.rep h k)
theorem Ok.small {K : PySem.W.Frag} {a : Addr} {H : Hp} {s n : Nat} {i : Int} (h : i.natAbs < 100) (hs : 2 ≤ s) : Ok K a H s n (.int i) := .int (Nat.lt_of_lt_of_le (show i.natAbs < 10 ^ 2 from h) (Nat.pow_le_pow_right (by decide) hs))
theorem shl_one (n : Nat) : (1 : Int) * 2 ^ ((n : Nat) : Int).toNat = ((2 ^ n : Nat) : Int) := by
  rw [Int.one_mul, Int.toNat_natCast, Int.natCast_pow]
  rfl
theorem two_pow_le {n b : Nat} (h : n ≤ b) : 2 ^ n ≤ 2 ^ b := Nat.pow_le_pow_right (by decide) h

/-- what is new in a heap -/
def fresh (H H' : Hp) : Hp := fun b => if H b = none then H' b else none
theorem fresh_some {H H' : Hp} {b : Addr} {o : HO} : fresh H H' b = some o ↔ H b = none ∧ H' b = some o := by
  unfold fresh
  by_cases h : H b = none
  · rw [if_pos h]
    exact ⟨fun e => ⟨h, e⟩, fun e => e.2⟩
  · rw [if_neg h]
    exact ⟨fun e => (nomatch e), fun e => absurd e.1 h⟩
theorem fresh_off {a : Addr} {H H' : Hp} (h : ∃ o, H a = some o) : Same (fresh H H') (off a H') := fun b o e => by
  obtain ⟨u, hu⟩ := h
  obtain ⟨e1, e2⟩ := fresh_some.mp e
  rw [off_ne fun z => ?_]
  · exact e2
  · rw [z, hu] at e1
    cases e1
/-- a new value, of data of a size -/
def OkN (K : PySem.W.Frag) (H H' : Hp) (s n : Nat) (v : V) : Prop := ∃ D, Dp K (fresh H H') v D ∧ Gz s n D
theorem OkN.ok {K : PySem.W.Frag} {a : Addr} {H H' : Hp} {s n : Nat} {v : V} (h : OkN K H H' s n v) (ha : ∃ o, H a = some o) : Ok K a H' s n v := by
  obtain ⟨D, h1, h2⟩ := h
  exact ⟨D, dp_same (fresh_off ha) D h1, h2⟩
def spOdd (K : PySem.W.Frag) (j : Nat) : Sp := fun vs H Q _ => ∃ (a d : Addr) (dep : Nat), vs = [.ref a, .int (dep : Int)] ∧ dep ≤ j ∧ Hnd H a d ∧ ∀ v H', OkN K H H' 70 (j + 1) v → Hnd H' a d → Keep a H H' → Q v H'
def spOddB (K : PySem.W.Frag) (j : Nat) : Sp := fun vs H Q E => 1 ≤ j ∧ spOdd K (j - 1) vs H Q E
def spBent (K : PySem.W.Frag) (j : Nat) : Sp := fun vs H Q _ => ∃ (a d : Addr) (v : V) (s n dep : Nat), vs = [.ref a, v, .int (dep : Int)] ∧ dep ≤ j ∧ Hnd H a d ∧ Ok K a H s n v ∧ 70 ≤ s ∧ s ≤ 500 ∧ n ≤ 50 ∧ ∀ v' H', Ok K a H' (s + 2) (n + 3) v' → Hnd H' a d → Keep a H H' → Q v' H'
def spBentB (K : PySem.W.Frag) (j : Nat) : Sp := fun vs H Q E => 1 ≤ j ∧ spBent K (j - 1) vs H Q E

theorem pss_when {X : Cx} {b : List Stmt} {cls : Value} {d : Option Addr} {C : Addr} {oe : Obj} {t : TS} (hz : Zc cls d oe) (h : Zc (.ref C) none oe → PSs X b t) : PSs X b (fun D σ H => (cls = .ref C ∧ d = none) ∧ t D σ H) := by
  refine ⟨fun pins s σ H D I q => ?_⟩
  obtain ⟨⟨e1, e2⟩, q⟩ := q
  subst e1
  subst e2
  exact (h hz).run pins s σ H D I q
def spRight (K : PySem.W.Frag) : Sp := fun vs H Q _ => ∃ (v : V) (D : PyData) (n : Nat), vs = [v] ∧ Dp K H v D ∧ Gd n D ∧ n ≤ 64 ∧ ∀ H', Same H H' → Q (.bl true) H'

/-! ### (z,) * k, k from 1 on -/
def rRep1 (K : PySem.W.Frag) : R2 := fun x y H Q => ∃ (l : Addr) (k : Int) (z : V), x = .ref l ∧ y = .int k ∧ SqT K H l [z] ∧ 1 ≤ k ∧ k ≤ 5000 ∧ ∀ p H', Same H H' → SqT K H' p (List.replicate k.toNat z) → Q (.ref p) H'
theorem tuple_once (l : Addr) (z : Value) (n : Nat) (dd : Option Addr) (sl : Array (Option Value)) (u : Tok) :
    Meets (Builtin.«tuple.__mul__» ⟨[.ref l, .int 1 u], []⟩) (fun _ R s => s.heap.get? l = some { cls := .type "tuple", dict := dd, data := .seq #[z] n, slots := sl } ∧ R (.ok (.ret (.ref l))) s) :=
  .of_wp fun prog w A R s h => by
    obtain ⟨hp, g, d, tk, os⟩ := s
    obtain ⟨hl, h⟩ := h
    have idx := AutoSeq1.idx_int
    wp_walk using wpAny_loadPart' hl
    exact ⟨_, rfl, h⟩
section
variable {X : Cx}
theorem op_rep1 (K : PySem.W.Frag) (hK : X.K = K := by rfl) : OpR X (binaryOp .Mult) (rRep1 K) := by
  subst hK
  intro pins s σ H x y v u Q I rx ry h
  obtain ⟨l, k, z, rfl, rfl, hT, h1, h2, q⟩ := h
  cases rx
  obtain ⟨t, rfl⟩ := ry
  obtain ⟨its, rz, ⟨⟨cls, dd, data, sl⟩, ho, hc, n, hd⟩, hs⟩ := I.tuple hT
  dsimp only at hc hd
  subst hc hd
  match its, rz with
  | [w], .cons rw' .nil =>
    -- what the slot of the tuple must do
    have road : ∀ {Q' : Value → Shared → Prop}, wpAny (model X.prog X.w) X.A (call (.builtin "tuple.__mul__") [.ref l, .int k t]) Q' X.xe s →
        wpAny (model X.prog X.w) X.A (binaryOp .Mult (.ref l) (.int k t)) Q' X.xe s := fun {Q'} c =>
      wpAny_binaryOp_repeat_ref (U := "int") (T := "tuple") (by decide)
        ⟨_, ho, rfl⟩ (fun s' => typeIs_int s' k t)
        noFill_tuple_mul F.fills_int_mul
        F.slot_int_rmul repeat_tuple
        F.slot_int_index.lookup
        (call_meets F.slot_int_rmul (typeIs_int s k t)
          F.entry_int_rmul (F.args_int_rmul_2 _ _)
          (int_rmul_tuple k t l _ n dd sl)
          ⟨ho, rfl, ⟨_, ho, rfl⟩, c⟩)
    refine road ?_
    by_cases one : k = 1
    · subst one
      refine call_meets F.slot_tuple_mul ⟨_, ho, rfl⟩
        F.entry_tuple_mul (F.args_tuple_mul_2 _ _)
        (tuple_once l w n dd sl t) ⟨ho, ?_⟩
      exact ⟨.ref l, H, I, rfl, q l H (Same.refl H) hT⟩
    · have a0 : (decide (k < -(2 ^ 63)) || decide (k ≥ 2 ^ 63)) = false := by
        rw [decide_eq_false (show ¬ k < -(2 ^ 63) by omega), Bool.false_or]
        exact decide_eq_false (by omega)
      have a1 : ((#[w] : Array Value).isEmpty || k == 1) = false := beq_eq_false_iff_ne.mpr one
      have a2 : (decide (k ≤ 0) || (#[w] : Array Value).isEmpty) = false := by
        rw [decide_eq_false (show ¬ k ≤ 0 by omega)]
        rfl
      have sz : (((#[w] : Array Value).size : Nat) : Int) = 1 := rfl
      have a4 : Builtin.Tuple.tupleTooMany ((((#[w] : Array Value).size : Nat) : Int) * k) = false := by
        rw [sz, Int.one_mul]
        unfold Builtin.Tuple.tupleTooMany
        exact decide_eq_false (by rw [sizeLine_eq]; omega)
      have len : (List.replicate k.toNat [w]).flatten.length = k.toNat := by
        rw [PyProof.Rows.lm_len_rep_flat]
        exact Nat.mul_one _
      refine call_meets F.slot_tuple_mul ⟨_, ho, rfl⟩
        F.entry_tuple_mul (F.args_tuple_mul_2 _ _)
        (tuple_mulW l #[w] n dd sl k t a0 a1 a2 (by rw [sz]; omega) a4 (by rw [show (#[w] : Array Value) = [w].toArray from rfl, size_rep, List.size_toArray, len, sizeLine_eq]; omega)) ⟨ho, ?_⟩
      rw [show (#[w] : Array Value) = [w].toArray from rfl, size_rep]
      have np := I.hok.fresh (Nat.le_refl s.heap.objs.size)
      have e1 : (List.replicate k.toNat [z]).flatten = List.replicate k.toNat z := by
        generalize k.toNat = j
        induction j with
        | zero => rfl
        | succ j ih => rw [List.replicate_succ, List.flatten_cons, ih, List.replicate_succ]; rfl
      refine ⟨.ref s.heap.objs.size, _, I.laid (t' := s.toks) (o := .tup (List.replicate k.toNat [z]).flatten) (fun _ _ g => Heap.get?_push_of_some _ g) (Nat.le_refl _) ?_, rfl, q _ _ (same_new np) (.inl (.inl (by rw [upd_same, e1])))⟩
      refine ⟨?_, _, (show Vals [z] [w] from .cons rw' .nil).rep k.toNat, IsTup.new _ _⟩
      rw [PyProof.Rows.lm_len_rep_flat, sizeLine_eq]
      show k.toNat * 1 ≤ _
      omega
end

/-- a value of data, of a depth that is compared, beside the hand -/
def OkD (K : PySem.W.Frag) (a : Addr) (H : Hp) (v : V) : Prop := ∃ D n, Dp K (off a H) v D ∧ Gd n D ∧ n ≤ 64
def spEdge (K : PySem.W.Frag) : Sp := fun vs H Q _ => ∃ (a d : Addr), vs = [.ref a] ∧ Hnd H a d ∧ ∀ v H', OkD K a H' v → Hnd H' a d → Keep a H H' → Q v H'
theorem OkD.of {K : PySem.W.Frag} {a : Addr} {H : Hp} {s n : Nat} {v : V} (h : Ok K a H s n v) (hs : s ≤ 5000) (hn : n ≤ 64) : OkD K a H v := by
  obtain ⟨D, h1, h2⟩ := h
  exact ⟨D, n, h1, gz_gd hs h2, hn⟩

/-- a tuple of data, beside the hand -/
structure OkT (K : PySem.W.Frag) (a : Addr) (H : Hp) (p : Addr) (ws : List V) : Prop where
  t : SqT K (off a H) p ws
  o : Oks K a H 70 2 ws
  l : ws.length ≤ 5
theorem OkT.keep {K : PySem.W.Frag} {a p : Addr} {H H' : Hp} {ws : List V} (h : OkT K a H p ws) (k : Keep a H H') : OkT K a H' p ws := ⟨same_sqt k.off h.t, h.o.keep k, h.l⟩
theorem OkT.ok {K : PySem.W.Frag} {a p : Addr} {H : Hp} {ws : List V} (h : OkT K a H p ws) : Ok K a H 70 3 (.ref p) := by
  obtain ⟨ds, h1, h2⟩ := h.o
  exact ⟨.tuple ds, .tup h.t h1, by rw [← dp_all_len h1]; exact Nat.le_trans h.l (by decide), h2⟩
theorem okS_sb {s : Nat} {r : List Bool} (h : r.length ≤ s) : okS s (sb r) := by
  refine ⟨?_, by rw [sb_len]; exact h⟩
  rw [strOk_iff]
  intro c hc
  have e : (sb r).cps.toList = r.map cB := by
    show ((r.map cB).toArray).toList = _
    simp
  rw [e] at hc
  obtain ⟨b, _, rfl⟩ := List.mem_map.mp hc
  cases b <;> decide
theorem gz_rows {s : Nat} {rows : List (List Bool)} {m : Nat} (h : rows.length ≤ s) (hr : ∀ r ∈ rows, r.length = m) (hm : m ≤ s) (n : Nat) : Gz s (n + 1) (rowsD rows) := by
  refine ⟨by rw [List.length_map]; exact h, fun x hx => ?_⟩
  obtain ⟨r, hr', rfl⟩ := List.mem_map.mp hx
  exact gz_str.mpr (okS_sb (by rw [hr r hr']; exact hm))
theorem gz_small {s n : Nat} {i : Int} (h : i.natAbs < 100) (hs : 2 ≤ s) : Gz s n (.int i) := gz_int.mpr (Nat.lt_of_lt_of_le (show i.natAbs < 10 ^ 2 from h) (Nat.pow_le_pow_right (by decide) hs))
theorem all4 {P : PyData → Prop} {a b c d : PyData} (h1 : P a) (h2 : P b) (h3 : P c) (h4 : P d) : ∀ x ∈ [a, b, c, d], P x := by
  intro x hx
  rcases List.mem_cons.mp hx with e | hx
  · exact e ▸ h1
  rcases List.mem_cons.mp hx with e | hx
  · exact e ▸ h2
  rcases List.mem_cons.mp hx with e | hx
  · exact e ▸ h3
  rcases List.mem_cons.mp hx with e | hx
  · exact e ▸ h4
  exact nomatch hx
theorem okT_tab {K : PySem.W.Frag} {a : Addr} {H : Hp} {v : V} {n m : Nat} {rows : List (List Bool)} (h : Dp K (off a H) v (tabD n m rows)) (hn : n ≤ 40) (hm : m ≤ 40) (hl : rows.length ≤ 70) (hr : ∀ r ∈ rows, r.length = m) : ∃ p ws, v = .ref p ∧ OkT K a H p ws := by
  cases h with
  | @tup p ws _ hT hA =>
    refine ⟨p, ws, rfl, hT, ⟨_, hA, all4 (gz_str.mpr ⟨by decide +kernel, by decide +kernel⟩) (gz_small (by omega) (by decide)) (gz_small (by omega) (by decide)) (gz_rows hl hr (by omega) 1)⟩, ?_⟩
    rw [dp_all_len hA]
    show 4 ≤ 5
    decide
theorem okT_fun {K : PySem.W.Frag} {a : Addr} {H : Hp} {v : V} {n l m : Nat} {tabs : List (List (List Bool))} (h : Dp K (off a H) v (funD n l m tabs)) (hn : n ≤ 40) (hl' : l ≤ 40) (hm : m ≤ 40) (hl : tabs.length ≤ 70) (hr : ∀ rows ∈ tabs, rows.length ≤ 70 ∧ ∀ r ∈ rows, r.length = m) : ∃ p ws, v = .ref p ∧ OkT K a H p ws := by
  cases h with
  | @tup p ws _ hT hA =>
    refine ⟨p, ws, rfl, hT, ⟨_, hA, fun x hx => ?_⟩, ?_⟩
    · rcases List.mem_cons.mp hx with e | hx
      · exact e ▸ (gz_str.mpr ⟨by decide +kernel, by decide +kernel⟩)
      refine all4 (gz_small (by omega) (by decide)) (gz_small (by omega) (by decide)) (gz_small (by omega) (by decide)) ?_ x hx
      refine ⟨by rw [List.length_map]; exact hl, fun y hy => ?_⟩
      obtain ⟨rows, hrow, rfl⟩ := List.mem_map.mp hy
      exact gz_rows (hr rows hrow).1 (hr rows hrow).2 (by omega) 0
    · rw [dp_all_len hA]
      show 5 ≤ 5
      decide
theorem ok_on {K : PySem.W.Frag} {b : Addr} {H : Hp} {v : V} {s n : Nat} (h : Ok K b H s n v) (hs : s ≤ 5000) : ∃ D, Dp K H v D ∧ Gd n D := by
  obtain ⟨D, h1, h2⟩ := h
  exact ⟨D, dp_same (off_same b H) D h1, gz_gd hs h2⟩
theorem dp_sbs {K : PySem.W.Frag} {H : Hp} : ∀ {vs : List V} {rows : List (List Bool)}, DpAll K H vs (rows.map fun r => PyData.str (sb r)) → vs = rows.map fun r => V.str (sb r)
  | _, [], .nil => rfl
  | _, _ :: _, .cons (.str _) t => by rw [List.map_cons, dp_sbs t]
theorem dp4' {K : PySem.W.Frag} {H : Hp} {ws : List V} {a b c d : PyData} (h : DpAll K H ws [a, b, c, d]) : ∃ v0 v1 v2 v3, ws = [v0, v1, v2, v3] ∧ Dp K H v3 d := by
  match ws, h with
  | _, .cons _ (.cons _ (.cons _ (.cons h .nil))) => exact ⟨_, _, _, _, rfl, h⟩
theorem oks_strs {K : PySem.W.Frag} {b : Addr} {G : Hp} {s n : Nat} : ∀ {vs : List V}, (∀ v ∈ vs, ∃ x : Str, v = .str x ∧ okS s x) → Oks K b G s n vs
  | [], _ => .nil
  | v :: vs, h => by
    obtain ⟨x, rfl, hx⟩ := h v List.mem_cons_self
    exact .cons (.str hx) (oks_strs fun w hw => h w (List.mem_cons_of_mem _ hw))

def top_level : Nat := 10
section
variable {P : Program} {w : World} {K : PySem.W.Frag} {mg : Str → Option Value} {base : Heap} {cs : Cs}
theorem ok_whole {f : Addr} {fd : FuncData} (D : Df K mg "is_whole" s_is_whole ["value", "low", "high"] f fd) (T : Txt K mg cs) : FnOk P w K mg base CX0 1 f fd ["value", "low", "high"] (spWhole K) := by
  refine D.fn.ok sc_is_whole (fun vs H Q E h => ?_) (fun cdv A outer s H vs Q E hr h => ?_)
  · obtain ⟨v, d, lo, hi, rfl, _⟩ := h
    rfl
  · obtain ⟨v, d, lo, hi, rfl, hd, q⟩ := h
    refine ⟨_, (pss_one (ps_ret (pe_and (pe_callB (isiK K) (by rfl) T.n_isinstance (by decide +kernel) (pa_cons (pv 0) (pa_cons (pe_ty "int" (by rfl) T.n_int (by decide +kernel)) pa_nil))) (pe_and (pe_not (pe_callB (isiK K) (by rfl) T.n_isinstance (by decide +kernel) (pa_cons (pv 0) (pa_cons (pe_ty "bool" (by rfl) T.n_bool (by decide +kernel)) pa_nil)))) (pe_one (pe_chain op_le op_le (pv 1) (pv 0) (pv 2))))))), ?_⟩
    refine ⟨_, rfl, _, _, _, _, _, rfl, .ty "int", dp_ty hd, kit_int d, _, rfl, ?_⟩
    cases d with
    | int i =>
      cases hd
      refine ⟨_, rfl, _, _, _, _, false, rfl, .ty "bool", .base (.int i), kit_ty (by decide +kernel), _, rfl, _, rfl, ?_⟩
      refine ⟨_, rfl, _, rfl, _, _, rfl, rfl, _, rfl, ?_⟩
      by_cases c : lo ≤ i
      · rw [decide_eq_true c]
        refine ⟨_, rfl, _, _, rfl, rfl, ?_⟩
        have e : whole (.int i) lo hi = decide (i ≤ hi) := by
          show (decide (lo ≤ i) && decide (i ≤ hi)) = _
          rw [decide_eq_true c, Bool.true_and]
        rw [e] at q
        exact q
      · rw [decide_eq_false c]
        have e : whole (.int i) lo hi = false := by
          show (decide (lo ≤ i) && decide (i ≤ hi)) = _
          rw [decide_eq_false c, Bool.false_and]
        rw [e] at q
        exact q
    | bool b =>
      cases hd
      exact ⟨_, rfl, _, _, _, _, true, rfl, .ty "bool", .base (.bl b), kit_ty (by decide +kernel), _, rfl, _, rfl, q⟩
    | none => exact q
    | str x => exact q
    | list xs => exact q
    | tuple xs => exact q
    | dict xs => exact q
theorem all_rows {m : Int} {xs : List PyData} (h : xs.all (strLen m) = true) : ∃ ys : List Str, xs = ys.map PyData.str ∧ ∀ y ∈ ys, (y.length : Int) = m := by
  induction xs with
  | nil => exact ⟨[], rfl, fun y hy => (nomatch hy)⟩
  | cons x xs ih =>
    rw [List.all_cons, Bool.and_eq_true] at h
    obtain ⟨ys, e, hy⟩ := ih h.2
    cases x with
    | str z =>
      refine ⟨z :: ys, by rw [e]; rfl, fun y hy' => ?_⟩
      rcases List.mem_cons.mp hy' with r | r
      · subst r
        exact of_decide_eq_true h.1
      · exact hy y r
    | _ => cases h.1
theorem dp_strs {K : PySem.W.Frag} {H : Hp} : ∀ {vs : List V} {ys : List Str}, DpAll K H vs (ys.map PyData.str) → vs = ys.map V.str
  | _, [], .nil => rfl
  | _, y :: ys, .cons (.str _) t => by rw [List.map_cons, dp_strs t]
theorem sum_len {m : Nat} : ∀ {ys : List Str}, (∀ y ∈ ys, (y.length : Int) = (m : Int)) → (ys.map (·.length)).sum = ys.length * m
  | [], _ => by simp
  | y :: ys, h => by
    have h1 := h y List.mem_cons_self
    rw [List.map_cons, List.sum_cons, sum_len fun z hz => h z (List.mem_cons_of_mem _ hz), List.length_cons, Nat.succ_mul]
    omega
theorem join_all : ∀ ys : List Str, (Txt.join "" ys).cps.toList = (ys.map (·.cps.toList)).flatten := by
  intro ys
  have j : ∀ ps : List (List Nat), TL.joinL [] ps = ps.flatten := by
    intro ps
    induction ps with
    | nil => rfl
    | cons x r ih =>
      cases r with
      | nil => exact (List.append_nil x).symm
      | cons y r =>
        show x ++ ([] ++ TL.joinL [] (y :: r)) = x ++ (y :: r).flatten
        rw [ih, List.nil_append]
  have e : ys = (ys.map (·.cps.toList)).map SX.S := by
    rw [List.map_map]
    exact (List.map_id'' (fun x => SX.S_tl x) ys).symm
  have h := SX.join_S [] (ys.map (·.cps.toList))
  rw [← e, j] at h
  exact congrArg (fun z : Str => z.cps.toList) h
theorem all_bits {m : Int} {ys : List Str} (h : ∀ y ∈ ys, (y.length : Int) = m) : (ys.map PyData.str).all (bitRow m) = (Txt.join "" ys).cps.toList.all (fun c => c == 48 || c == 49) := by
  rw [join_all]
  induction ys with
  | nil => rfl
  | cons y ys ih =>
    rw [List.map_cons, List.all_cons, ih fun z hz => h z (List.mem_cons_of_mem _ hz), List.map_cons, List.flatten_cons, List.all_append]
    congr 1
    show (decide ((y.length : Int) = m) && _) = _
    rw [decide_eq_true (h y List.mem_cons_self), Bool.true_and]
theorem not_all {m : Int} {xs : List PyData} (h : xs.all (strLen m) = false) : xs.all (bitRow m) = false := by
  rw [Bool.eq_false_iff] at h ⊢
  intro z
  refine h ?_
  rw [List.all_eq_true] at z ⊢
  intro x hx
  have := z x hx
  cases x with
  | str y =>
    have h2 : (decide ((y.length : Int) = m) && y.cps.toList.all (fun c => c == 48 || c == 49)) = true := this
    exact (Bool.and_eq_true_iff.mp h2).1
  | _ => cases this
theorem ok_rows {f : Addr} {fd : FuncData} (D : Df K mg "are_rows" s_are_rows ["value", "many", "m"] f fd) (T : Txt K mg cs) : FnOk P w K mg base CX0 1 f fd ["value", "many", "m"] (spRows K) := by
  refine D.fn.ok sc_are_rows (fun vs H Q E h => ?_) (fun cdv A outer s H vs Q E hr h => ?_)
  · obtain ⟨v, d, n, many, m, rfl, _⟩ := h
    rfl
  · obtain ⟨v, d, n, many, m, rfl, hd, hg, hmany, hm, q⟩ := h
    refine ⟨_, (pss_cons (ps_if (PW.pt (pw_or (pt_not (pt_val (pe_callB (isiK K) (by rfl) T.n_isinstance (by decide +kernel) (pa_cons (pv 0) (pa_cons (pe_ty "tuple" (by rfl) T.n_tuple (by decide +kernel)) pa_nil))))) (pw_or1 (pt_cmpR op_ne (pe_callB (lenS K) (by rfl) T.n_len (by decide +kernel) (pa_cons (pv 0) pa_nil)) (pv 1) (nomark _))))) (pss_one (ps_ret pe_bl)) pss_nil) (pss_cons (ps_if (pt_not (pt_val (pe_callB (crAll K rfl) (by rfl) T.n_all (by decide +kernel) (pa_cons (pe_lc (own := [("row", 3)]) (g := gName 3) (tt := tYes) rfl sc_are_rows.nd (pi_tup (pv 0)) (blkOk_by (own := [("row", 3)]) (N := ["value", "many", "m", "row"]) (sc := defScope s_are_rows) (by decide +kernel)) (fun _ _ _ _ _ => (pg_name (i := 3) sc_are_rows.nd rfl (.inl rfl))) (fun _ _ _ _ _ => pts_nil) (fun _ _ _ _ _ => (pe_and (pe_callB (isiK K) (by rfl) T.n_isinstance (by decide +kernel) (pa_cons (pv 3) (pa_cons (pe_ty "str" (by rfl) T.n_str (by decide +kernel)) pa_nil))) (pe_one (pe_cmpR op_eq (pe_callB call_len_str (by rfl) T.n_len (by decide +kernel) (pa_cons (pv 3) pa_nil)) (pv 2) (nomark _)))))) pa_nil)))) (pss_one (ps_ret pe_bl)) pss_nil) (pss_one (ps_ret (pe_cmpR op_eq (pe_m1 PySem.F.slot_str_strip PySem.F.type_str_strip mt_stripChars (pe_m1 PySem.F.slot_str_join PySem.F.type_str_join (mtJoin K) pe_str (pv 0)) pe_str) pe_str (nomark _)))))), ?_⟩
    refine ⟨_, rfl, _, _, _, _, _, rfl, .ty "tuple", dp_ty hd, kit_tup d, _, rfl, ?_⟩
    cases d with
    | tuple xs =>
      cases hd with
      | @tup a ws _ hT hA =>
        obtain ⟨hl, n', rfl, hx⟩ := gd_tup hg
        have hwl := dp_all_len hA
        refine ⟨_, rfl, a, ws, rfl, .inr hT, _, rfl, rfl, _, rfl, ?_⟩
        by_cases c : (ws.length : Int) = many
        · rw [decide_eq_true (show V.int (ws.length : Int) = V.int many by rw [c])]
          -- all([isinstance(row, str) and len(row) == m for row in value])
          refine ⟨_, rfl, a, rfl, ⟨_, hT⟩, fun Dl hD => ?_⟩
          refine lc_tup (xs := ws) (fun i H' => Same H H' ∧ H' Dl = some (.lst ((xs.take i).map fun x => V.bl (strLen m x)))) ?_ ?_ ?_ ?_
          · exact ⟨same_new hD, upd_same⟩
          · rintro i H' _ ⟨s1, _⟩
            exact same_sqt s1 hT
          · rintro i x H' hxi ⟨s1, e1⟩
            obtain ⟨d, hdi, hdx⟩ := dp_all_get hA hxi
            have hdx' := dp_same s1 d hdx
            have hgd := hx d (List.mem_of_getElem? hdi)
            have hi : i < xs.length := (List.getElem?_eq_some_iff.mp hdi).1
            have fin : ∀ b : Bool, strLen m d = b → ∃ acc, H' Dl = some (.lst acc) ∧ acc.length < sizeLine ∧ (Same H (upd H' Dl (.lst (acc ++ [.bl b]))) ∧ upd H' Dl (.lst (acc ++ [.bl b])) Dl = some (.lst ((xs.take (i + 1)).map fun x => V.bl (strLen m x)))) := by
              intro b hb
              refine ⟨_, e1, ?_, fun p o e => ?_, ?_⟩
              · rw [List.length_map, List.length_take]
                exact Nat.lt_of_lt_of_le (show min i xs.length < 10000 by omega) (by decide)
              · rw [upd_ne (ne_of_none e hD)]
                exact s1 p o e
              · rw [upd_same, List.take_add_one, hdi, List.map_append]
                show _ = some (HO.lst (_ ++ [V.bl (strLen m d)]))
                rw [hb]
            refine ⟨rfl, ?_⟩
            refine ⟨_, rfl, _, _, _, _, _, rfl, .ty "str", dp_ty hdx', kit_str d, _, rfl, ?_⟩
            cases d with
            | str z =>
              cases hdx'
              have hz := (gd_str hgd).2
              refine ⟨_, rfl, z, rfl, ?_, _, rfl, rfl, ?_⟩
              · rw [sizeLine_eq]
                omega
              · refine fin _ ?_
                show decide ((z.length : Int) = m) = decide (V.int (z.length : Int) = V.int m)
                by_cases c : (z.length : Int) = m
                · rw [decide_eq_true c, decide_eq_true (congrArg V.int c)]
                · rw [decide_eq_false c, decide_eq_false fun z => c (V.int.inj z)]
            | none => exact fin false rfl
            | bool b => exact fin false rfl
            | int b => exact fin false rfl
            | list b => exact fin false rfl
            | tuple b => exact fin false rfl
            | dict b => exact fin false rfl
          · rintro H' ⟨s1, e1⟩
            have et : (xs.take ws.length).map (fun x => V.bl (strLen m x)) = ((xs.map (strLen m)).map V.bl) := by
              rw [List.take_of_length_le (by omega), List.map_map]
              rfl
            rw [et] at e1
            refine ⟨Dl, _, rfl, .inl (.inl e1), _, rfl, ?_⟩
            have ea : (xs.map (strLen m)).all id = xs.all (strLen m) := by
              rw [List.all_map]
              rfl
            rw [ea]
            cases hc : xs.all (strLen m) with
            | false =>
              have e : rowsOk (.tuple xs) many m = false := by
                show (decide _ && xs.all (bitRow m)) = false
                rw [not_all hc, Bool.and_false]
              have q' := q H' s1
              rw [e] at q'
              exact q'
            | true =>
              obtain ⟨ys, rfl, hy⟩ := all_rows hc
              have ew := dp_strs hA
              subst ew
              have hm0 : ∃ k : Nat, ys = [] ∨ m = (k : Int) := by
                cases ys with
                | nil => exact ⟨0, .inl rfl⟩
                | cons y ys => exact ⟨y.length, .inr (hy y List.mem_cons_self).symm⟩
              have hsum : (ys.map (·.length)).sum ≤ 4096 * 40 := by
                obtain ⟨k, rfl | rfl⟩ := hm0
                · simp
                · rw [sum_len hy]
                  have h1 : ys.length ≤ 4096 := by
                    rw [List.length_map] at c
                    omega
                  have h2 : k ≤ 40 := by omega
                  exact Nat.mul_le_mul h1 h2
              refine ⟨⟨_, rfl⟩, _, rfl, "", a, ys, rfl, rfl, .inr (same_sqt s1 hT), ?_, ⟨_, rfl⟩, _, _, rfl, rfl, ?_, rfl, ?_⟩
              · show _ + _ * 0 ≤ _
                omega
              · have hj : (Txt.join "" ys).length = (ys.map (·.length)).sum := by
                  show (Txt.join "" ys).cps.size = _
                  rw [← Array.length_toList, join_all, List.length_flatten, List.map_map]
                  congr 1
                rw [hj, sizeLine_eq]
                omega
              · rw [strip_all, ← all_bits hy]
                have e : rowsOk (.tuple (ys.map PyData.str)) many m = (ys.map PyData.str).all (bitRow m) := by
                  show (decide (((ys.map PyData.str).length : Int) = many) && _) = _
                  rw [decide_eq_true (by rw [List.length_map] at c ⊢; exact c), Bool.true_and]
                have q' := q H' s1
                rw [e] at q'
                exact q'
        · rw [decide_eq_false (show ¬ V.int (ws.length : Int) = V.int many from fun z => c (V.int.inj z))]
          have e : rowsOk (.tuple xs) many m = false := by
            show (decide ((xs.length : Int) = many) && _) = false
            rw [decide_eq_false (by rw [← hwl]; exact c), Bool.false_and]
          have q' := q H (Same.refl H)
          rw [e] at q'
          exact q'
    | bool b => exact q H (Same.refl H)
    | none => exact q H (Same.refl H)
    | int x => exact q H (Same.refl H)
    | str x => exact q H (Same.refl H)
    | list xs => exact q H (Same.refl H)
    | dict xs => exact q H (Same.refl H)

theorem ok_gen {f : Addr} {fd : FuncData} (D : Df K mg "is_generator" s_is_generator ["value"] f fd) (T : Txt K mg cs) (c_is_whole : Cl P w K mg base CX0 1 "is_whole" (spWhole K)) (c_are_rows : Cl P w K mg base CX0 1 "are_rows" (spRows K)) : FnOk P w K mg base CX0 2 f fd ["value"] (spGen K) := by
  refine D.fn.ok sc_is_generator (fun vs H Q E h => ?_) (fun cdv A outer s H vs Q E hr h => ?_)
  · obtain ⟨v, d, n, rfl, _⟩ := h
    rfl
  · obtain ⟨v, d, n, rfl, hd, hg, hn64, q⟩ := h
    refine ⟨_, (pss_cons (ps_if (PW.pt (pw_or (pt_not (pt_val (pe_callB (isiK K) (by rfl) T.n_isinstance (by decide +kernel) (pa_cons (pv 0) (pa_cons (pe_ty "tuple" (by rfl) T.n_tuple (by decide +kernel)) pa_nil))))) (pw_or1 (pt_cmpR op_ne (pe_callB (lenS K) (by rfl) T.n_len (by decide +kernel) (pa_cons (pv 0) pa_nil)) pe_int (nomark _))))) (pss_one (ps_ret pe_bl)) pss_nil) (pss_cons (ps_asg (pv 0) (pg_tup (by rfl) (pgs_cons (pg_name (i := 1) sc_is_generator.nd rfl (.inl rfl)) (pgs_cons (pg_name (i := 2) sc_is_generator.nd rfl (.inl rfl)) (pgs_cons (pg_name (i := 3) sc_is_generator.nd rfl (.inl rfl)) (pgs_cons (pg_name (i := 4) sc_is_generator.nd rfl (.inl rfl)) pgs_nil)))))) (pss_cons (ps_if (PW.pt (pw_or (pt_cmpR (op_neD hr.units) (pv 1) pe_str (nomark _)) (pw_or (pt_not (pt_val (pe_cl c_is_whole hr (by first | decide | omega) (by rfl) (pa_cons (pv 2) (pa_cons pe_int (pa_cons pe_int pa_nil)))))) (pw_or1 (pt_not (pt_val (pe_cl c_is_whole hr (by first | decide | omega) (by rfl) (pa_cons (pv 3) (pa_cons pe_int (pa_cons (C8.pe_gc (by rfl) T.g_MOST_BITS) pa_nil)))))))))) (pss_one (ps_ret pe_bl)) pss_nil) (pss_one (ps_ret (pe_cl c_are_rows hr (by first | decide | omega) (by rfl) (pa_cons (pv 4) (pa_cons (pe_op op_shl pe_int (pv 2)) (pa_cons (pv 3) pa_nil))))))))), ?_⟩
    refine ⟨_, rfl, _, _, _, _, _, rfl, .ty "tuple", dp_ty hd, kit_tup d, _, rfl, ?_⟩
    cases d with
    | tuple xs =>
      cases hd with
      | @tup a ws _ hT hA =>
        obtain ⟨hl, n', rfl, hx⟩ := gd_tup hg
        have hwl := dp_all_len hA
        refine ⟨_, rfl, a, ws, rfl, .inr hT, rfl, _, rfl, ?_⟩
        by_cases c : ws.length = 4
        · obtain ⟨v0, v1, v2, v3, k, n, m, r, rfl, rfl, h0, h1, h2, h3⟩ := dp4 hA c
          rw [decide_eq_true (show V.int (([v0, v1, v2, v3].length : Nat) : Int) = V.int 4 from rfl)]
          refine ⟨_, rfl, a, _, rfl, hT, rfl, _, _, rfl, _, _, rfl, _, _, rfl, _, _, rfl, rfl, ?_⟩
          have g0 := hx k List.mem_cons_self
          have g3 := hx r (List.mem_cons_of_mem _ (List.mem_cons_of_mem _ (List.mem_cons_of_mem _ List.mem_cons_self)))
          rw [gen_eq] at q
          -- kind != 'generator'
          refine ⟨_, rfl, k, .str "generator", h0, .str _, gd_shaped g0 (by omega), by decide +kernel, _, rfl, ?_⟩
          rw [name_ne]
          cases ck : named "generator" k with
          | false =>
            rw [ck] at q
            exact q H (Same.refl H)
          | true =>
            rw [ck] at q
            refine ⟨_, rfl, v1, n, 1, 10, rfl, h1, _, rfl, ?_⟩
            cases cn : whole n 1 10 with
            | false =>
              rw [cn] at q
              exact q H (Same.refl H)
            | true =>
              rw [cn] at q
              refine ⟨_, rfl, v2, m, 1, 40, rfl, h2, _, rfl, ?_⟩
              cases cm : whole m 1 40 with
              | false =>
                rw [cm] at q
                exact q H (Same.refl H)
              | true =>
                rw [cm] at q
                obtain ⟨n, rfl, n1, n2⟩ := whole_int cn
                obtain ⟨m, rfl, m1, m2⟩ := whole_int cm
                cases h1
                cases h2
                refine ⟨_, rfl, _, rfl, _, _, rfl, rfl, ⟨by omega, by omega, by decide⟩, _, rfl, v3, r, _, _, _, rfl, h3, g3, ?_, m2, fun H' s' => q H' s'⟩
                exact Int.le_trans (pow_le (b := 10) n1 n2) (by decide)
        · have hne : ((ws.length : Nat) : Int) ≠ 4 := by omega
          rw [decide_eq_false (show ¬ V.int (ws.length : Int) = V.int 4 from fun z => hne (V.int.inj z))]
          have e := gen_no (xs := xs) (by omega)
          have q' := q H (Same.refl H)
          rw [e] at q'
          exact q'
    | bool b => exact q H (Same.refl H)
    | none => exact q H (Same.refl H)
    | int x => exact q H (Same.refl H)
    | str x => exact q H (Same.refl H)
    | list xs => exact q H (Same.refl H)
    | dict xs => exact q H (Same.refl H)

theorem ok_fun {f : Addr} {fd : FuncData} (D : Df K mg "is_function" s_is_function ["value"] f fd) (T : Txt K mg cs) (c_is_whole : Cl P w K mg base CX0 1 "is_whole" (spWhole K)) (c_are_rows : Cl P w K mg base CX0 1 "are_rows" (spRows K)) : FnOk P w K mg base CX0 2 f fd ["value"] (spFun K) := by
  refine D.fn.ok sc_is_function (fun vs H Q E h => ?_) (fun cdv A outer s H vs Q E hr h => ?_)
  · obtain ⟨v, d, n, rfl, _⟩ := h
    rfl
  · obtain ⟨v, d, n, rfl, hd, hg, hn64, q⟩ := h
    refine ⟨_, (pss_cons (ps_if (PW.pt (pw_or (pt_not (pt_val (pe_callB (isiK K) (by rfl) T.n_isinstance (by decide +kernel) (pa_cons (pv 0) (pa_cons (pe_ty "tuple" (by rfl) T.n_tuple (by decide +kernel)) pa_nil))))) (pw_or1 (pt_cmpR op_ne (pe_callB (lenS K) (by rfl) T.n_len (by decide +kernel) (pa_cons (pv 0) pa_nil)) pe_int (nomark _))))) (pss_one (ps_ret pe_bl)) pss_nil) (pss_cons (ps_asg (pv 0) (pg_tup (by rfl) (pgs_cons (pg_name (i := 1) sc_is_function.nd rfl (.inl rfl)) (pgs_cons (pg_name (i := 2) sc_is_function.nd rfl (.inl rfl)) (pgs_cons (pg_name (i := 3) sc_is_function.nd rfl (.inr rfl)) (pgs_cons (pg_name (i := 4) sc_is_function.nd rfl (.inr rfl)) (pgs_cons (pg_name (i := 5) sc_is_function.nd rfl (.inl rfl)) pgs_nil))))))) (pss_cons (ps_if (PW.pt (pw_or (pt_cmpR (op_neD hr.units) (pv 1) pe_str (nomark _)) (pw_or (pt_not (pt_val (pe_cl c_is_whole hr (by first | decide | omega) (by rfl) (pa_cons (pv 2) (pa_cons pe_int (pa_cons pe_int pa_nil)))))) (pw_or (pt_not (pt_val (pe_cl c_is_whole hr (by first | decide | omega) (by rfl) (pa_cons (pv 3) (pa_cons pe_int (pa_cons pe_int pa_nil)))))) (pw_or1 (pt_cmpR op_gt (pe_op op_add (pv 2) (pv 3)) pe_int (nomark _))))))) (pss_one (ps_ret pe_bl)) pss_nil) (pss_cons (ps_if (PW.pt (pw_or (pt_not (pt_val (pe_cl c_is_whole hr (by first | decide | omega) (by rfl) (pa_cons (pv 4) (pa_cons pe_int (pa_cons (C8.pe_gc (by rfl) T.g_MOST_BITS) pa_nil)))))) (pw_or (pt_not (pt_val (pe_callB (isiK K) (by rfl) T.n_isinstance (by decide +kernel) (pa_cons (pv 5) (pa_cons (pe_ty "tuple" (by rfl) T.n_tuple (by decide +kernel)) pa_nil))))) (pw_or1 (pt_cmpR op_ne (pe_callB (lenS K) (by rfl) T.n_len (by decide +kernel) (pa_cons (pv 5) pa_nil)) (pe_op op_shl pe_int (pv 2)) (nomark _)))))) (pss_one (ps_ret pe_bl)) pss_nil) (pss_one (ps_ret (pe_callB (crAll K rfl) (by rfl) T.n_all (by decide +kernel) (pa_cons (pe_lc (own := [("rows", 6)]) (g := gName 6) (tt := tYes) rfl sc_is_function.nd (pi_tup (pv 5)) (blkOk_by (own := [("rows", 6)]) (N := ["value", "kind", "n", "l", "m", "tables", "rows"]) (sc := defScope s_is_function) (by decide +kernel)) (fun _ _ _ _ _ => (pg_name (i := 6) sc_is_function.nd rfl (.inl rfl))) (fun _ _ _ _ _ => pts_nil) (fun _ _ _ _ _ => (pe_cl c_are_rows hr (by first | decide | omega) (by rfl) (pa_cons (pv 6) (pa_cons (pe_op op_shl pe_int (pv 3)) (pa_cons (pv 4) pa_nil)))))) pa_nil)))))))), ?_⟩
    refine ⟨_, rfl, _, _, _, _, _, rfl, .ty "tuple", dp_ty hd, kit_tup d, _, rfl, ?_⟩
    cases d with
    | tuple xs =>
      cases hd with
      | @tup a ws _ hT hA =>
        obtain ⟨hl, n', rfl, hx⟩ := gd_tup hg
        have hwl := dp_all_len hA
        refine ⟨_, rfl, a, ws, rfl, .inr hT, rfl, _, rfl, ?_⟩
        by_cases c : ws.length = 5
        · obtain ⟨v0, v1, v2, v3, v4, k, n, l, m, t, rfl, rfl, h0, h1, h2, h3, h4⟩ := dp5 hA c
          rw [decide_eq_true (show V.int (([v0, v1, v2, v3, v4].length : Nat) : Int) = V.int 5 from rfl)]
          refine ⟨_, rfl, a, _, rfl, hT, rfl, _, _, rfl, _, _, rfl, _, _, rfl, _, _, rfl, _, _, rfl, rfl, ?_⟩
          have g0 := hx k List.mem_cons_self
          have g4 := hx t (List.mem_cons_of_mem _ (List.mem_cons_of_mem _ (List.mem_cons_of_mem _ (List.mem_cons_of_mem _ List.mem_cons_self))))
          clear hx hA hT hwl hl c
          rw [fun_eq] at q
          -- kind != 'function'
          refine ⟨_, rfl, k, .str "function", h0, .str _, gd_shaped g0 (by omega), by decide +kernel, _, rfl, ?_⟩
          rw [name_ne]
          cases ck : named "function" k with
          | false =>
            rw [ck] at q
            exact q H (Same.refl H)
          | true =>
            rw [ck] at q
            refine ⟨_, rfl, v1, n, 1, 8, rfl, h1, _, rfl, ?_⟩
            cases cn : whole n 1 8 with
            | false =>
              rw [cn] at q
              exact q H (Same.refl H)
            | true =>
              rw [cn] at q
              refine ⟨_, rfl, v2, l, 1, 8, rfl, h2, _, rfl, ?_⟩
              cases cl : whole l 1 8 with
              | false =>
                rw [cl] at q
                exact q H (Same.refl H)
              | true =>
                rw [cl] at q
                obtain ⟨n, rfl, n1, n2⟩ := whole_int cn
                obtain ⟨l, rfl, l1, l2⟩ := whole_int cl
                cases h1
                cases h2
                refine ⟨_, rfl, _, rfl, _, _, rfl, rfl, _, _, rfl, rfl, _, rfl, ?_⟩
                by_cases cs : n + l ≤ 12
                · rw [decide_eq_false (show ¬ (12 : Int) < n + l by omega)]
                  have e : sumLe (.int n) (.int l) = true := decide_eq_true cs
                  rw [e] at q
                  refine ⟨_, rfl, v3, m, 1, 40, rfl, h3, _, rfl, ?_⟩
                  cases cm : whole m 1 40 with
                  | false =>
                    rw [cm] at q
                    exact q H (Same.refl H)
                  | true =>
                    rw [cm] at q
                    obtain ⟨m, rfl, m1, m2⟩ := whole_int cm
                    cases h3
                    -- isinstance(tables, tuple), len(tables)
                    refine ⟨_, rfl, _, _, _, _, _, rfl, .ty "tuple", dp_ty h4, kit_tup t, _, rfl, ?_⟩
                    cases t with
                    | tuple ts =>
                      cases h4 with
                      | @tup b us _ hT hA =>
                        obtain ⟨hl, n'', rfl, hx⟩ := gd_tup g4
                        have hwl := dp_all_len hA
                        have q2 : ∀ H' : Hp, Same H H' → Q (.bl (decide ((ts.length : Int) = 1 * 2 ^ n.toNat) && ts.all (fun r => rowsOk r (1 * 2 ^ l.toNat) m))) H' := fun H' s' => q H' s'
                        clear q
                        refine ⟨_, rfl, b, us, rfl, .inr hT, _, rfl, _, _, rfl, rfl, ⟨by omega, by omega, by decide⟩, rfl, _, rfl, ?_⟩
                        by_cases c : ((us.length : Nat) : Int) = 1 * 2 ^ n.toNat
                        · rw [decide_eq_true (show V.int ((us.length : Nat) : Int) = V.int (1 * 2 ^ n.toNat) from congrArg V.int c)]
                          refine ⟨_, rfl, b, rfl, ⟨_, hT⟩, fun Dl hD => ?_⟩
                          refine lc_tup (xs := us) (fun i H' => Same H H' ∧ H' Dl = some (.lst ((ts.take i).map fun r => V.bl (rowsOk r (1 * 2 ^ l.toNat) m)))) ?_ ?_ ?_ ?_
                          · exact ⟨same_new hD, upd_same⟩
                          · rintro i H' _ ⟨s1, _⟩
                            exact same_sqt s1 hT
                          · rintro i x H' hxi ⟨s1, e1⟩
                            obtain ⟨d, hdi, hdx⟩ := dp_all_get hA hxi
                            have hi : i < ts.length := (List.getElem?_eq_some_iff.mp hdi).1
                            refine ⟨rfl, ?_⟩
                            refine ⟨_, rfl, _, rfl, _, _, rfl, rfl, ⟨by omega, by omega, by decide⟩, _, rfl, x, d, _, _, _, rfl, dp_same s1 d hdx, hx d (List.mem_of_getElem? hdi), ?_, m2, fun H2 s2 => ?_⟩
                            · exact Int.le_trans (pow_le (b := 8) l1 l2) (by decide)
                            · refine ⟨_, s2 _ _ e1, ?_, fun p o e => ?_, ?_⟩
                              · rw [List.length_map, List.length_take]
                                exact Nat.lt_of_lt_of_le (show min i ts.length < 10000 by omega) (by decide)
                              · rw [upd_ne (ne_of_none e hD)]
                                exact s2 _ _ (s1 p o e)
                              · rw [upd_same, List.take_add_one, hdi, List.map_append]
                                rfl
                          · rintro H' ⟨s1, e1⟩
                            have et : (ts.take us.length).map (fun r => V.bl (rowsOk r (1 * 2 ^ l.toNat) m)) = ((ts.map (fun r => rowsOk r (1 * 2 ^ l.toNat) m)).map V.bl) := by
                              rw [List.take_of_length_le (by omega), List.map_map]
                              rfl
                            rw [et] at e1
                            refine ⟨Dl, _, rfl, .inl (.inl e1), ?_⟩
                            have ea : (ts.map (fun r => rowsOk r (1 * 2 ^ l.toNat) m)).all id = ts.all (fun r => rowsOk r (1 * 2 ^ l.toNat) m) := by
                              rw [List.all_map]
                              rfl
                            rw [ea]
                            have q3 := q2 H' s1
                            rw [decide_eq_true (by rw [← hwl]; exact c), Bool.true_and] at q3
                            exact q3
                        · rw [decide_eq_false (show ¬ V.int ((us.length : Nat) : Int) = V.int (1 * 2 ^ n.toNat) from fun z => c (V.int.inj z))]
                          have q3 := q2 H (Same.refl H)
                          rw [decide_eq_false (by rw [← hwl]; exact c), Bool.false_and] at q3
                          exact q3
                    | bool b => exact q H (Same.refl H)
                    | none => exact q H (Same.refl H)
                    | int x => exact q H (Same.refl H)
                    | str x => exact q H (Same.refl H)
                    | list xs => exact q H (Same.refl H)
                    | dict xs => exact q H (Same.refl H)
                · rw [decide_eq_true (show (12 : Int) < n + l by omega)]
                  have e : sumLe (.int n) (.int l) = false := decide_eq_false cs
                  rw [e] at q
                  exact q H (Same.refl H)
        · have hne : ((ws.length : Nat) : Int) ≠ 5 := by omega
          rw [decide_eq_false (show ¬ V.int (ws.length : Int) = V.int 5 from fun z => hne (V.int.inj z))]
          have e := fun_no (xs := xs) (by omega)
          have q' := q H (Same.refl H)
          rw [e] at q'
          exact q'
    | bool b => exact q H (Same.refl H)
    | none => exact q H (Same.refl H)
    | int x => exact q H (Same.refl H)
    | str x => exact q H (Same.refl H)
    | list xs => exact q H (Same.refl H)
    | dict xs => exact q H (Same.refl H)
theorem ok_check {f : Addr} {fd : FuncData} (D : Df K mg "check_block" s_check_block ["block"] f fd) (T : Txt K mg cs) (c_is_generator : Cl P w K mg base CX0 2 "is_generator" (spGen K)) (c_is_function : Cl P w K mg base CX0 2 "is_function" (spFun K)) : FnOk P w K mg base (L2.CX P w) 3 f fd ["block"] (spCheck K cs.BadBlock) := by
  refine D.fn.okX sc_check_block (fun vs H Q E h => ?_) (fun cdv A outer s H vs Q E hr h => ?_)
  · obtain ⟨v, d, n, rfl, _⟩ := h
    rfl
  · obtain ⟨v, d, n, rfl, hd, hg, hn, q⟩ := h
    have tk := takes_of (X := cxOf (L2.CX P w) P w K mg base ["block"] "check_block" (defScope s_check_block) f cdv A outer s H E) (E := E) rfl rfl rfl rfl
    refine ⟨_, (pss_one (ps_if (PW.pt (pw_and (pt_not (pt_val (pe_cl c_is_generator hr (by first | decide | omega) (by rfl) (pa_cons (pv 0) pa_nil)))) (pw_and1 (pt_not (pt_val (pe_cl c_is_function hr (by first | decide | omega) (by rfl) (pa_cons (pv 0) pa_nil))))))) (pss_one (ps_raiseE T.x_BadBlock rfl tk (by rfl))) pss_nil)), ?_⟩
    refine ⟨_, rfl, v, d, n, rfl, hd, hg, hn, fun H1 s1 => ⟨_, rfl, ?_⟩⟩
    unfold blockOk at q
    cases cg : genOk d with
    | true =>
      rw [cg] at q
      exact (q H1 s1).1 rfl
    | false =>
      rw [cg] at q
      refine ⟨_, rfl, v, d, n, rfl, dp_same s1 d hd, hg, hn, fun H2 s2 => ⟨_, rfl, ?_⟩⟩
      cases cf : funOk d with
      | true =>
        rw [cf] at q
        exact (q H2 (s1.trans s2)).1 rfl
      | false =>
        rw [cf] at q
        exact (q H2 (s1.trans s2)).2 rfl

theorem map_int_set (rs : List Int) (j : Nat) (x : Int) : (rs.map V.int).set j (.int x) = (rs.set j x).map V.int := by
  rw [List.map_set]
theorem at_int {rs : List Int} {j : Nat} {z : Int} (h : rs[j]? = some z) : atI (rs.map V.int) ((j : Nat) : Int) = some (.int z) := atI_nat (by
  rw [List.getElem?_map, h]
  rfl)
theorem ok_draws {f : Addr} {fd : FuncData} (D : Df K mg "_law_draws" s_law_draws ["script", "many"] f fd) (T : Txt K mg cs) : FnOk P w K mg base CX0 1 f fd ["script", "many"] (spDraws K) := by
  refine D.fn.ok sc_law_draws (fun vs H Q E h => ?_) (fun cdv A outer s H vs Q E hr h => ?_)
  · obtain ⟨a, ns, many, rfl, _⟩ := h
    rfl
  · obtain ⟨a, ns, many, rfl, hS, hl, hm, q⟩ := h
    refine ⟨_, (pss_cons (ps_setLc (i := 2) (own := [("cell", 5)]) (g := gName 5) (tt := tYes) rfl sc_law_draws.nd rfl rfl (sw_true rfl rfl rfl (by decide +kernel)) (pi_list (pv 0)) (blkOk_by (own := [("cell", 5)]) (N := ["script", "many", "rests", "draws", "k", "cell", "at", "mixed"]) (sc := defScope s_law_draws) (by decide +kernel)) (fun _ _ _ _ _ => (pg_name (i := 5) sc_law_draws.nd rfl (.inl rfl))) (fun _ _ _ _ _ => pts_nil) (fun _ _ _ _ _ => (pe_callB call_abs (by rfl) T.n_abs (by decide +kernel) (pa_cons (pe_callTy call_int1 (by rfl) T.n_int (by decide +kernel) (pa_cons (pv 5) pa_nil)) pa_nil)))) (pss_cons (ps_set (i := 3) sc_law_draws.nd rfl (.inl rfl) (pe_lst pa_nil)) (pss_cons (ps_for PassesOwn.never rfl (pi_range1 (by rfl) T.n_range (pa_cons (pv 1) pa_nil)) (pg_name (i := 4) sc_law_draws.nd rfl (.inl rfl)) (pss_cons (ps_set (i := 5) sc_law_draws.nd rfl (.inl rfl) (pv 4)) (C8.pss_cut (ps_if (pt_cmpR op_gt (pe_callB (lenS K) (by rfl) T.n_len (by decide +kernel) (pa_cons (pv 0) pa_nil)) pe_int (nomark _)) (pss_cons (ps_set (i := 6) sc_law_draws.nd rfl (.inl rfl) (pe_op op_mod (pv 4) (pe_callB (lenS K) (by rfl) T.n_len (by decide +kernel) (pa_cons (pv 0) pa_nil)))) (pss_cons (ps_set (i := 5) sc_law_draws.nd rfl (.inl rfl) (pe_callTy call_int1 (by rfl) T.n_int (by decide +kernel) (pa_cons (pe_ix (ixL K) (pv 0) (pv 6) (fun _ _ => rfl)) pa_nil))) (pss_one (ps_if (PW.pt (pw_and (pt_cmpR op_ge (pv 5) (pe_op op_pow pe_int pe_int) (nomark _)) (pw_and1 (pt_cmpR op_gt (pe_ix (ixL K) (pv 2) (pv 6) (fun _ _ => rfl)) pe_int (nomark _))))) (pss_cons (ps_expr (pe_bm PySem.F.plainAttrs_list PySem.F.slot_list_append PySem.F.type_list_append mt_append (pv 3) (pa_cons (pe_op op_mod (pe_callTy call_int1 (by rfl) T.n_int (by decide +kernel) (pa_cons (pe_ix (ixL K) (pv 2) (pv 6) (fun _ _ => rfl)) pa_nil)) pe_int) pa_nil))) (pss_cons (ps_asg (pe_op op_fdiv (pe_callTy call_int1 (by rfl) T.n_int (by decide +kernel) (pa_cons (pe_ix (ixL K) (pv 2) (pv 6) (fun _ _ => rfl)) pa_nil)) pe_int) (pg_sub (pv 2) (pv 6) set_list)) (pss_one ps_continue))) pss_nil)))) pss_nil) (pss_cons (ps_set (i := 7) sc_law_draws.nd rfl (.inl rfl) (pe_op op_mod (pe_callTy call_int1 (by rfl) T.n_int (by decide +kernel) (pa_cons (pe_op op_add (pe_op op_add (pe_op op_mul (pv 5) pe_int) (pe_op op_mul (pv 4) pe_int)) pe_int) pa_nil)) pe_int)) (pss_cons (ps_set (i := 7) sc_law_draws.nd rfl (.inl rfl) (pe_op op_mod (pe_callTy call_int1 (by rfl) T.n_int (by decide +kernel) (pa_cons (pe_op op_add (pe_op op_fdiv (pe_op op_mul (pv 7) (pv 7)) pe_int) (pv 7)) pa_nil)) pe_int)) (pss_one (ps_expr (pe_bm PySem.F.plainAttrs_list PySem.F.slot_list_append PySem.F.type_list_append mt_append (pv 3) (pa_cons (pe_op op_mod (pe_callTy call_int1 (by rfl) T.n_int (by decide +kernel) (pa_cons (pe_op op_add (pe_op op_fdiv (pe_op op_mul (pv 7) (pv 7)) pe_int) (pe_op op_mul (pv 4) pe_int)) pa_nil)) pe_int) pa_nil))))))))) (pss_one (ps_ret (pv 3)))))), ?_⟩
    -- rests
    refine ⟨_, rfl, a, rfl, ⟨_, hS⟩, fun R hR => ?_⟩
    refine lc_list (xs := ns.map V.int) (fun i H' => ∃ rs : List Int, rs.length = i ∧ (∀ x ∈ rs, 0 ≤ x) ∧ Same H H' ∧ H' R = some (.lst (rs.map V.int))) ?_ ?_ ?_ ?_
    · exact ⟨[], rfl, fun x hx => (nomatch hx), same_new hR, upd_same⟩
    · rintro i H' _ ⟨rs, _, _, hs, _⟩
      exact hs.seq hS
    · rintro i x H' hx ⟨rs, hn, h0, hs, hr'⟩
      obtain ⟨z, hz⟩ : ∃ z, x = V.int z := by
        rw [List.getElem?_map] at hx
        cases e : ns[i]? with
        | none =>
          rw [e] at hx
          cases hx
        | some z =>
          rw [e] at hx
          exact ⟨z, (Option.some.inj hx).symm⟩
      subst hz
      have hi : i < ns.length := by
        have := (List.getElem?_eq_some_iff.mp hx).1
        rw [List.length_map] at this
        exact this
      refine ⟨rfl, ?_⟩
      refine ⟨_, rfl, .inl ⟨_, rfl, _, rfl, _, hr', ?_, ?_⟩⟩
      · rw [List.length_map]
        exact small1000 (by omega)
      · refine ⟨rs ++ [if z < 0 then -z else z], by rw [List.length_append, hn]; rfl, ?_, ?_, ?_⟩
        · intro y hy
          rcases List.mem_append.mp hy with hy | hy
          · exact h0 y hy
          · rw [List.mem_singleton.mp hy]
            split <;> omega
        · intro b o e
          rw [upd_ne (ne_of_none e hR)]
          exact hs b o e
        · rw [upd_same, List.map_append]
          rfl
    · rintro H1 ⟨rs, hn, h0, s1, e1⟩
      rw [List.length_map] at hn
      -- draws = []
      refine ⟨Nat.zero_le _, fun L hL => ?_⟩
      have nRL : R ≠ L := ne_of_none e1 hL
      have hL0 : H L = none := s1.free hL
      -- the loop
      refine ⟨_, rfl, _, rfl, by omega, by omega, for_range (lo := 0) (n := many) (fun i σ H' => ∃ (rs ds : List Int) (y4 y5 y6 y7 : Option V), σ = [some (.ref a), some (.int (many : Int)), some (.ref R), some (.ref L), y4, y5, y6, y7] ∧
        rs.length = ns.length ∧ (∀ x ∈ rs, 0 ≤ x) ∧ ds.length = i ∧ (∀ x ∈ ds, 0 ≤ x) ∧ Same H H' ∧ H' R = some (.lst (rs.map V.int)) ∧ H' L = some (.lst (ds.map V.int))) ?_ ?_ ?_⟩
      · refine ⟨rs, [], none, none, none, none, rfl, hn, h0, rfl, fun x hx => (nomatch hx), s1.trans (same_new hL), ?_, upd_same⟩
        rw [upd_ne nRL]
        exact e1
      · clear e1 hn h0 rs s1 hL
        rintro i σ H' hi ⟨rs, ds, y4, y5, y6, y7, rfl, hn, h0, hd, hd0, s1, e1, e2⟩
        have hSL : SqL K H' a (ns.map V.int) := s1.seq hS
        -- what the rest of the turn asks: a number is put behind the draws
        have put : ∀ (x : Int) (σ' : L2.St) (H2 : Hp) (rs' : List Int), 0 ≤ x → rs'.length = ns.length → (∀ x ∈ rs', 0 ≤ x) → Same H H2 → H2 R = some (.lst (rs'.map V.int)) → H2 L = some (.lst ((ds ++ [x]).map V.int)) →
            (∃ y4 y5 y6 y7 : Option V, σ' = [some (.ref a), some (.int (many : Int)), some (.ref R), some (.ref L), y4, y5, y6, y7]) →
            (fun (i : Nat) (σ : L2.St) (H' : Hp) => ∃ (rs ds : List Int) (y4 y5 y6 y7 : Option V), σ = [some (.ref a), some (.int (many : Int)), some (.ref R), some (.ref L), y4, y5, y6, y7] ∧
              rs.length = ns.length ∧ (∀ x ∈ rs, 0 ≤ x) ∧ ds.length = i ∧ (∀ x ∈ ds, 0 ≤ x) ∧ Same H H' ∧ H' R = some (.lst (rs.map V.int)) ∧ H' L = some (.lst (ds.map V.int))) (i + 1) σ' H2 := by
          rintro x σ' H2 rs' hx g1 g2 g3 g4 g5 ⟨z4, z5, z6, z7, rfl⟩
          refine ⟨rs', ds ++ [x], z4, z5, z6, z7, rfl, g1, g2, by rw [List.length_append, hd]; rfl, ?_, g3, g4, g5⟩
          intro y hy
          rcases List.mem_append.mp hy with hy | hy
          · exact hd0 y hy
          · rw [List.mem_singleton.mp hy]
            exact hx
        have app : ∀ (x : Int), upd H' L (.lst (ds.map V.int ++ [.int x])) R = some (.lst (rs.map V.int)) ∧ Same H (upd H' L (.lst (ds.map V.int ++ [.int x]))) ∧ upd H' L (.lst (ds.map V.int ++ [.int x])) L = some (.lst ((ds ++ [x]).map V.int)) := by
          intro x
          refine ⟨by rw [upd_ne nRL]; exact e1, fun b u e => ?_, ?_⟩
          · rw [upd_ne (ne_of_none e hL0)]
            exact s1 b u e
          · rw [upd_same, List.map_append]
            rfl
        have hsz : (ds.map V.int).length < sizeLine := by
          rw [List.length_map]
          exact Nat.lt_of_lt_of_le (show ds.length < 10000 by omega) (by decide)
        -- cell = k
        refine ⟨_, rfl, ?_⟩
        refine ⟨fun σ2 H2 => H2 = H' ∧ ∃ (c : Int) (y6 : Option V), σ2 = [some (.ref a), some (.int (many : Int)), some (.ref R), some (.ref L), some (.int (0 + (i : Int))), some (.int c), y6, y7], ?_, ?_⟩
        · -- if len(script) > 0
          refine ⟨_, rfl, a, _, rfl, .inl hSL, _, _, rfl, rfl, _, rfl, ite2 (fun c => ?_) (fun c => ?_)⟩
          · have hp : 0 < ns.length := by
              have c' : (0 : Int) < (((ns.map V.int).length : Nat) : Int) := of_decide_eq_true c
              rw [List.length_map] at c'
              omega
            -- at = k % len(script)
            refine ⟨_, rfl, _, rfl, a, _, rfl, .inl hSL, _, _, rfl, rfl, ?_, ?_⟩
            · rw [List.length_map]
              omega
            · obtain ⟨j, hj, hjl⟩ : ∃ j : Nat, (0 + (i : Int)) % (((ns.map V.int).length : Nat) : Int) = (j : Int) ∧ j < ns.length := by
                rw [List.length_map]
                have h1 := Int.emod_nonneg (0 + (i : Int)) (b := (ns.length : Int)) (by omega)
                have h2 := Int.emod_lt_of_pos (0 + (i : Int)) (b := (ns.length : Int)) (by omega)
                exact ⟨((0 + (i : Int)) % (ns.length : Int)).toNat, by omega, by omega⟩
              show gName 6 (V.int ((0 + (i : Int)) % (((ns.map V.int).length : Nat) : Int))) _ _ _
              rw [hj]
              have hx : (ns.map V.int)[j]? = some (.int ns[j]) := by
                rw [List.getElem?_map, List.getElem?_eq_getElem hjl]
                rfl
              have hjr : j < rs.length := by omega
              have hy : (rs.map V.int)[j]? = some (.int rs[j]) := by
                rw [List.getElem?_map, List.getElem?_eq_getElem hjr]
                rfl
              -- cell = int(script[at])
              refine ⟨_, rfl, _, rfl, a, _, (j : Int), _, rfl, rfl, hSL, atI_nat hx, .inl ⟨_, rfl, ?_⟩⟩
              -- if cell >= 10 ** 18 and rests[at] > 0
              refine ⟨_, rfl, _, _, rfl, rfl, ⟨by decide, by decide, by decide⟩, _, _, rfl, rfl, _, rfl, ite2 (fun c => ?_) (fun c => ?_)⟩
              · refine ⟨_, rfl, _, rfl, R, _, (j : Int), _, rfl, rfl, .inl (.inl e1), atI_nat hy, _, _, rfl, rfl, _, rfl, ite2 (fun c => ?_) (fun c => ?_)⟩
                · have hr0 : 0 ≤ rs[j] := h0 _ (List.getElem_mem hjr)
                  -- draws.append(int(rests[at]) % 1000003)
                  refine ⟨_, rfl, .inl ⟨rfl, _, .inl (.inl e2)⟩, _, rfl, _, rfl, R, _, (j : Int), _, rfl, rfl, .inl (.inl e1), atI_nat hy, .inl ⟨_, rfl, _, _, rfl, rfl, (by show (0 : Int) < 1000003; decide), L, _, _, rfl, rfl, e2, hsz, ?_⟩⟩
                  obtain ⟨p1, p2, p3⟩ := app (rs[j] % 1000003)
                  -- rests[at] = int(rests[at]) // 1000003
                  refine ⟨_, rfl, _, rfl, R, _, (j : Int), _, rfl, rfl, .inl (.inl p1), atI_nat hy, .inl ⟨_, rfl, _, _, rfl, rfl, ⟨by decide, by decide⟩, _, rfl, _, rfl, R, _, (j : Int), j, rfl, rfl, p1, ?_, ?_⟩⟩
                  · unfold ixN
                    rw [if_pos (by omega), if_pos (by rw [List.length_map]; omega)]
                    rfl
                  · refine put (rs[j] % 1000003) _ _ (rs.set j (rs[j] / 1000003)) (by omega) (by rw [List.length_set]; exact hn) ?_ ?_ ?_ ?_ ⟨_, _, _, _, rfl⟩
                    · intro y hy'
                      rcases List.mem_or_eq_of_mem_set hy' with z | z
                      · exact h0 y z
                      · rw [z]
                        omega
                    · intro b u e
                      rw [upd_ne (ne_of_none e hR)]
                      exact p2 b u e
                    · rw [upd_same, List.map_set]
                    · rw [upd_ne nRL.symm]
                      exact p3
                · exact ⟨rfl, _, _, rfl⟩
              · exact ⟨rfl, _, _, rfl⟩
          · exact ⟨rfl, _, _, rfl⟩
        · rintro σ2 H2 ⟨rfl, c, z6, rfl⟩
          -- mixed, twice
          refine ⟨_, rfl, _, _, rfl, rfl, .inr ⟨by decide, by decide⟩, _, rfl, _, _, rfl, rfl, .inr ⟨by decide, by decide⟩, _, _, rfl, rfl, _, _, rfl, rfl, .inl ⟨_, rfl, _, _, rfl, rfl, (by show (0 : Int) < 2147483647; decide), ?_⟩⟩
          refine ⟨_, rfl, _, rfl, _, _, rfl, rfl, .inl ⟨?_, ?_⟩, _, _, rfl, rfl, ⟨by decide, by decide⟩, _, rfl, _, _, rfl, rfl, .inl ⟨_, rfl, _, _, rfl, rfl, (by show (0 : Int) < 2147483629; decide), ?_⟩⟩
          · omega
          · omega
          -- draws.append
          refine ⟨_, rfl, .inl ⟨rfl, _, .inl (.inl e2)⟩, _, rfl, _, rfl, _, _, rfl, rfl, .inl ⟨?_, ?_⟩, _, _, rfl, rfl, ⟨by decide, by decide⟩, _, rfl, _, _, rfl, rfl, .inr ⟨by decide, by decide⟩, _, _, rfl, rfl, .inl ⟨_, rfl, _, _, rfl, rfl, (by show (0 : Int) < 2147483629; decide), L, _, _, rfl, rfl, e2, hsz, ?_⟩⟩
          · omega
          · omega
          refine put _ _ _ rs ?_ hn h0 (app _).2.1 (app _).1 (app _).2.2 ⟨_, _, _, _, rfl⟩
          exact Int.emod_nonneg _ (by decide)
      · rintro σ H2 ⟨rs, ds, y4, y5, y6, y7, rfl, hn, h0, hd, hd0, s2, e1, e2⟩
        exact ⟨_, rfl, q L ds H2 hL0 s2 e2 hd0⟩

theorem ok_take {f : Addr} {fd : FuncData} (D : Df K mg "_law_take" s_law_take ["hand", "many"] f fd) (T : Txt K mg cs) : FnOk P w K mg base CX0 1 f fd ["hand", "many"] spTake := by
  refine D.fn.ok sc_law_take (fun vs H Q E h => ?_) (fun cdv A outer s H vs Q E hr h => ?_)
  · obtain ⟨a, d, many, rfl, _⟩ := h
    rfl
  · obtain ⟨a, d, many, rfl, hm, ⟨ds, i, h1, h2, h3, h4⟩, q⟩ := h
    refine ⟨_, (pss_cons (ps_set (i := 2) sc_law_take.nd rfl (.inl rfl) (pe_ix (ixL K) (pv 0) pe_int (fun _ _ => rfl))) (pss_cons (ps_asg (pe_op op_add (pv 2) pe_int) (pg_sub (pv 0) pe_int set_list)) (pss_cons (ps_set (i := 3) sc_law_take.nd rfl (.inl rfl) (pe_ix (ixL K) (pv 0) pe_int (fun _ _ => rfl))) (pss_cons (ps_if (pt_cmpR op_ge (pv 2) (pe_callB (lenS K) (by rfl) T.n_len (by decide +kernel) (pa_cons (pv 3) pa_nil)) (nomark _)) (pss_one (ps_ret pe_int)) pss_nil) (pss_one (ps_ret (pe_op op_mod (pe_op op_fdiv (pe_callTy call_int1 (by rfl) T.n_int (by decide +kernel) (pa_cons (pe_ix (ixL K) (pv 3) (pv 2) (fun _ _ => rfl)) pa_nil)) pe_int) (pv 1)))))))), ?_⟩
    have s1 : Same H H := Same.refl H
    -- at = hand[1]
    refine ⟨_, rfl, a, _, 1, .int (i : Int), rfl, rfl, .inl (.inl h1), rfl, ?_⟩
    -- hand[1] = at + 1
    refine ⟨_, rfl, _, _, rfl, rfl, _, rfl, a, _, 1, 1, rfl, rfl, h1, rfl, ?_⟩
    -- draws = hand[0]
    refine ⟨_, rfl, a, _, 0, .ref d, rfl, rfl, .inl (.inl upd_same), rfl, ?_⟩
    have hd : (upd H a (.lst [.ref d, .int ((i : Int) + 1)])) d = some (.lst (ds.map V.int)) := by
      rw [upd_ne h4]
      exact h2
    have hn : Hnd (upd H a (.lst [.ref d, .int ((i : Int) + 1)])) a d := ⟨ds, i + 1, upd_same, hd, h3, h4⟩
    have hk : Keep a H (upd H a (.lst [.ref d, .int ((i : Int) + 1)])) := fun b o e n => by
      rw [upd_ne n]
      exact e
    -- at >= len(draws)
    refine ⟨_, rfl, _, rfl, d, _, rfl, .inl (.inl (.inl hd)), _, _, rfl, rfl, _, rfl, ite2 (fun c => ?_) (fun c => ?_)⟩
    · exact q 0 _ (Int.le_refl 0) hm hn hk
    · have hi : i < ds.length := by
        have c' : ¬ (((ds.map V.int).length : Int) ≤ (i : Int)) := fun z => c (decide_eq_true z)
        rw [List.length_map] at c'
        omega
      have hx : (ds.map V.int)[i]? = some (.int ds[i]) := by
        rw [List.getElem?_map, List.getElem?_eq_getElem hi]
        rfl
      have h0 := h3 ds[i] (List.getElem_mem hi)
      refine ⟨_, rfl, _, rfl, d, _, (i : Int), .int ds[i], rfl, rfl, .inl (.inl hd), atI_nat hx, .inl ⟨_, rfl, ?_⟩⟩
      refine ⟨_, _, rfl, rfl, ⟨by decide, by decide⟩, _, rfl, _, _, rfl, rfl, hm, ?_⟩
      exact q _ _ (Int.emod_nonneg _ (by omega)) (Int.emod_lt_of_pos _ hm) hn hk

theorem join_bits (bs : List Bool) : Txt.join "" (bs.map fun b => sb [b]) = sb bs := by
  have e : bs.map (fun b => sb [b]) = (bs.map fun b => [cB b]).map SX.S := by
    rw [List.map_map]
    rfl
  have j : ∀ ps : List (List Nat), TL.joinL [] ps = ps.flatten := by
    intro ps
    induction ps with
    | nil => rfl
    | cons x r ih =>
      cases r with
      | nil => exact (List.append_nil x).symm
      | cons y r =>
        show x ++ ([] ++ TL.joinL [] (y :: r)) = x ++ (y :: r).flatten
        rw [ih, List.nil_append]
  rw [e]
  refine (SX.join_S [] _).trans ?_
  rw [j]
  unfold sb
  congr 1
  clear e j
  induction bs with
  | nil => rfl
  | cons b bs ih =>
    rw [List.map_cons, List.flatten_cons, ih]
    rfl
theorem ok_string {f : Addr} {fd : FuncData} (D : Df K mg "_law_string" s_law_string ["hand", "length"] f fd) (T : Txt K mg cs) (c_law_take : Cl P w K mg base CX0 1 "_law_take" spTake) : FnOk P w K mg base CX0 2 f fd ["hand", "length"] spString := by
  refine D.fn.ok sc_law_string (fun vs H Q E h => ?_) (fun cdv A outer s H vs Q E hr h => ?_)
  · obtain ⟨a, d, n, rfl, _⟩ := h
    rfl
  · obtain ⟨a, d, n, rfl, hn, hh, q⟩ := h
    refine ⟨_, (pss_one (ps_ret (pe_m1 PySem.F.slot_str_join PySem.F.type_str_join (mtJoin K) pe_str (pe_lc (own := [("k", 2)]) (g := gName 2) (tt := tYes) rfl sc_law_string.nd (pi_range1 (by rfl) T.n_range (pa_cons (pv 1) pa_nil)) (blkOk_by (own := [("k", 2)]) (N := ["hand", "length", "k"]) (sc := defScope s_law_string) (by decide +kernel)) (fun _ _ _ _ _ => (pg_name (i := 2) sc_law_string.nd rfl (.inl rfl))) (fun _ _ _ _ _ => pts_nil) (fun _ _ _ _ _ => (pe_ix (ixL K) (pe_lst (pa_cons pe_str (pa_cons pe_str pa_nil))) (pe_cl c_law_take hr (by first | decide | omega) (by rfl) (pa_cons (pv 0) (pa_cons pe_int pa_nil))) (fun _ _ => rfl))))))), ?_⟩
    refine ⟨⟨_, rfl⟩, _, rfl, _, rfl, by omega, by omega, fun Dl hD => ?_⟩
    obtain ⟨nDa, nDd⟩ := hh.ne hD
    refine lc_range (lo := 0) (n := n) (fun i H' => ∃ bs : List Bool, bs.length = i ∧ Hnd H' a d ∧ Keep a H H' ∧ H' Dl = some (.lst (bs.map fun b => V.str (sb [b])))) ?_ ?_ ?_
    · exact ⟨[], rfl, hh.new hD, Keep.new hD, upd_same⟩
    · rintro i H' hi ⟨bs, hl, h1, h2, h3⟩
      refine ⟨rfl, ?_⟩
      -- the list ['0', '1'], then the draw
      refine ⟨by decide, fun p np => ?_⟩
      obtain ⟨npa, npd⟩ := h1.ne np
      refine ⟨_, rfl, a, d, 2, rfl, by decide, h1.new np, fun r H2 hr0 hr2 hh2 hk2 => ?_⟩
      have e2 : H2 Dl = some (.lst (bs.map fun b => V.str (sb [b]))) := hk2 _ _ (by rw [upd_ne (ne_of_none h3 np)]; exact h3) nDa
      have hb : ∃ b : Bool, atI [V.str "0", V.str "1"] r = some (V.str (sb [b])) := by
        have er : r = 0 ∨ r = 1 := by omega
        rcases er with e | e <;> subst e
        · exact ⟨false, rfl⟩
        · exact ⟨true, rfl⟩
      obtain ⟨b, hb⟩ := hb
      refine ⟨p, _, r, _, rfl, rfl, .inl (.inl (hk2 _ _ upd_same npa)), hb, _, e2, ?_, ?_⟩
      · rw [List.length_map]
        exact Nat.lt_of_lt_of_le (show bs.length < 10000 by omega) (by decide)
      · refine ⟨bs ++ [b], by rw [List.length_append, hl]; rfl, hh2.set nDa nDd, ((h2.trans (Keep.new np)).trans hk2).set hD, ?_⟩
        rw [upd_same, List.map_append]
        rfl
    · rintro H' ⟨bs, hl, h1, h2, h3⟩
      refine ⟨_, Dl, bs.map (fun b => sb [b]), rfl, rfl, .inl (.inl (.inl (by rw [List.map_map]; exact h3))), ?_, ?_⟩
      · have e : ((bs.map fun b => sb [b]).map (·.length)).sum = bs.length := by
          rw [List.map_map]
          clear h3 hl
          induction bs with
          | nil => rfl
          | cons b bs ih =>
            rw [List.map_cons, List.sum_cons, ih, List.length_cons]
            show 1 + _ = _
            omega
        rw [e]
        show _ + _ * 0 ≤ _
        omega
      · rw [join_bits]
        exact q bs H' hl h1 h2

theorem ok_table {f : Addr} {fd : FuncData} (D : Df K mg "_law_table" s_law_table ["hand", "n", "m"] f fd) (T : Txt K mg cs) (c_law_string : Cl P w K mg base CX0 2 "_law_string" spString) : FnOk P w K mg base CX0 3 f fd ["hand", "n", "m"] (spTable K) := by
  refine D.fn.ok sc_law_table (fun vs H Q E h => ?_) (fun cdv A outer s H vs Q E hr h => ?_)
  · obtain ⟨a, d, n, m, rfl, _⟩ := h
    rfl
  · obtain ⟨a, d, n, m, rfl, hn, hm, hh, q⟩ := h
    refine ⟨_, (pss_cons (ps_setLc (i := 3) (own := [("k", 4)]) (g := gName 4) (tt := tYes) rfl sc_law_table.nd rfl rfl (sw_true rfl rfl rfl (by decide +kernel)) (pi_range1 (by rfl) T.n_range (pa_cons (pe_op op_shl pe_int (pv 1)) pa_nil)) (blkOk_by (own := [("k", 4)]) (N := ["hand", "n", "m", "rows", "k"]) (sc := defScope s_law_table) (by decide +kernel)) (fun _ _ _ _ _ => (pg_name (i := 4) sc_law_table.nd rfl (.inl rfl))) (fun _ _ _ _ _ => pts_nil) (fun _ _ _ _ _ => (pe_cl c_law_string hr (by first | decide | omega) (by rfl) (pa_cons (pv 0) (pa_cons (pv 2) pa_nil))))) (pss_one (ps_ret (pe_tup (pa_cons pe_str (pa_cons (pv 1) (pa_cons (pv 2) (pa_cons (pe_callTy (tupOf K) (by rfl) T.n_tuple (by decide +kernel) (pa_cons (pv 3) pa_nil)) pa_nil)))))))), ?_⟩
    have hp : 2 ^ n ≤ 256 := two_pow_le (b := 8) hn
    refine ⟨_, rfl, _, _, rfl, rfl, ⟨by omega, by omega, by decide⟩, _, rfl, ?_⟩
    rw [shl_one]
    generalize hN : 2 ^ n = N at hp ⊢
    refine ⟨by omega, by omega, fun Dl hD => ?_⟩
    obtain ⟨nDa, nDd⟩ := hh.ne hD
    refine lc_range (lo := 0) (n := _) (fun i H' => ∃ rows : List (List Bool), rows.length = i ∧ (∀ r ∈ rows, r.length = m) ∧ Hnd H' a d ∧ Keep a H H' ∧ H' Dl = some (.lst (rows.map fun r => V.str (sb r)))) ?_ ?_ ?_
    · exact ⟨[], rfl, fun r hr => (nomatch hr), hh.new hD, Keep.new hD, upd_same⟩
    · rintro i H' hi ⟨rows, hl, hr, h1, h2, h3⟩
      refine ⟨rfl, ?_⟩
      refine ⟨_, rfl, _, rfl, a, d, m, rfl, by omega, h1, fun bs H2 hb hh2 hk2 => ⟨_, hk2 _ _ h3 nDa, ?_, ?_⟩⟩
      · rw [List.length_map]
        exact Nat.lt_of_lt_of_le (show rows.length < 10000 by omega) (by decide)
      · refine ⟨rows ++ [bs], by rw [List.length_append, hl]; rfl, ?_, hh2.set nDa nDd, (h2.trans hk2).set hD, ?_⟩
        · intro r hr'
          rcases List.mem_append.mp hr' with z | z
          · exact hr r z
          · rw [List.mem_singleton.mp z]
            exact hb
        · rw [upd_same, List.map_append]
          rfl
    · rintro H' ⟨rows, hl, hr, h1, h2, h3⟩
      have hl2 : rows.length = 2 ^ n := by
        rw [hl, hN]
        omega
      refine ⟨_, rfl, _, rfl, _, rfl, Dl, _, rfl, .inl ⟨.inl (.inl h3), fun l hl' => ⟨(by show 4 ≤ sizeLine; decide), fun p np => ?_⟩⟩⟩
      have hl1 := h1.ne hl'
      have h1' := h1.new (o := .tup (rows.map fun r => V.str (sb r))) hl'
      have hp1 := h1'.ne np
      refine q _ rows _ hl2 hr ?_ (h1'.new np) ((h2.trans (Keep.new hl')).trans (Keep.new np))
      have e1 : off a (upd (upd H' l (.tup (rows.map fun r => V.str (sb r)))) p (.tup [.str "generator", .int (n : Int), .int (m : Int), .ref l])) p = some (.tup [.str "generator", .int (n : Int), .int (m : Int), .ref l]) := by
        rw [off_ne hp1.1, upd_same]
      have e2 : off a (upd (upd H' l (.tup (rows.map fun r => V.str (sb r)))) p (.tup [.str "generator", .int (n : Int), .int (m : Int), .ref l])) l = some (.tup (rows.map fun r => V.str (sb r))) := by
        rw [off_ne hl1.1, upd_ne (ne_of_none upd_same np), upd_same]
      exact .tup (.inl (.inl e1)) (.cons (.str _) (.cons (.int _) (.cons (.int _) (.cons (.tup (.inl (.inl e2)) (dp_bits rows)) .nil))))
theorem off_upd {R : Addr} {H : Hp} {o : HO} (a : Addr) : off R (off a (upd H R o)) = off R (off a H) := by
  funext b
  unfold off
  by_cases h : b = R
  · rw [if_pos h, if_pos h]
  · rw [if_neg h, if_neg h]
    by_cases h' : b = a
    · rw [if_pos h', if_pos h']
    · rw [if_neg h', if_neg h', upd_ne h]
theorem off_mono {R : Addr} {H H' : Hp} (s : Same H H') : Same (off R H) (off R H') := fun b o e => by
  unfold off at e ⊢
  by_cases h : b = R
  · rw [if_pos h] at e
    cases e
  · rw [if_neg h] at e ⊢
    exact s b o e
theorem ok_function {f : Addr} {fd : FuncData} (D : Df K mg "_law_function" s_law_function ["hand", "n", "l", "m"] f fd) (T : Txt K mg cs) (c_law_string : Cl P w K mg base CX0 2 "_law_string" spString) : FnOk P w K mg base CX0 3 f fd ["hand", "n", "l", "m"] (spFunction K) := by
  refine D.fn.ok sc_law_function (fun vs H Q E h => ?_) (fun cdv A outer s H vs Q E hr h => ?_)
  · obtain ⟨a, d, n, l, m, rfl, _⟩ := h
    rfl
  · obtain ⟨a, d, n, l, m, rfl, hn, hl, hm, hh, q⟩ := h
    refine ⟨_, (pss_cons (ps_set (i := 4) sc_law_function.nd rfl (.inl rfl) (pe_lst pa_nil)) (pss_cons (ps_for PassesOwn.never rfl (pi_range1 (by rfl) T.n_range (pa_cons (pe_op op_shl pe_int (pv 1)) pa_nil)) (pg_name (i := 5) sc_law_function.nd rfl (.inl rfl)) (pss_one (ps_expr (pe_bm PySem.F.plainAttrs_list PySem.F.slot_list_append PySem.F.type_list_append mt_append (pv 4) (pa_cons (pe_callTy (tupOf K) (by rfl) T.n_tuple (by decide +kernel) (pa_cons (pe_lc (own := [("k", 6)]) (g := gName 6) (tt := tYes) rfl sc_law_function.nd (pi_range1 (by rfl) T.n_range (pa_cons (pe_op op_shl pe_int (pv 2)) pa_nil)) (blkOk_by (own := [("k", 6)]) (N := ["hand", "n", "l", "m", "rows", "key", "k"]) (sc := defScope s_law_function) (by decide +kernel)) (fun _ _ _ _ _ => (pg_name (i := 6) sc_law_function.nd rfl (.inl rfl))) (fun _ _ _ _ _ => pts_nil) (fun _ _ _ _ _ => (pe_cl c_law_string hr (by first | decide | omega) (by rfl) (pa_cons (pv 0) (pa_cons (pv 3) pa_nil))))) pa_nil)) pa_nil))))) (pss_one (ps_ret (pe_tup (pa_cons pe_str (pa_cons (pv 1) (pa_cons (pv 2) (pa_cons (pv 3) (pa_cons (pe_callTy (tupOf K) (by rfl) T.n_tuple (by decide +kernel) (pa_cons (pv 4) pa_nil)) pa_nil)))))))))), ?_⟩
    have hp : 2 ^ n ≤ 256 := two_pow_le (b := 8) hn
    have hpl : 2 ^ l ≤ 256 := two_pow_le (b := 8) hl
    refine ⟨Nat.zero_le _, fun R hR => ?_⟩
    obtain ⟨nRa, nRd⟩ := hh.ne hR
    refine ⟨_, rfl, _, _, rfl, rfl, ⟨by omega, by omega, by decide⟩, _, rfl, ?_⟩
    rw [shl_one]
    generalize hN : 2 ^ n = N at hp ⊢
    refine ⟨by omega, by omega, for_range (lo := 0) (n := _) (fun i σ H' => ∃ (y5 y6 : Option V) (ws : List V) (tabs : List (List (List Bool))), σ = [some (.ref a), some (.int (n : Int)), some (.int (l : Int)), some (.int (m : Int)), some (.ref R), y5, y6] ∧ tabs.length = i ∧
      (∀ rows ∈ tabs, rows.length = 2 ^ l ∧ ∀ r ∈ rows, r.length = m) ∧ ws.length = i ∧ DpAll K (off R (off a H')) ws (tabs.map rowsD) ∧ Hnd H' a d ∧ Keep a H H' ∧ H' R = some (.lst ws)) ?_ ?_ ?_⟩
    · exact ⟨none, none, [], [], rfl, rfl, fun r hr => (nomatch hr), rfl, DpAll.nil, hh.new hR, Keep.new hR, upd_same⟩
    · rintro i σ H' hi ⟨y5, y6, ws, tabs, rfl, ht, hts, hws, hdp, h1, h2, h3⟩
      refine ⟨_, rfl, .inl ⟨rfl, _, .inl (.inl h3)⟩, ?_⟩
      refine ⟨_, rfl, _, _, rfl, rfl, ⟨by omega, by omega, by decide⟩, _, rfl, ?_⟩
      rw [shl_one]
      generalize hL : 2 ^ l = L at hpl ⊢
      refine ⟨by omega, by omega, fun Dl hD => ?_⟩
      obtain ⟨nDa, nDd⟩ := h1.ne hD
      have nDR : Dl ≠ R := (ne_of_none h3 hD).symm
      refine lc_range (lo := 0) (n := _) (fun j H2 => ∃ rows : List (List Bool), rows.length = j ∧ (∀ r ∈ rows, r.length = m) ∧ Hnd H2 a d ∧ Keep a H' H2 ∧ H2 R = some (.lst ws) ∧ H2 Dl = some (.lst (rows.map fun r => V.str (sb r)))) ?_ ?_ ?_
      · exact ⟨[], rfl, fun r hr => (nomatch hr), h1.new hD, Keep.new hD, by rw [upd_ne nDR.symm]; exact h3, upd_same⟩
      · rintro j H2 hj ⟨rows, hl', hr, g1, g2, g3, g4⟩
        refine ⟨rfl, ?_⟩
        refine ⟨_, rfl, _, rfl, a, d, m, rfl, by omega, g1, fun bs H3 hb hh3 hk3 => ⟨_, hk3 _ _ g4 nDa, ?_, ?_⟩⟩
        · rw [List.length_map]
          exact Nat.lt_of_lt_of_le (show rows.length < 10000 by omega) (by decide)
        · refine ⟨rows ++ [bs], by rw [List.length_append, hl']; rfl, ?_, hh3.set nDa nDd, (g2.trans hk3).set hD, ?_, ?_⟩
          · intro r hr'
            rcases List.mem_append.mp hr' with z | z
            · exact hr r z
            · rw [List.mem_singleton.mp z]
              exact hb
          · rw [upd_ne nDR.symm]
            exact hk3 _ _ g3 nRa
          · rw [upd_same, List.map_append]
            rfl
      · rintro H2 ⟨rows, hl', hr, g1, g2, g3, g4⟩
        have hl2 : rows.length = 2 ^ l := by
          rw [hl', hL]
          omega
        refine ⟨Dl, _, rfl, .inl ⟨.inl (.inl g4), fun t nt => ⟨R, ws, _, rfl, rfl, ?_, ?_, ?_⟩⟩⟩
        · rw [upd_ne (ne_of_none g3 nt)]
          exact g3
        · exact Nat.lt_of_lt_of_le (show ws.length < 10000 by omega) (by decide)
        · obtain ⟨nta, ntd⟩ := g1.ne nt
          have ntR : t ≠ R := (ne_of_none g3 nt).symm
          have kk : Keep a H' (upd H2 t (.tup (rows.map fun r => V.str (sb r)))) := g2.trans (Keep.new nt)
          refine ⟨_, _, ws ++ [.ref t], tabs ++ [rows], rfl, by rw [List.length_append, ht]; rfl, ?_, by rw [List.length_append, hws]; rfl, ?_, (g1.new nt).set nRa nRd, (h2.trans kk).set hR, upd_same⟩
          · intro rows' hr'
            rw [← hL]
            rcases List.mem_append.mp hr' with z | z
            · exact hts _ z
            · rw [List.mem_singleton.mp z]
              exact ⟨hl2, hr⟩
          · rw [off_upd, List.map_append]
            refine dpAll_snoc (dps_same (off_mono kk.off) _ hdp) ?_
            refine .tup (.inl (.inl ?_)) (dp_bits rows)
            rw [off_ne ntR, off_ne nta, upd_same]
    · rintro σ H' ⟨y5, y6, ws, tabs, rfl, ht, hts, hws, hdp, h1, h2, h3⟩
      have hl2 : tabs.length = 2 ^ n := by
        rw [ht, hN]
        omega
      refine ⟨_, rfl, _, rfl, _, rfl, _, rfl, R, _, rfl, .inl ⟨.inl (.inl h3), fun t nt => ⟨(by show 5 ≤ sizeLine; decide), fun p np => ?_⟩⟩⟩
      have ht1 := h1.ne nt
      have h1' := h1.new (o := .tup ws) nt
      have hp1 := h1'.ne np
      refine q _ tabs _ hl2 hts ?_ (h1'.new np) ((h2.trans (Keep.new nt)).trans (Keep.new np))
      have e1 : off a (upd (upd H' t (.tup ws)) p (.tup [.str "function", .int (n : Int), .int (l : Int), .int (m : Int), .ref t])) p = some (.tup [.str "function", .int (n : Int), .int (l : Int), .int (m : Int), .ref t]) := by
        rw [off_ne hp1.1, upd_same]
      have e2 : off a (upd (upd H' t (.tup ws)) p (.tup [.str "function", .int (n : Int), .int (l : Int), .int (m : Int), .ref t])) t = some (.tup ws) := by
        rw [off_ne ht1.1, upd_ne (ne_of_none upd_same np), upd_same]
      have e3 : Same (off R (off a H')) (off a (upd (upd H' t (.tup ws)) p (.tup [.str "function", .int (n : Int), .int (l : Int), .int (m : Int), .ref t]))) := fun b o e => (((Keep.new nt).trans (Keep.new np)).off) b o (off_same R _ b o e)
      exact .tup (.inl (.inl e1)) (.cons (.str _) (.cons (.int _) (.cons (.int _) (.cons (.int _) (.cons (.tup (.inl (.inl e2)) (dps_same e3 _ hdp)) .nil)))))

theorem ok_within {f : Addr} {fd : FuncData} (D : Df K mg "_law_within" s_law_within ["value", "least", "most"] f fd) (T : Txt K mg cs) : FnOk P w K mg base CX0 1 f fd ["value", "least", "most"] (spWithin K) := by
  refine D.fn.ok sc_law_within (fun vs H Q E h => ?_) (fun cdv A outer s H vs Q E hr h => ?_)
  · obtain ⟨v, d, lo, hi, rfl, _⟩ := h
    rfl
  · obtain ⟨v, d, lo, hi, rfl, hd, q⟩ := h
    refine ⟨_, (pss_one (ps_ret (pe_and (pe_callB (isiK K) (by rfl) T.n_isinstance (by decide +kernel) (pa_cons (pv 0) (pa_cons (pe_ty "int" (by rfl) T.n_int (by decide +kernel)) pa_nil))) (pe_and (pe_not (pe_callB (isiK K) (by rfl) T.n_isinstance (by decide +kernel) (pa_cons (pv 0) (pa_cons (pe_ty "bool" (by rfl) T.n_bool (by decide +kernel)) pa_nil)))) (pe_and (pe_cmpR op_ge (pv 0) (pv 1) (nomark _)) (pe_one (pe_cmpR op_le (pv 0) (pv 2) (nomark _)))))))), ?_⟩
    refine ⟨_, rfl, _, _, _, _, _, rfl, .ty "int", dp_ty hd, kit_int d, _, rfl, ?_⟩
    cases d with
    | int i =>
      cases hd
      refine ⟨_, rfl, _, _, _, _, false, rfl, .ty "bool", .base (.int i), kit_ty (by decide +kernel), _, rfl, _, rfl, ?_⟩
      refine ⟨_, rfl, _, rfl, _, _, rfl, rfl, _, rfl, ?_⟩
      by_cases c : lo ≤ i
      · rw [decide_eq_true c]
        refine ⟨_, rfl, _, rfl, _, _, rfl, rfl, ?_⟩
        have e : whole (.int i) lo hi = decide (i ≤ hi) := by
          show (decide (lo ≤ i) && decide (i ≤ hi)) = _
          rw [decide_eq_true c, Bool.true_and]
        rw [e] at q
        exact q
      · rw [decide_eq_false c]
        have e : whole (.int i) lo hi = false := by
          show (decide (lo ≤ i) && decide (i ≤ hi)) = _
          rw [decide_eq_false c, Bool.false_and]
        rw [e] at q
        exact q
    | bool b =>
      cases hd
      exact ⟨_, rfl, _, _, _, _, true, rfl, .ty "bool", .base (.bl b), kit_ty (by decide +kernel), _, rfl, _, rfl, q⟩
    | none => exact q
    | str x => exact q
    | list xs => exact q
    | tuple xs => exact q
    | dict xs => exact q
theorem one_sign (c k : Nat) (x : Str) (hx : x = ⟨#[k]⟩) : decide (V.str ⟨#[c]⟩ = V.str x) = (c == k) := by
  subst hx
  by_cases h : c = k
  · subst h
    rw [decide_eq_true rfl, beq_self_eq_true]
  · rw [decide_eq_false fun z => h (by
      have e := congrArg (fun y : Str => y.cps.toList) (V.str.inj z)
      exact (List.cons.inj e).1)]
    exact (beq_eq_false_iff_ne.mpr h).symm
theorem ok_isbits {f : Addr} {fd : FuncData} (D : Df K mg "_law_is_bits" s_law_is_bits ["value", "length"] f fd) (T : Txt K mg cs) : FnOk P w K mg base CX0 1 f fd ["value", "length"] (spIsBits K) := by
  refine D.fn.ok sc_law_is_bits (fun vs H Q E h => ?_) (fun cdv A outer s H vs Q E hr h => ?_)
  · obtain ⟨v, d, n, m, rfl, _⟩ := h
    rfl
  · obtain ⟨v, d, n, m, rfl, hd, hg, q⟩ := h
    refine ⟨_, (pss_cons (ps_if (PW.pt (pw_or (pt_not (pt_val (pe_callB (isiK K) (by rfl) T.n_isinstance (by decide +kernel) (pa_cons (pv 0) (pa_cons (pe_ty "str" (by rfl) T.n_str (by decide +kernel)) pa_nil))))) (pw_or1 (pt_cmpR op_ne (pe_callB call_len_str (by rfl) T.n_len (by decide +kernel) (pa_cons (pv 0) pa_nil)) (pv 1) (nomark _))))) (pss_one (ps_ret pe_bl)) pss_nil) (pss_cons (ps_for PassesOwn.never rfl (pi_str (pv 0)) (pg_name (i := 2) sc_law_is_bits.nd rfl (.inl rfl)) (pss_one (ps_if (PW.pt (pw_and (pt_cmpR op_ne (pv 2) pe_str (nomark _)) (pw_and1 (pt_cmpR op_ne (pv 2) pe_str (nomark _))))) (pss_one (ps_ret pe_bl)) pss_nil))) (pss_one (ps_ret pe_bl)))), ?_⟩
    refine ⟨_, rfl, _, _, _, _, _, rfl, .ty "str", dp_ty hd, kit_str d, _, rfl, ?_⟩
    cases d with
    | str x =>
      cases hd
      have hz := (gd_str hg).2
      refine ⟨_, rfl, x, rfl, ?_, _, rfl, rfl, _, rfl, ?_⟩
      · rw [sizeLine_eq]
        omega
      have e : bitRow m (.str x) = (decide ((x.length : Int) = m) && x.cps.toList.all (fun c => c == 48 || c == 49)) := rfl
      rw [e] at q
      clear e
      by_cases c : (x.length : Int) = m
      · rw [decide_eq_true (show V.int (x.length : Int) = V.int m from congrArg V.int c)]
        rw [decide_eq_true c, Bool.true_and] at q
        refine ⟨_, rfl, _, rfl, for_text (fun i σ H' => (∃ y2 : Option V, σ = [some (.str x), some (.int m), y2]) ∧ H' = H ∧ (x.cps.toList.take i).all (fun c => c == 48 || c == 49) = true) ?_ ?_ ?_⟩
        · exact ⟨⟨none, rfl⟩, rfl, rfl⟩
        · rintro i c σ H' hc ⟨⟨y2, rfl⟩, rfl, ha⟩
          have hc' : x.cps.toList[i]? = some c := by
            rw [← hc]
            simp
          have hall : ∀ b : Bool, (c == 48 || c == 49) = b → (x.cps.toList.take (i + 1)).all (fun c => c == 48 || c == 49) = b := by
            intro b hb
            rw [List.take_add_one, hc', List.all_append, ha]
            show (true && ((c == 48 || c == 49) && true)) = b
            rw [hb, Bool.true_and, Bool.and_true]
          refine ⟨_, rfl, rfl, _, rfl, ?_⟩
          rw [one_sign c 48 "0" rfl]
          cases c0 : (c == 48) with
          | true => exact ⟨⟨_, rfl⟩, rfl, hall true (by rw [c0]; rfl)⟩
          | false =>
            refine ⟨_, rfl, rfl, _, rfl, ?_⟩
            rw [one_sign c 49 "1" rfl]
            cases c1 : (c == 49) with
            | true => exact ⟨⟨_, rfl⟩, rfl, hall true (by rw [c0, c1]; rfl)⟩
            | false =>
              have hf := hall false (by rw [c0, c1]; rfl)
              have e : x.cps.toList.all (fun c => c == 48 || c == 49) = false := by
                rw [Bool.eq_false_iff] at hf ⊢
                intro z
                refine hf ?_
                rw [List.all_eq_true] at z ⊢
                exact fun y hy => z y (List.mem_of_mem_take hy)
              rw [e] at q
              exact q
        · rintro σ H' ⟨⟨y2, rfl⟩, rfl, ha⟩
          have e : x.cps.toList.take x.cps.size = x.cps.toList := List.take_of_length_le (by simp)
          rw [e] at ha
          rw [ha] at q
          exact q
      · rw [decide_eq_false (show ¬ V.int (x.length : Int) = V.int m from fun z => c (V.int.inj z))]
        rw [decide_eq_false c, Bool.false_and] at q
        exact q
    | none => exact q
    | int i => exact q
    | bool i => exact q
    | tuple xs => exact q
    | list xs => exact q
    | dict xs => exact q

theorem all_take {α : Type} {p : α → Bool} {xs : List α} {i : Nat} (h : (xs.take i).all p = false) : xs.all p = false := by
  rw [Bool.eq_false_iff] at h ⊢
  intro z
  refine h ?_
  rw [List.all_eq_true] at z ⊢
  exact fun y hy => z y (List.mem_of_mem_take hy)
theorem all_snoc {α : Type} {p : α → Bool} {xs : List α} {i : Nat} {x : α} (hx : xs[i]? = some x) (h : (xs.take i).all p = true) : (xs.take (i + 1)).all p = p x := by
  rw [List.take_add_one, hx, List.all_append, h, Bool.true_and]
  show (p x && true) = _
  rw [Bool.and_true]
theorem ok_rowsgood {f : Addr} {fd : FuncData} (D : Df K mg "_law_rows_good" s_law_rows_good ["rows", "many", "length"] f fd) (T : Txt K mg cs) (c_law_is_bits : Cl P w K mg base CX0 1 "_law_is_bits" (spIsBits K)) : FnOk P w K mg base CX0 2 f fd ["rows", "many", "length"] (spRowsGood K) := by
  refine D.fn.ok sc_law_rows_good (fun vs H Q E h => ?_) (fun cdv A outer s H vs Q E hr h => ?_)
  · obtain ⟨v, d, n, many, m, rfl, _⟩ := h
    rfl
  · obtain ⟨v, d, n, many, m, rfl, hd, hg, q⟩ := h
    refine ⟨_, (pss_cons (ps_if (PW.pt (pw_or (pt_not (pt_val (pe_callB (isiK K) (by rfl) T.n_isinstance (by decide +kernel) (pa_cons (pv 0) (pa_cons (pe_ty "tuple" (by rfl) T.n_tuple (by decide +kernel)) pa_nil))))) (pw_or1 (pt_cmpR op_ne (pe_callB (lenS K) (by rfl) T.n_len (by decide +kernel) (pa_cons (pv 0) pa_nil)) (pv 1) (nomark _))))) (pss_one (ps_ret pe_bl)) pss_nil) (pss_cons (ps_for PassesOwn.never rfl (pi_tup (pv 0)) (pg_name (i := 3) sc_law_rows_good.nd rfl (.inl rfl)) (pss_one (ps_if (pt_not (pt_val (pe_cl c_law_is_bits hr (by first | decide | omega) (by rfl) (pa_cons (pv 3) (pa_cons (pv 2) pa_nil))))) (pss_one (ps_ret pe_bl)) pss_nil))) (pss_one (ps_ret pe_bl)))), ?_⟩
    refine ⟨_, rfl, _, _, _, _, _, rfl, .ty "tuple", dp_ty hd, kit_tup d, _, rfl, ?_⟩
    cases d with
    | tuple xs =>
      cases hd with
      | @tup a ws _ hT hA =>
        obtain ⟨hl, n', rfl, hx⟩ := gd_tup hg
        have hwl := dp_all_len hA
        have e : rowsOk (.tuple xs) many m = (decide ((xs.length : Int) = many) && xs.all (bitRow m)) := rfl
        rw [e] at q
        clear e
        refine ⟨_, rfl, a, ws, rfl, .inr hT, _, rfl, rfl, _, rfl, ?_⟩
        by_cases c : (ws.length : Int) = many
        · rw [decide_eq_true (show V.int (ws.length : Int) = V.int many by rw [c])]
          rw [decide_eq_true (by rw [← hwl]; exact c), Bool.true_and] at q
          refine ⟨_, rfl, a, rfl, ⟨_, hT⟩, for_tup (xs := ws) (fun i σ H' => (∃ y3 : Option V, σ = [some (.ref a), some (.int many), some (.int m), y3]) ∧ H' = H ∧ (xs.take i).all (bitRow m) = true) ?_ ?_ ?_ ?_⟩
          · exact ⟨⟨none, rfl⟩, rfl, rfl⟩
          · rintro i σ H' _ ⟨_, rfl, _⟩
            exact hT
          · rintro i x σ H' hxi ⟨⟨y3, rfl⟩, rfl, ha⟩
            obtain ⟨d, hdi, hdx⟩ := dp_all_get hA hxi
            refine ⟨_, rfl, _, rfl, x, d, n', m, rfl, hdx, hx d (List.mem_of_getElem? hdi), _, rfl, ?_⟩
            have hs := all_snoc hdi ha
            cases cb : bitRow m d with
            | true => exact ⟨⟨_, rfl⟩, rfl, by rw [hs, cb]⟩
            | false =>
              rw [all_take (i := i + 1) (by rw [hs, cb])] at q
              exact q
          · rintro σ H' ⟨⟨y3, rfl⟩, rfl, ha⟩
            rw [hwl, List.take_length] at ha
            rw [ha] at q
            exact q
        · rw [decide_eq_false (show ¬ V.int (ws.length : Int) = V.int many from fun z => c (V.int.inj z))]
          rw [decide_eq_false (by rw [← hwl]; exact c), Bool.false_and] at q
          exact q
    | bool b => exact q
    | none => exact q
    | int x => exact q
    | str x => exact q
    | list xs => exact q
    | dict xs => exact q
theorem at0 {v : V} {ws : List V} : atI (v :: ws) 0 = some v := atI_nat (j := 0) rfl
theorem gen_head {xs : List PyData} {k : PyData} (h : xs[0]? = some k) (hk : named "generator" k = false) : genOk (.tuple xs) = false := by
  unfold genOk
  split
  · rename_i e
    cases e
    cases (Option.some.inj h)
    rw [hk]
    rfl
  · rfl
theorem fun_head {xs : List PyData} {k : PyData} (h : xs[0]? = some k) (hk : named "function" k = false) : funOk (.tuple xs) = false := by
  unfold funOk
  split
  · rename_i e
    cases e
    cases (Option.some.inj h)
    rw [hk]
    rfl
  · rfl
theorem block_head {xs : List PyData} {k : PyData} (h : xs[0]? = some k) (h1 : named "generator" k = false) (h2 : named "function" k = false) : blockOk (.tuple xs) = false := by
  unfold blockOk
  rw [gen_head h h1, fun_head h h2]
  rfl
theorem named_str (x s : Str) : named x (.str s) = decide (V.str s = V.str x) := by
  by_cases h : s = x
  · subst h
    rw [decide_eq_true rfl]
    show (s == s) = true
    exact beq_self_eq_true s
  · rw [decide_eq_false fun z => h (V.str.inj z)]
    show (s == x) = false
    exact beq_eq_false_iff_ne.mpr h
theorem ok_good {f : Addr} {fd : FuncData} (D : Df K mg "_law_block_good" s_law_block_good ["value"] f fd) (T : Txt K mg cs) (c_law_within : Cl P w K mg base CX0 1 "_law_within" (spWithin K)) (c_law_rows_good : Cl P w K mg base CX0 2 "_law_rows_good" (spRowsGood K)) : FnOk P w K mg base CX0 3 f fd ["value"] (spGood K) := by
  refine D.fn.ok sc_law_block_good (fun vs H Q E h => ?_) (fun cdv A outer s H vs Q E hr h => ?_)
  · obtain ⟨v, d, n, rfl, _⟩ := h
    rfl
  · obtain ⟨v, d, n, rfl, hd, hg, q⟩ := h
    refine ⟨_, (pss_cons (ps_if (PW.pt (pw_or (pt_not (pt_val (pe_callB (isiK K) (by rfl) T.n_isinstance (by decide +kernel) (pa_cons (pv 0) (pa_cons (pe_ty "tuple" (by rfl) T.n_tuple (by decide +kernel)) pa_nil))))) (pw_or (pt_cmpR op_lt (pe_callB (lenS K) (by rfl) T.n_len (by decide +kernel) (pa_cons (pv 0) pa_nil)) pe_int (nomark _)) (pw_or1 (pt_not (pt_val (pe_callB (isiK K) (by rfl) T.n_isinstance (by decide +kernel) (pa_cons (pe_ix (ixT K) (pv 0) pe_int (fun _ _ => rfl)) (pa_cons (pe_ty "str" (by rfl) T.n_str (by decide +kernel)) pa_nil))))))))) (pss_one (ps_ret pe_bl)) pss_nil) (pss_cons (ps_if (PW.pt (pw_and (pt_cmpR op_eq (pe_ix (ixT K) (pv 0) pe_int (fun _ _ => rfl)) pe_str (nomark _)) (pw_and1 (pt_cmpR op_eq (pe_callB (lenS K) (by rfl) T.n_len (by decide +kernel) (pa_cons (pv 0) pa_nil)) pe_int (nomark _))))) (pss_cons (ps_if (PW.pt (pw_or (pt_not (pt_val (pe_cl c_law_within hr (by first | decide | omega) (by rfl) (pa_cons (pe_ix (ixT K) (pv 0) pe_int (fun _ _ => rfl)) (pa_cons pe_int (pa_cons pe_int pa_nil)))))) (pw_or1 (pt_not (pt_val (pe_cl c_law_within hr (by first | decide | omega) (by rfl) (pa_cons (pe_ix (ixT K) (pv 0) pe_int (fun _ _ => rfl)) (pa_cons pe_int (pa_cons pe_int pa_nil))))))))) (pss_one (ps_ret pe_bl)) pss_nil) (pss_one (ps_ret (pe_cl c_law_rows_good hr (by first | decide | omega) (by rfl) (pa_cons (pe_ix (ixT K) (pv 0) pe_int (fun _ _ => rfl)) (pa_cons (pe_op op_shl pe_int (pe_ix (ixT K) (pv 0) pe_int (fun _ _ => rfl))) (pa_cons (pe_ix (ixT K) (pv 0) pe_int (fun _ _ => rfl)) pa_nil))))))) pss_nil) (pss_cons (ps_if (PW.pt (pw_or (pt_cmpR op_ne (pe_ix (ixT K) (pv 0) pe_int (fun _ _ => rfl)) pe_str (nomark _)) (pw_or1 (pt_cmpR op_ne (pe_callB (lenS K) (by rfl) T.n_len (by decide +kernel) (pa_cons (pv 0) pa_nil)) pe_int (nomark _))))) (pss_one (ps_ret pe_bl)) pss_nil) (pss_cons (ps_if (PW.pt (pw_or (pt_not (pt_val (pe_cl c_law_within hr (by first | decide | omega) (by rfl) (pa_cons (pe_ix (ixT K) (pv 0) pe_int (fun _ _ => rfl)) (pa_cons pe_int (pa_cons pe_int pa_nil)))))) (pw_or (pt_not (pt_val (pe_cl c_law_within hr (by first | decide | omega) (by rfl) (pa_cons (pe_ix (ixT K) (pv 0) pe_int (fun _ _ => rfl)) (pa_cons pe_int (pa_cons pe_int pa_nil)))))) (pw_or1 (pt_not (pt_val (pe_cl c_law_within hr (by first | decide | omega) (by rfl) (pa_cons (pe_ix (ixT K) (pv 0) pe_int (fun _ _ => rfl)) (pa_cons pe_int (pa_cons pe_int pa_nil)))))))))) (pss_one (ps_ret pe_bl)) pss_nil) (pss_cons (ps_if (PW.pt (pw_or (pt_cmpR op_gt (pe_op op_add (pe_ix (ixT K) (pv 0) pe_int (fun _ _ => rfl)) (pe_ix (ixT K) (pv 0) pe_int (fun _ _ => rfl))) pe_int (nomark _)) (pw_or (pt_not (pt_val (pe_callB (isiK K) (by rfl) T.n_isinstance (by decide +kernel) (pa_cons (pe_ix (ixT K) (pv 0) pe_int (fun _ _ => rfl)) (pa_cons (pe_ty "tuple" (by rfl) T.n_tuple (by decide +kernel)) pa_nil))))) (pw_or1 (pt_cmpR op_ne (pe_callB (lenS K) (by rfl) T.n_len (by decide +kernel) (pa_cons (pe_ix (ixT K) (pv 0) pe_int (fun _ _ => rfl)) pa_nil)) (pe_op op_shl pe_int (pe_ix (ixT K) (pv 0) pe_int (fun _ _ => rfl))) (nomark _)))))) (pss_one (ps_ret pe_bl)) pss_nil) (pss_cons (ps_for PassesOwn.never rfl (pi_tup (pe_ix (ixT K) (pv 0) pe_int (fun _ _ => rfl))) (pg_name (i := 1) sc_law_block_good.nd rfl (.inl rfl)) (pss_one (ps_if (pt_not (pt_val (pe_cl c_law_rows_good hr (by first | decide | omega) (by rfl) (pa_cons (pv 1) (pa_cons (pe_op op_shl pe_int (pe_ix (ixT K) (pv 0) pe_int (fun _ _ => rfl))) (pa_cons (pe_ix (ixT K) (pv 0) pe_int (fun _ _ => rfl)) pa_nil)))))) (pss_one (ps_ret pe_bl)) pss_nil))) (pss_one (ps_ret pe_bl)))))))), ?_⟩
    refine ⟨_, rfl, _, _, _, _, _, rfl, .ty "tuple", dp_ty hd, kit_tup d, _, rfl, ?_⟩
    cases d with
    | tuple xs =>
      cases hd with
      | @tup a ws _ hT hA =>
        obtain ⟨hl, n', rfl, hx⟩ := gd_tup hg
        have hwl := dp_all_len hA
        refine ⟨_, rfl, a, ws, rfl, .inr hT, _, _, rfl, rfl, _, rfl, ?_⟩
        by_cases c4 : (ws.length : Int) < 4
        · rw [decide_eq_true c4]
          have e : blockOk (.tuple xs) = false := by
            unfold blockOk
            rw [gen_no (by omega), fun_no (by omega)]
            rfl
          rw [e] at q
          exact q
        · rw [decide_eq_false c4]
          obtain ⟨v0, wr, rfl⟩ : ∃ v0 wr, ws = v0 :: wr := by
            cases ws with
            | nil => exact absurd (by decide) c4
            | cons a b => exact ⟨a, b, rfl⟩
          obtain ⟨k, hk, h0⟩ := dp_all_get (i := 0) hA rfl
          have g0 := hx k (List.mem_of_getElem? hk)
          refine ⟨_, rfl, a, _, 0, _, rfl, rfl, hT, at0, _, _, _, _, _, rfl, .ty "str", dp_ty h0, kit_str k, _, rfl, ?_⟩
          have fin : named "generator" k = false → named "function" k = false → Q (.bl false) H := fun h1 h2 => by
            rw [block_head hk h1 h2] at q
            exact q
          cases k with
          | str s =>
            cases h0
            clear fin
            -- value[0] == 'generator'
            refine ⟨_, rfl, a, _, 0, _, rfl, rfl, hT, at0, rfl, _, rfl, ?_⟩
            rw [← named_str "generator" s]
            cases cg : named "generator" (.str s) with
            | true =>
              have es : s = "generator" := by
                rw [named_str] at cg
                exact V.str.inj (of_decide_eq_true cg)
              have ef : funOk (.tuple xs) = false := fun_head hk (by rw [es]; decide +kernel)
              unfold blockOk at q
              rw [ef, Bool.or_false] at q
              refine ⟨_, rfl, a, _, rfl, .inr hT, rfl, _, rfl, ?_⟩
              by_cases c : (V.str s :: wr).length = 4
              · rw [decide_eq_true (show V.int (((V.str s :: wr).length : Nat) : Int) = V.int 4 by rw [c]; rfl)]
                obtain ⟨w0, v1, v2, v3, k', n, m, r, e1, rfl, h0', h1, h2, h3⟩ := dp4 hA c
                cases e1
                have ek := Option.some.inj hk
                subst ek
                have g3 := hx r (List.mem_cons_of_mem _ (List.mem_cons_of_mem _ (List.mem_cons_of_mem _ List.mem_cons_self)))
                rw [gen_eq, cg] at q
                clear hx hA hwl hl c c4 h0' hk g0
                refine ⟨_, rfl, a, _, 1, _, rfl, rfl, hT, rfl, v1, n, 1, 10, rfl, h1, _, rfl, ?_⟩
                cases cn : whole n 1 10 with
                | false =>
                  rw [cn] at q
                  exact q
                | true =>
                  rw [cn] at q
                  refine ⟨_, rfl, a, _, 2, _, rfl, rfl, hT, rfl, v2, m, 1, 40, rfl, h2, _, rfl, ?_⟩
                  cases cm : whole m 1 40 with
                  | false =>
                    rw [cm] at q
                    exact q
                  | true =>
                    rw [cm] at q
                    obtain ⟨n, rfl, n1, n2⟩ := whole_int cn
                    obtain ⟨m, rfl, m1, m2⟩ := whole_int cm
                    cases h1
                    cases h2
                    refine ⟨_, rfl, a, _, 3, _, rfl, rfl, hT, rfl, _, rfl, a, _, 1, _, rfl, rfl, hT, rfl, _, _, rfl, rfl, ⟨by omega, by omega, by decide⟩, _, rfl, a, _, 2, _, rfl, rfl, hT, rfl, v3, r, _, _, _, rfl, h3, g3, q⟩
              · rw [decide_eq_false (show ¬ V.int (((V.str s :: wr).length : Nat) : Int) = V.int 4 from fun z => c (by have := V.int.inj z; omega))]
                rw [gen_no (by rw [← hwl]; exact c)] at q
                refine ⟨_, rfl, a, _, 0, _, rfl, rfl, hT, at0, rfl, _, rfl, ?_⟩
                rw [es, decide_eq_false (show ¬ V.str "generator" = V.str "function" from fun z => absurd (V.str.inj z) (by decide +kernel))]
                exact q
            | false =>
              have eg : genOk (.tuple xs) = false := gen_head hk cg
              unfold blockOk at q
              rw [eg, Bool.false_or] at q
              -- value[0] != 'function'
              refine ⟨_, rfl, a, _, 0, _, rfl, rfl, hT, at0, rfl, _, rfl, ?_⟩
              rw [← named_str "function" s]
              cases cf : named "function" (.str s) with
              | false =>
                rw [fun_head hk cf] at q
                exact q
              | true =>
                refine ⟨_, rfl, a, _, rfl, .inr hT, rfl, _, rfl, ?_⟩
                by_cases c : (V.str s :: wr).length = 5
                · rw [decide_eq_true (show V.int (((V.str s :: wr).length : Nat) : Int) = V.int 5 by rw [c]; rfl)]
                  obtain ⟨w0, v1, v2, v3, v4, k', n, l, m, t, e1, rfl, h0', h1, h2, h3, h4⟩ := dp5 hA c
                  cases e1
                  have ek := Option.some.inj hk
                  subst ek
                  have g4 := hx t (List.mem_cons_of_mem _ (List.mem_cons_of_mem _ (List.mem_cons_of_mem _ (List.mem_cons_of_mem _ List.mem_cons_self))))
                  rw [fun_eq, cf] at q
                  clear hx hA hwl hl c c4 h0' hk g0
                  refine ⟨_, rfl, a, _, 1, _, rfl, rfl, hT, rfl, v1, n, 1, 8, rfl, h1, _, rfl, ?_⟩
                  cases cn : whole n 1 8 with
                  | false =>
                    rw [cn] at q
                    exact q
                  | true =>
                    rw [cn] at q
                    refine ⟨_, rfl, a, _, 2, _, rfl, rfl, hT, rfl, v2, l, 1, 8, rfl, h2, _, rfl, ?_⟩
                    cases cl : whole l 1 8 with
                    | false =>
                      rw [cl] at q
                      exact q
                    | true =>
                      rw [cl] at q
                      refine ⟨_, rfl, a, _, 3, _, rfl, rfl, hT, rfl, v3, m, 1, 40, rfl, h3, _, rfl, ?_⟩
                      cases cm : whole m 1 40 with
                      | false =>
                        rw [cm] at q
                        rw [Bool.and_false, Bool.false_and] at q
                        exact q
                      | true =>
                        rw [cm] at q
                        obtain ⟨n, rfl, n1, n2⟩ := whole_int cn
                        obtain ⟨l, rfl, l1, l2⟩ := whole_int cl
                        obtain ⟨m, rfl, m1, m2⟩ := whole_int cm
                        cases h1
                        cases h2
                        cases h3
                        refine ⟨_, rfl, a, _, 1, _, rfl, rfl, hT, rfl, _, rfl, a, _, 2, _, rfl, rfl, hT, rfl, _, _, rfl, rfl, _, _, rfl, rfl, _, rfl, ?_⟩
                        by_cases cs : n + l ≤ 12
                        · rw [decide_eq_false (show ¬ (12 : Int) < n + l by omega)]
                          have e : sumLe (.int n) (.int l) = true := decide_eq_true cs
                          rw [e] at q
                          refine ⟨_, rfl, a, _, 4, _, rfl, rfl, hT, rfl, _, _, _, _, _, rfl, .ty "tuple", dp_ty h4, kit_tup t, _, rfl, ?_⟩
                          cases t with
                          | tuple ts =>
                            cases h4 with
                            | @tup b us _ hT4 hA4 =>
                              obtain ⟨hl4, n'', rfl, hx4⟩ := gd_tup g4
                              have hwl4 := dp_all_len hA4
                              have q2 : Q (.bl (decide ((ts.length : Int) = 1 * 2 ^ n.toNat) && ts.all (fun r => rowsOk r (1 * 2 ^ l.toNat) m))) H := q
                              clear q
                              refine ⟨_, rfl, a, _, 4, _, rfl, rfl, hT, rfl, b, us, rfl, .inr hT4, _, rfl, a, _, 1, _, rfl, rfl, hT, rfl, _, _, rfl, rfl, ⟨by omega, by omega, by decide⟩, rfl, _, rfl, ?_⟩
                              by_cases c : ((us.length : Nat) : Int) = 1 * 2 ^ n.toNat
                              · rw [decide_eq_true (show V.int ((us.length : Nat) : Int) = V.int (1 * 2 ^ n.toNat) from congrArg V.int c)]
                                rw [decide_eq_true (by rw [← hwl4]; exact c), Bool.true_and] at q2
                                refine ⟨_, rfl, a, _, 4, _, rfl, rfl, hT, rfl, b, rfl, ⟨_, hT4⟩, for_tup (xs := us) (fun i σ H' => (∃ y3 : Option V, σ = [some (.ref a), y3]) ∧ H' = H ∧ (ts.take i).all (fun r => rowsOk r (1 * 2 ^ l.toNat) m) = true) ?_ ?_ ?_ ?_⟩
                                · exact ⟨⟨none, rfl⟩, rfl, rfl⟩
                                · rintro i σ H' _ ⟨_, rfl, _⟩
                                  exact hT4
                                · rintro i x σ H' hxi ⟨⟨y3, rfl⟩, rfl, ha⟩
                                  obtain ⟨d, hdi, hdx⟩ := dp_all_get hA4 hxi
                                  refine ⟨_, rfl, _, rfl, a, _, 2, _, rfl, rfl, hT, rfl, _, _, rfl, rfl, ⟨by omega, by omega, by decide⟩, _, rfl, a, _, 3, _, rfl, rfl, hT, rfl, x, d, _, _, _, rfl, hdx, hx4 d (List.mem_of_getElem? hdi), _, rfl, ?_⟩
                                  have hs := all_snoc hdi ha
                                  cases cb : rowsOk d (1 * 2 ^ l.toNat) m with
                                  | true => exact ⟨⟨_, rfl⟩, rfl, by rw [hs, cb]⟩
                                  | false =>
                                    rw [all_take (i := i + 1) (by rw [hs, cb])] at q2
                                    exact q2
                                · rintro σ H' ⟨⟨y3, rfl⟩, rfl, ha⟩
                                  rw [hwl4, List.take_length] at ha
                                  rw [ha] at q2
                                  exact q2
                              · rw [decide_eq_false (show ¬ V.int ((us.length : Nat) : Int) = V.int (1 * 2 ^ n.toNat) from fun z => c (V.int.inj z))]
                                rw [decide_eq_false (by rw [← hwl4]; exact c), Bool.false_and] at q2
                                exact q2
                          | bool b => exact q
                          | none => exact q
                          | int x => exact q
                          | str x => exact q
                          | list xs => exact q
                          | dict xs => exact q
                        · rw [decide_eq_true (show (12 : Int) < n + l by omega)]
                          have e : sumLe (.int n) (.int l) = false := decide_eq_false cs
                          rw [e] at q
                          exact q
                · rw [decide_eq_false (show ¬ V.int (((V.str s :: wr).length : Nat) : Int) = V.int 5 from fun z => c (by have := V.int.inj z; omega))]
                  rw [fun_no (by rw [← hwl]; exact c)] at q
                  exact q
          | none => exact fin rfl rfl
          | bool b => exact fin rfl rfl
          | int b => exact fin rfl rfl
          | list b => exact fin rfl rfl
          | tuple b => exact fin rfl rfl
          | dict b => exact fin rfl rfl
    | bool b => exact q
    | none => exact q
    | int x => exact q
    | str x => exact q
    | list xs => exact q
    | dict xs => exact q

def oddVals (p l : Addr) : List V := [.bl true, .bl false, .non, .str "", .str "0", .str "1", .str "01", .str "generator", .str "function", .int 0, .int 1, .int 2, .int (-1), .int 11, .int 41, .int (10 ^ (20 : Int).toNat), .ref p, .ref l]
theorem odd_step {f : Addr} {fd : FuncData} (D : Df K mg "_law_odd" s_law_odd ["hand", "depth"] f fd) (T : Txt K mg cs) (j : Nat) (c_law_take : Cl P w K mg base CX0 1 "_law_take" spTake) (c_law_odd : Cl P w K mg base CX0 (j + 1) "_law_odd" (spOddB K j)) : FnOk P w K mg base CX0 (j + 2) f fd ["hand", "depth"] (spOdd K j) := by
  refine D.fn.ok sc_law_odd (fun vs H Q E h => ?_) (fun cdv A outer s H vs Q E hr h => ?_)
  · obtain ⟨a, d, dep, rfl, _⟩ := h
    rfl
  · obtain ⟨a, d, dep, rfl, hdep, hh, q⟩ := h
    refine ⟨_, (pss_cons (ps_set (i := 2) sc_law_odd.nd rfl (.inl rfl) (pe_cl c_law_take hr (by first | decide | omega) (by rfl) (pa_cons (pv 0) (pa_cons pe_int pa_nil)))) (pss_cons (ps_if (PW.pt (pw_and (pt_cmpR op_gt (pv 1) pe_int (nomark _)) (pw_and1 (pt_cmpR op_gt (pv 2) pe_int (nomark _))))) (pss_cons (ps_setLc (i := 3) (own := [("k", 5)]) (g := gName 5) (tt := tYes) rfl sc_law_odd.nd rfl rfl (sw_true rfl rfl rfl (by decide +kernel)) (pi_range1 (by rfl) T.n_range (pa_cons (pe_cl c_law_take hr (by first | decide | omega) (by rfl) (pa_cons (pv 0) (pa_cons pe_int pa_nil))) pa_nil)) (blkOk_by (own := [("k", 5)]) (N := ["hand", "depth", "kind", "parts", "values", "k"]) (sc := defScope s_law_odd) (by decide +kernel)) (fun _ _ _ _ _ => (pg_name (i := 5) sc_law_odd.nd rfl (.inl rfl))) (fun _ _ _ _ _ => pts_nil) (fun _ _ _ _ _ => (pe_cl c_law_odd hr (by first | decide | omega) (by rfl) (pa_cons (pv 0) (pa_cons (pe_op op_sub (pv 1) pe_int) pa_nil))))) (pss_one (ps_ret (pe_ix (ixL K) (pe_lst (pa_cons (pv 3) (pa_cons (pe_callTy (tupOf K) (by rfl) T.n_tuple (by decide +kernel) (pa_cons (pv 3) pa_nil)) pa_nil))) (pe_op op_sub (pv 2) pe_int) (fun _ _ => rfl))))) pss_nil) (pss_cons (ps_set (i := 4) sc_law_odd.nd rfl (.inl rfl) (pe_lst (pa_cons pe_bl (pa_cons pe_bl (pa_cons pe_non (pa_cons pe_str (pa_cons pe_str (pa_cons pe_str (pa_cons pe_str (pa_cons pe_str (pa_cons pe_str (pa_cons pe_int (pa_cons pe_int (pa_cons pe_int (pa_cons (pe_un un_neg pe_int) (pa_cons pe_int (pa_cons pe_int (pa_cons (pe_op op_pow pe_int pe_int) (pa_cons (pe_tup pa_nil) (pa_cons (pe_lst pa_nil) pa_nil)))))))))))))))))))) (pss_one (ps_ret (pe_ix (ixL K) (pv 4) (pe_cl c_law_take hr (by first | decide | omega) (by rfl) (pa_cons (pv 0) (pa_cons pe_int pa_nil))) (fun _ _ => rfl))))))), ?_⟩
    refine ⟨_, rfl, a, d, 9, rfl, by decide, hh, fun r H1 l1 u1 hh1 k1 => ?_⟩
    refine ⟨_, rfl, _, _, rfl, rfl, _, rfl, ?_⟩
    by_cases c : (0 : Int) < (dep : Int) ∧ 6 < r
    · rw [decide_eq_true c.1]
      refine ⟨_, rfl, _, _, rfl, rfl, _, rfl, ?_⟩
      rw [decide_eq_true c.2]
      refine ⟨_, rfl, a, d, 4, rfl, by decide, hh1, fun m H2 l2 u2 hh2 k2 => ?_⟩
      obtain ⟨m, rfl⟩ : ∃ k : Nat, m = (k : Int) := ⟨m.toNat, by omega⟩
      refine ⟨_, rfl, by omega, by omega, fun Dl hD => ?_⟩
      obtain ⟨nDa, nDd⟩ := hh2.ne hD
      have k12 := k1.trans k2
      have hDo := k12.free hD nDa
      refine lc_range (lo := 0) (n := _) (fun i H' => ∃ (ws : List V) (ds : List PyData), ws.length = i ∧ DpAll K (off Dl (fresh H H')) ws ds ∧ (∀ x ∈ ds, Gz 70 j x) ∧ Hnd H' a d ∧ Keep a H H' ∧ H' Dl = some (.lst ws)) ?_ ?_ ?_
      · exact ⟨[], [], rfl, .nil, fun r hr => (nomatch hr), hh2.new hD, k12.trans (Keep.new hD), upd_same⟩
      · rintro i H' hi ⟨ws, ds, hl, hA, hG, g1, g2, g3⟩
        refine ⟨rfl, ?_⟩
        refine ⟨_, rfl, _, rfl, _, _, rfl, rfl, by omega, a, d, dep - 1, ?_, by omega, g1, fun v H3 hv hh3 k3 => ⟨_, k3 _ _ g3 nDa, ?_, ?_⟩⟩
        · show [V.ref a, V.int ((dep : Int) - 1)] = _
          rw [show ((dep : Int) - 1) = ((dep - 1 : Nat) : Int) by omega]
        · exact Nat.lt_of_lt_of_le (show ws.length < 10000 by omega) (by decide)
        · obtain ⟨D, hD1, hD2⟩ := hv
          have ej : j - 1 + 1 = j := by omega
          rw [ej] at hD2
          refine ⟨ws ++ [v], ds ++ [D], by rw [List.length_append, hl]; rfl, dpAll_snoc (dps_same (fun b o e => ?_) _ hA) (dp_same (fun b o e => ?_) _ hD1), fun x hx => ?_, hh3.set nDa nDd, (g2.trans k3).set hDo, upd_same⟩
          · by_cases hb : b = Dl
            · unfold off at e
              rw [if_pos hb] at e
              cases e
            · rw [off_ne hb] at e ⊢
              obtain ⟨e1, e2⟩ := fresh_some.mp e
              refine fresh_some.mpr ⟨e1, ?_⟩
              rw [upd_ne hb]
              refine k3 _ _ e2 fun z => ?_
              obtain ⟨o, ho⟩ := hh.some
              rw [z, ho] at e1
              cases e1
          · obtain ⟨e1, e2⟩ := fresh_some.mp e
            have hb : b ≠ Dl := fun z => by
              rw [z, g3] at e1
              cases e1
            have ha : b ≠ a := fun z => by
              obtain ⟨o, ho⟩ := g1.some
              rw [z, ho] at e1
              cases e1
            rw [off_ne hb]
            refine fresh_some.mpr ⟨g2.free e1 ha, ?_⟩
            rw [upd_ne hb]
            exact e2
          · rcases List.mem_append.mp hx with z | z
            · exact hG x z
            · rw [List.mem_singleton.mp z]
              exact hD2
      · rintro H' ⟨ws, ds, hl, hA, hG, g1, g2, g3⟩
        refine ⟨_, rfl, _, rfl, Dl, _, rfl, .inl ⟨.inl (.inl g3), fun t nt => ⟨(by show 2 ≤ sizeLine; decide), fun L nL => ?_⟩⟩⟩
        have h2 := g1.new (o := .tup ws) nt
        have h3 := h2.new (o := .lst [.ref Dl, .ref t]) nL
        have kk := g2.trans ((Keep.new (o := .tup ws) nt).trans (Keep.new (o := .lst [.ref Dl, .ref t]) nL))
        have nta := (g1.ne nt).1
        have hto := g2.free nt nta
        refine ⟨_, rfl, _, _, rfl, rfl, L, [.ref Dl, .ref t], r - 7, ?_⟩
        have hsame : ∀ b o, off Dl (fresh H H') b = some o → fresh H (upd (upd H' t (.tup ws)) L (.lst [.ref Dl, .ref t])) b = some o := by
          intro b o e
          obtain ⟨e1, e2⟩ := fresh_some.mp (off_same Dl _ b o e)
          refine fresh_some.mpr ⟨e1, ?_⟩
          rw [upd_ne fun z => ?_, upd_ne fun z => ?_]
          · exact e2
          · rw [z, nt] at e2
            cases e2
          · rw [z] at e2
            rw [upd_ne (ne_of_none e2 nt)] at nL
            rw [nL] at e2
            cases e2
        have ht : upd (upd H' t (.tup ws)) L (.lst [.ref Dl, .ref t]) t = some (.tup ws) := by
          rw [upd_ne (ne_of_none upd_same nL), upd_same]
        have hd : upd (upd H' t (.tup ws)) L (.lst [.ref Dl, .ref t]) Dl = some (.lst ws) := by
          rw [upd_ne (ne_of_none (by rw [upd_ne (ne_of_none g3 nt)]; exact g3) nL), upd_ne (ne_of_none g3 nt)]
          exact g3
        have hw : ds.length ≤ 70 := by
          rw [← dp_all_len hA]
          omega
        rcases (show r = 7 ∨ r = 8 by omega) with e | e
        · subst e
          exact ⟨_, rfl, rfl, .inl (.inl upd_same), rfl, q _ _ ⟨.list ds, .lst (.inl (.inl (fresh_some.mpr ⟨hDo, hd⟩))) (dps_same hsame _ hA), hw, hG⟩ h3 kk⟩
        · subst e
          exact ⟨_, rfl, rfl, .inl (.inl upd_same), rfl, q _ _ ⟨.tuple ds, .tup (.inl (.inl (fresh_some.mpr ⟨hto, ht⟩))) (dps_same hsame _ hA), hw, hG⟩ h3 kk⟩
    · by_cases c1 : (0 : Int) < (dep : Int)
      case' pos =>
        rw [decide_eq_true c1]
        refine ⟨_, rfl, _, _, rfl, rfl, _, rfl, ?_⟩
        rw [decide_eq_false fun z => c ⟨c1, z⟩]
      case' neg =>
        rw [decide_eq_false c1]
      all_goals
        refine ⟨_, rfl, _, _, rfl, rfl, ⟨by decide, by decide, by decide⟩, (by show 0 ≤ sizeLine; decide), fun p np => ⟨(by show 0 ≤ sizeLine; decide), fun l nl => ⟨(by show 18 ≤ sizeLine; decide), fun L nL => ?_⟩⟩⟩
        have h2 := hh1.new (o := .tup []) np
        have h3 := h2.new (o := .lst []) nl
        have h4 := fun o => h3.new (o := o) nL
        refine ⟨_, rfl, _, rfl, a, d, 18, rfl, by decide, h4 _, fun r2 H2 l2 u2 hh2 k2 => ?_⟩
        have eL : H2 L = some (.lst (oddVals p l)) := k2 _ _ upd_same (h3.ne nL).1
        have el := k2 _ _ (by rw [upd_ne (ne_of_none upd_same nL)]; exact upd_same) (h2.ne nl).1
        have ep := k2 _ _ (by rw [upd_ne (ne_of_none (by rw [upd_ne (ne_of_none upd_same nl)]; exact upd_same) nL), upd_ne (ne_of_none upd_same nl)]; exact upd_same) (hh1.ne np).1
        have kk := ((k1.trans (Keep.new np)).trans ((Keep.new nl).trans (Keep.new nL))).trans k2
        obtain ⟨x, hx, hm⟩ := atI_mem (xs := oddVals p l) l2 u2
        refine ⟨L, _, r2, x, rfl, rfl, .inl (.inl eL), hx, ?_⟩
        refine q x H2 ?_ hh2 kk
        have npo := k1.free np (hh1.ne np).1
        have nlo := k1.free (H' := H1) (by
          by_cases z : l = p
          · rw [z]
            exact np
          · rw [upd_ne z] at nl
            exact nl) (h2.ne nl).1
        have okp : ∀ {n : Nat}, OkN K H H2 70 (n + 1) (.ref p) := ⟨.tuple [], .tup (.inl (.inl (fresh_some.mpr ⟨npo, ep⟩))) .nil, by decide, fun x hx => (nomatch hx)⟩
        have okl : ∀ {n : Nat}, OkN K H H2 70 (n + 1) (.ref l) := ⟨.list [], .lst (.inl (.inl (fresh_some.mpr ⟨nlo, el⟩))) .nil, by decide, fun x hx => (nomatch hx)⟩
        have okb : ∀ {n : Nat} {b : Bool}, OkN K H H2 70 n (.bl b) := ⟨_, .bl _, gz_bool⟩
        have oki : ∀ {n : Nat} {i : Int}, i.natAbs < 10 ^ 70 → OkN K H H2 70 n (.int i) := fun hi => ⟨_, .int _, gz_int.mpr hi⟩
        have oks : ∀ {n : Nat} {x : Str}, PySem.PyData.strOk x = true → x.length ≤ 70 → OkN K H H2 70 n (.str x) := fun h1 h2 => ⟨_, .str _, gz_str.mpr ⟨h1, h2⟩⟩
        have okn : ∀ {n : Nat}, OkN K H H2 70 n .non := ⟨_, .non, gz_none⟩
        iterate 18
          rcases List.mem_cons.mp hm with e | hm
          · subst e
            first
              | exact okb
              | exact okn
              | exact okp
              | exact okl
              | exact oki (by decide +kernel)
              | exact oks (by decide +kernel) (by decide +kernel)
        exact nomatch hm
theorem no_odd {f : Addr} {fd : FuncData} (k : Nat) : FnOk P w K mg base CX0 k f fd ["hand", "depth"] (spOddB K 0) :=
  ⟨fun _ _ _ _ h => absurd h.1 (by decide), fun _ _ _ _ _ _ _ _ _ _ _ _ _ h => absurd h.1 (by decide)⟩
theorem ok_odd {f : Addr} {fd : FuncData} (D : Df K mg "_law_odd" s_law_odd ["hand", "depth"] f fd) (T : Txt K mg cs) (c_law_take : Cl P w K mg base CX0 1 "_law_take" spTake) : ∀ j : Nat, FnOk P w K mg base CX0 (j + 2) f fd ["hand", "depth"] (spOdd K j)
  | 0 => odd_step D T 0 c_law_take (D.cl (no_odd _))
  | j + 1 => odd_step D T (j + 1) c_law_take (D.cl ((ok_odd D T c_law_take j).imp fun _ _ _ _ h => h.2))

theorem bent_step {f : Addr} {fd : FuncData} (D : Df K mg "_law_bent" s_law_bent ["hand", "value", "depth"] f fd) (T : Txt K mg cs) (j : Nat) (c_law_take : Cl P w K mg base CX0 1 "_law_take" spTake) (c_law_odd : Cl P w K mg base CX0 4 "_law_odd" (spOdd K 2)) (c_law_bent : Cl P w K mg base CX0 (j + 4) "_law_bent" (spBentB K j)) : FnOk P w K mg base CX0 (j + 5) f fd ["hand", "value", "depth"] (spBent K j) := by
  refine D.fn.ok sc_law_bent (fun vs H Q E h => ?_) (fun cdv A outer s H vs Q E hr h => ?_)
  · obtain ⟨a, d, v, s, n, dep, rfl, _⟩ := h
    rfl
  · obtain ⟨a, d, v, z, n, dep, rfl, hdep, hh, hv, z1, z2, hn, q⟩ := h
    refine ⟨_, (pss_cons (ps_set (i := 3) sc_law_bent.nd rfl (.inl rfl) (pe_cl c_law_take hr (by first | decide | omega) (by rfl) (pa_cons (pv 0) (pa_cons pe_int pa_nil)))) (pss_cons (ps_if (PW.pt (pw_and (pt_val (pe_callB (isiK K) (by rfl) T.n_isinstance (by decide +kernel) (pa_cons (pv 1) (pa_cons (pe_ty "str" (by rfl) T.n_str (by decide +kernel)) pa_nil)))) (pw_and (pt_cmpR op_gt (pe_callB call_len_str (by rfl) T.n_len (by decide +kernel) (pa_cons (pv 1) pa_nil)) pe_int (nomark _)) (pw_and1 (pt_cmpR op_lt (pv 3) pe_int (nomark _)))))) (pss_cons (ps_set (i := 4) sc_law_bent.nd rfl (.inl rfl) (pe_cl c_law_take hr (by first | decide | omega) (by rfl) (pa_cons (pv 0) (pa_cons (pe_callB call_len_str (by rfl) T.n_len (by decide +kernel) (pa_cons (pv 1) pa_nil)) pa_nil)))) (pss_cons (ps_set (i := 5) sc_law_bent.nd rfl (.inl rfl) (pe_ix (ixL K) (pe_lst (pa_cons pe_str (pa_cons pe_str (pa_cons pe_str (pa_cons pe_str (pa_cons pe_str (pa_cons pe_str pa_nil))))))) (pe_cl c_law_take hr (by first | decide | omega) (by rfl) (pa_cons (pv 0) (pa_cons pe_int pa_nil))) (fun _ _ => rfl))) (pss_one (ps_ret (pe_ix (ixL K) (pe_lst (pa_cons (pe_op op_add_str (pe_op op_add_str (pe_slice sl_str (pv 1) po_none (po_some (pv 4))) (pv 5)) (pe_slice sl_str (pv 1) (po_some (pe_op op_add (pv 4) pe_int)) po_none)) (pa_cons (pe_op op_add_str (pe_op op_add_str (pe_slice sl_str (pv 1) po_none (po_some (pv 4))) (pv 5)) (pe_slice sl_str (pv 1) (po_some (pv 4)) po_none)) pa_nil))) (pe_cl c_law_take hr (by first | decide | omega) (by rfl) (pa_cons (pv 0) (pa_cons pe_int pa_nil))) (fun _ _ => rfl)))))) pss_nil) (pss_cons (ps_if (PW.pt (pw_and (pt_val (pe_callB (isiK K) (by rfl) T.n_isinstance (by decide +kernel) (pa_cons (pv 1) (pa_cons (pe_ty "int" (by rfl) T.n_int (by decide +kernel)) pa_nil)))) (pw_and1 (pt_cmpR op_lt (pv 3) pe_int (nomark _))))) (pss_one (ps_ret (pe_ix (ixL K) (pe_lst (pa_cons (pe_op op_addW (pv 1) pe_int) (pa_cons (pe_op op_subW (pv 1) pe_int) (pa_cons (pe_cmpR (op_eqD hr.units) (pv 1) pe_int (nomark _)) (pa_cons (pe_un un_negW (pv 1)) (pa_cons (pe_callTy call_strW (by rfl) T.n_str (by decide +kernel) (pa_cons (pv 1) pa_nil)) (pa_cons pe_int (pa_cons pe_int (pa_cons (pe_lst (pa_cons (pv 1) pa_nil)) pa_nil))))))))) (pe_cl c_law_take hr (by first | decide | omega) (by rfl) (pa_cons (pv 0) (pa_cons pe_int pa_nil))) (fun _ _ => rfl)))) pss_nil) (pss_cons (ps_if (PW.pt (pw_or (pt_not (pt_val (pe_callB (isiK K) (by rfl) T.n_isinstance (by decide +kernel) (pa_cons (pv 1) (pa_cons (pe_ty "tuple" (by rfl) T.n_tuple (by decide +kernel)) pa_nil))))) (pw_or (pt_cmpR op_eq (pe_callB (lenS K) (by rfl) T.n_len (by decide +kernel) (pa_cons (pv 1) pa_nil)) pe_int (nomark _)) (pw_or (pt_cmpR op_eq (pv 3) pe_int (nomark _)) (pw_or1 (pt_cmpR op_eq (pv 2) pe_int (nomark _))))))) (pss_one (ps_ret (pe_cl c_law_odd hr (by first | decide | omega) (by rfl) (pa_cons (pv 0) (pa_cons pe_int pa_nil))))) pss_nil) (pss_cons (ps_set (i := 4) sc_law_bent.nd rfl (.inl rfl) (pe_cl c_law_take hr (by first | decide | omega) (by rfl) (pa_cons (pv 0) (pa_cons (pe_callB (lenS K) (by rfl) T.n_len (by decide +kernel) (pa_cons (pv 1) pa_nil)) pa_nil)))) (pss_cons (ps_if (pt_cmpR op_eq (pv 3) pe_int (nomark _)) (pss_one (ps_ret (pe_op (opCatA K) (pe_slice (slTA K) (pv 1) po_none (po_some (pv 4))) (pe_slice (slTA K) (pv 1) (po_some (pe_op op_add (pv 4) pe_int)) po_none)))) pss_nil) (pss_cons (ps_if (pt_cmpR op_eq (pv 3) pe_int (nomark _)) (pss_one (ps_ret (pe_op (opCatA K) (pe_op (opCatA K) (pe_slice (slTA K) (pv 1) po_none (po_some (pv 4))) (pe_slice (slTA K) (pv 1) (po_some (pv 4)) (po_some (pe_op op_add (pv 4) pe_int)))) (pe_slice (slTA K) (pv 1) (po_some (pv 4)) po_none)))) pss_nil) (pss_cons (ps_if (pt_cmpR op_eq (pv 3) pe_int (nomark _)) (pss_one (ps_ret (pe_callTy (listOf K) (by rfl) T.n_list (by decide +kernel) (pa_cons (pv 1) pa_nil)))) pss_nil) (pss_one (ps_ret (pe_op (opCatA K) (pe_op (opCatA K) (pe_slice (slTA K) (pv 1) po_none (po_some (pv 4))) (pe_tup (pa_cons (pe_cl c_law_bent hr (by first | decide | omega) (by rfl) (pa_cons (pv 0) (pa_cons (pe_ix (ixT K) (pv 1) (pv 4) (fun _ _ => rfl)) (pa_cons (pe_op op_sub (pv 2) pe_int) pa_nil)))) pa_nil))) (pe_slice (slTA K) (pv 1) (po_some (pe_op op_add (pv 4) pe_int)) po_none)))))))))))), ?_⟩
    refine ⟨_, rfl, a, d, 10, rfl, by decide, hh, fun r H1 l1 u1 hh1 k1 => ?_⟩
    have hv1 := hv.keep k1
    have q1 : ∀ v' H', Ok K a H' (z + 2) (n + 3) v' → Hnd H' a d → Keep a H1 H' → Q v' H' := fun v' H' g1 g2 g3 => q v' H' g1 g2 (k1.trans g3)
    have fin : ∀ v' H', OkN K H1 H' 70 3 v' → Hnd H' a d → Keep a H1 H' → Q v' H' := fun v' H' g1 g2 g3 => q1 v' H' ((g1.ok hh1.some).up (by omega) (by omega)) g2 g3
    clear q hv hh k1
    obtain ⟨D, hD, hG⟩ := hv1
    have hD1 := dp_same (off_same a H1) D hD
    refine ⟨_, rfl, _, _, _, _, _, rfl, .ty "str", dp_ty hD1, kit_str D, _, rfl, ?_⟩
    cases D with
    | str x =>
      cases hD
      have hx := gz_str.mp hG
      have szx : x.length ≤ sizeLine := by
        rw [sizeLine_eq]
        have := hx.2
        omega
      refine ⟨_, rfl, x, rfl, szx, _, _, rfl, rfl, _, rfl, ?_⟩
      by_cases c : (0 : Int) < (x.length : Int) ∧ r < 7
      · rw [decide_eq_true c.1]
        refine ⟨_, rfl, _, _, rfl, rfl, _, rfl, ?_⟩
        rw [decide_eq_true c.2]
        refine ⟨_, rfl, _, rfl, x, rfl, szx, a, d, (x.length : Int), rfl, c.1, hh1, fun t H2 l2 u2 hh2 k2 => ?_⟩
        obtain ⟨t, rfl⟩ : ∃ k : Nat, t = (k : Int) := ⟨t.toNat, by omega⟩
        refine ⟨(by show 6 ≤ sizeLine; decide), fun c nc => ⟨_, rfl, a, d, 6, rfl, by decide, hh2.new nc, fun t2 H3 l3 u3 hh3 k3 => ?_⟩⟩
        obtain ⟨y, hat, hm⟩ := atI_mem (xs := [.str "0", .str "1", .str "2", .str " ", .str "a", .str ""]) l3 u3
        refine ⟨c, _, t2, y, rfl, rfl, .inl (.inl (k3 _ _ upd_same (hh2.ne nc).1)), hat, ?_⟩
        obtain ⟨sg, rfl, hsg⟩ : ∃ sg : Str, y = .str sg ∧ okS 1 sg := by
          iterate 6
            rcases List.mem_cons.mp hm with e | hm
            · exact ⟨_, e, by decide +kernel, by decide +kernel⟩
          exact nomatch hm
        have e1 : ((t : Int) + 1) = ((t + 1 : Nat) : Int) := by omega
        have ht : t < x.length := by omega
        have hA : okS (z + 2) (cutS x none (some (t : Int)) ++ sg ++ cutS x (some (((t + 1 : Nat) : Int))) none) := okS_mono (okS_app (okS_app (okS_pre hx (by omega)) hsg) (okS_suf (k := t + 1) hx)) (by have := hx.2; omega)
        have hB : okS (z + 2) (cutS x none (some (t : Int)) ++ sg ++ cutS x (some (t : Int)) none) := okS_mono (okS_app (okS_app (okS_pre hx (by omega)) hsg) (okS_suf (k := t) hx)) (by have := hx.2; omega)
        have s1 : (cutS x none (some (t : Int))).length + sg.length ≤ sizeLine := by
          rw [sizeLine_eq]
          have h1 := (okS_pre (k := t) hx (by omega)).2
          have h2 := hsg.2
          have h3 := hx.2
          omega
        have s2 : ∀ k : Nat, (cutS x none (some (t : Int)) ++ sg).length + (cutS x (some (k : Int)) none).length ≤ sizeLine := by
          intro k
          rw [sizeLine_eq]
          have h1 := (okS_app (okS_pre (k := t) hx (by omega)) hsg).2
          have h2 := (okS_suf (k := k) hx).2
          have h3 := hx.2
          omega
        refine ⟨_, rfl, _, rfl, _, rfl, _, rfl, szx, _, rfl, _, _, rfl, rfl, s1, _, rfl, _, rfl, _, _, rfl, rfl, _, rfl, _, rfl, szx, ?_⟩
        rw [e1]
        refine ⟨_, _, rfl, rfl, s2 (t + 1), ?_⟩
        refine ⟨_, rfl, _, rfl, _, rfl, _, rfl, szx, _, rfl, _, _, rfl, rfl, s1, _, rfl, _, rfl, _, rfl, _, rfl, szx, _, _, rfl, rfl, s2 t, ?_⟩
        refine ⟨(by show 2 ≤ sizeLine; decide), fun c2 nc2 => ⟨_, rfl, a, d, 2, rfl, by decide, hh3.new nc2, fun t3 H4 l4 u4 hh4 k4 => ?_⟩⟩
        obtain ⟨y, hat, hm⟩ := atI_mem (xs := [.str (cutS x none (some (t : Int)) ++ sg ++ cutS x (some (((t + 1 : Nat) : Int))) none), .str (cutS x none (some (t : Int)) ++ sg ++ cutS x (some (t : Int)) none)]) l4 u4
        refine ⟨c2, _, t3, y, rfl, rfl, .inl (.inl (k4 _ _ upd_same (hh3.ne nc2).1)), hat, q1 y H4 ?_ hh4 (((k2.trans (Keep.new nc)).trans k3).trans ((Keep.new nc2).trans k4))⟩
        rcases List.mem_cons.mp hm with e | hm
        · subst e
          exact .str hA
        rcases List.mem_cons.mp hm with e | hm
        · subst e
          exact .str hB
        exact nomatch hm
      · by_cases c1 : (0 : Int) < (x.length : Int)
        case' pos =>
          rw [decide_eq_true c1]
          refine ⟨_, rfl, _, _, rfl, rfl, _, rfl, ?_⟩
          rw [decide_eq_false fun z => c ⟨c1, z⟩]
        case' neg =>
          rw [decide_eq_false c1]
        all_goals
          refine ⟨_, rfl, _, _, _, _, _, rfl, .ty "int", dp_ty hD1, kit_int _, _, rfl, ?_⟩
          refine ⟨_, rfl, _, _, _, _, _, rfl, .ty "tuple", dp_ty hD1, kit_tup _, _, rfl, ?_⟩
          exact ⟨_, rfl, a, d, 2, rfl, by decide, hh1, fin⟩
    | int i =>
      cases hD
      have hi := gz_int.mp hG
      refine ⟨_, rfl, _, _, _, _, _, rfl, .ty "int", dp_ty hD1, kit_int _, _, rfl, ?_⟩
      refine ⟨_, rfl, _, _, rfl, rfl, _, rfl, ?_⟩
      by_cases c : r < 7
      · rw [decide_eq_true c]
        have hlog : i.natAbs.log2 < 1920 := by
          by_cases h0 : i.natAbs = 0
          · rw [h0]
            decide
          · rw [Nat.log2_lt h0]
            exact Nat.lt_of_lt_of_le hi (Nat.le_trans (Nat.pow_le_pow_right (by decide) z2) (show 10 ^ 500 ≤ 2 ^ 1920 by decide +kernel))
        refine ⟨_, rfl, i, 1, rfl, rfl, _, rfl, i, 1, rfl, rfl, _, rfl, .int i, .int 1, hD1, .int 1, gd_shaped (gz_gd (by omega) hG) (by omega), by decide +kernel, _, rfl, i, rfl, _, rfl, .inl ⟨i, rfl, hlog, _, rfl, (by show 1 ≤ sizeLine; decide), fun p np => ⟨(by show 8 ≤ sizeLine; decide), fun L nL => ⟨_, rfl, a, d, 8, rfl, by decide, (hh1.new np).new nL, fun t H2 l2 u2 hh2 k2 => ?_⟩⟩⟩⟩
        have h2 := hh1.new (o := .lst [.int i]) np
        obtain ⟨y, hat, hm⟩ := atI_mem (xs := [.int (i + 1), .int (i - 1), .bl (PyData.eqv (.int i) (.int 1)), .int (-i), .str (toString i), .int 0, .int 41, .ref p]) l2 u2
        refine ⟨L, _, t, y, rfl, rfl, .inl (.inl (k2 _ _ upd_same (h2.ne nL).1)), hat, q1 y H2 ?_ hh2 (((Keep.new np).trans (Keep.new nL)).trans k2)⟩
        have ep := k2 _ _ (by rw [upd_ne (ne_of_none upd_same nL)]; exact upd_same) (hh1.ne np).1
        have e100 : 10 ^ (z + 2) = 100 * 10 ^ z := by
          rw [Nat.pow_add, Nat.mul_comm]
        have e1 : 1 ≤ 10 ^ z := Nat.one_le_pow _ _ (by decide)
        iterate 7
          rcases List.mem_cons.mp hm with e | hm
          · subst e
            first
              | exact .bl
              | exact .str (okS_mono (okS_int hi (by omega)) (by omega))
              | exact .int (by rw [e100]; generalize 10 ^ z = N at *; omega)
        rcases List.mem_cons.mp hm with e | hm
        · subst e
          exact .up (.lst (n := n) (s := z) (hh1.ne np).1 ep ⟨[.int i], .cons (.int i) .nil, fun d hd => by rw [List.mem_singleton.mp hd]; exact hG⟩ (by show 1 ≤ z; omega)) (by omega) (by omega)
        exact nomatch hm
      · rw [decide_eq_false c]
        refine ⟨_, rfl, _, _, _, _, _, rfl, .ty "tuple", dp_ty hD1, kit_tup _, _, rfl, ?_⟩
        exact ⟨_, rfl, a, d, 2, rfl, by decide, hh1, fin⟩
    | bool b =>
      cases hD
      have hbs : okS 5 (if b then ("True" : Str) else ("False" : Str)) := by
        cases b
        · exact ⟨by decide +kernel, by decide +kernel⟩
        · exact ⟨by decide +kernel, by decide +kernel⟩
      have hb : (b2i b).natAbs ≤ 1 := by
        cases b <;> decide
      refine ⟨_, rfl, _, _, _, _, _, rfl, .ty "int", dp_ty hD1, kit_int _, _, rfl, ?_⟩
      refine ⟨_, rfl, _, _, rfl, rfl, _, rfl, ?_⟩
      by_cases c : r < 7
      · rw [decide_eq_true c]
        refine ⟨_, rfl, b2i b, 1, rfl, rfl, _, rfl, b2i b, 1, rfl, rfl, _, rfl, .bool b, .int 1, hD1, .int 1, gd_shaped (gz_gd (by omega) hG) (by omega), by decide +kernel, _, rfl, b2i b, rfl, _, rfl, .inr ⟨b, rfl, _, rfl, (by show 1 ≤ sizeLine; decide), fun p np => ⟨(by show 8 ≤ sizeLine; decide), fun L nL => ⟨_, rfl, a, d, 8, rfl, by decide, (hh1.new np).new nL, fun t H2 l2 u2 hh2 k2 => ?_⟩⟩⟩⟩
        have h2 := hh1.new (o := .lst [.bl b]) np
        obtain ⟨y, hat, hm⟩ := atI_mem (xs := [.int (b2i b + 1), .int (b2i b - 1), .bl (PyData.eqv (.bool b) (.int 1)), .int (-b2i b), .str (if b then "True" else "False"), .int 0, .int 41, .ref p]) l2 u2
        refine ⟨L, _, t, y, rfl, rfl, .inl (.inl (k2 _ _ upd_same (h2.ne nL).1)), hat, q1 y H2 ?_ hh2 (((Keep.new np).trans (Keep.new nL)).trans k2)⟩
        have ep := k2 _ _ (by rw [upd_ne (ne_of_none upd_same nL)]; exact upd_same) (hh1.ne np).1
        have e100 : 10 ^ (z + 2) = 100 * 10 ^ z := by
          rw [Nat.pow_add, Nat.mul_comm]
        have e1 : 1 ≤ 10 ^ z := Nat.one_le_pow _ _ (by decide)
        iterate 7
          rcases List.mem_cons.mp hm with e | hm
          · subst e
            first
              | exact .bl
              | exact .str (okS_mono hbs (by omega))
              | exact .int (by rw [e100]; generalize 10 ^ z = N at *; omega)
        rcases List.mem_cons.mp hm with e | hm
        · subst e
          exact .up (.lst (n := n) (s := z) (hh1.ne np).1 ep ⟨[.bool b], .cons (.bl b) .nil, fun d hd => by rw [List.mem_singleton.mp hd]; exact hG⟩ (by show 1 ≤ z; omega)) (by omega) (by omega)
        exact nomatch hm
      · rw [decide_eq_false c]
        refine ⟨_, rfl, _, _, _, _, _, rfl, .ty "tuple", dp_ty hD1, kit_tup _, _, rfl, ?_⟩
        exact ⟨_, rfl, a, d, 2, rfl, by decide, hh1, fin⟩
    | tuple xs =>
      obtain ⟨hl, m, rfl, hx⟩ := gz_tup hG
      cases hD with
      | @tup p ws _ hT hA =>
        have hwl := dp_all_len hA
        have hO : Oks K a H1 z m ws := ⟨xs, hA, hx⟩
        have hT1 := sqt_on hT
        clear hA hx hT hG
        refine ⟨_, rfl, _, _, _, _, _, rfl, .ty "int", dp_ty hD1, kit_int _, _, rfl, ?_⟩
        refine ⟨_, rfl, _, _, _, _, _, rfl, .ty "tuple", dp_ty hD1, kit_tup _, _, rfl, ?_⟩
        refine ⟨_, rfl, p, ws, rfl, .inr hT1, rfl, _, rfl, ?_⟩
        by_cases c0 : ws.length = 0
        · rw [decide_eq_true (show V.int ((ws.length : Nat) : Int) = V.int 0 by rw [c0]; rfl)]
          exact ⟨_, rfl, a, d, 2, rfl, by decide, hh1, fin⟩
        rw [decide_eq_false (show ¬ V.int ((ws.length : Nat) : Int) = V.int 0 from fun e => c0 (by have := V.int.inj e; omega))]
        refine ⟨_, rfl, rfl, _, rfl, ?_⟩
        by_cases c1 : r = 0
        · rw [decide_eq_true (show V.int r = V.int 0 by rw [c1])]
          exact ⟨_, rfl, a, d, 2, rfl, by decide, hh1, fin⟩
        rw [decide_eq_false (show ¬ V.int r = V.int 0 from fun e => c1 (V.int.inj e))]
        refine ⟨_, rfl, rfl, _, rfl, ?_⟩
        by_cases c2 : dep = 0
        · rw [decide_eq_true (show V.int (dep : Int) = V.int 0 by rw [c2]; rfl)]
          exact ⟨_, rfl, a, d, 2, rfl, by decide, hh1, fin⟩
        rw [decide_eq_false (show ¬ V.int (dep : Int) = V.int 0 from fun e => c2 (by have := V.int.inj e; omega))]
        -- at
        refine ⟨_, rfl, _, rfl, p, ws, rfl, .inr hT1, a, d, _, rfl, by omega, hh1, fun t H2 l2 u2 hh2 k2 => ?_⟩
        obtain ⟨t, rfl⟩ : ∃ k : Nat, t = (k : Int) := ⟨t.toNat, by omega⟩
        have ht : t < ws.length := by omega
        have e1 : ((t : Int) + 1) = ((t + 1 : Nat) : Int) := by omega
        have hT2 : SqT K H2 p ws := sqt_on (same_sqt k2.off (sqt_off hh1 hT1))
        have hO2 := hO.keep k2
        have q2 : ∀ v' H', Ok K a H' (z + 2) (m + 2) v' → Hnd H' a d → Keep a H2 H' → Q v' H' := fun v' H' g1 g2 g3 => q1 v' H' (g1.up (Nat.le_refl _) (by omega)) g2 (k2.trans g3)
        have lc : ∀ k : Nat, (cutV ws none (some (k : Int))).length ≤ k := fun k => by
          rw [cutV_len, sIx_n, HT.sIx_none]
          omega
        have lr : ∀ k : Nat, (cutV ws (some (k : Int)) none).length ≤ ws.length - k := fun k => by
          rw [cutV_len, sIx_n, HT.sIx_none]
          omega
        have sz : ∀ n : Nat, n ≤ 1000 → n ≤ sizeLine := fun n h => by
          rw [sizeLine_eq]
          omega
        refine ⟨_, rfl, rfl, _, rfl, ?_⟩
        by_cases c3 : r = 1
        · rw [decide_eq_true (show V.int r = V.int 1 by rw [c3])]
          refine ⟨_, rfl, _, rfl, _, rfl, sl_any hT2 fun p1 H3 s3 t3 => ⟨_, rfl, _, rfl, _, _, rfl, rfl, _, rfl, sl_anyN (same_sqt s3 hT2) fun p2 H4 s4 t4 => ?_⟩⟩
          rw [e1] at t4
          have l1 := lc t
          have l2 := lr (t + 1)
          refine cat_any (same_sqt s4 t3) t4 (sz _ (by omega)) fun p3 H5 s5 t5 => ?_
          have ss := (s3.trans s4).trans s5
          have hh5 := hh2.same ss
          refine q2 _ _ (.up (.tup (s := z) hh5 t5 (.app (.cut _ _ (hO2.keep (.same ss))) (.cut _ _ (hO2.keep (.same ss)))) ?_) (by omega) (by omega)) hh5 (.same ss)
          rw [List.length_append]
          omega
        rw [decide_eq_false (show ¬ V.int r = V.int 1 from fun e => c3 (V.int.inj e))]
        refine ⟨_, rfl, rfl, _, rfl, ?_⟩
        by_cases c4 : r = 2
        · rw [decide_eq_true (show V.int r = V.int 2 by rw [c4])]
          refine ⟨_, rfl, _, rfl, _, rfl, sl_any hT2 fun p1 H3 s3 t3 => ⟨_, rfl, _, rfl, _, rfl, _, rfl, _, _, rfl, rfl, _, rfl, sl_any (same_sqt s3 hT2) fun p2 H4 s4 t4 => ?_⟩⟩
          rw [e1] at t4
          have l1 := lc t
          have l2 := lr t
          have l3 : (cutV ws (some (t : Int)) (some ((t + 1 : Nat) : Int))).length ≤ 1 := by
            rw [cutV_len, sIx_n, sIx_n]
            omega
          refine cat_any (same_sqt s4 t3) t4 (sz _ (by omega)) fun p3 H5 s5 t5 => ?_
          refine ⟨_, rfl, _, rfl, _, rfl, sl_anyN (same_sqt ((s3.trans s4).trans s5) hT2) fun p4 H6 s6 t6 => ?_⟩
          refine cat_any (same_sqt s6 t5) t6 (sz _ (by rw [List.length_append]; omega)) fun p5 H7 s7 t7 => ?_
          have ss := (((s3.trans s4).trans s5).trans s6).trans s7
          have hh7 := hh2.same ss
          have o : ∀ lo hi, Oks K a H7 z m (cutV ws lo hi) := fun lo hi => .cut _ _ (hO2.keep (.same ss))
          refine q2 _ _ (.up (.tup (s := z + 1) hh7 t7 (.up (.app (.app (o _ _) (o _ _)) (o _ _)) (by omega) (Nat.le_refl _)) ?_) (by omega) (by omega)) hh7 (.same ss)
          rw [List.length_append, List.length_append]
          omega
        rw [decide_eq_false (show ¬ V.int r = V.int 2 from fun e => c4 (V.int.inj e))]
        refine ⟨_, rfl, rfl, _, rfl, ?_⟩
        by_cases c5 : r = 3
        · rw [decide_eq_true (show V.int r = V.int 3 by rw [c5])]
          refine ⟨_, rfl, p, ws, rfl, .inr hT2, fun l nl => ?_⟩
          have k3 : Keep a H2 (upd H2 l (.lst ws)) := Keep.new nl
          exact q2 _ _ (.up (.lst (s := z) (hh2.ne nl).1 upd_same (hO2.keep k3) (by omega)) (by omega) (by omega)) (hh2.new nl) k3
        rw [decide_eq_false (show ¬ V.int r = V.int 3 from fun e => c5 (V.int.inj e))]
        -- the part bent
        obtain ⟨x, hxt⟩ : ∃ x, ws[t]? = some x := ⟨_, List.getElem?_eq_getElem ht⟩
        refine ⟨_, rfl, _, rfl, _, rfl, sl_any hT2 fun p1 H3 s3 t3 => ?_⟩
        have hh3 := hh2.same s3
        have l1 := lc t
        have l2 := lr (t + 1)
        refine ⟨_, rfl, _, rfl, _, rfl, p, ws, (t : Int), x, rfl, rfl, same_sqt s3 hT2, atI_nat hxt, _, rfl, _, _, rfl, rfl, by omega, a, d, x, z, m, dep - 1, ?_, by omega, hh3, (hO2.keep (.same s3)).get hxt, z1, z2, by omega, fun v' H4 g1 g2 g3 => ⟨(by show 1 ≤ sizeLine; decide), fun c nc => ?_⟩⟩
        · show [V.ref a, x, V.int ((dep : Int) - 1)] = _
          rw [show ((dep : Int) - 1) = ((dep - 1 : Nat) : Int) by omega]
        have t3' : SqT K H4 p1 (cutV ws none (some (t : Int))) := sqt_on (same_sqt g3.off (sqt_off hh3 t3))
        have hT4 : SqT K H4 p ws := sqt_on (same_sqt g3.off (sqt_off hh3 (same_sqt s3 hT2)))
        refine cat_any (same_sqt (same_new nc) t3') (.inl (.inl upd_same)) (sz _ (by show _ + 1 ≤ _; omega)) fun p3 H5 s5 t5 => ?_
        refine ⟨_, rfl, _, rfl, _, _, rfl, rfl, _, rfl, sl_anyN (same_sqt ((same_new nc).trans s5) hT4) fun p4 H6 s6 t6 => ?_⟩
        rw [e1] at t6
        refine cat_any (same_sqt s6 t5) t6 (sz _ (by rw [List.length_append]; show _ + 1 + _ ≤ _; omega)) fun p5 H7 s7 t7 => ?_
        have ss := (((same_new nc).trans s5).trans s6).trans s7
        have hh7 := g2.same ss
        have kk : Keep a H2 H7 := ((Keep.same s3).trans g3).trans (.same ss)
        have o : ∀ lo hi, Oks K a H7 (z + 2) (m + 3) (cutV ws lo hi) := fun lo hi => .up (.cut _ _ (hO2.keep kk)) (by omega) (by omega)
        refine q1 _ _ (.tup (s := z + 2) (n := m + 3) hh7 t7 (.app (.app (o _ _) (.one (g1.keep (.same ss)))) (o _ _)) ?_) hh7 (k2.trans kk)
        rw [List.length_append, List.length_append]
        show _ + 1 + _ ≤ _
        omega
    | none =>
      refine ⟨_, rfl, _, _, _, _, _, rfl, .ty "int", dp_ty hD1, kit_int _, _, rfl, ?_⟩
      refine ⟨_, rfl, _, _, _, _, _, rfl, .ty "tuple", dp_ty hD1, kit_tup _, _, rfl, ?_⟩
      exact ⟨_, rfl, a, d, 2, rfl, by decide, hh1, fin⟩
    | list xs =>
      refine ⟨_, rfl, _, _, _, _, _, rfl, .ty "int", dp_ty hD1, kit_int _, _, rfl, ?_⟩
      refine ⟨_, rfl, _, _, _, _, _, rfl, .ty "tuple", dp_ty hD1, kit_tup _, _, rfl, ?_⟩
      exact ⟨_, rfl, a, d, 2, rfl, by decide, hh1, fin⟩
    | dict xs => nomatch hD
theorem no_bent {f : Addr} {fd : FuncData} (k : Nat) : FnOk P w K mg base CX0 k f fd ["hand", "value", "depth"] (spBentB K 0) :=
  ⟨fun _ _ _ _ h => absurd h.1 (by decide), fun _ _ _ _ _ _ _ _ _ _ _ _ _ h => absurd h.1 (by decide)⟩
theorem ok_bent {f : Addr} {fd : FuncData} (D : Df K mg "_law_bent" s_law_bent ["hand", "value", "depth"] f fd) (T : Txt K mg cs) (c_law_take : Cl P w K mg base CX0 1 "_law_take" spTake) (c_law_odd : Cl P w K mg base CX0 4 "_law_odd" (spOdd K 2)) : ∀ j : Nat, FnOk P w K mg base CX0 (j + 5) f fd ["hand", "value", "depth"] (spBent K j)
  | 0 => bent_step D T 0 c_law_take c_law_odd (D.cl (no_bent _))
  | j + 1 => bent_step D T (j + 1) c_law_take c_law_odd (D.cl ((ok_bent D T c_law_take c_law_odd j).imp fun _ _ _ _ h => h.2))

theorem ok_right {f : Addr} {fd : FuncData} (D : Df K mg "_law_is_right" s_law_is_right ["value"] f fd) (T : Txt K mg cs) (c_law_block_good : Cl P w K mg base CX0 3 "_law_block_good" (spGood K)) (c_check_block : Cl P w K mg base (L2.CX P w) 3 "check_block" (spCheck K cs.BadBlock)) : FnOk P w K mg base CX0 4 f fd ["value"] (spRight K) := by
  refine D.fn.ok sc_law_is_right (fun vs H Q E h => ?_) (fun cdv A outer s H vs Q E hr h => ?_)
  · obtain ⟨v, d, n, rfl, _⟩ := h
    rfl
  · obtain ⟨v, d, n, rfl, hd, hg, hn, q⟩ := h
    refine ⟨_, (pss_cons (ps_set (i := 1) sc_law_is_right.nd rfl (.inl rfl) (pe_cl c_law_block_good hr (by first | decide | omega) (by rfl) (pa_cons (pv 0) pa_nil))) (pss_one (ps_try_as (i := 2) (Wout := fun _ _ _ _ => False) rfl rfl sc_law_is_right.nd rfl rfl ⟨rfl, by decide, .inl T.gl_BreakError⟩ takes0 (fun W pn xe tk _ => (pss_one (ps_ret (pe_and (pe_cmpR op_isN (pe_clX c_check_block hr (by first | decide | omega) (by rfl) tk (pa_cons (pv 0) pa_nil)) pe_non (nomark _)) (pe_one (pv 1)))))) (fun a oe cls d pn hz hf => pss_when (C := cs.BadBlock) hz fun hz => (pss_cons (ps_if (PW.pt (pw_or (pt_not (pt_val (pe_callB (call_isE T.e_BadBlock hz hf) (by rfl) T.n_isinstance (by decide +kernel) (pa_cons (pv 2) (pa_cons (pe_glob (v := .ref cs.BadBlock) (by rfl) T.gl_BadBlock rfl) pa_nil))))) (pw_or (pt_val (pe_callB (call_isE T.e_BadBlock hz hf) (by rfl) T.n_isinstance (by decide +kernel) (pa_cons (pv 2) (pa_cons (pe_glob (v := .ref cs.BadBreaker) (by rfl) T.gl_BadBreaker rfl) pa_nil)))) (pw_or1 (pt_val (pe_callB (call_isE T.e_BadBlock hz hf) (by rfl) T.n_isinstance (by decide +kernel) (pa_cons (pv 2) (pa_cons (pe_glob (v := .ref cs.BadScheme) (by rfl) T.gl_BadScheme rfl) pa_nil)))))))) (pss_one (ps_ret pe_bl)) pss_nil) (pss_one (ps_ret (pe_and (pe_callB (call_isE T.e_BadBlock hz hf) (by rfl) T.n_isinstance (by decide +kernel) (pa_cons (pv 2) (pa_cons (pe_ty "ValueError" (by rfl) T.n_ValueError (by decide +kernel)) pa_nil))) (pe_one (pe_not (pv 1))))))))))), ?_⟩
    refine ⟨_, rfl, v, d, n, rfl, hd, hg, ?_⟩
    refine ⟨_, rfl, v, d, n, rfl, hd, hg, hn, fun H1 s1 => ⟨fun ok => ?_, fun no => ?_⟩⟩
    · have q' := q H1 s1
      rw [← ok] at q'
      exact ⟨rfl, true, rfl, _, rfl, q'⟩
    · refine ⟨true, T.exm_BadBlock_BreakError, fun _ a na => ⟨⟨rfl, rfl⟩, ?_⟩, fun q => nomatch q⟩
      refine ⟨_, rfl, _, _, true, rfl, fun u hu => hu, T.kit_BadBlock_BadBlock, _, rfl, ?_⟩
      refine ⟨_, rfl, _, _, false, rfl, fun u hu => hu, T.kit_BadBlock_BadBreaker, _, rfl, ?_⟩
      refine ⟨_, rfl, _, _, false, rfl, fun u hu => hu, T.kit_BadBlock_BadScheme, _, rfl, ?_⟩
      refine ⟨_, rfl, _, _, true, rfl, fun u hu => hu, T.kit_BadBlock_ValueError, _, rfl, _, rfl, _, rfl, ?_⟩
      rw [no]
      exact q H1 s1

theorem ok_edge {f : Addr} {fd : FuncData} (D : Df K mg "_law_edge" s_law_edge ["hand"] f fd) (T : Txt K mg cs) (c_law_take : Cl P w K mg base CX0 1 "_law_take" spTake) : FnOk P w K mg base CX0 2 f fd ["hand"] (spEdge K) := by
  refine D.fn.ok sc_law_edge (fun vs H Q E h => ?_) (fun cdv A outer s H vs Q E hr h => ?_)
  · obtain ⟨a, d, rfl, _⟩ := h
    rfl
  · obtain ⟨a, d, rfl, hh, q⟩ := h
    refine ⟨_, (pss_cons (ps_set (i := 1) sc_law_edge.nd rfl (.inl rfl) (pe_ix (ixL K) (pe_lst (pa_cons pe_int (pa_cons pe_int (pa_cons pe_int (pa_cons pe_int (pa_cons pe_int pa_nil)))))) (pe_cl c_law_take hr (by first | decide | omega) (by rfl) (pa_cons (pv 0) (pa_cons pe_int pa_nil))) (fun _ _ => rfl))) (pss_cons (ps_set (i := 2) sc_law_edge.nd rfl (.inl rfl) (pe_op op_add_str (pe_op op_repS pe_str pe_int) pe_str)) (pss_cons (ps_set (i := 3) sc_law_edge.nd rfl (.inl rfl) (pe_cl c_law_take hr (by first | decide | omega) (by rfl) (pa_cons (pv 0) (pa_cons pe_int pa_nil)))) (pss_cons (ps_if (pt_cmpR op_eq (pv 3) pe_int (nomark _)) (pss_one (ps_ret (pe_tup (pa_cons pe_str (pa_cons pe_int (pa_cons (pv 1) (pa_cons (pe_op (op_rep1 K) (pe_tup (pa_cons (pe_slice sl_str (pv 2) po_none (po_some (pv 1))) pa_nil)) pe_int) pa_nil))))))) pss_nil) (pss_cons (ps_if (pt_cmpR op_eq (pv 3) pe_int (nomark _)) (pss_cons (ps_set (i := 4) sc_law_edge.nd rfl (.inl rfl) (pe_ix (ixL K) (pe_lst (pa_cons pe_int (pa_cons pe_int (pa_cons pe_int (pa_cons pe_int (pa_cons pe_int pa_nil)))))) (pe_cl c_law_take hr (by first | decide | omega) (by rfl) (pa_cons (pv 0) (pa_cons pe_int pa_nil))) (fun _ _ => rfl))) (pss_one (ps_ret (pe_tup (pa_cons pe_str (pa_cons (pv 4) (pa_cons pe_int (pa_cons (pe_op (op_rep1 K) (pe_tup (pa_cons pe_str pa_nil)) (pe_op op_shl pe_int (pv 4))) pa_nil)))))))) pss_nil) (pss_cons (ps_if (pt_cmpR op_eq (pv 3) pe_int (nomark _)) (pss_one (ps_ret (pe_tup (pa_cons pe_str (pa_cons pe_int (pa_cons pe_int (pa_cons (pv 1) (pa_cons (pe_op (op_rep1 K) (pe_tup (pa_cons (pe_op (op_rep1 K) (pe_tup (pa_cons (pe_slice sl_str (pv 2) po_none (po_some (pv 1))) pa_nil)) pe_int) pa_nil)) pe_int) pa_nil)))))))) pss_nil) (pss_cons (ps_asg (pe_ix (ixL K) (pe_lst (pa_cons (pe_tup (pa_cons pe_int (pa_cons pe_int pa_nil))) (pa_cons (pe_tup (pa_cons pe_int (pa_cons pe_int pa_nil))) (pa_cons (pe_tup (pa_cons pe_int (pa_cons pe_int pa_nil))) (pa_cons (pe_tup (pa_cons pe_int (pa_cons pe_int pa_nil))) (pa_cons (pe_tup (pa_cons pe_int (pa_cons pe_int pa_nil))) (pa_cons (pe_tup (pa_cons pe_int (pa_cons pe_int pa_nil))) (pa_cons (pe_tup (pa_cons pe_int (pa_cons pe_int pa_nil))) (pa_cons (pe_tup (pa_cons pe_int (pa_cons pe_int pa_nil))) (pa_cons (pe_tup (pa_cons pe_int (pa_cons pe_int pa_nil))) (pa_cons (pe_tup (pa_cons pe_int (pa_cons pe_int pa_nil))) pa_nil))))))))))) (pe_cl c_law_take hr (by first | decide | omega) (by rfl) (pa_cons (pv 0) (pa_cons pe_int pa_nil))) (fun _ _ => rfl)) (pg_tup (by rfl) (pgs_cons (pg_name (i := 4) sc_law_edge.nd rfl (.inl rfl)) (pgs_cons (pg_name (i := 5) sc_law_edge.nd rfl (.inl rfl)) pgs_nil)))) (pss_one (ps_ret (pe_tup (pa_cons pe_str (pa_cons (pv 4) (pa_cons (pv 5) (pa_cons pe_int (pa_cons (pe_op (op_rep1 K) (pe_tup (pa_cons (pe_op (op_rep1 K) (pe_tup (pa_cons pe_str pa_nil)) (pe_op op_shl pe_int (pv 5))) pa_nil)) (pe_op op_shl pe_int (pv 4))) pa_nil))))))))))))))), ?_⟩
    -- m
    refine ⟨(by show 5 ≤ sizeLine; decide), fun L nL => ⟨_, rfl, a, d, 5, rfl, by decide, hh.new nL, fun r H1 l1 u1 hh1 k1 => ?_⟩⟩
    obtain ⟨y, hat, hm⟩ := atI_mem (xs := [.int 1, .int 40, .int 0, .int 41, .int 39]) l1 u1
    refine ⟨L, _, r, y, rfl, rfl, .inl (.inl (k1 _ _ upd_same (hh.ne nL).1)), hat, ?_⟩
    obtain ⟨m, rfl, hm41⟩ : ∃ m : Nat, y = .int (m : Int) ∧ m ≤ 41 := by
      iterate 5
        rcases List.mem_cons.mp hm with e | hm
        · exact ⟨_, e.trans (congrArg V.int (Int.toNat_of_nonneg (by decide)).symm), by decide⟩
      exact nomatch hm
    have k1' := (Keep.new (o := .lst [.int 1, .int 40, .int 0, .int 41, .int 39]) nL).trans k1
    clear hat hm l1 u1 k1 nL
    have hrow : okS 41 (SX.S (List.replicate (20 : Int).toNat [48, 49]).flatten ++ "1") := ⟨by decide +kernel, by decide +kernel⟩
    refine ⟨[48, 49], 20, rfl, rfl, ⟨by decide, by decide, by decide⟩, _, _, rfl, rfl, (by rw [sizeLine_eq]; decide +kernel), ?_⟩
    refine ⟨_, rfl, a, d, 4, rfl, by decide, hh1, fun kd H2 l2 u2 hh2 k2 => ?_⟩
    have k12 := k1'.trans k2
    have szr : (SX.S (List.replicate (20 : Int).toNat [48, 49]).flatten ++ "1").length ≤ sizeLine := by
      rw [sizeLine_eq]
      exact Nat.le_trans hrow.2 (by decide)
    have hcut : okS 5000 (cutS (SX.S (List.replicate (20 : Int).toNat [48, 49]).flatten ++ "1") none (some (m : Int))) := ⟨strOk_cut hrow.1, Nat.le_trans (cutS_length _ _ _) (Nat.le_trans hrow.2 (by decide))⟩
    have fin : ∀ (H3 : Hp) (g : Addr) (vs : List V), Same H2 H3 → H3 g = none → Oks K a H3 5000 3 vs → vs.length ≤ 5000 → Q (.ref g) (upd H3 g (.tup vs)) := fun H3 g vs ss ng o hl => by
      have hh3 := hh2.same ss
      exact q _ _ (.of (s := 5000) (n := 4) (.tup (hh3.new ng) (.inl (.inl upd_same)) (o.keep (Keep.new ng)) hl) (by decide) (by decide)) (hh3.new ng) (k12.trans ((Keep.same ss).trans (Keep.new ng)))
    have okt : ∀ {H3 : Hp} {n : Nat} {x : Str}, PySem.PyData.strOk x = true → x.length ≤ 5000 → Ok K a H3 5000 n (.str x) := fun h1 h2 => .str ⟨h1, h2⟩
    have oki : ∀ {H3 : Hp} {n : Nat} {i : Int}, i.natAbs < 100 → Ok K a H3 5000 n (.int i) := fun h => .small h (by decide)
    refine ⟨_, rfl, rfl, _, rfl, ?_⟩
    by_cases c0 : kd = 0
    · rw [decide_eq_true (show V.int kd = V.int 0 by rw [c0])]
      refine ⟨_, rfl, _, rfl, _, rfl, _, rfl, _, rfl, szr, (by show 1 ≤ sizeLine; decide), fun p np => ⟨p, 2, _, rfl, rfl, .inl (.inl upd_same), by decide, by decide, fun t H3 s3 t3 => ⟨(by show 4 ≤ sizeLine; decide), fun g ng => ?_⟩⟩⟩
      have ss := (same_new np).trans s3
      have hh3 := hh2.same ss
      exact fin H3 g _ ss ng (.cons (okt (by decide +kernel) (by decide +kernel)) (.cons (oki (by decide)) (.cons (oki (by omega)) (.cons (.up (.tup hh3 t3 (.rep (n := 0) (.str hcut) 2) (by rw [List.length_replicate]; decide)) (Nat.le_refl _) (by decide)) .nil)))) (by show 4 ≤ 5000; decide)
    rw [decide_eq_false (show ¬ V.int kd = V.int 0 from fun e => c0 (V.int.inj e))]
    refine ⟨_, rfl, rfl, _, rfl, ?_⟩
    by_cases c1 : kd = 1
    · rw [decide_eq_true (show V.int kd = V.int 1 by rw [c1])]
      refine ⟨(by show 5 ≤ sizeLine; decide), fun L nL => ⟨_, rfl, a, d, 5, rfl, by decide, hh2.new nL, fun r H3 l3 u3 hh3 k3 => ?_⟩⟩
      obtain ⟨y, hat, hm⟩ := atI_mem (xs := [.int 1, .int 10, .int 0, .int 11, .int 9]) l3 u3
      refine ⟨L, _, r, y, rfl, rfl, .inl (.inl (k3 _ _ upd_same (hh2.ne nL).1)), hat, ?_⟩
      obtain ⟨n, rfl, hn⟩ : ∃ n : Nat, y = .int (n : Int) ∧ n ≤ 11 := by
        iterate 5
          rcases List.mem_cons.mp hm with e | hm
          · exact ⟨_, e.trans (congrArg V.int (Int.toNat_of_nonneg (by decide)).symm), by decide⟩
        exact nomatch hm
      have kk := (Keep.new (o := .lst [.int 1, .int 10, .int 0, .int 11, .int 9]) nL).trans k3
      have hp : 2 ^ n ≤ 2048 := two_pow_le (b := 11) hn
      have hp1 : 1 ≤ 2 ^ n := Nat.one_le_two_pow
      have s2' : Same H2 (upd H2 L (.lst [.int 1, .int 10, .int 0, .int 11, .int 9])) := same_new nL
      refine ⟨_, rfl, (by show 1 ≤ sizeLine; decide), fun p np => ⟨_, rfl, _, _, rfl, rfl, ⟨by omega, by omega, by decide⟩, p, _, .str "0", rfl, rfl, .inl (.inl upd_same), ?_, ?_, fun t H4 s4 t4 => ⟨(by show 4 ≤ sizeLine; decide), fun g ng => ?_⟩⟩⟩
      · rw [shl_one]
        generalize 2 ^ n = N at *
        omega
      · rw [shl_one]
        generalize 2 ^ n = N at *
        omega
      · rw [shl_one, Int.toNat_natCast] at t4
        generalize 2 ^ n = N at *
        have ss := (same_new np).trans s4
        have hh4 := hh3.same ss
        have k4 : Keep a H2 (upd H4 g (.tup [.str "generator", .int (n : Int), .int 1, .ref t])) := kk.trans ((Keep.same ss).trans (Keep.new ng))
        have o4 : Oks K a H4 5000 3 [.str "generator", .int (n : Int), .int 1, .ref t] := .cons (okt (by decide +kernel) (by decide +kernel)) (.cons (oki (by omega)) (.cons (oki (by decide)) (.cons (.up (.tup hh4 t4 (.rep (n := 0) (okt (by decide +kernel) (by decide +kernel)) N) (by rw [List.length_replicate]; omega)) (Nat.le_refl _) (by decide)) .nil)))
        exact q _ _ (.of (s := 5000) (n := 4) (.tup (hh4.new ng) (.inl (.inl upd_same)) (o4.keep (Keep.new ng)) (by show 4 ≤ 5000; decide)) (by decide) (by decide)) (hh4.new ng) (k12.trans k4)
    rw [decide_eq_false (show ¬ V.int kd = V.int 1 from fun e => c1 (V.int.inj e))]
    refine ⟨_, rfl, rfl, _, rfl, ?_⟩
    by_cases c2 : kd = 2
    · rw [decide_eq_true (show V.int kd = V.int 2 by rw [c2])]
      refine ⟨_, rfl, _, rfl, _, rfl, _, rfl, _, rfl, szr, (by show 1 ≤ sizeLine; decide), fun p np => ⟨p, 2, _, rfl, rfl, .inl (.inl upd_same), by decide, by decide, fun t H3 s3 t3 => ⟨(by show 1 ≤ sizeLine; decide), fun p2 np2 => ⟨p2, 2, _, rfl, rfl, .inl (.inl upd_same), by decide, by decide, fun t2 H4 s4 t4 => ⟨(by show 5 ≤ sizeLine; decide), fun g ng => ?_⟩⟩⟩⟩⟩
      have s34 := (same_new np2).trans s4
      have ss := ((same_new np).trans s3).trans s34
      have hh4 := hh2.same ss
      exact fin H4 g _ ss ng (.cons (okt (by decide +kernel) (by decide +kernel)) (.cons (oki (by decide)) (.cons (oki (by decide)) (.cons (oki (by omega)) (.cons (.up (.tup hh4 t4 (.rep (.tup hh4 (same_sqt s34 t3) (.rep (n := 0) (.str hcut) 2) (by rw [List.length_replicate]; decide)) 2) (by rw [List.length_replicate]; decide)) (Nat.le_refl _) (by decide)) .nil))))) (by show 5 ≤ 5000; decide)
    rw [decide_eq_false (show ¬ V.int kd = V.int 2 from fun e => c2 (V.int.inj e))]
    have t2 : ([.int 0, .int 0] : List V).length ≤ sizeLine := by
      show 2 ≤ sizeLine
      decide
    refine ⟨t2, fun p1 n1 => ⟨t2, fun p2 n2 => ⟨t2, fun p3 n3 => ⟨t2, fun p4 n4 => ⟨t2, fun p5 n5 => ⟨t2, fun p6 n6 => ⟨t2, fun p7 n7 => ⟨t2, fun p8 n8 => ⟨t2, fun p9 n9 => ⟨t2, fun p10 n10 => ⟨(by show 10 ≤ sizeLine; decide), fun L nL => ?_⟩⟩⟩⟩⟩⟩⟩⟩⟩⟩⟩
    have S := fun o => same_new (o := o) nL
    have S10 := fun o => (same_new n10).trans (S o)
    have S9 := fun o => (same_new n9).trans (S10 o)
    have S8 := fun o => (same_new n8).trans (S9 o)
    have S7 := fun o => (same_new n7).trans (S8 o)
    have S6 := fun o => (same_new n6).trans (S7 o)
    have S5 := fun o => (same_new n5).trans (S6 o)
    have S4 := fun o => (same_new n4).trans (S5 o)
    have S3 := fun o => (same_new n3).trans (S4 o)
    have S2 := fun o => (same_new n2).trans (S3 o)
    have S1 := fun o => (same_new n1).trans (S2 o)
    have hhf := fun o => hh2.same (S1 o)
    refine ⟨_, rfl, a, d, 10, rfl, by decide, hhf _, fun r H3 l3 u3 hh3 k3 => ?_⟩
    obtain ⟨y, hat, hm⟩ := atI_mem (xs := [.ref p1, .ref p2, .ref p3, .ref p4, .ref p5, .ref p6, .ref p7, .ref p8, .ref p9, .ref p10]) l3 u3
    refine ⟨L, _, r, y, rfl, rfl, .inl (.inl (k3 _ _ upd_same ?_)), hat, ?_⟩
    · exact (Hnd.ne (hh2.same ((same_new n1).trans ((same_new n2).trans ((same_new n3).trans ((same_new n4).trans ((same_new n5).trans ((same_new n6).trans ((same_new n7).trans ((same_new n8).trans ((same_new n9).trans (same_new n10))))))))))) nL).1
    obtain ⟨n, l, p, rfl, hT, hn, hl⟩ : ∃ (n l : Nat) (p : Addr), y = .ref p ∧ SqT K H3 p [.int (n : Int), .int (l : Int)] ∧ n ≤ 9 ∧ l ≤ 9 := by
      have on : ∀ {p : Addr} {xs : List V} {H0 : Hp}, H0 p = some (.tup xs) → Same H0 _ → SqT K H3 p xs := fun e s0 => sqt_on (same_sqt k3.off (sqt_off (hhf _) (same_sqt s0 (.inl (.inl e)))))
      rcases List.mem_cons.mp hm with e | hm
      · exact ⟨8, 4, p1, e, on upd_same (S2 _), by decide, by decide⟩
      rcases List.mem_cons.mp hm with e | hm
      · exact ⟨4, 8, p2, e, on upd_same (S3 _), by decide, by decide⟩
      rcases List.mem_cons.mp hm with e | hm
      · exact ⟨8, 5, p3, e, on upd_same (S4 _), by decide, by decide⟩
      rcases List.mem_cons.mp hm with e | hm
      · exact ⟨5, 8, p4, e, on upd_same (S5 _), by decide, by decide⟩
      rcases List.mem_cons.mp hm with e | hm
      · exact ⟨9, 1, p5, e, on upd_same (S6 _), by decide, by decide⟩
      rcases List.mem_cons.mp hm with e | hm
      · exact ⟨1, 9, p6, e, on upd_same (S7 _), by decide, by decide⟩
      rcases List.mem_cons.mp hm with e | hm
      · exact ⟨0, 3, p7, e, on upd_same (S8 _), by decide, by decide⟩
      rcases List.mem_cons.mp hm with e | hm
      · exact ⟨3, 0, p8, e, on upd_same (S9 _), by decide, by decide⟩
      rcases List.mem_cons.mp hm with e | hm
      · exact ⟨6, 6, p9, e, on upd_same (S10 _), by decide, by decide⟩
      rcases List.mem_cons.mp hm with e | hm
      · exact ⟨7, 6, p10, e, on upd_same (S _), by decide, by decide⟩
      exact nomatch hm
    have hp : 2 ^ n ≤ 512 := two_pow_le (b := 9) hn
    have hp1 : 1 ≤ 2 ^ n := Nat.one_le_two_pow
    have hq : 2 ^ l ≤ 512 := two_pow_le (b := 9) hl
    have hq1 : 1 ≤ 2 ^ l := Nat.one_le_two_pow
    have kk := (Keep.same (a := a) (S1 _)).trans k3
    refine ⟨p, _, rfl, hT, rfl, _, _, rfl, _, _, rfl, rfl, ?_⟩
    refine ⟨_, rfl, _, rfl, (by show 1 ≤ sizeLine; decide), fun w1 nw1 => ⟨_, rfl, _, _, rfl, rfl, ⟨by omega, by omega, by decide⟩, w1, _, .str "1", rfl, rfl, .inl (.inl upd_same), ?_, ?_, fun t H4 s4 t4 => ⟨(by show 1 ≤ sizeLine; decide), fun w2 nw2 => ⟨_, rfl, _, _, rfl, rfl, ⟨by omega, by omega, by decide⟩, w2, _, .ref t, rfl, rfl, .inl (.inl upd_same), ?_, ?_, fun t2 H5 s5 t5 => ⟨(by show 5 ≤ sizeLine; decide), fun g ng => ?_⟩⟩⟩⟩⟩
    · rw [shl_one]
      generalize 2 ^ n = N at *
      generalize 2 ^ l = M at *
      omega
    · rw [shl_one]
      generalize 2 ^ n = N at *
      generalize 2 ^ l = M at *
      omega
    · rw [shl_one]
      generalize 2 ^ n = N at *
      generalize 2 ^ l = M at *
      omega
    · rw [shl_one]
      generalize 2 ^ n = N at *
      generalize 2 ^ l = M at *
      omega
    · rw [shl_one, Int.toNat_natCast] at t4 t5
      generalize 2 ^ n = N at *
      generalize 2 ^ l = M at *
      have s35 := (same_new nw2).trans s5
      have ss := ((same_new nw1).trans s4).trans s35
      have hh5 := hh3.same ss
      have k5 : Keep a H2 (upd H5 g (.tup [.str "function", .int (n : Int), .int (l : Int), .int 1, .ref t2])) := kk.trans ((Keep.same ss).trans (Keep.new ng))
      have o5 : Oks K a H5 5000 3 [.str "function", .int (n : Int), .int (l : Int), .int 1, .ref t2] := .cons (okt (by decide +kernel) (by decide +kernel)) (.cons (oki (by omega)) (.cons (oki (by omega)) (.cons (oki (by decide)) (.cons (.up (.tup hh5 t5 (.rep (.tup hh5 (same_sqt s35 t4) (.rep (n := 0) (okt (by decide +kernel) (by decide +kernel)) M) (by rw [List.length_replicate]; omega)) N) (by rw [List.length_replicate]; omega)) (Nat.le_refl _) (by decide)) .nil))))
      exact q _ _ (.of (s := 5000) (n := 4) (.tup (hh5.new ng) (.inl (.inl upd_same)) (o5.keep (Keep.new ng)) (by show 5 ≤ 5000; decide)) (by decide) (by decide)) (hh5.new ng) (k12.trans k5)

theorem ok_law2 {f : Addr} {fd : FuncData} (F : Fun K "law" "law" s_law f fd) (T : Txt K mg cs) (c_law_draws : Cl P w K mg base CX0 1 "_law_draws" (spDraws K)) (c_law_take : Cl P w K mg base CX0 1 "_law_take" spTake)
    (c_law_table : Cl P w K mg base CX0 3 "_law_table" (spTable K)) (c_law_function : Cl P w K mg base CX0 3 "_law_function" (spFunction K)) (c_law_is_right : Cl P w K mg base CX0 4 "_law_is_right" (spRight K))
    (c_law_bent : Cl P w K mg base CX0 9 "_law_bent" (spBent K 4)) (c_law_odd : Cl P w K mg base CX0 6 "_law_odd" (spOdd K 4)) (c_law_edge : Cl P w K mg base CX0 2 "_law_edge" (spEdge K)) : FnOk P w K mg base CX0 10 f fd ["script"] (spLaw K) := by
  refine F.ok sc_law (fun vs H Q E h => ?_) (fun cdv A outer s H vs Q E hr h => ?_)
  · obtain ⟨a, ns, rfl, _⟩ := h
    rfl
  · obtain ⟨a, ns, rfl, hS, hlen, q⟩ := h
    refine ⟨_, (pss_cons (ps_set (i := 1) sc_law.nd rfl (.inl rfl) (pe_lst (pa_cons (pe_cl c_law_draws hr (by first | decide | omega) (by rfl) (pa_cons (pv 0) (pa_cons pe_int pa_nil))) (pa_cons pe_int pa_nil)))) (pss_cons (ps_set (i := 2) sc_law.nd rfl (.inl rfl) (pe_cl c_law_table hr (by first | decide | omega) (by rfl) (pa_cons (pv 1) (pa_cons (pe_op op_add pe_int (pe_cl c_law_take hr (by first | decide | omega) (by rfl) (pa_cons (pv 1) (pa_cons pe_int pa_nil)))) (pa_cons (pe_op op_add pe_int (pe_cl c_law_take hr (by first | decide | omega) (by rfl) (pa_cons (pv 1) (pa_cons pe_int pa_nil)))) pa_nil))))) (pss_cons (ps_set (i := 3) sc_law.nd rfl (.inl rfl) (pe_cl c_law_function hr (by first | decide | omega) (by rfl) (pa_cons (pv 1) (pa_cons (pe_op op_add pe_int (pe_cl c_law_take hr (by first | decide | omega) (by rfl) (pa_cons (pv 1) (pa_cons pe_int pa_nil)))) (pa_cons (pe_op op_add pe_int (pe_cl c_law_take hr (by first | decide | omega) (by rfl) (pa_cons (pv 1) (pa_cons pe_int pa_nil)))) (pa_cons (pe_op op_add pe_int (pe_cl c_law_take hr (by first | decide | omega) (by rfl) (pa_cons (pv 1) (pa_cons pe_int pa_nil)))) pa_nil)))))) (pss_cons (ps_for PassesOwn.never rfl (pi_list (pe_lst (pa_cons (pv 2) (pa_cons (pv 3) pa_nil)))) (pg_name (i := 4) sc_law.nd rfl (.inl rfl)) (pss_cons (ps_if (pt_not (pt_val (pe_cl c_law_is_right hr (by first | decide | omega) (by rfl) (pa_cons (pv 4) pa_nil)))) (pss_one (ps_ret pe_bl)) pss_nil) (pss_one (ps_for PassesOwn.never rfl (pi_range1 (by rfl) T.n_range (pa_cons pe_int pa_nil)) (pg_name (i := 5) sc_law.nd rfl (.inl rfl)) (pss_cons (ps_set (i := 6) sc_law.nd rfl (.inl rfl) (pe_cl c_law_bent hr (by first | decide | omega) (by rfl) (pa_cons (pv 1) (pa_cons (pv 4) (pa_cons pe_int pa_nil))))) (pss_one (ps_if (PW.pt (pw_or (pt_not (pt_val (pe_cl c_law_is_right hr (by first | decide | omega) (by rfl) (pa_cons (pv 6) pa_nil)))) (pw_or1 (pt_not (pt_val (pe_cl c_law_is_right hr (by first | decide | omega) (by rfl) (pa_cons (pe_cl c_law_bent hr (by first | decide | omega) (by rfl) (pa_cons (pv 1) (pa_cons (pv 6) (pa_cons pe_int pa_nil)))) pa_nil))))))) (pss_one (ps_ret pe_bl)) pss_nil))))))) (pss_cons (ps_set (i := 7) sc_law.nd rfl (.inl rfl) (pe_lst (pa_cons (pe_op (opCatA K) (pe_tup (pa_cons pe_str pa_nil)) (pe_slice (slTA K) (pv 2) (po_some pe_int) po_none)) (pa_cons (pe_op (opCatA K) (pe_tup (pa_cons pe_str pa_nil)) (pe_slice (slTA K) (pv 3) (po_some pe_int) po_none)) (pa_cons (pe_op (opCatA K) (pv 2) (pe_tup (pa_cons pe_int pa_nil))) (pa_cons (pe_slice (slTA K) (pv 3) po_none (po_some pe_int)) (pa_cons (pe_tup (pa_cons pe_str (pa_cons pe_int (pa_cons pe_int (pa_cons (pe_tup (pa_cons pe_str (pa_cons pe_int pa_nil))) pa_nil))))) pa_nil))))))) (pss_cons (ps_for PassesOwn.never rfl (pi_list (pe_op op_cat (pv 7) (pe_lst (pa_cons (pe_tup (pa_cons pe_str (pa_cons pe_bl (pa_cons pe_int (pa_cons (pe_tup (pa_cons pe_str (pa_cons pe_str pa_nil))) pa_nil))))) (pa_cons (pe_tup (pa_cons pe_str (pa_cons pe_int (pa_cons pe_int (pa_cons (pe_lst (pa_cons pe_str (pa_cons pe_str pa_nil))) pa_nil))))) (pa_cons (pe_cl c_law_odd hr (by first | decide | omega) (by rfl) (pa_cons (pv 1) (pa_cons pe_int pa_nil))) (pa_cons (pe_callTy (listOf K) (by rfl) T.n_list (by decide +kernel) (pa_cons (pv 2) pa_nil)) pa_nil))))))) (pg_name (i := 8) sc_law.nd rfl (.inl rfl)) (pss_one (ps_if (pt_not (pt_val (pe_cl c_law_is_right hr (by first | decide | omega) (by rfl) (pa_cons (pv 8) pa_nil)))) (pss_one (ps_ret pe_bl)) pss_nil))) (pss_cons (ps_set (i := 9) sc_law.nd rfl (.inl rfl) (pe_callTy (listOf K) (by rfl) T.n_list (by decide +kernel) (pa_cons (pe_ix (ixT K) (pe_cl c_law_table hr (by first | decide | omega) (by rfl) (pa_cons (pv 1) (pa_cons pe_int (pa_cons pe_int pa_nil)))) pe_int (fun _ _ => rfl)) pa_nil))) (pss_cons (ps_set (i := 10) sc_law.nd rfl (.inl rfl) (pe_cl c_law_take hr (by first | decide | omega) (by rfl) (pa_cons (pv 1) (pa_cons pe_int pa_nil)))) (pss_cons (ps_set (i := 11) sc_law.nd rfl (.inl rfl) (pe_cl c_law_take hr (by first | decide | omega) (by rfl) (pa_cons (pv 1) (pa_cons pe_int pa_nil)))) (pss_cons (ps_for PassesOwn.never rfl (pi_list (pe_lst (pa_cons pe_str (pa_cons pe_str (pa_cons pe_str (pa_cons pe_str (pa_cons pe_str pa_nil))))))) (pg_name (i := 12) sc_law.nd rfl (.inl rfl)) (pss_cons (ps_set (i := 6) sc_law.nd rfl (.inl rfl) (pe_op op_cat (pe_op op_cat (pe_slice (slL K) (pv 9) po_none (po_some (pv 10))) (pe_lst (pa_cons (pe_op op_add_str (pe_op op_add_str (pe_slice sl_str (pe_ix (ixL K) (pv 9) (pv 10) (fun _ _ => rfl)) po_none (po_some (pv 11))) (pv 12)) (pe_slice sl_str (pe_ix (ixL K) (pv 9) (pv 10) (fun _ _ => rfl)) (po_some (pe_op op_add (pv 11) pe_int)) po_none)) pa_nil))) (pe_slice (slL K) (pv 9) (po_some (pe_op op_add (pv 10) pe_int)) po_none))) (pss_one (ps_if (pt_not (pt_val (pe_cl c_law_is_right hr (by first | decide | omega) (by rfl) (pa_cons (pe_tup (pa_cons pe_str (pa_cons pe_int (pa_cons pe_int (pa_cons (pe_callTy (tupOf K) (by rfl) T.n_tuple (by decide +kernel) (pa_cons (pv 6) pa_nil)) pa_nil))))) pa_nil)))) (pss_one (ps_ret pe_bl)) pss_nil)))) (pss_one (ps_ret (pe_or (pe_cmpR op_gt (pe_cl c_law_take hr (by first | decide | omega) (by rfl) (pa_cons (pv 1) (pa_cons pe_int pa_nil))) pe_int (nomark _)) (pe_one (pe_cl c_law_is_right hr (by first | decide | omega) (by rfl) (pa_cons (pe_cl c_law_edge hr (by first | decide | omega) (by rfl) (pa_cons (pv 1) pa_nil)) pa_nil)))))))))))))))), ?_⟩
    refine ⟨_, rfl, a, ns, 400, rfl, hS, hlen, by omega, fun d ds H1 nd s1 ed hd0 => ⟨(by show 2 ≤ sizeLine; decide), fun b nb => ?_⟩⟩
    have hn1 : Hnd (upd H1 b (.lst [.ref d, .int 0])) b d := ⟨ds, 0, upd_same, by rw [upd_ne (ne_of_none ed nb)]; exact ed, hd0, ne_of_none ed nb⟩
    generalize upd H1 b (.lst [.ref d, .int 0]) = H2 at hn1
    clear nb ed nd s1
    have q1 : ∀ H', Q (.bl true) H' := q
    clear q
    -- one
    refine ⟨_, rfl, _, rfl, b, d, 3, rfl, by decide, hn1, fun r1 H3 l1 u1 hn3 k3 => ⟨_, _, rfl, rfl, _, rfl, b, d, 5, rfl, by decide, hn3, fun r2 H4 l2 u2 hn4 k4 => ⟨_, _, rfl, rfl, ?_⟩⟩⟩
    obtain ⟨n, en, hn⟩ : ∃ n : Nat, (1 : Int) + r1 = (n : Int) ∧ n ≤ 3 := ⟨(1 + r1).toNat, by omega, by omega⟩
    obtain ⟨m, em, hm⟩ : ∃ n : Nat, (1 : Int) + r2 = (n : Int) ∧ n ≤ 5 := ⟨(1 + r2).toNat, by omega, by omega⟩
    refine ⟨b, d, n, m, ?_, by omega, by omega, hn4, fun v1 rows1 H5 hl1 hr1 hd1 hn5 k5 => ?_⟩
    · show [V.ref b, V.int (1 + r1), V.int (1 + r2)] = _
      rw [en, em]
    have hrl := two_pow_le (b := 3) hn
    obtain ⟨p1, w1, rfl, o1⟩ := okT_tab hd1 (by omega) (by omega) (by rw [hl1]; exact Nat.le_trans hrl (by decide)) hr1
    clear hd1 hr1 hl1 hrl en em l1 u1 l2 u2 hn hm hn1 hn3 hn4 k3 k4 k5
    -- two
    refine ⟨_, rfl, _, rfl, b, d, 2, rfl, by decide, hn5, fun r1 H6 l1 u1 hn6 k6 => ⟨_, _, rfl, rfl, _, rfl, b, d, 2, rfl, by decide, hn6, fun r2 H7 l2 u2 hn7 k7 => ⟨_, _, rfl, rfl, _, rfl, b, d, 4, rfl, by decide, hn7, fun r3 H8 l3 u3 hn8 k8 => ⟨_, _, rfl, rfl, ?_⟩⟩⟩⟩
    obtain ⟨n, en, hn⟩ : ∃ n : Nat, (1 : Int) + r1 = (n : Int) ∧ n ≤ 2 := ⟨(1 + r1).toNat, by omega, by omega⟩
    obtain ⟨l, el, hl⟩ : ∃ n : Nat, (1 : Int) + r2 = (n : Int) ∧ n ≤ 2 := ⟨(1 + r2).toNat, by omega, by omega⟩
    obtain ⟨m, em, hm⟩ : ∃ n : Nat, (1 : Int) + r3 = (n : Int) ∧ n ≤ 4 := ⟨(1 + r3).toNat, by omega, by omega⟩
    refine ⟨b, d, n, l, m, ?_, by omega, by omega, by omega, hn8, fun v2 tabs2 H9 hl2 hr2 hd2 hn9 k9 => ?_⟩
    · show [V.ref b, V.int (1 + r1), V.int (1 + r2), V.int (1 + r3)] = _
      rw [en, el, em]
    have hrl := two_pow_le (b := 2) hn
    have hrl2 := two_pow_le (b := 2) hl
    obtain ⟨p2, w2, rfl, o2⟩ := okT_fun hd2 (by omega) (by omega) (by omega) (by rw [hl2]; exact Nat.le_trans hrl (by decide)) (fun rows h => ⟨by rw [(hr2 rows h).1]; exact Nat.le_trans hrl2 (by decide), (hr2 rows h).2⟩)
    replace o1 := o1.keep (((k6.trans k7).trans k8).trans k9)
    clear hd2 hr2 hl2 hrl hrl2 en el em l1 u1 l2 u2 l3 u3 hn hm hl hn5 hn6 hn7 hn8 k6 k7 k8 k9
    -- for block in [one, two]
    refine ⟨_, rfl, _, rfl, (by show 2 ≤ sizeLine; decide), fun L nL => ?_⟩
    have kL : Keep b H9 (upd H9 L (.lst [.ref p1, .ref p2])) := Keep.new nL
    have nLb := (hn9.ne nL).1
    refine ⟨L, rfl, ⟨_, .inl (.inl upd_same)⟩, for_list (xs := [.ref p1, .ref p2]) (fun i σ H' => ∃ y4 y5 y6 : Option V, σ = [some (.ref a), some (.ref b), some (.ref p1), some (.ref p2), y4, y5, y6, none, none, none, none, none, none] ∧ Hnd H' b d ∧ Keep b H9 H' ∧ H' L = some (.lst [.ref p1, .ref p2])) ?_ ?_ ?_ ?_⟩
    · exact ⟨none, none, none, rfl, hn9.new nL, kL, upd_same⟩
    · rintro i σ H' _ ⟨_, _, _, _, _, _, e⟩
      exact .inl (.inl e)
    · rintro i x σ H' hx ⟨y4, y5, y6, rfl, hh, kk, eL⟩
      have ox : Ok K b H9 70 3 x := by
        rcases List.mem_cons.mp (List.mem_of_getElem? hx) with e | h
        · rw [e]
          exact o1.ok
        rcases List.mem_cons.mp h with e | h
        · rw [e]
          exact o2.ok
        exact nomatch h
      obtain ⟨D, hD, hG⟩ := ok_on (ox.keep kk) (by decide)
      refine ⟨_, rfl, x, D, 3, rfl, hD, hG, by decide, fun H10 s10 => ⟨_, rfl, ?_⟩⟩
      clear hD hG
      have hh10 := hh.same s10
      have k10 := kk.trans (Keep.same s10)
      have eL10 := s10 _ _ eL
      refine ⟨_, rfl, by decide, by decide, for_range (lo := 0) (n := 4) (fun j σ H' => ∃ y5 y6 : Option V, σ = [some (.ref a), some (.ref b), some (.ref p1), some (.ref p2), some x, y5, y6, none, none, none, none, none, none] ∧ Hnd H' b d ∧ Keep b H9 H' ∧ H' L = some (.lst [.ref p1, .ref p2])) ?_ ?_ ?_⟩
      · exact ⟨y5, y6, rfl, hh10, k10, eL10⟩
      · rintro j σ H' _ ⟨y5, y6, rfl, hh, kk, eL⟩
        refine ⟨_, rfl, _, rfl, b, d, x, 70, 3, 4, rfl, by decide, hh, ox.keep kk, by decide, by decide, by decide, fun v3 H11 ok3 hh11 k11 => ?_⟩
        obtain ⟨D, hD, hG⟩ := ok_on ok3 (by decide)
        refine ⟨_, rfl, v3, D, 6, rfl, hD, hG, by decide, fun H12 s12 => ⟨_, rfl, ?_⟩⟩
        clear hD hG
        have hh12 := hh11.same s12
        refine ⟨_, rfl, _, rfl, b, d, v3, 72, 6, 4, rfl, by decide, hh12, ok3.keep (.same s12), by decide, by decide, by decide, fun v4 H13 ok4 hh13 k13 => ?_⟩
        obtain ⟨D, hD, hG⟩ := ok_on ok4 (by decide)
        refine ⟨v4, D, 9, rfl, hD, hG, by decide, fun H14 s14 => ⟨_, rfl, ?_⟩⟩
        have kk2 := ((k11.trans (Keep.same s12)).trans k13).trans (Keep.same s14)
        exact ⟨_, _, rfl, hh13.same s14, kk.trans kk2, kk2 _ _ eL nLb⟩
      · rintro σ H' ⟨y5, y6, rfl, hh, kk, eL⟩
        exact ⟨some x, y5, y6, rfl, hh, kk, eL⟩
    · rintro σ H' ⟨y4, y5, y6, rfl, hh, kk, eL⟩
      replace o1 := o1.keep kk
      replace o2 := o2.keep kk
      clear kk eL nL kL nLb hn9
      have t1' : ∀ k, k ≤ 10 → k ≤ sizeLine := fun k h => by
        rw [sizeLine_eq]
        omega
      have okt : ∀ {G : Hp} {n : Nat} {x : Str}, PySem.PyData.strOk x = true → x.length ≤ 70 → Ok K b G 70 n (.str x) := fun h1 h2 => .str ⟨h1, h2⟩
      have oki : ∀ {G : Hp} {n : Nat} {i : Int}, i.natAbs < 100 → Ok K b G 70 n (.int i) := fun h => .small h (by decide)
      have lc : ∀ (ws : List V) lo hi, (cutV ws lo hi).length ≤ ws.length := fun ws lo hi => cutV_length ws lo hi
      have z1 := o1.l
      have z2 := o2.l
      refine ⟨t1' 1 (by decide), fun t1 n1 => ⟨_, rfl, _, rfl, sl_anyN (same_sqt (same_new n1) (sqt_on o1.t)) fun c1 G1 s1 e1 => cat_any (.inl (.inl (s1 _ _ upd_same))) e1 (t1' _ (by have := lc w1 (some 1) none; show 1 + _ ≤ _; omega)) fun x1 G2 s2 f1 => ?_⟩⟩
      have a2 := ((same_new n1).trans s1).trans s2
      refine ⟨t1' 1 (by decide), fun t2 n2 => ⟨_, rfl, _, rfl, sl_anyN (same_sqt (a2.trans (same_new n2)) (sqt_on o2.t)) fun c2 G3 s3 e3 => cat_any (.inl (.inl (s3 _ _ upd_same))) e3 (t1' _ (by have := lc w2 (some 1) none; show 1 + _ ≤ _; omega)) fun x2 G4 s4 f2 => ?_⟩⟩
      have b4 := ((same_new n2).trans s3).trans s4
      have a4 := a2.trans b4
      refine ⟨_, rfl, t1' 1 (by decide), fun t3 n3 => cat_any (same_sqt (a4.trans (same_new n3)) (sqt_on o1.t)) (.inl (.inl upd_same)) (t1' _ (by show _ + 1 ≤ _; omega)) fun x3 G5 s5 f3 => ?_⟩
      have b5 := (same_new n3).trans s5
      refine ⟨_, rfl, _, rfl, sl_any (same_sqt (a4.trans b5) (sqt_on o2.t)) fun x4 G6 s6 f4 => ?_⟩
      refine ⟨t1' 2 (by decide), fun t5 n5 => ⟨t1' 4 (by decide), fun x5 n6 => ⟨t1' 5 (by decide), fun M nM => ?_⟩⟩⟩
      have c8 := (same_new n6).trans (same_new (o := .lst [.ref x1, .ref x2, .ref x3, .ref x4, .ref x5]) nM)
      have c6 := (same_new n5).trans c8
      have c5 := s6.trans c6
      have c4 := b5.trans c5
      have c2 := b4.trans c4
      have c0 := a2.trans c2
      have hhM := hh.same c0
      have nMb : M ≠ b := (Hnd.ne (hh.same ((a4.trans (b5.trans s6)).trans ((same_new n5).trans (same_new n6)))) nM).1
      have c9 := same_new (o := .lst [.ref x1, .ref x2, .ref x3, .ref x4, .ref x5]) nM
      have eM : upd (upd (upd G6 t5 (.tup [.str "0", .int 1])) x5 (.tup [.str "generator", .int 1, .int 1, .ref t5])) M (.lst [.ref x1, .ref x2, .ref x3, .ref x4, .ref x5]) M = some (.lst [.ref x1, .ref x2, .ref x3, .ref x4, .ref x5]) := upd_same
      have e5 := c9 _ _ (upd_same (a := x5))
      have e6 := c8 _ _ (upd_same (a := t5))
      generalize upd (upd (upd G6 t5 (.tup [.str "0", .int 1])) x5 (.tup [.str "generator", .int 1, .int 1, .ref t5])) M (.lst [.ref x1, .ref x2, .ref x3, .ref x4, .ref x5]) = M0 at c0 c2 c4 c5 c6 c8 c9 hhM eM e5 e6 ⊢
      have q1o := o1.o.keep (.same c0)
      have q2o := o2.o.keep (.same c0)
      have okx : ∀ x ∈ [V.ref x1, V.ref x2, V.ref x3, V.ref x4, V.ref x5], Ok K b M0 70 5 x := by
        intro x hx
        rcases List.mem_cons.mp hx with e | hx
        · rw [e]
          exact .up (.tup hhM (same_sqt c2 f1) (.cons (okt (by decide +kernel) (by decide +kernel)) (.cut _ _ q1o)) (by have := lc w1 (some 1) none; rw [List.length_append]; show 1 + _ ≤ 70; omega)) (Nat.le_refl _) (by decide)
        rcases List.mem_cons.mp hx with e | hx
        · rw [e]
          exact .up (.tup hhM (same_sqt c4 f2) (.cons (okt (by decide +kernel) (by decide +kernel)) (.cut _ _ q2o)) (by have := lc w2 (some 1) none; rw [List.length_append]; show 1 + _ ≤ 70; omega)) (Nat.le_refl _) (by decide)
        rcases List.mem_cons.mp hx with e | hx
        · rw [e]
          exact .up (.tup hhM (same_sqt c5 f3) (.app q1o (.one (oki (by decide)))) (by rw [List.length_append]; show _ + 1 ≤ 70; omega)) (Nat.le_refl _) (by decide)
        rcases List.mem_cons.mp hx with e | hx
        · rw [e]
          exact .up (.tup hhM (same_sqt c6 f4) (.cut _ _ q2o) (by have := lc w2 none (some 4); omega)) (Nat.le_refl _) (by decide)
        rcases List.mem_cons.mp hx with e | hx
        · rw [e]
          exact .up (.tup (n := 2) hhM (.inl (.inl e5)) (.cons (okt (by decide +kernel) (by decide +kernel)) (.cons (oki (by decide)) (.cons (oki (by decide)) (.cons (.tup (n := 1) hhM (.inl (.inl e6)) (.cons (okt (by decide +kernel) (by decide +kernel)) (.cons (oki (by decide)) .nil)) (by show 2 ≤ 70; decide)) .nil)))) (by show 4 ≤ 70; decide)) (Nat.le_refl _) (by decide)
        exact nomatch hx
      replace o1 := o1.keep (.same c0)
      replace o2 := o2.keep (.same c0)
      clear q1o q2o e5 e6 c9 c0 c2 c4 c5 c6 c8 b5 b4 a4 a2 f1 f2 f3 f4 e1 e3 s1 s2 s3 s4 s5 s6 n1 n2 n3 n5 n6 hh
      -- for value in mixed + [..]
      refine ⟨_, rfl, t1' 2 (by decide), fun u1 m1 => ⟨t1' 4 (by decide), fun y1 m2 => ⟨t1' 2 (by decide), fun u2 m3 => ⟨t1' 4 (by decide), fun y2 m4 => ?_⟩⟩⟩⟩
      have d3 := same_new (o := .tup [.str "generator", .int 1, .int 1, .ref u2]) m4
      have d2 := (same_new m3).trans d3
      have d1 := (same_new m2).trans d2
      have d0 := (same_new m1).trans d1
      have eu1 := d1 _ _ (upd_same (a := u1))
      have ey1 := d2 _ _ (upd_same (a := y1))
      have eu2 := d3 _ _ (upd_same (a := u2))
      have ey2 : upd (upd (upd (upd M0 u1 (.tup [.str "0", .str "1"])) y1 (.tup [.str "generator", .bl true, .int 1, .ref u1])) u2 (.lst [.str "0", .str "1"])) y2 (.tup [.str "generator", .int 1, .int 1, .ref u2]) y2 = some (.tup [.str "generator", .int 1, .int 1, .ref u2]) := upd_same
      have hu2 : u2 ≠ b := (((hhM.new m1).new m2).ne m3).1
      generalize upd (upd (upd (upd M0 u1 (.tup [.str "0", .str "1"])) y1 (.tup [.str "generator", .bl true, .int 1, .ref u1])) u2 (.lst [.str "0", .str "1"])) y2 (.tup [.str "generator", .int 1, .int 1, .ref u2]) = J0 at d0 d1 d2 d3 eu1 ey1 eu2 ey2 ⊢
      have hhJ0 := hhM.same d0
      have okx := fun x hx => (okx x hx).keep (.same d0)
      have oky1 : Ok K b J0 70 5 (.ref y1) := .up (.tup (n := 2) hhJ0 (.inl (.inl ey1)) (.cons (okt (by decide +kernel) (by decide +kernel)) (.cons .bl (.cons (oki (by decide)) (.cons (.tup (n := 1) hhJ0 (.inl (.inl eu1)) (.cons (okt (by decide +kernel) (by decide +kernel)) (.cons (okt (by decide +kernel) (by decide +kernel)) .nil)) (by show 2 ≤ 70; decide)) .nil)))) (by show 4 ≤ 70; decide)) (Nat.le_refl _) (by decide)
      have oky2 : Ok K b J0 70 5 (.ref y2) := .up (.tup (n := 2) hhJ0 (.inl (.inl ey2)) (.cons (okt (by decide +kernel) (by decide +kernel)) (.cons (oki (by decide)) (.cons (oki (by decide)) (.cons (.lst (n := 1) hu2 eu2 (.cons (okt (by decide +kernel) (by decide +kernel)) (.cons (okt (by decide +kernel) (by decide +kernel)) .nil)) (by show 2 ≤ 70; decide)) .nil)))) (by show 4 ≤ 70; decide)) (Nat.le_refl _) (by decide)
      replace o1 := o1.keep (.same d0)
      have eM0 := d0 _ _ eM
      clear m1 m2 m3 m4 d1 d2 d3 eu1 ey1 eu2 ey2 d0 eM
      refine ⟨_, rfl, b, d, 4, rfl, by decide, hhJ0, fun v5 J ok5 hhJ kJ => ?_⟩
      replace ok5 := ok5.ok hhJ0.some
      replace okx := fun x hx => (okx x hx).keep kJ
      replace oky1 := oky1.keep kJ
      replace oky2 := oky2.keep kJ
      replace o1 := o1.keep kJ
      have eMJ := kJ _ _ eM0 nMb
      refine ⟨_, rfl, p1, w1, rfl, .inr (sqt_on o1.t), fun l1 nl1 => ⟨t1' 4 (by decide), fun N nN => ⟨M, N, [.ref x1, .ref x2, .ref x3, .ref x4, .ref x5], _, rfl, rfl, ?_, upd_same, t1' 9 (by decide), fun Z nZ => ?_⟩⟩⟩
      · rw [upd_ne (ne_of_none (by rw [upd_ne (ne_of_none eMJ nl1)]; exact eMJ) nN), upd_ne (ne_of_none eMJ nl1)]
        exact eMJ
      have hl1 := (hhJ.ne nl1)
      have hhN := hhJ.new (o := .lst w1) nl1
      have hhZ := hhN.new (o := .lst [.ref y1, .ref y2, v5, .ref l1]) nN
      have g2 := same_new (o := .lst ([.ref x1, .ref x2, .ref x3, .ref x4, .ref x5] ++ [.ref y1, .ref y2, v5, .ref l1])) nZ
      have g1 := (same_new nN).trans g2
      have g0 := (same_new nl1).trans g1
      have nZb := (hhZ.ne nZ).1
      have el1 := g1 _ _ (upd_same (a := l1))
      have eZ : upd (upd (upd J l1 (.lst w1)) N (.lst [.ref y1, .ref y2, v5, .ref l1])) Z (.lst ([.ref x1, .ref x2, .ref x3, .ref x4, .ref x5] ++ [.ref y1, .ref y2, v5, .ref l1])) Z = some (.lst ([.ref x1, .ref x2, .ref x3, .ref x4, .ref x5] ++ [.ref y1, .ref y2, v5, .ref l1])) := upd_same
      generalize upd (upd (upd J l1 (.lst w1)) N (.lst [.ref y1, .ref y2, v5, .ref l1])) Z (.lst ([.ref x1, .ref x2, .ref x3, .ref x4, .ref x5] ++ [.ref y1, .ref y2, v5, .ref l1])) = J9 at g0 g1 g2 eZ el1 ⊢
      have hh9 := hhJ.same g0
      replace o1 := o1.keep (.same g0)
      have okl : Ok K b J9 70 5 (.ref l1) := .up (.lst (n := 2) hl1.1 el1 o1.o (by omega)) (Nat.le_refl _) (by decide)
      have okz : ∀ x ∈ [V.ref x1, V.ref x2, V.ref x3, V.ref x4, V.ref x5] ++ [V.ref y1, V.ref y2, v5, V.ref l1], Ok K b J9 70 5 x := by
        intro x hx
        rcases List.mem_append.mp hx with h | hx
        · exact (okx x h).keep (.same g0)
        rcases List.mem_cons.mp hx with e | hx
        · rw [e]
          exact oky1.keep (.same g0)
        rcases List.mem_cons.mp hx with e | hx
        · rw [e]
          exact oky2.keep (.same g0)
        rcases List.mem_cons.mp hx with e | hx
        · rw [e]
          exact ok5.keep (.same g0)
        rcases List.mem_cons.mp hx with e | hx
        · rw [e]
          exact okl
        exact nomatch hx
      clear okx oky1 oky2 ok5 okl el1 g0 g1 g2 hhZ hhN hl1 nN nl1 eMJ kJ hhJ0 eM0 o1 o2 hhM
      refine ⟨Z, rfl, ⟨_, .inl (.inl eZ)⟩, for_list (xs := [.ref x1, .ref x2, .ref x3, .ref x4, .ref x5] ++ [.ref y1, .ref y2, v5, .ref l1]) (fun i σ H' => ∃ y4 y5 y6 y8 : Option V, σ = [some (.ref a), some (.ref b), some (.ref p1), some (.ref p2), y4, y5, y6, some (.ref M), y8, none, none, none, none] ∧ Hnd H' b d ∧ Keep b J9 H') ?_ ?_ ?_ ?_⟩
      · exact ⟨_, _, _, _, rfl, hh9, Keep.refl _ _⟩
      · rintro i σ H' _ ⟨_, _, _, _, _, _, kk⟩
        exact .inl (.inl (kk _ _ eZ nZb))
      · rintro i x σ H' hx ⟨y4, y5, y6, y8, rfl, hh, kk⟩
        obtain ⟨D, hD, hG⟩ := ok_on ((okz x (List.mem_of_getElem? hx)).keep kk) (by decide)
        exact ⟨_, rfl, x, D, 5, rfl, hD, hG, by decide, fun H10 s10 => ⟨_, rfl, _, _, _, _, rfl, hh.same s10, kk.trans (Keep.same s10)⟩⟩
      · rintro σ H' ⟨y4, y5, y6, y8, rfl, hh, _⟩
        clear okz eZ hh9
        -- rows
        refine ⟨_, rfl, b, d, 4, 6, rfl, by decide, by decide, hh, fun v3 rows3 H3 hl3 hr3 hd3 hn3 k3 => ?_⟩
        obtain ⟨p3, w3, rfl, hT3, hA3⟩ : ∃ p ws, v3 = .ref p ∧ SqT K H3 p ws ∧ DpAll K (off b H3) ws [.str "generator", .int ((4 : Nat) : Int), .int ((6 : Nat) : Int), rowsD rows3] := by
          cases hd3 with
          | @tup p ws _ hT hA => exact ⟨p, ws, rfl, sqt_on hT, hA⟩
        obtain ⟨c0, c1, c2, c3, rfl, hdr⟩ := dp4' hA3
        obtain ⟨p4, rfl, hT4⟩ : ∃ p, c3 = .ref p ∧ SqT K H3 p (rows3.map fun r => V.str (sb r)) := by
          cases hdr with
          | @tup p ws _ hT hA => exact ⟨p, rfl, by rw [← dp_sbs hA]; exact sqt_on hT⟩
        have hw : (rows3.map fun r => V.str (sb r)).length = 16 := by
          rw [List.length_map, hl3]
        have hel : ∀ v ∈ rows3.map (fun r => V.str (sb r)), ∃ x : Str, v = .str x ∧ okS 6 x := by
          intro v hv
          obtain ⟨r, hr, rfl⟩ := List.mem_map.mp hv
          exact ⟨_, rfl, okS_sb (by rw [hr3 r hr]; decide)⟩
        clear hdr hA3 hd3 hr3 hl3
        generalize (rows3.map fun r => V.str (sb r)) = wr at hT4 hw hel
        refine ⟨p3, _, 3, _, rfl, rfl, hT3, rfl, p4, wr, rfl, .inr hT4, fun R nR => ?_⟩
        have nRb := (hn3.ne nR).1
        have hnR := hn3.new (o := .lst wr) nR
        have eR : upd H3 R (.lst wr) R = some (.lst wr) := upd_same
        generalize upd H3 R (.lst wr) = H4 at hnR eR ⊢
        refine ⟨_, rfl, b, d, 16, rfl, by decide, hnR, fun at' H5 l1 u1 hn5 k5 => ⟨_, rfl, b, d, 6, rfl, by decide, hn5, fun pl H6 l2 u2 hn6 k6 => ?_⟩⟩
        obtain ⟨j, rfl⟩ : ∃ k : Nat, at' = (k : Int) := ⟨at'.toNat, by omega⟩
        obtain ⟨k, rfl⟩ : ∃ k : Nat, pl = (k : Int) := ⟨pl.toNat, by omega⟩
        have eR6 := k6 _ _ (k5 _ _ eR nRb) nRb
        obtain ⟨xr, hxr⟩ : ∃ x, wr[j]? = some x := ⟨_, List.getElem?_eq_getElem (by omega)⟩
        obtain ⟨rs, rfl, hrs⟩ := hel _ (List.mem_of_getElem? hxr)
        have okw : ∀ {G : Hp}, Oks K b G 70 1 wr := .up (oks_strs (n := 1) hel) (by decide) (Nat.le_refl _)
        clear eR nR hnR hT4 hT3 hn3 hn5 k5 k6 k3
        refine ⟨t1' 5 (by decide), fun L nL => ?_⟩
        have nLb := (hn6.ne nL).1
        refine ⟨L, rfl, ⟨_, .inl (.inl upd_same)⟩, for_list (xs := [.str "2", .str "", .str " ", .str "0", .str "11"]) (fun i σ H' => ∃ y4 y5 y6 y8 y12 : Option V, σ = [some (.ref a), some (.ref b), some (.ref p1), some (.ref p2), y4, y5, y6, some (.ref M), y8, some (.ref R), some (.int (j : Int)), some (.int (k : Int)), y12] ∧ Hnd H' b d ∧ H' R = some (.lst wr) ∧ H' L = some (.lst [.str "2", .str "", .str " ", .str "0", .str "11"])) ?_ ?_ ?_ ?_⟩
        · exact ⟨_, _, _, _, _, rfl, hn6.new nL, by rw [upd_ne (ne_of_none eR6 nL)]; exact eR6, upd_same⟩
        · rintro i σ H' _ ⟨_, _, _, _, _, _, _, _, e⟩
          exact .inl (.inl e)
        · rintro i x σ H' hx ⟨y4, y5, y6, y8, y12, rfl, hh, eR, eL⟩
          obtain ⟨sg, rfl, hsg⟩ : ∃ sg : Str, x = .str sg ∧ okS 2 sg := by
            have hm := List.mem_of_getElem? hx
            iterate 5
              rcases List.mem_cons.mp hm with e | hm
              · exact ⟨_, e, by decide +kernel, by decide +kernel⟩
            exact nomatch hm
          have hrsl : rs.length ≤ sizeLine := t1' _ (Nat.le_trans hrs.2 (by decide))
          have e1 : ((k : Int) + 1) = ((k + 1 : Nat) : Int) := by omega
          have o1 : okS 6 (cutS rs none (some (k : Int))) := ⟨strOk_cut hrs.1, Nat.le_trans (cutS_length _ _ _) hrs.2⟩
          have o2 : okS 6 (cutS rs (some ((k : Int) + 1)) none) := ⟨strOk_cut hrs.1, Nat.le_trans (cutS_length _ _ _) hrs.2⟩
          have o3 := okS_app o1 hsg
          have o4 := okS_app o3 o2
          have lc1 := cutV_length wr none (some (j : Int))
          have lc2 := cutV_length wr (some ((j : Int) + 1)) none
          have sz : ∀ n : Nat, n ≤ 1000 → n ≤ sizeLine := fun n h => by
            rw [sizeLine_eq]
            omega
          refine ⟨_, rfl, _, rfl, _, rfl, R, wr, rfl, .inl (.inl eR), fun u1 m1 => ?_⟩
          have eR1 := same_new (o := .lst (cutV wr none (some (j : Int)))) m1 _ _ eR
          refine ⟨_, rfl, _, rfl, R, wr, (j : Int), _, rfl, rfl, .inl (.inl eR1), atI_nat hxr, _, rfl, _, rfl, rs, rfl, hrsl, _, rfl, _, _, rfl, rfl, ?_, ?_⟩
          · rw [← str_app_len]
            exact sz _ (Nat.le_trans o3.2 (by decide))
          refine ⟨_, rfl, _, rfl, R, wr, (j : Int), _, rfl, rfl, .inl (.inl eR1), atI_nat hxr, _, rfl, _, _, rfl, rfl, _, rfl, rs, rfl, hrsl, _, _, rfl, rfl, ?_, ?_⟩
          · rw [← str_app_len]
            exact sz _ (Nat.le_trans o4.2 (by decide))
          refine ⟨t1' 1 (by decide), fun u2 m2 => ?_⟩
          have n12 : u1 ≠ u2 := ne_of_none upd_same m2
          refine ⟨u1, u2, _, _, rfl, rfl, by rw [upd_ne n12]; exact upd_same, upd_same, sz _ (by show _ + 1 ≤ _; omega), fun u3 m3 => ?_⟩
          have s13 := ((same_new m1).trans (same_new m2)).trans (same_new (o := .lst (cutV wr none (some (j : Int)) ++ [.str (cutS rs none (some (k : Int)) ++ sg ++ cutS rs (some ((k : Int) + 1)) none)])) m3)
          refine ⟨_, rfl, _, rfl, _, _, rfl, rfl, _, rfl, R, wr, rfl, .inl (.inl (s13 _ _ eR)), fun u4 m4 => ?_⟩
          have n34 : u3 ≠ u4 := ne_of_none upd_same m4
          refine ⟨u3, u4, _, _, rfl, rfl, by rw [upd_ne n34]; exact upd_same, upd_same, sz _ (by rw [List.length_append]; show _ + 1 + _ ≤ _; omega), fun u5 m5 => ?_⟩
          have s34 := (s13.trans (same_new (o := .lst (cutV wr (some ((j : Int) + 1)) none)) m4)).trans (same_new (o := .lst (cutV wr none (some (j : Int)) ++ [.str (cutS rs none (some (k : Int)) ++ sg ++ cutS rs (some ((k : Int) + 1)) none)] ++ cutV wr (some ((j : Int) + 1)) none)) m5)
          refine ⟨_, rfl, u5, _, rfl, .inl ⟨.inl (.inl upd_same), fun u6 m6 => ⟨t1' 4 (by decide), fun u7 m7 => ?_⟩⟩⟩
          have s67 := (s34.trans (same_new (o := .tup (cutV wr none (some (j : Int)) ++ [.str (cutS rs none (some (k : Int)) ++ sg ++ cutS rs (some ((k : Int) + 1)) none)] ++ cutV wr (some ((j : Int) + 1)) none)) m6)).trans (same_new (o := .tup [.str "generator", .int 4, .int 6, .ref u6]) m7)
          have hh7 := hh.same s67
          have okg := Ok.tup (K := K) (s := 70) (n := 2) (p := u7) hh7 (.inl (.inl upd_same)) (.cons (okt (by decide +kernel) (by decide +kernel)) (.cons (oki (by decide)) (.cons (oki (by decide)) (.cons (.tup (n := 1) hh7 (.inl (.inl (same_new m7 _ _ upd_same))) (.app (.app (.cut _ _ okw) (.one (.str (okS_mono o4 (by decide))))) (.cut _ _ okw)) ?len) .nil)))) (by show 4 ≤ 70; decide)
          case len =>
            rw [List.length_append, List.length_append]
            show _ + 1 + _ ≤ _
            omega
          obtain ⟨D, hD, hG⟩ := ok_on okg (by decide)
          exact ⟨_, D, 3, rfl, hD, hG, by decide, fun H10 s10 => ⟨_, rfl, _, _, _, _, _, rfl, hh7.same s10, s10 _ _ (s67 _ _ eR), s10 _ _ (s67 _ _ eL)⟩⟩
        · rintro σ H' ⟨y4, y5, y6, y8, y12, rfl, hh, _, _⟩
          refine ⟨_, rfl, b, d, 8, rfl, by decide, hh, fun r H7 l3 u3 hh7 k7 => ⟨_, _, rfl, rfl, _, rfl, ?_⟩⟩
          by_cases c : (0 : Int) < r
          · rw [decide_eq_true c]
            exact q1 _
          · rw [decide_eq_false c]
            exact ⟨_, rfl, b, d, rfl, hh7, fun v H8 ⟨D, n, hD, hG, hn⟩ hh8 k8 => ⟨v, D, n, rfl, dp_same (off_same b H8) D hD, hG, hn, fun H9 _ => q1 H9⟩⟩

theorem mk_law {f1 f2 f3 f4 f5 f6 f7 f8 f9 f10 f11 f12 f13 f14 f15 f16 f17 f18 f : Addr} {d1 d2 d3 d4 d5 d6 d7 d8 d9 d10 d11 d12 d13 d14 d15 d16 d17 d18 fd : FuncData} (T : Txt K mg cs)
    (D1 : Df K mg "is_whole" s_is_whole ["value", "low", "high"] f1 d1) (D2 : Df K mg "are_rows" s_are_rows ["value", "many", "m"] f2 d2) (D3 : Df K mg "is_generator" s_is_generator ["value"] f3 d3) (D4 : Df K mg "is_function" s_is_function ["value"] f4 d4) (D5 : Df K mg "check_block" s_check_block ["block"] f5 d5)
    (D6 : Df K mg "_law_draws" s_law_draws ["script", "many"] f6 d6) (D7 : Df K mg "_law_take" s_law_take ["hand", "many"] f7 d7) (D8 : Df K mg "_law_string" s_law_string ["hand", "length"] f8 d8)
    (D9 : Df K mg "_law_table" s_law_table ["hand", "n", "m"] f9 d9) (D10 : Df K mg "_law_function" s_law_function ["hand", "n", "l", "m"] f10 d10)
    (D11 : Df K mg "_law_within" s_law_within ["value", "least", "most"] f11 d11) (D12 : Df K mg "_law_is_bits" s_law_is_bits ["value", "length"] f12 d12) (D13 : Df K mg "_law_rows_good" s_law_rows_good ["rows", "many", "length"] f13 d13) (D14 : Df K mg "_law_block_good" s_law_block_good ["value"] f14 d14)
    (D15 : Df K mg "_law_odd" s_law_odd ["hand", "depth"] f15 d15) (D16 : Df K mg "_law_bent" s_law_bent ["hand", "value", "depth"] f16 d16) (D17 : Df K mg "_law_is_right" s_law_is_right ["value"] f17 d17) (D18 : Df K mg "_law_edge" s_law_edge ["hand"] f18 d18)
    (F : Fun K "law" "law" s_law f fd) : FnOk P w K mg base CX0 top_level f fd ["script"] (spLaw K) := by
  have c_take : Cl P w K mg base CX0 1 "_law_take" spTake := D7.cl (ok_take D7 T)
  have c_string : Cl P w K mg base CX0 2 "_law_string" spString := D8.cl (ok_string D8 T c_take)
  have c_whole : Cl P w K mg base CX0 1 "is_whole" (spWhole K) := D1.cl (ok_whole D1 T)
  have c_rows : Cl P w K mg base CX0 1 "are_rows" (spRows K) := D2.cl (ok_rows D2 T)
  have c_check : Cl P w K mg base (L2.CX P w) 3 "check_block" (spCheck K cs.BadBlock) := D5.cl (ok_check D5 T (D3.cl (ok_gen D3 T c_whole c_rows)) (D4.cl (ok_fun D4 T c_whole c_rows)))
  have c_good : Cl P w K mg base CX0 3 "_law_block_good" (spGood K) := D14.cl (ok_good D14 T (D11.cl (ok_within D11 T)) (D13.cl (ok_rowsgood D13 T (D12.cl (ok_isbits D12 T)))))
  have c_odd := ok_odd (P := P) (w := w) (base := base) D15 T c_take
  exact ok_law2 F T (D6.cl (ok_draws D6 T)) c_take (D9.cl (ok_table D9 T c_string)) (D10.cl (ok_function D10 T c_string)) (D17.cl (ok_right D17 T c_good c_check))
    (D16.cl (ok_bent D16 T c_take (D15.cl (c_odd 2)) 4)) (D15.cl (c_odd 4)) (D18.cl (ok_edge D18 T c_take))
end
theorem all_mk {l : PySem.W.OpenLaw} {w : World} {K : PySem.W.Frag} {h : Heap} {mg : Str → Option Value} {fa f1 f2 f3 f4 f5 f6 f7 f8 f9 f10 f11 f12 f13 f14 f15 f16 f17 f18 f19 : Addr} (X : K.In h) (G : h.Ns mainGlobals mg) (hfa : mg "law" = some (.ref fa))
    {od1 an1 od2 an2 od3 an3 od4 an4 od5 an5 od6 an6 od7 an7 od8 an8 od9 an9 od10 an10 od11 an11 od12 an12 od13 an13 od14 an14 od15 an15 od16 an16 od17 an17 od18 an18 od19 an19 : Option Addr} {sl1 sl2 sl3 sl4 sl5 sl6 sl7 sl8 sl9 sl10 sl11 sl12 sl13 sl14 sl15 sl16 sl17 sl18 sl19 : Array (Option Value)} {oc1 kV1 dc1 pm1 cd1 ct1 oc2 kV2 dc2 pm2 cd2 ct2 oc3 kV3 dc3 pm3 cd3 ct3 oc4 kV4 dc4 pm4 cd4 ct4 oc5 kV5 dc5 pm5 cd5 ct5 oc6 kV6 dc6 pm6 cd6 ct6 oc7 kV7 dc7 pm7 cd7 ct7 oc8 kV8 dc8 pm8 cd8 ct8 oc9 kV9 dc9 pm9 cd9 ct9 oc10 kV10 dc10 pm10 cd10 ct10 oc11 kV11 dc11 pm11 cd11 ct11 oc12 kV12 dc12 pm12 cd12 ct12 oc13 kV13 dc13 pm13 cd13 ct13 oc14 kV14 dc14 pm14 cd14 ct14 oc15 kV15 dc15 pm15 cd15 ct15 oc16 kV16 dc16 pm16 cd16 ct16 oc17 kV17 dc17 pm17 cd17 ct17 oc18 kV18 dc18 pm18 cd18 ct18 oc19 kV19 dc19 pm19 cd19 ct19 : Value}
    (a1 : PySem.W.nsIn K mainGlobals "is_whole" = some (some (.ref f1))) (l1 : K.lookup f1 = some ⟨oc1, od1, .func (PySem.W.fnOf "is_whole" "is_whole" (defArgs s_is_whole) (defBody s_is_whole) (defScope s_is_whole) .none kV1 dc1 pm1 an1 cd1 ct1), sl1⟩) (c1 : PySem.W.codeIn K cd1 "is_whole" = true) (k1 : PySem.W.keepIn K (.ref f1) = true)
    (a2 : PySem.W.nsIn K mainGlobals "are_rows" = some (some (.ref f2))) (l2 : K.lookup f2 = some ⟨oc2, od2, .func (PySem.W.fnOf "are_rows" "are_rows" (defArgs s_are_rows) (defBody s_are_rows) (defScope s_are_rows) .none kV2 dc2 pm2 an2 cd2 ct2), sl2⟩) (c2 : PySem.W.codeIn K cd2 "are_rows" = true) (k2 : PySem.W.keepIn K (.ref f2) = true)
    (a3 : PySem.W.nsIn K mainGlobals "is_generator" = some (some (.ref f3))) (l3 : K.lookup f3 = some ⟨oc3, od3, .func (PySem.W.fnOf "is_generator" "is_generator" (defArgs s_is_generator) (defBody s_is_generator) (defScope s_is_generator) .none kV3 dc3 pm3 an3 cd3 ct3), sl3⟩) (c3 : PySem.W.codeIn K cd3 "is_generator" = true) (k3 : PySem.W.keepIn K (.ref f3) = true)
    (a4 : PySem.W.nsIn K mainGlobals "is_function" = some (some (.ref f4))) (l4 : K.lookup f4 = some ⟨oc4, od4, .func (PySem.W.fnOf "is_function" "is_function" (defArgs s_is_function) (defBody s_is_function) (defScope s_is_function) .none kV4 dc4 pm4 an4 cd4 ct4), sl4⟩) (c4 : PySem.W.codeIn K cd4 "is_function" = true) (k4 : PySem.W.keepIn K (.ref f4) = true)
    (a5 : PySem.W.nsIn K mainGlobals "check_block" = some (some (.ref f5))) (l5 : K.lookup f5 = some ⟨oc5, od5, .func (PySem.W.fnOf "check_block" "check_block" (defArgs s_check_block) (defBody s_check_block) (defScope s_check_block) .none kV5 dc5 pm5 an5 cd5 ct5), sl5⟩) (c5 : PySem.W.codeIn K cd5 "check_block" = true) (k5 : PySem.W.keepIn K (.ref f5) = true)
    (a6 : PySem.W.nsIn K mainGlobals "_law_draws" = some (some (.ref f6))) (l6 : K.lookup f6 = some ⟨oc6, od6, .func (PySem.W.fnOf "_law_draws" "_law_draws" (defArgs s_law_draws) (defBody s_law_draws) (defScope s_law_draws) .none kV6 dc6 pm6 an6 cd6 ct6), sl6⟩) (c6 : PySem.W.codeIn K cd6 "_law_draws" = true) (k6 : PySem.W.keepIn K (.ref f6) = true)
    (a7 : PySem.W.nsIn K mainGlobals "_law_take" = some (some (.ref f7))) (l7 : K.lookup f7 = some ⟨oc7, od7, .func (PySem.W.fnOf "_law_take" "_law_take" (defArgs s_law_take) (defBody s_law_take) (defScope s_law_take) .none kV7 dc7 pm7 an7 cd7 ct7), sl7⟩) (c7 : PySem.W.codeIn K cd7 "_law_take" = true) (k7 : PySem.W.keepIn K (.ref f7) = true)
    (a8 : PySem.W.nsIn K mainGlobals "_law_string" = some (some (.ref f8))) (l8 : K.lookup f8 = some ⟨oc8, od8, .func (PySem.W.fnOf "_law_string" "_law_string" (defArgs s_law_string) (defBody s_law_string) (defScope s_law_string) .none kV8 dc8 pm8 an8 cd8 ct8), sl8⟩) (c8 : PySem.W.codeIn K cd8 "_law_string" = true) (k8 : PySem.W.keepIn K (.ref f8) = true)
    (a9 : PySem.W.nsIn K mainGlobals "_law_table" = some (some (.ref f9))) (l9 : K.lookup f9 = some ⟨oc9, od9, .func (PySem.W.fnOf "_law_table" "_law_table" (defArgs s_law_table) (defBody s_law_table) (defScope s_law_table) .none kV9 dc9 pm9 an9 cd9 ct9), sl9⟩) (c9 : PySem.W.codeIn K cd9 "_law_table" = true) (k9 : PySem.W.keepIn K (.ref f9) = true)
    (a10 : PySem.W.nsIn K mainGlobals "_law_function" = some (some (.ref f10))) (l10 : K.lookup f10 = some ⟨oc10, od10, .func (PySem.W.fnOf "_law_function" "_law_function" (defArgs s_law_function) (defBody s_law_function) (defScope s_law_function) .none kV10 dc10 pm10 an10 cd10 ct10), sl10⟩) (c10 : PySem.W.codeIn K cd10 "_law_function" = true) (k10 : PySem.W.keepIn K (.ref f10) = true)
    (a11 : PySem.W.nsIn K mainGlobals "_law_within" = some (some (.ref f11))) (l11 : K.lookup f11 = some ⟨oc11, od11, .func (PySem.W.fnOf "_law_within" "_law_within" (defArgs s_law_within) (defBody s_law_within) (defScope s_law_within) .none kV11 dc11 pm11 an11 cd11 ct11), sl11⟩) (c11 : PySem.W.codeIn K cd11 "_law_within" = true) (k11 : PySem.W.keepIn K (.ref f11) = true)
    (a12 : PySem.W.nsIn K mainGlobals "_law_is_bits" = some (some (.ref f12))) (l12 : K.lookup f12 = some ⟨oc12, od12, .func (PySem.W.fnOf "_law_is_bits" "_law_is_bits" (defArgs s_law_is_bits) (defBody s_law_is_bits) (defScope s_law_is_bits) .none kV12 dc12 pm12 an12 cd12 ct12), sl12⟩) (c12 : PySem.W.codeIn K cd12 "_law_is_bits" = true) (k12 : PySem.W.keepIn K (.ref f12) = true)
    (a13 : PySem.W.nsIn K mainGlobals "_law_rows_good" = some (some (.ref f13))) (l13 : K.lookup f13 = some ⟨oc13, od13, .func (PySem.W.fnOf "_law_rows_good" "_law_rows_good" (defArgs s_law_rows_good) (defBody s_law_rows_good) (defScope s_law_rows_good) .none kV13 dc13 pm13 an13 cd13 ct13), sl13⟩) (c13 : PySem.W.codeIn K cd13 "_law_rows_good" = true) (k13 : PySem.W.keepIn K (.ref f13) = true)
    (a14 : PySem.W.nsIn K mainGlobals "_law_block_good" = some (some (.ref f14))) (l14 : K.lookup f14 = some ⟨oc14, od14, .func (PySem.W.fnOf "_law_block_good" "_law_block_good" (defArgs s_law_block_good) (defBody s_law_block_good) (defScope s_law_block_good) .none kV14 dc14 pm14 an14 cd14 ct14), sl14⟩) (c14 : PySem.W.codeIn K cd14 "_law_block_good" = true) (k14 : PySem.W.keepIn K (.ref f14) = true)
    (a15 : PySem.W.nsIn K mainGlobals "_law_odd" = some (some (.ref f15))) (l15 : K.lookup f15 = some ⟨oc15, od15, .func (PySem.W.fnOf "_law_odd" "_law_odd" (defArgs s_law_odd) (defBody s_law_odd) (defScope s_law_odd) .none kV15 dc15 pm15 an15 cd15 ct15), sl15⟩) (c15 : PySem.W.codeIn K cd15 "_law_odd" = true) (k15 : PySem.W.keepIn K (.ref f15) = true)
    (a16 : PySem.W.nsIn K mainGlobals "_law_bent" = some (some (.ref f16))) (l16 : K.lookup f16 = some ⟨oc16, od16, .func (PySem.W.fnOf "_law_bent" "_law_bent" (defArgs s_law_bent) (defBody s_law_bent) (defScope s_law_bent) .none kV16 dc16 pm16 an16 cd16 ct16), sl16⟩) (c16 : PySem.W.codeIn K cd16 "_law_bent" = true) (k16 : PySem.W.keepIn K (.ref f16) = true)
    (a17 : PySem.W.nsIn K mainGlobals "_law_is_right" = some (some (.ref f17))) (l17 : K.lookup f17 = some ⟨oc17, od17, .func (PySem.W.fnOf "_law_is_right" "_law_is_right" (defArgs s_law_is_right) (defBody s_law_is_right) (defScope s_law_is_right) .none kV17 dc17 pm17 an17 cd17 ct17), sl17⟩) (c17 : PySem.W.codeIn K cd17 "_law_is_right" = true) (k17 : PySem.W.keepIn K (.ref f17) = true)
    (a18 : PySem.W.nsIn K mainGlobals "_law_edge" = some (some (.ref f18))) (l18 : K.lookup f18 = some ⟨oc18, od18, .func (PySem.W.fnOf "_law_edge" "_law_edge" (defArgs s_law_edge) (defBody s_law_edge) (defScope s_law_edge) .none kV18 dc18 pm18 an18 cd18 ct18), sl18⟩) (c18 : PySem.W.codeIn K cd18 "_law_edge" = true) (k18 : PySem.W.keepIn K (.ref f18) = true)
    (a19 : PySem.W.nsIn K mainGlobals "law" = some (some (.ref f19))) (l19 : K.lookup f19 = some ⟨oc19, od19, .func (PySem.W.fnOf "law" "law" (defArgs s_law) (defBody s_law) (defScope s_law) .none kV19 dc19 pm19 an19 cd19 ct19), sl19⟩) (c19 : PySem.W.codeIn K cd19 "law" = true) (k19 : PySem.W.keepIn K (.ref f19) = true)
    (z1 : PySem.W.nsIn K mainGlobals "ValueError" = some none)
    (z2 : PySem.W.nsIn K mainGlobals "abs" = some none)
    (z3 : PySem.W.nsIn K mainGlobals "all" = some none)
    (z4 : PySem.W.nsIn K mainGlobals "bool" = some none)
    (z5 : PySem.W.nsIn K mainGlobals "int" = some none)
    (z6 : PySem.W.nsIn K mainGlobals "isinstance" = some none)
    (z7 : PySem.W.nsIn K mainGlobals "len" = some none)
    (z8 : PySem.W.nsIn K mainGlobals "list" = some none)
    (z9 : PySem.W.nsIn K mainGlobals "range" = some none)
    (z10 : PySem.W.nsIn K mainGlobals "str" = some none)
    (z11 : PySem.W.nsIn K mainGlobals "tuple" = some none)
    {tk1 : Tok} (y1 : PySem.W.nsIn K mainGlobals "MOST_BITS" = some (some (.int 40 tk1)))
    {CBadBlock CBadBreaker CBadScheme CBreakError : Addr}
    (gBadBlock : PySem.W.nsIn K mainGlobals "BadBlock" = some (some (.ref CBadBlock)))
    (gBadBreaker : PySem.W.nsIn K mainGlobals "BadBreaker" = some (some (.ref CBadBreaker)))
    (gBadScheme : PySem.W.nsIn K mainGlobals "BadScheme" = some (some (.ref CBadScheme)))
    (gBreakError : PySem.W.nsIn K mainGlobals "BreakError" = some (some (.ref CBreakError)))
    (xBadBlock : PySem.W.excIn K CBadBlock [.type "ValueError", .type "Exception", .type "BaseException", .type "object"] "ValueError.__new__" = true)
    (kBadBlock : PySem.W.keepIn K (.ref CBadBlock) = true)
    (bBadBlock : PySem.W.subIn K (.ref CBadBlock) (.type "BaseException") = some true)
    (tBadBlock : PySem.W.typeIn K (.ref CBadBlock) = some (.type "type"))
    (uBadBlock : PySem.W.findIn K (.ref CBadBlock) "__getattribute__" = some (some (.builtin "BaseException.__getattribute__")))
    (vBadBlock : PySem.W.findIn K (.ref CBadBlock) "__getattr__" = some none)
    (hBadBlock : PySem.W.hasDictIn K CBadBlock = true)
    (wBadBlock : PySem.W.findIn K (.ref CBadBlock) "__class__" = some (some (.builtin "object.__class__")))
    (mBadBlock : PySem.W.mroIn K CBadBlock (.type "object") = some true)
    (eBadBlockBreakError : PySem.W.exmOne K (.ref CBadBlock) (.ref CBreakError) = some true)
    (kBadBlockBadBlock : PySem.W.kitOne K (.ref CBadBlock) (.ref CBadBlock) = some true)
    (kBadBlockBadBreaker : PySem.W.kitOne K (.ref CBadBlock) (.ref CBadBreaker) = some false)
    (kBadBlockBadScheme : PySem.W.kitOne K (.ref CBadBlock) (.ref CBadScheme) = some false)
    (kBadBlockValueError : PySem.W.kitOne K (.ref CBadBlock) (.type "ValueError") = some true)
    (sp1 : PySem.W.specialIn K (.builtin "object.__class__") "__get__" = some (some (.builtin "getset_descriptor.__get__")))
    (tk1 : PySem.W.takesIn K (.builtin "object.__class__") = some true) :
    ∃ fd : FuncData, (∀ (s : Shared) (v : Value), BindsTo s fd ⟨[v], []⟩ [("script", v)]) ∧ ∀ base : Heap, K.In base → base.Ns mainGlobals mg → FnOk l.prog w K mg base CX0 top_level fa fd ["script"] (spLaw K) := by
  have e := hfa.symm.trans (PySem.W.mg_of X G a19)
  cases e
  have T : Txt K mg ⟨CBadBlock, CBadBreaker, CBadScheme, CBreakError⟩ := { n_ValueError := PySem.W.mg_none_of X G z1, n_abs := PySem.W.mg_none_of X G z2, n_all := PySem.W.mg_none_of X G z3, n_bool := PySem.W.mg_none_of X G z4, n_int := PySem.W.mg_none_of X G z5, n_isinstance := PySem.W.mg_none_of X G z6, n_len := PySem.W.mg_none_of X G z7, n_list := PySem.W.mg_none_of X G z8, n_range := PySem.W.mg_none_of X G z9, n_str := PySem.W.mg_none_of X G z10, n_tuple := PySem.W.mg_none_of X G z11, g_MOST_BITS := ⟨_, PySem.W.mg_of X G y1, ⟨_, rfl⟩⟩, gl_BadBlock := PySem.W.mg_of X G gBadBlock, gl_BadBreaker := PySem.W.mg_of X G gBadBreaker, gl_BadScheme := PySem.W.mg_of X G gBadScheme, gl_BreakError := PySem.W.mg_of X G gBreakError, x_BadBlock := ⟨xBadBlock, PySem.W.mg_of X G gBadBlock, kBadBlock, bBadBlock, tBadBlock⟩, e_BadBlock := ⟨uBadBlock, vBadBlock, bBadBlock, hBadBlock, wBadBlock, sp1, tk1, mBadBlock⟩, exm_BadBlock_BreakError := eBadBlockBreakError, kit_BadBlock_BadBlock := kBadBlockBadBlock, kit_BadBlock_BadBreaker := kBadBlockBadBreaker, kit_BadBlock_BadScheme := kBadBlockBadScheme, kit_BadBlock_ValueError := kBadBlockValueError }
  have F1 := fun_mk (st := s_is_whole) l1 c1 k1
  have b1 := F1.binds (ps := ["value", "low", "high"]) fun _ _ _ _ _ _ us hl => match us, hl with | [_, _, _], _ => rfl
  have F2 := fun_mk (st := s_are_rows) l2 c2 k2
  have b2 := F2.binds (ps := ["value", "many", "m"]) fun _ _ _ _ _ _ us hl => match us, hl with | [_, _, _], _ => rfl
  have F3 := fun_mk (st := s_is_generator) l3 c3 k3
  have b3 := F3.binds (ps := ["value"]) fun _ _ _ _ _ _ us hl => match us, hl with | [_], _ => rfl
  have F4 := fun_mk (st := s_is_function) l4 c4 k4
  have b4 := F4.binds (ps := ["value"]) fun _ _ _ _ _ _ us hl => match us, hl with | [_], _ => rfl
  have F5 := fun_mk (st := s_check_block) l5 c5 k5
  have b5 := F5.binds (ps := ["block"]) fun _ _ _ _ _ _ us hl => match us, hl with | [_], _ => rfl
  have F6 := fun_mk (st := s_law_draws) l6 c6 k6
  have b6 := F6.binds (ps := ["script", "many"]) fun _ _ _ _ _ _ us hl => match us, hl with | [_, _], _ => rfl
  have F7 := fun_mk (st := s_law_take) l7 c7 k7
  have b7 := F7.binds (ps := ["hand", "many"]) fun _ _ _ _ _ _ us hl => match us, hl with | [_, _], _ => rfl
  have F8 := fun_mk (st := s_law_string) l8 c8 k8
  have b8 := F8.binds (ps := ["hand", "length"]) fun _ _ _ _ _ _ us hl => match us, hl with | [_, _], _ => rfl
  have F9 := fun_mk (st := s_law_table) l9 c9 k9
  have b9 := F9.binds (ps := ["hand", "n", "m"]) fun _ _ _ _ _ _ us hl => match us, hl with | [_, _, _], _ => rfl
  have F10 := fun_mk (st := s_law_function) l10 c10 k10
  have b10 := F10.binds (ps := ["hand", "n", "l", "m"]) fun _ _ _ _ _ _ us hl => match us, hl with | [_, _, _, _], _ => rfl
  have F11 := fun_mk (st := s_law_within) l11 c11 k11
  have b11 := F11.binds (ps := ["value", "least", "most"]) fun _ _ _ _ _ _ us hl => match us, hl with | [_, _, _], _ => rfl
  have F12 := fun_mk (st := s_law_is_bits) l12 c12 k12
  have b12 := F12.binds (ps := ["value", "length"]) fun _ _ _ _ _ _ us hl => match us, hl with | [_, _], _ => rfl
  have F13 := fun_mk (st := s_law_rows_good) l13 c13 k13
  have b13 := F13.binds (ps := ["rows", "many", "length"]) fun _ _ _ _ _ _ us hl => match us, hl with | [_, _, _], _ => rfl
  have F14 := fun_mk (st := s_law_block_good) l14 c14 k14
  have b14 := F14.binds (ps := ["value"]) fun _ _ _ _ _ _ us hl => match us, hl with | [_], _ => rfl
  have F15 := fun_mk (st := s_law_odd) l15 c15 k15
  have b15 := F15.binds (ps := ["hand", "depth"]) fun _ _ _ _ _ _ us hl => match us, hl with | [_, _], _ => rfl
  have F16 := fun_mk (st := s_law_bent) l16 c16 k16
  have b16 := F16.binds (ps := ["hand", "value", "depth"]) fun _ _ _ _ _ _ us hl => match us, hl with | [_, _, _], _ => rfl
  have F17 := fun_mk (st := s_law_is_right) l17 c17 k17
  have b17 := F17.binds (ps := ["value"]) fun _ _ _ _ _ _ us hl => match us, hl with | [_], _ => rfl
  have F18 := fun_mk (st := s_law_edge) l18 c18 k18
  have b18 := F18.binds (ps := ["hand"]) fun _ _ _ _ _ _ us hl => match us, hl with | [_], _ => rfl
  have F19 := fun_mk (st := s_law) l19 c19 k19
  have b19 := F19.binds (ps := ["script"]) fun _ _ _ _ _ _ us hl => match us, hl with | [_], _ => rfl
  refine ⟨PySem.W.fnOf "law" "law" (defArgs s_law) (defBody s_law) (defScope s_law) .none kV19 dc19 pm19 an19 cd19 ct19, fun s v => .of_eq rfl, fun base _ _ => ?_⟩
  exact mk_law T ⟨F1, b1, PySem.W.mg_of X G a1⟩ ⟨F2, b2, PySem.W.mg_of X G a2⟩ ⟨F3, b3, PySem.W.mg_of X G a3⟩ ⟨F4, b4, PySem.W.mg_of X G a4⟩ ⟨F5, b5, PySem.W.mg_of X G a5⟩ ⟨F6, b6, PySem.W.mg_of X G a6⟩ ⟨F7, b7, PySem.W.mg_of X G a7⟩ ⟨F8, b8, PySem.W.mg_of X G a8⟩ ⟨F9, b9, PySem.W.mg_of X G a9⟩ ⟨F10, b10, PySem.W.mg_of X G a10⟩ ⟨F11, b11, PySem.W.mg_of X G a11⟩ ⟨F12, b12, PySem.W.mg_of X G a12⟩ ⟨F13, b13, PySem.W.mg_of X G a13⟩ ⟨F14, b14, PySem.W.mg_of X G a14⟩ ⟨F15, b15, PySem.W.mg_of X G a15⟩ ⟨F16, b16, PySem.W.mg_of X G a16⟩ ⟨F17, b17, PySem.W.mg_of X G a17⟩ ⟨F18, b18, PySem.W.mg_of X G a18⟩ F19
end My
open PySem PySem.W PyProof.Rows
set_option maxRecDepth 100000 in
set_option maxHeartbeats 0 in
theorem PySem.Challenge.cw_breakback_k02_blocks_that_are_right_holds : PySem.Challenge.rw_breakback_k02_blocks_that_are_right.Holds := by
  w_on; o_law; k_head; (case hw => w_witness2)
  k_fill
  refine L2.walk_of (l := PySem.Challenge.rw_breakback_k02_blocks_that_are_right) (n := 63) (k := My.top_level) (x := "script") (CX := fun _ => L2.CX0) (sp := fun w => My.spLaw _) rfl (by decide) rfl ⟨rfl, by decide, by decide⟩ (fun w h Y => PySem.W.kIn_of Y) ?F (fun _ _ a ns hl _ hS => ⟨a, ns, rfl, hS, hl, fun _ => rfl⟩) (fun _ _ _ _ _ h => h)
  case F =>
    intro w mg fa h KX G hmg
    refine' My.all_mk KX G hmg ?a1 ?l1 ?c1 ?k1 ?a2 ?l2 ?c2 ?k2 ?a3 ?l3 ?c3 ?k3 ?a4 ?l4 ?c4 ?k4 ?a5 ?l5 ?c5 ?k5 ?a6 ?l6 ?c6 ?k6 ?a7 ?l7 ?c7 ?k7 ?a8 ?l8 ?c8 ?k8 ?a9 ?l9 ?c9 ?k9 ?a10 ?l10 ?c10 ?k10 ?a11 ?l11 ?c11 ?k11 ?a12 ?l12 ?c12 ?k12 ?a13 ?l13 ?c13 ?k13 ?a14 ?l14 ?c14 ?k14 ?a15 ?l15 ?c15 ?k15 ?a16 ?l16 ?c16 ?k16 ?a17 ?l17 ?c17 ?k17 ?a18 ?l18 ?c18 ?k18 ?a19 ?l19 ?c19 ?k19 ?z1 ?z2 ?z3 ?z4 ?z5 ?z6 ?z7 ?z8 ?z9 ?z10 ?z11 ?y1 ?gBadBlock ?gBadBreaker ?gBadScheme ?gBreakError ?xBadBlock ?kBadBlock ?bBadBlock ?tBadBlock ?uBadBlock ?vBadBlock ?hBadBlock ?wBadBlock ?mBadBlock ?eBadBlockBreakError ?kBadBlockBadBlock ?kBadBlockBadBreaker ?kBadBlockBadScheme ?kBadBlockValueError ?sp1 ?tk1
    (case a1 => k_is); (case l1 => k_is); (case c1 => k_is); (case k1 => k_is); (case a2 => k_is); (case l2 => k_is); (case c2 => k_is); (case k2 => k_is)
    (case a3 => k_is); (case l3 => k_is); (case c3 => k_is); (case k3 => k_is); (case a4 => k_is); (case l4 => k_is); (case c4 => k_is); (case k4 => k_is)
    (case a5 => k_is); (case l5 => k_is); (case c5 => k_is); (case k5 => k_is); (case a6 => k_is); (case l6 => k_is); (case c6 => k_is); (case k6 => k_is)
    (case a7 => k_is); (case l7 => k_is); (case c7 => k_is); (case k7 => k_is); (case a8 => k_is); (case l8 => k_is); (case c8 => k_is); (case k8 => k_is)
    (case a9 => k_is); (case l9 => k_is); (case c9 => k_is); (case k9 => k_is); (case a10 => k_is); (case l10 => k_is); (case c10 => k_is); (case k10 => k_is)
    (case a11 => k_is); (case l11 => k_is); (case c11 => k_is); (case k11 => k_is); (case a12 => k_is); (case l12 => k_is); (case c12 => k_is); (case k12 => k_is)
    (case a13 => k_is); (case l13 => k_is); (case c13 => k_is); (case k13 => k_is); (case a14 => k_is); (case l14 => k_is); (case c14 => k_is); (case k14 => k_is)
    (case a15 => k_is); (case l15 => k_is); (case c15 => k_is); (case k15 => k_is); (case a16 => k_is); (case l16 => k_is); (case c16 => k_is); (case k16 => k_is)
    (case a17 => k_is); (case l17 => k_is); (case c17 => k_is); (case k17 => k_is); (case a18 => k_is); (case l18 => k_is); (case c18 => k_is); (case k18 => k_is)
    (case a19 => k_is); (case l19 => k_is); (case c19 => k_is); (case k19 => k_is); (case z1 => k_is); (case z2 => k_is); (case z3 => k_is); (case z4 => k_is)
    (case z5 => k_is); (case z6 => k_is); (case z7 => k_is); (case z8 => k_is); (case z9 => k_is); (case z10 => k_is); (case z11 => k_is); (case y1 => k_is)
    (case gBadBlock => k_is); (case gBadBreaker => k_is); (case gBadScheme => k_is); (case gBreakError => k_is); (case xBadBlock => k_exc); (case kBadBlock => k_is); (case bBadBlock => k_is); (case tBadBlock => k_is)
    (case uBadBlock => k_is); (case vBadBlock => k_is); (case hBadBlock => k_is); (case wBadBlock => k_is); (case mBadBlock => k_is); (case eBadBlockBreakError => first | rfl | k_is); (case kBadBlockBadBlock => first | rfl | k_is); (case kBadBlockBadBreaker => first | rfl | k_is)
    (case kBadBlockBadScheme => first | rfl | k_is); (case kBadBlockValueError => first | rfl | k_is); (case sp1 => first | rfl | k_is); (case tk1 => first | rfl | k_is)
#print axioms PySem.Challenge.cw_breakback_k02_blocks_that_are_right_holds
