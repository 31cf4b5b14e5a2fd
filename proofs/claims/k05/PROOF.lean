
import PyProof.Rows.All
import Wide.All
import OpenK.AllK
import Wide.FinOn
import HandS.ForMost
import HandS.Codes
import HandS.StrMore
import HandS.Defaults
import HandS.IntHex
import HandS.IsInst
import HandS.TupAny
import HandS.TupMul
import PyProof.FString3
import PyProof.Rows.StrIntSpec
import PyProof.StrOps2
import KE.IntText
import KE.KIntText
import KE.IntTextLaws
import HandS.Exc
import HandS.ExcOwn
import HandS.TryOnly
import HandS.TryMany
import HandS.ExcIs
import HandS.WordsExc
import HandS.ForExc

import HandS.Zip
import HandS.Walk
import HandS.CallLocal
import HandS.More
import PySem.Challenge.RW_breakback_k05_breakers_that_are_right
set_option Elab.async false
set_option linter.all false
set_option maxRecDepth 100000
set_option maxHeartbeats 4000000
namespace My
open PySem PySem.Spec PyProof.Rows L2
theorem snocInd {α : Type} {P : List α → Prop} (h0 : P []) (h1 : ∀ l a, P l → P (l ++ [a])) (l : List α) : P l := by
  have h : ∀ (n : Nat) (l : List α), l.length = n → P l := by
    intro n
    induction n with
    | zero =>
      intro l e
      rw [List.eq_nil_of_length_eq_zero e]
      exact h0
    | succ n ih =>
      intro l e
      have hn : l ≠ [] := fun z => by
        rw [z] at e
        cases e
      rw [← List.dropLast_concat_getLast hn]
      exact h1 _ _ (ih _ (by rw [List.length_dropLast, e]; rfl))
  exact h _ l rfl
/-! ### strings of bits -/
def cB (b : Bool) : Nat := if b then 49 else 48
def sb (bs : List Bool) : Str := SX.S (bs.map cB)
def toB : Nat → Nat → List Bool
  | 0, _ => []
  | n + 1, k => toB n (k / 2) ++ [k % 2 == 1]
def bit (b : Bool) : Nat := if b then 1 else 0
def val (bs : List Bool) : Nat := bs.foldl (fun a b => 2 * a + bit b) 0
theorem toB_len : ∀ n k, (toB n k).length = n
  | 0, _ => rfl
  | n + 1, k => by
    show (toB n (k / 2) ++ [k % 2 == 1]).length = n + 1
    rw [List.length_append, toB_len n]
    rfl
theorem sb_len (bs : List Bool) : (sb bs).length = bs.length := by
  unfold sb
  rw [SX.S_len, List.length_map]
theorem cB_inj {a b : Bool} (h : cB a = cB b) : a = b := by
  cases a <;> cases b <;> first | rfl | (exact absurd h (by decide))
theorem map_cB_inj : ∀ {l m : List Bool}, l.map cB = m.map cB → l = m
  | [], [], _ => rfl
  | [], _ :: _, h => by simp at h
  | _ :: _, [], h => by simp at h
  | a :: l, b :: m, h => by
    rw [List.map_cons, List.map_cons] at h
    injection h with h1 h2
    rw [cB_inj h1, map_cB_inj h2]
theorem sb_inj {l m : List Bool} (h : sb l = sb m) : l = m := map_cB_inj (SX.S_inj h)
theorem sb_cat (l m : List Bool) : sb l ++ sb m = sb (l ++ m) := by
  unfold sb
  rw [SX.S_cat, List.map_append]
theorem val_snoc (l : List Bool) (b : Bool) : val (l ++ [b]) = 2 * val l + bit b := by
  unfold val
  rw [List.foldl_append]
  rfl
theorem bit_lt (b : Bool) : bit b < 2 := by cases b <;> decide
theorem toB_val (bs : List Bool) : toB bs.length (val bs) = bs := by
  induction bs using snocInd with
  | h0 => rfl
  | h1 l b ih =>
    rw [List.length_append, val_snoc]
    show toB (l.length + 1) _ = _
    show toB l.length ((2 * val l + bit b) / 2) ++ [(2 * val l + bit b) % 2 == 1] = l ++ [b]
    have h := bit_lt b
    rw [show (2 * val l + bit b) / 2 = val l by omega, ih, show (2 * val l + bit b) % 2 = bit b by omega]
    cases b <;> rfl
theorem val_lt (bs : List Bool) : val bs < 2 ^ bs.length := by
  induction bs using snocInd with
  | h0 => exact Nat.one_pos
  | h1 l b ih =>
    rw [List.length_append, val_snoc]
    show _ < 2 ^ (l.length + 1)
    have h := bit_lt b
    rw [Nat.pow_succ]
    omega
theorem val_toB : ∀ (n k : Nat), k < 2 ^ n → val (toB n k) = k
  | 0, k, h => by
    have e : k = 0 := by
      have : k < 1 := h
      omega
    subst e
    rfl
  | n + 1, k, h => by
    show val (toB n (k / 2) ++ [k % 2 == 1]) = k
    rw [Nat.pow_succ] at h
    rw [val_snoc, val_toB n (k / 2) (by omega)]
    have e : bit (k % 2 == 1) = k % 2 := by
      rcases Nat.mod_two_eq_zero_or_one k with z | z <;> rw [z] <;> rfl
    rw [e]
    omega
theorem toB_zero (n : Nat) : toB n 0 = List.replicate n false := by
  induction n with
  | zero => rfl
  | succ n ih =>
    show toB n 0 ++ [false] = _
    rw [ih, List.replicate_succ']
/-! ### two strings place by place -/
theorem toB_xor : ∀ (n a b : Nat), toB n (a ^^^ b) = List.zipWith (fun x y => x != y) (toB n a) (toB n b)
  | 0, _, _ => rfl
  | n + 1, a, b => by
    show toB n ((a ^^^ b) / 2) ++ [(a ^^^ b) % 2 == 1] = List.zipWith (fun x y => x != y) (toB n (a / 2) ++ [a % 2 == 1]) (toB n (b / 2) ++ [b % 2 == 1])
    rw [List.zipWith_append (by rw [toB_len, toB_len]), Nat.xor_div_two, toB_xor n]
    congr 1
    have e : (a ^^^ b) % 2 = (a % 2) ^^^ (b % 2) := by
      have h := Nat.xor_mod_two_pow (a := a) (b := b) (n := 1)
      rw [Nat.pow_one] at h
      exact h
    rw [e]
    rcases Nat.mod_two_eq_zero_or_one a with z | z <;> rcases Nat.mod_two_eq_zero_or_one b with y | y <;> rw [z, y] <;> rfl
theorem toB_and : ∀ (n a b : Nat), toB n (a &&& b) = List.zipWith (fun x y => x && y) (toB n a) (toB n b)
  | 0, _, _ => rfl
  | n + 1, a, b => by
    show toB n ((a &&& b) / 2) ++ [(a &&& b) % 2 == 1] = List.zipWith (fun x y => x && y) (toB n (a / 2) ++ [a % 2 == 1]) (toB n (b / 2) ++ [b % 2 == 1])
    rw [List.zipWith_append (by rw [toB_len, toB_len]), Nat.and_div_two, toB_and n]
    congr 1
    have e : (a &&& b) % 2 = (a % 2) * (b % 2) := by
      have h := Nat.and_mod_two_pow (a := a) (b := b) (n := 1)
      rw [Nat.pow_one] at h
      rw [h]
      rcases Nat.mod_two_eq_zero_or_one a with z | z <;> rcases Nat.mod_two_eq_zero_or_one b with y | y <;> rw [z, y] <;> rfl
    rw [e]
    rcases Nat.mod_two_eq_zero_or_one a with z | z <;> rcases Nat.mod_two_eq_zero_or_one b with y | y <;> rw [z, y] <;> rfl
/-! ### the digits that Python writes -/
def dig (k : Nat) : List Nat := (Nat.toDigits 2 k).map Char.toNat
theorem dig_lt {k : Nat} (h : k < 2) : dig k = [cB (k == 1)] := by
  unfold dig
  rw [Nat.toDigits_of_lt_base h]
  have : k = 0 ∨ k = 1 := by omega
  rcases this with e | e <;> subst e <;> rfl
theorem dig_ge {k : Nat} (h : 2 ≤ k) : dig k = dig (k / 2) ++ [cB (k % 2 == 1)] := by
  unfold dig
  rw [Nat.toDigits_of_base_le (by decide) h, List.map_append]
  congr 1
  rcases Nat.mod_two_eq_zero_or_one k with z | z <;> rw [z] <;> rfl
theorem dig_toB : ∀ (n k : Nat), k < 2 ^ (n + 1) → ∃ p, (toB (n + 1) k).map cB = List.replicate p 48 ++ dig k
  | 0, k, h => by
    have hk : k < 2 := h
    refine ⟨0, ?_⟩
    rw [dig_lt hk]
    show [cB (k % 2 == 1)] = [cB (k == 1)]
    rw [Nat.mod_eq_of_lt hk]
  | n + 1, k, h => by
    show ∃ p, (toB (n + 1) (k / 2) ++ [k % 2 == 1]).map cB = _
    rw [List.map_append]
    by_cases hk : k < 2
    · refine ⟨n + 1, ?_⟩
      rw [dig_lt hk, show k / 2 = 0 by omega, toB_zero, List.map_replicate, Nat.mod_eq_of_lt hk]
      rfl
    · have h' : k < 2 ^ (n + 1) * 2 := by
        rw [← Nat.pow_succ]
        exact h
      obtain ⟨p, e⟩ := dig_toB n (k / 2) (by omega)
      refine ⟨p, ?_⟩
      rw [e, dig_ge (k := k) (by omega), List.append_assoc]
      rfl
theorem dig_len_pos (k : Nat) : 0 < (dig k).length := by
  unfold dig
  rw [List.length_map]
  exact Nat.length_toDigits_pos
theorem dig_head (k : Nat) : ∃ c r, dig k = c :: r ∧ (c = 48 ∨ c = 49) := by
  induction k using Nat.strongRecOn with
  | _ k ih =>
    by_cases hk : k < 2
    · rw [dig_lt hk]
      exact ⟨_, _, rfl, by cases (k == 1) <;> decide⟩
    · obtain ⟨c, r, e, h⟩ := ih (k / 2) (by omega)
      rw [dig_ge (by omega), e]
      exact ⟨c, r ++ [_], rfl, h⟩
theorem zfill_dig (n k : Nat) (h : k < 2 ^ (n + 1)) : Txt.zfill (SX.S (dig k)) ((n + 1 : Nat) : Int) = sb (toB (n + 1) k) := by
  obtain ⟨p, e⟩ := dig_toB n k h
  have hl : n + 1 = p + (dig k).length := by
    have := congrArg List.length e
    rw [List.length_map, toB_len, List.length_append, List.length_replicate] at this
    exact this
  unfold sb
  rw [e]
  unfold Txt.zfill
  rw [SX.S_len]
  by_cases hp : p = 0
  · subst hp
    rw [if_pos (by omega)]
    rfl
  · rw [if_neg (by omega)]
    obtain ⟨c, r, ed, hc⟩ := dig_head k
    have hm : ((n + 1 : Nat) : Int).toNat - (dig k).length = p := by omega
    rw [hm]
    unfold zfilled
    rw [ed]
    rcases hc with rfl | rfl
    · show Builtin.Str.padded _ p 0 48 = _
      refine TL.ext_tl ?_
      simp [Builtin.Str.padded, TL.tl, SX.S]
    · show Builtin.Str.padded _ p 0 48 = _
      refine TL.ext_tl ?_
      simp [Builtin.Str.padded, TL.tl, SX.S]
section
open Builtin Builtin.Str Builtin.Int Builtin.Float
theorem ite_n {c : Prop} [Decidable c] {X Y : Prop} (hc : ¬ c) (h : Y) : if c then X else Y := by
  rw [if_neg hc]
  exact h
theorem ite_y {c : Prop} [Decidable c] {X Y : Prop} (hc : c) (h : X) : if c then X else Y := by
  rw [if_pos hc]
  exact h
/-- the text of the bits of n, as the format "b" makes it -/
theorem field_b (l : List Nat) (hl : l ≠ []) : intField' { fill := 32, align := 62, type := some 98 } false [] l [] 4 = ⟨l.toArray⟩ := by
  unfold intField'
  have h0 : l.isEmpty = false := by
    cases l with
    | nil => exact absurd rfl hl
    | cons a r => rfl
  simp [h0]
theorem wp_eq {α : Type} {M : Model} {A : Around} {t t' : Sem α} {Q : α → Shared → Prop} {E : Value → Shared → Prop} {s : Shared} (e : t = t') (h : wpAny M A t' Q E s) : wpAny M A t Q E s := by
  rw [e]
  exact h
set_option maxHeartbeats 1000000 in
theorem gives_fmtB {spec : PySem.Str} (n : Nat) (t u : Tok) (hz : (Nat.toDigits 2 n).length ≤ sizeLine)
    (hp : parseFormatSpec spec.cps.toList "int" 62 = .ok { fill := 32, align := 62, type := some 98 }) (hne : (spec.length == 0) = false)
    (hasc : ((spec.cps.toList.drop 1).any (· ≥ 128) || (spec.cps.getD 0 0 ≥ 128 && !([60, 62, 61, 94] : List Nat).contains (spec.cps.getD 1 0))) = false) :
    Gives («int.__format__» ⟨[.int (n : Int) t, .str spec u], []⟩) (.str ⟨((Nat.toDigits 2 n).map Char.toNat).toArray⟩) := by
  intro prog w A R s hq
  unfold Builtin.«int.__format__»
  simp only [selfAndOne, noKeywords, Int.intOfSelf, asInt?, asStr?, List.isEmpty_nil, if_true, pure_bind, bind_pure, bind_assoc, hne, hasc, Bool.false_eq_true, if_false,
    show (Value.str spec u == Value.none) = false from rfl]
  refine wpAny_bind (wpAny_typeNameOf (T := "str") (typeIs_str _ _ _) (by decide) fun _ => ?_)
  refine wpAny_bind (wpAny_typeNameOfCut_int ?_)
  simp only [hp, Option.getD_some]
  refine wpAny_ite (ite_y (by decide) ?_)
  refine wp_eq (t' := retStr (intField' { fill := 32, align := 62, type := some 98 } (decide ((n : Int) < 0)) [] ((Nat.toDigits 2 n).map fun c => (if (98 : Nat) == 88 then c.toUpper else c).toNat) [] 4)) (by kernel_rfl) ?_
  rw [show decide ((n : Int) < 0) = false from decide_eq_false (by omega), field_b _ (by
    have := Nat.length_toDigits_pos (b := 2) (n := n)
    intro z
    rw [List.map_eq_nil_iff] at z
    rw [z] at this
    exact absurd this (by decide))]
  refine wpAny_bind (wpAny_mkStr (wpAny_pure hq.2) ?_)
  show (List.toArray _).size ≤ _
  rw [List.size_toArray, List.length_map]
  exact hz
end
/-! ### a text times an int -/
theorem foldl_app (x : Array Nat) : ∀ (n : Nat) (acc : Array Nat), ((List.replicate n x).foldl (· ++ ·) acc).toList = acc.toList ++ (List.replicate n x.toList).flatten
  | 0, acc => by simp
  | n + 1, acc => by
    rw [List.replicate_succ, List.foldl_cons, foldl_app x n, List.replicate_succ, List.flatten_cons, Array.toList_append, List.append_assoc]
def rRepS : R2 := fun x y H Q => ∃ (l : List Nat) (k : Int), x = .str (SX.S l) ∧ y = .int k ∧ (0 ≤ k ∧ l.length * k.toNat ≤ 16777216 ∧ k ≤ 16777216) ∧ Q (.str (SX.S (List.replicate k.toNat l).flatten)) H
theorem op_repS {X : Cx} : OpR X (binaryOp .Mult) rRepS := by
  intro pins s σ H x y v u Q I rx ry h
  obtain ⟨l, k, rfl, rfl, ⟨h0, hz, hk⟩, q⟩ := h
  obtain ⟨t, rfl⟩ := rx
  obtain ⟨t', rfl⟩ := ry
  have hs : sizeLine = 16777216 := sizeLine_eq
  refine PySem.P.mul_str ?_ (fun h1 _ => ?_) (fun _ _ => ?_) ?_
  · rw [decide_eq_false (by omega), decide_eq_false (by omega)]
    rfl
  · rw [SX.S_len]
    have hp : 0 < k := by omega
    have : (l.length : Int) * k ≤ 16777216 := by
      have e : ((l.length * k.toNat : Nat) : Int) = (l.length : Int) * k := by
        rw [Int.natCast_mul, Int.toNat_of_nonneg h0]
      omega
    have := (Int.le_ediv_iff_mul_le hp (a := (l.length : Int)) (b := 2 ^ 63 - 1)).mpr (by omega)
    omega
  · rw [SX.S_len]
    unfold Builtin.Str.tooLong
    rw [sizeLine_eq]
    exact decide_eq_false (by omega)
  · by_cases h1 : k < 1
    · rw [if_pos h1]
      have e : k = 0 := by omega
      subst e
      exact ⟨by decide, .str (SX.S []), H, I.tok _, ⟨_, rfl⟩, q⟩
    · rw [if_neg h1]
      by_cases h2 : (k == 1 || (SX.S l).length == 0) = true
      · rw [if_pos h2]
        have e : (List.replicate k.toNat l).flatten = l := by
          rw [Bool.or_eq_true, beq_iff_eq, beq_iff_eq, SX.S_len] at h2
          rcases h2 with e | e
          · subst e
            simp
          · rw [List.eq_nil_of_length_eq_zero e]
            simp
        rw [e] at q
        exact ⟨.str (SX.S l), H, I, ⟨t, rfl⟩, q⟩
      · rw [if_neg h2]
        have e : (⟨(List.replicate k.toNat (SX.S l).cps).foldl (· ++ ·) #[]⟩ : Str) = SX.S (List.replicate k.toNat l).flatten := by
          refine TL.ext_tl ?_
          show (List.foldl (· ++ ·) (#[] : Array Nat) (List.replicate k.toNat l.toArray)).toList = _
          rw [foldl_app]
          rfl
        rw [e]
        refine ⟨?_, .str _, H, I.tok _, ⟨_, rfl⟩, q⟩
        rw [SX.S_len, List.length_flatten, List.map_replicate, List.sum_replicate_nat, hs]
        rw [Nat.mul_comm]
        exact hz
/-! ### f(k = v, ..): keywords alone -/
theorem pe_callN0 {X : Cx} {CX : CXT} {k : Nat} {f : Addr} {fd : FuncData} {ps ks : List Str} {sp : Sp} {E : XK} {x : Str} {p pos : Pos} {kws : List Keyword} {tk : TA} {g : List Value → List Value → List Value} {gV : List V → List V → List V}
    (F : FnOk X.prog X.w X.K X.mg X.base CX k f fd ps sp) (hr : Room k X.A) (hg : Gl X x) (hm : X.mg x = some (.ref f)) (hk : PySem.W.keepIn X.K (.ref f) = true) (hb : KBn X.K fd ps 0 ks g gV) (hx : Passes CX X E)
    (hkw : PK X kws tk) (hall : (backToKw pos (keywordEach kws X.env)).all (·.1.isSome) = true := by rfl) (hks : (backToKw pos (keywordEach kws X.env)).filterMap (·.1) = ks := by rfl)
    (hdb : (x == ("__debug__" : Str)) = false := by decide)
    (hpl : ((backTo pos (starEach [] X.env)).any (·.1) || (backToKw pos (keywordEach kws X.env)).any (·.1.isNone)) = false := by rfl) :
    PE X (.Call (.Name x p) [] kws pos) (tCallN 0 ks.length sp gV E tNil tk) := by
  refine ⟨fun pins s σ H Q I h => ?_⟩
  refine wpAny_Call_Name_kw (ld_glob I hg hm ?_ hdb)
  refine PySem.W.callWith_KW0 (h₀ := X.base) I.ok.mod.kin hk hall ?_ hpl
  refine thn (hkw.run pos pins s σ H _ I h) fun ws s2 ⟨zs, H2, I2, rz, l1, l2, q2⟩ => ⟨I2.kIn, ?_⟩
  rw [hks]
  exact run_fnN (us := []) (vs := []) F hr hb hx I2 .nil rz rfl l2 q2
/-! ### int(t, 2) -/
namespace Two
open PySem.NumText PySem.Calls
def Bin (c : Nat) : Prop := c = 48 ∨ c = 49
def num (l : List Nat) : Nat := l.foldl (fun a c => a * 2 + (c - 48)) 0
theorem Bin.plain {c : Nat} (h : Bin c) : c ≠ 95 ∧ c ≠ 0 ∧ c < 128 ∧ 33 ≤ c ∧ c ≠ 32 ∧ c ≠ 43 ∧ c ≠ 45 := by
  rcases h with e | e <;> subst e <;> decide
theorem one {ds : Array Nat} {b : Bool} {c : Nat} (h : Bin c) : PySem.NumText.step 2 (ds, b) c = some (ds.push (c - 48), true) := by
  rcases h with e | e <;> subst e <;> rfl
theorem more : ∀ (cs : List Nat) (ds : Array Nat), (∀ c ∈ cs, Bin c) → cs.foldlM (PySem.NumText.step 2) (ds, true) = some ((ds.toList ++ cs.map (· - 48)).toArray, true)
  | [], ds, _ => by simp
  | c :: cs, ds, h => by
    rw [List.foldlM_cons, one (h c (List.mem_cons_self ..))]
    refine (more cs (ds.push (c - 48)) fun d hd => h d (List.mem_cons_of_mem _ hd)).trans ?_
    simp
theorem all {cs : List Nat} (h : ∀ c ∈ cs, Bin c) (hne : cs ≠ []) : digits? 2 cs = some (cs.map (· - 48)).toArray := by
  cases cs with
  | nil => exact absurd rfl hne
  | cons c cs =>
    have e : List.foldlM (PySem.NumText.step 2) ((#[] : Array Nat), false) (c :: cs) = some (((c :: cs).map (· - 48)).toArray, true) := by
      rw [List.foldlM_cons, one (h c (List.mem_cons_self ..))]
      refine (more cs (#[].push (c - 48)) fun d hd => h d (List.mem_cons_of_mem _ hd)).trans ?_
      simp
    unfold digits?
    rw [e]
    rfl
theorem worth (l : List Nat) : (l.map (· - 48)).toArray.foldl (fun acc d => acc * 2 + d) 0 = num l := by
  rw [← Array.foldl_toList]
  unfold num
  rw [List.foldl_map]
theorem noBlank {cs : List Nat} (h : ∀ c ∈ cs, Bin c) : cs.dropWhile blank = cs := by
  cases cs with
  | nil => rfl
  | cons c cs =>
    have := (h c (List.mem_cons_self ..)).plain
    exact dropWhile_of (by omega)
theorem noSign {cs : List Nat} (h : ∀ c ∈ cs, Bin c) : sign cs = (false, cs) := by
  cases cs with
  | nil => rfl
  | cons c cs =>
    have := (h c (List.mem_cons_self ..)).plain
    exact sign_of (by omega) (by omega)
theorem noPre {cs : List Nat} (h : ∀ c ∈ cs, Bin c) : based 2 cs = (2, false, cs) := by
  match cs, h with
  | [], _ => rfl
  | [a], h =>
    rcases h a (List.mem_cons_self ..) with e | e <;> subst e <;> rfl
  | a :: c :: r, h =>
    rcases h a (List.mem_cons_self ..) with e | e <;> subst e <;>
      rcases h c (List.mem_cons_of_mem _ (List.mem_cons_self ..)) with e | e <;> subst e <;> rfl
theorem read {cs : List Nat} (h : ∀ c ∈ cs, Bin c) (hne : cs ≠ []) : (int_private% "readNumeral") 0 2 cs = (int_private% "Numeral.value") ((num cs : Nat) : Int) := by
  have hb : based 2 cs = (2, false, cs) := noPre h
  have hr : ∀ c ∈ cs.reverse, Bin c := fun c hc => h c (List.mem_reverse.mp hc)
  rw [readNumeral_eq 0 2 cs, noBlank h, noSign h]
  show judge 0 false (based 2 cs).1 (based 2 cs).2.1 (digits? (based 2 cs).1 (((based 2 cs).2.2.reverse.dropWhile blank).reverse)) = _
  rw [hb]
  show judge 0 false 2 false (digits? 2 ((cs.reverse.dropWhile blank).reverse)) = _
  rw [noBlank hr, List.reverse_reverse, all h hne]
  show (int_private% "Numeral.value") (((cs.map (· - 48)).toArray.foldl (fun acc d => acc * 2 + d) 0 : Nat) : Int) = _
  rw [worth]
theorem seen {x : Str} (h : ∀ c ∈ x.cps.toList, Bin c) : numTextOf x = x.cps.toList ∧ numSeenOf x = x.cps.toList := by
  have e1 : numTextOf x = x.cps.toList := if_pos (by
    rw [← Array.all_toList, List.all_eq_true]
    exact fun c hc => decide_eq_true (h c hc).plain.2.2.1)
  refine ⟨e1, ?_⟩
  show List.takeWhile _ (numTextOf x) = _
  rw [e1]
  exact takeWhile_all fun c hc => bne_iff_ne.mpr (h c hc).plain.2.1
set_option maxHeartbeats 4000000 in
theorem gives {x : PySem.Str} {u t : Tok} (hl : x.length ≤ 640) (h : ∀ c ∈ x.cps.toList, Bin c) (hne : x.cps.toList ≠ []) :
    Gives (Builtin.«int.__new__» ⟨[.type "int", .str x u, .int 2 t], []⟩) (.int ((num x.cps.toList : Nat) : Int)) :=
  .of_wp fun M A E s Q hQ => by
    obtain ⟨hp, g, d, tk, os⟩ := s
    have f1 := F.conv_sub_int
    have f2 := F.madeHere_int
    have f6 : typeOf (.str x u) = pure (.type "str") := rfl
    obtain ⟨e1, e2⟩ := seen h
    have hk : Hx.Hid ((numSeenOf x).length ≤ 640 ∧ (int_private% "readNumeral") 0 2 (numSeenOf x) = (int_private% "Numeral.value") ((num x.cps.toList : Nat) : Int) ∧ ((numSeenOf x).length == (numTextOf x).length) = true) := by
      refine ⟨?_, ?_, ?_⟩
      · rw [e2, Array.length_toList]
        exact hl
      · rw [e2]
        exact read h hne
      · rw [e1, e2]
        exact beq_self_eq_true _
    clear e1 e2 hl hne h
    repeat (any_goals (first
      | assumption
      | ((with_reducible show wpAny _ _ ((int_private% "intFromText") _ _ _) _ _ _); refine Hx.wp_textB hk.out.1 hk.out.2.1 hk.out.2.2 ?_)
      | wp_step))
    all_goals (try exact ⟨_, rfl, hQ⟩)
end Two
def rIntBin : List V → Hp → VK → Prop := fun xs H Q => ∃ l : List Nat, xs = [.str (SX.S l), .int 2] ∧ (l ≠ [] ∧ l.length ≤ 640 ∧ ∀ c ∈ l, Two.Bin c) ∧ Q (.int ((Two.num l : Nat) : Int)) H
theorem call_int_bin {X : Cx} : CallR X (.type "int") rIntBin := by
  intro pins s σ H xs us Q I r h
  obtain ⟨l, rfl, ⟨hne, hl, hx⟩, q⟩ := h
  obtain ⟨u, w', rfl, ⟨t1, rfl⟩, ⟨t2, rfl⟩⟩ := vals2 r
  exact callType_new F.called_int F.newNe_int (Hx.typeCall_int_2 _ _) (Hx.newCall_int_2 _ _) (fun obj => F.initArgs_range_2 obj _ _) F.entry_int_new
    (Two.gives (x := SX.S l) (u := t1) (t := t2) (by rw [SX.S_len]; exact hl) hx hne).meets (show (Made.int ((Two.num l : Nat) : Int)).post _ s from ⟨rfl, .int ((Two.num l : Nat) : Int), H, I.tok _, ⟨_, rfl⟩, q⟩)
/-! ### f"{n:b}" -/
def tFmtB (te : TE) : TE := fun σ H Q => te σ H fun x H1 => ∃ n : Nat, x = .int (n : Int) ∧ (dig n).length ≤ 16777216 ∧ Q (.str (SX.S (dig n))) H1
theorem spec_b : Builtin.Float.parseFormatSpec (Str.ofString "b").cps.toList "int" 62 = .ok { fill := 32, align := 62, type := some 98 } := by kernel_rfl
theorem pe_fmtB {X : Cx} {e : Expr} {te : TE} {j : Nat} {p1 p2 p3 p4 : Pos} (he : PE X e te) : PE X (.JoinedStr [.FormattedValue e (-1) (some (.JoinedStr [.Constant (.str "b") j p1] p2)) p3] p4) (tFmtB te) := by
  refine ⟨fun pins s σ H Q I h => ?_⟩
  refine wpAny_JoinedStr_one (wpAny_FormattedValue_spec (thn (he.run pins s σ H _ I h) fun v s1 hv => ?_))
  obtain ⟨x, H1, I1, r1, n, rfl, hz, q⟩ := hv
  obtain ⟨t, rfl⟩ := r1
  refine wpAny_JoinedStr_one (thn ((pe_str (X := X) (x := "b") (j := j) (pos := p1)).run pins s1 σ H1 (fun v H2 => v = .str "b" ∧ H2 = H1) I1 ⟨rfl, rfl⟩) fun v s2 hv => ?_)
  obtain ⟨x, H2, I2, r2, rfl, rfl⟩ := hv
  obtain ⟨t2, rfl⟩ := r2
  have hd : (Nat.toDigits 2 n).length ≤ sizeLine := by
    have h := hz
    unfold dig at h
    rw [List.length_map] at h
    rw [sizeLine_eq]
    exact h
  refine ⟨_, t2, rfl, wpAny_formatField_spec (by decide) (fun s' => typeIs_int s' _ t) F.slot_int_format F.entry_int_format F.args_int_format_2 (fun u => gives_fmtB n t u hd spec_b (by decide) (by decide)) ⟨.str (SX.S (dig n)), _, I2.tok _, ⟨_, rfl⟩, q⟩ (by decide) ?_⟩
  show (List.toArray _).size ≤ _
  rw [List.size_toArray, List.length_map]
  exact hd
/-! ### a def under its name, with its promise -/
structure Df (K : PySem.W.Frag) (mg : Str → Option Value) (x : Str) (st : Stmt) (ps : List Str) (f : Addr) (fd : FuncData) : Prop where
  fn : Fun K x x st f fd
  bi : Binds K fd ps []
  gl : mg x = some (.ref f)
structure Cl (P : Program) (w : World) (K : PySem.W.Frag) (mg : Str → Option Value) (base : Heap) (CX : CXT) (k : Nat) (x : Str) (sp : Sp) : Prop where
  ex : ∃ (f : Addr) (fd : FuncData) (ps : List Str), FnOk P w K mg base CX k f fd ps sp ∧ mg x = some (.ref f) ∧ PySem.W.keepIn K (.ref f) = true ∧ Binds K fd ps []
structure Ck (P : Program) (w : World) (K : PySem.W.Frag) (mg : Str → Option Value) (base : Heap) (CX : CXT) (k n : Nat) (x : Str) (ks : List Str) (gV : List V → List V → List V) (sp : Sp) : Prop where
  ex : ∃ (f : Addr) (fd : FuncData) (ps : List Str) (g : List Value → List Value → List Value), FnOk P w K mg base CX k f fd ps sp ∧ mg x = some (.ref f) ∧ PySem.W.keepIn K (.ref f) = true ∧ KBn K fd ps n ks g gV
section
variable {P : Program} {w : World} {K : PySem.W.Frag} {mg : Str → Option Value} {base : Heap} {CX : CXT} {k j : Nat} {x : Str} {sp : Sp}
theorem Df.cl {st : Stmt} {ps : List Str} {f : Addr} {fd : FuncData} (D : Df K mg x st ps f fd) (h : FnOk P w K mg base CX k f fd ps sp) : Cl P w K mg base CX k x sp := ⟨f, fd, ps, h, D.gl, D.fn.kp, D.bi⟩
theorem pe_cl {X : Cx} {p pos : Pos} {e : Expr} {es : List Expr} {t : TA} (c : Cl X.prog X.w X.K X.mg X.base CX0 k x sp) (hr : Room j X.A) (hk : k ≤ j) (hg : Gl X x) (ha : PA X (e :: es) t)
    (hdb : (x == ("__debug__" : Str)) = false := by decide) (he : starEach (e :: es) X.env = (false, eval e X.env) :: starEach es X.env := by rfl) (hpl : (backTo pos (starEach es X.env)).any (·.1) = false := by rfl) :
    PE X (.Call (.Name x p) (e :: es) [] pos) (tCall sp [] E0 t) := by
  obtain ⟨f, fd, ps, F, hm, kp, b⟩ := c.ex
  exact pe_call F (hr.mono hk) hg hm kp b .nil pass0 ha hdb he hpl
theorem pe_ck0 {X : Cx} {p pos : Pos} {kws : List Keyword} {tk : TA} {ks : List Str} {gV : List V → List V → List V} (c : Ck X.prog X.w X.K X.mg X.base CX0 k 0 x ks gV sp) (hr : Room j X.A) (hk : k ≤ j) (hg : Gl X x) (hkw : PK X kws tk)
    (hall : (backToKw pos (keywordEach kws X.env)).all (·.1.isSome) = true := by rfl) (hks : (backToKw pos (keywordEach kws X.env)).filterMap (·.1) = ks := by rfl)
    (hdb : (x == ("__debug__" : Str)) = false := by decide)
    (hpl : ((backTo pos (starEach [] X.env)).any (·.1) || (backToKw pos (keywordEach kws X.env)).any (·.1.isNone)) = false := by rfl) :
    PE X (.Call (.Name x p) [] kws pos) (tCallN 0 ks.length sp gV E0 tNil tk) := by
  obtain ⟨f, fd, ps, g, F, hm, kp, b⟩ := c.ex
  exact pe_callN0 F (hr.mono hk) hg hm kp b pass0 hkw hall hks hdb hpl
end
/-! ### rules that speak of the written part, K named (a comprehension's block asks it so) -/
section
variable {X : Cx}
theorem ixL (K : PySem.W.Frag) (h : X.K = K := by rfl) : IxR X (rIxL K) := by
  subst h
  exact ix_list
theorem ixT (K : PySem.W.Frag) (h : X.K = K := by rfl) : IxR X (rIxT K) := by
  subst h
  exact ix_tup
def rLenS (K : PySem.W.Frag) : List V → Hp → VK → Prop := fun xs H Q => ∃ p ys, xs = [.ref p] ∧ (SqL K H p ys ∨ SqT K H p ys) ∧ Q (.int (ys.length : Nat)) H
theorem lenS (K : PySem.W.Frag) (h : X.K = K := by rfl) : CallR X (.builtin "len") (rLenS K) := by
  subst h
  exact call_len_seq
def rListOf (K : PySem.W.Frag) : List V → Hp → VK → Prop := fun xs H Q => ∃ p ys, xs = [.ref p] ∧ (SqL K H p ys ∨ SqT K H p ys) ∧ ∀ l, H l = none → Q (.ref l) (upd H l (.lst ys))
theorem listOf (K : PySem.W.Frag) (h : X.K = K := by rfl) : CallR X (.type "list") (rListOf K) := by
  subst h
  exact call_list_of
def rTupOf (K : PySem.W.Frag) : List V → Hp → VK → Prop := fun xs H Q => ∃ p ys, xs = [.ref p] ∧ ((SqL K H p ys ∧ ∀ l, H l = none → Q (.ref l) (upd H l (.tup ys))) ∨ (SqT K H p ys ∧ Q (.ref p) H))
theorem tupOf (K : PySem.W.Frag) (h : X.K = K := by rfl) : CallR X (.type "tuple") (rTupOf K) := by
  subst h
  exact call_tuple_of
theorem crSum (K : PySem.W.Frag) (hc : X.calm = true) (h : X.K = K := by rfl) : CallR X (.builtin "sum") (rSum K) := by
  subst h
  exact cr_sum hc
theorem crAll (K : PySem.W.Frag) (hc : X.calm = true) (h : X.K = K := by rfl) : CallR X (.builtin "all") (rAll K) := by
  subst h
  exact cr_all hc
theorem isiK (K : PySem.W.Frag) (h : X.K = K := by rfl) : CallR X (.builtin "isinstance") (rIsi K) := by
  subst h
  exact call_isi
theorem opCatA (K : PySem.W.Frag) (h : X.K = K := by rfl) : OpR X (binaryOp .Add) (rCatA K) := by
  subst h
  exact op_catA
theorem slL (K : PySem.W.Frag) (h : X.K = K := by rfl) : SlR X (rSlL K) := by
  subst h
  exact sl_list
def rJoin (K : PySem.W.Frag) : V → List V → Hp → VK → Prop := fun x xs H Q => ∃ (a : Str) (p : Addr) (ys : List Str), x = .str a ∧ xs = [.ref p] ∧ (SqL K H p (ys.map V.str) ∨ SqT K H p (ys.map V.str)) ∧ (ys.map (·.length)).sum + ys.length * a.length ≤ 16777216 ∧ Q (.str (Txt.join a ys)) H
theorem mtJoin (K : PySem.W.Frag) (h : X.K = K := by rfl) : MtR X "str.join" (rJoin K) := by
  subst h
  exact mt_join
theorem slTA (K : PySem.W.Frag) (h : X.K = K := by rfl) : SlR X (rSlA K) := by
  subst h
  exact sl_tupA
/-- a built-in class as a value -/
theorem pe_ty {x : Str} {pos : Pos} (t : String) (hg : Gl X x) (hm : X.mg x = none) (hv : bootBuiltins x = some (.type t)) (hn : x ≠ "__name__" := by decide +kernel) (hd : (x == ("__debug__" : Str)) = false := by decide +kernel) : PE X (.Name x pos) (tC (.ty t)) := pe_bltn hg hm hv rfl hn hd
end

theorem Vals.rev : ∀ {xs : List V} {us : List Value}, Vals xs us → Vals xs.reverse us.reverse
  | _, _, .nil => .nil
  | _, _, .cons r t => by
    rw [List.reverse_cons, List.reverse_cons]
    exact Vals.append (Vals.rev t) (.cons r .nil)
theorem Fun.kb {K : PySem.W.Frag} {x qual : Str} {st : Stmt} {f : Addr} {fd : FuncData} {ps ks : List Str} {g : List Value → List Value → List Value} {gV : List V → List V → List V} (F : Fun K x qual st f fd) (n : Nat)
    (h : ∀ (kV doc pm : Value) (an : Option Addr) (cdv ct : Value) (us ws : List Value), us.length = n → ws.length = ks.length → bindArgs (PySem.W.fnOf x qual (defArgs st) (defBody st) (defScope st) .none kV doc pm an cdv ct) ⟨us, ks.zip ws⟩ = pure (ps.zip (g us ws)))
    (hrel : ∀ {vs : List V} {us : List Value} {zs : List V} {ws : List Value}, Vals vs us → Vals zs ws → Vals (gV vs zs) (g us ws)) : KBn K fd ps n ks g gV := by
  obtain ⟨oc, od, kV, doc, pm, an, cdv, ct, osl, rfl, lk, hcd⟩ := F.ex
  exact ⟨fun s us ws _ l1 l2 => .of_eq (h kV doc pm an cdv ct us ws l1 l2), hrel⟩

/-! ### own errors -/
structure Exn (K : PySem.W.Frag) (mg : Str → Option Value) (x : Str) (C : Addr) : Prop where
  inn : PySem.W.excIn K C [.type "ValueError", .type "Exception", .type "BaseException", .type "object"] "ValueError.__new__" = true
  gl : mg x = some (.ref C)
  kp : PySem.W.keepIn K (.ref C) = true
  ba : PySem.W.subIn K (.ref C) (.type "BaseException") = some true
  ty : PySem.W.typeIn K (.ref C) = some (.type "type")
section
variable {X : Cx} {C : Addr} {x m : Str} {j k i : Nat} {p p2 pos pos2 : Pos} {W : WX} {sp : Sp} {e : Expr} {es : List Expr} {t : TA}
theorem ps_raiseE (e : Exn X.K X.mg x C) (hc : X.calm = true) (tk : Takes X W) (hg : Gl X x) (hdb : (x == ("__debug__" : Str)) = false := by decide) :
    PS X (.Raise (some (.Call (.Name x p) [.Constant (.str m) j p2] [] pos)) none pos2) (fun _ σ H => W (.ref C) none σ H) :=
  ps_raise hc tk (pmk_own PySem.F.excBase_ValueError e.inn e.gl e.kp (raises_own e.ba e.ty) hg hdb)
theorem pe_clX (c : Cl X.prog X.w X.K X.mg X.base (L2.CX X.prog X.w) k x sp) (hr : Room i X.A) (hk : k ≤ i) (hg : Gl X x) (tk : Takes X W) (ha : PA X (e :: es) t)
    (hdb : (x == ("__debug__" : Str)) = false := by decide) (he : starEach (e :: es) X.env = (false, eval e X.env) :: starEach es X.env := by rfl) (hpl : (backTo pos (starEach es X.env)).any (·.1) = false := by rfl) :
    PE X (.Call (.Name x p) (e :: es) [] pos) (tCallS sp (WE W) t) := by
  obtain ⟨f, fd, ps, F, hm, kp, b⟩ := c.ex
  exact pe_callS F (hr.mono hk) hg hm kp b (fun σ => passAt tk σ) ha hdb he hpl
end

/-! ### data: what a value is, to any depth -/
theorem dp_all_len {K : PySem.W.Frag} {H : Hp} : ∀ {vs : List V} {ds : List PyData}, DpAll K H vs ds → vs.length = ds.length
  | _, _, .nil => rfl
  | _, _, .cons _ t => congrArg Nat.succ (dp_all_len t)
theorem dp_all_get {K : PySem.W.Frag} {H : Hp} : ∀ {vs : List V} {ds : List PyData} {i : Nat} {v : V}, DpAll K H vs ds → vs[i]? = some v → ∃ d, ds[i]? = some d ∧ Dp K H v d
  | _, _, _, _, .nil, h => by simp at h
  | _, _, 0, v, .cons h t, e => by
    have e' := Option.some.inj e
    subst e'
    exact ⟨_, rfl, h⟩
  | _, _, i + 1, v, .cons h t, e => dp_all_get (i := i) t e
theorem same_sqt {K : PySem.W.Frag} {H H' : Hp} {a : Addr} {xs : List V} (e : Same H H') (h : SqT K H a xs) : SqT K H' a xs := by
  rcases h with (h | ⟨o, h⟩) | h
  · exact .inl (.inl (e _ _ h))
  · exact .inl (.inr ⟨o, e _ _ h⟩)
  · exact .inr h
mutual
theorem dp_same {K : PySem.W.Frag} {H H' : Hp} (e : Same H H') : ∀ (d : PyData) {v : V}, Dp K H v d → Dp K H' v d
  | .none, _, .non => .non
  | .bool _, _, .bl b => .bl b
  | .int _, _, .int i => .int i
  | .str _, _, .str x => .str x
  | .list ds, _, .lst hs ha => .lst (e.seq hs) (dps_same e ds ha)
  | .tuple ds, _, .tup hs ha => .tup (same_sqt e hs) (dps_same e ds ha)
  | .dict _, _, h => by cases h
theorem dps_same {K : PySem.W.Frag} {H H' : Hp} (e : Same H H') : ∀ (ds : List PyData) {vs : List V}, DpAll K H vs ds → DpAll K H' vs ds
  | [], _, .nil => .nil
  | d :: ds, _, .cons h t => .cons (dp_same e d h) (dps_same e ds t)
end
def okT (x : Str) : Prop := PySem.PyData.strOk x = true ∧ x.length ≤ 5000
/-- plain data of so many levels at most, nothing large -/
def Gd : Nat → PyData → Prop
  | 0, d => match d with
    | .none => True
    | .bool _ => True
    | .int _ => True
    | .str x => okT x
    | _ => False
  | n + 1, d => match d with
    | .none => True
    | .bool _ => True
    | .int _ => True
    | .str x => okT x
    | .list xs => xs.length ≤ 5000 ∧ ∀ x ∈ xs, Gd n x
    | .tuple xs => xs.length ≤ 5000 ∧ ∀ x ∈ xs, Gd n x
    | .dict _ => False
theorem gd_str {n : Nat} {x : Str} (h : Gd n (.str x)) : okT x := by
  cases n with
  | zero => exact h
  | succ n => exact h
theorem gd_tup {n : Nat} {xs : List PyData} (h : Gd n (.tuple xs)) : xs.length ≤ 5000 ∧ ∃ m, n = m + 1 ∧ ∀ x ∈ xs, Gd m x := by
  cases n with
  | zero => exact h.elim
  | succ n => exact ⟨h.1, n, rfl, h.2⟩
theorem gd_lst {n : Nat} {xs : List PyData} (h : Gd n (.list xs)) : xs.length ≤ 5000 ∧ ∃ m, n = m + 1 ∧ ∀ x ∈ xs, Gd m x := by
  cases n with
  | zero => exact h.elim
  | succ n => exact ⟨h.1, n, rfl, h.2⟩
theorem gd_up : ∀ {n : Nat} {d : PyData}, Gd n d → Gd (n + 1) d
  | 0, .none, h => h
  | 0, .bool _, h => h
  | 0, .int _, h => h
  | 0, .str _, h => h
  | n + 1, .none, h => h
  | n + 1, .bool _, h => h
  | n + 1, .int _, h => h
  | n + 1, .str _, h => h
  | n + 1, .list xs, h => ⟨h.1, fun x hx => gd_up (h.2 x hx)⟩
  | n + 1, .tuple xs, h => ⟨h.1, fun x hx => gd_up (h.2 x hx)⟩
theorem gd_le {n m : Nat} {d : PyData} (h : Gd n d) (hm : n ≤ m) : Gd m d := by
  induction hm with
  | refl => exact h
  | step _ ih => exact gd_up ih
theorem depthAll_le {n : Nat} : ∀ {xs : List PyData}, (∀ x ∈ xs, x.depth ≤ n) → PyData.depthAll xs ≤ n
  | [], _ => by
    unfold PyData.depthAll
    exact Nat.zero_le _
  | x :: xs, h => by
    unfold PyData.depthAll
    exact Nat.max_le.mpr ⟨h x List.mem_cons_self, depthAll_le fun y hy => h y (List.mem_cons_of_mem _ hy)⟩
theorem layAll_of : ∀ {xs : List PyData}, (∀ x ∈ xs, x.canLay0 = true) → PyData.canLayAll0 xs = true
  | [], _ => by
    unfold PyData.canLayAll0
    rfl
  | x :: xs, h => by
    unfold PyData.canLayAll0
    rw [h x List.mem_cons_self, layAll_of fun y hy => h y (List.mem_cons_of_mem _ hy)]
    rfl
theorem gd_facts : ∀ {n : Nat} {d : PyData}, Gd n d → d.canLay0 = true ∧ d.depth ≤ n
  | 0, .none, h => ⟨by unfold PyData.canLay0; rfl, by unfold PyData.depth; omega⟩
  | 0, .bool _, h => ⟨by unfold PyData.canLay0; rfl, by unfold PyData.depth; omega⟩
  | 0, .int _, h => ⟨by unfold PyData.canLay0; rfl, by unfold PyData.depth; omega⟩
  | 0, .str _, h => ⟨by unfold PyData.canLay0; exact h.1, by unfold PyData.depth; omega⟩
  | n + 1, .none, h => ⟨by unfold PyData.canLay0; rfl, by unfold PyData.depth; omega⟩
  | n + 1, .bool _, h => ⟨by unfold PyData.canLay0; rfl, by unfold PyData.depth; omega⟩
  | n + 1, .int _, h => ⟨by unfold PyData.canLay0; rfl, by unfold PyData.depth; omega⟩
  | n + 1, .str _, h => ⟨by unfold PyData.canLay0; exact h.1, by unfold PyData.depth; omega⟩
  | n + 1, .list xs, h => ⟨by unfold PyData.canLay0; exact layAll_of fun x hx => (gd_facts (h.2 x hx)).1, by
      unfold PyData.depth
      have := depthAll_le fun x hx => (gd_facts (h.2 x hx)).2
      omega⟩
  | n + 1, .tuple xs, h => ⟨by unfold PyData.canLay0; exact layAll_of fun x hx => (gd_facts (h.2 x hx)).1, by
      unfold PyData.depth
      have := depthAll_le fun x hx => (gd_facts (h.2 x hx)).2
      omega⟩
theorem gd_shaped {n : Nat} {d : PyData} (h : Gd n d) (hn : n ≤ 64) : SeqAt.shaped d = true := by
  obtain ⟨h1, h2⟩ := gd_facts h
  unfold SeqAt.shaped
  rw [h1, decide_eq_true (Nat.le_trans h2 hn)]
  rfl
/-! ### types -/
def tyN : PyData → String
  | .none => "NoneType"
  | .bool _ => "bool"
  | .int _ => "int"
  | .str _ => "str"
  | .list _ => "list"
  | .tuple _ => "tuple"
  | .dict _ => "dict"
theorem dp_ty {K : PySem.W.Frag} {H : Hp} {v : V} : ∀ {d : PyData}, Dp K H v d → TyX K H v (.type (tyN d))
  | _, .non => .base .non
  | _, .bl b => .base (.bl b)
  | _, .int i => .base (.int i)
  | _, .str x => .base (.str x)
  | _, .lst hs _ => by
    rcases hs with (h | ⟨o, h⟩) | ⟨o, _, _, h, hc, _⟩
    · exact .base (.lst h)
    · exact .base (.frz h)
    · exact .kList h hc
  | _, .tup hs _ => by
    rcases hs with (h | ⟨o, h⟩) | ⟨o, _, _, h, hc, _⟩
    · exact .base (.tup h)
    · exact .fTuple h
    · exact .kTuple h hc
def isInt : PyData → Bool
  | .int _ => true
  | .bool _ => true
  | _ => false
def isBool : PyData → Bool
  | .bool _ => true
  | _ => false
def isStr : PyData → Bool
  | .str _ => true
  | _ => false
def isTup : PyData → Bool
  | .tuple _ => true
  | _ => false
theorem kit_int {K : PySem.W.Frag} (d : PyData) : PySem.W.kitOne K (.type (tyN d)) (.type "int") = some (isInt d) := by
  cases d with
  | none => exact kit_ty (show kitB "NoneType" "int" = some false by decide +kernel)
  | bool _ => exact kit_ty (show kitB "bool" "int" = some true by decide +kernel)
  | int _ => exact kit_ty (show kitB "int" "int" = some true by decide +kernel)
  | str _ => exact kit_ty (show kitB "str" "int" = some false by decide +kernel)
  | list _ => exact kit_ty (show kitB "list" "int" = some false by decide +kernel)
  | tuple _ => exact kit_ty (show kitB "tuple" "int" = some false by decide +kernel)
  | dict _ => exact kit_ty (show kitB "dict" "int" = some false by decide +kernel)
theorem kit_bool {K : PySem.W.Frag} (d : PyData) : PySem.W.kitOne K (.type (tyN d)) (.type "bool") = some (isBool d) := by
  cases d with
  | none => exact kit_ty (show kitB "NoneType" "bool" = some false by decide +kernel)
  | bool _ => exact kit_ty (show kitB "bool" "bool" = some true by decide +kernel)
  | int _ => exact kit_ty (show kitB "int" "bool" = some false by decide +kernel)
  | str _ => exact kit_ty (show kitB "str" "bool" = some false by decide +kernel)
  | list _ => exact kit_ty (show kitB "list" "bool" = some false by decide +kernel)
  | tuple _ => exact kit_ty (show kitB "tuple" "bool" = some false by decide +kernel)
  | dict _ => exact kit_ty (show kitB "dict" "bool" = some false by decide +kernel)
theorem kit_str {K : PySem.W.Frag} (d : PyData) : PySem.W.kitOne K (.type (tyN d)) (.type "str") = some (isStr d) := by
  cases d with
  | none => exact kit_ty (show kitB "NoneType" "str" = some false by decide +kernel)
  | bool _ => exact kit_ty (show kitB "bool" "str" = some false by decide +kernel)
  | int _ => exact kit_ty (show kitB "int" "str" = some false by decide +kernel)
  | str _ => exact kit_ty (show kitB "str" "str" = some true by decide +kernel)
  | list _ => exact kit_ty (show kitB "list" "str" = some false by decide +kernel)
  | tuple _ => exact kit_ty (show kitB "tuple" "str" = some false by decide +kernel)
  | dict _ => exact kit_ty (show kitB "dict" "str" = some false by decide +kernel)
theorem kit_tup {K : PySem.W.Frag} (d : PyData) : PySem.W.kitOne K (.type (tyN d)) (.type "tuple") = some (isTup d) := by
  cases d with
  | none => exact kit_ty (show kitB "NoneType" "tuple" = some false by decide +kernel)
  | bool _ => exact kit_ty (show kitB "bool" "tuple" = some false by decide +kernel)
  | int _ => exact kit_ty (show kitB "int" "tuple" = some false by decide +kernel)
  | str _ => exact kit_ty (show kitB "str" "tuple" = some false by decide +kernel)
  | list _ => exact kit_ty (show kitB "list" "tuple" = some false by decide +kernel)
  | tuple _ => exact kit_ty (show kitB "tuple" "tuple" = some true by decide +kernel)
  | dict _ => exact kit_ty (show kitB "dict" "tuple" = some false by decide +kernel)
/-! ### what a block is -/
def whole : PyData → Int → Int → Bool
  | .int i, lo, hi => decide (lo ≤ i) && decide (i ≤ hi)
  | _, _, _ => false
def strLen (m : Int) : PyData → Bool
  | .str x => decide ((x.length : Int) = m)
  | _ => false
def bitRow (m : Int) : PyData → Bool
  | .str x => decide ((x.length : Int) = m) && x.cps.toList.all (fun c => c == 48 || c == 49)
  | _ => false
def rowsOk : PyData → Int → Int → Bool
  | .tuple xs, many, m => decide ((xs.length : Int) = many) && xs.all (bitRow m)
  | _, _, _ => false
def named (x : Str) (d : PyData) : Bool := PyData.eqv d (.str x)
def genRows : PyData → PyData → PyData → Bool
  | .int n, .int m, r => rowsOk r (1 * 2 ^ n.toNat) m
  | _, _, _ => false
def genOk : PyData → Bool
  | .tuple [k, n, m, r] => named "generator" k && whole n 1 10 && whole m 1 40 && genRows n m r
  | _ => false
def sumLe : PyData → PyData → Bool
  | .int n, .int l => decide (n + l ≤ 12)
  | _, _ => false
def funTabs : PyData → PyData → PyData → PyData → Bool
  | .int n, .int l, .int m, .tuple ts => decide ((ts.length : Int) = 1 * 2 ^ n.toNat) && ts.all (fun r => rowsOk r (1 * 2 ^ l.toNat) m)
  | _, _, _, _ => false
def funOk : PyData → Bool
  | .tuple [k, n, l, m, t] => named "function" k && whole n 1 8 && whole l 1 8 && sumLe n l && whole m 1 40 && funTabs n l m t
  | _ => false
theorem gen_no {xs : List PyData} (h : ¬ xs.length = 4) : genOk (.tuple xs) = false := by
  unfold genOk
  split
  · rename_i e
    cases e
    exact absurd rfl h
  · rfl
theorem fun_no {xs : List PyData} (h : ¬ xs.length = 5) : funOk (.tuple xs) = false := by
  unfold funOk
  split
  · rename_i e
    cases e
    exact absurd rfl h
  · rfl
def blockOk (d : PyData) : Bool := genOk d || funOk d
/-! ### strip of 0 and 1 -/
theorem strip_all (x : Str) : decide (V.str (Txt.stripChars x "01") = V.str "") = x.cps.toList.all (fun c => c == 48 || c == 49) := by
  have goes : ∀ c : Nat, (("01" : Str).cps.contains c) = (c == 48 || c == 49) := fun c => by
    show (#[48, 49] : Array Nat).contains c = _
    by_cases h1 : c = 48
    · subst h1
      simp
    · by_cases h2 : c = 49
      · subst h2
        simp
      · simp [h1, h2]
  have hn : x.cps.toList.length = x.length := by simp [Str.length]
  have key : Txt.stripChars x "01" = "" ↔ ∀ k, k < x.length → (("01" : Str).cps.contains (x.cps.getD k 0)) = true := by
    unfold Txt.stripChars
    rw [stripBy_eq]
    obtain ⟨a1, a2, a3⟩ := lo_facts ("01" : Str).cps.contains x
    obtain ⟨b1, b2, b3, _⟩ := hi_facts ("01" : Str).cps.contains x _ a1
    generalize stripLo ("01" : Str).cps.contains true x = lo at a1 a2 a3 b1 b2 b3
    generalize stripHi ("01" : Str).cps.contains true x lo = hi at b1 b2 b3
    have hl : (Builtin.Str.strSub x lo hi).cps.toList = (x.cps.toList.drop lo).take (hi - lo) := PySem.StrLaws.strSub_toList x lo hi
    constructor
    · intro e k hk
      have h0 : (x.cps.toList.drop lo).take (hi - lo) = [] := by
        rw [← hl, e]
        rfl
      have h1 := congrArg List.length h0
      rw [List.length_take, List.length_drop, hn] at h1
      have h2 : min (hi - lo) (x.length - lo) = 0 := h1
      by_cases hk' : k < lo
      · exact a2 k hk'
      · exact b3 k (by omega) hk
    · intro h
      have e : lo = x.length := by
        rcases a3 with z | z
        · exact z
        · by_cases c : lo < x.length
          · rw [h lo c] at z
            cases z
          · omega
      refine TL.ext_tl ?_
      show (Builtin.Str.strSub x lo hi).cps.toList = []
      rw [hl, List.drop_eq_nil_of_le (by omega)]
      exact List.take_nil
  have e2 : (∀ k, k < x.length → (("01" : Str).cps.contains (x.cps.getD k 0)) = true) ↔ x.cps.toList.all (fun c => c == 48 || c == 49) = true := by
    rw [List.all_eq_true]
    constructor
    · intro h c hc
      obtain ⟨k, hk, e⟩ := List.getElem_of_mem hc
      have := h k (by omega)
      rw [← getD_list, List.getD_eq_getElem?_getD, List.getElem?_eq_getElem hk] at this
      rw [← goes c, ← e]
      exact this
    · intro h k hk
      rw [← getD_list, List.getD_eq_getElem?_getD, List.getElem?_eq_getElem (by omega)]
      rw [goes]
      exact h _ (List.getElem_mem _)
  by_cases c : Txt.stripChars x "01" = ""
  · rw [c, decide_eq_true rfl]
    exact (e2.mp (key.mp c)).symm
  · rw [decide_eq_false fun z => c (V.str.inj z)]
    cases hq : x.cps.toList.all (fun c => c == 48 || c == 49)
    · rfl
    · exact absurd (key.mpr (e2.mpr hq)) c
/-! ### what the law makes -/
def rowsD (rows : List (List Bool)) : PyData := .tuple (rows.map fun r => .str (sb r))
def tabD (n m : Nat) (rows : List (List Bool)) : PyData := .tuple [.str "generator", .int (n : Int), .int (m : Int), rowsD rows]
def funD (n l m : Nat) (tabs : List (List (List Bool))) : PyData := .tuple [.str "function", .int (n : Int), .int (l : Int), .int (m : Int), .tuple (tabs.map rowsD)]
theorem dp_bits {K : PySem.W.Frag} {H : Hp} : ∀ rows : List (List Bool), DpAll K H (rows.map fun r => V.str (sb r)) (rows.map fun r => PyData.str (sb r))
  | [] => .nil
  | r :: rows => .cons (.str _) (dp_bits rows)
theorem dpAll_snoc {K : PySem.W.Frag} {H : Hp} {v : V} {d : PyData} : ∀ {vs : List V} {ds : List PyData}, DpAll K H vs ds → Dp K H v d → DpAll K H (vs ++ [v]) (ds ++ [d])
  | _, _, .nil, h => .cons h .nil
  | _, _, .cons h t, h' => .cons h (dpAll_snoc t h')

/-! ### the promises -/
/-- the hand: a list of the draws' list and the number of the next draw -/
def Hnd (H : Hp) (a d : Addr) : Prop := ∃ (ds : List Int) (i : Nat), H a = some (.lst [.ref d, .int (i : Int)]) ∧ H d = some (.lst (ds.map V.int)) ∧ (∀ x ∈ ds, 0 ≤ x) ∧ d ≠ a
/-- all but the hand is as it was -/
def Keep (a : Addr) (H H' : Hp) : Prop := ∀ b o, H b = some o → b ≠ a → H' b = some o
theorem Keep.trans {a : Addr} {H H1 H2 : Hp} (h : Keep a H H1) (h' : Keep a H1 H2) : Keep a H H2 := fun b o e n => h' b o (h b o e n) n
theorem Keep.refl (a : Addr) (H : Hp) : Keep a H H := fun _ _ e _ => e
theorem Keep.new {a p : Addr} {H : Hp} {o : HO} (np : H p = none) : Keep a H (upd H p o) := fun b u e _ => by
  rw [upd_ne (ne_of_none e np)]
  exact e
theorem same_new {H : Hp} {p : Addr} {o : HO} (h : H p = none) : Same H (upd H p o) := fun b x e => by
  rw [upd_ne (ne_of_none e h)]
  exact e
theorem Hnd.same {H H' : Hp} {a d : Addr} (h : Hnd H a d) (s : Same H H') : Hnd H' a d := by
  obtain ⟨ds, i, h1, h2, h3, h4⟩ := h
  exact ⟨ds, i, s _ _ h1, s _ _ h2, h3, h4⟩
theorem Hnd.new {H : Hp} {a d p : Addr} {o : HO} (h : Hnd H a d) (np : H p = none) : Hnd (upd H p o) a d := h.same (same_new np)
theorem Hnd.some {H : Hp} {a d : Addr} (h : Hnd H a d) : ∃ o, H a = some o := by
  obtain ⟨ds, i, h1, _⟩ := h
  exact ⟨_, h1⟩
/-- what is new is neither the hand nor the draws -/
theorem Hnd.ne {H : Hp} {a d p : Addr} (h : Hnd H a d) (np : H p = none) : p ≠ a ∧ p ≠ d := by
  obtain ⟨ds, i, h1, h2, _⟩ := h
  exact ⟨(ne_of_none h1 np).symm, (ne_of_none h2 np).symm⟩
/-- an object beside the hand may change -/
theorem Hnd.set {H : Hp} {a d p : Addr} {o : HO} (h : Hnd H a d) (pa : p ≠ a) (pd : p ≠ d) : Hnd (upd H p o) a d := by
  obtain ⟨ds, i, h1, h2, h3, h4⟩ := h
  exact ⟨ds, i, by rw [upd_ne pa.symm]; exact h1, by rw [upd_ne pd.symm]; exact h2, h3, h4⟩
theorem Keep.same {a : Addr} {H H' : Hp} (s : Same H H') : Keep a H H' := fun b o e _ => s b o e
def spDraws (K : PySem.W.Frag) : Sp := fun vs H Q _ => ∃ (a : Addr) (ns : List Int) (many : Nat), vs = [.ref a, .int (many : Int)] ∧ SqL K H a (ns.map V.int) ∧ ns.length ≤ 63 ∧ many ≤ 5000 ∧
  ∀ (p : Addr) (ds : List Int) (H' : Hp), H p = none → Same H H' → H' p = some (.lst (ds.map V.int)) → (∀ x ∈ ds, (0 : Int) ≤ x) → Q (.ref p) H'
def spTake : Sp := fun vs H Q _ => ∃ (a d : Addr) (many : Int), vs = [.ref a, .int many] ∧ 0 < many ∧ Hnd H a d ∧ ∀ r H', 0 ≤ r → r < many → Hnd H' a d → Keep a H H' → Q (.int r) H'
def spString : Sp := fun vs H Q _ => ∃ (a d : Addr) (n : Nat), vs = [.ref a, .int (n : Int)] ∧ n ≤ 5000 ∧ Hnd H a d ∧ ∀ bs H', bs.length = n → Hnd H' a d → Keep a H H' → Q (.str (sb bs)) H'
def spBits : Sp := fun vs H Q _ => ∃ n k : Nat, vs = [.int (n : Int), .int (k : Int)] ∧ n ≤ 5000 ∧ k < 2 ^ n ∧ Q (.str (sb (toB n k))) H
def spNumber : Sp := fun vs H Q _ => ∃ bs : List Bool, vs = [.str (sb bs)] ∧ bs.length ≤ 640 ∧ Q (.int ((val bs : Nat) : Int)) H
def spXor : Sp := fun vs H Q _ => ∃ l m : List Bool, vs = [.str (sb l), .str (sb m)] ∧ l.length = m.length ∧ l.length ≤ 640 ∧ Q (.str (sb (List.zipWith (fun x y => x != y) l m))) H
def spParity : Sp := fun vs H Q _ => ∃ l m : List Bool, vs = [.str (sb l), .str (sb m)] ∧ l.length = m.length ∧ l.length ≤ 640 ∧ Q (.int ((((List.zipWith (fun x y => x && y) l m).count true : Nat) : Int) % 2)) H
def spIsS : Sp := fun vs H Q _ => ∃ x y : Str, vs = [.str x, .str y] ∧ Q (.bl (decide (x = y))) H
def spIsN : Sp := fun vs H Q _ => ∃ x y : Int, vs = [.int x, .int y] ∧ Q (.bl (decide (x = y))) H
def spPair : Sp := fun vs H Q _ => ∃ l m : List Bool, vs = [.str (sb l), .str (sb m)] ∧ l.length = m.length ∧ l.length ≤ 640 ∧ ∀ H', Same H H' → Q (.bl true) H'
def spLaw (K : PySem.W.Frag) : Sp := fun vs H Q _ => ∃ (a : Addr) (ns : List Int), vs = [.ref a] ∧ SqL K H a (ns.map V.int) ∧ ns.length ≤ 63 ∧ ∀ H', Q (.bl true) H'
/-- what was made anew may change: nothing that was there is it -/
theorem Keep.set {a p : Addr} {H H' : Hp} {o : HO} (h : Keep a H H') (np : H p = none) : Keep a H (upd H' p o) := fun b u e n => by
  rw [upd_ne (ne_of_none e np)]
  exact h b u e n
theorem Keep.free {a p : Addr} {H H' : Hp} (h : Keep a H H') (np : H' p = none) (pa : p ≠ a) : H p = none := by
  cases e : H p with
  | none => rfl
  | some o =>
    have := h p o e pa
    rw [np] at this
    cases this
/-- the heap without the hand: what data stand on -/
def off (a : Addr) (H : Hp) : Hp := fun b => if b = a then none else H b
theorem off_ne {a b : Addr} {H : Hp} (h : b ≠ a) : off a H b = H b := if_neg h
theorem off_same (a : Addr) (H : Hp) : Same (off a H) H := fun b o e => by
  unfold off at e
  by_cases h : b = a
  · rw [if_pos h] at e
    cases e
  · rw [if_neg h] at e
    exact e
theorem Keep.off {a : Addr} {H H' : Hp} (k : Keep a H H') : Same (off a H) (off a H') := fun b o e => by
  unfold My.off at e ⊢
  by_cases h : b = a
  · rw [if_pos h] at e
    cases e
  · rw [if_neg h] at e ⊢
    exact k b o e h

def spWhole (K : PySem.W.Frag) : Sp := fun vs H Q _ => ∃ (v : V) (d : PyData) (lo hi : Int), vs = [v, .int lo, .int hi] ∧ Dp K H v d ∧ Q (.bl (whole d lo hi)) H
def spRows (K : PySem.W.Frag) : Sp := fun vs H Q _ => ∃ (v : V) (d : PyData) (n : Nat) (many m : Int), vs = [v, .int many, .int m] ∧ Dp K H v d ∧ Gd n d ∧ many ≤ 4096 ∧ m ≤ 40 ∧ ∀ H', Same H H' → Q (.bl (rowsOk d many m)) H'
def spGen (K : PySem.W.Frag) : Sp := fun vs H Q _ => ∃ (v : V) (d : PyData) (n : Nat), vs = [v] ∧ Dp K H v d ∧ Gd n d ∧ n ≤ 64 ∧ ∀ H', Same H H' → Q (.bl (genOk d)) H'
def spFun (K : PySem.W.Frag) : Sp := fun vs H Q _ => ∃ (v : V) (d : PyData) (n : Nat), vs = [v] ∧ Dp K H v d ∧ Gd n d ∧ n ≤ 64 ∧ ∀ H', Same H H' → Q (.bl (funOk d)) H'
def spCheck (K : PySem.W.Frag) (C : Addr) : Sp := fun vs H Q E => ∃ (v : V) (d : PyData) (n : Nat), vs = [v] ∧ Dp K H v d ∧ Gd n d ∧ n ≤ 64 ∧ ∀ H', Same H H' → (blockOk d = true → Q .non H') ∧ (blockOk d = false → E (.ref C) none H')

theorem for_text {x : Str} {g : TG} {tb : TS} {D : Ends} {σ : L2.St} {H : Hp} (Pv : Nat → L2.St → Hp → Prop) (h0 : Pv 0 σ H)
    (hs : ∀ i c σ H, x.cps[i]? = some c → Pv i σ H → g (.str ⟨#[c]⟩) σ H fun σ2 H2 => tb { D with nx := Pv (i + 1), ct := Pv (i + 1), bk := D.nx } σ2 H2) (hd : ∀ σ H, Pv x.cps.size σ H → D.nx σ H) :
    ∃ W : Nat → Nat → L2.St → Hp → Prop, (∃ m, W 0 m σ H) ∧ ∀ i m σ H, W i m σ H →
      ((Its x).stop i H ∧ D.nx σ H) ∨ ((Its x).go i H ∧ ∃ N : L2.St → Hp → Prop, (∀ σ' H', N σ' H' → ∃ m', m' < m ∧ W (i + 1) m' σ' H') ∧ ∀ y H', (Its x).yld i H y H' → g y σ H' fun σ2 H2 => tb { D with nx := N, ct := N, bk := D.nx } σ2 H2) := by
  refine ⟨fun i m σ H => m = x.cps.size - i ∧ i ≤ x.cps.size ∧ Pv i σ H, ⟨x.cps.size, by omega, Nat.zero_le _, h0⟩, ?_⟩
  rintro i m σ H ⟨rfl, hi, p⟩
  by_cases c : i < x.cps.size
  · refine .inr ⟨c, Pv (i + 1), fun σ' H' p' => ⟨x.cps.size - (i + 1), by omega, rfl, c, p'⟩, ?_⟩
    rintro y H' ⟨rfl, k, hk, rfl⟩
    exact hs i k σ _ hk p
  · have e : i = x.cps.size := by omega
    subst e
    exact .inl ⟨Nat.le_refl _, hd σ H p⟩

theorem ix_nat (n d i : Nat) : HT.sIx n d (some (i : Int)) = min i n := by
  unfold HT.sIx
  show (if (i : Int) < 0 then _ else min (i : Int).toNat n) = _
  rw [if_neg (by omega)]
  rfl
theorem sb_drop_take (l : List Bool) (a b : Nat) : (⟨(((sb l).cps.toList.drop a).take b).toArray⟩ : Str) = sb ((l.drop a).take b) := by
  unfold sb
  rw [List.map_take, List.map_drop]
theorem cut_pre {l : List Bool} {i : Nat} : cutS (sb l) none (some (i : Int)) = sb (l.take i) := by
  unfold cutS
  rw [sb_drop_take, ix_nat, HT.sIx_none, sb_len, List.drop_zero, Nat.sub_zero]
  congr 1
  by_cases h : i ≤ l.length
  · rw [Nat.min_eq_left h]
  · rw [List.take_of_length_le (by omega), List.take_of_length_le (by omega)]
theorem cut_suf {l : List Bool} {i : Nat} : cutS (sb l) (some (i : Int)) none = sb (l.drop i) := by
  unfold cutS
  rw [sb_drop_take, ix_nat, HT.sIx_none, sb_len, List.take_of_length_le (by rw [List.length_drop]; omega)]
  congr 1
  by_cases h : i ≤ l.length
  · rw [Nat.min_eq_left h]
  · rw [Nat.min_eq_right (by omega), List.drop_length, List.drop_of_length_le (by omega)]
theorem cut_one {l : List Bool} {i : Nat} : cutS (sb l) (some (i : Int)) (some ((i : Int) + 1)) = sb ((l.drop i).take 1) := by
  unfold cutS
  rw [show ((i : Int) + 1) = ((i + 1 : Nat) : Int) by omega, sb_drop_take, ix_nat, ix_nat, sb_len]
  congr 1
  by_cases h : i + 1 ≤ l.length
  · rw [Nat.min_eq_left h, Nat.min_eq_left (by omega)]
    congr 1
    omega
  · by_cases h' : i = l.length
    · subst h'
      rw [Nat.min_self, List.drop_length]
      simp
    · rw [Nat.min_eq_right (show l.length ≤ i by omega), List.drop_length, List.drop_eq_nil_of_le (show l.length ≤ i by omega)]
      simp
theorem rep_bits (b : Bool) (n : Nat) : SX.S (List.replicate n [cB b]).flatten = sb (List.replicate n b) := by
  unfold sb
  congr 1
  induction n with
  | zero => rfl
  | succ n ih =>
    rw [List.replicate_succ, List.flatten_cons, ih]
    rfl
theorem val_take (l : List Bool) (i : Nat) (h : i < l.length) : val (l.take (i + 1)) = 2 * val (l.take i) + bit l[i] := by
  rw [List.take_add_one, List.getElem?_eq_getElem h]
  exact val_snoc _ _
theorem val_zeros (n : Nat) : val (List.replicate n false) = 0 := by
  induction n with
  | zero => rfl
  | succ n ih =>
    rw [List.replicate_succ', val_snoc, ih]
    rfl
theorem sb_at {l : List Bool} {i c : Nat} (h : (sb l).cps[i]? = some c) : ∃ h : i < l.length, c = cB l[i] := by
  have e : (l.map cB)[i]? = some c := by
    rw [← h]
    show _ = ((l.map cB).toArray)[i]?
    simp
  rw [List.getElem?_map] at e
  obtain ⟨b, hb, rfl⟩ := Option.map_eq_some_iff.mp e
  obtain ⟨hi, rfl⟩ := List.getElem?_eq_some_iff.mp hb
  exact ⟨hi, rfl⟩

theorem name_ne {d : PyData} {x : Str} : (!PyData.eqv d (.str x)) = !named x d := rfl
theorem whole_int {d : PyData} {lo hi : Int} (h : whole d lo hi = true) : ∃ i, d = .int i ∧ lo ≤ i ∧ i ≤ hi := by
  cases d with
  | int i =>
    have h' : (decide (lo ≤ i) && decide (i ≤ hi)) = true := h
    rw [Bool.and_eq_true, decide_eq_true_eq, decide_eq_true_eq] at h'
    exact ⟨i, rfl, h'⟩
  | _ => cases h
theorem gen_eq {k n m r : PyData} : genOk (.tuple [k, n, m, r]) = (named "generator" k && whole n 1 10 && whole m 1 40 && genRows n m r) := rfl
theorem fun_eq {k n l m t : PyData} : funOk (.tuple [k, n, l, m, t]) = (named "function" k && whole n 1 8 && whole l 1 8 && sumLe n l && whole m 1 40 && funTabs n l m t) := rfl
theorem pow_le {n : Int} {b : Nat} (h0 : 1 ≤ n) (h : n ≤ (b : Int)) : (1 : Int) * 2 ^ n.toNat ≤ ((2 ^ b : Nat) : Int) := by
  have h1 : (2 : Nat) ^ n.toNat ≤ 2 ^ b := Nat.pow_le_pow_right (by decide) (by omega)
  have h2 : ((2 ^ n.toNat : Nat) : Int) ≤ ((2 ^ b : Nat) : Int) := Int.ofNat_le.mpr h1
  rw [Int.natCast_pow] at h2
  rw [Int.one_mul]
  exact h2
theorem dp4 {K : PySem.W.Frag} {H : Hp} {ws : List V} {xs : List PyData} (h : DpAll K H ws xs) (c : ws.length = 4) : ∃ v0 v1 v2 v3 d0 d1 d2 d3, ws = [v0, v1, v2, v3] ∧ xs = [d0, d1, d2, d3] ∧ Dp K H v0 d0 ∧ Dp K H v1 d1 ∧ Dp K H v2 d2 ∧ Dp K H v3 d3 := by
  match xs, ws, c, h with
  | _, [v0, v1, v2, v3], _, .cons h0 (.cons h1 (.cons h2 (.cons h3 .nil))) => exact ⟨_, _, _, _, _, _, _, _, rfl, rfl, h0, h1, h2, h3⟩
theorem dp5 {K : PySem.W.Frag} {H : Hp} {ws : List V} {xs : List PyData} (h : DpAll K H ws xs) (c : ws.length = 5) : ∃ v0 v1 v2 v3 v4 d0 d1 d2 d3 d4, ws = [v0, v1, v2, v3, v4] ∧ xs = [d0, d1, d2, d3, d4] ∧ Dp K H v0 d0 ∧ Dp K H v1 d1 ∧ Dp K H v2 d2 ∧ Dp K H v3 d3 ∧ Dp K H v4 d4 := by
  match xs, ws, c, h with
  | _, [v0, v1, v2, v3, v4], _, .cons h0 (.cons h1 (.cons h2 (.cons h3 (.cons h4 .nil)))) => exact ⟨_, _, _, _, _, _, _, _, _, _, rfl, rfl, h0, h1, h2, h3, h4⟩
theorem join_all : ∀ ys : List Str, (Txt.join "" ys).cps.toList = (ys.map (·.cps.toList)).flatten := by
  intro ys
  have j : ∀ ps : List (List Nat), TL.joinL [] ps = ps.flatten := by
    intro ps
    induction ps with
    | nil => rfl
    | cons x r ih =>
      cases r with
      | nil => exact (List.append_nil x).symm
      | cons y r =>
        show x ++ ([] ++ TL.joinL [] (y :: r)) = x ++ (y :: r).flatten
        rw [ih, List.nil_append]
  have e : ys = (ys.map (·.cps.toList)).map SX.S := by
    rw [List.map_map]
    exact (List.map_id'' (fun x => SX.S_tl x) ys).symm
  have h := SX.join_S [] (ys.map (·.cps.toList))
  rw [← e, j] at h
  exact congrArg (fun z : Str => z.cps.toList) h

def spTable (K : PySem.W.Frag) : Sp := fun vs H Q _ => ∃ (a d : Addr) (n m : Nat), vs = [.ref a, .int (n : Int), .int (m : Int)] ∧ n ≤ 8 ∧ m ≤ 200 ∧ Hnd H a d ∧
  ∀ v rows H', rows.length = 2 ^ n → (∀ r ∈ rows, r.length = m) → Dp K (off a H') v (tabD n m rows) → Hnd H' a d → Keep a H H' → Q v H'
def spFunction (K : PySem.W.Frag) : Sp := fun vs H Q _ => ∃ (a d : Addr) (n l m : Nat), vs = [.ref a, .int (n : Int), .int (l : Int), .int (m : Int)] ∧ n ≤ 8 ∧ l ≤ 8 ∧ m ≤ 200 ∧ Hnd H a d ∧
  ∀ v tabs H', tabs.length = 2 ^ n → (∀ rows ∈ tabs, rows.length = 2 ^ l ∧ ∀ r ∈ rows, r.length = m) → Dp K (off a H') v (funD n l m tabs) → Hnd H' a d → Keep a H H' → Q v H'

/-! ### data of a size -/
def okS (s : Nat) (x : Str) : Prop := PySem.PyData.strOk x = true ∧ x.length ≤ s
def Gz (s : Nat) : Nat → PyData → Prop
  | 0, d => match d with
    | .none => True
    | .bool _ => True
    | .int i => i.natAbs < 10 ^ s
    | .str x => okS s x
    | _ => False
  | n + 1, d => match d with
    | .none => True
    | .bool _ => True
    | .int i => i.natAbs < 10 ^ s
    | .str x => okS s x
    | .list xs => xs.length ≤ s ∧ ∀ x ∈ xs, Gz s n x
    | .tuple xs => xs.length ≤ s ∧ ∀ x ∈ xs, Gz s n x
    | .dict _ => False
theorem gz_str {s n : Nat} {x : Str} : Gz s n (.str x) ↔ okS s x := by
  cases n <;> exact Iff.rfl
theorem gz_int {s n : Nat} {i : Int} : Gz s n (.int i) ↔ i.natAbs < 10 ^ s := by
  cases n <;> exact Iff.rfl
theorem gz_bool {s n : Nat} {b : Bool} : Gz s n (.bool b) := by
  cases n <;> trivial
theorem gz_none {s n : Nat} : Gz s n .none := by
  cases n <;> trivial
theorem gz_tup {s n : Nat} {xs : List PyData} (h : Gz s n (.tuple xs)) : xs.length ≤ s ∧ ∃ m, n = m + 1 ∧ ∀ x ∈ xs, Gz s m x := by
  cases n with
  | zero => exact h.elim
  | succ n => exact ⟨h.1, n, rfl, h.2⟩
theorem gz_gd {s : Nat} (hs : s ≤ 5000) : ∀ {n : Nat} {d : PyData}, Gz s n d → Gd n d
  | 0, .none, h => h
  | 0, .bool _, h => h
  | 0, .int _, h => trivial
  | 0, .str _, h => ⟨h.1, Nat.le_trans h.2 hs⟩
  | n + 1, .none, h => h
  | n + 1, .bool _, h => h
  | n + 1, .int _, h => trivial
  | n + 1, .str _, h => ⟨h.1, Nat.le_trans h.2 hs⟩
  | n + 1, .list xs, h => ⟨Nat.le_trans h.1 hs, fun x hx => gz_gd hs (h.2 x hx)⟩
  | n + 1, .tuple xs, h => ⟨Nat.le_trans h.1 hs, fun x hx => gz_gd hs (h.2 x hx)⟩
theorem gz_up {s t : Nat} (hs : s ≤ t) : ∀ {n m : Nat} {d : PyData}, n ≤ m → Gz s n d → Gz t m d
  | n, m, .none, _, h => gz_none
  | n, m, .bool _, _, h => gz_bool
  | n, m, .int _, _, h => gz_int.mpr (Nat.lt_of_lt_of_le (gz_int.mp h) (Nat.pow_le_pow_right (by decide) hs))
  | n, m, .str _, _, h => gz_str.mpr ⟨(gz_str.mp h).1, Nat.le_trans (gz_str.mp h).2 hs⟩
  | 0, m, .list _, _, h => h.elim
  | 0, m, .tuple _, _, h => h.elim
  | 0, m, .dict _, _, h => h.elim
  | n + 1, m, .dict _, _, h => h.elim
  | n + 1, m + 1, .list xs, hm, h => ⟨Nat.le_trans h.1 hs, fun x hx => gz_up hs (Nat.le_of_succ_le_succ hm) (h.2 x hx)⟩
  | n + 1, m + 1, .tuple xs, hm, h => ⟨Nat.le_trans h.1 hs, fun x hx => gz_up hs (Nat.le_of_succ_le_succ hm) (h.2 x hx)⟩
theorem sqt_off {K : PySem.W.Frag} {H : Hp} {a d p : Addr} {xs : List V} (h : Hnd H a d) (s : SqT K H p xs) : SqT K (off a H) p xs := by
  obtain ⟨ds, i, h1, _⟩ := h
  rcases s with (s | ⟨o, s⟩) | s
  · refine .inl (.inl ?_)
    rw [off_ne fun e => ?_]
    · exact s
    · rw [e, h1] at s
      cases s
  · refine .inl (.inr ⟨o, ?_⟩)
    rw [off_ne fun e => ?_]
    · exact s
    · rw [e, h1] at s
      cases s
  · exact .inr s
theorem sqt_on {K : PySem.W.Frag} {H : Hp} {a p : Addr} {xs : List V} (s : SqT K (off a H) p xs) : SqT K H p xs := same_sqt (off_same a H) s
theorem sql_on {K : PySem.W.Frag} {H : Hp} {a p : Addr} {xs : List V} (s : SqL K (off a H) p xs) : SqL K H p xs := (off_same a H).seq s
/-- a value of data of a size, beside the hand -/
def Ok (K : PySem.W.Frag) (a : Addr) (H : Hp) (s n : Nat) (v : V) : Prop := ∃ D, Dp K (off a H) v D ∧ Gz s n D
theorem Ok.same {K : PySem.W.Frag} {a : Addr} {H H' : Hp} {s n : Nat} {v : V} (h : Ok K a H s n v) (e : Same (off a H) (off a H')) : Ok K a H' s n v := by
  obtain ⟨D, h1, h2⟩ := h
  exact ⟨D, dp_same e D h1, h2⟩
theorem Ok.keep {K : PySem.W.Frag} {a : Addr} {H H' : Hp} {s n : Nat} {v : V} (h : Ok K a H s n v) (e : Keep a H H') : Ok K a H' s n v := h.same e.off
theorem Ok.up {K : PySem.W.Frag} {a : Addr} {H : Hp} {s n t m : Nat} {v : V} (h : Ok K a H s n v) (hs : s ≤ t) (hm : n ≤ m) : Ok K a H t m v := by
  obtain ⟨D, h1, h2⟩ := h
  exact ⟨D, h1, gz_up hs hm h2⟩
theorem same_off {a : Addr} {H H' : Hp} (s : Same H H') : Same (off a H) (off a H') := (Keep.same (a := a) s).off
theorem cutV_all {xs : List V} {lo hi : Option Int} (h1 : HT.sIx xs.length 0 lo = 0) (h2 : HT.sIx xs.length xs.length hi = xs.length) : cutV xs lo hi = xs := by
  unfold cutV
  rw [h1, h2]
  simp
theorem sl_any {K : PySem.W.Frag} {H : Hp} {Q : VK} {lo hi : Option Int} {a : Addr} {xs : List V} (hT : SqT K H a xs) (q : ∀ p H', Same H H' → SqT K H' p (cutV xs lo hi) → Q (.ref p) H') : rSlA K (.ref a) lo hi H Q := by
  refine ⟨a, xs, rfl, hT, fun hw => ?_, fun hw p np => ?_⟩
  · exact q a H (Same.refl H) (by rw [cutV_all hw.1 hw.2]; exact hT)
  · exact q p _ (same_new np) (.inl (.inl upd_same))
theorem sl_anyN {K : PySem.W.Frag} {σ : L2.St} {H : Hp} {Q : VK} {l : Option Int} {a : Addr} {xs : List V} (hT : SqT K H a xs) (q : ∀ p H', Same H H' → SqT K H' p (cutV xs l none) → Q (.ref p) H') : tNoPart σ H fun u H3 => rSlA K (.ref a) l u H3 Q := sl_any hT q
theorem cat_any {K : PySem.W.Frag} {H : Hp} {Q : VK} {a b : Addr} {xs ys : List V} (ha : SqT K H a xs) (hb : SqT K H b ys) (hz : xs.length + ys.length ≤ sizeLine) (q : ∀ p H', Same H H' → SqT K H' p (xs ++ ys) → Q (.ref p) H') : rCatA K (.ref a) (.ref b) H Q := by
  refine ⟨a, b, xs, ys, rfl, rfl, ha, hb, hz, fun e => ?_, fun e1 e2 => ?_, fun e1 e2 p np => ?_⟩
  · subst e
    exact q b H (Same.refl H) hb
  · subst e2
    exact q a H (Same.refl H) (by rw [List.append_nil]; exact ha)
  · exact q p _ (same_new np) (.inl (.inl upd_same))
theorem dps_drop {K : PySem.W.Frag} {H : Hp} : ∀ (i : Nat) {vs : List V} {ds : List PyData}, DpAll K H vs ds → DpAll K H (vs.drop i) (ds.drop i)
  | 0, _, _, h => h
  | i + 1, _, _, .nil => .nil
  | i + 1, _, _, .cons _ t => dps_drop i t
theorem dps_take {K : PySem.W.Frag} {H : Hp} : ∀ (i : Nat) {vs : List V} {ds : List PyData}, DpAll K H vs ds → DpAll K H (vs.take i) (ds.take i)
  | 0, _, _, h => .nil
  | i + 1, _, _, .nil => .nil
  | i + 1, _, _, .cons h t => .cons h (dps_take i t)
theorem dps_app {K : PySem.W.Frag} {H : Hp} : ∀ {vs ws : List V} {ds es : List PyData}, DpAll K H vs ds → DpAll K H ws es → DpAll K H (vs ++ ws) (ds ++ es)
  | _, _, _, _, .nil, h => h
  | _, _, _, _, .cons h t, h' => .cons h (dps_app t h')
/-- the values of a row, all of a size -/
def Oks (K : PySem.W.Frag) (a : Addr) (H : Hp) (s n : Nat) (vs : List V) : Prop := ∃ ds, DpAll K (off a H) vs ds ∧ ∀ d ∈ ds, Gz s n d
theorem Oks.keep {K : PySem.W.Frag} {a : Addr} {H H' : Hp} {s n : Nat} {vs : List V} (h : Oks K a H s n vs) (e : Keep a H H') : Oks K a H' s n vs := by
  obtain ⟨D, h1, h2⟩ := h
  exact ⟨D, dps_same e.off D h1, h2⟩
theorem Oks.up {K : PySem.W.Frag} {a : Addr} {H : Hp} {s n t m : Nat} {vs : List V} (h : Oks K a H s n vs) (hs : s ≤ t) (hm : n ≤ m) : Oks K a H t m vs := by
  obtain ⟨D, h1, h2⟩ := h
  exact ⟨D, h1, fun d hd => gz_up hs hm (h2 d hd)⟩
theorem Oks.app {K : PySem.W.Frag} {a : Addr} {H : Hp} {s n : Nat} {vs ws : List V} (h : Oks K a H s n vs) (h' : Oks K a H s n ws) : Oks K a H s n (vs ++ ws) := by
  obtain ⟨D, h1, h2⟩ := h
  obtain ⟨E, h3, h4⟩ := h'
  refine ⟨D ++ E, dps_app h1 h3, fun d hd => ?_⟩
  rcases List.mem_append.mp hd with z | z
  · exact h2 d z
  · exact h4 d z
theorem Oks.cut {K : PySem.W.Frag} {a : Addr} {H : Hp} {s n : Nat} {vs : List V} (lo hi : Option Int) (h : Oks K a H s n vs) : Oks K a H s n (cutV vs lo hi) := by
  obtain ⟨D, h1, h2⟩ := h
  exact ⟨(D.drop _).take _, dps_take _ (dps_drop _ h1), fun d hd => h2 d (List.mem_of_mem_drop (List.mem_of_mem_take hd))⟩
theorem Oks.one {K : PySem.W.Frag} {a : Addr} {H : Hp} {s n : Nat} {v : V} (h : Ok K a H s n v) : Oks K a H s n [v] := by
  obtain ⟨D, h1, h2⟩ := h
  refine ⟨[D], .cons h1 .nil, fun d hd => ?_⟩
  rw [List.mem_singleton.mp hd]
  exact h2
theorem Oks.get {K : PySem.W.Frag} {a : Addr} {H : Hp} {s n i : Nat} {v : V} {vs : List V} (h : Oks K a H s n vs) (e : vs[i]? = some v) : Ok K a H s n v := by
  obtain ⟨D, h1, h2⟩ := h
  obtain ⟨d, hd, h3⟩ := dp_all_get h1 e
  exact ⟨d, h3, h2 d (List.mem_of_getElem? hd)⟩
theorem Ok.tup {K : PySem.W.Frag} {a d p : Addr} {H : Hp} {s n : Nat} {vs : List V} (hh : Hnd H a d) (hT : SqT K H p vs) (h : Oks K a H s n vs) (hl : vs.length ≤ s) : Ok K a H s (n + 1) (.ref p) := by
  obtain ⟨D, h1, h2⟩ := h
  exact ⟨.tuple D, .tup (sqt_off hh hT) h1, by rw [← dp_all_len h1]; exact hl, h2⟩
theorem Ok.lst {K : PySem.W.Frag} {a p : Addr} {H : Hp} {s n : Nat} {vs : List V} (pa : p ≠ a) (hL : H p = some (.lst vs)) (h : Oks K a H s n vs) (hl : vs.length ≤ s) : Ok K a H s (n + 1) (.ref p) := by
  obtain ⟨D, h1, h2⟩ := h
  exact ⟨.list D, .lst (.inl (.inl (by rw [off_ne pa]; exact hL))) h1, by rw [← dp_all_len h1]; exact hl, h2⟩
theorem Ok.str {K : PySem.W.Frag} {a : Addr} {H : Hp} {s n : Nat} {x : Str} (h : okS s x) : Ok K a H s n (.str x) := ⟨.str x, .str x, gz_str.mpr h⟩
theorem Ok.int {K : PySem.W.Frag} {a : Addr} {H : Hp} {s n : Nat} {i : Int} (h : i.natAbs < 10 ^ s) : Ok K a H s n (.int i) := ⟨.int i, .int i, gz_int.mpr h⟩
theorem Ok.bl {K : PySem.W.Frag} {a : Addr} {H : Hp} {s n : Nat} {b : Bool} : Ok K a H s n (.bl b) := ⟨.bool b, .bl b, gz_bool⟩
theorem Ok.non {K : PySem.W.Frag} {a : Addr} {H : Hp} {s n : Nat} : Ok K a H s n .non := ⟨.none, .non, gz_none⟩
/-! ### signs -/
theorem strOk_iff {x : Str} : PySem.PyData.strOk x = true ↔ ∀ c ∈ x.cps.toList, c < 1114112 := by
  unfold PySem.PyData.strOk
  rw [← Array.all_toList, List.all_eq_true]
  constructor
  · intro h c hc
    exact of_decide_eq_true (h c hc)
  · intro h c hc
    exact decide_eq_true (h c hc)
theorem strOk_app {x y : Str} (hx : PySem.PyData.strOk x = true) (hy : PySem.PyData.strOk y = true) : PySem.PyData.strOk (x ++ y) = true := by
  rw [strOk_iff] at hx hy ⊢
  intro c hc
  have e : (x ++ y).cps.toList = x.cps.toList ++ y.cps.toList := by
    show (x.cps ++ y.cps).toList = _
    simp
  rw [e] at hc
  rcases List.mem_append.mp hc with z | z
  · exact hx c z
  · exact hy c z
theorem strOk_cut {x : Str} {lo hi : Option Int} (hx : PySem.PyData.strOk x = true) : PySem.PyData.strOk (cutS x lo hi) = true := by
  rw [strOk_iff] at hx ⊢
  intro c hc
  exact hx c (List.mem_of_mem_drop (List.mem_of_mem_take hc))
theorem str_app_len (x y : Str) : (x ++ y).length = x.length + y.length := by
  show (x.cps ++ y.cps).size = _
  rw [Array.size_append]
  rfl
theorem cutS_len {x : Str} {lo hi : Option Int} : (cutS x lo hi).length = min (HT.sIx x.length x.length hi - HT.sIx x.length 0 lo) (x.length - HT.sIx x.length 0 lo) := by
  show (List.toArray _).size = _
  rw [List.size_toArray, List.length_take, List.length_drop]
  rfl
theorem cutV_len {x : List V} {lo hi : Option Int} : (cutV x lo hi).length = min (HT.sIx x.length x.length hi - HT.sIx x.length 0 lo) (x.length - HT.sIx x.length 0 lo) := by
  unfold cutV
  rw [List.length_take, List.length_drop]
theorem okS_int {s : Nat} {i : Int} (h : i.natAbs < 10 ^ s) (hs : 0 < s) : okS (s + 1) (Str.ofString (toString i)) := by
  refine ⟨?_, ?_⟩
  · rw [strOk_iff, Str.ofString_eq_toList]
    intro c hc
    obtain ⟨k, _, e⟩ := List.mem_map.mp hc
    rw [← e]
    have := k.valid
    rcases this with h | ⟨_, h⟩
    · show k.val.toNat < _
      have h' : k.val.toNat < 55296 := h
      omega
    · exact h
  · rw [PySem.ofString_length]
    exact int_text_length_le10 hs h
theorem atI_mem {xs : List V} {i : Int} (h0 : 0 ≤ i) (h1 : i < (xs.length : Int)) : ∃ x, atI xs i = some x ∧ x ∈ xs := by
  obtain ⟨k, rfl⟩ : ∃ k : Nat, i = (k : Int) := ⟨i.toNat, by omega⟩
  have hk : k < xs.length := by omega
  exact ⟨xs[k], atI_nat (List.getElem?_eq_getElem hk), List.getElem_mem hk⟩
theorem okS_mono {s t : Nat} {x : Str} (h : okS s x) (e : s ≤ t) : okS t x := ⟨h.1, Nat.le_trans h.2 e⟩
theorem okS_app {s t : Nat} {x y : Str} (hx : okS s x) (hy : okS t y) : okS (s + t) (x ++ y) := ⟨strOk_app hx.1 hy.1, by
  rw [str_app_len]
  have h1 := hx.2
  have h2 := hy.2
  omega⟩
theorem sIx_n (n d k : Nat) : HT.sIx n d (some (k : Int)) = min k n := HT.sIx_nat n d k
theorem okS_pre {s k : Nat} {x : Str} (hx : okS s x) (hk : k ≤ x.length) : okS k (cutS x none (some (k : Int))) := ⟨strOk_cut hx.1, by
  rw [cutS_len, sIx_n, HT.sIx_none]
  omega⟩
theorem okS_suf {s k : Nat} {x : Str} (hx : okS s x) : okS (x.length - k) (cutS x (some (k : Int)) none) := ⟨strOk_cut hx.1, by
  rw [cutS_len, sIx_n, HT.sIx_none]
  omega⟩
theorem Oks.nil {K : PySem.W.Frag} {a : Addr} {H : Hp} {s n : Nat} : Oks K a H s n [] := ⟨[], .nil, fun d hd => nomatch hd⟩
theorem Oks.cons {K : PySem.W.Frag} {a : Addr} {H : Hp} {s n : Nat} {v : V} {vs : List V} (h : Ok K a H s n v) (h' : Oks K a H s n vs) : Oks K a H s n (v :: vs) := (Oks.one h).app h'
theorem Oks.rep {K : PySem.W.Frag} {a : Addr} {H : Hp} {s n : Nat} {v : V} (h : Ok K a H s n v) : ∀ k : Nat, Oks K a H s n (List.replicate k v)
  | 0 => .nil
  | k + 1 => by
    rw [List.replicate_succ]
    exact .cons h (Oks.rep h k)
theorem Ok.small {K : PySem.W.Frag} {a : Addr} {H : Hp} {s n : Nat} {i : Int} (h : i.natAbs < 100) (hs : 2 ≤ s) : Ok K a H s n (.int i) := .int (Nat.lt_of_lt_of_le (show i.natAbs < 10 ^ 2 from h) (Nat.pow_le_pow_right (by decide) hs))
theorem shl_one (n : Nat) : (1 : Int) * 2 ^ ((n : Nat) : Int).toNat = ((2 ^ n : Nat) : Int) := by
  rw [Int.one_mul, Int.toNat_natCast, Int.natCast_pow]
  rfl
theorem two_pow_le {n b : Nat} (h : n ≤ b) : 2 ^ n ≤ 2 ^ b := Nat.pow_le_pow_right (by decide) h
theorem at0 {v : V} {ws : List V} : atI (v :: ws) 0 = some v := atI_nat (j := 0) rfl
theorem all4 {P : PyData → Prop} {a b c d : PyData} (h1 : P a) (h2 : P b) (h3 : P c) (h4 : P d) : ∀ x ∈ [a, b, c, d], P x := by
  intro x hx
  rcases List.mem_cons.mp hx with e | hx
  · exact e ▸ h1
  rcases List.mem_cons.mp hx with e | hx
  · exact e ▸ h2
  rcases List.mem_cons.mp hx with e | hx
  · exact e ▸ h3
  rcases List.mem_cons.mp hx with e | hx
  · exact e ▸ h4
  exact nomatch hx
theorem off_upd {R : Addr} {H : Hp} {o : HO} (a : Addr) : off R (off a (upd H R o)) = off R (off a H) := by
  funext b
  unfold off
  by_cases h : b = R
  · rw [if_pos h, if_pos h]
  · rw [if_neg h, if_neg h]
    by_cases h' : b = a
    · rw [if_pos h', if_pos h']
    · rw [if_neg h', if_neg h', upd_ne h]
theorem off_mono {R : Addr} {H H' : Hp} (s : Same H H') : Same (off R H) (off R H') := fun b o e => by
  unfold off at e ⊢
  by_cases h : b = R
  · rw [if_pos h] at e
    cases e
  · rw [if_neg h] at e ⊢
    exact s b o e

theorem dp_sbs {K : PySem.W.Frag} {H : Hp} : ∀ {vs : List V} {rows : List (List Bool)}, DpAll K H vs (rows.map fun r => PyData.str (sb r)) → vs = rows.map fun r => V.str (sb r)
  | _, [], .nil => rfl
  | _, _ :: _, .cons (.str _) t => by rw [List.map_cons, dp_sbs t]
/-! ### generators, as the document tells them -/
structure Wf (n m : Nat) (rows : List (List Bool)) : Prop where
  n1 : 1 ≤ n
  n2 : n ≤ 10
  m1 : 1 ≤ m
  m2 : m ≤ 40
  len : rows.length = 2 ^ n
  row : ∀ r ∈ rows, r.length = m
theorem bitRow_sb {m : Nat} {r : List Bool} (h : r.length = m) : bitRow (m : Int) (.str (sb r)) = true := by
  show (decide (((sb r).length : Int) = (m : Int)) && (sb r).cps.toList.all _) = true
  rw [sb_len, h, decide_eq_true rfl, Bool.true_and, List.all_eq_true]
  intro c hc
  have e : (sb r).cps.toList = r.map cB := by
    show ((r.map cB).toArray).toList = _
    simp
  rw [e] at hc
  obtain ⟨b, _, rfl⟩ := List.mem_map.mp hc
  cases b <;> rfl
theorem sb_bitRow {m : Int} {d : PyData} (h : bitRow m d = true) : ∃ r : List Bool, d = .str (sb r) ∧ (r.length : Int) = m := by
  cases d with
  | str x =>
    have h' : (decide ((x.length : Int) = m) && x.cps.toList.all (fun c => c == 48 || c == 49)) = true := h
    obtain ⟨h1, h2⟩ := Bool.and_eq_true_iff.mp h'
    have key : ∀ l : List Nat, l.all (fun c => c == 48 || c == 49) = true → ∃ r : List Bool, l = r.map cB := by
      intro l
      induction l with
      | nil => exact fun _ => ⟨[], rfl⟩
      | cons c l ih =>
        intro hl
        rw [List.all_cons, Bool.and_eq_true] at hl
        obtain ⟨r, e⟩ := ih hl.2
        rcases Bool.or_eq_true_iff.mp hl.1 with z | z
        · exact ⟨false :: r, by rw [e, beq_iff_eq.mp z]; rfl⟩
        · exact ⟨true :: r, by rw [e, beq_iff_eq.mp z]; rfl⟩
    obtain ⟨r, e⟩ := key _ h2
    have ex : x = sb r := TL.ext_tl (by
      show x.cps.toList = ((r.map cB).toArray).toList
      rw [e])
    refine ⟨r, by rw [ex], ?_⟩
    have := of_decide_eq_true h1
    rw [ex, sb_len] at this
    exact this
  | _ => cases h
theorem rows_ok {many m : Nat} {rows : List (List Bool)} (h1 : rows.length = many) (h2 : ∀ r ∈ rows, r.length = m) : rowsOk (rowsD rows) (many : Int) (m : Int) = true := by
  show (decide (((rows.map fun r => PyData.str (sb r)).length : Int) = (many : Int)) && (rows.map fun r => PyData.str (sb r)).all (bitRow (m : Int))) = true
  rw [List.length_map, h1, decide_eq_true rfl, Bool.true_and, List.all_eq_true]
  intro x hx
  obtain ⟨r, hr, rfl⟩ := List.mem_map.mp hx
  exact bitRow_sb (h2 r hr)
theorem ok_rowsD {many m : Int} {d : PyData} (h : rowsOk d many m = true) : ∃ rows : List (List Bool), d = rowsD rows ∧ (rows.length : Int) = many ∧ ∀ r ∈ rows, (r.length : Int) = m := by
  cases d with
  | tuple xs =>
    have h' : (decide ((xs.length : Int) = many) && xs.all (bitRow m)) = true := h
    obtain ⟨h1, h2⟩ := Bool.and_eq_true_iff.mp h'
    have key : ∀ l : List PyData, l.all (bitRow m) = true → ∃ rows : List (List Bool), l = rows.map (fun r => .str (sb r)) ∧ ∀ r ∈ rows, (r.length : Int) = m := by
      intro l
      induction l with
      | nil => exact fun _ => ⟨[], rfl, fun r hr => nomatch hr⟩
      | cons c l ih =>
        intro hl
        rw [List.all_cons, Bool.and_eq_true] at hl
        obtain ⟨rows, e, hr⟩ := ih hl.2
        obtain ⟨r, er, hl'⟩ := sb_bitRow hl.1
        refine ⟨r :: rows, by rw [e, er]; rfl, fun x hx => ?_⟩
        rcases List.mem_cons.mp hx with z | z
        · rw [z]
          exact hl'
        · exact hr x z
    obtain ⟨rows, e, hr⟩ := key _ h2
    refine ⟨rows, by rw [e]; rfl, ?_, hr⟩
    have := of_decide_eq_true h1
    rw [e, List.length_map] at this
    exact this
  | _ => cases h
theorem wf_gen {n m : Nat} {rows : List (List Bool)} (h : Wf n m rows) : genOk (tabD n m rows) = true := by
  have e1 : whole (.int (n : Int)) 1 10 = true := by
    show (decide _ && decide _) = true
    rw [decide_eq_true (show (1 : Int) ≤ (n : Int) by have := h.n1; omega), decide_eq_true (show (n : Int) ≤ 10 by have := h.n2; omega)]
    rfl
  have e2 : whole (.int (m : Int)) 1 40 = true := by
    show (decide _ && decide _) = true
    rw [decide_eq_true (show (1 : Int) ≤ (m : Int) by have := h.m1; omega), decide_eq_true (show (m : Int) ≤ 40 by have := h.m2; omega)]
    rfl
  have e3 : genRows (.int (n : Int)) (.int (m : Int)) (rowsD rows) = true := by
    show rowsOk (rowsD rows) (1 * 2 ^ (n : Int).toNat) (m : Int) = true
    rw [shl_one]
    exact rows_ok h.len h.row
  show genOk (.tuple [.str "generator", .int (n : Int), .int (m : Int), rowsD rows]) = true
  rw [gen_eq, e1, e2, e3]
  decide +kernel
theorem named_iff {x : Str} {d : PyData} (h : named x d = true) : d = .str x := by
  cases d with
  | str y =>
    have h' : (y == x) = true := h
    rw [beq_iff_eq.mp h']
  | _ => cases h
theorem gen_wf {d : PyData} (h : genOk d = true) : ∃ (n m : Nat) (rows : List (List Bool)), d = tabD n m rows ∧ Wf n m rows := by
  unfold genOk at h
  split at h
  · rename_i k n m r
    obtain ⟨g3, h4⟩ := Bool.and_eq_true_iff.mp h
    obtain ⟨g2, h3⟩ := Bool.and_eq_true_iff.mp g3
    obtain ⟨h1, h2⟩ := Bool.and_eq_true_iff.mp g2
    obtain ⟨n, rfl, n1, n2⟩ := whole_int h2
    obtain ⟨m, rfl, m1, m2⟩ := whole_int h3
    obtain ⟨n, rfl⟩ : ∃ k : Nat, n = (k : Int) := ⟨n.toNat, by omega⟩
    obtain ⟨m, rfl⟩ : ∃ k : Nat, m = (k : Int) := ⟨m.toNat, by omega⟩
    have h4' : rowsOk r (1 * 2 ^ (n : Int).toNat) (m : Int) = true := h4
    rw [shl_one] at h4'
    obtain ⟨rows, rfl, hl, hr⟩ := ok_rowsD h4'
    refine ⟨n, m, rows, by rw [named_iff h1]; rfl, by omega, by omega, by omega, by omega, by omega, fun r hr' => by have := hr r hr'; omega⟩
  · cases h
theorem fun_no_gen {d : PyData} (h : funOk d = true) : genOk d = false ∧ ∃ ds, d = .tuple (.str "function" :: ds) := by
  unfold funOk at h
  split at h
  · rename_i k n l m t
    have h1 : named "function" k = true := by
      obtain ⟨h, _⟩ := Bool.and_eq_true_iff.mp h
      obtain ⟨h, _⟩ := Bool.and_eq_true_iff.mp h
      obtain ⟨h, _⟩ := Bool.and_eq_true_iff.mp h
      obtain ⟨h, _⟩ := Bool.and_eq_true_iff.mp h
      exact (Bool.and_eq_true_iff.mp h).1
    have e := named_iff h1
    subst e
    exact ⟨gen_no (by show ¬ 5 = 4; decide), _, rfl⟩
  · cases h
theorem wf_block {n m : Nat} {rows : List (List Bool)} (h : Wf n m rows) : blockOk (tabD n m rows) = true := by
  unfold blockOk
  rw [wf_gen h]
  rfl
/-- data of tuples, texts and numbers alone -/
def Pl : Nat → PyData → Prop
  | 0, d => match d with
    | .int _ => True
    | .str x => okT x
    | _ => False
  | n + 1, d => match d with
    | .int _ => True
    | .str x => okT x
    | .tuple xs => xs.length ≤ 5000 ∧ ∀ x ∈ xs, Pl n x
    | _ => False
theorem pl_str {n : Nat} {x : Str} : Pl n (.str x) ↔ okT x := by cases n <;> exact Iff.rfl
theorem pl_int {n : Nat} {i : Int} : Pl n (.int i) := by cases n <;> trivial
theorem pl_tup {n : Nat} {xs : List PyData} (h : Pl n (.tuple xs)) : xs.length ≤ 5000 ∧ ∃ m, n = m + 1 ∧ ∀ x ∈ xs, Pl m x := by
  cases n with
  | zero => exact h.elim
  | succ n => exact ⟨h.1, n, rfl, h.2⟩
theorem pl_gd : ∀ {n : Nat} {d : PyData}, Pl n d → Gd n d
  | 0, .int _, _ => trivial
  | 0, .str _, h => h
  | n + 1, .int _, _ => trivial
  | n + 1, .str _, h => h
  | n + 1, .tuple xs, h => ⟨h.1, fun x hx => pl_gd (h.2 x hx)⟩
theorem dp_offs {K : PySem.W.Frag} {a d : Addr} {H : Hp} (hh : Hnd H a d) : ∀ {n : Nat} {D : PyData} {v : V}, Pl n D → Dp K H v D → Dp K (off a H) v D
  | 0, .int _, _, _, .int i => .int i
  | 0, .str _, _, _, .str x => .str x
  | n + 1, .int _, _, _, .int i => .int i
  | n + 1, .str _, _, _, .str x => .str x
  | n + 1, .tuple xs, _, h, .tup hT hA => .tup (sqt_off hh hT) (go h.2 hA)
where go {n : Nat} : ∀ {xs : List PyData} {vs : List V}, (∀ x ∈ xs, Pl n x) → DpAll K H vs xs → DpAll K (off a H) vs xs
  | [], _, _, .nil => .nil
  | x :: xs, _, h, .cons hv t => .cons (dp_offs hh (h x List.mem_cons_self) hv) (go (fun y hy => h y (List.mem_cons_of_mem _ hy)) t)
theorem okT_sb {r : List Bool} (h : r.length ≤ 5000) : okT (sb r) := by
  refine ⟨?_, by rw [sb_len]; exact h⟩
  unfold PySem.PyData.strOk
  rw [← Array.all_toList, List.all_eq_true]
  intro c hc
  have e : (sb r).cps.toList = r.map cB := by
    show ((r.map cB).toArray).toList = _
    simp
  rw [e] at hc
  obtain ⟨b, _, rfl⟩ := List.mem_map.mp hc
  cases b <;> decide
theorem pl_tab {n m : Nat} {rows : List (List Bool)} (h1 : rows.length ≤ 5000) (h2 : ∀ r ∈ rows, r.length ≤ 5000) : Pl 2 (tabD n m rows) := by
  refine ⟨by show 4 ≤ 5000; decide, fun x hx => ?_⟩
  rcases List.mem_cons.mp hx with e | hx
  · rw [e]
    exact pl_str.mpr ⟨by decide +kernel, by decide +kernel⟩
  rcases List.mem_cons.mp hx with e | hx
  · rw [e]
    exact pl_int
  rcases List.mem_cons.mp hx with e | hx
  · rw [e]
    exact pl_int
  rcases List.mem_cons.mp hx with e | hx
  · rw [e]
    refine ⟨by rw [List.length_map]; exact h1, fun y hy => ?_⟩
    obtain ⟨r, hr, rfl⟩ := List.mem_map.mp hy
    exact pl_str.mpr (okT_sb (h2 r hr))
  exact nomatch hx
theorem Wf.pl {n m : Nat} {rows : List (List Bool)} (h : Wf n m rows) : Pl 2 (tabD n m rows) := by
  have h2 := two_pow_le (b := 10) h.n2
  have h1 := h.len
  exact pl_tab (by omega) fun r hr => by
    have := h.row r hr
    have := h.m2
    omega
/-- where a generator stands -/
theorem dp_tab {K : PySem.W.Frag} {H : Hp} {v : V} {n m : Nat} {rows : List (List Bool)} (h : Dp K H v (tabD n m rows)) : ∃ a r, v = .ref a ∧ SqT K H a [.str "generator", .int (n : Int), .int (m : Int), .ref r] ∧ SqT K H r (rows.map fun r => V.str (sb r)) := by
  cases h with
  | @tup a ws _ hT hA =>
    cases hA with
    | cons h0 hA =>
      cases hA with
      | cons h1 hA =>
        cases hA with
        | cons h2 hA =>
          cases hA with
          | cons h3 hA =>
            cases hA
            cases h0
            cases h1
            cases h2
            cases h3 with
            | @tup r us _ hR hU => exact ⟨a, r, rfl, hT, by rw [← dp_sbs hU]; exact hR⟩
theorem tab_dp {K : PySem.W.Frag} {H : Hp} {a r : Addr} {n m : Nat} {rows : List (List Bool)} (h1 : SqT K H a [.str "generator", .int (n : Int), .int (m : Int), .ref r]) (h2 : SqT K H r (rows.map fun r => V.str (sb r))) : Dp K H (.ref a) (tabD n m rows) :=
  .tup h1 (.cons (.str _) (.cons (.int _) (.cons (.int _) (.cons (.tup h2 (dp_bits rows)) .nil))))

/-! ### data compared with a text or an empty tuple, of any depth -/
def rEqF (K : PySem.W.Frag) : R2 := fun x y H Q => ∃ d e, Dp K H x d ∧ Dp K H y e ∧ d.canLay0 = true ∧ e.canLay0 = true ∧ e.depth ≤ 8 ∧ Q (.bl (PyData.eqv d e)) H
def rNeF (K : PySem.W.Frag) : R2 := fun x y H Q => ∃ d e, Dp K H x d ∧ Dp K H y e ∧ d.canLay0 = true ∧ e.canLay0 = true ∧ e.depth ≤ 8 ∧ Q (.bl (!PyData.eqv d e)) H
/-- a dict that the module's top has written: its keys, and what each holds -/
inductive KeysAre (R : Str → Value → Prop) : List DictEntry → List Str → Prop where
  | nil : KeysAre R [] []
  | cons {e : DictEntry} {k : Str} {t : Tok} {es : List DictEntry} {ks : List Str} (h : e.key = .str k t) (r : R k e.val) (q : KeysAre R es ks) : KeysAre R (e :: es) (k :: ks)
/-- the values of a dict: what is told of each can be said of a value of the proof's own -/
def HasV (R : Str → Value → Prop) : Prop := ∀ z u, R z u → ∃ v, RelV v u
structure DictK (K : PySem.W.Frag) (w : World) (d : Addr) (ks : List Str) (R : Str → Value → Prop) : Prop where
  ex : ∃ es n, KDict K w d es n ∧ KeysAre R es.toList ks
  has : HasV R
theorem keys_isStr {k z : Str} {t : Tok} : (Value.str k t).isStr z = decide (k = z) := by
  show (k == z) = _
  by_cases h : k = z
  · rw [decide_eq_true h, h]
    exact beq_self_eq_true z
  · rw [decide_eq_false h]
    exact beq_eq_false_iff_ne.mpr h
theorem keys_no {R : Str → Value → Prop} {z : Str} : ∀ {es : List DictEntry} {ks : List Str}, KeysAre R es ks → z ∉ ks → es.find? (·.key.isStr z) = none ∧ es.any (·.refKey) = false
  | _, _, .nil, _ => ⟨rfl, rfl⟩
  | _, _, .cons (e := e) (k := k) h r q, hz => by
    obtain ⟨h1, h2⟩ := keys_no q fun m => hz (List.mem_cons_of_mem _ m)
    have hk : e.key.isStr z = false := by
      rw [h, keys_isStr]
      exact decide_eq_false fun m => hz (m ▸ List.mem_cons_self)
    have hr : e.refKey = false := by
      unfold DictEntry.refKey
      rw [h]
    exact ⟨by rw [List.find?_cons, hk]; exact h1, by rw [List.any_cons, hr, h2]; rfl⟩
theorem keys_yes {R : Str → Value → Prop} {z : Str} : ∀ {es : List DictEntry} {ks : List Str}, KeysAre R es ks → z ∈ ks → ∃ e, es.find? (·.key.isStr z) = some e ∧ R z e.val
  | _, _, .cons (e := e) (k := k) h r q, hz => by
    by_cases hk : k = z
    · refine ⟨e, ?_, hk ▸ r⟩
      rw [List.find?_cons, h, keys_isStr, decide_eq_true hk]
    · rcases List.mem_cons.mp hz with m | m
      · exact absurd m.symm hk
      · obtain ⟨e', h1, h2⟩ := keys_yes q m
        refine ⟨e', ?_, h2⟩
        rw [List.find?_cons, h, keys_isStr, decide_eq_false hk]
        exact h1
theorem nsIn_no {K : PySem.W.Frag} {w : World} {d : Addr} {es : Array DictEntry} {n : Nat} {R : Str → Value → Prop} {ks : List Str} {z : Str} (D : KDict K w d es n) (q : KeysAre R es.toList ks) (hz : z ∉ ks) : PySem.W.nsIn K d z = some none := by
  obtain ⟨h1, h2⟩ := keys_no q hz
  unfold PySem.W.nsIn
  rw [D.at_]
  dsimp only
  rw [h1]
  dsimp only
  rw [h2]
  rfl
theorem nsIn_yes {K : PySem.W.Frag} {w : World} {d : Addr} {es : Array DictEntry} {n : Nat} {R : Str → Value → Prop} {ks : List Str} {z : Str} (D : KDict K w d es n) (q : KeysAre R es.toList ks) (hz : z ∈ ks) : ∃ u, PySem.W.nsIn K d z = some (some u) ∧ R z u := by
  obtain ⟨e, h1, h2⟩ := keys_yes q hz
  refine ⟨e.val, ?_, h2⟩
  unfold PySem.W.nsIn
  rw [D.at_]
  dsimp only
  rw [h1]
def rInDk (d : Addr) (ks : List Str) : R2 := fun x y H Q => ∃ z : Str, x = .str z ∧ y = .ref d ∧ Q (.bl (decide (z ∈ ks))) H
def rIxDk (d : Addr) (ks : List Str) (R : Str → Value → Prop) : R2 := fun x y H Q => ∃ z : Str, x = .ref d ∧ y = .str z ∧ z ∈ ks ∧ ∀ v u, RelV v u → R z u → Q v H
section
variable {X : Cx}
theorem op_eqF (K : PySem.W.Frag) (hu : X.A.units + 64 < cLine) (h : X.K = K := by rfl) : OpR X (compareOp .Eq) (rEqF K) := by
  subst h
  intro pins s σ H x y v u Q I rx ry h
  obtain ⟨d, e, hd, he, sd, se, hdep, q⟩ := h
  obtain ⟨as, r1⟩ := Dp.reads I d x v hd rx
  obtain ⟨bs, r2⟩ := Dp.reads I e y u he ry
  exact SeqAt.compareEq_reads r1 r2 sd se (by have := Nat.min_le_right d.depth e.depth; omega) ⟨.bl _, H, I, rfl, q⟩
theorem op_neF (K : PySem.W.Frag) (hu : X.A.units + 64 < cLine) (h : X.K = K := by rfl) : OpR X (compareOp .NotEq) (rNeF K) := by
  subst h
  intro pins s σ H x y v u Q I rx ry h
  obtain ⟨d, e, hd, he, sd, se, hdep, q⟩ := h
  obtain ⟨as, r1⟩ := Dp.reads I d x v hd rx
  obtain ⟨bs, r2⟩ := Dp.reads I e y u he ry
  exact SeqAt.compareNe_reads r1 r2 sd se (by have := Nat.min_le_right d.depth e.depth; omega) ⟨.bl _, H, I, rfl, q⟩
theorem in_dk {d : Addr} {ks : List Str} {R : Str → Value → Prop} (D : DictK X.K X.w d ks R) : OpR X (compareOp .In) (rInDk d ks) := by
  obtain ⟨es, n, kd, ka⟩ := D.ex
  intro pins s σ H x y v u Q I rx ry h
  obtain ⟨z, rfl, rfl, q⟩ := h
  by_cases hz : z ∈ ks
  · obtain ⟨u', e, _⟩ := nsIn_yes kd ka hz
    rw [decide_eq_true hz] at q
    exact op_in_kd kd pins s σ H _ _ v u Q I rx ry ⟨z, some u', rfl, rfl, e, q⟩
  · rw [decide_eq_false hz] at q
    exact op_in_kd kd pins s σ H _ _ v u Q I rx ry ⟨z, none, rfl, rfl, nsIn_no kd ka hz, q⟩
theorem ix_dk {d : Addr} {ks : List Str} {R : Str → Value → Prop} (D : DictK X.K X.w d ks R) : IxR X (rIxDk d ks R) := by
  have hv := D.has
  obtain ⟨es, n, kd, ka⟩ := D.ex
  intro value slice pins s σ H x y v u Q I rx ry h hs
  obtain ⟨z, rfl, rfl, hz, q⟩ := h
  obtain ⟨u', e, r⟩ := nsIn_yes kd ka hz
  obtain ⟨v', rv⟩ := hv z u' r
  exact ix_kdict value slice pins s σ H _ _ v u Q I rx ry ⟨d, z, v', rfl, rfl, ⟨es, n, u', kd.at_, kd.lit, e, rv⟩, q v' u' rv r⟩ hs
/-- a local name that holds one of several defs -/
def tCallH (i : Nat) (R : Addr → Sp → Prop) (t : TA) : TE := fun σ H Q => ∃ f sp, σ[i]? = some (some (.ref f)) ∧ R f sp ∧ t σ H fun vs H1 => sp vs H1 Q (fun _ _ _ => False)
theorem pe_callH {k j i : Nat} {R : Addr → Sp → Prop} {x : Str} {p pos : Pos} {e : Expr} {es : List Expr} {t : TA} (A : ∀ f sp, R f sp → Held X.prog X.w X.K X.mg X.base k f sp) (hr : Room j X.A) (hk : k ≤ j) (hN : X.N[i]? = some x) (hv : Vis X.env.scope x) (ha : PA X (e :: es) t)
    (hdb : (x == ("__debug__" : Str)) = false := by decide) (hcd : (x == ("__classdict__" : Str)) = false := by decide)
    (he : starEach (e :: es) X.env = (false, eval e X.env) :: starEach es X.env := by rfl) (hpl : (backTo pos (starEach es X.env)).any (·.1) = false := by rfl) : PE X (.Call (.Name x p) (e :: es) [] pos) (tCallH i R t) :=
  ⟨fun pins s σ H Q I h => by
    obtain ⟨f, sp, h1, h2, h3⟩ := h
    exact (pe_callA (S := fun f' => if f' = f then some sp else none) (fun f' sp' q => by
      by_cases z : f' = f
      · rw [if_pos z] at q
        rw [z, ← Option.some.inj q]
        exact A f sp h2
      · rw [if_neg z] at q
        cases q) (hr.mono hk) hN hv ha hdb hcd he hpl).run pins s σ H Q I ⟨f, sp, h1, if_pos rfl, h3⟩⟩
end
theorem walk_zipT {K : PySem.W.Frag} {a b : Addr} {xs ys : List V} {n : Nat} (hx : xs.length = n) (hy : ys.length = n) : Walk (RZ.ItzT K a b) n (fun H => SqT K H a xs ∧ SqT K H b ys) (YPair (fun i => xs[i]?) (fun i => ys[i]?)) where
  goes := fun i _ hi q => ⟨xs, ys, xs[i]'(by omega), ys[i]'(by omega), q.1, q.2, List.getElem?_eq_getElem _, List.getElem?_eq_getElem _⟩
  stops := fun _ q => ⟨xs, ys, q.1, q.2, .inl (by omega)⟩
  yields := fun i H v H' _ q y => by
    obtain ⟨T, x, z, h1, h2, h3, h4, h5⟩ := y
    exact ⟨T, x, z, h1, h2, h3, h4 xs q.1, h5 ys q.2⟩
/-! ### facts of data -/
theorem gd_lay {n : Nat} {d : PyData} (h : Gd n d) : d.canLay0 = true := (gd_facts h).1
theorem named_str {x z : Str} : named x (.str z) = decide (z = x) := by
  show (PyData.eqv (.str z) (.str x)) = _
  simp only [PyData.eqv]
  by_cases h : z = x
  · rw [decide_eq_true h, h]
    exact beq_self_eq_true x
  · rw [decide_eq_false h]
    exact beq_eq_false_iff_ne.mpr h
theorem eqv_nil {xs : List PyData} : PyData.eqv (.tuple xs) (.tuple []) = xs.isEmpty := by
  cases xs <;> simp [PyData.eqv, PyData.eqvAll]
theorem str_lay (x : Str) (h : PySem.PyData.strOk x = true := by decide +kernel) : PyData.canLay0 (.str x) = true := by
  unfold PyData.canLay0
  exact h
theorem str_dep (x : Str) : PyData.depth (.str x) ≤ 8 := by
  unfold PyData.depth
  omega
theorem nil_lay : PyData.canLay0 (.tuple []) = true := by decide +kernel
theorem nil_dep : PyData.depth (.tuple []) ≤ 8 := by decide +kernel

/-! ### what a breaker is -/
def numL : List (Str × List (Int × Int)) := [("marks", [(1, 40), (1, 40)]), ("secrets", [(1, 40), (1, 40)]), ("once", [(1, 40)]), ("counter", [(1, 40), (1, 256), (1, 40)]), ("cut", [(1, 40)]), ("next", [(1, 40)]), ("guess", [(1, 40)]), ("bit", []), ("hard", [(1, 10)])]
def numK : List Str := ["marks", "secrets", "once", "counter", "cut", "next", "guess", "bit", "hard"]
def fitK : List Str := ["longer", "tree", "opening", "onetime"]
def numOf (z : Str) : List (Int × Int) := ((numL.find? fun p => decide (p.1 = z)).map (·.2)).getD []
def madeZ (z : Str) : Bool := decide (z ∈ numK) || decide (z ∈ fitK)
def madeD : PyData → Bool
  | .tuple (.str z :: _) => madeZ z
  | _ => false
def numsOk : List PyData → List (Int × Int) → Bool
  | [], [] => true
  | d :: ds, b :: bs => whole d b.1 b.2 && numsOk ds bs
  | _, _ => false
def pairD (b : Int × Int) : PyData := .tuple [.int b.1, .int b.2]
def pairsD (bs : List (Int × Int)) : PyData := .tuple (bs.map pairD)
def genNext : PyData → Bool
  | .tuple [_, .int n, .int m, _] => decide (m = n + 1)
  | _ => false
def genTwice (d q : PyData) : PyData → Bool
  | .tuple [_, .int n, .int m, _] => decide (m = 2 * n) && (decide (n ≤ 8) && (whole d 1 (if 12 - n < 8 then 12 - n else 8) && whole q 1 1000))
  | _ => false
def fitLonger : List PyData → Bool
  | [g, k] => genOk g && (genNext g && whole k 1 20)
  | _ => false
def fitTree : List PyData → Bool
  | [g, d, q] => genOk g && genTwice d q g
  | _ => false
def fitOpening : List PyData → Bool
  | [.str x] => decide ((1 : Int) ≤ (x.length : Int)) && (decide ((x.length : Int) ≤ 40) && rowsOk (.tuple [.str x]) 1 (x.length : Int))
  | _ => false
def fitOnetime : List PyData → Bool
  | [f, l] => genOk f && whole l 1 4
  | _ => false
def fitZ (z : Str) (own : List PyData) : Bool :=
  if z ∈ numK then numsOk own (numOf z) else if z = "longer" then fitLonger own else if z = "tree" then fitTree own else if z = "opening" then fitOpening own else fitOnetime own
def fitsD : PyData → Bool
  | .tuple (.str z :: r) => fitZ z r.dropLast
  | _ => false
def lastD : PyData → PyData
  | .tuple xs => xs.getLastD .none
  | _ => .none
def headIs (x : Str) : PyData → Bool
  | .tuple (k :: _) => named x k
  | _ => false
def partOk : PyData → Bool
  | .str x => decide (x = "0") || decide (x = "1")
  | d => whole d 0 9999
def partsOk : PyData → Bool
  | .tuple xs => xs.all partOk
  | _ => false
def sayOk : List PyData → Bool
  | [p] => partsOk p
  | _ => false
def tossOk : List PyData → Bool
  | [.tuple xs] => decide ((1 : Int) ≤ (xs.length : Int)) && decide ((xs.length : Int) ≤ 64)
  | _ => false
def lookOk : List PyData → Bool
  | [n, _, _] => whole n 0 9999
  | _ => false
def askOk : List PyData → Bool
  | [p, _] => partsOk p
  | _ => false
def looksOk : PyData → Bool
  | .tuple (k :: r) => if named "say" k then sayOk r else if named "toss" k then tossOk r else if named "look" k then lookOk r else named "ask" k && askOk r
  | _ => false
def kidsD : PyData → List PyData
  | .tuple (k :: r) => if named "toss" k then (match r with
    | .tuple xs :: _ => xs
    | _ => []) else r.drop 1
  | _ => []
def okN : Nat → PyData → Bool
  | 0, _ => false
  | n + 1, d => looksOk d && (kidsD d).all (okN n)
def szN : Nat → PyData → Nat
  | 0, _ => 1
  | n + 1, d => 1 + ((kidsD d).map (szN n)).sum
def plainOk (d : PyData) : Bool := okN 60 d && decide (szN 60 d ≤ 2001)
def chk : Nat → PyData → Bool
  | n, d => if madeD d then (match n with
    | 0 => false
    | m + 1 => fitsD d && (!(headIs "onetime" d && madeD (lastD d)) && chk m (lastD d))) else plainOk d
def brOk (d : PyData) : Bool := chk 20 d
/-! ### promises -/
def spD (K : PySem.W.Frag) (g : PyData → Bool) : Sp := fun vs H Q _ => ∃ (v : V) (d : PyData) (n : Nat), vs = [v] ∧ Dp K H v d ∧ Gd n d ∧ ∀ H', Same H H' → Q (.bl (g d)) H'
def spOwn (K : PySem.W.Frag) (g : List PyData → Bool) : Sp := fun vs H Q _ => ∃ (v : V) (ds : List PyData) (n : Nat), vs = [v] ∧ Dp K H v (.tuple ds) ∧ Gd n (.tuple ds) ∧ ∀ H', Same H H' → Q (.bl (g ds)) H'
def spNums (K : PySem.W.Frag) : Sp := fun vs H Q _ => ∃ (v y : V) (ds : List PyData) (bs : List (Int × Int)) (n : Nat), vs = [v, y] ∧ Dp K H v (.tuple ds) ∧ Gd n (.tuple ds) ∧ Dp K H y (pairsD bs) ∧ bs.length ≤ 100 ∧ ∀ H', Same H H' → Q (.bl (numsOk ds bs)) H'
def spKids (K : PySem.W.Frag) : Sp := fun vs H Q _ => ∃ (v : V) (d : PyData) (n : Nat) (G : Hp), vs = [v] ∧ Same G H ∧ Dp K G v d ∧ Gd n d ∧ looksOk d = true ∧ ∀ a us H', Same H H' → SqT K H' a us → DpAll K G us (kidsD d) → Q (.ref a) H'
def spCheckB (K : PySem.W.Frag) (C : Addr) : Sp := fun vs H Q E => ∃ (v : V) (d : PyData) (n : Nat), vs = [v] ∧ Dp K H v d ∧ Gd n d ∧ ∀ H', Same H H' → (brOk d = true → Q .non H') ∧ (brOk d = false → E (.ref C) none H')
/-- what the dicts of the made breakers hold -/
def numR (K : PySem.W.Frag) : Str → Value → Prop := fun z u => ∃ a, u = .ref a ∧ ∀ H, Dp K H (.ref a) (pairsD (numOf z))
def fitR (mg : Str → Option Value) : Str → Value → Prop := fun z u => ∃ f, u = .ref f ∧ ((z = "longer" ∧ mg "fits_longer" = some (.ref f)) ∨ (z = "tree" ∧ mg "fits_tree" = some (.ref f)) ∨ (z = "opening" ∧ mg "fits_opening" = some (.ref f)) ∨ (z = "onetime" ∧ mg "fits_onetime" = some (.ref f)))

/-! ### whole numbers and truth values alike -/
def wI : V → Option Int
  | .int i => some i
  | .bl b => some (b2i b)
  | _ => none
section
variable {X : Cx}
def rAddW : R2 := fun x y H Q => ∃ i j, wI x = some i ∧ y = .int j ∧ Q (.int (i + j)) H
def rSubW : R2 := fun x y H Q => ∃ i j, wI x = some i ∧ y = .int j ∧ Q (.int (i - j)) H
theorem op_addW : OpR X (binaryOp .Add) rAddW := by
  intro pins s σ H x y v u Q I rx ry h
  obtain ⟨i, j, hx, rfl, q⟩ := h
  obtain ⟨t', rfl⟩ := ry
  cases x with
  | int k =>
    cases hx
    obtain ⟨t, rfl⟩ := rx
    exact add_int ⟨.int _, H, I.tok _, ⟨_, rfl⟩, q⟩
  | bl b =>
    cases hx
    cases rx
    exact PySem.IntBool.add_bool_int ⟨.int _, H, I.tok _, ⟨_, rfl⟩, q⟩
  | _ => cases hx
theorem op_subW : OpR X (binaryOp .Sub) rSubW := by
  intro pins s σ H x y v u Q I rx ry h
  obtain ⟨i, j, hx, rfl, q⟩ := h
  obtain ⟨t', rfl⟩ := ry
  cases x with
  | int k =>
    cases hx
    obtain ⟨t, rfl⟩ := rx
    exact sub_int ⟨.int _, H, I.tok _, ⟨_, rfl⟩, q⟩
  | bl b =>
    cases hx
    cases rx
    exact PySem.IntBool.sub_bool_int ⟨.int _, H, I.tok _, ⟨_, rfl⟩, q⟩
  | _ => cases hx
theorem gives_neg_bool (a : Bool) : Gives (Builtin.«int.__neg__» ⟨[.bool a], []⟩) (.int (-(if a = true then (1 : Int) else 0))) :=
  .of_wp fun M A E s Q h => by obtain ⟨hp, g, d, tk, os⟩ := s; wp_walk; exact ⟨_, rfl, h⟩
theorem neg_boolW {prog : Program} {w : World} {A : Around} {E : Value → Shared → Prop} {s : Shared} {a : Bool} {Q : Value → Shared → Prop} (h : Q (.int (-(if a = true then (1 : Int) else 0)) s.toks) { s with toks := s.toks + 1 }) : wpAny (model prog w) A (unaryOp .USub (.bool a)) Q E s :=
  unaryOp_gives (op := .USub) (T := "bool") rfl rfl F.slot_bool_neg F.entry_int_neg (F.args_int_neg_1 _) (gives_neg_bool a) h
def rNegW : V → Hp → VK → Prop := fun x H Q => ∃ i, wI x = some i ∧ Q (.int (-i)) H
theorem un_negW : UnR X (unaryOp .USub) rNegW := by
  intro pins s σ H x v Q I rx h
  obtain ⟨i, hx, q⟩ := h
  cases x with
  | int k =>
    cases hx
    obtain ⟨t, rfl⟩ := rx
    exact neg_int ⟨.int _, H, I.tok _, ⟨_, rfl⟩, q⟩
  | bl b =>
    cases hx
    cases rx
    exact neg_boolW ⟨.int _, H, I.tok _, ⟨_, rfl⟩, q⟩
  | _ => cases hx
def rStrW : List V → Hp → VK → Prop := fun xs H Q => (∃ i, xs = [.int i] ∧ i.natAbs.log2 < 1920 ∧ Q (.str (toString i)) H) ∨ ∃ b, xs = [.bl b] ∧ Q (.str (if b then "True" else "False")) H
theorem call_strW : CallR X (.type "str") rStrW := by
  intro pins s σ H xs us Q I r h
  rcases h with ⟨i, rfl, hz, q⟩ | ⟨b, rfl, q⟩
  · obtain ⟨u, rfl, t, rfl⟩ := vals1 r
    exact PySem.P.str_of_int hz ⟨.str _, H, I.tok _, ⟨_, rfl⟩, q⟩
  · obtain ⟨u, rfl, r1⟩ := vals1 r
    cases r1
    exact PySem.P.str_of_bool ⟨.str _, H, I.tok _, ⟨_, rfl⟩, q⟩
end

def spWithin (K : PySem.W.Frag) : Sp := fun vs H Q _ => ∃ (v : V) (d : PyData) (lo hi : Int), vs = [v, .int lo, .int hi] ∧ Dp K H v d ∧ Q (.bl (whole d lo hi)) H
def spIsBits (K : PySem.W.Frag) : Sp := fun vs H Q _ => ∃ (v : V) (d : PyData) (n : Nat) (m : Int), vs = [v, .int m] ∧ Dp K H v d ∧ Gd n d ∧ Q (.bl (bitRow m d)) H
def spRowsGood (K : PySem.W.Frag) : Sp := fun vs H Q _ => ∃ (v : V) (d : PyData) (n : Nat) (many m : Int), vs = [v, .int many, .int m] ∧ Dp K H v d ∧ Gd n d ∧ Q (.bl (rowsOk d many m)) H
def spGood (K : PySem.W.Frag) : Sp := fun vs H Q _ => ∃ (v : V) (d : PyData) (n : Nat), vs = [v] ∧ Dp K H v d ∧ Gd n d ∧ Q (.bl (blockOk d)) H

/-- what is new in a heap -/
def fresh (H H' : Hp) : Hp := fun b => if H b = none then H' b else none
theorem fresh_some {H H' : Hp} {b : Addr} {o : HO} : fresh H H' b = some o ↔ H b = none ∧ H' b = some o := by
  unfold fresh
  by_cases h : H b = none
  · rw [if_pos h]
    exact ⟨fun e => ⟨h, e⟩, fun e => e.2⟩
  · rw [if_neg h]
    exact ⟨fun e => (nomatch e), fun e => absurd e.1 h⟩
theorem fresh_off {a : Addr} {H H' : Hp} (h : ∃ o, H a = some o) : Same (fresh H H') (off a H') := fun b o e => by
  obtain ⟨u, hu⟩ := h
  obtain ⟨e1, e2⟩ := fresh_some.mp e
  rw [off_ne fun z => ?_]
  · exact e2
  · rw [z, hu] at e1
    cases e1
/-- a new value, of data of a size -/
def OkN (K : PySem.W.Frag) (H H' : Hp) (s n : Nat) (v : V) : Prop := ∃ D, Dp K (fresh H H') v D ∧ Gz s n D
theorem OkN.ok {K : PySem.W.Frag} {a : Addr} {H H' : Hp} {s n : Nat} {v : V} (h : OkN K H H' s n v) (ha : ∃ o, H a = some o) : Ok K a H' s n v := by
  obtain ⟨D, h1, h2⟩ := h
  exact ⟨D, dp_same (fresh_off ha) D h1, h2⟩
def spOdd (K : PySem.W.Frag) (j : Nat) : Sp := fun vs H Q _ => ∃ (a d : Addr) (dep : Nat), vs = [.ref a, .int (dep : Int)] ∧ dep ≤ j ∧ Hnd H a d ∧ ∀ v H', OkN K H H' 70 (j + 1) v → Hnd H' a d → Keep a H H' → Q v H'
def spOddB (K : PySem.W.Frag) (j : Nat) : Sp := fun vs H Q E => 1 ≤ j ∧ spOdd K (j - 1) vs H Q E
def spBent (K : PySem.W.Frag) (j : Nat) : Sp := fun vs H Q _ => ∃ (a d : Addr) (v : V) (s n dep : Nat), vs = [.ref a, v, .int (dep : Int)] ∧ dep ≤ j ∧ Hnd H a d ∧ Ok K a H s n v ∧ 70 ≤ s ∧ s ≤ 500 ∧ n ≤ 50 ∧ ∀ v' H', Ok K a H' (s + 2) (n + 3) v' → Hnd H' a d → Keep a H H' → Q v' H'
def spBentB (K : PySem.W.Frag) (j : Nat) : Sp := fun vs H Q E => 1 ≤ j ∧ spBent K (j - 1) vs H Q E

theorem pss_when {X : Cx} {b : List Stmt} {cls : Value} {d : Option Addr} {C : Addr} {oe : Obj} {t : TS} (hz : Zc cls d oe) (h : Zc (.ref C) none oe → PSs X b t) : PSs X b (fun D σ H => (cls = .ref C ∧ d = none) ∧ t D σ H) := by
  refine ⟨fun pins s σ H D I q => ?_⟩
  obtain ⟨⟨e1, e2⟩, q⟩ := q
  subst e1
  subst e2
  exact (h hz).run pins s σ H D I q

/-! ### (z,) * k, k from 1 on -/
def rRep1 (K : PySem.W.Frag) : R2 := fun x y H Q => ∃ (l : Addr) (k : Int) (z : V), x = .ref l ∧ y = .int k ∧ SqT K H l [z] ∧ 1 ≤ k ∧ k ≤ 5000 ∧ ∀ p H', Same H H' → SqT K H' p (List.replicate k.toNat z) → Q (.ref p) H'
theorem tuple_once (l : Addr) (z : Value) (n : Nat) (dd : Option Addr) (sl : Array (Option Value)) (u : Tok) :
    Meets (Builtin.«tuple.__mul__» ⟨[.ref l, .int 1 u], []⟩) (fun _ R s => s.heap.get? l = some { cls := .type "tuple", dict := dd, data := .seq #[z] n, slots := sl } ∧ R (.ok (.ret (.ref l))) s) :=
  .of_wp fun prog w A R s h => by
    obtain ⟨hp, g, d, tk, os⟩ := s
    obtain ⟨hl, h⟩ := h
    have idx := AutoSeq1.idx_int
    wp_walk using wpAny_loadPart' hl
    exact ⟨_, rfl, h⟩
section
variable {X : Cx}
theorem op_rep1 (K : PySem.W.Frag) (hK : X.K = K := by rfl) : OpR X (binaryOp .Mult) (rRep1 K) := by
  subst hK
  intro pins s σ H x y v u Q I rx ry h
  obtain ⟨l, k, z, rfl, rfl, hT, h1, h2, q⟩ := h
  cases rx
  obtain ⟨t, rfl⟩ := ry
  obtain ⟨its, rz, ⟨⟨cls, dd, data, sl⟩, ho, hc, n, hd⟩, hs⟩ := I.tuple hT
  dsimp only at hc hd
  subst hc hd
  match its, rz with
  | [w], .cons rw' .nil =>
    -- what the slot of the tuple must do
    have road : ∀ {Q' : Value → Shared → Prop}, wpAny (model X.prog X.w) X.A (call (.builtin "tuple.__mul__") [.ref l, .int k t]) Q' X.xe s →
        wpAny (model X.prog X.w) X.A (binaryOp .Mult (.ref l) (.int k t)) Q' X.xe s := fun {Q'} c =>
      wpAny_binaryOp_repeat_ref (U := "int") (T := "tuple") (by decide)
        ⟨_, ho, rfl⟩ (fun s' => typeIs_int s' k t)
        noFill_tuple_mul F.fills_int_mul
        F.slot_int_rmul repeat_tuple
        F.slot_int_index.lookup
        (call_meets F.slot_int_rmul (typeIs_int s k t)
          F.entry_int_rmul (F.args_int_rmul_2 _ _)
          (int_rmul_tuple k t l _ n dd sl)
          ⟨ho, rfl, ⟨_, ho, rfl⟩, c⟩)
    refine road ?_
    by_cases one : k = 1
    · subst one
      refine call_meets F.slot_tuple_mul ⟨_, ho, rfl⟩
        F.entry_tuple_mul (F.args_tuple_mul_2 _ _)
        (tuple_once l w n dd sl t) ⟨ho, ?_⟩
      exact ⟨.ref l, H, I, rfl, q l H (Same.refl H) hT⟩
    · have a0 : (decide (k < -(2 ^ 63)) || decide (k ≥ 2 ^ 63)) = false := by
        rw [decide_eq_false (show ¬ k < -(2 ^ 63) by omega), Bool.false_or]
        exact decide_eq_false (by omega)
      have a1 : ((#[w] : Array Value).isEmpty || k == 1) = false := beq_eq_false_iff_ne.mpr one
      have a2 : (decide (k ≤ 0) || (#[w] : Array Value).isEmpty) = false := by
        rw [decide_eq_false (show ¬ k ≤ 0 by omega)]
        rfl
      have sz : (((#[w] : Array Value).size : Nat) : Int) = 1 := rfl
      have a4 : Builtin.Tuple.tupleTooMany ((((#[w] : Array Value).size : Nat) : Int) * k) = false := by
        rw [sz, Int.one_mul]
        unfold Builtin.Tuple.tupleTooMany
        exact decide_eq_false (by rw [sizeLine_eq]; omega)
      have len : (List.replicate k.toNat [w]).flatten.length = k.toNat := by
        rw [PyProof.Rows.lm_len_rep_flat]
        exact Nat.mul_one _
      refine call_meets F.slot_tuple_mul ⟨_, ho, rfl⟩
        F.entry_tuple_mul (F.args_tuple_mul_2 _ _)
        (tuple_mulW l #[w] n dd sl k t a0 a1 a2 (by rw [sz]; omega) a4 (by rw [show (#[w] : Array Value) = [w].toArray from rfl, size_rep, List.size_toArray, len, sizeLine_eq]; omega)) ⟨ho, ?_⟩
      rw [show (#[w] : Array Value) = [w].toArray from rfl, size_rep]
      have np := I.hok.fresh (Nat.le_refl s.heap.objs.size)
      have e1 : (List.replicate k.toNat [z]).flatten = List.replicate k.toNat z := by
        generalize k.toNat = j
        induction j with
        | zero => rfl
        | succ j ih => rw [List.replicate_succ, List.flatten_cons, ih, List.replicate_succ]; rfl
      refine ⟨.ref s.heap.objs.size, _, I.laid (t' := s.toks) (o := .tup (List.replicate k.toNat [z]).flatten) (fun _ _ g => Heap.get?_push_of_some _ g) (Nat.le_refl _) ?_, rfl, q _ _ (same_new np) (.inl (.inl (by rw [upd_same, e1])))⟩
      refine ⟨?_, _, (show Vals [z] [w] from .cons rw' .nil).rep k.toNat, IsTup.new _ _⟩
      rw [PyProof.Rows.lm_len_rep_flat, sizeLine_eq]
      show k.toNat * 1 ≤ _
      omega
end

def topS (i : Nat) : Stmt := PySem.Challenge.pw_breakback_k05_breakers_that_are_right.main.body.getD i (.Pass ⟨0, 0, 0, 0⟩)
abbrev s_is_whole : Stmt := topS 7
abbrev s_are_rows : Stmt := topS 8
abbrev s_is_generator : Stmt := topS 9
abbrev s_are_numbers : Stmt := topS 17
abbrev s_fits_longer : Stmt := topS 18
abbrev s_fits_tree : Stmt := topS 19
abbrev s_fits_opening : Stmt := topS 20
abbrev s_fits_onetime : Stmt := topS 21
abbrev s_is_made : Stmt := topS 23
abbrev s_fits_kind : Stmt := topS 24
abbrev s_is_part : Stmt := topS 25
abbrev s_are_parts : Stmt := topS 26
abbrev s_looks_plain : Stmt := topS 27
abbrev s_directly_within : Stmt := topS 28
abbrev s_is_plain_breaker : Stmt := topS 29
abbrev s_check_breaker : Stmt := topS 30
abbrev s_is_plain : Stmt := topS 31
abbrev s_law_draws : Stmt := topS 33
abbrev s_law_take : Stmt := topS 34
abbrev s_law_string : Stmt := topS 35
abbrev s_law_table : Stmt := topS 36
abbrev s_law_function : Stmt := topS 37
abbrev s_law_parts : Stmt := topS 38
abbrev s_law_breaker : Stmt := topS 39
abbrev s_law_made : Stmt := topS 40
abbrev s_law_within : Stmt := topS 41
abbrev s_law_is_bits : Stmt := topS 42
abbrev s_law_rows_good : Stmt := topS 43
abbrev s_law_block_good : Stmt := topS 44
abbrev s_law_is_parts : Stmt := topS 45
abbrev s_law_plain_inner : Stmt := topS 46
abbrev s_law_plain_good : Stmt := topS 47
abbrev s_law_made_good : Stmt := topS 48
abbrev s_law_breaker_good : Stmt := topS 49
abbrev s_law_odd : Stmt := topS 50
abbrev s_law_bent : Stmt := topS 51
abbrev s_law_is_right : Stmt := topS 52
abbrev s_law_edge : Stmt := topS 53
abbrev s_law_refused : Stmt := topS 54
abbrev s_law_wrong_blocks : Stmt := topS 55
abbrev s_law_deep : Stmt := topS 56
abbrev s_law : Stmt := topS 57
theorem sc_is_whole : FnScope ["value", "low", "high"] ["value", "low", "high"] (defScope s_is_whole) := ⟨rfl, rfl, rfl, by decide +kernel, rfl, by decide +kernel, by decide +kernel⟩
theorem sc_are_rows : FnScope ["value", "many", "m", "row"] ["value", "many", "m"] (defScope s_are_rows) := ⟨rfl, rfl, rfl, by decide +kernel, rfl, by decide +kernel, by decide +kernel⟩
theorem sc_is_generator : FnScope ["value", "kind", "n", "m", "rows"] ["value"] (defScope s_is_generator) := ⟨rfl, rfl, rfl, by decide +kernel, rfl, by decide +kernel, by decide +kernel⟩
theorem sc_are_numbers : FnScope ["own", "bounds", "value", "low", "high"] ["own", "bounds"] (defScope s_are_numbers) := ⟨rfl, rfl, rfl, by decide +kernel, rfl, by decide +kernel, by decide +kernel⟩
theorem sc_fits_longer : FnScope ["own", "n", "m"] ["own"] (defScope s_fits_longer) := ⟨rfl, rfl, rfl, by decide +kernel, rfl, by decide +kernel, by decide +kernel⟩
theorem sc_fits_tree : FnScope ["own", "n", "m"] ["own"] (defScope s_fits_tree) := ⟨rfl, rfl, rfl, by decide +kernel, rfl, by decide +kernel, by decide +kernel⟩
theorem sc_fits_opening : FnScope ["own"] ["own"] (defScope s_fits_opening) := ⟨rfl, rfl, rfl, by decide +kernel, rfl, by decide +kernel, by decide +kernel⟩
theorem sc_fits_onetime : FnScope ["own"] ["own"] (defScope s_fits_onetime) := ⟨rfl, rfl, rfl, by decide +kernel, rfl, by decide +kernel, by decide +kernel⟩
theorem sc_is_made : FnScope ["value"] ["value"] (defScope s_is_made) := ⟨rfl, rfl, rfl, by decide +kernel, rfl, by decide +kernel, by decide +kernel⟩
theorem sc_fits_kind : FnScope ["made", "kind", "own", "fits"] ["made"] (defScope s_fits_kind) := ⟨rfl, rfl, rfl, by decide +kernel, rfl, by decide +kernel, by decide +kernel⟩
theorem sc_is_part : FnScope ["value"] ["value"] (defScope s_is_part) := ⟨rfl, rfl, rfl, by decide +kernel, rfl, by decide +kernel, by decide +kernel⟩
theorem sc_are_parts : FnScope ["value", "part"] ["value"] (defScope s_are_parts) := ⟨rfl, rfl, rfl, by decide +kernel, rfl, by decide +kernel, by decide +kernel⟩
theorem sc_looks_plain : FnScope ["value", "kind", "many"] ["value"] (defScope s_looks_plain) := ⟨rfl, rfl, rfl, by decide +kernel, rfl, by decide +kernel, by decide +kernel⟩
theorem sc_directly_within : FnScope ["plain"] ["plain"] (defScope s_directly_within) := ⟨rfl, rfl, rfl, by decide +kernel, rfl, by decide +kernel, by decide +kernel⟩
theorem sc_is_plain_breaker : FnScope ["value", "waiting", "many", "part", "depth", "inner"] ["value"] (defScope s_is_plain_breaker) := ⟨rfl, rfl, rfl, by decide +kernel, rfl, by decide +kernel, by decide +kernel⟩
theorem sc_check_breaker : FnScope ["breaker", "inner", "depth"] ["breaker"] (defScope s_check_breaker) := ⟨rfl, rfl, rfl, by decide +kernel, rfl, by decide +kernel, by decide +kernel⟩
theorem sc_is_plain : FnScope ["breaker"] ["breaker"] (defScope s_is_plain) := ⟨rfl, rfl, rfl, by decide +kernel, rfl, by decide +kernel, by decide +kernel⟩
theorem sc_law_draws : FnScope ["script", "many", "rests", "draws", "k", "cell", "at", "mixed"] ["script", "many"] (defScope s_law_draws) := ⟨rfl, rfl, rfl, by decide +kernel, rfl, by decide +kernel, by decide +kernel⟩
theorem sc_law_take : FnScope ["hand", "many", "at", "draws"] ["hand", "many"] (defScope s_law_take) := ⟨rfl, rfl, rfl, by decide +kernel, rfl, by decide +kernel, by decide +kernel⟩
theorem sc_law_string : FnScope ["hand", "length", "k"] ["hand", "length"] (defScope s_law_string) := ⟨rfl, rfl, rfl, by decide +kernel, rfl, by decide +kernel, by decide +kernel⟩
theorem sc_law_table : FnScope ["hand", "n", "m", "rows", "k"] ["hand", "n", "m"] (defScope s_law_table) := ⟨rfl, rfl, rfl, by decide +kernel, rfl, by decide +kernel, by decide +kernel⟩
theorem sc_law_function : FnScope ["hand", "n", "l", "m", "rows", "key", "k"] ["hand", "n", "l", "m"] (defScope s_law_function) := ⟨rfl, rfl, rfl, by decide +kernel, rfl, by decide +kernel, by decide +kernel⟩
theorem sc_law_parts : FnScope ["hand", "length", "found", "k", "kind"] ["hand", "length"] (defScope s_law_parts) := ⟨rfl, rfl, rfl, by decide +kernel, rfl, by decide +kernel, by decide +kernel⟩
theorem sc_law_breaker : FnScope ["hand", "depth", "asks", "length", "said", "kind", "size", "first", "many", "k"] ["hand", "depth", "asks", "length", "said"] (defScope s_law_breaker) := ⟨rfl, rfl, rfl, by decide +kernel, rfl, by decide +kernel, by decide +kernel⟩
theorem sc_law_made : FnScope ["hand", "inner", "kind", "n", "some"] ["hand", "inner"] (defScope s_law_made) := ⟨rfl, rfl, rfl, by decide +kernel, rfl, by decide +kernel, by decide +kernel⟩
theorem sc_law_within : FnScope ["value", "least", "most"] ["value", "least", "most"] (defScope s_law_within) := ⟨rfl, rfl, rfl, by decide +kernel, rfl, by decide +kernel, by decide +kernel⟩
theorem sc_law_is_bits : FnScope ["value", "length", "sign"] ["value", "length"] (defScope s_law_is_bits) := ⟨rfl, rfl, rfl, by decide +kernel, rfl, by decide +kernel, by decide +kernel⟩
theorem sc_law_rows_good : FnScope ["rows", "many", "length", "row"] ["rows", "many", "length"] (defScope s_law_rows_good) := ⟨rfl, rfl, rfl, by decide +kernel, rfl, by decide +kernel, by decide +kernel⟩
theorem sc_law_block_good : FnScope ["value", "rows"] ["value"] (defScope s_law_block_good) := ⟨rfl, rfl, rfl, by decide +kernel, rfl, by decide +kernel, by decide +kernel⟩
theorem sc_law_is_parts : FnScope ["parts", "part"] ["parts"] (defScope s_law_is_parts) := ⟨rfl, rfl, rfl, by decide +kernel, rfl, by decide +kernel, by decide +kernel⟩
theorem sc_law_plain_inner : FnScope ["value"] ["value"] (defScope s_law_plain_inner) := ⟨rfl, rfl, rfl, by decide +kernel, rfl, by decide +kernel, by decide +kernel⟩
theorem sc_law_plain_good : FnScope ["value", "level", "many", "depth", "below", "one", "inner"] ["value"] (defScope s_law_plain_good) := ⟨rfl, rfl, rfl, by decide +kernel, rfl, by decide +kernel, by decide +kernel⟩
theorem sc_law_made_good : FnScope ["value", "kind", "name", "size", "number", "n", "m"] ["value"] (defScope s_law_made_good) := ⟨rfl, rfl, rfl, by decide +kernel, rfl, by decide +kernel, by decide +kernel⟩
theorem sc_law_breaker_good : FnScope ["value", "depth"] ["value"] (defScope s_law_breaker_good) := ⟨rfl, rfl, rfl, by decide +kernel, rfl, by decide +kernel, by decide +kernel⟩
theorem sc_law_odd : FnScope ["hand", "depth", "kind", "parts", "values", "k"] ["hand", "depth"] (defScope s_law_odd) := ⟨rfl, rfl, rfl, by decide +kernel, rfl, by decide +kernel, by decide +kernel⟩
theorem sc_law_bent : FnScope ["hand", "value", "depth", "kind", "at", "sign"] ["hand", "value", "depth"] (defScope s_law_bent) := ⟨rfl, rfl, rfl, by decide +kernel, rfl, by decide +kernel, by decide +kernel⟩
theorem sc_law_is_right : FnScope ["value", "due", "e", "plain"] ["value"] (defScope s_law_is_right) := ⟨rfl, rfl, rfl, by decide +kernel, rfl, by decide +kernel, by decide +kernel⟩
theorem sc_law_edge : FnScope ["hand", "say", "kind", "far", "deep", "row", "breaker", "k"] ["hand"] (defScope s_law_edge) := ⟨rfl, rfl, rfl, by decide +kernel, rfl, by decide +kernel, by decide +kernel⟩
theorem sc_law_refused : FnScope ["value"] ["value"] (defScope s_law_refused) := ⟨rfl, rfl, rfl, by decide +kernel, rfl, by decide +kernel, by decide +kernel⟩
theorem sc_law_wrong_blocks : FnScope ["hand", "plain", "n", "m", "table", "function", "wide", "found"] ["hand", "plain"] (defScope s_law_wrong_blocks) := ⟨rfl, rfl, rfl, by decide +kernel, rfl, by decide +kernel, by decide +kernel⟩
theorem sc_law_deep : FnScope ["hand", "least", "breaker", "k"] ["hand", "least"] (defScope s_law_deep) := ⟨rfl, rfl, rfl, by decide +kernel, rfl, by decide +kernel, by decide +kernel⟩
theorem sc_law : FnScope ["script", "hand", "plain", "breaker", "k", "one", "step", "bent", "made", "more", "bad"] ["script"] (defScope s_law) := ⟨rfl, rfl, rfl, by decide +kernel, rfl, by decide +kernel, by decide +kernel⟩
structure Cs where
  BadBlock : Addr
  BadBreaker : Addr
  BadScheme : Addr
  BreakError : Addr
  NUMBERS : Addr
  FITTING : Addr
structure Txt (K : PySem.W.Frag) (w : World) (mg : Str → Option Value) (cs : Cs) : Prop where
  gl_BadBlock : mg "BadBlock" = some (.ref cs.BadBlock)
  gl_BadBreaker : mg "BadBreaker" = some (.ref cs.BadBreaker)
  gl_BadScheme : mg "BadScheme" = some (.ref cs.BadScheme)
  gl_BreakError : mg "BreakError" = some (.ref cs.BreakError)
  gl_NUMBERS : mg "NUMBERS" = some (.ref cs.NUMBERS)
  gl_FITTING : mg "FITTING" = some (.ref cs.FITTING)
  dk_NUMBERS : DictK K w cs.NUMBERS numK (numR K)
  dk_FITTING : DictK K w cs.FITTING fitK (fitR mg)
  x_BadBreaker : Exn K mg "BadBreaker" cs.BadBreaker
  e_BadBreaker : ExcC K cs.BadBreaker
  exm_BadBreaker_BreakError : PySem.W.exmOne K (.ref cs.BadBreaker) (.ref cs.BreakError) = some true
  exm_BadBreaker_BadBreaker : PySem.W.exmOne K (.ref cs.BadBreaker) (.ref cs.BadBreaker) = some true
  kit_BadBreaker_BadBreaker : PySem.W.kitOne K (.ref cs.BadBreaker) (.ref cs.BadBreaker) = some true
  kit_BadBreaker_BadBlock : PySem.W.kitOne K (.ref cs.BadBreaker) (.ref cs.BadBlock) = some false
  kit_BadBreaker_BadScheme : PySem.W.kitOne K (.ref cs.BadBreaker) (.ref cs.BadScheme) = some false
  kit_BadBreaker_ValueError : PySem.W.kitOne K (.ref cs.BadBreaker) (.type "ValueError") = some true
  n_ValueError : mg "ValueError" = none
  n_abs : mg "abs" = none
  n_all : mg "all" = none
  n_bool : mg "bool" = none
  n_int : mg "int" = none
  n_isinstance : mg "isinstance" = none
  n_len : mg "len" = none
  n_list : mg "list" = none
  n_min : mg "min" = none
  n_range : mg "range" = none
  n_str : mg "str" = none
  n_tuple : mg "tuple" = none
  n_zip : mg "zip" = none
  g_DEEPEST_MADE : ∃ u, mg "DEEPEST_MADE" = some u ∧ RelV (.int 20) u
  g_DEEPEST_PLAIN : ∃ u, mg "DEEPEST_PLAIN" = some u ∧ RelV (.int 60) u
  g_LAST_BIT : ∃ u, mg "LAST_BIT" = some u ∧ RelV (.int 9999) u
  g_MOST_BITS : ∃ u, mg "MOST_BITS" = some u ∧ RelV (.int 40) u
  g_MOST_TOSSED : ∃ u, mg "MOST_TOSSED" = some u ∧ RelV (.int 64) u
  g_MOST_WITHIN : ∃ u, mg "MOST_WITHIN" = some u ∧ RelV (.int 2000) u
/-! ### the dicts of the made breakers, read off the written part -/
def intB (u : Value) (i : Int) : Bool := match u with
  | .int j _ => decide (j = i)
  | _ => false
def tupB2 (K : PySem.W.Frag) (u : Value) (b : Int × Int) : Bool := match u with
  | .ref a => (match K.lookup a with
    | some ⟨.type c, _, .seq its _, _⟩ => decide (c = "tuple") && (match its.toList with
      | [x, y] => intB x b.1 && intB y b.2
      | _ => false)
    | _ => false)
  | _ => false
def allB (K : PySem.W.Frag) : List Value → List (Int × Int) → Bool
  | [], [] => true
  | u :: us, b :: bs => tupB2 K u b && allB K us bs
  | _, _ => false
def tupPB (K : PySem.W.Frag) (u : Value) (bs : List (Int × Int)) : Bool := match u with
  | .ref a => (match K.lookup a with
    | some ⟨.type c, _, .seq its _, _⟩ => decide (c = "tuple") && (decide (its.toList.length ≤ 100) && allB K its.toList bs)
    | _ => false)
  | _ => false
def numB (K : PySem.W.Frag) : List DictEntry → List Str → Bool
  | [], [] => true
  | e :: es, k :: ks => (match e.key with
    | .str x _ => decide (x = k)
    | _ => false) && (tupPB K e.val (numOf k) && numB K es ks)
  | _, _ => false
theorem intB_ok {u : Value} {i : Int} (h : intB u i = true) : RelV (.int i) u := by
  unfold intB at h
  split at h
  · rename_i j t
    rw [of_decide_eq_true h]
    exact ⟨_, rfl⟩
  · cases h
theorem tupB2_ok {K : PySem.W.Frag} {u : Value} {b : Int × Int} (h : tupB2 K u b = true) : ∃ a, u = .ref a ∧ ∀ H, Dp K H (.ref a) (pairD b) := by
  unfold tupB2 at h
  split at h
  · rename_i a
    refine ⟨a, rfl, ?_⟩
    split at h
    · rename_i c dd its n sl e
      rw [Bool.and_eq_true, decide_eq_true_eq] at h
      obtain ⟨rfl, h⟩ := h
      split at h
      · rename_i x y e2
        rw [Bool.and_eq_true] at h
        have hs : its.size ≤ sizeLine := by
          rw [← Array.length_toList, e2]
          show 2 ≤ sizeLine
          decide
        exact fun H => .tup (.inr ⟨_, its, n, e, rfl, rfl, hs, by rw [e2]; exact .cons (intB_ok h.1) (.cons (intB_ok h.2) .nil)⟩) (.cons (.int _) (.cons (.int _) .nil))
      · cases h
    · cases h
  · cases h
theorem allB_ok {K : PySem.W.Frag} : ∀ {us : List Value} {bs : List (Int × Int)}, allB K us bs = true → ∃ vs : List V, Vals vs us ∧ ∀ H, DpAll K H vs (bs.map pairD)
  | [], [], _ => ⟨[], .nil, fun _ => .nil⟩
  | [], _ :: _, h => by cases h
  | _ :: _, [], h => by cases h
  | u :: us, b :: bs, h => by
    have h' : (tupB2 K u b && allB K us bs) = true := h
    rw [Bool.and_eq_true] at h'
    obtain ⟨a, rfl, h1⟩ := tupB2_ok h'.1
    obtain ⟨vs, h2, h3⟩ := allB_ok h'.2
    exact ⟨.ref a :: vs, .cons rfl h2, fun H => .cons (h1 H) (h3 H)⟩
theorem tupPB_ok {K : PySem.W.Frag} {u : Value} {bs : List (Int × Int)} (h : tupPB K u bs = true) : ∃ a, u = .ref a ∧ ∀ H, Dp K H (.ref a) (pairsD bs) := by
  unfold tupPB at h
  split at h
  · rename_i a
    refine ⟨a, rfl, ?_⟩
    split at h
    · rename_i c dd its n sl e
      rw [Bool.and_eq_true, Bool.and_eq_true, decide_eq_true_eq, decide_eq_true_eq] at h
      obtain ⟨rfl, hl, h⟩ := h
      obtain ⟨vs, h2, h3⟩ := allB_ok h
      have hs : its.size ≤ sizeLine := by
        rw [← Array.length_toList, sizeLine_eq]
        omega
      exact fun H => .tup (.inr ⟨_, its, n, e, rfl, rfl, hs, h2⟩) (h3 H)
    · cases h
  · cases h
theorem numB_ok {K : PySem.W.Frag} : ∀ {es : List DictEntry} {ks : List Str}, numB K es ks = true → KeysAre (numR K) es ks
  | [], [], _ => .nil
  | [], _ :: _, h => by cases h
  | _ :: _, [], h => by cases h
  | e :: es, k :: ks, h => by
    have h' : ((match e.key with
      | .str x _ => decide (x = k)
      | _ => false) && (tupPB K e.val (numOf k) && numB K es ks)) = true := h
    rw [Bool.and_eq_true, Bool.and_eq_true] at h'
    obtain ⟨h1, h2, h3⟩ := h'
    obtain ⟨a, ea, ha⟩ := tupPB_ok h2
    split at h1
    · rename_i x t ek
      rw [of_decide_eq_true h1] at ek
      exact .cons ek ⟨a, ea, ha⟩ (numB_ok h3)
    · cases h1
theorem fitB_ok {mg : Str → Option Value} {h1 h2 h3 h4 : Int} {t1 t2 t3 t4 : Tok} {f1 f2 f3 f4 : Addr} {es : Array DictEntry} (e : es.toList = [⟨h1, .str "longer" t1, .ref f1⟩, ⟨h2, .str "tree" t2, .ref f2⟩, ⟨h3, .str "opening" t3, .ref f3⟩, ⟨h4, .str "onetime" t4, .ref f4⟩])
    (m1 : mg "fits_longer" = some (.ref f1)) (m2 : mg "fits_tree" = some (.ref f2)) (m3 : mg "fits_opening" = some (.ref f3)) (m4 : mg "fits_onetime" = some (.ref f4)) : KeysAre (fitR mg) es.toList fitK := by
  rw [e]
  exact .cons rfl ⟨f1, rfl, .inl ⟨rfl, m1⟩⟩ (.cons rfl ⟨f2, rfl, .inr (.inl ⟨rfl, m2⟩)⟩ (.cons rfl ⟨f3, rfl, .inr (.inr (.inl ⟨rfl, m3⟩))⟩ (.cons rfl ⟨f4, rfl, .inr (.inr (.inr ⟨rfl, m4⟩))⟩ .nil)))

def top_level : Nat := 11
theorem nums_len : ∀ {ds : List PyData} {bs : List (Int × Int)}, ds.length ≠ bs.length → numsOk ds bs = false
  | [], [], h => absurd rfl h
  | [], _ :: _, _ => rfl
  | _ :: _, [], _ => rfl
  | d :: ds, b :: bs, h => by
    show (whole d b.1 b.2 && numsOk ds bs) = false
    rw [nums_len fun e => h (congrArg Nat.succ e), Bool.and_false]
theorem dp2 {K : PySem.W.Frag} {H : Hp} {ws : List V} {xs : List PyData} (h : DpAll K H ws xs) (c : ws.length = 2) : ∃ v0 v1 d0 d1, ws = [v0, v1] ∧ xs = [d0, d1] ∧ Dp K H v0 d0 ∧ Dp K H v1 d1 := by
  match xs, ws, c, h with
  | _, [v0, v1], _, .cons h0 (.cons h1 .nil) => exact ⟨_, _, _, _, rfl, rfl, h0, h1⟩
theorem dp1 {K : PySem.W.Frag} {H : Hp} {ws : List V} {xs : List PyData} (h : DpAll K H ws xs) (c : ws.length = 1) : ∃ v0 d0, ws = [v0] ∧ xs = [d0] ∧ Dp K H v0 d0 := by
  match xs, ws, c, h with
  | _, [v0], _, .cons h0 .nil => exact ⟨_, _, rfl, rfl, h0⟩
theorem dp3 {K : PySem.W.Frag} {H : Hp} {ws : List V} {xs : List PyData} (h : DpAll K H ws xs) (c : ws.length = 3) : ∃ v0 v1 v2 d0 d1 d2, ws = [v0, v1, v2] ∧ xs = [d0, d1, d2] ∧ Dp K H v0 d0 ∧ Dp K H v1 d1 ∧ Dp K H v2 d2 := by
  match xs, ws, c, h with
  | _, [v0, v1, v2], _, .cons h0 (.cons h1 (.cons h2 .nil)) => exact ⟨_, _, _, _, _, _, rfl, rfl, h0, h1, h2⟩
theorem dp_cons {K : PySem.W.Frag} {H : Hp} {ws : List V} {x : PyData} {xs : List PyData} (h : DpAll K H ws (x :: xs)) : ∃ v vs, ws = v :: vs ∧ Dp K H v x ∧ DpAll K H vs xs := by
  match ws, h with
  | _, .cons h0 t => exact ⟨_, _, rfl, h0, t⟩
theorem dps_last {K : PySem.W.Frag} {H : Hp} {vs : List V} {ds : List PyData} (h : DpAll K H vs ds) : DpAll K H vs.dropLast ds.dropLast := by
  rw [List.dropLast_eq_take, List.dropLast_eq_take, dp_all_len h]
  exact dps_take _ h
theorem gds_drop {n : Nat} {xs : List PyData} (h : ∀ x ∈ xs, Gd n x) (k : Nat) : ∀ x ∈ xs.drop k, Gd n x := fun x hx => h x (List.mem_of_mem_drop hx)
theorem gds_last {n : Nat} {xs : List PyData} (h : ∀ x ∈ xs, Gd n x) : ∀ x ∈ xs.dropLast, Gd n x := fun x hx => h x (List.mem_of_mem_take (List.dropLast_eq_take ▸ hx))
theorem slA_any {K : PySem.W.Frag} {H : Hp} {a : Addr} {xs : List V} {lo hi : Option Int} {Q : VK} (hT : SqT K H a xs) (k : ∀ p H', Same H H' → SqT K H' p (cutV xs lo hi) → Q (.ref p) H') : rSlA K (.ref a) lo hi H Q := by
  refine ⟨a, xs, rfl, hT, fun h => k a H (Same.refl H) ?_, fun _ p np => k p _ (same_new np) (.inl (.inl upd_same))⟩
  unfold cutV
  rw [h.1, h.2, List.drop_zero, Nat.sub_zero, List.take_length]
  exact hT
theorem cut_mid {v : V} {vs : List V} : cutV (v :: vs) (some 1) (some (-1)) = vs.dropLast := by
  unfold cutV
  have e1 : HT.sIx (v :: vs).length 0 (some 1) = 1 := by
    rw [show (some (1 : Int)) = some ((1 : Nat) : Int) from rfl, HT.sIx_nat, List.length_cons]
    omega
  have e2 : HT.sIx (v :: vs).length (v :: vs).length (some (-1)) = vs.length := by
    show (if (-1 : Int) < 0 then ((-1 : Int) + ((v :: vs).length : Int)).toNat else min (-1 : Int).toNat (v :: vs).length) = _
    rw [if_pos (by decide), List.length_cons]
    omega
  rw [e1, e2, List.dropLast_eq_take]
  rfl
theorem cut_two {v : V} {vs : List V} : cutV (v :: vs) (some 2) none = vs.drop 1 := by
  unfold cutV
  rw [show (some (2 : Int)) = some ((2 : Nat) : Int) from rfl, HT.sIx_nat, HT.sIx_none]
  cases vs with
  | nil => rfl
  | cons x r =>
    rw [List.length_cons, List.length_cons, show min 2 (r.length + 1 + 1) = 2 by omega, show r.length + 1 + 1 - 2 = r.length by omega]
    show r.take r.length = _
    rw [List.take_length]
    rfl
theorem gen_parts {g : PyData} (h : genOk g = true) : ∃ (k r : PyData) (n m : Int), g = .tuple [k, .int n, .int m, r] ∧ 1 ≤ n ∧ n ≤ 10 ∧ 1 ≤ m ∧ m ≤ 40 := by
  unfold genOk at h
  split at h
  · rename_i k n m r
    simp only [Bool.and_eq_true] at h
    obtain ⟨n', rfl, a1, a2⟩ := whole_int h.1.1.2
    obtain ⟨m', rfl, b1, b2⟩ := whole_int h.1.2
    exact ⟨k, r, n', m', rfl, a1, a2, b1, b2⟩
  · cases h
theorem fitLonger_no {ds : List PyData} (h : ds.length ≠ 2) : fitLonger ds = false := by
  unfold fitLonger
  split
  · exact absurd rfl h
  · rfl
theorem fitTree_no {ds : List PyData} (h : ds.length ≠ 3) : fitTree ds = false := by
  unfold fitTree
  split
  · exact absurd rfl h
  · rfl
theorem fitOnetime_no {ds : List PyData} (h : ds.length ≠ 2) : fitOnetime ds = false := by
  unfold fitOnetime
  split
  · exact absurd rfl h
  · rfl
theorem fitOpening_no {ds : List PyData} (h : ds.length ≠ 1) : fitOpening ds = false := by
  unfold fitOpening
  split
  · exact absurd rfl h
  · rfl
theorem at_last {v : V} : ∀ {vs : List V}, vs ≠ [] → vs.getLastD v = v' → atI vs (-1) = some v'
  | vs, h, e => by
    have e2 := List.dropLast_concat_getLast h
    rw [← e2, atI_last]
    rw [← e, List.getLastD_eq_getLast?, List.getLast?_eq_some_getLast h]
    rfl

section
variable {P : Program} {w : World} {K : PySem.W.Frag} {mg : Str → Option Value} {base : Heap} {cs : Cs}
theorem ok_whole {f : Addr} {fd : FuncData} (D : Df K mg "is_whole" s_is_whole ["value", "low", "high"] f fd) (T : Txt K w mg cs) : FnOk P w K mg base CX0 1 f fd ["value", "low", "high"] (spWhole K) := by
  refine D.fn.ok sc_is_whole (fun vs H Q E h => ?_) (fun cdv A outer s H vs Q E hr h => ?_)
  · obtain ⟨v, d, lo, hi, rfl, _⟩ := h
    rfl
  · obtain ⟨v, d, lo, hi, rfl, hd, q⟩ := h
    refine ⟨_, (pss_one (ps_ret (pe_and (pe_callB (isiK K) (by rfl) T.n_isinstance (by decide +kernel) (pa_cons (pv 0) (pa_cons (pe_ty "int" (by rfl) T.n_int (by decide +kernel)) pa_nil))) (pe_and (pe_not (pe_callB (isiK K) (by rfl) T.n_isinstance (by decide +kernel) (pa_cons (pv 0) (pa_cons (pe_ty "bool" (by rfl) T.n_bool (by decide +kernel)) pa_nil)))) (pe_one (pe_chain op_le op_le (pv 1) (pv 0) (pv 2))))))), ?_⟩
    refine ⟨_, rfl, _, _, _, _, _, rfl, .ty "int", dp_ty hd, kit_int d, _, rfl, ?_⟩
    cases d with
    | int i =>
      cases hd
      refine ⟨_, rfl, _, _, _, _, false, rfl, .ty "bool", .base (.int i), kit_ty (by decide +kernel), _, rfl, _, rfl, ?_⟩
      refine ⟨_, rfl, _, rfl, _, _, rfl, rfl, _, rfl, ?_⟩
      by_cases c : lo ≤ i
      · rw [decide_eq_true c]
        refine ⟨_, rfl, _, _, rfl, rfl, ?_⟩
        have e : whole (.int i) lo hi = decide (i ≤ hi) := by
          show (decide (lo ≤ i) && decide (i ≤ hi)) = _
          rw [decide_eq_true c, Bool.true_and]
        rw [e] at q
        exact q
      · rw [decide_eq_false c]
        have e : whole (.int i) lo hi = false := by
          show (decide (lo ≤ i) && decide (i ≤ hi)) = _
          rw [decide_eq_false c, Bool.false_and]
        rw [e] at q
        exact q
    | bool b =>
      cases hd
      exact ⟨_, rfl, _, _, _, _, true, rfl, .ty "bool", .base (.bl b), kit_ty (by decide +kernel), _, rfl, _, rfl, q⟩
    | none => exact q
    | str x => exact q
    | list xs => exact q
    | tuple xs => exact q
    | dict xs => exact q
theorem all_rows {m : Int} {xs : List PyData} (h : xs.all (strLen m) = true) : ∃ ys : List Str, xs = ys.map PyData.str ∧ ∀ y ∈ ys, (y.length : Int) = m := by
  induction xs with
  | nil => exact ⟨[], rfl, fun y hy => (nomatch hy)⟩
  | cons x xs ih =>
    rw [List.all_cons, Bool.and_eq_true] at h
    obtain ⟨ys, e, hy⟩ := ih h.2
    cases x with
    | str z =>
      refine ⟨z :: ys, by rw [e]; rfl, fun y hy' => ?_⟩
      rcases List.mem_cons.mp hy' with r | r
      · subst r
        exact of_decide_eq_true h.1
      · exact hy y r
    | _ => cases h.1
theorem dp_strs {K : PySem.W.Frag} {H : Hp} : ∀ {vs : List V} {ys : List Str}, DpAll K H vs (ys.map PyData.str) → vs = ys.map V.str
  | _, [], .nil => rfl
  | _, y :: ys, .cons (.str _) t => by rw [List.map_cons, dp_strs t]
theorem sum_len {m : Nat} : ∀ {ys : List Str}, (∀ y ∈ ys, (y.length : Int) = (m : Int)) → (ys.map (·.length)).sum = ys.length * m
  | [], _ => by simp
  | y :: ys, h => by
    have h1 := h y List.mem_cons_self
    rw [List.map_cons, List.sum_cons, sum_len fun z hz => h z (List.mem_cons_of_mem _ hz), List.length_cons, Nat.succ_mul]
    omega
theorem all_bits {m : Int} {ys : List Str} (h : ∀ y ∈ ys, (y.length : Int) = m) : (ys.map PyData.str).all (bitRow m) = (Txt.join "" ys).cps.toList.all (fun c => c == 48 || c == 49) := by
  rw [join_all]
  induction ys with
  | nil => rfl
  | cons y ys ih =>
    rw [List.map_cons, List.all_cons, ih fun z hz => h z (List.mem_cons_of_mem _ hz), List.map_cons, List.flatten_cons, List.all_append]
    congr 1
    show (decide ((y.length : Int) = m) && _) = _
    rw [decide_eq_true (h y List.mem_cons_self), Bool.true_and]
theorem not_all {m : Int} {xs : List PyData} (h : xs.all (strLen m) = false) : xs.all (bitRow m) = false := by
  rw [Bool.eq_false_iff] at h ⊢
  intro z
  refine h ?_
  rw [List.all_eq_true] at z ⊢
  intro x hx
  have := z x hx
  cases x with
  | str y =>
    have h2 : (decide ((y.length : Int) = m) && y.cps.toList.all (fun c => c == 48 || c == 49)) = true := this
    exact (Bool.and_eq_true_iff.mp h2).1
  | _ => cases this
theorem ok_rows {f : Addr} {fd : FuncData} (D : Df K mg "are_rows" s_are_rows ["value", "many", "m"] f fd) (T : Txt K w mg cs) : FnOk P w K mg base CX0 1 f fd ["value", "many", "m"] (spRows K) := by
  refine D.fn.ok sc_are_rows (fun vs H Q E h => ?_) (fun cdv A outer s H vs Q E hr h => ?_)
  · obtain ⟨v, d, n, many, m, rfl, _⟩ := h
    rfl
  · obtain ⟨v, d, n, many, m, rfl, hd, hg, hmany, hm, q⟩ := h
    refine ⟨_, (pss_cons (ps_if (PW.pt (pw_or (pt_not (pt_val (pe_callB (isiK K) (by rfl) T.n_isinstance (by decide +kernel) (pa_cons (pv 0) (pa_cons (pe_ty "tuple" (by rfl) T.n_tuple (by decide +kernel)) pa_nil))))) (pw_or1 (pt_cmpR op_ne (pe_callB (lenS K) (by rfl) T.n_len (by decide +kernel) (pa_cons (pv 0) pa_nil)) (pv 1) (nomark _))))) (pss_one (ps_ret pe_bl)) pss_nil) (pss_cons (ps_if (pt_not (pt_val (pe_callB (crAll K rfl) (by rfl) T.n_all (by decide +kernel) (pa_cons (pe_lc (own := [("row", 3)]) (g := gName 3) (tt := tYes) rfl sc_are_rows.nd (pi_tup (pv 0)) (blkOk_by (own := [("row", 3)]) (N := ["value", "many", "m", "row"]) (sc := defScope s_are_rows) (by decide +kernel)) (fun _ _ _ _ _ => (pg_name (i := 3) sc_are_rows.nd rfl (.inl rfl))) (fun _ _ _ _ _ => pts_nil) (fun _ _ _ _ _ => (pe_and (pe_callB (isiK K) (by rfl) T.n_isinstance (by decide +kernel) (pa_cons (pv 3) (pa_cons (pe_ty "str" (by rfl) T.n_str (by decide +kernel)) pa_nil))) (pe_one (pe_cmpR op_eq (pe_callB call_len_str (by rfl) T.n_len (by decide +kernel) (pa_cons (pv 3) pa_nil)) (pv 2) (nomark _)))))) pa_nil)))) (pss_one (ps_ret pe_bl)) pss_nil) (pss_one (ps_ret (pe_cmpR op_eq (pe_m1 PySem.F.slot_str_strip PySem.F.type_str_strip mt_stripChars (pe_m1 PySem.F.slot_str_join PySem.F.type_str_join (mtJoin K) pe_str (pv 0)) pe_str) pe_str (nomark _)))))), ?_⟩
    refine ⟨_, rfl, _, _, _, _, _, rfl, .ty "tuple", dp_ty hd, kit_tup d, _, rfl, ?_⟩
    cases d with
    | tuple xs =>
      cases hd with
      | @tup a ws _ hT hA =>
        obtain ⟨hl, n', rfl, hx⟩ := gd_tup hg
        have hwl := dp_all_len hA
        refine ⟨_, rfl, a, ws, rfl, .inr hT, _, rfl, rfl, _, rfl, ?_⟩
        by_cases c : (ws.length : Int) = many
        · rw [decide_eq_true (show V.int (ws.length : Int) = V.int many by rw [c])]
          -- all([isinstance(row, str) and len(row) == m for row in value])
          refine ⟨_, rfl, a, rfl, ⟨_, hT⟩, fun Dl hD => ?_⟩
          refine lc_tup (xs := ws) (fun i H' => Same H H' ∧ H' Dl = some (.lst ((xs.take i).map fun x => V.bl (strLen m x)))) ?_ ?_ ?_ ?_
          · exact ⟨same_new hD, upd_same⟩
          · rintro i H' _ ⟨s1, _⟩
            exact same_sqt s1 hT
          · rintro i x H' hxi ⟨s1, e1⟩
            obtain ⟨d, hdi, hdx⟩ := dp_all_get hA hxi
            have hdx' := dp_same s1 d hdx
            have hgd := hx d (List.mem_of_getElem? hdi)
            have hi : i < xs.length := (List.getElem?_eq_some_iff.mp hdi).1
            have fin : ∀ b : Bool, strLen m d = b → ∃ acc, H' Dl = some (.lst acc) ∧ acc.length < sizeLine ∧ (Same H (upd H' Dl (.lst (acc ++ [.bl b]))) ∧ upd H' Dl (.lst (acc ++ [.bl b])) Dl = some (.lst ((xs.take (i + 1)).map fun x => V.bl (strLen m x)))) := by
              intro b hb
              refine ⟨_, e1, ?_, fun p o e => ?_, ?_⟩
              · rw [List.length_map, List.length_take]
                exact Nat.lt_of_lt_of_le (show min i xs.length < 10000 by omega) (by decide)
              · rw [upd_ne (ne_of_none e hD)]
                exact s1 p o e
              · rw [upd_same, List.take_add_one, hdi, List.map_append]
                show _ = some (HO.lst (_ ++ [V.bl (strLen m d)]))
                rw [hb]
            refine ⟨rfl, ?_⟩
            refine ⟨_, rfl, _, _, _, _, _, rfl, .ty "str", dp_ty hdx', kit_str d, _, rfl, ?_⟩
            cases d with
            | str z =>
              cases hdx'
              have hz := (gd_str hgd).2
              refine ⟨_, rfl, z, rfl, ?_, _, rfl, rfl, ?_⟩
              · rw [sizeLine_eq]
                omega
              · refine fin _ ?_
                show decide ((z.length : Int) = m) = decide (V.int (z.length : Int) = V.int m)
                by_cases c : (z.length : Int) = m
                · rw [decide_eq_true c, decide_eq_true (congrArg V.int c)]
                · rw [decide_eq_false c, decide_eq_false fun z => c (V.int.inj z)]
            | none => exact fin false rfl
            | bool b => exact fin false rfl
            | int b => exact fin false rfl
            | list b => exact fin false rfl
            | tuple b => exact fin false rfl
            | dict b => exact fin false rfl
          · rintro H' ⟨s1, e1⟩
            have et : (xs.take ws.length).map (fun x => V.bl (strLen m x)) = ((xs.map (strLen m)).map V.bl) := by
              rw [List.take_of_length_le (by omega), List.map_map]
              rfl
            rw [et] at e1
            refine ⟨Dl, _, rfl, .inl (.inl e1), _, rfl, ?_⟩
            have ea : (xs.map (strLen m)).all id = xs.all (strLen m) := by
              rw [List.all_map]
              rfl
            rw [ea]
            cases hc : xs.all (strLen m) with
            | false =>
              have e : rowsOk (.tuple xs) many m = false := by
                show (decide _ && xs.all (bitRow m)) = false
                rw [not_all hc, Bool.and_false]
              have q' := q H' s1
              rw [e] at q'
              exact q'
            | true =>
              obtain ⟨ys, rfl, hy⟩ := all_rows hc
              have ew := dp_strs hA
              subst ew
              have hm0 : ∃ k : Nat, ys = [] ∨ m = (k : Int) := by
                cases ys with
                | nil => exact ⟨0, .inl rfl⟩
                | cons y ys => exact ⟨y.length, .inr (hy y List.mem_cons_self).symm⟩
              have hsum : (ys.map (·.length)).sum ≤ 4096 * 40 := by
                obtain ⟨k, rfl | rfl⟩ := hm0
                · simp
                · rw [sum_len hy]
                  have h1 : ys.length ≤ 4096 := by
                    rw [List.length_map] at c
                    omega
                  have h2 : k ≤ 40 := by omega
                  exact Nat.mul_le_mul h1 h2
              refine ⟨⟨_, rfl⟩, _, rfl, "", a, ys, rfl, rfl, .inr (same_sqt s1 hT), ?_, ⟨_, rfl⟩, _, _, rfl, rfl, ?_, rfl, ?_⟩
              · show _ + _ * 0 ≤ _
                omega
              · have hj : (Txt.join "" ys).length = (ys.map (·.length)).sum := by
                  show (Txt.join "" ys).cps.size = _
                  rw [← Array.length_toList, join_all, List.length_flatten, List.map_map]
                  congr 1
                rw [hj, sizeLine_eq]
                omega
              · rw [strip_all, ← all_bits hy]
                have e : rowsOk (.tuple (ys.map PyData.str)) many m = (ys.map PyData.str).all (bitRow m) := by
                  show (decide (((ys.map PyData.str).length : Int) = many) && _) = _
                  rw [decide_eq_true (by rw [List.length_map] at c ⊢; exact c), Bool.true_and]
                have q' := q H' s1
                rw [e] at q'
                exact q'
        · rw [decide_eq_false (show ¬ V.int (ws.length : Int) = V.int many from fun z => c (V.int.inj z))]
          have e : rowsOk (.tuple xs) many m = false := by
            show (decide ((xs.length : Int) = many) && _) = false
            rw [decide_eq_false (by rw [← hwl]; exact c), Bool.false_and]
          have q' := q H (Same.refl H)
          rw [e] at q'
          exact q'
    | bool b => exact q H (Same.refl H)
    | none => exact q H (Same.refl H)
    | int x => exact q H (Same.refl H)
    | str x => exact q H (Same.refl H)
    | list xs => exact q H (Same.refl H)
    | dict xs => exact q H (Same.refl H)

theorem ok_gen {f : Addr} {fd : FuncData} (D : Df K mg "is_generator" s_is_generator ["value"] f fd) (T : Txt K w mg cs) (c_is_whole : Cl P w K mg base CX0 1 "is_whole" (spWhole K)) (c_are_rows : Cl P w K mg base CX0 1 "are_rows" (spRows K)) : FnOk P w K mg base CX0 2 f fd ["value"] (spD K genOk) := by
  refine D.fn.ok sc_is_generator (fun vs H Q E h => ?_) (fun cdv A outer s H vs Q E hr h => ?_)
  · obtain ⟨v, d, n, rfl, _⟩ := h
    rfl
  · obtain ⟨v, d, n, rfl, hd, hg, q⟩ := h
    refine ⟨_, (pss_cons (ps_if (PW.pt (pw_or (pt_not (pt_val (pe_callB (isiK K) (by rfl) T.n_isinstance (by decide +kernel) (pa_cons (pv 0) (pa_cons (pe_ty "tuple" (by rfl) T.n_tuple (by decide +kernel)) pa_nil))))) (pw_or1 (pt_cmpR op_ne (pe_callB (lenS K) (by rfl) T.n_len (by decide +kernel) (pa_cons (pv 0) pa_nil)) pe_int (nomark _))))) (pss_one (ps_ret pe_bl)) pss_nil) (pss_cons (ps_asg (pv 0) (pg_tup (by rfl) (pgs_cons (pg_name (i := 1) sc_is_generator.nd rfl (.inl rfl)) (pgs_cons (pg_name (i := 2) sc_is_generator.nd rfl (.inl rfl)) (pgs_cons (pg_name (i := 3) sc_is_generator.nd rfl (.inl rfl)) (pgs_cons (pg_name (i := 4) sc_is_generator.nd rfl (.inl rfl)) pgs_nil)))))) (pss_cons (ps_if (PW.pt (pw_or (pt_cmpR (op_neF K hr.units) (pv 1) pe_str (nomark _)) (pw_or (pt_not (pt_val (pe_cl c_is_whole hr (by first | decide | omega) (by rfl) (pa_cons (pv 2) (pa_cons pe_int (pa_cons pe_int pa_nil)))))) (pw_or1 (pt_not (pt_val (pe_cl c_is_whole hr (by first | decide | omega) (by rfl) (pa_cons (pv 3) (pa_cons pe_int (pa_cons (C8.pe_gc (by rfl) T.g_MOST_BITS) pa_nil)))))))))) (pss_one (ps_ret pe_bl)) pss_nil) (pss_one (ps_ret (pe_cl c_are_rows hr (by first | decide | omega) (by rfl) (pa_cons (pv 4) (pa_cons (pe_op op_shl pe_int (pv 2)) (pa_cons (pv 3) pa_nil))))))))), ?_⟩
    refine ⟨_, rfl, _, _, _, _, _, rfl, .ty "tuple", dp_ty hd, kit_tup d, _, rfl, ?_⟩
    cases d with
    | tuple xs =>
      cases hd with
      | @tup a ws _ hT hA =>
        obtain ⟨hl, n', rfl, hx⟩ := gd_tup hg
        have hwl := dp_all_len hA
        refine ⟨_, rfl, a, ws, rfl, .inr hT, rfl, _, rfl, ?_⟩
        by_cases c : ws.length = 4
        · obtain ⟨v0, v1, v2, v3, k, n, m, r, rfl, rfl, h0, h1, h2, h3⟩ := dp4 hA c
          rw [decide_eq_true (show V.int (([v0, v1, v2, v3].length : Nat) : Int) = V.int 4 from rfl)]
          refine ⟨_, rfl, a, _, rfl, hT, rfl, _, _, rfl, _, _, rfl, _, _, rfl, _, _, rfl, rfl, ?_⟩
          have g0 := hx k List.mem_cons_self
          have g3 := hx r (List.mem_cons_of_mem _ (List.mem_cons_of_mem _ (List.mem_cons_of_mem _ List.mem_cons_self)))
          rw [gen_eq] at q
          -- kind != 'generator'
          refine ⟨_, rfl, k, .str "generator", h0, .str _, gd_lay g0, str_lay _, str_dep _, _, rfl, ?_⟩
          rw [name_ne]
          cases ck : named "generator" k with
          | false =>
            rw [ck] at q
            exact q H (Same.refl H)
          | true =>
            rw [ck] at q
            refine ⟨_, rfl, v1, n, 1, 10, rfl, h1, _, rfl, ?_⟩
            cases cn : whole n 1 10 with
            | false =>
              rw [cn] at q
              exact q H (Same.refl H)
            | true =>
              rw [cn] at q
              refine ⟨_, rfl, v2, m, 1, 40, rfl, h2, _, rfl, ?_⟩
              cases cm : whole m 1 40 with
              | false =>
                rw [cm] at q
                exact q H (Same.refl H)
              | true =>
                rw [cm] at q
                obtain ⟨n, rfl, n1, n2⟩ := whole_int cn
                obtain ⟨m, rfl, m1, m2⟩ := whole_int cm
                cases h1
                cases h2
                refine ⟨_, rfl, _, rfl, _, _, rfl, rfl, ⟨by omega, by omega, by decide⟩, _, rfl, v3, r, _, _, _, rfl, h3, g3, ?_, m2, fun H' s' => q H' s'⟩
                exact Int.le_trans (pow_le (b := 10) n1 n2) (by decide)
        · have hne : ((ws.length : Nat) : Int) ≠ 4 := by omega
          rw [decide_eq_false (show ¬ V.int (ws.length : Int) = V.int 4 from fun z => hne (V.int.inj z))]
          have e := gen_no (xs := xs) (by omega)
          have q' := q H (Same.refl H)
          rw [e] at q'
          exact q'
    | bool b => exact q H (Same.refl H)
    | none => exact q H (Same.refl H)
    | int x => exact q H (Same.refl H)
    | str x => exact q H (Same.refl H)
    | list xs => exact q H (Same.refl H)
    | dict xs => exact q H (Same.refl H)

def numsZip (ds : List PyData) (bs : List (Int × Int)) : List Bool := List.zipWith (fun d b => whole d b.1 b.2) ds bs
theorem nums_zip : ∀ {ds : List PyData} {bs : List (Int × Int)}, ds.length = bs.length → numsOk ds bs = (numsZip ds bs).all id
  | [], [], _ => rfl
  | [], _ :: _, h => by cases h
  | _ :: _, [], h => by cases h
  | d :: ds, b :: bs, h => by
    show (whole d b.1 b.2 && numsOk ds bs) = (whole d b.1 b.2 && (numsZip ds bs).all id)
    rw [nums_zip (Nat.succ.inj h)]
theorem pairs_at {K : PySem.W.Frag} {H : Hp} {vs : List V} {bs : List (Int × Int)} {i : Nat} {v : V} (h : DpAll K H vs (bs.map pairD)) (e : vs[i]? = some v) : ∃ b a, bs[i]? = some b ∧ v = .ref a ∧ SqT K H a [.int b.1, .int b.2] := by
  obtain ⟨d, h1, h2⟩ := dp_all_get h e
  rw [List.getElem?_map] at h1
  cases hb : bs[i]? with
  | none =>
    rw [hb] at h1
    cases h1
  | some b =>
    rw [hb] at h1
    have h3 := Option.some.inj h1
    subst h3
    cases h2 with
    | tup hs ha =>
      cases ha with
      | cons h4 h5 =>
        cases h5 with
        | cons h6 h7 =>
          cases h7
          cases h4
          cases h6
          exact ⟨b, _, rfl, rfl, hs⟩
theorem ok_numbers {f : Addr} {fd : FuncData} (D : Df K mg "are_numbers" s_are_numbers ["own", "bounds"] f fd) (T : Txt K w mg cs) (c_is_whole : Cl P w K mg base CX0 1 "is_whole" (spWhole K)) : FnOk P w K mg base CX0 2 f fd ["own", "bounds"] (spNums K) := by
  refine D.fn.ok sc_are_numbers (fun vs H Q E h => ?_) (fun cdv A outer s H vs Q E hr h => ?_)
  · obtain ⟨v, y, ds, bs, n, rfl, _⟩ := h
    rfl
  · obtain ⟨v, y, ds, bs, n, rfl, hv, hg, hy, hbl, q⟩ := h
    refine ⟨_, (pss_cons (ps_if (pt_cmpR op_ne (pe_callB (lenS K) (by rfl) T.n_len (by decide +kernel) (pa_cons (pv 0) pa_nil)) (pe_callB (lenS K) (by rfl) T.n_len (by decide +kernel) (pa_cons (pv 1) pa_nil)) (nomark _)) (pss_one (ps_ret pe_bl)) pss_nil) (pss_one (ps_ret (pe_callB (crAll K rfl) (by rfl) T.n_all (by decide +kernel) (pa_cons (pe_lc (own := [("value", 2), ("low", 3), ("high", 4)]) (g := (gTup K 2 (gCons (gName 2) (gCons (gTup K 2 (gCons (gName 3) (gCons (gName 4) gNil))) gNil)))) (tt := tYes) rfl sc_are_numbers.nd (RZ.pi_zipA (by rfl) T.n_zip (pa_cons (pv 0) (pa_cons (pv 1) pa_nil))) (blkOk_by (own := [("value", 2), ("low", 3), ("high", 4)]) (N := ["own", "bounds", "value", "low", "high"]) (sc := defScope s_are_numbers) (by decide +kernel)) (fun _ _ _ _ _ => (pg_tup (by rfl) (pgs_cons (pg_name (i := 2) sc_are_numbers.nd rfl (.inl rfl)) (pgs_cons (pg_tup (by rfl) (pgs_cons (pg_name (i := 3) sc_are_numbers.nd rfl (.inl rfl)) (pgs_cons (pg_name (i := 4) sc_are_numbers.nd rfl (.inl rfl)) pgs_nil))) pgs_nil)))) (fun _ _ _ _ _ => pts_nil) (fun _ _ _ _ _ => (pe_cl c_is_whole hr (by first | decide | omega) (by rfl) (pa_cons (pv 2) (pa_cons (pv 3) (pa_cons (pv 4) pa_nil)))))) pa_nil))))), ?_⟩
    cases hv with
    | @tup a ws _ hT hA =>
    cases hy with
    | @tup b zs _ hS hB =>
    obtain ⟨hl, n', rfl, hx⟩ := gd_tup hg
    have hwl := dp_all_len hA
    have hzl := dp_all_len hB
    rw [List.length_map] at hzl
    refine ⟨_, rfl, a, ws, rfl, .inr hT, _, rfl, b, zs, rfl, .inr hS, rfl, _, rfl, ?_⟩
    by_cases c : ws.length = zs.length
    · rw [decide_eq_true (show V.int ((ws.length : Nat) : Int) = V.int ((zs.length : Nat) : Int) from congrArg V.int (by omega))]
      refine ⟨_, rfl, _, rfl, a, b, ws, zs, rfl, .inr ⟨hT, hS, fun Dl hD => ?_⟩⟩
      refine lc_it (walk_zipT (n := ws.length) rfl c.symm) (fun i H' => Same H H' ∧ H' Dl = some (.lst (((numsZip ds bs).take i).map V.bl))) ?_ ?_ ?_ ?_
      · exact ⟨same_new hD, upd_same⟩
      · rintro i H' _ ⟨s1, _⟩
        exact ⟨same_sqt s1 hT, same_sqt s1 hS⟩
      · rintro i x H' H2 hi ⟨s1, e1⟩ ⟨t, x1, x2, rfl, nt, rfl, hx1, hx2⟩
        have s2 := s1.trans (same_new (o := .tup [x1, x2]) nt)
        obtain ⟨d, hdi, hdx⟩ := dp_all_get hA hx1
        obtain ⟨bb, pa, hbi, rfl, hpa⟩ := pairs_at hB hx2
        refine ⟨t, [x1, .ref pa], rfl, .inl (.inl upd_same), rfl, x1, _, rfl, .ref pa, _, rfl, ?_⟩
        refine ⟨pa, _, rfl, same_sqt s2 hpa, rfl, _, _, rfl, _, _, rfl, rfl, rfl, rfl, ?_⟩
        refine ⟨_, rfl, _, rfl, _, rfl, x1, d, bb.1, bb.2, rfl, dp_same s2 d hdx, ?_⟩
        have e2 : upd H' t (.tup [x1, .ref pa]) Dl = some (.lst (((numsZip ds bs).take i).map V.bl)) := by
          rw [upd_ne (ne_of_none e1 nt)]
          exact e1
        refine ⟨_, e2, ?_, fun p o e => ?_, ?_⟩
        · rw [List.length_map, List.length_take]
          exact Nat.lt_of_lt_of_le (show min i (numsZip ds bs).length < 10000 by omega) (by decide)
        · rw [upd_ne (ne_of_none e hD)]
          exact s2 p o e
        · rw [upd_same, List.take_add_one]
          have ez : (numsZip ds bs)[i]? = some (whole d bb.1 bb.2) := by
            unfold numsZip
            rw [List.getElem?_zipWith, hdi, hbi]
          rw [ez, List.map_append]
          rfl
      · rintro H' ⟨s1, e1⟩
        have hzn : (numsZip ds bs).length = ws.length := by
          unfold numsZip
          rw [List.length_zipWith]
          omega
        rw [List.take_of_length_le (by omega)] at e1
        refine ⟨Dl, _, rfl, .inl (.inl e1), ?_⟩
        rw [← nums_zip (by omega)]
        exact q H' s1
    · rw [decide_eq_false (show ¬ V.int ((ws.length : Nat) : Int) = V.int ((zs.length : Nat) : Int) from fun z => c (by have := V.int.inj z; omega))]
      have q' := q H (Same.refl H)
      rw [nums_len (by omega)] at q'
      exact q'

theorem ok_longerF {f : Addr} {fd : FuncData} (D : Df K mg "fits_longer" s_fits_longer ["own"] f fd) (T : Txt K w mg cs) (c_is_whole : Cl P w K mg base CX0 1 "is_whole" (spWhole K)) (c_is_generator : Cl P w K mg base CX0 2 "is_generator" (spD K genOk)) : FnOk P w K mg base CX0 3 f fd ["own"] (spOwn K fitLonger) := by
  refine D.fn.ok sc_fits_longer (fun vs H Q E h => ?_) (fun cdv A outer s H vs Q E hr h => ?_)
  · obtain ⟨v, ds, n, rfl, _⟩ := h
    rfl
  · obtain ⟨v, ds, n, rfl, hv, hg, q⟩ := h
    refine ⟨_, (pss_cons (ps_if (PW.pt (pw_or (pt_cmpR op_ne (pe_callB (lenS K) (by rfl) T.n_len (by decide +kernel) (pa_cons (pv 0) pa_nil)) pe_int (nomark _)) (pw_or1 (pt_not (pt_val (pe_cl c_is_generator hr (by first | decide | omega) (by rfl) (pa_cons (pe_ix (ixT K) (pv 0) pe_int (fun _ _ => rfl)) pa_nil))))))) (pss_one (ps_ret pe_bl)) pss_nil) (pss_cons (ps_asg (pe_slice (slTA K) (pe_ix (ixT K) (pv 0) pe_int (fun _ _ => rfl)) (po_some pe_int) (po_some pe_int)) (pg_tup (by rfl) (pgs_cons (pg_name (i := 1) sc_fits_longer.nd rfl (.inl rfl)) (pgs_cons (pg_name (i := 2) sc_fits_longer.nd rfl (.inl rfl)) pgs_nil)))) (pss_one (ps_ret (pe_and (pe_cmpR op_eq (pv 2) (pe_op op_add (pv 1) pe_int) (nomark _)) (pe_one (pe_cl c_is_whole hr (by first | decide | omega) (by rfl) (pa_cons (pe_ix (ixT K) (pv 0) pe_int (fun _ _ => rfl)) (pa_cons pe_int (pa_cons pe_int pa_nil)))))))))), ?_⟩
    cases hv with
    | @tup a ws _ hT hA =>
    obtain ⟨hl, n', rfl, hx⟩ := gd_tup hg
    have hwl := dp_all_len hA
    refine ⟨_, rfl, a, ws, rfl, .inr hT, rfl, _, rfl, ?_⟩
    by_cases c : ws.length = 2
    · obtain ⟨vg, vk, g, k, rfl, rfl, h0, h1⟩ := dp2 hA c
      have g0 := hx g List.mem_cons_self
      rw [decide_eq_true (show V.int (([vg, vk].length : Nat) : Int) = V.int 2 from rfl)]
      refine ⟨_, rfl, a, _, 0, vg, rfl, rfl, hT, rfl, vg, g, n', rfl, h0, g0, fun H1 s1 => ⟨_, rfl, ?_⟩⟩
      have ef : fitLonger [g, k] = (genOk g && (genNext g && whole k 1 20)) := rfl
      cases eg : genOk g with
      | false =>
        rw [ef, eg] at q
        exact q H1 s1
      | true =>
        obtain ⟨kk, r, n, m, rfl, b1, b2, b3, b4⟩ := gen_parts eg
        rw [ef, eg] at q
        cases h0 with
        | @tup ga gs _ gT gA =>
        obtain ⟨v0, v1, v2, v3, d0, d1, d2, d3, rfl, e4, p0, p1, p2, p3⟩ := dp4 gA (dp_all_len gA)
        cases e4
        cases p1
        cases p2
        refine ⟨_, rfl, a, _, 0, .ref ga, rfl, rfl, same_sqt s1 hT, rfl, 1, rfl, 3, rfl, slA_any (same_sqt s1 gT) fun p H2 s2 hc => ?_⟩
        have s12 := s1.trans s2
        refine ⟨p, [.int n, .int m], rfl, hc, rfl, _, _, rfl, _, _, rfl, rfl, ?_⟩
        refine ⟨_, rfl, _, rfl, _, _, rfl, rfl, rfl, _, rfl, ?_⟩
        have q' := fun H' (s' : Same H2 H') => q H' (s12.trans s')
        by_cases cm : m = n + 1
        · rw [decide_eq_true (congrArg V.int cm)]
          refine ⟨_, rfl, a, _, 1, vk, rfl, rfl, same_sqt s12 hT, rfl, vk, k, 1, 20, rfl, dp_same s12 k h1, ?_⟩
          have := q' H2 (Same.refl H2)
          rw [show genNext (.tuple [kk, .int n, .int m, r]) = decide (m = n + 1) from rfl, decide_eq_true cm] at this
          exact this
        · rw [decide_eq_false (fun z => cm (V.int.inj z))]
          have := q' H2 (Same.refl H2)
          rw [show genNext (.tuple [kk, .int n, .int m, r]) = decide (m = n + 1) from rfl, decide_eq_false cm] at this
          exact this
    · have hne : ((ws.length : Nat) : Int) ≠ 2 := by omega
      rw [decide_eq_false (show ¬ V.int (ws.length : Int) = V.int 2 from fun z => hne (V.int.inj z))]
      have q' := q H (Same.refl H)
      rw [fitLonger_no (by omega)] at q'
      exact q'
theorem ok_treeF {f : Addr} {fd : FuncData} (D : Df K mg "fits_tree" s_fits_tree ["own"] f fd) (T : Txt K w mg cs) (c_is_whole : Cl P w K mg base CX0 1 "is_whole" (spWhole K)) (c_is_generator : Cl P w K mg base CX0 2 "is_generator" (spD K genOk)) : FnOk P w K mg base CX0 3 f fd ["own"] (spOwn K fitTree) := by
  refine D.fn.ok sc_fits_tree (fun vs H Q E h => ?_) (fun cdv A outer s H vs Q E hr h => ?_)
  · obtain ⟨v, ds, n, rfl, _⟩ := h
    rfl
  · obtain ⟨v, ds, n, rfl, hv, hg, q⟩ := h
    refine ⟨_, (pss_cons (ps_if (PW.pt (pw_or (pt_cmpR op_ne (pe_callB (lenS K) (by rfl) T.n_len (by decide +kernel) (pa_cons (pv 0) pa_nil)) pe_int (nomark _)) (pw_or1 (pt_not (pt_val (pe_cl c_is_generator hr (by first | decide | omega) (by rfl) (pa_cons (pe_ix (ixT K) (pv 0) pe_int (fun _ _ => rfl)) pa_nil))))))) (pss_one (ps_ret pe_bl)) pss_nil) (pss_cons (ps_asg (pe_slice (slTA K) (pe_ix (ixT K) (pv 0) pe_int (fun _ _ => rfl)) (po_some pe_int) (po_some pe_int)) (pg_tup (by rfl) (pgs_cons (pg_name (i := 1) sc_fits_tree.nd rfl (.inl rfl)) (pgs_cons (pg_name (i := 2) sc_fits_tree.nd rfl (.inl rfl)) pgs_nil)))) (pss_one (ps_ret (pe_and (pe_cmpR op_eq (pv 2) (pe_op op_mul pe_int (pv 1)) (nomark _)) (pe_and (pe_cmpR op_le (pv 1) pe_int (nomark _)) (pe_and (pe_cl c_is_whole hr (by first | decide | omega) (by rfl) (pa_cons (pe_ix (ixT K) (pv 0) pe_int (fun _ _ => rfl)) (pa_cons pe_int (pa_cons (pe_callB (call_min2 rfl) (by rfl) T.n_min (by decide +kernel) (pa_cons pe_int (pa_cons (pe_op op_sub pe_int (pv 1)) pa_nil))) pa_nil)))) (pe_one (pe_cl c_is_whole hr (by first | decide | omega) (by rfl) (pa_cons (pe_ix (ixT K) (pv 0) pe_int (fun _ _ => rfl)) (pa_cons pe_int (pa_cons pe_int pa_nil)))))))))))), ?_⟩
    cases hv with
    | @tup a ws _ hT hA =>
    obtain ⟨hl, n', rfl, hx⟩ := gd_tup hg
    have hwl := dp_all_len hA
    refine ⟨_, rfl, a, ws, rfl, .inr hT, rfl, _, rfl, ?_⟩
    by_cases c : ws.length = 3
    · obtain ⟨vg, vd, vq, g, dd, dq, rfl, rfl, h0, h1, h2⟩ := dp3 hA c
      have g0 := hx g List.mem_cons_self
      rw [decide_eq_true (show V.int (([vg, vd, vq].length : Nat) : Int) = V.int 3 from rfl)]
      refine ⟨_, rfl, a, _, 0, vg, rfl, rfl, hT, rfl, vg, g, n', rfl, h0, g0, fun H1 s1 => ⟨_, rfl, ?_⟩⟩
      have ef : fitTree [g, dd, dq] = (genOk g && genTwice dd dq g) := rfl
      cases eg : genOk g with
      | false =>
        rw [ef, eg] at q
        exact q H1 s1
      | true =>
        obtain ⟨kk, r, n, m, rfl, b1, b2, b3, b4⟩ := gen_parts eg
        rw [ef, eg] at q
        cases h0 with
        | @tup ga gs _ gT gA =>
        obtain ⟨v0, v1, v2, v3, d0, d1, d2, d3, rfl, e4, p0, p1, p2, p3⟩ := dp4 gA (dp_all_len gA)
        cases e4
        cases p1
        cases p2
        refine ⟨_, rfl, a, _, 0, .ref ga, rfl, rfl, same_sqt s1 hT, rfl, 1, rfl, 3, rfl, slA_any (same_sqt s1 gT) fun p H2 s2 hc => ?_⟩
        have s12 := s1.trans s2
        refine ⟨p, [.int n, .int m], rfl, hc, rfl, _, _, rfl, _, _, rfl, rfl, ?_⟩
        have q' := q H2 s12
        rw [show genTwice dd dq (.tuple [kk, .int n, .int m, r]) = (decide (m = 2 * n) && (decide (n ≤ 8) && (whole dd 1 (if 12 - n < 8 then 12 - n else 8) && whole dq 1 1000))) from rfl] at q'
        refine ⟨_, rfl, _, rfl, _, _, rfl, rfl, .inl ⟨by decide, by decide⟩, rfl, _, rfl, ?_⟩
        by_cases cm : m = 2 * n
        · rw [decide_eq_true (congrArg V.int cm)]
          rw [decide_eq_true cm] at q'
          refine ⟨_, rfl, _, _, rfl, rfl, _, rfl, ?_⟩
          by_cases cn : n ≤ 8
          · rw [decide_eq_true cn] at q' ⊢
            refine ⟨_, rfl, a, _, 1, vd, rfl, rfl, same_sqt s12 hT, rfl, _, rfl, _, _, rfl, rfl, _, _, rfl, vd, dd, 1, _, rfl, dp_same s12 dd h1, _, rfl, ?_⟩
            cases cw : whole dd 1 (if 12 - n < 8 then 12 - n else 8) with
            | false =>
              rw [cw] at q'
              exact q'
            | true =>
              rw [cw] at q'
              exact ⟨_, rfl, a, _, 2, vq, rfl, rfl, same_sqt s12 hT, rfl, vq, dq, 1, 1000, rfl, dp_same s12 dq h2, q'⟩
          · rw [decide_eq_false cn] at q' ⊢
            exact q'
        · rw [decide_eq_false (fun z => cm (V.int.inj z))]
          rw [decide_eq_false cm] at q'
          exact q'
    · have hne : ((ws.length : Nat) : Int) ≠ 3 := by omega
      rw [decide_eq_false (show ¬ V.int (ws.length : Int) = V.int 3 from fun z => hne (V.int.inj z))]
      have q' := q H (Same.refl H)
      rw [fitTree_no (by omega)] at q'
      exact q'
theorem ok_onetimeF {f : Addr} {fd : FuncData} (D : Df K mg "fits_onetime" s_fits_onetime ["own"] f fd) (T : Txt K w mg cs) (c_is_whole : Cl P w K mg base CX0 1 "is_whole" (spWhole K)) (c_is_generator : Cl P w K mg base CX0 2 "is_generator" (spD K genOk)) : FnOk P w K mg base CX0 3 f fd ["own"] (spOwn K fitOnetime) := by
  refine D.fn.ok sc_fits_onetime (fun vs H Q E h => ?_) (fun cdv A outer s H vs Q E hr h => ?_)
  · obtain ⟨v, ds, n, rfl, _⟩ := h
    rfl
  · obtain ⟨v, ds, n, rfl, hv, hg, q⟩ := h
    refine ⟨_, (pss_one (ps_ret (pe_and (pe_cmpR op_eq (pe_callB (lenS K) (by rfl) T.n_len (by decide +kernel) (pa_cons (pv 0) pa_nil)) pe_int (nomark _)) (pe_and (pe_cl c_is_generator hr (by first | decide | omega) (by rfl) (pa_cons (pe_ix (ixT K) (pv 0) pe_int (fun _ _ => rfl)) pa_nil)) (pe_one (pe_cl c_is_whole hr (by first | decide | omega) (by rfl) (pa_cons (pe_ix (ixT K) (pv 0) pe_int (fun _ _ => rfl)) (pa_cons pe_int (pa_cons pe_int pa_nil))))))))), ?_⟩
    cases hv with
    | @tup a ws _ hT hA =>
    obtain ⟨hl, n', rfl, hx⟩ := gd_tup hg
    have hwl := dp_all_len hA
    refine ⟨_, rfl, a, ws, rfl, .inr hT, rfl, _, rfl, ?_⟩
    by_cases c : ws.length = 2
    · obtain ⟨vg, vk, g, k, rfl, rfl, h0, h1⟩ := dp2 hA c
      have g0 := hx g List.mem_cons_self
      rw [decide_eq_true (show V.int (([vg, vk].length : Nat) : Int) = V.int 2 from rfl)]
      refine ⟨_, rfl, a, _, 0, vg, rfl, rfl, hT, rfl, vg, g, n', rfl, h0, g0, fun H1 s1 => ⟨_, rfl, ?_⟩⟩
      have ef : fitOnetime [g, k] = (genOk g && whole k 1 4) := rfl
      cases eg : genOk g with
      | false =>
        rw [ef, eg] at q
        exact q H1 s1
      | true =>
        rw [ef, eg] at q
        exact ⟨_, rfl, a, _, 1, vk, rfl, rfl, same_sqt s1 hT, rfl, vk, k, 1, 4, rfl, dp_same s1 k h1, q H1 s1⟩
    · have hne : ((ws.length : Nat) : Int) ≠ 2 := by omega
      rw [decide_eq_false (show ¬ V.int (ws.length : Int) = V.int 2 from fun z => hne (V.int.inj z))]
      have q' := q H (Same.refl H)
      rw [fitOnetime_no (by omega)] at q'
      exact q'
theorem ok_openingF {f : Addr} {fd : FuncData} (D : Df K mg "fits_opening" s_fits_opening ["own"] f fd) (T : Txt K w mg cs) (c_are_rows : Cl P w K mg base CX0 1 "are_rows" (spRows K)) : FnOk P w K mg base CX0 3 f fd ["own"] (spOwn K fitOpening) := by
  refine D.fn.ok sc_fits_opening (fun vs H Q E h => ?_) (fun cdv A outer s H vs Q E hr h => ?_)
  · obtain ⟨v, ds, n, rfl, _⟩ := h
    rfl
  · obtain ⟨v, ds, n, rfl, hv, hg, q⟩ := h
    refine ⟨_, (pss_cons (ps_if (PW.pt (pw_or (pt_cmpR op_ne (pe_callB (lenS K) (by rfl) T.n_len (by decide +kernel) (pa_cons (pv 0) pa_nil)) pe_int (nomark _)) (pw_or1 (pt_not (pt_val (pe_callB (isiK K) (by rfl) T.n_isinstance (by decide +kernel) (pa_cons (pe_ix (ixT K) (pv 0) pe_int (fun _ _ => rfl)) (pa_cons (pe_ty "str" (by rfl) T.n_str (by decide +kernel)) pa_nil)))))))) (pss_one (ps_ret pe_bl)) pss_nil) (pss_one (ps_ret (pe_and (pe_chain op_le op_le pe_int (pe_callB call_len_str (by rfl) T.n_len (by decide +kernel) (pa_cons (pe_ix (ixT K) (pv 0) pe_int (fun _ _ => rfl)) pa_nil)) (C8.pe_gc (by rfl) T.g_MOST_BITS)) (pe_one (pe_cl c_are_rows hr (by first | decide | omega) (by rfl) (pa_cons (pv 0) (pa_cons pe_int (pa_cons (pe_callB call_len_str (by rfl) T.n_len (by decide +kernel) (pa_cons (pe_ix (ixT K) (pv 0) pe_int (fun _ _ => rfl)) pa_nil)) pa_nil))))))))), ?_⟩
    have hv0 := hv
    cases hv with
    | @tup a ws _ hT hA =>
    obtain ⟨hl, n', rfl, hx⟩ := gd_tup hg
    have hwl := dp_all_len hA
    refine ⟨_, rfl, a, ws, rfl, .inr hT, rfl, _, rfl, ?_⟩
    by_cases c : ws.length = 1
    · obtain ⟨vx, x, rfl, rfl, h0⟩ := dp1 hA c
      have g0 := hx x List.mem_cons_self
      rw [decide_eq_true (show V.int (([vx].length : Nat) : Int) = V.int 1 from rfl)]
      refine ⟨_, rfl, a, _, 0, vx, rfl, rfl, hT, rfl, _, _, _, _, _, rfl, .ty "str", dp_ty h0, kit_str x, _, rfl, ?_⟩
      have q0 := q H (Same.refl H)
      cases x with
      | str z =>
        cases h0
        have hz := (gd_str g0).2
        refine ⟨_, rfl, a, _, 0, .str z, rfl, rfl, hT, rfl, z, rfl, by rw [sizeLine_eq]; omega, _, _, rfl, rfl, _, rfl, ?_⟩
        have ef : fitOpening [.str z] = (decide ((1 : Int) ≤ (z.length : Int)) && (decide ((z.length : Int) ≤ 40) && rowsOk (.tuple [.str z]) 1 (z.length : Int))) := rfl
        rw [ef] at q0 q
        by_cases c1 : (1 : Int) ≤ (z.length : Int)
        · rw [decide_eq_true c1] at q0 q ⊢
          refine ⟨_, _, rfl, rfl, _, rfl, ?_⟩
          by_cases c2 : (z.length : Int) ≤ 40
          · rw [decide_eq_true c2] at q0 q ⊢
            exact ⟨_, rfl, _, rfl, a, _, 0, .str z, rfl, rfl, hT, rfl, z, rfl, by rw [sizeLine_eq]; omega, _, _, _, _, _, rfl, hv0, hg, by decide, c2, q⟩
          · rw [decide_eq_false c2] at q0 ⊢
            exact q0
        · rw [decide_eq_false c1] at q0 ⊢
          exact ⟨_, rfl, q0⟩
      | none => exact q0
      | bool b => exact q0
      | int b => exact q0
      | tuple b => exact q0
      | list b => exact q0
      | dict b => exact q0
    · have hne : ((ws.length : Nat) : Int) ≠ 1 := by omega
      rw [decide_eq_false (show ¬ V.int (ws.length : Int) = V.int 1 from fun z => hne (V.int.inj z))]
      have q' := q H (Same.refl H)
      rw [fitOpening_no (by omega)] at q'
      exact q'

theorem at_zero {v : V} {vs : List V} : atI (v :: vs) 0 = some v := atI_nat (j := 0) rfl
theorem dp_nil {K : PySem.W.Frag} {H : Hp} {p : Addr} (e : H p = some (.tup [])) : Dp K H (.ref p) (.tuple []) := .tup (.inl (.inl e)) .nil
theorem ok_made {f : Addr} {fd : FuncData} (D : Df K mg "is_made" s_is_made ["value"] f fd) (T : Txt K w mg cs) : FnOk P w K mg base CX0 1 f fd ["value"] (spD K madeD) := by
  refine D.fn.ok sc_is_made (fun vs H Q E h => ?_) (fun cdv A outer s H vs Q E hr h => ?_)
  · obtain ⟨v, d, n, rfl, _⟩ := h
    rfl
  · obtain ⟨v, d, n, rfl, hd, hg, q⟩ := h
    refine ⟨_, (pss_cons (ps_if (PW.pt (pw_or (pt_not (pt_val (pe_callB (isiK K) (by rfl) T.n_isinstance (by decide +kernel) (pa_cons (pv 0) (pa_cons (pe_ty "tuple" (by rfl) T.n_tuple (by decide +kernel)) pa_nil))))) (pw_or (pt_cmpR (op_eqF K hr.units) (pv 0) (pe_tup pa_nil) (nomark _)) (pw_or1 (pt_not (pt_val (pe_callB (isiK K) (by rfl) T.n_isinstance (by decide +kernel) (pa_cons (pe_ix (ixT K) (pv 0) pe_int (fun _ _ => rfl)) (pa_cons (pe_ty "str" (by rfl) T.n_str (by decide +kernel)) pa_nil))))))))) (pss_one (ps_ret pe_bl)) pss_nil) (pss_one (ps_ret (pe_or (pe_cmpR (in_dk T.dk_NUMBERS) (pe_ix (ixT K) (pv 0) pe_int (fun _ _ => rfl)) (pe_glob (v := .ref cs.NUMBERS) (by rfl) T.gl_NUMBERS rfl) (by rfl)) (pe_one (pe_cmpR (in_dk T.dk_FITTING) (pe_ix (ixT K) (pv 0) pe_int (fun _ _ => rfl)) (pe_glob (v := .ref cs.FITTING) (by rfl) T.gl_FITTING rfl) (by rfl))))))), ?_⟩
    refine ⟨_, rfl, _, _, _, _, _, rfl, .ty "tuple", dp_ty hd, kit_tup d, _, rfl, ?_⟩
    have q0 := q H (Same.refl H)
    cases d with
    | tuple xs =>
      refine ⟨_, rfl, (by show 0 ≤ sizeLine; exact Nat.zero_le _), fun p np => ?_⟩
      have s1 := same_new (o := .tup []) np
      refine ⟨_, _, dp_same s1 _ hd, dp_nil upd_same, gd_lay hg, nil_lay, nil_dep, _, rfl, ?_⟩
      generalize upd H p (.tup []) = H1 at s1
      have q1 := q H1 s1
      rw [eqv_nil]
      cases hd with
      | @tup a ws _ hT hA =>
      replace hT := same_sqt s1 hT
      cases xs with
      | nil => exact q1
      | cons x xs =>
        obtain ⟨v0, vs, rfl, h0, _⟩ := dp_cons hA
        replace h0 := dp_same s1 x h0
        refine ⟨_, rfl, a, _, 0, v0, rfl, rfl, hT, at_zero, _, _, _, _, _, rfl, .ty "str", dp_ty h0, kit_str x, _, rfl, ?_⟩
        cases x with
        | str z =>
          cases h0
          refine ⟨_, rfl, a, _, 0, .str z, rfl, rfl, hT, at_zero, z, rfl, rfl, _, rfl, ?_⟩
          replace q1 : Q (.bl (decide (z ∈ numK) || decide (z ∈ fitK))) H1 := q1
          cases c : decide (z ∈ numK) with
          | true =>
            rw [c] at q1
            exact q1
          | false =>
            rw [c] at q1
            exact ⟨_, rfl, a, _, 0, .str z, rfl, rfl, hT, at_zero, z, rfl, rfl, q1⟩
        | none => exact q1
        | bool b => exact q1
        | int b => exact q1
        | tuple b => exact q1
        | list b => exact q1
        | dict b => exact q1
    | none => exact q0
    | bool b => exact q0
    | int b => exact q0
    | str b => exact q0
    | list b => exact q0
    | dict b => exact q0
theorem num_has {K : PySem.W.Frag} : HasV (numR K) := fun z u ⟨a, e, _⟩ => ⟨.ref a, e⟩
theorem fit_has {mg : Str → Option Value} : HasV (fitR mg) := fun z u ⟨f, e, _⟩ => ⟨.ref f, e⟩
/-- which of the four fits is meant by a name -/
def fitF (mg : Str → Option Value) (K : PySem.W.Frag) (f : Addr) (sp : Sp) : Prop := (mg "fits_longer" = some (.ref f) ∧ sp = spOwn K fitLonger) ∨ (mg "fits_tree" = some (.ref f) ∧ sp = spOwn K fitTree) ∨ (mg "fits_opening" = some (.ref f) ∧ sp = spOwn K fitOpening) ∨ (mg "fits_onetime" = some (.ref f) ∧ sp = spOwn K fitOnetime)
theorem held_of {k : Nat} {x : Str} {sp : Sp} {f : Addr} (c : Cl P w K mg base CX0 k x sp) (e : mg x = some (.ref f)) : Held P w K mg base k f sp := by
  obtain ⟨g, fd, ps, F, hm, kp, b⟩ := c.ex
  have := Option.some.inj (hm.symm.trans e)
  cases this
  exact ⟨fd, ps, F, kp, b⟩
theorem num_len (z : Str) : (numOf z).length ≤ 100 := by
  have h : ∀ p ∈ numL, p.2.length ≤ 100 := by decide
  unfold numOf
  cases e : numL.find? (fun p => decide (p.1 = z)) with
  | none => exact Nat.zero_le _
  | some p => exact h p (List.mem_of_find?_eq_some e)
def spKind (K : PySem.W.Frag) : Sp := fun vs H Q _ => ∃ (v : V) (z : Str) (r : List PyData) (n : Nat), vs = [v] ∧ Dp K H v (.tuple (.str z :: r)) ∧ Gd n (.tuple (.str z :: r)) ∧ madeZ z = true ∧ ∀ H', Same H H' → Q (.bl (fitZ z r.dropLast)) H'
theorem ok_kind {f : Addr} {fd : FuncData} (D : Df K mg "fits_kind" s_fits_kind ["made"] f fd) (T : Txt K w mg cs) (c_are_numbers : Cl P w K mg base CX0 2 "are_numbers" (spNums K))
    (A_fits : ∀ f sp, fitF mg K f sp → Held P w K mg base 3 f sp) : FnOk P w K mg base CX0 4 f fd ["made"] (spKind K) := by
  refine D.fn.ok sc_fits_kind (fun vs H Q E h => ?_) (fun cdv A outer s H vs Q E hr h => ?_)
  · obtain ⟨v, z, r, n, rfl, _⟩ := h
    rfl
  · obtain ⟨v, z, r, n, rfl, hd, hg, hz, q⟩ := h
    refine ⟨_, (pss_cons (ps_par (i := 1) (j := 2) (by rfl) sc_fits_kind.nd rfl rfl (by decide) rfl rfl (pa_cons (pe_ix (ixT K) (pv 0) pe_int (fun _ _ => rfl)) (pa_cons (pe_slice (slTA K) (pv 0) (po_some pe_int) (po_some (pe_un un_neg pe_int))) pa_nil)) (by rfl)) (pss_cons (ps_if (pt_cmpR (in_dk T.dk_NUMBERS) (pv 1) (pe_glob (v := .ref cs.NUMBERS) (by rfl) T.gl_NUMBERS rfl) (by rfl)) (pss_one (ps_ret (pe_cl c_are_numbers hr (by first | decide | omega) (by rfl) (pa_cons (pv 2) (pa_cons (pe_ix (ix_dk T.dk_NUMBERS) (pe_glob (v := .ref cs.NUMBERS) (by rfl) T.gl_NUMBERS rfl) (pv 1) (fun _ _ => rfl)) pa_nil))))) pss_nil) (pss_cons (ps_set (i := 3) sc_fits_kind.nd rfl (.inl rfl) (pe_ix (ix_dk T.dk_FITTING) (pe_glob (v := .ref cs.FITTING) (by rfl) T.gl_FITTING rfl) (pv 1) (fun _ _ => rfl))) (pss_one (ps_ret (pe_callH (i := 3) A_fits hr (by first | decide | omega) (by rfl) (.inl rfl) (pa_cons (pv 2) pa_nil))))))), ?_⟩
    cases hd with
    | @tup a ws _ hT hA =>
    obtain ⟨v0, vs, rfl, h0, hA'⟩ := dp_cons hA
    cases h0
    obtain ⟨hl, n', rfl, hx⟩ := gd_tup hg
    have gl := gds_last fun x h => hx x (List.mem_cons_of_mem _ h)
    refine ⟨_, rfl, a, _, 0, .str z, rfl, rfl, hT, at_zero, _, rfl, 1, rfl, 1, rfl, -1, rfl, slA_any hT fun p H1 s1 hp => ⟨_, _, rfl, ?_⟩⟩
    rw [cut_mid] at hp
    have hown : Dp K H1 (.ref p) (.tuple r.dropLast) := .tup hp (dps_same s1 _ (dps_last hA'))
    have gown : Gd (n' + 1) (.tuple r.dropLast) := ⟨by
      rw [List.length_dropLast]
      rw [List.length_cons] at hl
      omega, gl⟩
    refine ⟨_, rfl, z, rfl, rfl, _, rfl, ?_⟩
    by_cases cn : z ∈ numK
    · rw [decide_eq_true cn]
      refine ⟨_, rfl, _, rfl, z, rfl, rfl, cn, fun u uu ru hu => ?_⟩
      obtain ⟨b, rfl, hb⟩ := hu
      have eu : u = .ref b := by
        cases u <;> first | (cases ru; rfl) | (obtain ⟨_, k⟩ := ru; cases k) | (cases ru)
      subst eu
      refine ⟨_, _, _, numOf z, _, rfl, hown, gown, hb H1, num_len z, fun H2 s2 => ?_⟩
      have q' := q H2 (s1.trans s2)
      unfold fitZ at q'
      rw [if_pos cn] at q'
      exact q'
    · rw [decide_eq_false cn]
      have hf : z ∈ fitK := by
        unfold madeZ at hz
        rw [decide_eq_false cn, Bool.false_or] at hz
        exact of_decide_eq_true hz
      refine ⟨_, rfl, z, rfl, rfl, hf, fun u uu ru hu => ?_⟩
      obtain ⟨g, rfl, hgz⟩ := hu
      have eu : u = .ref g := by
        cases u <;> first | (cases ru; rfl) | (obtain ⟨_, k⟩ := ru; cases k) | (cases ru)
      subst eu
      have q' := fun H2 (s2 : Same H1 H2) => q H2 (s1.trans s2)
      unfold fitZ at q'
      rcases hgz with ⟨rfl, e⟩ | ⟨rfl, e⟩ | ⟨rfl, e⟩ | ⟨rfl, e⟩
      · exact ⟨g, _, rfl, .inl ⟨e, rfl⟩, _, rfl, _, _, _, rfl, hown, gown, q'⟩
      · exact ⟨g, _, rfl, .inr (.inl ⟨e, rfl⟩), _, rfl, _, _, _, rfl, hown, gown, q'⟩
      · exact ⟨g, _, rfl, .inr (.inr (.inl ⟨e, rfl⟩)), _, rfl, _, _, _, rfl, hown, gown, q'⟩
      · exact ⟨g, _, rfl, .inr (.inr (.inr ⟨e, rfl⟩)), _, rfl, _, _, _, rfl, hown, gown, q'⟩
theorem ok_part {f : Addr} {fd : FuncData} (D : Df K mg "is_part" s_is_part ["value"] f fd) (T : Txt K w mg cs) (c_is_whole : Cl P w K mg base CX0 1 "is_whole" (spWhole K)) : FnOk P w K mg base CX0 2 f fd ["value"] (spD K partOk) := by
  refine D.fn.ok sc_is_part (fun vs H Q E h => ?_) (fun cdv A outer s H vs Q E hr h => ?_)
  · obtain ⟨v, d, n, rfl, _⟩ := h
    rfl
  · obtain ⟨v, d, n, rfl, hd, hg, q⟩ := h
    refine ⟨_, (pss_cons (ps_if (pt_val (pe_callB (isiK K) (by rfl) T.n_isinstance (by decide +kernel) (pa_cons (pv 0) (pa_cons (pe_ty "str" (by rfl) T.n_str (by decide +kernel)) pa_nil)))) (pss_one (ps_ret (pe_cmpR op_in_seq (pv 0) (pe_tup (pa_cons pe_str (pa_cons pe_str pa_nil))) (by rfl)))) pss_nil) (pss_one (ps_ret (pe_cl c_is_whole hr (by first | decide | omega) (by rfl) (pa_cons (pv 0) (pa_cons pe_int (pa_cons (C8.pe_gc (by rfl) T.g_LAST_BIT) pa_nil))))))), ?_⟩
    refine ⟨_, rfl, _, _, _, _, _, rfl, .ty "str", dp_ty hd, kit_str d, _, rfl, ?_⟩
    have q0 := q H (Same.refl H)
    have other : partOk d = whole d 0 9999 → isStr d = false → Q (.bl (whole d 0 9999)) H := fun e _ => e ▸ q0
    cases d with
    | str z =>
      cases hd
      refine ⟨_, rfl, (by show 2 ≤ sizeLine; decide), fun p np => ⟨p, _, rfl, .inr (.inl (.inl upd_same)), rfl, rfl, ?_⟩⟩
      have e : inV (.str z) [.str "0", .str "1"] = partOk (.str z) := by
        show ((eqV (.str "0") (.str z) || (eqV (.str "1") (.str z) || false)) : Bool) = (decide (z = "0") || decide (z = "1"))
        rw [Bool.or_false]
        have ee : ∀ y : Str, eqV (.str y) (.str z) = decide (z = y) := fun y => by
          show (y == z) = _
          by_cases h : z = y
          · rw [decide_eq_true h, h]
            exact beq_self_eq_true y
          · rw [decide_eq_false h]
            exact beq_eq_false_iff_ne.mpr fun k => h k.symm
        rw [ee, ee]
      have q' := q _ (same_new (o := .tup [.str "0", .str "1"]) np)
      rw [← e] at q'
      exact q'
    | none => exact ⟨_, rfl, _, _, 0, 9999, rfl, hd, other rfl rfl⟩
    | bool b => exact ⟨_, rfl, _, _, 0, 9999, rfl, hd, other rfl rfl⟩
    | int b => exact ⟨_, rfl, _, _, 0, 9999, rfl, hd, other rfl rfl⟩
    | tuple b => exact ⟨_, rfl, _, _, 0, 9999, rfl, hd, other rfl rfl⟩
    | list b => exact ⟨_, rfl, _, _, 0, 9999, rfl, hd, other rfl rfl⟩
    | dict b => exact ⟨_, rfl, _, _, 0, 9999, rfl, hd, other rfl rfl⟩
theorem ok_parts {f : Addr} {fd : FuncData} (D : Df K mg "are_parts" s_are_parts ["value"] f fd) (T : Txt K w mg cs) (c_is_part : Cl P w K mg base CX0 2 "is_part" (spD K partOk)) : FnOk P w K mg base CX0 3 f fd ["value"] (spD K partsOk) := by
  refine D.fn.ok sc_are_parts (fun vs H Q E h => ?_) (fun cdv A outer s H vs Q E hr h => ?_)
  · obtain ⟨v, d, n, rfl, _⟩ := h
    rfl
  · obtain ⟨v, d, n, rfl, hd, hg, q⟩ := h
    refine ⟨_, (pss_one (ps_ret (pe_and (pe_callB (isiK K) (by rfl) T.n_isinstance (by decide +kernel) (pa_cons (pv 0) (pa_cons (pe_ty "tuple" (by rfl) T.n_tuple (by decide +kernel)) pa_nil))) (pe_one (pe_callB (crAll K rfl) (by rfl) T.n_all (by decide +kernel) (pa_cons (pe_lc (own := [("part", 1)]) (g := gName 1) (tt := tYes) rfl sc_are_parts.nd (pi_tup (pv 0)) (blkOk_by (own := [("part", 1)]) (N := ["value", "part"]) (sc := defScope s_are_parts) (by decide +kernel)) (fun _ _ _ _ _ => (pg_name (i := 1) sc_are_parts.nd rfl (.inl rfl))) (fun _ _ _ _ _ => pts_nil) (fun _ _ _ _ _ => (pe_cl c_is_part hr (by first | decide | omega) (by rfl) (pa_cons (pv 1) pa_nil)))) pa_nil)))))), ?_⟩
    refine ⟨_, rfl, _, _, _, _, _, rfl, .ty "tuple", dp_ty hd, kit_tup d, _, rfl, ?_⟩
    have q0 := q H (Same.refl H)
    cases d with
    | tuple xs =>
      cases hd with
      | @tup a ws _ hT hA =>
      obtain ⟨hl, n', rfl, hx⟩ := gd_tup hg
      have hwl := dp_all_len hA
      refine ⟨_, rfl, a, rfl, ⟨_, hT⟩, fun Dl hD => ?_⟩
      refine lc_tup (xs := ws) (fun i H' => Same H H' ∧ H' Dl = some (.lst ((xs.take i).map fun x => V.bl (partOk x)))) ?_ ?_ ?_ ?_
      · exact ⟨same_new hD, upd_same⟩
      · rintro i H' _ ⟨s1, _⟩
        exact same_sqt s1 hT
      · rintro i x H' hxi ⟨s1, e1⟩
        obtain ⟨d, hdi, hdx⟩ := dp_all_get hA hxi
        have hi : i < xs.length := (List.getElem?_eq_some_iff.mp hdi).1
        refine ⟨rfl, ?_⟩
        refine ⟨_, rfl, x, d, _, rfl, dp_same s1 d hdx, hx d (List.mem_of_getElem? hdi), fun H2 s2 => ?_⟩
        refine ⟨_, s2 _ _ e1, ?_, fun p o e => ?_, ?_⟩
        · rw [List.length_map, List.length_take]
          exact Nat.lt_of_lt_of_le (show min i xs.length < 10000 by omega) (by decide)
        · rw [upd_ne (ne_of_none e hD)]
          exact s2 _ _ (s1 p o e)
        · rw [upd_same, List.take_add_one, hdi, List.map_append]
          rfl
      · rintro H' ⟨s1, e1⟩
        rw [List.take_of_length_le (by omega)] at e1
        have em : (xs.map fun x => V.bl (partOk x)) = (xs.map partOk).map V.bl := by
          rw [List.map_map]
          rfl
        rw [em] at e1
        refine ⟨Dl, _, rfl, .inl (.inl e1), ?_⟩
        have ea : (xs.map partOk).all id = partsOk (.tuple xs) := by
          rw [List.all_map]
          rfl
        rw [ea]
        exact q H' s1
    | none => exact q0
    | bool b => exact q0
    | int b => exact q0
    | str b => exact q0
    | list b => exact q0
    | dict b => exact q0

end
theorem named_eq {x : Str} {d : PyData} (h : named x d = true) : d = .str x := by
  cases d with
  | str z =>
    rw [named_str] at h
    rw [of_decide_eq_true h]
  | none => exact absurd h (by unfold named; simp [PyData.eqv])
  | bool b => exact absurd h (by unfold named; simp [PyData.eqv])
  | int b => exact absurd h (by unfold named; simp [PyData.eqv])
  | list b => exact absurd h (by unfold named; simp [PyData.eqv])
  | tuple b => exact absurd h (by unfold named; simp [PyData.eqv])
  | dict b => exact absurd h (by unfold named; simp [PyData.eqv])
theorem looks_eq {k : PyData} {r : List PyData} : looksOk (.tuple (k :: r)) = if named "say" k then sayOk r else if named "toss" k then tossOk r else if named "look" k then lookOk r else named "ask" k && askOk r := rfl
theorem sayOk_no {r : List PyData} (h : r.length ≠ 1) : sayOk r = false := by
  unfold sayOk
  split
  · exact absurd rfl h
  · rfl
theorem tossOk_no {r : List PyData} (h : r.length ≠ 1) : tossOk r = false := by
  unfold tossOk
  split
  · exact absurd rfl h
  · rfl
theorem lookOk_no {r : List PyData} (h : r.length ≠ 3) : lookOk r = false := by
  unfold lookOk
  split
  · exact absurd rfl h
  · rfl
theorem askOk_no {r : List PyData} (h : r.length ≠ 2) : askOk r = false := by
  unfold askOk
  split
  · exact absurd rfl h
  · rfl
theorem toss_kids {r : List PyData} (h : tossOk r = true) : ∃ xs, r = [.tuple xs] ∧ 1 ≤ xs.length ∧ xs.length ≤ 64 := by
  unfold tossOk at h
  split at h
  · rename_i xs
    rw [Bool.and_eq_true, decide_eq_true_eq, decide_eq_true_eq] at h
    exact ⟨xs, rfl, by omega, by omega⟩
  · cases h
theorem kids_toss {k : PyData} {xs : List PyData} (h : named "toss" k = true) : kidsD (.tuple [k, .tuple xs]) = xs := by
  show (if named "toss" k then xs else _) = xs
  rw [if_pos h]
theorem kids_other {k : PyData} {r : List PyData} (h : named "toss" k = false) : kidsD (.tuple (k :: r)) = r.drop 1 := by
  show (if named "toss" k then _ else r.drop 1) = r.drop 1
  rw [if_neg (by rw [h]; decide)]
theorem kids_gd {n : Nat} {d x : PyData} (h : Gd n d) (hx : x ∈ kidsD d) : Gd n x := by
  unfold kidsD at hx
  split at hx
  · rename_i k r
    obtain ⟨hl, n', rfl, hg⟩ := gd_tup h
    split at hx
    · split at hx
      · rename_i xs _
        have h1 := hg (.tuple xs) (List.mem_cons_of_mem _ List.mem_cons_self)
        obtain ⟨_, m, rfl, h2⟩ := gd_tup h1
        exact gd_le (h2 x hx) (by omega)
      · cases hx
    · exact gd_up (hg x (List.mem_cons_of_mem _ (List.mem_of_mem_drop hx)))
  · cases hx
theorem kids_len {n : Nat} {d : PyData} (h : Gd n d) : (kidsD d).length ≤ 5000 := by
  unfold kidsD
  split
  · rename_i k r
    obtain ⟨hl, n', rfl, hg⟩ := gd_tup h
    split
    · split
      · rename_i xs _
        have h1 := hg (.tuple xs) (List.mem_cons_of_mem _ List.mem_cons_self)
        exact (gd_tup h1).1
      · exact Nat.zero_le _
    · rw [List.length_drop]
      rw [List.length_cons] at hl
      omega
  · exact Nat.zero_le _
theorem sz_pos (n : Nat) (d : PyData) : 1 ≤ szN n d := by
  cases n with
  | zero => exact Nat.le_refl 1
  | succ n =>
    show 1 ≤ 1 + _
    omega
/-! ### the pile of a walk through a breaker: address, value, data, how deep -/
abbrev Ent : Type := Addr × V × PyData × Nat
def good (xs : List Ent) (many : Nat) : Bool := xs.all (fun x => okN (61 - x.2.2.2) x.2.2.1) && decide (many + (xs.map fun x => szN (61 - x.2.2.2) x.2.2.1).sum ≤ 2001)
theorem good_nil {many : Nat} (h : many ≤ 2001) : good [] many = true := by
  show (true && decide (many + 0 ≤ 2001)) = true
  rw [Bool.true_and, decide_eq_true (by omega)]
theorem good_many {xs : List Ent} {x : Ent} {many : Nat} (h : 2001 < many + 1) : good (xs ++ [x]) many = false := by
  unfold good
  rw [List.map_append, List.sum_append]
  have := sz_pos (61 - x.2.2.2) x.2.2.1
  rw [decide_eq_false (show ¬ many + ((xs.map fun x => szN (61 - x.2.2.2) x.2.2.1).sum + ([x].map fun x => szN (61 - x.2.2.2) x.2.2.1).sum) ≤ 2001 by
    rw [List.map_cons, List.sum_cons]
    omega), Bool.and_false]
theorem good_bad {xs : List Ent} {x : Ent} {many : Nat} (h : okN (61 - x.2.2.2) x.2.2.1 = false) : good (xs ++ [x]) many = false := by
  unfold good
  rw [List.all_append, List.all_cons, h, Bool.false_and, Bool.and_false, Bool.false_and]
theorem okN_deep {k : Nat} {d : PyData} (h : 60 < k) : okN (61 - k) d = false := by
  rw [show 61 - k = 0 by omega]
  rfl
theorem okN_looks {k : Nat} {d : PyData} (h : looksOk d = false) : okN k d = false := by
  cases k with
  | zero => rfl
  | succ k =>
    show (looksOk d && _) = false
    rw [h, Bool.false_and]
theorem good_step {xs es : List Ent} {x : Ent} {many : Nat} (hk : x.2.2.2 ≤ 60) (hl : looksOk x.2.2.1 = true) (he : es.map (fun e => e.2.2) = (kidsD x.2.2.1).map fun d => (d, x.2.2.2 + 1)) :
    good (xs ++ [x]) many = good (xs ++ es) (many + 1) := by
  unfold good
  obtain ⟨p, v, d, k⟩ := x
  dsimp only at hk hl he
  have hn : 61 - k = (60 - k) + 1 := by omega
  have e1 : es.all (fun e => okN (61 - e.2.2.2) e.2.2.1) = (kidsD d).all (okN (60 - k)) := by
    have h1 : es.all (fun e => okN (61 - e.2.2.2) e.2.2.1) = (es.map (fun e => e.2.2)).all (fun e => okN (61 - e.2) e.1) := by
      rw [List.all_map]
      rfl
    rw [h1, he, List.all_map]
    have h2 : 61 - (k + 1) = 60 - k := by omega
    show (kidsD d).all (fun d => okN (61 - (k + 1)) d) = _
    rw [h2]
  have e2 : (es.map (fun e => szN (61 - e.2.2.2) e.2.2.1)).sum = ((kidsD d).map (szN (60 - k))).sum := by
    have h1 : es.map (fun e => szN (61 - e.2.2.2) e.2.2.1) = (es.map (fun e => e.2.2)).map (fun e => szN (61 - e.2) e.1) := by
      rw [List.map_map]
      rfl
    rw [h1, he, List.map_map]
    have h2 : 61 - (k + 1) = 60 - k := by omega
    show ((kidsD d).map (fun d => szN (61 - (k + 1)) d)).sum = _
    rw [h2]
  rw [List.all_append, List.all_append, List.map_append, List.map_append, List.sum_append, List.sum_append, e1, e2]
  have e3 : [(p, v, d, k)].all (fun x => okN (61 - x.2.2.2) x.2.2.1) = (kidsD d).all (okN (60 - k)) := by
    show (okN (61 - k) d && true) = _
    rw [Bool.and_true, hn]
    show (looksOk d && _) = _
    rw [hl, Bool.true_and]
  have e4 : ([(p, v, d, k)].map (fun x => szN (61 - x.2.2.2) x.2.2.1)).sum = 1 + ((kidsD d).map (szN (60 - k))).sum := by
    show szN (61 - k) d + 0 = _
    rw [hn]
    rfl
  rw [e3, e4]
  congr 1
  apply decide_eq_decide.mpr
  omega

section
variable {P : Program} {w : World} {K : PySem.W.Frag} {mg : Str → Option Value} {base : Heap} {cs : Cs}
theorem ok_looks {f : Addr} {fd : FuncData} (D : Df K mg "looks_plain" s_looks_plain ["value"] f fd) (T : Txt K w mg cs) (c_is_whole : Cl P w K mg base CX0 1 "is_whole" (spWhole K)) (c_are_parts : Cl P w K mg base CX0 3 "are_parts" (spD K partsOk)) : FnOk P w K mg base CX0 4 f fd ["value"] (spD K looksOk) := by
  refine D.fn.ok sc_looks_plain (fun vs H Q E h => ?_) (fun cdv A outer s H vs Q E hr h => ?_)
  · obtain ⟨v, d, n, rfl, _⟩ := h
    rfl
  · obtain ⟨v, d, n, rfl, hd, hg, q⟩ := h
    refine ⟨_, (pss_cons (ps_if (PW.pt (pw_or (pt_not (pt_val (pe_callB (isiK K) (by rfl) T.n_isinstance (by decide +kernel) (pa_cons (pv 0) (pa_cons (pe_ty "tuple" (by rfl) T.n_tuple (by decide +kernel)) pa_nil))))) (pw_or1 (pt_cmpR (op_eqF K hr.units) (pv 0) (pe_tup pa_nil) (nomark _))))) (pss_one (ps_ret pe_bl)) pss_nil) (pss_cons (ps_par (i := 1) (j := 2) (by rfl) sc_looks_plain.nd rfl rfl (by decide) rfl rfl (pa_cons (pe_ix (ixT K) (pv 0) pe_int (fun _ _ => rfl)) (pa_cons (pe_callB (lenS K) (by rfl) T.n_len (by decide +kernel) (pa_cons (pv 0) pa_nil)) pa_nil)) (by rfl)) (pss_cons (ps_if (pt_cmpR (op_eqF K hr.units) (pv 1) pe_str (nomark _)) (pss_one (ps_ret (pe_and (pe_cmpR op_eq (pv 2) pe_int (nomark _)) (pe_one (pe_cl c_are_parts hr (by first | decide | omega) (by rfl) (pa_cons (pe_ix (ixT K) (pv 0) pe_int (fun _ _ => rfl)) pa_nil)))))) pss_nil) (pss_cons (ps_if (pt_cmpR (op_eqF K hr.units) (pv 1) pe_str (nomark _)) (pss_one (ps_ret (pe_and (pe_cmpR op_eq (pv 2) pe_int (nomark _)) (pe_and (pe_callB (isiK K) (by rfl) T.n_isinstance (by decide +kernel) (pa_cons (pe_ix (ixT K) (pv 0) pe_int (fun _ _ => rfl)) (pa_cons (pe_ty "tuple" (by rfl) T.n_tuple (by decide +kernel)) pa_nil))) (pe_one (pe_chain op_le op_le pe_int (pe_callB (lenS K) (by rfl) T.n_len (by decide +kernel) (pa_cons (pe_ix (ixT K) (pv 0) pe_int (fun _ _ => rfl)) pa_nil)) (C8.pe_gc (by rfl) T.g_MOST_TOSSED))))))) pss_nil) (pss_cons (ps_if (pt_cmpR (op_eqF K hr.units) (pv 1) pe_str (nomark _)) (pss_one (ps_ret (pe_and (pe_cmpR op_eq (pv 2) pe_int (nomark _)) (pe_one (pe_cl c_is_whole hr (by first | decide | omega) (by rfl) (pa_cons (pe_ix (ixT K) (pv 0) pe_int (fun _ _ => rfl)) (pa_cons pe_int (pa_cons (C8.pe_gc (by rfl) T.g_LAST_BIT) pa_nil)))))))) pss_nil) (pss_one (ps_ret (pe_and (pe_cmpR (op_eqF K hr.units) (pv 1) pe_str (nomark _)) (pe_and (pe_cmpR op_eq (pv 2) pe_int (nomark _)) (pe_one (pe_cl c_are_parts hr (by first | decide | omega) (by rfl) (pa_cons (pe_ix (ixT K) (pv 0) pe_int (fun _ _ => rfl)) pa_nil)))))))))))), ?_⟩
    refine ⟨_, rfl, _, _, _, _, _, rfl, .ty "tuple", dp_ty hd, kit_tup d, _, rfl, ?_⟩
    have q0 := q H (Same.refl H)
    cases d with
    | tuple xs =>
      refine ⟨_, rfl, (by show 0 ≤ sizeLine; exact Nat.zero_le _), fun p np => ?_⟩
      have s1 := same_new (o := .tup []) np
      refine ⟨_, _, dp_same s1 _ hd, dp_nil upd_same, gd_lay hg, nil_lay, nil_dep, _, rfl, ?_⟩
      generalize upd H p (.tup []) = H1 at s1
      replace q := fun H' (s' : Same H1 H') => q H' (s1.trans s')
      have q1 := q H1 (Same.refl H1)
      rw [eqv_nil]
      cases hd with
      | @tup a ws _ hT hA =>
      replace hT := same_sqt s1 hT
      replace hA := dps_same s1 _ hA
      obtain ⟨hl, n', rfl, hx⟩ := gd_tup hg
      cases xs with
      | nil => exact q1
      | cons k r =>
        obtain ⟨v0, vr, rfl, h0, hr'⟩ := dp_cons hA
        have g0 := hx k List.mem_cons_self
        have hwl := dp_all_len hr'
        refine ⟨_, rfl, a, _, 0, v0, rfl, rfl, hT, at_zero, _, rfl, a, _, rfl, .inr hT, _, _, rfl, ?_⟩
        rw [looks_eq] at q1
        simp only [looks_eq] at q
        have lay := gd_lay g0
        refine ⟨_, rfl, k, .str "say", h0, .str _, lay, str_lay _, str_dep _, _, rfl, ?_⟩
        show if named "say" k = true then _ else _
        cases c1 : named "say" k with
        | true =>
          rw [c1] at q1
          simp only [c1] at q
          refine ⟨_, rfl, rfl, _, rfl, ?_⟩
          by_cases c : vr.length = 1
          · obtain ⟨vp, p1, rfl, rfl, hp⟩ := dp1 hr' c
            rw [decide_eq_true (show V.int (([v0, vp].length : Nat) : Int) = V.int 2 from rfl)]
            exact ⟨_, rfl, a, _, 1, vp, rfl, rfl, hT, rfl, vp, p1, _, rfl, hp, hx p1 (List.mem_cons_of_mem _ List.mem_cons_self), q⟩
          · have hne : (((v0 :: vr).length : Nat) : Int) ≠ 2 := by
              rw [List.length_cons]
              omega
            rw [decide_eq_false (show ¬ V.int (((v0 :: vr).length : Nat) : Int) = V.int 2 from fun z => hne (V.int.inj z))]
            rw [if_pos rfl, sayOk_no (by omega)] at q1
            exact q1
        | false =>
          rw [c1] at q1
          simp only [c1] at q
          rw [if_neg (by decide)] at q1
          refine ⟨_, rfl, k, .str "toss", h0, .str _, lay, str_lay _, str_dep _, _, rfl, ?_⟩
          show if named "toss" k = true then _ else _
          cases c2 : named "toss" k with
          | true =>
            rw [c2, if_pos rfl] at q1
            refine ⟨_, rfl, rfl, _, rfl, ?_⟩
            by_cases c : vr.length = 1
            · obtain ⟨vp, p1, rfl, rfl, hp⟩ := dp1 hr' c
              rw [decide_eq_true (show V.int (([v0, vp].length : Nat) : Int) = V.int 2 from rfl)]
              refine ⟨_, rfl, a, _, 1, vp, rfl, rfl, hT, rfl, _, _, _, _, _, rfl, .ty "tuple", dp_ty hp, kit_tup p1, _, rfl, ?_⟩
              cases p1 with
              | tuple ys =>
                cases hp with
                | @tup b ks _ bT bA =>
                have hyl := dp_all_len bA
                refine ⟨_, rfl, a, _, 1, .ref b, rfl, rfl, hT, rfl, b, ks, rfl, .inr bT, _, _, rfl, rfl, _, rfl, ?_⟩
                have e2 : tossOk [.tuple ys] = (decide ((1 : Int) ≤ ((ks.length : Nat) : Int)) && decide (((ks.length : Nat) : Int) ≤ 64)) := by
                  rw [hyl]
                  rfl
                rw [e2] at q1
                by_cases d1 : (1 : Int) ≤ ((ks.length : Nat) : Int)
                · rw [decide_eq_true d1] at q1 ⊢
                  refine ⟨_, _, rfl, rfl, ?_⟩
                  exact q1
                · rw [decide_eq_false d1] at q1 ⊢
                  exact q1
              | none => exact q1
              | bool b => exact q1
              | int b => exact q1
              | str b => exact q1
              | list b => exact q1
              | dict b => exact q1
            · have hne : (((v0 :: vr).length : Nat) : Int) ≠ 2 := by
                rw [List.length_cons]
                omega
              rw [decide_eq_false (show ¬ V.int (((v0 :: vr).length : Nat) : Int) = V.int 2 from fun z => hne (V.int.inj z))]
              rw [tossOk_no (by omega)] at q1
              exact q1
          | false =>
            rw [c2, if_neg (by decide)] at q1
            simp only [c2] at q
            refine ⟨_, rfl, k, .str "look", h0, .str _, lay, str_lay _, str_dep _, _, rfl, ?_⟩
            show if named "look" k = true then _ else _
            cases c3 : named "look" k with
            | true =>
              rw [c3, if_pos rfl] at q1
              refine ⟨_, rfl, rfl, _, rfl, ?_⟩
              by_cases c : vr.length = 3
              · obtain ⟨vn, vx, vy, dn, dx, dy, rfl, rfl, hn, _, _⟩ := dp3 hr' c
                rw [decide_eq_true (show V.int (([v0, vn, vx, vy].length : Nat) : Int) = V.int 4 from rfl)]
                exact ⟨_, rfl, a, _, 1, vn, rfl, rfl, hT, rfl, vn, dn, 0, 9999, rfl, hn, q1⟩
              · have hne : (((v0 :: vr).length : Nat) : Int) ≠ 4 := by
                  rw [List.length_cons]
                  omega
                rw [decide_eq_false (show ¬ V.int (((v0 :: vr).length : Nat) : Int) = V.int 4 from fun z => hne (V.int.inj z))]
                rw [lookOk_no (by omega)] at q1
                exact q1
            | false =>
              rw [c3, if_neg (by decide)] at q1
              simp only [c3] at q
              refine ⟨_, rfl, k, .str "ask", h0, .str _, lay, str_lay _, str_dep _, ?_⟩
              show ∃ c, V.bl (named "ask" k) = _ ∧ _
              cases c4 : named "ask" k with
              | false =>
                rw [c4] at q1
                exact ⟨_, rfl, q1⟩
              | true =>
                rw [c4, Bool.true_and] at q1
                simp only [c4, Bool.true_and] at q
                refine ⟨_, rfl, _, rfl, rfl, _, rfl, ?_⟩
                by_cases c : vr.length = 2
                · obtain ⟨vp, vx, p1, dx, rfl, rfl, hp, _⟩ := dp2 hr' c
                  rw [decide_eq_true (show V.int (([v0, vp, vx].length : Nat) : Int) = V.int 3 from rfl)]
                  exact ⟨_, rfl, a, _, 1, vp, rfl, rfl, hT, rfl, vp, p1, _, rfl, hp, hx p1 (List.mem_cons_of_mem _ List.mem_cons_self), q⟩
                · have hne : (((v0 :: vr).length : Nat) : Int) ≠ 3 := by
                    rw [List.length_cons]
                    omega
                  rw [decide_eq_false (show ¬ V.int (((v0 :: vr).length : Nat) : Int) = V.int 3 from fun z => hne (V.int.inj z))]
                  rw [askOk_no (by omega)] at q1
                  exact q1
    | none => exact q0
    | bool b => exact q0
    | int b => exact q0
    | str b => exact q0
    | list b => exact q0
    | dict b => exact q0
theorem ok_kids {f : Addr} {fd : FuncData} (D : Df K mg "directly_within" s_directly_within ["plain"] f fd) (T : Txt K w mg cs) : FnOk P w K mg base CX0 1 f fd ["plain"] (spKids K) := by
  refine D.fn.ok sc_directly_within (fun vs H Q E h => ?_) (fun cdv A outer s H vs Q E hr h => ?_)
  · obtain ⟨v, d, n, G, rfl, _⟩ := h
    rfl
  · obtain ⟨v, d, n, G, rfl, sG, hd, hg, hk, q⟩ := h
    refine ⟨_, (pss_one (ps_ret (pe_ifExp (pt_cmpR (op_eqF K hr.units) (pe_ix (ixT K) (pv 0) pe_int (fun _ _ => rfl)) pe_str (nomark _)) (pe_ix (ixT K) (pv 0) pe_int (fun _ _ => rfl)) (pe_slice (slTA K) (pv 0) (po_some pe_int) po_none)))), ?_⟩
    cases d with
    | tuple xs =>
      cases xs with
      | nil => cases hk
      | cons k r =>
        cases hd with
        | @tup a ws _ hT hA =>
        obtain ⟨hl, n', rfl, hx⟩ := gd_tup hg
        obtain ⟨v0, vr, rfl, h0, hr'⟩ := dp_cons hA
        replace hT := same_sqt sG hT
        refine ⟨_, rfl, a, _, 0, v0, rfl, rfl, hT, at_zero, k, .str "toss", dp_same sG k h0, .str _, gd_lay (hx k List.mem_cons_self), str_lay _, str_dep _, _, rfl, ?_⟩
        show if named "toss" k = true then _ else _
        cases c : named "toss" k with
        | true =>
          have ek := named_eq c
          rw [looks_eq, c, ek, named_str, decide_eq_false (by decide), if_neg (by decide), if_pos rfl] at hk
          obtain ⟨ys, rfl, _, _⟩ := toss_kids hk
          rw [kids_toss c] at q
          obtain ⟨v1, vs1, rfl, h1, h2⟩ := dp_cons hr'
          cases h2
          cases h1 with
          | @tup b us _ bT bA =>
          exact ⟨_, rfl, a, _, 1, .ref b, rfl, rfl, hT, rfl, q b us H (Same.refl H) (same_sqt sG bT) bA⟩
        | false =>
          rw [kids_other c] at q
          refine ⟨_, rfl, 2, rfl, slA_any hT fun p H1 s1 hp => ?_⟩
          rw [cut_two] at hp
          exact q p _ H1 s1 hp (dps_drop 1 hr')
    | none => cases hk
    | bool b => cases hk
    | int b => cases hk
    | str b => cases hk
    | list b => cases hk
    | dict b => cases hk

theorem last_get {α : Type} (xs : List α) (v : α) : (xs ++ [v])[(xs ++ [v]).length - 1]? = some v := by
  rw [List.length_append, List.length_singleton, Nat.add_sub_cancel, List.getElem?_append_right (Nat.le_refl _), Nat.sub_self]
  rfl
theorem snoc_cases {α : Type} (l : List α) : l = [] ∨ ∃ ys x, l = ys ++ [x] := by
  by_cases h : l = []
  · exact .inl h
  · exact .inr ⟨l.dropLast, l.getLast h, (List.dropLast_concat_getLast h).symm⟩
/-- the pile in the heap -/
structure Pile (K : PySem.W.Frag) (H H' : Hp) (W : Addr) (n : Nat) (xs : List Ent) : Prop where
  lst : H' W = some (.lst (xs.map fun x => V.ref x.1))
  ent : ∀ x ∈ xs, H' x.1 = some (.tup [x.2.1, .int (x.2.2.2 : Int)]) ∧ Dp K H x.2.1 x.2.2.1 ∧ Gd n x.2.2.1
theorem ok_plainB {f : Addr} {fd : FuncData} (D : Df K mg "is_plain_breaker" s_is_plain_breaker ["value"] f fd) (T : Txt K w mg cs) (c_looks_plain : Cl P w K mg base CX0 4 "looks_plain" (spD K looksOk)) (c_directly_within : Cl P w K mg base CX0 1 "directly_within" (spKids K)) : FnOk P w K mg base CX0 5 f fd ["value"] (spD K plainOk) := by
  refine D.fn.ok sc_is_plain_breaker (fun vs H Q E h => ?_) (fun cdv A outer s H vs Q E hr h => ?_)
  · obtain ⟨v, d, n, rfl, _⟩ := h
    rfl
  · obtain ⟨v, d, n, rfl, hd, hg, q⟩ := h
    refine ⟨_, (pss_cons (ps_set (i := 1) sc_is_plain_breaker.nd rfl (.inl rfl) (pe_lst (pa_cons (pe_tup (pa_cons (pv 0) (pa_cons pe_int pa_nil))) pa_nil))) (pss_cons (ps_set (i := 2) sc_is_plain_breaker.nd rfl (.inl rfl) pe_int) (pss_cons (ps_while PassesOwn.never (pt_truth (pv 1) (by intro _; rfl)) (pss_cons (ps_asg (pe_bm0 PySem.F.plainAttrs_list PySem.F.slot_list_pop PySem.F.type_list_pop mt_pop (pv 1)) (pg_tup (by rfl) (pgs_cons (pg_name (i := 3) sc_is_plain_breaker.nd rfl (.inl rfl)) (pgs_cons (pg_name (i := 4) sc_is_plain_breaker.nd rfl (.inr rfl)) pgs_nil)))) (pss_cons (ps_aug (i := 2) sc_is_plain_breaker.nd rfl (.inl rfl) pe_int ip_add) (pss_cons (ps_if (PW.pt (pw_or (pt_cmpR op_gt (pv 2) (pe_op op_add (C8.pe_gc (by rfl) T.g_MOST_WITHIN) pe_int) (nomark _)) (pw_or (pt_cmpR op_gt (pv 4) (C8.pe_gc (by rfl) T.g_DEEPEST_PLAIN) (nomark _)) (pw_or1 (pt_not (pt_val (pe_cl c_looks_plain hr (by first | decide | omega) (by rfl) (pa_cons (pv 3) pa_nil)))))))) (pss_one (ps_ret pe_bl)) pss_nil) (pss_one (ps_expr (pe_bm PySem.F.plainAttrs_list PySem.F.slot_list_extend PySem.F.type_list_extend mt_extend (pv 1) (pa_cons (pe_lc (own := [("inner", 5)]) (g := gName 5) (tt := tYes) rfl sc_is_plain_breaker.nd (pi_tup (pe_cl c_directly_within hr (by first | decide | omega) (by rfl) (pa_cons (pv 3) pa_nil))) (blkOk_by (own := [("inner", 5)]) (N := ["value", "waiting", "many", "part", "depth", "inner"]) (sc := defScope s_is_plain_breaker) (by decide +kernel)) (fun _ _ _ _ _ => (pg_name (i := 5) sc_is_plain_breaker.nd rfl (.inl rfl))) (fun _ _ _ _ _ => pts_nil) (fun _ _ _ _ _ => (pe_tup (pa_cons (pv 5) (pa_cons (pe_op op_add (pv 4) pe_int) pa_nil))))) pa_nil)))))))) (pss_one (ps_ret pe_bl))))), ?_⟩
    -- waiting = [(value, 1)]
    refine ⟨_, rfl, (by show 2 ≤ sizeLine; decide), fun p0 np => ⟨(by show 1 ≤ sizeLine; decide), fun W nW => ?_⟩⟩
    have hW : H W = none := (same_new np).free nW
    have s0 : Same H (upd (upd H p0 (.tup [v, .int 1])) W (.lst [.ref p0])) := (same_new np).trans (same_new nW)
    have pl0 : Pile K H (upd (upd H p0 (.tup [v, .int 1])) W (.lst [.ref p0])) W n [(p0, v, d, 1)] := ⟨upd_same, fun x hx => by
      rw [List.mem_singleton.mp hx]
      refine ⟨?_, hd, hg⟩
      rw [upd_ne (ne_of_none upd_same nW)]
      exact upd_same⟩
    have hgood : plainOk d = good [(p0, v, d, 1)] 0 := by
      unfold plainOk good
      show (okN 60 d && decide (szN 60 d ≤ 2001)) = ((okN 60 d && true) && decide (0 + (szN 60 d + 0) ≤ 2001))
      rw [Bool.and_true, Nat.add_zero, Nat.zero_add]
    generalize upd (upd H p0 (.tup [v, .int 1])) W (.lst [.ref p0]) = H0 at s0 pl0
    clear np nW
    refine ⟨fun m σ H' => ∃ (xs : List Ent) (many : Nat) (y3 y4 y5 : Option V), σ = [some v, some (.ref W), some (.int (many : Int)), y3, y4, y5] ∧ m = 2002 - many ∧ many ≤ 2001 ∧ xs.length ≤ 5000 * many + 1 ∧ Same H H' ∧ Pile K H H' W n xs ∧ plainOk d = good xs many,
      ⟨_, [(p0, v, d, 1)], 0, none, none, none, rfl, rfl, by omega, Nat.le_refl 1, s0, pl0, hgood⟩, ?_⟩
    clear s0 pl0 hgood H0
    rintro m σ H' ⟨xs, many, y3, y4, y5, rfl, hm, hmany, hlen, s1, pl, hgood⟩
    refine ⟨_, rfl, _, .inl ⟨_, .inl (.inl pl.lst), rfl⟩, ?_⟩
    rcases snoc_cases xs with rfl | ⟨ys, ⟨p, vx, dx, k⟩, rfl⟩
    · rw [good_nil hmany] at hgood
      have q' := q H' s1
      rw [hgood] at q'
      exact q'
    · have hne : (!((ys ++ [(p, vx, dx, k)]).map fun x : Ent => V.ref x.1).isEmpty) = true := by
        rw [List.map_append]
        cases (ys.map fun x : Ent => V.ref x.1) <;> rfl
      rw [hne, if_pos rfl]
      obtain ⟨ep, hdx, hgx⟩ := pl.ent (p, vx, dx, k) (List.mem_append_right _ List.mem_cons_self)
      dsimp only at ep hdx hgx
      refine ⟨fun σ H2 => ∃ (xs : List Ent) (y3 y4 y5 : Option V), σ = [some v, some (.ref W), some (.int ((many + 1 : Nat) : Int)), y3, y4, y5] ∧ many + 1 ≤ 2001 ∧ xs.length ≤ 5000 * (many + 1) + 1 ∧ Same H H2 ∧ Pile K H H2 W n xs ∧ plainOk d = good xs (many + 1), ?_, ?_⟩
      · rintro σ H2 ⟨xs, z3, z4, z5, rfl, h1, h2, h3, h4, h5⟩
        exact ⟨2002 - (many + 1), by omega, xs, many + 1, z3, z4, z5, rfl, rfl, h1, h2, h3, h4, h5⟩
      · -- part, depth = waiting.pop()
        have eW := pl.lst
        rw [List.map_append] at eW
        refine ⟨_, rfl, .inl ⟨rfl, _, .inl (.inl eW)⟩, W, _, .ref p, rfl, rfl, eW, ?_, ?_⟩
        · exact last_get _ _
        have edl : (ys.map (fun x : Ent => V.ref x.1) ++ [(p, vx, dx, k)].map fun x : Ent => V.ref x.1).dropLast = ys.map fun x : Ent => V.ref x.1 := List.dropLast_concat
        rw [edl]
        have hpW : p ≠ W := fun z => by
          rw [z, pl.lst] at ep
          cases ep
        have pl2 : Pile K H (upd H' W (.lst (ys.map fun x : Ent => V.ref x.1))) W n ys := ⟨upd_same, fun x hx => by
          obtain ⟨g1, g2, g3⟩ := pl.ent x (List.mem_append_left _ hx)
          refine ⟨?_, g2, g3⟩
          rw [upd_ne (fun z => by rw [z, pl.lst] at g1; cases g1)]
          exact g1⟩
        have s2 : Same H (upd H' W (.lst (ys.map fun x : Ent => V.ref x.1))) := fun b o e => by
          rw [upd_ne (ne_of_none e hW)]
          exact s1 b o e
        have ep2 : upd H' W (.lst (ys.map fun x : Ent => V.ref x.1)) p = some (.tup [vx, .int (k : Int)]) := by
          rw [upd_ne hpW]
          exact ep
        generalize upd H' W (.lst (ys.map fun x : Ent => V.ref x.1)) = H2 at pl2 s2 ep2
        refine ⟨p, [vx, .int (k : Int)], rfl, .inl (.inl ep2), rfl, _, _, rfl, _, _, rfl, rfl, ?_⟩
        -- many += 1
        refine ⟨_, rfl, _, _, rfl, rfl, ?_⟩
        -- the bounds
        refine ⟨_, rfl, _, _, rfl, rfl, _, _, rfl, rfl, _, rfl, ?_⟩
        by_cases c1 : 2001 < many + 1
        · rw [decide_eq_true (show ((many : Int) + 1) > 2000 + 1 by omega)]
          rw [good_many c1] at hgood
          have q' := q H2 s2
          rw [hgood] at q'
          exact q'
        · rw [decide_eq_false (show ¬ ((many : Int) + 1) > 2000 + 1 by omega)]
          refine ⟨_, rfl, _, _, rfl, rfl, _, rfl, ?_⟩
          by_cases c2 : 60 < k
          · rw [decide_eq_true (show (k : Int) > 60 by omega)]
            rw [good_bad (x := (p, vx, dx, k)) (okN_deep c2)] at hgood
            have q' := q H2 s2
            rw [hgood] at q'
            exact q'
          · rw [decide_eq_false (show ¬ (k : Int) > 60 by omega)]
            refine ⟨_, rfl, vx, dx, n, rfl, dp_same s2 dx hdx, hgx, fun H3 s3 => ⟨_, rfl, ?_⟩⟩
            have s23 := s2.trans s3
            cases cl : looksOk dx with
            | false =>
              rw [good_bad (x := (p, vx, dx, k)) (okN_looks cl)] at hgood
              have q' := q H3 s23
              rw [hgood] at q'
              exact q'
            | true =>
              have pl3 : Pile K H H3 W n ys := ⟨s3 _ _ pl2.lst, fun x hx => ⟨s3 _ _ (pl2.ent x hx).1, (pl2.ent x hx).2⟩⟩
              -- waiting.extend
              refine ⟨_, rfl, .inl ⟨rfl, _, .inl (.inl pl3.lst)⟩, ?_⟩
              refine ⟨_, rfl, vx, dx, n, H, rfl, s23, hdx, hgx, cl, fun a us H4 s4 aT aA => ?_⟩
              refine ⟨a, rfl, ⟨_, aT⟩, fun Dl hD => ?_⟩
              have hWl : Dl ≠ W := fun z => by
                have := s4 _ _ pl3.lst
                rw [← z, hD] at this
                cases this
              have hul := dp_all_len aA
              refine lc_tup (xs := us) (fun i H5 => ∃ es : List Ent, es.map (fun e => e.2.2) = ((kidsD dx).take i).map (fun d => (d, k + 1)) ∧ H5 Dl = some (.lst (es.map fun e => V.ref e.1)) ∧ (∀ e ∈ es, H5 e.1 = some (.tup [e.2.1, .int (e.2.2.2 : Int)]) ∧ Dp K H e.2.1 e.2.2.1 ∧ Gd n e.2.2.1) ∧ Same H4 H5) ?_ ?_ ?_ ?_
              · exact ⟨[], rfl, upd_same, fun e he => (nomatch he), same_new hD⟩
              · rintro i H5 _ ⟨_, _, _, _, s5⟩
                exact same_sqt s5 aT
              · rintro i u H5 hu ⟨es, he, eD, hes, s5⟩
                obtain ⟨e, hei, heu⟩ := dp_all_get aA hu
                refine ⟨rfl, ?_⟩
                refine ⟨_, rfl, _, rfl, _, _, rfl, rfl, (by show 2 ≤ sizeLine; decide), fun t nt => ?_⟩
                have eD2 : upd H5 t (.tup [u, .int ((k : Int) + 1)]) Dl = some (.lst (es.map fun e => V.ref e.1)) := by
                  rw [upd_ne (ne_of_none eD nt)]
                  exact eD
                have htD : t ≠ Dl := fun z => by
                  rw [z, eD] at nt
                  cases nt
                refine ⟨_, eD2, ?_, es ++ [(t, u, e, k + 1)], ?_, ?_, ?_, ?_⟩
                · have hle := congrArg List.length he
                  rw [List.length_map, List.length_map, List.length_take] at hle
                  have hkl := kids_len hgx
                  rw [List.length_map]
                  exact Nat.lt_of_lt_of_le (show es.length < 10000 by omega) (by decide)
                · rw [List.map_append, he, List.take_add_one, hei, List.map_append]
                  rfl
                · rw [upd_same, List.map_append]
                  rfl
                · intro x hx
                  rcases List.mem_append.mp hx with h | h
                  · obtain ⟨g1, g2, g3⟩ := hes x h
                    refine ⟨?_, g2, g3⟩
                    have g4 : upd H5 t (.tup [u, .int ((k : Int) + 1)]) x.1 = some (.tup [x.2.1, .int (x.2.2.2 : Int)]) := by
                      rw [upd_ne (ne_of_none g1 nt)]
                      exact g1
                    rw [upd_ne (fun z => by rw [z, eD2] at g4; cases g4)]
                    exact g4
                  · rw [List.mem_singleton.mp h]
                    refine ⟨?_, heu, kids_gd hgx (List.mem_of_getElem? hei)⟩
                    rw [upd_ne htD]
                    exact upd_same
                · intro b o e
                  rw [upd_ne (ne_of_none e hD), upd_ne (ne_of_none (s5 b o e) nt)]
                  exact s5 b o e
              · rintro H5 ⟨es, he, eD, hes, s5⟩
                rw [List.take_of_length_le (by omega)] at he
                have eW5 := s5 _ _ (s4 _ _ pl3.lst)
                have hle := congrArg List.length he
                rw [List.length_map, List.length_map] at hle
                have hkl := kids_len hgx
                have hyl : ys.length ≤ 5000 * many + 1 := by
                  rw [List.length_append] at hlen
                  omega
                refine ⟨W, Dl, _, _, rfl, rfl, eW5, eD, ?_, ?_⟩
                · rw [List.length_map, List.length_map, sizeLine_eq]
                  omega
                · refine ⟨ys ++ es, _, _, _, rfl, by omega, ?_, ?_, ⟨?_, ?_⟩, ?_⟩
                  · rw [List.length_append]
                    omega
                  · intro b o e
                    rw [upd_ne (ne_of_none e hW)]
                    exact s5 b o (s4 b o (s23 b o e))
                  · rw [upd_same, List.map_append]
                  · intro x hx
                    rcases List.mem_append.mp hx with h | h
                    · obtain ⟨g1, g2, g3⟩ := pl3.ent x h
                      refine ⟨?_, g2, g3⟩
                      have g4 := s5 _ _ (s4 _ _ g1)
                      rw [upd_ne (fun z => by rw [z, eW5] at g4; cases g4)]
                      exact g4
                    · obtain ⟨g1, g2, g3⟩ := hes x h
                      refine ⟨?_, g2, g3⟩
                      rw [upd_ne (fun z => by rw [z, eW5] at g1; cases g1)]
                      exact g1
                  · rw [hgood]
                    exact good_step (x := (p, vx, dx, k)) (by show k ≤ 60; omega) cl he

end
theorem made_parts {d : PyData} (h : madeD d = true) : ∃ z r, d = .tuple (.str z :: r) ∧ madeZ z = true := by
  unfold madeD at h
  split at h
  · rename_i z r
    exact ⟨z, r, rfl, h⟩
  · cases h
theorem chk_plain {n : Nat} {d : PyData} (h : madeD d = false) : chk n d = plainOk d := by
  unfold chk
  rw [if_neg (by rw [h]; decide)]
theorem chk_zero {d : PyData} (h : madeD d = true) : chk 0 d = false := by
  unfold chk
  rw [if_pos h]
theorem chk_succ {n : Nat} {d : PyData} (h : madeD d = true) : chk (n + 1) d = (fitsD d && (!(headIs "onetime" d && madeD (lastD d)) && chk n (lastD d))) := by
  rw [chk]
  rw [if_pos h]
theorem dps_at_last {K : PySem.W.Frag} {H : Hp} {ws : List V} {xs : List PyData} (h : DpAll K H ws xs) (hne : ws ≠ []) : ∃ vl, atI ws (-1) = some vl ∧ Dp K H vl (lastD (.tuple xs)) ∧ lastD (.tuple xs) ∈ xs := by
  have hl : 0 < ws.length := List.length_pos_iff.mpr hne
  have e1 : ws[ws.length - 1]? = some (ws[ws.length - 1]'(by omega)) := List.getElem?_eq_getElem _
  obtain ⟨d, h1, h2⟩ := dp_all_get h e1
  have e2 : lastD (.tuple xs) = d := by
    show xs.getLastD .none = d
    rw [List.getLastD_eq_getLast?, List.getLast?_eq_getElem?, ← dp_all_len h, h1]
    rfl
  refine ⟨_, ?_, e2 ▸ h2, e2 ▸ List.mem_of_getElem? h1⟩
  unfold atI ixN
  rw [if_neg (by decide), if_pos (by omega)]
  show ws[((-1 : Int) + (ws.length : Int)).toNat]? = _
  rw [show ((-1 : Int) + (ws.length : Int)).toNat = ws.length - 1 by omega]
  exact e1

section
variable {P : Program} {w : World} {K : PySem.W.Frag} {mg : Str → Option Value} {base : Heap} {cs : Cs}
theorem ok_checkB {f : Addr} {fd : FuncData} (D : Df K mg "check_breaker" s_check_breaker ["breaker"] f fd) (T : Txt K w mg cs) (c_is_made : Cl P w K mg base CX0 1 "is_made" (spD K madeD)) (c_fits_kind : Cl P w K mg base CX0 4 "fits_kind" (spKind K))
    (c_is_plain_breaker : Cl P w K mg base CX0 5 "is_plain_breaker" (spD K plainOk)) : FnOk P w K mg base (L2.CX P w) 6 f fd ["breaker"] (spCheckB K cs.BadBreaker) := by
  refine D.fn.okX sc_check_breaker (fun vs H Q E h => ?_) (fun cdv A outer s H vs Q E hr h => ?_)
  · obtain ⟨v, d, n, rfl, _⟩ := h
    rfl
  · obtain ⟨v, d, n, rfl, hd, hg, q⟩ := h
    have tk := takes_of (X := cxOf (L2.CX P w) P w K mg base ["breaker", "inner", "depth"] "check_breaker" (defScope s_check_breaker) f cdv A outer s H E) (E := E) rfl rfl rfl rfl
    refine ⟨_, (pss_cons (ps_set (i := 1) sc_check_breaker.nd rfl (.inl rfl) (pv 0)) (pss_cons (ps_set (i := 2) sc_check_breaker.nd rfl (.inl rfl) pe_int) (pss_cons (ps_while (passes_of rfl) (pt_val (pe_cl c_is_made hr (by first | decide | omega) (by rfl) (pa_cons (pv 1) pa_nil))) (pss_cons (ps_aug (i := 2) sc_check_breaker.nd rfl (.inl rfl) pe_int ip_add) (pss_cons (ps_if (pt_cmpR op_gt (pv 2) (C8.pe_gc (by rfl) T.g_DEEPEST_MADE) (nomark _)) (pss_one (ps_raiseE T.x_BadBreaker rfl tk (by rfl))) pss_nil) (pss_cons (ps_if (pt_not (pt_val (pe_cl c_fits_kind hr (by first | decide | omega) (by rfl) (pa_cons (pv 1) pa_nil)))) (pss_one (ps_raiseE T.x_BadBreaker rfl tk (by rfl))) pss_nil) (pss_cons (ps_if (PW.pt (pw_and (pt_cmpR (op_eqF K hr.units) (pe_ix (ixT K) (pv 1) pe_int (fun _ _ => rfl)) pe_str (nomark _)) (pw_and1 (pt_val (pe_cl c_is_made hr (by first | decide | omega) (by rfl) (pa_cons (pe_ix (ixT K) (pv 1) (pe_un un_neg pe_int) (fun _ _ => rfl)) pa_nil)))))) (pss_one (ps_raiseE T.x_BadBreaker rfl tk (by rfl))) pss_nil) (pss_one (ps_set (i := 1) sc_check_breaker.nd rfl (.inl rfl) (pe_ix (ixT K) (pv 1) (pe_un un_neg pe_int) (fun _ _ => rfl))))))))) (pss_one (ps_if (pt_not (pt_val (pe_cl c_is_plain_breaker hr (by first | decide | omega) (by rfl) (pa_cons (pv 1) pa_nil)))) (pss_one (ps_raiseE T.x_BadBreaker rfl tk (by rfl))) pss_nil))))), ?_⟩
    refine ⟨_, rfl, ?_⟩
    refine ⟨fun m σ H' => ∃ (vi : V) (di : PyData) (depth : Nat), σ = [some v, some vi, some (.int (depth : Int))] ∧ m = 21 - depth ∧ depth ≤ 20 ∧ Same H H' ∧ Dp K H vi di ∧ Gd n di ∧ brOk d = chk (20 - depth) di,
      ⟨_, v, d, 0, rfl, rfl, by omega, Same.refl H, hd, hg, rfl⟩, ?_⟩
    rintro m σ H' ⟨vi, di, depth, rfl, hm, hdep, s1, hdi, hgi, hb⟩
    refine ⟨_, rfl, vi, di, n, rfl, dp_same s1 di hdi, hgi, fun H1 s' => ⟨_, rfl, ?_⟩⟩
    have s2 := s1.trans s'
    clear s1 s'
    cases cm : madeD di with
    | false =>
      rw [chk_plain cm] at hb
      refine ⟨_, rfl, vi, di, n, rfl, dp_same s2 di hdi, hgi, fun H2 s3 => ⟨_, rfl, ?_⟩⟩
      obtain ⟨q1, q2⟩ := q H2 (s2.trans s3)
      cases cp : plainOk di with
      | true =>
        rw [cp] at hb
        exact q1 hb
      | false =>
        rw [cp] at hb
        exact q2 hb
    | true =>
      obtain ⟨z, r, rfl, hz⟩ := made_parts cm
      refine ⟨fun σ H2 => ∃ (vi : V) (di : PyData), σ = [some v, some vi, some (.int ((depth + 1 : Nat) : Int))] ∧ depth + 1 ≤ 20 ∧ Same H H2 ∧ Dp K H vi di ∧ Gd n di ∧ brOk d = chk (20 - (depth + 1)) di, ?_, ?_⟩
      · rintro σ H2 ⟨vi, di, rfl, h1, h2, h3, h4, h5⟩
        exact ⟨21 - (depth + 1), by omega, vi, di, depth + 1, rfl, rfl, h1, h2, h3, h4, h5⟩
      · refine ⟨_, rfl, _, _, rfl, rfl, ?_⟩
        refine ⟨_, rfl, _, _, rfl, rfl, _, rfl, ?_⟩
        by_cases c1 : depth = 20
        · subst c1
          rw [decide_eq_true (show (((20 : Nat) : Int) + 1) > 20 by decide)]
          rw [Nat.sub_self, chk_zero cm] at hb
          exact (q H1 s2).2 hb
        · rw [decide_eq_false (show ¬ ((depth : Int) + 1) > 20 by omega)]
          rw [show 20 - depth = (20 - (depth + 1)) + 1 by omega, chk_succ cm] at hb
          have hfe : fitsD (.tuple (.str z :: r)) = fitZ z r.dropLast := rfl
          rw [hfe] at hb
          refine ⟨_, rfl, vi, z, r, n, rfl, dp_same s2 _ hdi, hgi, hz, fun H2 s' => ⟨_, rfl, ?_⟩⟩
          have s3 := s2.trans s'
          clear s2 s'
          cases cf : fitZ z r.dropLast with
          | false =>
            rw [cf, Bool.false_and] at hb
            exact (q H2 s3).2 hb
          | true =>
            rw [cf, Bool.true_and] at hb
            cases hdi with
            | @tup a ws _ hT hA =>
            obtain ⟨v0, vr, rfl, h0, hr'⟩ := dp_cons hA
            obtain ⟨vl, el, hvl, hmem⟩ := dps_at_last hA (fun z => by cases z)
            have ggl : Gd n (lastD (.tuple (.str z :: r))) := by
              obtain ⟨_, n', rfl, hx⟩ := gd_tup hgi
              exact gd_up (hx _ hmem)
            cases h0
            have hT3 := same_sqt s3 hT
            have hho : headIs "onetime" (.tuple (.str z :: r)) = named "onetime" (.str z) := rfl
            rw [hho] at hb
            refine ⟨_, rfl, a, _, 0, .str z, rfl, rfl, hT3, at_zero, .str z, .str "onetime", .str _, .str _, ?_, str_lay _, str_dep _, _, rfl, ?_⟩
            · obtain ⟨_, n', rfl, hx⟩ := gd_tup hgi
              exact gd_lay (hx _ List.mem_cons_self)
            · show if named "onetime" (.str z) = true then _ else _
              have last : ∀ H3, Same H2 H3 → brOk d = chk (20 - (depth + 1)) (lastD (.tuple (.str z :: r))) → SqT K H3 a (.str z :: vr) → ∃ (vi : V) (di : PyData), [some v, some vl, some (.int ((depth + 1 : Nat) : Int))] = [some v, some vi, some (.int ((depth + 1 : Nat) : Int))] ∧ depth + 1 ≤ 20 ∧ Same H H3 ∧ Dp K H vi di ∧ Gd n di ∧ brOk d = chk (20 - (depth + 1)) di :=
                fun H3 s' hb' _ => ⟨vl, _, rfl, by omega, s3.trans s', hvl, ggl, hb'⟩
              cases co : named "onetime" (.str z) with
              | false =>
                rw [co, Bool.false_and, Bool.not_false, Bool.true_and] at hb
                refine ⟨_, rfl, 1, rfl, a, _, -1, vl, rfl, rfl, hT3, el, ?_⟩
                exact last H2 (Same.refl H2) hb hT3
              | true =>
                rw [co, Bool.true_and] at hb
                refine ⟨_, rfl, 1, rfl, a, _, -1, vl, rfl, rfl, hT3, el, vl, _, n, rfl, dp_same s3 _ hvl, ggl, fun H3 s' => ⟨_, rfl, ?_⟩⟩
                cases cl : madeD (lastD (.tuple (.str z :: r))) with
                | true =>
                  rw [cl] at hb
                  exact (q H3 (s3.trans s')).2 hb
                | false =>
                  rw [cl, Bool.not_false, Bool.true_and] at hb
                  refine ⟨_, rfl, 1, rfl, a, _, -1, vl, rfl, rfl, same_sqt s' hT3, el, ?_⟩
                  exact last H3 s' hb (same_sqt s' hT3)

end
/-! ### the most asks -/
def askB (d : PyData) : Nat := if headIs "ask" d then 1 else 0
def paN : Nat → PyData → Nat
  | 0, _ => 0
  | n + 1, d => askB d + ((kidsD d).map (paN n)).foldl max 0
def item (i : Nat) : PyData → PyData
  | .tuple xs => xs.getD i .none
  | _ => .none
def intOf : PyData → Int
  | .int i => i
  | _ => 0
/-- how the program counts, so many made ones allowed -/
def progM : Nat → PyData → Int
  | 0, d => if headIs "counter" d then intOf (item 2 d) else if madeD d then 0 else (paN 60 d : Int)
  | n + 1, d => if headIs "marks" d then 1 + progM n (lastD d) else if headIs "secrets" d then progM n (lastD d) else if headIs "counter" d then intOf (item 2 d) else if madeD d then 0 else (paN 60 d : Int)
theorem fold_max (l : List Nat) : ∀ m a : Nat, l.foldl max (max m a) = max (l.foldl max m) a := by
  induction l with
  | nil => intro m a; rfl
  | cons x l ih =>
    intro m a
    rw [List.foldl_cons, List.foldl_cons, show max (max m a) x = max (max m x) a by omega, ih]
theorem fold_add (a : Nat) (l : List Nat) : ∀ b : Nat, a + l.foldl max b = (l.map (a + ·)).foldl max (a + b) := by
  induction l with
  | nil => intro b; rfl
  | cons x l ih =>
    intro b
    rw [List.foldl_cons, List.map_cons, List.foldl_cons, ih, show a + max b x = max (a + b) (a + x) by omega]
theorem fold_pop (most a : Nat) (ys ks : List Nat) : (ys ++ [a + ks.foldl max 0]).foldl max most = (ys ++ ks.map (a + ·)).foldl max (max most a) := by
  rw [List.foldl_append, List.foldl_append, fold_max, List.foldl_cons, List.foldl_nil, fold_add, Nat.add_zero]
  rw [show max (ys.foldl max most) a = max a (ys.foldl max most) by omega, fold_max]
  omega
abbrev Ent2 : Type := Addr × V × PyData × Nat × Nat
def valE (x : Ent2) : Nat := x.2.2.2.1 + paN (61 - x.2.2.2.2) x.2.2.1
def szE (xs : List Ent2) : Nat := (xs.map fun x => szN (61 - x.2.2.2.2) x.2.2.1).sum
theorem szE_app (xs ys : List Ent2) : szE (xs ++ ys) = szE xs + szE ys := by
  unfold szE
  rw [List.map_append, List.sum_append]
theorem szE_len : ∀ xs : List Ent2, xs.length ≤ szE xs
  | [] => Nat.le_refl 0
  | x :: xs => by
    have h1 := szE_len xs
    have h2 := sz_pos (61 - x.2.2.2.2) x.2.2.1
    show xs.length + 1 ≤ szN (61 - x.2.2.2.2) x.2.2.1 + szE xs
    omega
theorem ents_vals {es : List Ent2} {ds : List PyData} {a k : Nat} (h : es.map (fun e => e.2.2) = ds.map fun d => (d, a, k + 1)) : es.map valE = (ds.map (paN (60 - k))).map (a + ·) ∧ szE es = (ds.map (szN (60 - k))).sum := by
  constructor
  · have h1 : es.map valE = (es.map (fun e => e.2.2)).map (fun e => e.2.1 + paN (61 - e.2.2) e.1) := by
      rw [List.map_map]
      rfl
    rw [h1, h, List.map_map, List.map_map]
    have h2 : 61 - (k + 1) = 60 - k := by omega
    show ds.map (fun d => a + paN (61 - (k + 1)) d) = _
    rw [h2]
    rfl
  · unfold szE
    have h1 : es.map (fun x => szN (61 - x.2.2.2.2) x.2.2.1) = (es.map (fun e => e.2.2)).map (fun e => szN (61 - e.2.2) e.1) := by
      rw [List.map_map]
      rfl
    rw [h1, h, List.map_map]
    have h2 : 61 - (k + 1) = 60 - k := by omega
    show (ds.map (fun d => szN (61 - (k + 1)) d)).sum = _
    rw [h2]
theorem okN_kids {k : Nat} {d : PyData} (hk : k ≤ 60) (h : okN (61 - k) d = true) : looksOk d = true ∧ ∀ e ∈ kidsD d, okN (60 - k) e = true := by
  rw [show 61 - k = (60 - k) + 1 by omega] at h
  have h' : (looksOk d && (kidsD d).all (okN (60 - k))) = true := h
  rw [Bool.and_eq_true, List.all_eq_true] at h'
  exact h'
theorem okN_pos {n : Nat} {d : PyData} (h : okN n d = true) : 1 ≤ n := by
  cases n with
  | zero => cases h
  | succ n => omega
theorem looks_head {d : PyData} (h : looksOk d = true) : ∃ k r, d = .tuple (k :: r) := by
  unfold looksOk at h
  split at h
  · exact ⟨_, _, rfl⟩
  · cases h

theorem chk_head {n : Nat} {d : PyData} (h : chk n d = true) : ∃ z r, d = .tuple (.str z :: r) := by
  cases c : madeD d with
  | true =>
    obtain ⟨z, r, rfl, _⟩ := made_parts c
    exact ⟨z, r, rfl⟩
  | false =>
    rw [chk_plain c] at h
    unfold plainOk at h
    rw [Bool.and_eq_true] at h
    have h1 : (looksOk d && _) = true := h.1
    rw [Bool.and_eq_true] at h1
    obtain ⟨k, r, rfl⟩ := looks_head h1.1
    have h2 := h1.1
    rw [looks_eq] at h2
    cases c1 : named "say" k with
    | true => exact ⟨_, r, by rw [named_eq c1]⟩
    | false =>
      rw [c1, if_neg (by decide)] at h2
      cases c2 : named "toss" k with
      | true => exact ⟨_, r, by rw [named_eq c2]⟩
      | false =>
        rw [c2, if_neg (by decide)] at h2
        cases c3 : named "look" k with
        | true => exact ⟨_, r, by rw [named_eq c3]⟩
        | false =>
          rw [c3, if_neg (by decide), Bool.and_eq_true] at h2
          exact ⟨_, r, by rw [named_eq h2.1]⟩
theorem head_str {x z : Str} {r : List PyData} : headIs x (.tuple (.str z :: r)) = decide (z = x) := named_str
/-- one step of the count, at a name -/
theorem progM_marks {n : Nat} {r : List PyData} : progM (n + 1) (.tuple (.str "marks" :: r)) = 1 + progM n (lastD (.tuple (.str "marks" :: r))) := by
  rw [progM, head_str, decide_eq_true rfl, if_pos rfl]
theorem progM_secrets {n : Nat} {r : List PyData} : progM (n + 1) (.tuple (.str "secrets" :: r)) = progM n (lastD (.tuple (.str "secrets" :: r))) := by
  rw [progM, head_str, head_str, decide_eq_false (by decide), decide_eq_true rfl, if_neg (by decide), if_pos rfl]
theorem progM_other {n : Nat} {z : Str} {r : List PyData} (h1 : z ≠ "marks") (h2 : z ≠ "secrets") : progM n (.tuple (.str z :: r)) = if z = "counter" then intOf (item 2 (.tuple (.str z :: r))) else if madeD (.tuple (.str z :: r)) then 0 else (paN 60 (.tuple (.str z :: r)) : Int) := by
  cases n with
  | zero =>
    rw [progM, head_str]
    by_cases c : z = "counter"
    · rw [decide_eq_true c, if_pos c, if_pos rfl]
    · rw [decide_eq_false c, if_neg c, if_neg (by decide)]
  | succ n =>
    rw [progM, head_str, head_str, head_str, decide_eq_false h1, decide_eq_false h2, if_neg (by decide), if_neg (by decide)]
    by_cases c : z = "counter"
    · rw [decide_eq_true c, if_pos c, if_pos rfl]
    · rw [decide_eq_false c, if_neg c, if_neg (by decide)]
theorem made_num {z : Str} {r : List PyData} (h : z ∈ numK) : madeD (.tuple (.str z :: r)) = true := by
  show (decide (z ∈ numK) || decide (z ∈ fitK)) = true
  rw [decide_eq_true h, Bool.true_or]
theorem chk_made {n : Nat} {z : Str} {r : List PyData} (hz : madeD (.tuple (.str z :: r)) = true) (h : chk n (.tuple (.str z :: r)) = true) : ∃ m, n = m + 1 ∧ fitZ z r.dropLast = true ∧ chk m (lastD (.tuple (.str z :: r))) = true := by
  cases n with
  | zero =>
    rw [chk_zero hz] at h
    cases h
  | succ m =>
    rw [chk_succ hz, Bool.and_eq_true, Bool.and_eq_true] at h
    exact ⟨m, rfl, h.1, h.2.2⟩
theorem counter_parts {r : List PyData} (h : fitZ "counter" r.dropLast = true) : ∃ l c m x, r = [.int l, .int c, .int m, x] ∧ 1 ≤ c ∧ c ≤ 256 := by
  have h' : numsOk r.dropLast [(1, 40), (1, 256), (1, 40)] = true := h
  have hl : r.dropLast.length = 3 := by
    by_cases c : r.dropLast.length = [((1 : Int), (40 : Int)), (1, 256), (1, 40)].length
    · exact c
    · rw [nums_len c] at h'
      cases h'
  rw [List.length_dropLast] at hl
  match r, hl with
  | [a, b, c, x], _ =>
    have h2 : (whole a 1 40 && (whole b 1 256 && (whole c 1 40 && true))) = true := h'
    simp only [Bool.and_eq_true] at h2
    obtain ⟨l, rfl, _⟩ := whole_int h2.1
    obtain ⟨c', rfl, c1, c2⟩ := whole_int h2.2.1
    obtain ⟨m, rfl, _⟩ := whole_int h2.2.2.1
    exact ⟨l, c', m, x, rfl, c1, c2⟩

def bsz : Nat → Nat
  | 0 => 0
  | n + 1 => 1 + 3 * bsz n
/-- tuples, texts, whole numbers, none large -/
def Pz : Nat → PyData → Prop
  | 0, d => match d with
    | .int i => i.natAbs < 10 ^ 100
    | .str x => okS 100 x
    | _ => False
  | n + 1, d => match d with
    | .int i => i.natAbs < 10 ^ 100
    | .str x => okS 100 x
    | .tuple xs => xs.length ≤ 100 ∧ ∀ x ∈ xs, Pz n x
    | _ => False
theorem pz_str {n : Nat} {x : Str} : Pz n (.str x) ↔ okS 100 x := by cases n <;> exact Iff.rfl
theorem pz_int {n : Nat} {i : Int} (h : i.natAbs ≤ 5000) : Pz n (.int i) := by
  have h' : i.natAbs < 10 ^ 100 := Nat.lt_of_le_of_lt h (by decide)
  cases n <;> exact h'
theorem pz_pl : ∀ {n : Nat} {d : PyData}, Pz n d → Pl n d
  | 0, .int _, _ => trivial
  | 0, .str _, h => ⟨h.1, Nat.le_trans h.2 (by decide)⟩
  | n + 1, .int _, _ => trivial
  | n + 1, .str _, h => ⟨h.1, Nat.le_trans h.2 (by decide)⟩
  | n + 1, .tuple xs, h => ⟨Nat.le_trans h.1 (by decide), fun x hx => pz_pl (h.2 x hx)⟩
theorem pz_gz : ∀ {n : Nat} {d : PyData}, Pz n d → Gz 100 n d
  | 0, .int _, h => h
  | 0, .str _, h => h
  | n + 1, .int _, h => h
  | n + 1, .str _, h => h
  | n + 1, .tuple xs, h => ⟨h.1, fun x hx => pz_gz (h.2 x hx)⟩
theorem pz_up : ∀ {n : Nat} {d : PyData}, Pz n d → Pz (n + 1) d
  | 0, .int _, h => h
  | 0, .str _, h => h
  | n + 1, .int _, h => h
  | n + 1, .str _, h => h
  | n + 1, .tuple xs, h => ⟨h.1, fun x hx => pz_up (h.2 x hx)⟩
theorem pz_le {n m : Nat} {d : PyData} (h : Pz n d) (hm : n ≤ m) : Pz m d := by
  induction hm with
  | refl => exact h
  | step _ ih => exact pz_up ih
theorem Wf.pz {n m : Nat} {rows : List (List Bool)} (h : Wf n m rows) (hn : n ≤ 4) : Pz 2 (tabD n m rows) := by
  have hp : 2 ^ n ≤ 16 := two_pow_le (b := 4) hn
  have h1 := h.len
  have h2 := h.m2
  refine ⟨(by show 4 ≤ 100; decide), fun x hx => ?_⟩
  rcases List.mem_cons.mp hx with e | hx
  · rw [e]
    exact pz_str.mpr ⟨by decide +kernel, by decide +kernel⟩
  rcases List.mem_cons.mp hx with e | hx
  · rw [e]
    exact pz_int (by omega)
  rcases List.mem_cons.mp hx with e | hx
  · rw [e]
    exact pz_int (by omega)
  · rw [List.mem_singleton.mp hx]
    refine ⟨by rw [List.length_map]; omega, fun y hy => ?_⟩
    obtain ⟨r, hr, rfl⟩ := List.mem_map.mp hy
    refine pz_str.mpr ⟨(okT_sb (by have := h.row r hr; omega)).1, ?_⟩
    rw [sb_len, h.row r hr]
    omega
/-- a plain breaker, so deep and so large at most, on a heap -/
def PG (K : PySem.W.Frag) (G : Hp) (j : Nat) (v : V) : Prop := ∃ D, Dp K G v D ∧ Pz (3 * j) D ∧ okN j D = true ∧ szN j D ≤ bsz j
def PB (K : PySem.W.Frag) (a : Addr) (H : Hp) (j : Nat) (v : V) : Prop := PG K (off a H) j v
theorem PG.same {K : PySem.W.Frag} {G G' : Hp} {j : Nat} {v : V} (h : PG K G j v) (k : Same G G') : PG K G' j v := by
  obtain ⟨D, h1, h2⟩ := h
  exact ⟨D, dp_same k D h1, h2⟩
theorem PB.keep {K : PySem.W.Frag} {a : Addr} {H H' : Hp} {j : Nat} {v : V} (h : PB K a H j v) (k : Keep a H H') : PB K a H' j v := PG.same h k.off
theorem pg_all {K : PySem.W.Frag} {G : Hp} {j : Nat} : ∀ {ws : List V}, (∀ v ∈ ws, PG K G j v) → ∃ ds, DpAll K G ws ds ∧ ∀ x ∈ ds, Pz (3 * j) x ∧ okN j x = true ∧ szN j x ≤ bsz j
  | [], _ => ⟨[], .nil, fun x hx => (nomatch hx)⟩
  | v :: ws, h => by
    obtain ⟨D, h1, h2⟩ := h v List.mem_cons_self
    obtain ⟨ds, g1, g2⟩ := pg_all fun x hx => h x (List.mem_cons_of_mem _ hx)
    refine ⟨D :: ds, .cons h1 g1, fun x hx => ?_⟩
    rcases List.mem_cons.mp hx with e | hx
    · exact e ▸ h2
    · exact g2 x hx
theorem sqt_offL {K : PySem.W.Frag} {L p : Addr} {H : Hp} {xs ys : List V} (e : H L = some (.lst ys)) (s : SqT K H p xs) : SqT K (off L H) p xs := by
  rcases s with (h | ⟨o, h⟩) | h
  · have hp : p ≠ L := fun z => by
      rw [z, e] at h
      cases h
    exact .inl (.inl (by rw [off_ne hp]; exact h))
  · have hp : p ≠ L := fun z => by
      rw [z, e] at h
      cases h
    exact .inl (.inr ⟨o, by rw [off_ne hp]; exact h⟩)
  · exact .inr h
mutual
theorem dp_offL {K : PySem.W.Frag} {L : Addr} {H : Hp} {ys : List V} (e : H L = some (.lst ys)) : ∀ (D : PyData) {n : Nat} {v : V}, Pl n D → Dp K H v D → Dp K (off L H) v D
  | .int _, _, _, _, .int i => .int i
  | .str _, _, _, _, .str x => .str x
  | .tuple xs, _, _, h, .tup hs ha => .tup (sqt_offL e hs) (dps_offL e xs (by
      obtain ⟨_, m, _, hx⟩ := pl_tup h
      exact fun x hx' => ⟨m, hx x hx'⟩) ha)
  | .none, n, _, h, _ => by cases n <;> exact h.elim
  | .bool _, n, _, h, _ => by cases n <;> exact h.elim
  | .list _, n, _, h, _ => by cases n <;> exact h.elim
  | .dict _, n, _, h, _ => by cases n <;> exact h.elim
theorem dps_offL {K : PySem.W.Frag} {L : Addr} {H : Hp} {ys : List V} (e : H L = some (.lst ys)) : ∀ (ds : List PyData) {vs : List V}, (∀ x ∈ ds, ∃ n, Pl n x) → DpAll K H vs ds → DpAll K (off L H) vs ds
  | [], _, _, .nil => .nil
  | d :: ds, _, h, .cons h1 t => by
    obtain ⟨n, hn⟩ := h d List.mem_cons_self
    exact .cons (dp_offL e d hn h1) (dps_offL e ds (fun x hx => h x (List.mem_cons_of_mem _ hx)) t)
end
theorem PG.offL {K : PySem.W.Frag} {G : Hp} {L : Addr} {ys : List V} {j : Nat} {v : V} (h : PG K G j v) (e : G L = some (.lst ys)) : PG K (off L G) j v := by
  obtain ⟨D, h1, h2, h3⟩ := h
  exact ⟨D, dp_offL e D (pz_pl h2) h1, h2, h3⟩
theorem pl_up : ∀ {n : Nat} {d : PyData}, Pl n d → Pl (n + 1) d
  | 0, .int _, h => h
  | 0, .str _, h => h
  | n + 1, .int _, h => h
  | n + 1, .str _, h => h
  | n + 1, .tuple xs, h => ⟨h.1, fun x hx => pl_up (h.2 x hx)⟩
theorem pl_le {n m : Nat} {d : PyData} (h : Pl n d) (hm : n ≤ m) : Pl m d := by
  induction hm with
  | refl => exact h
  | step _ ih => exact pl_up ih
def spParts8 (K : PySem.W.Frag) : Sp := fun vs H Q _ => ∃ (a d : Addr) (len : Nat), vs = [.ref a, .int (len : Int)] ∧ len ≤ 100 ∧ Hnd H a d ∧ ∀ (p : Addr) (ds : List V × List PyData) (H' : Hp), DpAll K (fun _ => none) ds.1 ds.2 → H' p = some (.tup ds.1) → p ≠ a → (∀ x ∈ ds.2, partOk x = true ∧ Pz 0 x) → ds.2.length ≤ 100 → Hnd H' a d → Keep a H H' → Q (.ref p) H'
def spBr (K : PySem.W.Frag) (j : Nat) : Sp := fun vs H Q _ => ∃ (a d : Addr) (dep asks len said : Nat), vs = [.ref a, .int (dep : Int), .int (asks : Int), .int (len : Int), .int (said : Int)] ∧ dep ≤ j ∧ len ≤ 90 ∧ said ≤ 90 ∧ Hnd H a d ∧ ∀ v H', PB K a H' (dep + 1) v → Hnd H' a d → Keep a H H' → Q v H'
def spBrB (K : PySem.W.Frag) (j : Nat) : Sp := fun vs H Q E => 1 ≤ j ∧ spBr K (j - 1) vs H Q E
theorem dps_none {K : PySem.W.Frag} {H : Hp} {vs : List V} {ds : List PyData} (h : DpAll K (fun _ => none) vs ds) : DpAll K H vs ds := dps_same (fun _ _ e => by cases e) ds h
theorem dp_new {K : PySem.W.Frag} {a p : Addr} {H : Hp} {vs : List V} {ds : List PyData} (pa : p ≠ a) (e : H p = some (.tup vs)) (h : DpAll K (off a H) vs ds) : Dp K (off a H) (.ref p) (.tuple ds) := .tup (.inl (.inl (by rw [off_ne pa]; exact e))) h
theorem parts_all {ds : List PyData} (h : ∀ x ∈ ds, partOk x = true ∧ Pz 0 x) : partsOk (.tuple ds) = true := by
  show ds.all partOk = true
  rw [List.all_eq_true]
  exact fun x hx => (h x hx).1
theorem gd_any {n : Nat} {d : PyData} (h : Gd 0 d) : Gd n d := gd_le h (Nat.zero_le _)
theorem pz_parts {ds : List PyData} {n : Nat} (h : ∀ x ∈ ds, partOk x = true ∧ Pz 0 x) (hl : ds.length ≤ 100) : Pz (n + 1) (.tuple ds) := ⟨hl, fun x hx => pz_le (h x hx).2 (Nat.zero_le _)⟩
theorem pz_word {x : Str} (h : PySem.PyData.strOk x = true := by decide +kernel) (h2 : x.length ≤ 100 := by decide +kernel) {n : Nat} : Pz n (.str x) := pz_str.mpr ⟨h, h2⟩
theorem kids_say {r : List PyData} : kidsD (.tuple (.str "say" :: r)) = r.drop 1 := kids_other (by rw [named_str]; decide)
theorem kids_look {r : List PyData} : kidsD (.tuple (.str "look" :: r)) = r.drop 1 := kids_other (by rw [named_str]; decide)
theorem kids_ask {r : List PyData} : kidsD (.tuple (.str "ask" :: r)) = r.drop 1 := kids_other (by rw [named_str]; decide)
theorem looks_say {r : List PyData} : looksOk (.tuple (.str "say" :: r)) = sayOk r := by
  rw [looks_eq, named_str, if_pos (by decide)]
theorem looks_toss {r : List PyData} : looksOk (.tuple (.str "toss" :: r)) = tossOk r := by
  rw [looks_eq, named_str, named_str, if_neg (by decide), if_pos (by decide)]
theorem looks_look {r : List PyData} : looksOk (.tuple (.str "look" :: r)) = lookOk r := by
  rw [looks_eq, named_str, named_str, named_str, if_neg (by decide), if_neg (by decide), if_pos (by decide)]
theorem looks_ask {r : List PyData} : looksOk (.tuple (.str "ask" :: r)) = askOk r := by
  rw [looks_eq, named_str, named_str, named_str, named_str, if_neg (by decide), if_neg (by decide), if_neg (by decide), decide_eq_true rfl, Bool.true_and]
theorem ok_say {j : Nat} {ds : List PyData} (h : partsOk (.tuple ds) = true) : okN (j + 1) (.tuple [.str "say", .tuple ds]) = true ∧ szN (j + 1) (.tuple [.str "say", .tuple ds]) = 1 := by
  constructor
  · show (looksOk _ && (kidsD _).all _) = true
    rw [looks_say, kids_say, show sayOk [.tuple ds] = partsOk (.tuple ds) from rfl, h]
    rfl
  · show 1 + _ = 1
    rw [kids_say]
    rfl
theorem ok_look {j : Nat} {i : Int} {x y : PyData} (h0 : 0 ≤ i) (h1 : i ≤ 9999) (hx : okN j x = true) (hy : okN j y = true) : okN (j + 1) (.tuple [.str "look", .int i, x, y]) = true ∧ szN (j + 1) (.tuple [.str "look", .int i, x, y]) = 1 + (szN j x + szN j y) := by
  constructor
  · show (looksOk _ && (kidsD _).all _) = true
    rw [looks_look, kids_look, show lookOk [.int i, x, y] = (decide (0 ≤ i) && decide (i ≤ 9999)) from rfl, decide_eq_true h0, decide_eq_true h1]
    show (okN j x && (okN j y && true)) = true
    rw [hx, hy]
    rfl
  · show 1 + _ = _
    rw [kids_look]
    show 1 + (szN j x + (szN j y + 0)) = _
    omega
theorem ok_askD {j : Nat} {ds : List PyData} {x : PyData} (h : partsOk (.tuple ds) = true) (hx : okN j x = true) : okN (j + 1) (.tuple [.str "ask", .tuple ds, x]) = true ∧ szN (j + 1) (.tuple [.str "ask", .tuple ds, x]) = 1 + szN j x := by
  constructor
  · show (looksOk _ && (kidsD _).all _) = true
    rw [looks_ask, kids_ask, show askOk [.tuple ds, x] = partsOk (.tuple ds) from rfl, h]
    show (okN j x && true) = true
    rw [hx]
    rfl
  · show 1 + _ = _
    rw [kids_ask]
    show 1 + (szN j x + 0) = _
    omega
theorem ok_toss {j : Nat} {xs : List PyData} (h1 : 1 ≤ xs.length) (h2 : xs.length ≤ 64) (hx : ∀ x ∈ xs, okN j x = true) : okN (j + 1) (.tuple [.str "toss", .tuple xs]) = true ∧ szN (j + 1) (.tuple [.str "toss", .tuple xs]) = 1 + (xs.map (szN j)).sum := by
  have hn : named "toss" (.str "toss") = true := by rw [named_str]; decide
  constructor
  · show (looksOk _ && (kidsD _).all _) = true
    rw [looks_toss, kids_toss hn, show tossOk [.tuple xs] = (decide ((1 : Int) ≤ (xs.length : Int)) && decide ((xs.length : Int) ≤ 64)) from rfl, decide_eq_true (by omega), decide_eq_true (by omega), List.all_eq_true.mpr hx]
    rfl
  · show 1 + _ = _
    rw [kids_toss hn]
theorem sum_le {α : Type} {f : α → Nat} {m : Nat} : ∀ {l : List α}, (∀ x ∈ l, f x ≤ m) → (l.map f).sum ≤ l.length * m
  | [], _ => Nat.zero_le _
  | x :: l, h => by
    rw [List.map_cons, List.sum_cons, List.length_cons, Nat.succ_mul]
    have h1 := h x List.mem_cons_self
    have h2 := sum_le fun y hy => h y (List.mem_cons_of_mem x hy)
    omega

def spMd (K : PySem.W.Frag) : Sp := fun vs H Q _ => ∃ (a d : Addr) (v : V) (D : PyData) (n m : Nat), vs = [.ref a, v] ∧ Dp K (off a H) v D ∧ Pz n D ∧ chk m D = true ∧ Hnd H a d ∧
  ∀ v' D' H', Dp K (off a H') v' D' → Pz (n + 3) D' → madeD D' = true → chk (m + 1) D' = true → Hnd H' a d → Keep a H H' → Q v' H'
theorem chk_of {z : Str} {own : List PyData} {D : PyData} {m : Nat} (hz : madeZ z = true) (hf : fitZ z own = true) (ho : z = "onetime" → madeD D = false) (hc : chk m D = true) : chk (m + 1) (.tuple (.str z :: (own ++ [D]))) = true := by
  have hm : madeD (.tuple (.str z :: (own ++ [D]))) = true := hz
  have e1 : fitsD (.tuple (.str z :: (own ++ [D]))) = fitZ z own := by
    show fitZ z (own ++ [D]).dropLast = _
    rw [List.dropLast_concat]
  have e2 : lastD (.tuple (.str z :: (own ++ [D]))) = D := by
    show (.str z :: (own ++ [D])).getLastD .none = D
    rw [List.getLastD_eq_getLast?, ← List.cons_append, List.getLast?_concat]
    rfl
  rw [chk_succ hm, e1, e2, hf, hc, head_str]
  by_cases h : z = "onetime"
  · rw [ho h]
    simp
  · rw [decide_eq_false h]
    rfl
theorem chk_mono {d : PyData} : ∀ {n : Nat}, chk n d = true → chk (n + 1) d = true := by
  intro n
  induction n generalizing d with
  | zero =>
    intro h
    cases c : madeD d with
    | true =>
      rw [chk_zero c] at h
      cases h
    | false =>
      rw [chk_plain c] at h ⊢
      exact h
  | succ n ih =>
    intro h
    cases c : madeD d with
    | true =>
      rw [chk_succ c, Bool.and_eq_true, Bool.and_eq_true] at h ⊢
      exact ⟨h.1, h.2.1, ih h.2.2⟩
    | false =>
      rw [chk_plain c] at h ⊢
      exact h
theorem chk_le {n m : Nat} {d : PyData} (h : chk n d = true) (hm : n ≤ m) : chk m d = true := by
  induction hm with
  | refl => exact h
  | step _ ih => exact chk_mono ih
theorem whole_in {i lo hi : Int} (h1 : lo ≤ i) (h2 : i ≤ hi) : whole (.int i) lo hi = true := by
  show (decide (lo ≤ i) && decide (i ≤ hi)) = true
  rw [decide_eq_true h1, decide_eq_true h2]
  rfl
theorem fit_one {z : Str} {i : Int} {hi : Int} (hz : z ∈ numK) (hn : numOf z = [(1, hi)]) (h1 : 1 ≤ i) (h2 : i ≤ hi) : fitZ z [.int i] = true := by
  unfold fitZ
  rw [if_pos hz, hn]
  show (whole (.int i) 1 hi && true) = true
  rw [whole_in h1 h2]
  rfl
theorem fit_two {z : Str} {i j : Int} {hi hj : Int} (hz : z ∈ numK) (hn : numOf z = [(1, hi), (1, hj)]) (h1 : 1 ≤ i) (h2 : i ≤ hi) (h3 : 1 ≤ j) (h4 : j ≤ hj) : fitZ z [.int i, .int j] = true := by
  unfold fitZ
  rw [if_pos hz, hn]
  show (whole (.int i) 1 hi && (whole (.int j) 1 hj && true)) = true
  rw [whole_in h1 h2, whole_in h3 h4]
  rfl
theorem fit_counter {i j k : Int} (h1 : 1 ≤ i) (h2 : i ≤ 40) (h3 : 1 ≤ j) (h4 : j ≤ 256) (h5 : 1 ≤ k) (h6 : k ≤ 40) : fitZ "counter" [.int i, .int j, .int k] = true := by
  show (whole (.int i) 1 40 && (whole (.int j) 1 256 && (whole (.int k) 1 40 && true))) = true
  rw [whole_in h1 h2, whole_in h3 h4, whole_in h5 h6]
  rfl
theorem fit_longer {n : Nat} {rows : List (List Bool)} {k : Int} (h : Wf n (n + 1) rows) (h1 : 1 ≤ k) (h2 : k ≤ 20) : fitZ "longer" [tabD n (n + 1) rows, .int k] = true := by
  show (genOk (tabD n (n + 1) rows) && (decide (((n + 1 : Nat) : Int) = (n : Int) + 1) && whole (.int k) 1 20)) = true
  rw [wf_gen h, whole_in h1 h2, decide_eq_true (by omega)]
  rfl
theorem fit_tree {n : Nat} {rows : List (List Bool)} {k q : Int} (h : Wf n (2 * n) rows) (hn : n ≤ 4) (h1 : 1 ≤ k) (h2 : k ≤ 8) (h3 : 1 ≤ q) (h4 : q ≤ 1000) : fitZ "tree" [tabD n (2 * n) rows, .int k, .int q] = true := by
  show (genOk (tabD n (2 * n) rows) && (decide (((2 * n : Nat) : Int) = 2 * (n : Int)) && (decide ((n : Int) ≤ 8) && (whole (.int k) 1 (if 12 - (n : Int) < 8 then 12 - (n : Int) else 8) && whole (.int q) 1 1000)))) = true
  rw [wf_gen h, if_neg (by omega), whole_in h1 h2, whole_in h3 h4, decide_eq_true (by omega), decide_eq_true (by omega)]
  rfl
theorem fit_onetime {n m : Nat} {rows : List (List Bool)} {k : Int} (h : Wf n m rows) (h1 : 1 ≤ k) (h2 : k ≤ 4) : fitZ "onetime" [tabD n m rows, .int k] = true := by
  show (genOk (tabD n m rows) && whole (.int k) 1 4) = true
  rw [wf_gen h, whole_in h1 h2]
  rfl
theorem fit_opening {bs : List Bool} (h1 : 1 ≤ bs.length) (h2 : bs.length ≤ 40) : fitZ "opening" [.str (sb bs)] = true := by
  show (decide ((1 : Int) ≤ ((sb bs).length : Int)) && (decide (((sb bs).length : Int) ≤ 40) && (decide ((([PyData.str (sb bs)].length : Nat) : Int) = 1) && ([PyData.str (sb bs)].all (bitRow ((sb bs).length : Int)))))) = true
  rw [sb_len, decide_eq_true (by omega), decide_eq_true (by omega), decide_eq_true (show (([PyData.str (sb bs)].length : Nat) : Int) = 1 from rfl)]
  show (bitRow (bs.length : Int) (.str (sb bs)) && true) = true
  rw [bitRow_sb rfl]
  rfl

section
variable {P : Program} {w : World} {K : PySem.W.Frag} {mg : Str → Option Value} {base : Heap} {cs : Cs}
theorem ok_lawparts {f : Addr} {fd : FuncData} (D : Df K mg "_law_parts" s_law_parts ["hand", "length"] f fd) (T : Txt K w mg cs) (c_law_take : Cl P w K mg base CX0 1 "_law_take" spTake) : FnOk P w K mg base CX0 2 f fd ["hand", "length"] (spParts8 K) := by
  refine D.fn.ok sc_law_parts (fun vs H Q E h => ?_) (fun cdv A outer s H vs Q E hr h => ?_)
  · obtain ⟨a, d, len, rfl, _⟩ := h
    rfl
  · obtain ⟨a, d, len, rfl, hlen, hh, q⟩ := h
    refine ⟨_, (pss_cons (ps_set (i := 2) sc_law_parts.nd rfl (.inl rfl) (pe_lst pa_nil)) (pss_cons (ps_for PassesOwn.never rfl (pi_range1 (by rfl) T.n_range (pa_cons (pv 1) pa_nil)) (pg_name (i := 3) sc_law_parts.nd rfl (.inl rfl)) (pss_cons (ps_set (i := 4) sc_law_parts.nd rfl (.inl rfl) (pe_cl c_law_take hr (by first | decide | omega) (by rfl) (pa_cons (pv 0) (pa_cons pe_int pa_nil)))) (pss_one (ps_if (pt_cmpR op_lt (pv 4) pe_int (nomark _)) (pss_one (ps_expr (pe_bm PySem.F.plainAttrs_list PySem.F.slot_list_append PySem.F.type_list_append mt_append (pv 2) (pa_cons (pe_ix (ixL K) (pe_lst (pa_cons pe_str (pa_cons pe_str pa_nil))) (pv 4) (fun _ _ => rfl)) pa_nil)))) (pss_one (ps_expr (pe_bm PySem.F.plainAttrs_list PySem.F.slot_list_append PySem.F.type_list_append mt_append (pv 2) (pa_cons (pe_cl c_law_take hr (by first | decide | omega) (by rfl) (pa_cons (pv 0) (pa_cons pe_int pa_nil))) pa_nil)))))))) (pss_one (ps_ret (pe_callTy (tupOf K) (by rfl) T.n_tuple (by decide +kernel) (pa_cons (pv 2) pa_nil)))))), ?_⟩
    refine ⟨Nat.zero_le _, fun L nL => ?_⟩
    have hL := hh.ne nL
    refine ⟨_, rfl, _, rfl, by omega, by omega, for_range (lo := 0) (n := len) (fun i σ H' => ∃ (ws : List V) (ds : List PyData) (y3 y4 : Option V), σ = [some (.ref a), some (.int (len : Int)), some (.ref L), y3, y4] ∧ ws.length = i ∧ DpAll K (fun _ => none) ws ds ∧
      (∀ x ∈ ds, partOk x = true ∧ Pz 0 x) ∧ H' L = some (.lst ws) ∧ Hnd H' a d ∧ Keep a H H') ?_ ?_ ?_⟩
    · exact ⟨[], [], none, none, rfl, rfl, .nil, fun x hx => (nomatch hx), upd_same, hh.new nL, Keep.new nL⟩
    · rintro i σ H' hi ⟨ws, ds, y3, y4, rfl, hl, hA, hx, eL, h1, k1⟩
      refine ⟨_, rfl, a, d, 5, rfl, by decide, h1, fun r H1 l1 u1 n1 kk1 => ?_⟩
      have eL1 := kk1 _ _ eL hL.1
      have hsz : ws.length < sizeLine := Nat.lt_of_lt_of_le (show ws.length < 10000 by omega) (by decide)
      refine ⟨_, rfl, _, _, rfl, rfl, _, rfl, ite2 (fun c => ?_) (fun c => ?_)⟩
      · have hr2 : r < 2 := of_decide_eq_true c
        refine ⟨_, rfl, .inl ⟨rfl, _, .inl (.inl eL1)⟩, ?_⟩
        refine ⟨by decide, fun p np => ?_⟩
        have npL : p ≠ L := (ne_of_none eL1 np).symm
        obtain ⟨z, hz, hzp⟩ : ∃ z : Str, atI [V.str "0", V.str "1"] r = some (V.str z) ∧ (z = "0" ∨ z = "1") := by
          have er : r = 0 ∨ r = 1 := by omega
          rcases er with e | e <;> subst e
          · exact ⟨"0", rfl, .inl rfl⟩
          · exact ⟨"1", rfl, .inr rfl⟩
        refine ⟨_, rfl, p, _, r, .str z, rfl, rfl, .inl (.inl upd_same), hz, L, _, _, rfl, rfl, by rw [upd_ne npL.symm]; exact eL1, hsz, ?_⟩
        refine ⟨ws ++ [.str z], ds ++ [.str z], _, _, rfl, by rw [List.length_append, hl]; rfl, dpAll_snoc hA (.str z), ?_, upd_same, (n1.new np).set hL.1 hL.2, ((k1.trans kk1).trans (Keep.new np)).set nL⟩
        intro x hx'
        rcases List.mem_append.mp hx' with h | h
        · exact hx x h
        · rw [List.mem_singleton.mp h]
          rcases hzp with rfl | rfl <;> exact ⟨by decide, pz_str (n := 0) |>.mpr ⟨by decide +kernel, by decide +kernel⟩⟩
      · refine ⟨_, rfl, .inl ⟨rfl, _, .inl (.inl eL1)⟩, _, rfl, a, d, 9, rfl, by decide, n1, fun r2 H2 l2 u2 n2 kk2 => ⟨L, _, _, rfl, rfl, kk2 _ _ eL1 hL.1, hsz, ?_⟩⟩
        refine ⟨ws ++ [.int r2], ds ++ [.int r2], _, _, rfl, by rw [List.length_append, hl]; rfl, dpAll_snoc hA (.int r2), ?_, upd_same, n2.set hL.1 hL.2, ((k1.trans kk1).trans kk2).set nL⟩
        intro x hx'
        rcases List.mem_append.mp hx' with h | h
        · exact hx x h
        · rw [List.mem_singleton.mp h]
          refine ⟨?_, pz_int (n := 0) (by omega)⟩
          show (decide (0 ≤ r2) && decide (r2 ≤ 9999)) = true
          rw [decide_eq_true l2, decide_eq_true (by omega)]
          rfl
    · rintro σ H' ⟨ws, ds, y3, y4, rfl, hl, hA, hx, eL, h1, k1⟩
      refine ⟨_, rfl, L, _, rfl, .inl ⟨.inl (.inl eL), fun p np => ?_⟩⟩
      have hpa := (h1.ne np).1
      have hdl := dp_all_len hA
      exact q p (ws, ds) _ hA upd_same hpa hx (by show ds.length ≤ 100; omega) (h1.new np) (k1.trans (Keep.new np))
theorem br_say {a d p t : Addr} {H : Hp} {j : Nat} {ws : List V} {ds : List PyData} (pa : p ≠ a) (ta : t ≠ a) (ep : H p = some (.tup [.str "say", .ref t])) (et : H t = some (.tup ws)) (hA : DpAll K (fun _ => none) ws ds) (hx : ∀ x ∈ ds, partOk x = true ∧ Pz 0 x) (hl : ds.length ≤ 100) : PB K a H (j + 1) (.ref p) := by
  have h := ok_say (j := j) (parts_all hx)
  refine ⟨_, dp_new pa ep (.cons (.str _) (.cons (dp_new ta et (dps_none hA)) .nil)), ⟨(by show 2 ≤ 100; decide), fun x hx' => ?_⟩, h.1, ?_⟩
  · rcases List.mem_cons.mp hx' with e | hx'
    · rw [e]
      exact pz_word
    · rw [List.mem_singleton.mp hx']
      exact pz_parts hx hl
  · rw [h.2]
    show 1 ≤ 1 + 3 * bsz j
    omega
theorem br_step {f : Addr} {fd : FuncData} (D : Df K mg "_law_breaker" s_law_breaker ["hand", "depth", "asks", "length", "said"] f fd) (T : Txt K w mg cs) (j : Nat) (c_law_take : Cl P w K mg base CX0 1 "_law_take" spTake) (c_law_parts : Cl P w K mg base CX0 2 "_law_parts" (spParts8 K))
    (c_law_breaker : Cl P w K mg base CX0 (j + 2) "_law_breaker" (spBrB K j)) : FnOk P w K mg base CX0 (j + 3) f fd ["hand", "depth", "asks", "length", "said"] (spBr K j) := by
  refine D.fn.ok sc_law_breaker (fun vs H Q E h => ?_) (fun cdv A outer s H vs Q E hr h => ?_)
  · obtain ⟨a, d, dep, asks, len, said, rfl, _⟩ := h
    rfl
  · obtain ⟨a, d, dep, asks, len, said, rfl, hdep, hlen, hsaid, hh, q⟩ := h
    refine ⟨_, (pss_cons (ps_set (i := 5) sc_law_breaker.nd rfl (.inl rfl) (pe_cl c_law_take hr (by first | decide | omega) (by rfl) (pa_cons (pv 0) (pa_cons pe_int pa_nil)))) (pss_cons (ps_if (PW.pt (pw_or (pt_cmpR op_eq (pv 1) pe_int (nomark _)) (pw_or1 (pt_cmpR op_eq (pv 5) pe_int (nomark _))))) (pss_cons (ps_set (i := 6) sc_law_breaker.nd rfl (.inl rfl) (pv 4)) (C8.pss_cut (ps_if (pt_cmpR op_eq (pe_cl c_law_take hr (by first | decide | omega) (by rfl) (pa_cons (pv 0) (pa_cons pe_int pa_nil))) pe_int (nomark _)) (pss_one (ps_set (i := 6) sc_law_breaker.nd rfl (.inl rfl) (pe_cl c_law_take hr (by first | decide | omega) (by rfl) (pa_cons (pv 0) (pa_cons pe_int pa_nil))))) pss_nil) (pss_one (ps_ret (pe_tup (pa_cons pe_str (pa_cons (pe_cl c_law_parts hr (by first | decide | omega) (by rfl) (pa_cons (pv 0) (pa_cons (pv 6) pa_nil))) pa_nil))))))) pss_nil) (pss_cons (ps_if (PW.pt (pw_or (pt_cmpR op_lt (pv 5) pe_int (nomark _)) (pw_or1 (PW.pt (pw_and (pt_cmpR op_eq (pv 5) pe_int (nomark _)) (pw_and1 (pt_cmpR op_eq (pv 2) pe_int (nomark _)))))))) (pss_cons (ps_set (i := 7) sc_law_breaker.nd rfl (.inl rfl) (pe_cl c_law_breaker hr (by first | decide | omega) (by rfl) (pa_cons (pv 0) (pa_cons (pe_op op_sub (pv 1) pe_int) (pa_cons (pv 2) (pa_cons (pv 3) (pa_cons (pv 4) pa_nil))))))) (pss_one (ps_ret (pe_tup (pa_cons pe_str (pa_cons (pe_cl c_law_take hr (by first | decide | omega) (by rfl) (pa_cons (pv 0) (pa_cons pe_int pa_nil))) (pa_cons (pv 7) (pa_cons (pe_cl c_law_breaker hr (by first | decide | omega) (by rfl) (pa_cons (pv 0) (pa_cons (pe_op op_sub (pv 1) pe_int) (pa_cons (pv 2) (pa_cons (pv 3) (pa_cons (pv 4) pa_nil)))))) pa_nil)))))))) pss_nil) (pss_cons (ps_if (pt_cmpR op_eq (pv 5) pe_int (nomark _)) (pss_cons (ps_set (i := 8) sc_law_breaker.nd rfl (.inl rfl) (pe_op op_add pe_int (pe_cl c_law_take hr (by first | decide | omega) (by rfl) (pa_cons (pv 0) (pa_cons pe_int pa_nil))))) (pss_one (ps_ret (pe_tup (pa_cons pe_str (pa_cons (pe_callTy (tupOf K) (by rfl) T.n_tuple (by decide +kernel) (pa_cons (pe_lc (own := [("k", 9)]) (g := gName 9) (tt := tYes) rfl sc_law_breaker.nd (pi_range1 (by rfl) T.n_range (pa_cons (pv 8) pa_nil)) (blkOk_by (own := [("k", 9)]) (N := ["hand", "depth", "asks", "length", "said", "kind", "size", "first", "many", "k"]) (sc := defScope s_law_breaker) (by decide +kernel)) (fun _ _ _ _ _ => (pg_name (i := 9) sc_law_breaker.nd rfl (.inl rfl))) (fun _ _ _ _ _ => pts_nil) (fun _ _ _ _ _ => (pe_cl c_law_breaker hr (by first | decide | omega) (by rfl) (pa_cons (pv 0) (pa_cons (pe_op op_sub (pv 1) pe_int) (pa_cons (pv 2) (pa_cons (pv 3) (pa_cons (pv 4) pa_nil)))))))) pa_nil)) pa_nil)))))) pss_nil) (pss_cons (ps_if (pt_cmpR op_eq (pv 2) pe_int (nomark _)) (pss_one (ps_ret (pe_tup (pa_cons pe_str (pa_cons (pe_cl c_law_parts hr (by first | decide | omega) (by rfl) (pa_cons (pv 0) (pa_cons (pv 4) pa_nil))) pa_nil))))) pss_nil) (pss_cons (ps_set (i := 6) sc_law_breaker.nd rfl (.inl rfl) (pv 3)) (C8.pss_cut (ps_if (pt_cmpR op_eq (pe_cl c_law_take hr (by first | decide | omega) (by rfl) (pa_cons (pv 0) (pa_cons pe_int pa_nil))) pe_int (nomark _)) (pss_one (ps_set (i := 6) sc_law_breaker.nd rfl (.inl rfl) (pe_cl c_law_take hr (by first | decide | omega) (by rfl) (pa_cons (pv 0) (pa_cons pe_int pa_nil))))) pss_nil) (pss_one (ps_ret (pe_tup (pa_cons pe_str (pa_cons (pe_cl c_law_parts hr (by first | decide | omega) (by rfl) (pa_cons (pv 0) (pa_cons (pv 6) pa_nil))) (pa_cons (pe_cl c_law_breaker hr (by first | decide | omega) (by rfl) (pa_cons (pv 0) (pa_cons (pe_op op_sub (pv 1) pe_int) (pa_cons (pe_op op_sub (pv 2) pe_int) (pa_cons (pv 3) (pa_cons (pv 4) pa_nil)))))) pa_nil))))))))))))), ?_⟩
    refine ⟨_, rfl, a, d, 6, rfl, by decide, hh, fun kind H1 l1 u1 n1 k1 => ?_⟩
    -- a say of so many parts
    have say : ∀ (H2 : Hp) (p : Addr) (dd : List V × List PyData) (H3 : Hp), Keep a H H2 → DpAll K (fun _ => none) dd.1 dd.2 → H3 p = some (.tup dd.1) → p ≠ a → (∀ x ∈ dd.2, partOk x = true ∧ Pz 0 x) → dd.2.length ≤ 100 → Hnd H3 a d → Keep a H2 H3 →
        ∀ p', H3 p' = none → Q (.ref p') (upd H3 p' (.tup [.str "say", .ref p])) := by
      intro H2 p dd H3 k2 hA ep pa hx hl n3 k3 p' np
      have hp' := (n3.ne np).1
      refine q _ _ (br_say (d := d) (t := p) hp' pa upd_same (by rw [upd_ne (ne_of_none ep np)]; exact ep) hA hx hl) (n3.new np) ((k2.trans k3).trans (Keep.new np))
    refine ⟨_, rfl, rfl, _, rfl, ?_⟩
    refine dite (dep = 0) (fun hd0 => ?a1) (fun hd0 => ?b1)
    case' a1 => rw [decide_eq_true (show V.int (dep : Int) = V.int 0 by rw [hd0]; rfl)]
    case' b1 =>
      rw [decide_eq_false (show ¬ V.int (dep : Int) = V.int 0 from fun z => hd0 (by have := V.int.inj z; omega))]
      refine ⟨_, rfl, rfl, _, rfl, ?_⟩
      refine dite (kind = 0) (fun hk0 => ?a2) (fun hk0 => ?b2)
    case' a2 => rw [decide_eq_true (congrArg V.int hk0)]
    case b2 =>
      rw [decide_eq_false (fun z => hk0 (V.int.inj z))]
      obtain ⟨jj, rfl⟩ : ∃ jj, dep = jj + 1 := ⟨dep - 1, by omega⟩
      have rec1 : ((jj + 1 : Nat) : Int) - 1 = (jj : Int) := by omega
      refine ⟨_, rfl, _, _, rfl, rfl, _, rfl, ?_⟩
      refine dite (kind < 3) (fun h3 => ?l1) (fun h3 => ?c1)
      case' l1 => rw [decide_eq_true h3]
      case' c1 =>
        rw [decide_eq_false h3]
        refine ⟨_, rfl, rfl, _, rfl, ?_⟩
        refine dite (kind = 5) (fun h5 => ?c2) (fun h5 => ?r1)
      case' c2 =>
        rw [decide_eq_true (congrArg V.int h5)]
        refine ⟨_, rfl, rfl, _, rfl, ?_⟩
        refine dite (asks = 0) (fun ha0 => ?l2) (fun ha0 => ?r2)
      case' l2 => rw [decide_eq_true (show V.int (asks : Int) = V.int 0 by rw [ha0]; rfl)]
      case' r2 => rw [decide_eq_false (show ¬ V.int (asks : Int) = V.int 0 from fun z => ha0 (by have := V.int.inj z; omega))]
      case' r1 => rw [decide_eq_false (fun z => h5 (V.int.inj z))]
      -- look
      case l1 =>
        refine ⟨_, rfl, _, rfl, _, _, rfl, rfl, _, rfl, _, rfl, _, rfl, by omega, a, d, jj, asks, len, said, ?_, by omega, hlen, hsaid, n1, fun v1 H2 p1 n2 k2 => ?_⟩
        · show [V.ref a, V.int (((jj + 1 : Nat) : Int) - 1), _, _, _] = _
          rw [rec1]
        refine ⟨_, rfl, a, d, 9, rfl, by decide, n2, fun r H3 l3 u3 n3 k3 => ⟨_, rfl, _, rfl, _, rfl, _, _, rfl, rfl, _, rfl, _, rfl, _, rfl, by omega, a, d, jj, asks, len, said, ?_, by omega, hlen, hsaid, n3, fun v2 H4 p2 n4 k4 => ?_⟩⟩
        · show [V.ref a, V.int (((jj + 1 : Nat) : Int) - 1), _, _, _] = _
          rw [rec1]
        refine ⟨(by show 4 ≤ sizeLine; decide), fun p np => ?_⟩
        have pa := (n4.ne np).1
        have g1 := (p1.keep (k3.trans k4)).keep (Keep.new (o := .tup [.str "look", .int r, v1, v2]) np)
        have g2 := p2.keep (Keep.new (o := .tup [.str "look", .int r, v1, v2]) np)
        refine q _ _ ?_ (n4.new np) ((((k1.trans k2).trans k3).trans k4).trans (Keep.new np))
        obtain ⟨D1, a1, b1, c1, e1⟩ := g1
        obtain ⟨D2, a2, b2, c2, e2⟩ := g2
        have hk := ok_look (i := r) (by omega) (by omega) c1 c2
        refine ⟨_, dp_new pa upd_same (.cons (.str _) (.cons (.int _) (.cons a1 (.cons a2 .nil)))), ⟨(by show 4 ≤ 100; decide), fun x hx => ?_⟩, hk.1, ?_⟩
        · rcases List.mem_cons.mp hx with e | hx
          · exact e ▸ pz_word
          rcases List.mem_cons.mp hx with e | hx
          · (rw [e]; exact pz_int (by omega))
          rcases List.mem_cons.mp hx with e | hx
          · exact e ▸ pz_le b1 (by show 3 * (jj + 1) ≤ 3 * (jj + 1) + 2; omega)
          · rw [List.mem_singleton.mp hx]
            exact pz_le b2 (by show 3 * (jj + 1) ≤ 3 * (jj + 1) + 2; omega)
        · rw [hk.2]
          show _ ≤ 1 + 3 * bsz (jj + 1)
          omega
      case l2 =>
        refine ⟨_, rfl, _, rfl, _, _, rfl, rfl, _, rfl, _, rfl, _, rfl, by omega, a, d, jj, asks, len, said, ?_, by omega, hlen, hsaid, n1, fun v1 H2 p1 n2 k2 => ?_⟩
        · show [V.ref a, V.int (((jj + 1 : Nat) : Int) - 1), _, _, _] = _
          rw [rec1]
        refine ⟨_, rfl, a, d, 9, rfl, by decide, n2, fun r H3 l3 u3 n3 k3 => ⟨_, rfl, _, rfl, _, rfl, _, _, rfl, rfl, _, rfl, _, rfl, _, rfl, by omega, a, d, jj, asks, len, said, ?_, by omega, hlen, hsaid, n3, fun v2 H4 p2 n4 k4 => ?_⟩⟩
        · show [V.ref a, V.int (((jj + 1 : Nat) : Int) - 1), _, _, _] = _
          rw [rec1]
        refine ⟨(by show 4 ≤ sizeLine; decide), fun p np => ?_⟩
        have pa := (n4.ne np).1
        have g1 := (p1.keep (k3.trans k4)).keep (Keep.new (o := .tup [.str "look", .int r, v1, v2]) np)
        have g2 := p2.keep (Keep.new (o := .tup [.str "look", .int r, v1, v2]) np)
        refine q _ _ ?_ (n4.new np) ((((k1.trans k2).trans k3).trans k4).trans (Keep.new np))
        obtain ⟨D1, a1, b1, c1, e1⟩ := g1
        obtain ⟨D2, a2, b2, c2, e2⟩ := g2
        have hk := ok_look (i := r) (by omega) (by omega) c1 c2
        refine ⟨_, dp_new pa upd_same (.cons (.str _) (.cons (.int _) (.cons a1 (.cons a2 .nil)))), ⟨(by show 4 ≤ 100; decide), fun x hx => ?_⟩, hk.1, ?_⟩
        · rcases List.mem_cons.mp hx with e | hx
          · exact e ▸ pz_word
          rcases List.mem_cons.mp hx with e | hx
          · (rw [e]; exact pz_int (by omega))
          rcases List.mem_cons.mp hx with e | hx
          · exact e ▸ pz_le b1 (by show 3 * (jj + 1) ≤ 3 * (jj + 1) + 2; omega)
          · rw [List.mem_singleton.mp hx]
            exact pz_le b2 (by show 3 * (jj + 1) ≤ 3 * (jj + 1) + 2; omega)
        · rw [hk.2]
          show _ ≤ 1 + 3 * bsz (jj + 1)
          omega
      -- the rest
      all_goals
        refine ⟨_, rfl, rfl, _, rfl, ?_⟩
        by_cases hk3 : kind = 3
        · rw [decide_eq_true (congrArg V.int hk3)]
          refine ⟨_, rfl, a, d, 3, rfl, by decide, n1, fun r H2 l2 u2 n2 k2 => ⟨_, _, rfl, rfl, ?_⟩⟩
          obtain ⟨many, em, m1, m2⟩ : ∃ n : Nat, (1 : Int) + r = (n : Int) ∧ 1 ≤ n ∧ n ≤ 3 := ⟨(1 + r).toNat, by omega, by omega, by omega⟩
          show gName 8 (V.int (1 + r)) _ _ _
          rw [em]
          refine ⟨_, rfl, _, rfl, by omega, by omega, fun Dl hD => ?_⟩
          obtain ⟨nDa, nDd⟩ := n2.ne hD
          have k12 := k1.trans k2
          have hDo := k12.free hD nDa
          refine lc_range (lo := 0) (n := many) (fun i H' => ∃ ws : List V, ws.length = i ∧ (∀ v ∈ ws, PG K (off Dl (off a H')) (jj + 1) v) ∧ Hnd H' a d ∧ Keep a H H' ∧ H' Dl = some (.lst ws)) ?_ ?_ ?_
          · exact ⟨[], rfl, fun v hv => (nomatch hv), n2.new hD, k12.trans (Keep.new hD), upd_same⟩
          · rintro i H' hi ⟨ws, hl, hw, g1, g2, g3⟩
            refine ⟨rfl, ?_⟩
            refine ⟨_, rfl, _, rfl, _, _, rfl, rfl, _, rfl, _, rfl, _, rfl, by omega, a, d, jj, asks, len, said, ?_, by omega, hlen, hsaid, g1, fun v1 H3 p1 n3 k3 => ⟨_, k3 _ _ g3 nDa, ?_, ?_⟩⟩
            · show [V.ref a, V.int (((jj + 1 : Nat) : Int) - 1), _, _, _] = _
              rw [rec1]
            · exact Nat.lt_of_lt_of_le (show ws.length < 10000 by omega) (by decide)
            · refine ⟨ws ++ [v1], by rw [List.length_append, hl]; rfl, fun x hx => ?_, n3.set nDa nDd, (g2.trans k3).set hDo, upd_same⟩
              rw [off_upd]
              rcases List.mem_append.mp hx with h | h
              · exact (hw x h).same (off_mono k3.off)
              · rw [List.mem_singleton.mp h]
                refine PG.offL (ys := ws) p1 ?_
                rw [off_ne nDa]
                exact k3 _ _ g3 nDa
          · rintro H' ⟨ws, hl, hw, g1, g2, g3⟩
            refine ⟨Dl, _, rfl, .inl ⟨.inl (.inl g3), fun t nt => ⟨(by show 2 ≤ sizeLine; decide), fun p np => ?_⟩⟩⟩
            have h1' := g1.new (o := .tup ws) nt
            have ta := (g1.ne nt).1
            have pa := (h1'.ne np).1
            have kk : Keep a H' (upd (upd H' t (.tup ws)) p (.tup [.str "toss", .ref t])) := (Keep.new nt).trans (Keep.new np)
            refine q _ _ ?_ (h1'.new np) (g2.trans kk)
            obtain ⟨ds, hA, hx⟩ := pg_all fun v hv => (hw v hv).same fun b o e => kk.off b o (off_same Dl _ b o e)
            have hwl := dp_all_len hA
            have hlen2 : ws.length = many := hl
            have hk := ok_toss (j := jj + 1) (xs := ds) (by omega) (by omega) (fun x h => (hx x h).2.1)
            have et : upd (upd H' t (.tup ws)) p (.tup [.str "toss", .ref t]) t = some (.tup ws) := by
              rw [upd_ne (ne_of_none upd_same np)]
              exact upd_same
            refine ⟨_, dp_new pa upd_same (.cons (.str _) (.cons (dp_new ta et hA) .nil)), ⟨(by show 2 ≤ 100; decide), fun x hx' => ?_⟩, hk.1, ?_⟩
            · rcases List.mem_cons.mp hx' with e | hx'
              · exact e ▸ pz_word
              · rw [List.mem_singleton.mp hx']
                exact ⟨by omega, fun y hy => pz_le (hx y hy).1 (by show 3 * (jj + 1) ≤ 3 * (jj + 1) + 1; omega)⟩
            · rw [hk.2]
              have := sum_le (f := szN (jj + 1)) (m := bsz (jj + 1)) fun x h => (hx x h).2.2
              have h3 : ds.length * bsz (jj + 1) ≤ 3 * bsz (jj + 1) := Nat.mul_le_mul_right _ (by omega)
              show _ ≤ 1 + 3 * bsz (jj + 1)
              omega
        · rw [decide_eq_false (fun z => hk3 (V.int.inj z))]
          refine ⟨_, rfl, rfl, _, rfl, ?_⟩
          by_cases ha : asks = 0
          · rw [decide_eq_true (show V.int (asks : Int) = V.int 0 by rw [ha]; rfl)]
            exact ⟨_, rfl, _, rfl, a, d, said, rfl, by omega, n1, fun p ds H3 hA ep pa hx hl n3 k3 => ⟨(by show 2 ≤ sizeLine; decide), fun p' np => say H1 p ds H3 k1 hA ep pa hx hl n3 k3 p' np⟩⟩
          · rw [decide_eq_false (show ¬ V.int (asks : Int) = V.int 0 from fun z => ha (by have := V.int.inj z; omega))]
            refine ⟨_, rfl, ?_⟩
            refine ⟨fun σ2 H2 => ∃ sz : Nat, σ2 = [some (.ref a), some (.int ((jj + 1 : Nat) : Int)), some (.int (asks : Int)), some (.int (len : Int)), some (.int (said : Int)), some (.int kind), some (.int (sz : Int)), none, none, none] ∧ sz ≤ 90 ∧ Hnd H2 a d ∧ Keep a H H2, ?_, ?_⟩
            · refine ⟨_, rfl, a, d, 9, rfl, by decide, n1, fun r H2 l2 u2 n2 k2 => ⟨rfl, _, rfl, ?_⟩⟩
              by_cases c : r = 0
              · rw [decide_eq_true (congrArg V.int c)]
                refine ⟨_, rfl, a, d, 4, rfl, by decide, n2, fun r2 H3 l3 u3 n3 k3 => ⟨r2.toNat, ?_, by omega, n3, (k1.trans k2).trans k3⟩⟩
                have e : r2 = ((r2.toNat : Nat) : Int) := by omega
                show [_, _, _, _, _, _, some (V.int r2), _, _, _] = _
                rw [← e]
              · rw [decide_eq_false (fun z => c (V.int.inj z))]
                exact ⟨len, rfl, hlen, n2, k1.trans k2⟩
            · rintro σ2 H2 ⟨sz, rfl, hsz, n2, k2⟩
              refine ⟨_, rfl, _, rfl, a, d, sz, rfl, by omega, n2, fun p ds H3 hA ep pa hx hl n3 k3 => ?_⟩
              obtain ⟨as', ea⟩ : ∃ k, asks = k + 1 := ⟨asks - 1, by omega⟩
              subst ea
              refine ⟨_, rfl, _, rfl, _, _, rfl, rfl, _, rfl, _, _, rfl, rfl, _, rfl, _, rfl, by omega, a, d, jj, as', len, said, ?_, by omega, hlen, hsaid, n3, fun v1 H4 p1 n4 k4 => ?_⟩
              · show [V.ref a, V.int (((jj + 1 : Nat) : Int) - 1), V.int (((as' + 1 : Nat) : Int) - 1), _, _] = _
                rw [rec1, show ((as' + 1 : Nat) : Int) - 1 = (as' : Int) by omega]
              refine ⟨(by show 3 ≤ sizeLine; decide), fun p' np => ?_⟩
              have pa' := (n4.ne np).1
              have ep4 := k4 _ _ ep pa
              obtain ⟨D1, a1, b1, c1, e1⟩ := p1.keep (Keep.new (o := .tup [.str "ask", .ref p, v1]) np)
              have hk := ok_askD (j := jj + 1) (parts_all hx) c1
              refine q _ _ ?_ (n4.new np) (((k2.trans k3).trans k4).trans (Keep.new np))
              refine ⟨_, dp_new pa' upd_same (.cons (.str _) (.cons (dp_new pa (by rw [upd_ne (ne_of_none ep4 np)]; exact ep4) (dps_none hA)) (.cons a1 .nil))), ⟨(by show 3 ≤ 100; decide), fun x hx' => ?_⟩, hk.1, ?_⟩
              · rcases List.mem_cons.mp hx' with e | hx'
                · exact e ▸ pz_word
                rcases List.mem_cons.mp hx' with e | hx'
                · exact e ▸ pz_parts hx hl
                · rw [List.mem_singleton.mp hx']
                  exact pz_le b1 (by show 3 * (jj + 1) ≤ 3 * (jj + 1) + 2; omega)
              · rw [hk.2]
                show _ ≤ 1 + 3 * bsz (jj + 1)
                omega
    -- say
    all_goals
      refine ⟨_, rfl, ?_⟩
      refine ⟨fun σ2 H2 => ∃ sz : Nat, σ2 = [some (.ref a), some (.int (dep : Int)), some (.int (asks : Int)), some (.int (len : Int)), some (.int (said : Int)), some (.int kind), some (.int (sz : Int)), none, none, none] ∧ sz ≤ 90 ∧ Hnd H2 a d ∧ Keep a H H2, ?_, ?_⟩
      · refine ⟨_, rfl, a, d, 9, rfl, by decide, n1, fun r H2 l2 u2 n2 k2 => ⟨rfl, _, rfl, ?_⟩⟩
        by_cases c : r = 0
        · rw [decide_eq_true (congrArg V.int c)]
          refine ⟨_, rfl, a, d, 4, rfl, by decide, n2, fun r2 H3 l3 u3 n3 k3 => ⟨r2.toNat, ?_, by omega, n3, (k1.trans k2).trans k3⟩⟩
          have e : r2 = ((r2.toNat : Nat) : Int) := by omega
          show [_, _, _, _, _, _, some (V.int r2), _, _, _] = _
          rw [← e]
        · rw [decide_eq_false (fun z => c (V.int.inj z))]
          exact ⟨said, rfl, hsaid, n2, k1.trans k2⟩
      · rintro σ2 H2 ⟨sz, rfl, hsz, n2, k2⟩
        exact ⟨_, rfl, _, rfl, a, d, sz, rfl, by omega, n2, fun p ds H3 hA ep pa hx hl n3 k3 => ⟨(by show 2 ≤ sizeLine; decide), fun p' np => say H2 p ds H3 k2 hA ep pa hx hl n3 k3 p' np⟩⟩
theorem no_br {f : Addr} {fd : FuncData} (k : Nat) : FnOk P w K mg base CX0 k f fd ["hand", "depth", "asks", "length", "said"] (spBrB K 0) :=
  ⟨fun _ _ _ _ h => absurd h.1 (by decide), fun _ _ _ _ _ _ _ _ _ _ _ _ _ h => absurd h.1 (by decide)⟩
theorem ok_br {f : Addr} {fd : FuncData} (D : Df K mg "_law_breaker" s_law_breaker ["hand", "depth", "asks", "length", "said"] f fd) (T : Txt K w mg cs) (c_law_take : Cl P w K mg base CX0 1 "_law_take" spTake) (c_law_parts : Cl P w K mg base CX0 2 "_law_parts" (spParts8 K)) :
    ∀ j : Nat, FnOk P w K mg base CX0 (j + 3) f fd ["hand", "depth", "asks", "length", "said"] (spBr K j)
  | 0 => br_step D T 0 c_law_take c_law_parts (D.cl (no_br _))
  | j + 1 => br_step D T (j + 1) c_law_take c_law_parts (D.cl ((ok_br D T c_law_take c_law_parts j).imp fun _ _ _ _ h => h.2))

theorem ok_lawmade {f : Addr} {fd : FuncData} (D : Df K mg "_law_made" s_law_made ["hand", "inner"] f fd) (T : Txt K w mg cs) (c_law_take : Cl P w K mg base CX0 1 "_law_take" spTake) (c_law_string : Cl P w K mg base CX0 2 "_law_string" spString) (c_law_table : Cl P w K mg base CX0 3 "_law_table" (spTable K)) : FnOk P w K mg base CX0 4 f fd ["hand", "inner"] (spMd K) := by
  refine D.fn.ok sc_law_made (fun vs H Q E h => ?_) (fun cdv A outer s H vs Q E hr h => ?_)
  · obtain ⟨a, d, v, D, n, m, rfl, _⟩ := h
    rfl
  · obtain ⟨a, d, v, D, nn, m, rfl, hD, hP, hc, hh, q⟩ := h
    refine ⟨_, (pss_cons (ps_set (i := 2) sc_law_made.nd rfl (.inl rfl) (pe_cl c_law_take hr (by first | decide | omega) (by rfl) (pa_cons (pv 0) (pa_cons pe_int pa_nil)))) (pss_cons (ps_set (i := 3) sc_law_made.nd rfl (.inl rfl) (pe_op op_add pe_int (pe_cl c_law_take hr (by first | decide | omega) (by rfl) (pa_cons (pv 0) (pa_cons pe_int pa_nil))))) (pss_cons (ps_set (i := 4) sc_law_made.nd rfl (.inl rfl) (pe_ix (ixL K) (pe_lst (pa_cons pe_int (pa_cons pe_int (pa_cons (pe_op op_add pe_int (pe_cl c_law_take hr (by first | decide | omega) (by rfl) (pa_cons (pv 0) (pa_cons pe_int pa_nil)))) pa_nil)))) (pe_cl c_law_take hr (by first | decide | omega) (by rfl) (pa_cons (pv 0) (pa_cons pe_int pa_nil))) (fun _ _ => rfl))) (pss_cons (ps_if (pt_cmpR op_eq (pv 2) pe_int (nomark _)) (pss_one (ps_ret (pe_tup (pa_cons pe_str (pa_cons (pe_cl c_law_table hr (by first | decide | omega) (by rfl) (pa_cons (pv 0) (pa_cons (pv 3) (pa_cons (pe_op op_add (pv 3) pe_int) pa_nil)))) (pa_cons (pe_op op_add pe_int (pe_cl c_law_take hr (by first | decide | omega) (by rfl) (pa_cons (pv 0) (pa_cons pe_int pa_nil)))) (pa_cons (pv 1) pa_nil))))))) pss_nil) (pss_cons (ps_if (pt_cmpR op_eq (pv 2) pe_int (nomark _)) (pss_one (ps_ret (pe_tup (pa_cons pe_str (pa_cons (pe_cl c_law_table hr (by first | decide | omega) (by rfl) (pa_cons (pv 0) (pa_cons (pv 3) (pa_cons (pe_op op_mul pe_int (pv 3)) pa_nil)))) (pa_cons (pe_op op_add pe_int (pe_cl c_law_take hr (by first | decide | omega) (by rfl) (pa_cons (pv 0) (pa_cons pe_int pa_nil)))) (pa_cons (pe_ix (ixL K) (pe_lst (pa_cons pe_int (pa_cons pe_int (pa_cons (pv 4) pa_nil)))) (pe_cl c_law_take hr (by first | decide | omega) (by rfl) (pa_cons (pv 0) (pa_cons pe_int pa_nil))) (fun _ _ => rfl)) (pa_cons (pv 1) pa_nil)))))))) pss_nil) (pss_cons (ps_if (pt_cmpR op_lt (pv 2) pe_int (nomark _)) (pss_one (ps_ret (pe_tup (pa_cons (pe_ix (ixL K) (pe_lst (pa_cons pe_str (pa_cons pe_str pa_nil))) (pe_op op_sub (pv 2) pe_int) (fun _ _ => rfl)) (pa_cons (pv 4) (pa_cons (pe_op op_add pe_int (pe_cl c_law_take hr (by first | decide | omega) (by rfl) (pa_cons (pv 0) (pa_cons pe_int pa_nil)))) (pa_cons (pv 1) pa_nil))))))) pss_nil) (pss_cons (ps_if (pt_cmpR op_lt (pv 2) pe_int (nomark _)) (pss_one (ps_ret (pe_tup (pa_cons (pe_ix (ixL K) (pe_lst (pa_cons pe_str (pa_cons pe_str (pa_cons pe_str pa_nil)))) (pe_op op_sub (pv 2) pe_int) (fun _ _ => rfl)) (pa_cons (pv 4) (pa_cons (pv 1) pa_nil)))))) pss_nil) (pss_cons (ps_if (pt_cmpR op_eq (pv 2) pe_int (nomark _)) (pss_one (ps_ret (pe_tup (pa_cons pe_str (pa_cons (pe_cl c_law_string hr (by first | decide | omega) (by rfl) (pa_cons (pv 0) (pa_cons (pv 4) pa_nil))) (pa_cons (pv 1) pa_nil)))))) pss_nil) (pss_cons (ps_if (pt_cmpR op_eq (pv 2) pe_int (nomark _)) (pss_one (ps_ret (pe_tup (pa_cons pe_str (pa_cons (pv 4) (pa_cons (pe_ix (ixL K) (pe_lst (pa_cons pe_int (pa_cons pe_int (pa_cons (pe_op op_add pe_int (pe_cl c_law_take hr (by first | decide | omega) (by rfl) (pa_cons (pv 0) (pa_cons pe_int pa_nil)))) pa_nil)))) (pe_cl c_law_take hr (by first | decide | omega) (by rfl) (pa_cons (pv 0) (pa_cons pe_int pa_nil))) (fun _ _ => rfl)) (pa_cons (pe_op op_add pe_int (pe_cl c_law_take hr (by first | decide | omega) (by rfl) (pa_cons (pv 0) (pa_cons pe_int pa_nil)))) (pa_cons (pv 1) pa_nil)))))))) pss_nil) (pss_cons (ps_if (pt_cmpR op_eq (pv 2) pe_int (nomark _)) (pss_one (ps_ret (pe_tup (pa_cons pe_str (pa_cons (pv 4) (pa_cons (pv 1) pa_nil)))))) pss_nil) (pss_cons (ps_if (PW.pt (pw_and (pt_cmpR op_eq (pv 2) pe_int (nomark _)) (pw_and1 (pt_cmpR op_in_seq (pe_ix (ixT K) (pv 1) pe_int (fun _ _ => rfl)) (pe_lst (pa_cons pe_str (pa_cons pe_str (pa_cons pe_str (pa_cons pe_str pa_nil))))) (by rfl))))) (pss_one (ps_ret (pe_tup (pa_cons pe_str (pa_cons (pe_cl c_law_table hr (by first | decide | omega) (by rfl) (pa_cons (pv 0) (pa_cons (pv 3) (pa_cons (pe_op op_add pe_int (pe_cl c_law_take hr (by first | decide | omega) (by rfl) (pa_cons (pv 0) (pa_cons pe_int pa_nil)))) pa_nil)))) (pa_cons (pe_op op_add pe_int (pe_cl c_law_take hr (by first | decide | omega) (by rfl) (pa_cons (pv 0) (pa_cons pe_int pa_nil)))) (pa_cons (pv 1) pa_nil))))))) pss_nil) (pss_cons (ps_if (pt_cmpR op_eq (pv 2) pe_int (nomark _)) (pss_one (ps_ret (pe_tup (pa_cons pe_str (pa_cons (pe_ix (ixL K) (pe_lst (pa_cons pe_int (pa_cons pe_int (pa_cons (pe_op op_add pe_int (pe_cl c_law_take hr (by first | decide | omega) (by rfl) (pa_cons (pv 0) (pa_cons pe_int pa_nil)))) pa_nil)))) (pe_cl c_law_take hr (by first | decide | omega) (by rfl) (pa_cons (pv 0) (pa_cons pe_int pa_nil))) (fun _ _ => rfl)) (pa_cons (pv 1) pa_nil)))))) pss_nil) (pss_one (ps_ret (pe_tup (pa_cons pe_str (pa_cons (pv 1) pa_nil))))))))))))))))), ?_⟩
    -- what is made
    have fin : ∀ (z : Str) (vs : List V) (ds : List PyData) (H2 : Hp) (p : Addr), madeZ z = true → okS 100 z → fitZ z ds = true → (z = "onetime" → madeD D = false) → DpAll K (off a H2) vs ds → (∀ x ∈ ds, Pz 2 x) → ds.length ≤ 10 → Hnd H2 a d → Keep a H H2 → H2 p = none →
        Q (.ref p) (upd H2 p (.tup (.str z :: (vs ++ [v])))) := by
      intro z vs ds H2 p hz hzt hf ho hA hx hl n2 k2 np
      have pa := (n2.ne np).1
      have kk := (Keep.new (a := a) (o := .tup (.str z :: (vs ++ [v]))) np)
      refine q _ _ _ (dp_new pa upd_same (.cons (.str z) (dps_app (dps_same kk.off _ hA) (.cons (dp_same (k2.trans kk).off D hD) .nil)))) ?_ (show madeD (.tuple (.str z :: (ds ++ [D]))) = true from hz) (chk_of hz hf ho hc) (n2.new np) (k2.trans kk)
      refine ⟨?_, fun x hx' => ?_⟩
      · rw [List.length_cons, List.length_append, List.length_singleton]
        omega
      · rcases List.mem_cons.mp hx' with e | hx'
        · rw [e]
          exact pz_str.mpr hzt
        rcases List.mem_append.mp hx' with h | h
        · exact pz_le (hx x h) (by omega)
        · rw [List.mem_singleton.mp h]
          exact pz_le hP (by omega)
    clear q
    refine ⟨_, rfl, a, d, 13, rfl, by decide, hh, fun kind H1 l1 u1 n1 k1 => ?_⟩
    refine ⟨_, rfl, a, d, 2, rfl, by decide, n1, fun r1 H2 l2 u2 n2 k2 => ⟨_, _, rfl, rfl, ?_⟩⟩
    obtain ⟨n, en, hn1, hn2⟩ : ∃ n : Nat, (1 : Int) + r1 = (n : Int) ∧ 1 ≤ n ∧ n ≤ 2 := ⟨(1 + r1).toNat, by omega, by omega, by omega⟩
    show gName 3 (V.int (1 + r1)) _ _ _
    rw [en]
    clear en l2 u2
    refine ⟨_, rfl, a, d, 40, rfl, by decide, n2, fun r2 H3 l3 u3 n3 k3 => ⟨_, _, rfl, rfl, (by show 3 ≤ sizeLine; decide), fun p np => ?_⟩⟩
    have npa := (n3.ne np).1
    refine ⟨_, rfl, a, d, 3, rfl, by decide, n3.new np, fun r3 H4 l4 u4 n4 k4 => ?_⟩
    obtain ⟨some_, es, s1, s2⟩ : ∃ s : Nat, atI [V.int 1, V.int 40, V.int (1 + r2)] r3 = some (V.int (s : Int)) ∧ 1 ≤ s ∧ s ≤ 40 := by
      have : r3 = 0 ∨ r3 = 1 ∨ r3 = 2 := by omega
      rcases this with e | e | e <;> subst e
      · exact ⟨1, rfl, by decide, by decide⟩
      · exact ⟨40, rfl, by decide, by decide⟩
      · refine ⟨(1 + r2).toNat, ?_, by omega, by omega⟩
        rw [show (((1 + r2).toNat : Nat) : Int) = 1 + r2 by omega]
        rfl
    refine ⟨p, _, r3, _, rfl, rfl, .inl (.inl (k4 _ _ upd_same npa)), es, ?_⟩
    have k14 : Keep a H H4 := (((k1.trans k2).trans k3).trans (Keep.new np)).trans k4
    clear es l3 u3 l4 u4 npa np n3 n2 n1 k1 k2 k3 k4 hh
    have tabP : ∀ {m : Nat} {rows : List (List Bool)}, rows.length = 2 ^ n → (∀ r ∈ rows, r.length = m) → 1 ≤ m → m ≤ 40 → Wf n m rows := fun h1 h2 h3 h4 => ⟨hn1, by omega, h3, h4, h1, h2⟩
    -- longer
    refine ⟨_, rfl, rfl, _, rfl, ?_⟩
    by_cases c0 : kind = 0
    · rw [decide_eq_true (congrArg V.int c0)]
      refine ⟨_, rfl, _, rfl, _, rfl, _, _, rfl, rfl, a, d, n, n + 1, rfl, by omega, by omega, n4, fun vt rows H5 hl hrw hd n5 k5 => ?_⟩
      have wf := tabP hl hrw (by omega) (by omega)
      refine ⟨_, rfl, a, d, 20, rfl, by decide, n5, fun r H6 l6 u6 n6 k6 => ⟨_, _, rfl, rfl, _, rfl, (by show 4 ≤ sizeLine; decide), fun p np => ?_⟩⟩
      exact fin "longer" [vt, .int (1 + r)] [tabD n (n + 1) rows, .int (1 + r)] H6 p (by decide) ⟨by decide +kernel, by decide +kernel⟩ (fit_longer wf (by omega) (by omega)) (fun z => absurd z (by decide)) (.cons (dp_same k6.off _ hd) (.cons (.int _) .nil))
        (fun x hx => by
          rcases List.mem_cons.mp hx with e | hx
          · exact e ▸ (wf.pz (by omega))
          · rw [List.mem_singleton.mp hx]
            exact pz_int (by omega)) (by simp) n6 ((k14.trans k5).trans k6) np
    rw [decide_eq_false (fun z => c0 (V.int.inj z))]
    -- tree
    refine ⟨_, rfl, rfl, _, rfl, ?_⟩
    by_cases c1 : kind = 1
    · rw [decide_eq_true (congrArg V.int c1)]
      refine ⟨_, rfl, _, rfl, _, rfl, _, _, rfl, rfl, .inl ⟨by decide, by decide⟩, a, d, n, 2 * n, ?_, by omega, by omega, n4, fun vt rows H5 hl hrw hd n5 k5 => ?_⟩
      · show [V.ref a, V.int (n : Int), V.int (2 * (n : Int))] = _
        rw [show (2 : Int) * (n : Int) = ((2 * n : Nat) : Int) by omega]
      have wf := tabP hl hrw (by omega) (by omega)
      refine ⟨_, rfl, a, d, 8, rfl, by decide, n5, fun r H6 l6 u6 n6 k6 => ⟨_, _, rfl, rfl, _, rfl, (by show 3 ≤ sizeLine; decide), fun p1 np1 => ?_⟩⟩
      have p1a := (n6.ne np1).1
      refine ⟨_, rfl, a, d, 3, rfl, by decide, n6.new np1, fun r4 H7 l7 u7 n7 k7 => ?_⟩
      obtain ⟨qq, eq, q1, q2⟩ : ∃ s : Int, atI [V.int 1, V.int 1000, V.int (some_ : Int)] r4 = some (V.int s) ∧ 1 ≤ s ∧ s ≤ 1000 := by
        have : r4 = 0 ∨ r4 = 1 ∨ r4 = 2 := by omega
        rcases this with e | e | e <;> subst e
        · exact ⟨1, rfl, by decide, by decide⟩
        · exact ⟨1000, rfl, by decide, by decide⟩
        · exact ⟨_, rfl, by omega, by omega⟩
      refine ⟨p1, _, r4, _, rfl, rfl, .inl (.inl (k7 _ _ upd_same p1a)), eq, _, rfl, (by show 5 ≤ sizeLine; decide), fun p np => ?_⟩
      have kk : Keep a H5 H7 := (k6.trans (Keep.new np1)).trans k7
      exact fin "tree" [vt, .int (1 + r), .int qq] [tabD n (2 * n) rows, .int (1 + r), .int qq] H7 p (by decide) ⟨by decide +kernel, by decide +kernel⟩ (fit_tree wf (by omega) (by omega) (by omega) q1 q2) (fun z => absurd z (by decide)) (.cons (dp_same kk.off _ hd) (.cons (.int _) (.cons (.int _) .nil)))
        (fun x hx => by
          rcases List.mem_cons.mp hx with e | hx
          · exact e ▸ (wf.pz (by omega))
          rcases List.mem_cons.mp hx with e | hx
          · (rw [e]; exact pz_int (by omega))
          · rw [List.mem_singleton.mp hx]
            exact pz_int (by omega)) (by simp) n7 ((k14.trans k5).trans kk) np
    rw [decide_eq_false (fun z => c1 (V.int.inj z))]
    -- marks, secrets
    refine ⟨_, rfl, _, _, rfl, rfl, _, rfl, ?_⟩
    by_cases c4 : kind < 4
    · rw [decide_eq_true c4]
      refine ⟨(by show 2 ≤ sizeLine; decide), fun p1 np1 => ?_⟩
      have p1a := (n4.ne np1).1
      obtain ⟨z, ez, hz, hzt, hf⟩ : ∃ z : Str, atI [V.str "marks", V.str "secrets"] (kind - 2) = some (V.str z) ∧ madeZ z = true ∧ (okS 100 z ∧ z ≠ "onetime") ∧ ∀ j : Int, 1 ≤ j → j ≤ 40 → fitZ z [.int (some_ : Int), .int j] = true := by
        have : kind = 2 ∨ kind = 3 := by omega
        rcases this with e | e <;> subst e
        · exact ⟨"marks", rfl, by decide, ⟨⟨by decide +kernel, by decide +kernel⟩, by decide⟩, fun j h1 h2 => fit_two (by decide) rfl (by omega) (by omega) h1 h2⟩
        · exact ⟨"secrets", rfl, by decide, ⟨⟨by decide +kernel, by decide +kernel⟩, by decide⟩, fun j h1 h2 => fit_two (by decide) rfl (by omega) (by omega) h1 h2⟩
      refine ⟨_, rfl, _, _, rfl, rfl, p1, _, kind - 2, _, rfl, rfl, .inl (.inl upd_same), ez, _, rfl, _, rfl, a, d, 40, rfl, by decide, n4.new np1, fun r H5 l5 u5 n5 k5 => ⟨_, _, rfl, rfl, _, rfl, (by show 4 ≤ sizeLine; decide), fun p np => ?_⟩⟩
      exact fin z [.int (some_ : Int), .int (1 + r)] [.int (some_ : Int), .int (1 + r)] H5 p hz hzt.1 (hf (1 + r) (by omega) (by omega)) (fun e => absurd e hzt.2) (.cons (.int _) (.cons (.int _) .nil))
        (fun x hx => by
          rcases List.mem_cons.mp hx with e | hx
          · (rw [e]; exact pz_int (by omega))
          · rw [List.mem_singleton.mp hx]
            exact pz_int (by omega)) (by simp) n5 ((k14.trans (Keep.new np1)).trans k5) np
    rw [decide_eq_false c4]
    -- once, next, guess
    refine ⟨_, rfl, _, _, rfl, rfl, _, rfl, ?_⟩
    by_cases c7 : kind < 7
    · rw [decide_eq_true c7]
      refine ⟨(by show 3 ≤ sizeLine; decide), fun p1 np1 => ?_⟩
      have p1a := (n4.ne np1).1
      obtain ⟨z, ez, hz, hzt, hf⟩ : ∃ z : Str, atI [V.str "once", V.str "next", V.str "guess"] (kind - 4) = some (V.str z) ∧ madeZ z = true ∧ (okS 100 z ∧ z ≠ "onetime") ∧ fitZ z [.int (some_ : Int)] = true := by
        have : kind = 4 ∨ kind = 5 ∨ kind = 6 := by omega
        rcases this with e | e | e <;> subst e
        · exact ⟨"once", rfl, by decide, ⟨⟨by decide +kernel, by decide +kernel⟩, by decide⟩, fit_one (by decide) rfl (by omega) (by omega)⟩
        · exact ⟨"next", rfl, by decide, ⟨⟨by decide +kernel, by decide +kernel⟩, by decide⟩, fit_one (by decide) rfl (by omega) (by omega)⟩
        · exact ⟨"guess", rfl, by decide, ⟨⟨by decide +kernel, by decide +kernel⟩, by decide⟩, fit_one (by decide) rfl (by omega) (by omega)⟩
      refine ⟨_, rfl, _, _, rfl, rfl, p1, _, kind - 4, _, rfl, rfl, .inl (.inl upd_same), ez, _, rfl, _, rfl, (by show 3 ≤ sizeLine; decide), fun p np => ?_⟩
      exact fin z [.int (some_ : Int)] [.int (some_ : Int)] _ p hz hzt.1 hf (fun e => absurd e hzt.2) (.cons (.int _) .nil)
        (fun x hx => by
          rw [List.mem_singleton.mp hx]
          exact pz_int (by omega)) (by simp) (n4.new np1) (k14.trans (Keep.new np1)) np
    rw [decide_eq_false c7]
    -- opening
    refine ⟨_, rfl, rfl, _, rfl, ?_⟩
    by_cases d7 : kind = 7
    · rw [decide_eq_true (congrArg V.int d7)]
      refine ⟨_, rfl, _, rfl, a, d, some_, rfl, by omega, n4, fun bs H5 hb n5 k5 => ⟨_, rfl, (by show 3 ≤ sizeLine; decide), fun p np => ?_⟩⟩
      exact fin "opening" [.str (sb bs)] [.str (sb bs)] _ p (by decide) ⟨by decide +kernel, by decide +kernel⟩ (fit_opening (by omega) (by omega)) (fun z => absurd z (by decide)) (.cons (.str _) .nil)
        (fun x hx => by
          rw [List.mem_singleton.mp hx]
          exact pz_str.mpr ⟨(okT_sb (r := bs) (by omega)).1, by rw [sb_len]; omega⟩) (by simp) n5 (k14.trans k5) np
    rw [decide_eq_false (fun z => d7 (V.int.inj z))]
    -- counter
    refine ⟨_, rfl, rfl, _, rfl, ?_⟩
    by_cases d8 : kind = 8
    · rw [decide_eq_true (congrArg V.int d8)]
      refine ⟨_, rfl, _, rfl, a, d, 256, rfl, by decide, n4, fun r H5 l5 u5 n5 k5 => ⟨_, _, rfl, rfl, (by show 3 ≤ sizeLine; decide), fun p1 np1 => ?_⟩⟩
      have p1a := (n5.ne np1).1
      refine ⟨_, rfl, a, d, 3, rfl, by decide, n5.new np1, fun r4 H6 l6 u6 n6 k6 => ?_⟩
      obtain ⟨qq, eq, q1, q2⟩ : ∃ s : Int, atI [V.int 1, V.int 256, V.int (1 + r)] r4 = some (V.int s) ∧ 1 ≤ s ∧ s ≤ 256 := by
        have : r4 = 0 ∨ r4 = 1 ∨ r4 = 2 := by omega
        rcases this with e | e | e <;> subst e
        · exact ⟨1, rfl, by decide, by decide⟩
        · exact ⟨256, rfl, by decide, by decide⟩
        · exact ⟨_, rfl, by omega, by omega⟩
      refine ⟨p1, _, r4, _, rfl, rfl, .inl (.inl (k6 _ _ upd_same p1a)), eq, _, rfl, a, d, 40, rfl, by decide, n6, fun r5 H7 l7 u7 n7 k7 => ⟨_, _, rfl, rfl, _, rfl, (by show 5 ≤ sizeLine; decide), fun p np => ?_⟩⟩
      exact fin "counter" [.int (some_ : Int), .int qq, .int (1 + r5)] [.int (some_ : Int), .int qq, .int (1 + r5)] _ p (by decide) ⟨by decide +kernel, by decide +kernel⟩ (fit_counter (by omega) (by omega) q1 q2 (by omega) (by omega)) (fun z => absurd z (by decide)) (.cons (.int _) (.cons (.int _) (.cons (.int _) .nil)))
        (fun x hx => by
          rcases List.mem_cons.mp hx with e | hx
          · (rw [e]; exact pz_int (by omega))
          rcases List.mem_cons.mp hx with e | hx
          · (rw [e]; exact pz_int (by omega))
          · rw [List.mem_singleton.mp hx]
            exact pz_int (by omega)) (by simp) n7 ((((k14.trans k5).trans (Keep.new np1)).trans k6).trans k7) np
    rw [decide_eq_false (fun z => d8 (V.int.inj z))]
    -- cut
    refine ⟨_, rfl, rfl, _, rfl, ?_⟩
    by_cases d9 : kind = 9
    · rw [decide_eq_true (congrArg V.int d9)]
      refine ⟨_, rfl, _, rfl, (by show 3 ≤ sizeLine; decide), fun p np => ?_⟩
      exact fin "cut" [.int (some_ : Int)] [.int (some_ : Int)] _ p (by decide) ⟨by decide +kernel, by decide +kernel⟩ (fit_one (by decide) rfl (by omega) (by omega)) (fun z => absurd z (by decide)) (.cons (.int _) .nil)
        (fun x hx => by
          rw [List.mem_singleton.mp hx]
          exact pz_int (by omega)) (by simp) n4 k14 np
    rw [decide_eq_false (fun z => d9 (V.int.inj z))]
    -- onetime
    obtain ⟨z, r, rfl⟩ := chk_head hc
    have hard : ∀ H5, Hnd H5 a d → Keep a H4 H5 → ∀ p, H5 p = none → Q (.ref p) (upd H5 p (.tup [.str "bit", v])) := fun H5 n5 k5 p np =>
      fin "bit" [] [] H5 p (by decide) ⟨by decide +kernel, by decide +kernel⟩ (by decide) (fun z => absurd z (by decide)) .nil (fun x hx => (nomatch hx)) (by decide) n5 (k14.trans k5) np
    refine ⟨_, rfl, rfl, _, rfl, ?_⟩
    by_cases d10 : kind = 10
    · rw [decide_eq_true (congrArg V.int d10)]
      have hdp := dp_same k14.off _ hD
      cases hdp with
      | @tup pa ws _ hT hA =>
      obtain ⟨v0, vr, rfl, h0, _⟩ := dp_cons hA
      cases h0
      refine ⟨_, rfl, pa, _, 0, .str z, rfl, rfl, sqt_on hT, at_zero, (by show 4 ≤ sizeLine; decide), fun p1 np1 => ⟨p1, _, rfl, .inl (.inl (.inl upd_same)), rfl, rfl, _, rfl, ?_⟩⟩
      show if inV (.str z) [.str "say", .str "toss", .str "look", .str "ask"] = true then _ else _
      cases ci : inV (.str z) [.str "say", .str "toss", .str "look", .str "ask"] with
      | true =>
        have hno : madeD (.tuple (.str z :: r)) = false := by
          have ee : ∀ y : Str, eqV (.str y) (.str z) = true → z = y := fun y h => (beq_iff_eq.mp (show (y == z) = true from h)).symm
          have h4 : (eqV (.str "say") (.str z) || (eqV (.str "toss") (.str z) || (eqV (.str "look") (.str z) || (eqV (.str "ask") (.str z) || false)))) = true := ci
          simp only [Bool.or_eq_true, Bool.or_false] at h4
          rcases h4 with h | h | h | h <;> rw [ee _ h] <;> (show madeZ _ = false) <;> decide
        refine ⟨_, rfl, _, rfl, _, rfl, a, d, 4, rfl, by decide, n4.new np1, fun r5 H5 l5 u5 n5 k5 => ⟨_, _, rfl, rfl, ?_⟩⟩
        obtain ⟨mm, em, m1, m2⟩ : ∃ n : Nat, (1 : Int) + r5 = (n : Int) ∧ 1 ≤ n ∧ n ≤ 4 := ⟨(1 + r5).toNat, by omega, by omega, by omega⟩
        refine ⟨a, d, n, mm, ?_, by omega, by omega, n5, fun vt rows H6 hl hrw hd n6 k6 => ?_⟩
        · show [V.ref a, V.int (n : Int), V.int (1 + r5)] = _
          rw [em]
        have wf := tabP hl hrw (by omega) (by omega)
        refine ⟨_, rfl, a, d, 4, rfl, by decide, n6, fun r6 H7 l7 u7 n7 k7 => ⟨_, _, rfl, rfl, _, rfl, (by show 4 ≤ sizeLine; decide), fun p np => ?_⟩⟩
        exact fin "onetime" [vt, .int (1 + r6)] [tabD n mm rows, .int (1 + r6)] H7 p (by decide) ⟨by decide +kernel, by decide +kernel⟩ (fit_onetime wf (by omega) (by omega)) (fun _ => hno) (.cons (dp_same k7.off _ hd) (.cons (.int _) .nil))
          (fun x hx => by
            rcases List.mem_cons.mp hx with e | hx
            · exact e ▸ (wf.pz (by omega))
            · rw [List.mem_singleton.mp hx]
              exact pz_int (by omega)) (by simp) n7 ((((k14.trans (Keep.new np1)).trans k5).trans k6).trans k7) np
      | false =>
        refine ⟨_, rfl, rfl, _, rfl, ?_⟩
        rw [decide_eq_false (show ¬ V.int kind = V.int 11 from fun z => by have := V.int.inj z; omega)]
        exact ⟨_, rfl, (by show 2 ≤ sizeLine; decide), fun p np => hard _ (n4.new np1) (Keep.new np1) p np⟩
    rw [decide_eq_false (fun z => d10 (V.int.inj z))]
    refine ⟨_, rfl, rfl, _, rfl, ?_⟩
    by_cases d11 : kind = 11
    · rw [decide_eq_true (congrArg V.int d11)]
      refine ⟨_, rfl, a, d, 10, rfl, by decide, n4, fun r5 H5 l5 u5 n5 k5 => ⟨_, _, rfl, rfl, (by show 3 ≤ sizeLine; decide), fun p1 np1 => ?_⟩⟩
      have p1a := (n5.ne np1).1
      refine ⟨_, rfl, a, d, 3, rfl, by decide, n5.new np1, fun r4 H6 l6 u6 n6 k6 => ?_⟩
      obtain ⟨qq, eq, q1, q2⟩ : ∃ s : Int, atI [V.int 1, V.int 10, V.int (1 + r5)] r4 = some (V.int s) ∧ 1 ≤ s ∧ s ≤ 10 := by
        have : r4 = 0 ∨ r4 = 1 ∨ r4 = 2 := by omega
        rcases this with e | e | e <;> subst e
        · exact ⟨1, rfl, by decide, by decide⟩
        · exact ⟨10, rfl, by decide, by decide⟩
        · exact ⟨_, rfl, by omega, by omega⟩
      refine ⟨p1, _, r4, _, rfl, rfl, .inl (.inl (k6 _ _ upd_same p1a)), eq, _, rfl, (by show 3 ≤ sizeLine; decide), fun p np => ?_⟩
      exact fin "hard" [.int qq] [.int qq] _ p (by decide) ⟨by decide +kernel, by decide +kernel⟩ (fit_one (by decide) rfl q1 q2) (fun z => absurd z (by decide)) (.cons (.int _) .nil)
        (fun x hx => by
          rw [List.mem_singleton.mp hx]
          exact pz_int (by omega)) (by simp) n6 (((k14.trans k5).trans (Keep.new np1)).trans k6) np
    · rw [decide_eq_false (fun z => d11 (V.int.inj z))]
      exact ⟨_, rfl, (by show 2 ≤ sizeLine; decide), fun p np => hard H4 n4 (Keep.refl a H4) p np⟩

theorem map_int_set (rs : List Int) (j : Nat) (x : Int) : (rs.map V.int).set j (.int x) = (rs.set j x).map V.int := by
  rw [List.map_set]
theorem at_int {rs : List Int} {j : Nat} {z : Int} (h : rs[j]? = some z) : atI (rs.map V.int) ((j : Nat) : Int) = some (.int z) := atI_nat (by
  rw [List.getElem?_map, h]
  rfl)
theorem ok_draws {f : Addr} {fd : FuncData} (D : Df K mg "_law_draws" s_law_draws ["script", "many"] f fd) (T : Txt K w mg cs) : FnOk P w K mg base CX0 1 f fd ["script", "many"] (spDraws K) := by
  refine D.fn.ok sc_law_draws (fun vs H Q E h => ?_) (fun cdv A outer s H vs Q E hr h => ?_)
  · obtain ⟨a, ns, many, rfl, _⟩ := h
    rfl
  · obtain ⟨a, ns, many, rfl, hS, hl, hm, q⟩ := h
    refine ⟨_, (pss_cons (ps_setLc (i := 2) (own := [("cell", 5)]) (g := gName 5) (tt := tYes) rfl sc_law_draws.nd rfl rfl (sw_true rfl rfl rfl (by decide +kernel)) (pi_list (pv 0)) (blkOk_by (own := [("cell", 5)]) (N := ["script", "many", "rests", "draws", "k", "cell", "at", "mixed"]) (sc := defScope s_law_draws) (by decide +kernel)) (fun _ _ _ _ _ => (pg_name (i := 5) sc_law_draws.nd rfl (.inl rfl))) (fun _ _ _ _ _ => pts_nil) (fun _ _ _ _ _ => (pe_callB call_abs (by rfl) T.n_abs (by decide +kernel) (pa_cons (pe_callTy call_int1 (by rfl) T.n_int (by decide +kernel) (pa_cons (pv 5) pa_nil)) pa_nil)))) (pss_cons (ps_set (i := 3) sc_law_draws.nd rfl (.inl rfl) (pe_lst pa_nil)) (pss_cons (ps_for PassesOwn.never rfl (pi_range1 (by rfl) T.n_range (pa_cons (pv 1) pa_nil)) (pg_name (i := 4) sc_law_draws.nd rfl (.inl rfl)) (pss_cons (ps_set (i := 5) sc_law_draws.nd rfl (.inl rfl) (pv 4)) (C8.pss_cut (ps_if (pt_cmpR op_gt (pe_callB (lenS K) (by rfl) T.n_len (by decide +kernel) (pa_cons (pv 0) pa_nil)) pe_int (nomark _)) (pss_cons (ps_set (i := 6) sc_law_draws.nd rfl (.inl rfl) (pe_op op_mod (pv 4) (pe_callB (lenS K) (by rfl) T.n_len (by decide +kernel) (pa_cons (pv 0) pa_nil)))) (pss_cons (ps_set (i := 5) sc_law_draws.nd rfl (.inl rfl) (pe_callTy call_int1 (by rfl) T.n_int (by decide +kernel) (pa_cons (pe_ix (ixL K) (pv 0) (pv 6) (fun _ _ => rfl)) pa_nil))) (pss_one (ps_if (PW.pt (pw_and (pt_cmpR op_ge (pv 5) (pe_op op_pow pe_int pe_int) (nomark _)) (pw_and1 (pt_cmpR op_gt (pe_ix (ixL K) (pv 2) (pv 6) (fun _ _ => rfl)) pe_int (nomark _))))) (pss_cons (ps_expr (pe_bm PySem.F.plainAttrs_list PySem.F.slot_list_append PySem.F.type_list_append mt_append (pv 3) (pa_cons (pe_op op_mod (pe_callTy call_int1 (by rfl) T.n_int (by decide +kernel) (pa_cons (pe_ix (ixL K) (pv 2) (pv 6) (fun _ _ => rfl)) pa_nil)) pe_int) pa_nil))) (pss_cons (ps_asg (pe_op op_fdiv (pe_callTy call_int1 (by rfl) T.n_int (by decide +kernel) (pa_cons (pe_ix (ixL K) (pv 2) (pv 6) (fun _ _ => rfl)) pa_nil)) pe_int) (pg_sub (pv 2) (pv 6) set_list)) (pss_one ps_continue))) pss_nil)))) pss_nil) (pss_cons (ps_set (i := 7) sc_law_draws.nd rfl (.inl rfl) (pe_op op_mod (pe_callTy call_int1 (by rfl) T.n_int (by decide +kernel) (pa_cons (pe_op op_add (pe_op op_add (pe_op op_mul (pv 5) pe_int) (pe_op op_mul (pv 4) pe_int)) pe_int) pa_nil)) pe_int)) (pss_cons (ps_set (i := 7) sc_law_draws.nd rfl (.inl rfl) (pe_op op_mod (pe_callTy call_int1 (by rfl) T.n_int (by decide +kernel) (pa_cons (pe_op op_add (pe_op op_fdiv (pe_op op_mul (pv 7) (pv 7)) pe_int) (pv 7)) pa_nil)) pe_int)) (pss_one (ps_expr (pe_bm PySem.F.plainAttrs_list PySem.F.slot_list_append PySem.F.type_list_append mt_append (pv 3) (pa_cons (pe_op op_mod (pe_callTy call_int1 (by rfl) T.n_int (by decide +kernel) (pa_cons (pe_op op_add (pe_op op_fdiv (pe_op op_mul (pv 7) (pv 7)) pe_int) (pe_op op_mul (pv 4) pe_int)) pa_nil)) pe_int) pa_nil))))))))) (pss_one (ps_ret (pv 3)))))), ?_⟩
    -- rests
    refine ⟨_, rfl, a, rfl, ⟨_, hS⟩, fun R hR => ?_⟩
    refine lc_list (xs := ns.map V.int) (fun i H' => ∃ rs : List Int, rs.length = i ∧ (∀ x ∈ rs, 0 ≤ x) ∧ Same H H' ∧ H' R = some (.lst (rs.map V.int))) ?_ ?_ ?_ ?_
    · exact ⟨[], rfl, fun x hx => (nomatch hx), same_new hR, upd_same⟩
    · rintro i H' _ ⟨rs, _, _, hs, _⟩
      exact hs.seq hS
    · rintro i x H' hx ⟨rs, hn, h0, hs, hr'⟩
      obtain ⟨z, hz⟩ : ∃ z, x = V.int z := by
        rw [List.getElem?_map] at hx
        cases e : ns[i]? with
        | none =>
          rw [e] at hx
          cases hx
        | some z =>
          rw [e] at hx
          exact ⟨z, (Option.some.inj hx).symm⟩
      subst hz
      have hi : i < ns.length := by
        have := (List.getElem?_eq_some_iff.mp hx).1
        rw [List.length_map] at this
        exact this
      refine ⟨rfl, ?_⟩
      refine ⟨_, rfl, .inl ⟨_, rfl, _, rfl, _, hr', ?_, ?_⟩⟩
      · rw [List.length_map]
        exact small1000 (by omega)
      · refine ⟨rs ++ [if z < 0 then -z else z], by rw [List.length_append, hn]; rfl, ?_, ?_, ?_⟩
        · intro y hy
          rcases List.mem_append.mp hy with hy | hy
          · exact h0 y hy
          · rw [List.mem_singleton.mp hy]
            split <;> omega
        · intro b o e
          rw [upd_ne (ne_of_none e hR)]
          exact hs b o e
        · rw [upd_same, List.map_append]
          rfl
    · rintro H1 ⟨rs, hn, h0, s1, e1⟩
      rw [List.length_map] at hn
      -- draws = []
      refine ⟨Nat.zero_le _, fun L hL => ?_⟩
      have nRL : R ≠ L := ne_of_none e1 hL
      have hL0 : H L = none := s1.free hL
      -- the loop
      refine ⟨_, rfl, _, rfl, by omega, by omega, for_range (lo := 0) (n := many) (fun i σ H' => ∃ (rs ds : List Int) (y4 y5 y6 y7 : Option V), σ = [some (.ref a), some (.int (many : Int)), some (.ref R), some (.ref L), y4, y5, y6, y7] ∧
        rs.length = ns.length ∧ (∀ x ∈ rs, 0 ≤ x) ∧ ds.length = i ∧ (∀ x ∈ ds, 0 ≤ x) ∧ Same H H' ∧ H' R = some (.lst (rs.map V.int)) ∧ H' L = some (.lst (ds.map V.int))) ?_ ?_ ?_⟩
      · refine ⟨rs, [], none, none, none, none, rfl, hn, h0, rfl, fun x hx => (nomatch hx), s1.trans (same_new hL), ?_, upd_same⟩
        rw [upd_ne nRL]
        exact e1
      · clear e1 hn h0 rs s1 hL
        rintro i σ H' hi ⟨rs, ds, y4, y5, y6, y7, rfl, hn, h0, hd, hd0, s1, e1, e2⟩
        have hSL : SqL K H' a (ns.map V.int) := s1.seq hS
        -- what the rest of the turn asks: a number is put behind the draws
        have put : ∀ (x : Int) (σ' : L2.St) (H2 : Hp) (rs' : List Int), 0 ≤ x → rs'.length = ns.length → (∀ x ∈ rs', 0 ≤ x) → Same H H2 → H2 R = some (.lst (rs'.map V.int)) → H2 L = some (.lst ((ds ++ [x]).map V.int)) →
            (∃ y4 y5 y6 y7 : Option V, σ' = [some (.ref a), some (.int (many : Int)), some (.ref R), some (.ref L), y4, y5, y6, y7]) →
            (fun (i : Nat) (σ : L2.St) (H' : Hp) => ∃ (rs ds : List Int) (y4 y5 y6 y7 : Option V), σ = [some (.ref a), some (.int (many : Int)), some (.ref R), some (.ref L), y4, y5, y6, y7] ∧
              rs.length = ns.length ∧ (∀ x ∈ rs, 0 ≤ x) ∧ ds.length = i ∧ (∀ x ∈ ds, 0 ≤ x) ∧ Same H H' ∧ H' R = some (.lst (rs.map V.int)) ∧ H' L = some (.lst (ds.map V.int))) (i + 1) σ' H2 := by
          rintro x σ' H2 rs' hx g1 g2 g3 g4 g5 ⟨z4, z5, z6, z7, rfl⟩
          refine ⟨rs', ds ++ [x], z4, z5, z6, z7, rfl, g1, g2, by rw [List.length_append, hd]; rfl, ?_, g3, g4, g5⟩
          intro y hy
          rcases List.mem_append.mp hy with hy | hy
          · exact hd0 y hy
          · rw [List.mem_singleton.mp hy]
            exact hx
        have app : ∀ (x : Int), upd H' L (.lst (ds.map V.int ++ [.int x])) R = some (.lst (rs.map V.int)) ∧ Same H (upd H' L (.lst (ds.map V.int ++ [.int x]))) ∧ upd H' L (.lst (ds.map V.int ++ [.int x])) L = some (.lst ((ds ++ [x]).map V.int)) := by
          intro x
          refine ⟨by rw [upd_ne nRL]; exact e1, fun b u e => ?_, ?_⟩
          · rw [upd_ne (ne_of_none e hL0)]
            exact s1 b u e
          · rw [upd_same, List.map_append]
            rfl
        have hsz : (ds.map V.int).length < sizeLine := by
          rw [List.length_map]
          exact Nat.lt_of_lt_of_le (show ds.length < 10000 by omega) (by decide)
        -- cell = k
        refine ⟨_, rfl, ?_⟩
        refine ⟨fun σ2 H2 => H2 = H' ∧ ∃ (c : Int) (y6 : Option V), σ2 = [some (.ref a), some (.int (many : Int)), some (.ref R), some (.ref L), some (.int (0 + (i : Int))), some (.int c), y6, y7], ?_, ?_⟩
        · -- if len(script) > 0
          refine ⟨_, rfl, a, _, rfl, .inl hSL, _, _, rfl, rfl, _, rfl, ite2 (fun c => ?_) (fun c => ?_)⟩
          · have hp : 0 < ns.length := by
              have c' : (0 : Int) < (((ns.map V.int).length : Nat) : Int) := of_decide_eq_true c
              rw [List.length_map] at c'
              omega
            -- at = k % len(script)
            refine ⟨_, rfl, _, rfl, a, _, rfl, .inl hSL, _, _, rfl, rfl, ?_, ?_⟩
            · rw [List.length_map]
              omega
            · obtain ⟨j, hj, hjl⟩ : ∃ j : Nat, (0 + (i : Int)) % (((ns.map V.int).length : Nat) : Int) = (j : Int) ∧ j < ns.length := by
                rw [List.length_map]
                have h1 := Int.emod_nonneg (0 + (i : Int)) (b := (ns.length : Int)) (by omega)
                have h2 := Int.emod_lt_of_pos (0 + (i : Int)) (b := (ns.length : Int)) (by omega)
                exact ⟨((0 + (i : Int)) % (ns.length : Int)).toNat, by omega, by omega⟩
              show gName 6 (V.int ((0 + (i : Int)) % (((ns.map V.int).length : Nat) : Int))) _ _ _
              rw [hj]
              have hx : (ns.map V.int)[j]? = some (.int ns[j]) := by
                rw [List.getElem?_map, List.getElem?_eq_getElem hjl]
                rfl
              have hjr : j < rs.length := by omega
              have hy : (rs.map V.int)[j]? = some (.int rs[j]) := by
                rw [List.getElem?_map, List.getElem?_eq_getElem hjr]
                rfl
              -- cell = int(script[at])
              refine ⟨_, rfl, _, rfl, a, _, (j : Int), _, rfl, rfl, hSL, atI_nat hx, .inl ⟨_, rfl, ?_⟩⟩
              -- if cell >= 10 ** 18 and rests[at] > 0
              refine ⟨_, rfl, _, _, rfl, rfl, ⟨by decide, by decide, by decide⟩, _, _, rfl, rfl, _, rfl, ite2 (fun c => ?_) (fun c => ?_)⟩
              · refine ⟨_, rfl, _, rfl, R, _, (j : Int), _, rfl, rfl, .inl (.inl e1), atI_nat hy, _, _, rfl, rfl, _, rfl, ite2 (fun c => ?_) (fun c => ?_)⟩
                · have hr0 : 0 ≤ rs[j] := h0 _ (List.getElem_mem hjr)
                  -- draws.append(int(rests[at]) % 1000003)
                  refine ⟨_, rfl, .inl ⟨rfl, _, .inl (.inl e2)⟩, _, rfl, _, rfl, R, _, (j : Int), _, rfl, rfl, .inl (.inl e1), atI_nat hy, .inl ⟨_, rfl, _, _, rfl, rfl, (by show (0 : Int) < 1000003; decide), L, _, _, rfl, rfl, e2, hsz, ?_⟩⟩
                  obtain ⟨p1, p2, p3⟩ := app (rs[j] % 1000003)
                  -- rests[at] = int(rests[at]) // 1000003
                  refine ⟨_, rfl, _, rfl, R, _, (j : Int), _, rfl, rfl, .inl (.inl p1), atI_nat hy, .inl ⟨_, rfl, _, _, rfl, rfl, ⟨by decide, by decide⟩, _, rfl, _, rfl, R, _, (j : Int), j, rfl, rfl, p1, ?_, ?_⟩⟩
                  · unfold ixN
                    rw [if_pos (by omega), if_pos (by rw [List.length_map]; omega)]
                    rfl
                  · refine put (rs[j] % 1000003) _ _ (rs.set j (rs[j] / 1000003)) (by omega) (by rw [List.length_set]; exact hn) ?_ ?_ ?_ ?_ ⟨_, _, _, _, rfl⟩
                    · intro y hy'
                      rcases List.mem_or_eq_of_mem_set hy' with z | z
                      · exact h0 y z
                      · rw [z]
                        omega
                    · intro b u e
                      rw [upd_ne (ne_of_none e hR)]
                      exact p2 b u e
                    · rw [upd_same, List.map_set]
                    · rw [upd_ne nRL.symm]
                      exact p3
                · exact ⟨rfl, _, _, rfl⟩
              · exact ⟨rfl, _, _, rfl⟩
          · exact ⟨rfl, _, _, rfl⟩
        · rintro σ2 H2 ⟨rfl, c, z6, rfl⟩
          -- mixed, twice
          refine ⟨_, rfl, _, _, rfl, rfl, .inr ⟨by decide, by decide⟩, _, rfl, _, _, rfl, rfl, .inr ⟨by decide, by decide⟩, _, _, rfl, rfl, _, _, rfl, rfl, .inl ⟨_, rfl, _, _, rfl, rfl, (by show (0 : Int) < 2147483647; decide), ?_⟩⟩
          refine ⟨_, rfl, _, rfl, _, _, rfl, rfl, .inl ⟨?_, ?_⟩, _, _, rfl, rfl, ⟨by decide, by decide⟩, _, rfl, _, _, rfl, rfl, .inl ⟨_, rfl, _, _, rfl, rfl, (by show (0 : Int) < 2147483629; decide), ?_⟩⟩
          · omega
          · omega
          -- draws.append
          refine ⟨_, rfl, .inl ⟨rfl, _, .inl (.inl e2)⟩, _, rfl, _, rfl, _, _, rfl, rfl, .inl ⟨?_, ?_⟩, _, _, rfl, rfl, ⟨by decide, by decide⟩, _, rfl, _, _, rfl, rfl, .inr ⟨by decide, by decide⟩, _, _, rfl, rfl, .inl ⟨_, rfl, _, _, rfl, rfl, (by show (0 : Int) < 2147483629; decide), L, _, _, rfl, rfl, e2, hsz, ?_⟩⟩
          · omega
          · omega
          refine put _ _ _ rs ?_ hn h0 (app _).2.1 (app _).1 (app _).2.2 ⟨_, _, _, _, rfl⟩
          exact Int.emod_nonneg _ (by decide)
      · rintro σ H2 ⟨rs, ds, y4, y5, y6, y7, rfl, hn, h0, hd, hd0, s2, e1, e2⟩
        exact ⟨_, rfl, q L ds H2 hL0 s2 e2 hd0⟩

theorem ok_take {f : Addr} {fd : FuncData} (D : Df K mg "_law_take" s_law_take ["hand", "many"] f fd) (T : Txt K w mg cs) : FnOk P w K mg base CX0 1 f fd ["hand", "many"] spTake := by
  refine D.fn.ok sc_law_take (fun vs H Q E h => ?_) (fun cdv A outer s H vs Q E hr h => ?_)
  · obtain ⟨a, d, many, rfl, _⟩ := h
    rfl
  · obtain ⟨a, d, many, rfl, hm, ⟨ds, i, h1, h2, h3, h4⟩, q⟩ := h
    refine ⟨_, (pss_cons (ps_set (i := 2) sc_law_take.nd rfl (.inl rfl) (pe_ix (ixL K) (pv 0) pe_int (fun _ _ => rfl))) (pss_cons (ps_asg (pe_op op_add (pv 2) pe_int) (pg_sub (pv 0) pe_int set_list)) (pss_cons (ps_set (i := 3) sc_law_take.nd rfl (.inl rfl) (pe_ix (ixL K) (pv 0) pe_int (fun _ _ => rfl))) (pss_cons (ps_if (pt_cmpR op_ge (pv 2) (pe_callB (lenS K) (by rfl) T.n_len (by decide +kernel) (pa_cons (pv 3) pa_nil)) (nomark _)) (pss_one (ps_ret pe_int)) pss_nil) (pss_one (ps_ret (pe_op op_mod (pe_op op_fdiv (pe_callTy call_int1 (by rfl) T.n_int (by decide +kernel) (pa_cons (pe_ix (ixL K) (pv 3) (pv 2) (fun _ _ => rfl)) pa_nil)) pe_int) (pv 1)))))))), ?_⟩
    have s1 : Same H H := Same.refl H
    -- at = hand[1]
    refine ⟨_, rfl, a, _, 1, .int (i : Int), rfl, rfl, .inl (.inl h1), rfl, ?_⟩
    -- hand[1] = at + 1
    refine ⟨_, rfl, _, _, rfl, rfl, _, rfl, a, _, 1, 1, rfl, rfl, h1, rfl, ?_⟩
    -- draws = hand[0]
    refine ⟨_, rfl, a, _, 0, .ref d, rfl, rfl, .inl (.inl upd_same), rfl, ?_⟩
    have hd : (upd H a (.lst [.ref d, .int ((i : Int) + 1)])) d = some (.lst (ds.map V.int)) := by
      rw [upd_ne h4]
      exact h2
    have hn : Hnd (upd H a (.lst [.ref d, .int ((i : Int) + 1)])) a d := ⟨ds, i + 1, upd_same, hd, h3, h4⟩
    have hk : Keep a H (upd H a (.lst [.ref d, .int ((i : Int) + 1)])) := fun b o e n => by
      rw [upd_ne n]
      exact e
    -- at >= len(draws)
    refine ⟨_, rfl, _, rfl, d, _, rfl, .inl (.inl (.inl hd)), _, _, rfl, rfl, _, rfl, ite2 (fun c => ?_) (fun c => ?_)⟩
    · exact q 0 _ (Int.le_refl 0) hm hn hk
    · have hi : i < ds.length := by
        have c' : ¬ (((ds.map V.int).length : Int) ≤ (i : Int)) := fun z => c (decide_eq_true z)
        rw [List.length_map] at c'
        omega
      have hx : (ds.map V.int)[i]? = some (.int ds[i]) := by
        rw [List.getElem?_map, List.getElem?_eq_getElem hi]
        rfl
      have h0 := h3 ds[i] (List.getElem_mem hi)
      refine ⟨_, rfl, _, rfl, d, _, (i : Int), .int ds[i], rfl, rfl, .inl (.inl hd), atI_nat hx, .inl ⟨_, rfl, ?_⟩⟩
      refine ⟨_, _, rfl, rfl, ⟨by decide, by decide⟩, _, rfl, _, _, rfl, rfl, hm, ?_⟩
      exact q _ _ (Int.emod_nonneg _ (by omega)) (Int.emod_lt_of_pos _ hm) hn hk

theorem join_bits (bs : List Bool) : Txt.join "" (bs.map fun b => sb [b]) = sb bs := by
  have e : bs.map (fun b => sb [b]) = (bs.map fun b => [cB b]).map SX.S := by
    rw [List.map_map]
    rfl
  have j : ∀ ps : List (List Nat), TL.joinL [] ps = ps.flatten := by
    intro ps
    induction ps with
    | nil => rfl
    | cons x r ih =>
      cases r with
      | nil => exact (List.append_nil x).symm
      | cons y r =>
        show x ++ ([] ++ TL.joinL [] (y :: r)) = x ++ (y :: r).flatten
        rw [ih, List.nil_append]
  rw [e]
  refine (SX.join_S [] _).trans ?_
  rw [j]
  unfold sb
  congr 1
  clear e j
  induction bs with
  | nil => rfl
  | cons b bs ih =>
    rw [List.map_cons, List.flatten_cons, ih]
    rfl
theorem ok_string {f : Addr} {fd : FuncData} (D : Df K mg "_law_string" s_law_string ["hand", "length"] f fd) (T : Txt K w mg cs) (c_law_take : Cl P w K mg base CX0 1 "_law_take" spTake) : FnOk P w K mg base CX0 2 f fd ["hand", "length"] spString := by
  refine D.fn.ok sc_law_string (fun vs H Q E h => ?_) (fun cdv A outer s H vs Q E hr h => ?_)
  · obtain ⟨a, d, n, rfl, _⟩ := h
    rfl
  · obtain ⟨a, d, n, rfl, hn, hh, q⟩ := h
    refine ⟨_, (pss_one (ps_ret (pe_m1 PySem.F.slot_str_join PySem.F.type_str_join (mtJoin K) pe_str (pe_lc (own := [("k", 2)]) (g := gName 2) (tt := tYes) rfl sc_law_string.nd (pi_range1 (by rfl) T.n_range (pa_cons (pv 1) pa_nil)) (blkOk_by (own := [("k", 2)]) (N := ["hand", "length", "k"]) (sc := defScope s_law_string) (by decide +kernel)) (fun _ _ _ _ _ => (pg_name (i := 2) sc_law_string.nd rfl (.inl rfl))) (fun _ _ _ _ _ => pts_nil) (fun _ _ _ _ _ => (pe_ix (ixL K) (pe_lst (pa_cons pe_str (pa_cons pe_str pa_nil))) (pe_cl c_law_take hr (by first | decide | omega) (by rfl) (pa_cons (pv 0) (pa_cons pe_int pa_nil))) (fun _ _ => rfl))))))), ?_⟩
    refine ⟨⟨_, rfl⟩, _, rfl, _, rfl, by omega, by omega, fun Dl hD => ?_⟩
    obtain ⟨nDa, nDd⟩ := hh.ne hD
    refine lc_range (lo := 0) (n := n) (fun i H' => ∃ bs : List Bool, bs.length = i ∧ Hnd H' a d ∧ Keep a H H' ∧ H' Dl = some (.lst (bs.map fun b => V.str (sb [b])))) ?_ ?_ ?_
    · exact ⟨[], rfl, hh.new hD, Keep.new hD, upd_same⟩
    · rintro i H' hi ⟨bs, hl, h1, h2, h3⟩
      refine ⟨rfl, ?_⟩
      -- the list ['0', '1'], then the draw
      refine ⟨by decide, fun p np => ?_⟩
      obtain ⟨npa, npd⟩ := h1.ne np
      refine ⟨_, rfl, a, d, 2, rfl, by decide, h1.new np, fun r H2 hr0 hr2 hh2 hk2 => ?_⟩
      have e2 : H2 Dl = some (.lst (bs.map fun b => V.str (sb [b]))) := hk2 _ _ (by rw [upd_ne (ne_of_none h3 np)]; exact h3) nDa
      have hb : ∃ b : Bool, atI [V.str "0", V.str "1"] r = some (V.str (sb [b])) := by
        have er : r = 0 ∨ r = 1 := by omega
        rcases er with e | e <;> subst e
        · exact ⟨false, rfl⟩
        · exact ⟨true, rfl⟩
      obtain ⟨b, hb⟩ := hb
      refine ⟨p, _, r, _, rfl, rfl, .inl (.inl (hk2 _ _ upd_same npa)), hb, _, e2, ?_, ?_⟩
      · rw [List.length_map]
        exact Nat.lt_of_lt_of_le (show bs.length < 10000 by omega) (by decide)
      · refine ⟨bs ++ [b], by rw [List.length_append, hl]; rfl, hh2.set nDa nDd, ((h2.trans (Keep.new np)).trans hk2).set hD, ?_⟩
        rw [upd_same, List.map_append]
        rfl
    · rintro H' ⟨bs, hl, h1, h2, h3⟩
      refine ⟨_, Dl, bs.map (fun b => sb [b]), rfl, rfl, .inl (.inl (.inl (by rw [List.map_map]; exact h3))), ?_, ?_⟩
      · have e : ((bs.map fun b => sb [b]).map (·.length)).sum = bs.length := by
          rw [List.map_map]
          clear h3 hl
          induction bs with
          | nil => rfl
          | cons b bs ih =>
            rw [List.map_cons, List.sum_cons, ih, List.length_cons]
            show 1 + _ = _
            omega
        rw [e]
        show _ + _ * 0 ≤ _
        omega
      · rw [join_bits]
        exact q bs H' hl h1 h2

theorem ok_table {f : Addr} {fd : FuncData} (D : Df K mg "_law_table" s_law_table ["hand", "n", "m"] f fd) (T : Txt K w mg cs) (c_law_string : Cl P w K mg base CX0 2 "_law_string" spString) : FnOk P w K mg base CX0 3 f fd ["hand", "n", "m"] (spTable K) := by
  refine D.fn.ok sc_law_table (fun vs H Q E h => ?_) (fun cdv A outer s H vs Q E hr h => ?_)
  · obtain ⟨a, d, n, m, rfl, _⟩ := h
    rfl
  · obtain ⟨a, d, n, m, rfl, hn, hm, hh, q⟩ := h
    refine ⟨_, (pss_cons (ps_setLc (i := 3) (own := [("k", 4)]) (g := gName 4) (tt := tYes) rfl sc_law_table.nd rfl rfl (sw_true rfl rfl rfl (by decide +kernel)) (pi_range1 (by rfl) T.n_range (pa_cons (pe_op op_shl pe_int (pv 1)) pa_nil)) (blkOk_by (own := [("k", 4)]) (N := ["hand", "n", "m", "rows", "k"]) (sc := defScope s_law_table) (by decide +kernel)) (fun _ _ _ _ _ => (pg_name (i := 4) sc_law_table.nd rfl (.inl rfl))) (fun _ _ _ _ _ => pts_nil) (fun _ _ _ _ _ => (pe_cl c_law_string hr (by first | decide | omega) (by rfl) (pa_cons (pv 0) (pa_cons (pv 2) pa_nil))))) (pss_one (ps_ret (pe_tup (pa_cons pe_str (pa_cons (pv 1) (pa_cons (pv 2) (pa_cons (pe_callTy (tupOf K) (by rfl) T.n_tuple (by decide +kernel) (pa_cons (pv 3) pa_nil)) pa_nil)))))))), ?_⟩
    have hp : 2 ^ n ≤ 256 := two_pow_le (b := 8) hn
    refine ⟨_, rfl, _, _, rfl, rfl, ⟨by omega, by omega, by decide⟩, _, rfl, ?_⟩
    rw [shl_one]
    generalize hN : 2 ^ n = N at hp ⊢
    refine ⟨by omega, by omega, fun Dl hD => ?_⟩
    obtain ⟨nDa, nDd⟩ := hh.ne hD
    refine lc_range (lo := 0) (n := _) (fun i H' => ∃ rows : List (List Bool), rows.length = i ∧ (∀ r ∈ rows, r.length = m) ∧ Hnd H' a d ∧ Keep a H H' ∧ H' Dl = some (.lst (rows.map fun r => V.str (sb r)))) ?_ ?_ ?_
    · exact ⟨[], rfl, fun r hr => (nomatch hr), hh.new hD, Keep.new hD, upd_same⟩
    · rintro i H' hi ⟨rows, hl, hr, h1, h2, h3⟩
      refine ⟨rfl, ?_⟩
      refine ⟨_, rfl, _, rfl, a, d, m, rfl, by omega, h1, fun bs H2 hb hh2 hk2 => ⟨_, hk2 _ _ h3 nDa, ?_, ?_⟩⟩
      · rw [List.length_map]
        exact Nat.lt_of_lt_of_le (show rows.length < 10000 by omega) (by decide)
      · refine ⟨rows ++ [bs], by rw [List.length_append, hl]; rfl, ?_, hh2.set nDa nDd, (h2.trans hk2).set hD, ?_⟩
        · intro r hr'
          rcases List.mem_append.mp hr' with z | z
          · exact hr r z
          · rw [List.mem_singleton.mp z]
            exact hb
        · rw [upd_same, List.map_append]
          rfl
    · rintro H' ⟨rows, hl, hr, h1, h2, h3⟩
      have hl2 : rows.length = 2 ^ n := by
        rw [hl, hN]
        omega
      refine ⟨_, rfl, _, rfl, _, rfl, Dl, _, rfl, .inl ⟨.inl (.inl h3), fun l hl' => ⟨(by show 4 ≤ sizeLine; decide), fun p np => ?_⟩⟩⟩
      have hl1 := h1.ne hl'
      have h1' := h1.new (o := .tup (rows.map fun r => V.str (sb r))) hl'
      have hp1 := h1'.ne np
      refine q _ rows _ hl2 hr ?_ (h1'.new np) ((h2.trans (Keep.new hl')).trans (Keep.new np))
      have e1 : off a (upd (upd H' l (.tup (rows.map fun r => V.str (sb r)))) p (.tup [.str "generator", .int (n : Int), .int (m : Int), .ref l])) p = some (.tup [.str "generator", .int (n : Int), .int (m : Int), .ref l]) := by
        rw [off_ne hp1.1, upd_same]
      have e2 : off a (upd (upd H' l (.tup (rows.map fun r => V.str (sb r)))) p (.tup [.str "generator", .int (n : Int), .int (m : Int), .ref l])) l = some (.tup (rows.map fun r => V.str (sb r))) := by
        rw [off_ne hl1.1, upd_ne (ne_of_none upd_same np), upd_same]
      exact .tup (.inl (.inl e1)) (.cons (.str _) (.cons (.int _) (.cons (.int _) (.cons (.tup (.inl (.inl e2)) (dp_bits rows)) .nil))))
theorem ok_function {f : Addr} {fd : FuncData} (D : Df K mg "_law_function" s_law_function ["hand", "n", "l", "m"] f fd) (T : Txt K w mg cs) (c_law_string : Cl P w K mg base CX0 2 "_law_string" spString) : FnOk P w K mg base CX0 3 f fd ["hand", "n", "l", "m"] (spFunction K) := by
  refine D.fn.ok sc_law_function (fun vs H Q E h => ?_) (fun cdv A outer s H vs Q E hr h => ?_)
  · obtain ⟨a, d, n, l, m, rfl, _⟩ := h
    rfl
  · obtain ⟨a, d, n, l, m, rfl, hn, hl, hm, hh, q⟩ := h
    refine ⟨_, (pss_cons (ps_set (i := 4) sc_law_function.nd rfl (.inl rfl) (pe_lst pa_nil)) (pss_cons (ps_for PassesOwn.never rfl (pi_range1 (by rfl) T.n_range (pa_cons (pe_op op_shl pe_int (pv 1)) pa_nil)) (pg_name (i := 5) sc_law_function.nd rfl (.inl rfl)) (pss_one (ps_expr (pe_bm PySem.F.plainAttrs_list PySem.F.slot_list_append PySem.F.type_list_append mt_append (pv 4) (pa_cons (pe_callTy (tupOf K) (by rfl) T.n_tuple (by decide +kernel) (pa_cons (pe_lc (own := [("k", 6)]) (g := gName 6) (tt := tYes) rfl sc_law_function.nd (pi_range1 (by rfl) T.n_range (pa_cons (pe_op op_shl pe_int (pv 2)) pa_nil)) (blkOk_by (own := [("k", 6)]) (N := ["hand", "n", "l", "m", "rows", "key", "k"]) (sc := defScope s_law_function) (by decide +kernel)) (fun _ _ _ _ _ => (pg_name (i := 6) sc_law_function.nd rfl (.inl rfl))) (fun _ _ _ _ _ => pts_nil) (fun _ _ _ _ _ => (pe_cl c_law_string hr (by first | decide | omega) (by rfl) (pa_cons (pv 0) (pa_cons (pv 3) pa_nil))))) pa_nil)) pa_nil))))) (pss_one (ps_ret (pe_tup (pa_cons pe_str (pa_cons (pv 1) (pa_cons (pv 2) (pa_cons (pv 3) (pa_cons (pe_callTy (tupOf K) (by rfl) T.n_tuple (by decide +kernel) (pa_cons (pv 4) pa_nil)) pa_nil)))))))))), ?_⟩
    have hp : 2 ^ n ≤ 256 := two_pow_le (b := 8) hn
    have hpl : 2 ^ l ≤ 256 := two_pow_le (b := 8) hl
    refine ⟨Nat.zero_le _, fun R hR => ?_⟩
    obtain ⟨nRa, nRd⟩ := hh.ne hR
    refine ⟨_, rfl, _, _, rfl, rfl, ⟨by omega, by omega, by decide⟩, _, rfl, ?_⟩
    rw [shl_one]
    generalize hN : 2 ^ n = N at hp ⊢
    refine ⟨by omega, by omega, for_range (lo := 0) (n := _) (fun i σ H' => ∃ (y5 y6 : Option V) (ws : List V) (tabs : List (List (List Bool))), σ = [some (.ref a), some (.int (n : Int)), some (.int (l : Int)), some (.int (m : Int)), some (.ref R), y5, y6] ∧ tabs.length = i ∧
      (∀ rows ∈ tabs, rows.length = 2 ^ l ∧ ∀ r ∈ rows, r.length = m) ∧ ws.length = i ∧ DpAll K (off R (off a H')) ws (tabs.map rowsD) ∧ Hnd H' a d ∧ Keep a H H' ∧ H' R = some (.lst ws)) ?_ ?_ ?_⟩
    · exact ⟨none, none, [], [], rfl, rfl, fun r hr => (nomatch hr), rfl, DpAll.nil, hh.new hR, Keep.new hR, upd_same⟩
    · rintro i σ H' hi ⟨y5, y6, ws, tabs, rfl, ht, hts, hws, hdp, h1, h2, h3⟩
      refine ⟨_, rfl, .inl ⟨rfl, _, .inl (.inl h3)⟩, ?_⟩
      refine ⟨_, rfl, _, _, rfl, rfl, ⟨by omega, by omega, by decide⟩, _, rfl, ?_⟩
      rw [shl_one]
      generalize hL : 2 ^ l = L at hpl ⊢
      refine ⟨by omega, by omega, fun Dl hD => ?_⟩
      obtain ⟨nDa, nDd⟩ := h1.ne hD
      have nDR : Dl ≠ R := (ne_of_none h3 hD).symm
      refine lc_range (lo := 0) (n := _) (fun j H2 => ∃ rows : List (List Bool), rows.length = j ∧ (∀ r ∈ rows, r.length = m) ∧ Hnd H2 a d ∧ Keep a H' H2 ∧ H2 R = some (.lst ws) ∧ H2 Dl = some (.lst (rows.map fun r => V.str (sb r)))) ?_ ?_ ?_
      · exact ⟨[], rfl, fun r hr => (nomatch hr), h1.new hD, Keep.new hD, by rw [upd_ne nDR.symm]; exact h3, upd_same⟩
      · rintro j H2 hj ⟨rows, hl', hr, g1, g2, g3, g4⟩
        refine ⟨rfl, ?_⟩
        refine ⟨_, rfl, _, rfl, a, d, m, rfl, by omega, g1, fun bs H3 hb hh3 hk3 => ⟨_, hk3 _ _ g4 nDa, ?_, ?_⟩⟩
        · rw [List.length_map]
          exact Nat.lt_of_lt_of_le (show rows.length < 10000 by omega) (by decide)
        · refine ⟨rows ++ [bs], by rw [List.length_append, hl']; rfl, ?_, hh3.set nDa nDd, (g2.trans hk3).set hD, ?_, ?_⟩
          · intro r hr'
            rcases List.mem_append.mp hr' with z | z
            · exact hr r z
            · rw [List.mem_singleton.mp z]
              exact hb
          · rw [upd_ne nDR.symm]
            exact hk3 _ _ g3 nRa
          · rw [upd_same, List.map_append]
            rfl
      · rintro H2 ⟨rows, hl', hr, g1, g2, g3, g4⟩
        have hl2 : rows.length = 2 ^ l := by
          rw [hl', hL]
          omega
        refine ⟨Dl, _, rfl, .inl ⟨.inl (.inl g4), fun t nt => ⟨R, ws, _, rfl, rfl, ?_, ?_, ?_⟩⟩⟩
        · rw [upd_ne (ne_of_none g3 nt)]
          exact g3
        · exact Nat.lt_of_lt_of_le (show ws.length < 10000 by omega) (by decide)
        · obtain ⟨nta, ntd⟩ := g1.ne nt
          have ntR : t ≠ R := (ne_of_none g3 nt).symm
          have kk : Keep a H' (upd H2 t (.tup (rows.map fun r => V.str (sb r)))) := g2.trans (Keep.new nt)
          refine ⟨_, _, ws ++ [.ref t], tabs ++ [rows], rfl, by rw [List.length_append, ht]; rfl, ?_, by rw [List.length_append, hws]; rfl, ?_, (g1.new nt).set nRa nRd, (h2.trans kk).set hR, upd_same⟩
          · intro rows' hr'
            rw [← hL]
            rcases List.mem_append.mp hr' with z | z
            · exact hts _ z
            · rw [List.mem_singleton.mp z]
              exact ⟨hl2, hr⟩
          · rw [off_upd, List.map_append]
            refine dpAll_snoc (dps_same (off_mono kk.off) _ hdp) ?_
            refine .tup (.inl (.inl ?_)) (dp_bits rows)
            rw [off_ne ntR, off_ne nta, upd_same]
    · rintro σ H' ⟨y5, y6, ws, tabs, rfl, ht, hts, hws, hdp, h1, h2, h3⟩
      have hl2 : tabs.length = 2 ^ n := by
        rw [ht, hN]
        omega
      refine ⟨_, rfl, _, rfl, _, rfl, _, rfl, R, _, rfl, .inl ⟨.inl (.inl h3), fun t nt => ⟨(by show 5 ≤ sizeLine; decide), fun p np => ?_⟩⟩⟩
      have ht1 := h1.ne nt
      have h1' := h1.new (o := .tup ws) nt
      have hp1 := h1'.ne np
      refine q _ tabs _ hl2 hts ?_ (h1'.new np) ((h2.trans (Keep.new nt)).trans (Keep.new np))
      have e1 : off a (upd (upd H' t (.tup ws)) p (.tup [.str "function", .int (n : Int), .int (l : Int), .int (m : Int), .ref t])) p = some (.tup [.str "function", .int (n : Int), .int (l : Int), .int (m : Int), .ref t]) := by
        rw [off_ne hp1.1, upd_same]
      have e2 : off a (upd (upd H' t (.tup ws)) p (.tup [.str "function", .int (n : Int), .int (l : Int), .int (m : Int), .ref t])) t = some (.tup ws) := by
        rw [off_ne ht1.1, upd_ne (ne_of_none upd_same np), upd_same]
      have e3 : Same (off R (off a H')) (off a (upd (upd H' t (.tup ws)) p (.tup [.str "function", .int (n : Int), .int (l : Int), .int (m : Int), .ref t]))) := fun b o e => (((Keep.new nt).trans (Keep.new np)).off) b o (off_same R _ b o e)
      exact .tup (.inl (.inl e1)) (.cons (.str _) (.cons (.int _) (.cons (.int _) (.cons (.int _) (.cons (.tup (.inl (.inl e2)) (dps_same e3 _ hdp)) .nil)))))

theorem ok_within {f : Addr} {fd : FuncData} (D : Df K mg "_law_within" s_law_within ["value", "least", "most"] f fd) (T : Txt K w mg cs) : FnOk P w K mg base CX0 1 f fd ["value", "least", "most"] (spWithin K) := by
  refine D.fn.ok sc_law_within (fun vs H Q E h => ?_) (fun cdv A outer s H vs Q E hr h => ?_)
  · obtain ⟨v, d, lo, hi, rfl, _⟩ := h
    rfl
  · obtain ⟨v, d, lo, hi, rfl, hd, q⟩ := h
    refine ⟨_, (pss_one (ps_ret (pe_and (pe_callB (isiK K) (by rfl) T.n_isinstance (by decide +kernel) (pa_cons (pv 0) (pa_cons (pe_ty "int" (by rfl) T.n_int (by decide +kernel)) pa_nil))) (pe_and (pe_not (pe_callB (isiK K) (by rfl) T.n_isinstance (by decide +kernel) (pa_cons (pv 0) (pa_cons (pe_ty "bool" (by rfl) T.n_bool (by decide +kernel)) pa_nil)))) (pe_and (pe_cmpR op_ge (pv 0) (pv 1) (nomark _)) (pe_one (pe_cmpR op_le (pv 0) (pv 2) (nomark _)))))))), ?_⟩
    refine ⟨_, rfl, _, _, _, _, _, rfl, .ty "int", dp_ty hd, kit_int d, _, rfl, ?_⟩
    cases d with
    | int i =>
      cases hd
      refine ⟨_, rfl, _, _, _, _, false, rfl, .ty "bool", .base (.int i), kit_ty (by decide +kernel), _, rfl, _, rfl, ?_⟩
      refine ⟨_, rfl, _, rfl, _, _, rfl, rfl, _, rfl, ?_⟩
      by_cases c : lo ≤ i
      · rw [decide_eq_true c]
        refine ⟨_, rfl, _, rfl, _, _, rfl, rfl, ?_⟩
        have e : whole (.int i) lo hi = decide (i ≤ hi) := by
          show (decide (lo ≤ i) && decide (i ≤ hi)) = _
          rw [decide_eq_true c, Bool.true_and]
        rw [e] at q
        exact q
      · rw [decide_eq_false c]
        have e : whole (.int i) lo hi = false := by
          show (decide (lo ≤ i) && decide (i ≤ hi)) = _
          rw [decide_eq_false c, Bool.false_and]
        rw [e] at q
        exact q
    | bool b =>
      cases hd
      exact ⟨_, rfl, _, _, _, _, true, rfl, .ty "bool", .base (.bl b), kit_ty (by decide +kernel), _, rfl, _, rfl, q⟩
    | none => exact q
    | str x => exact q
    | list xs => exact q
    | tuple xs => exact q
    | dict xs => exact q
theorem one_sign (c k : Nat) (x : Str) (hx : x = ⟨#[k]⟩) : decide (V.str ⟨#[c]⟩ = V.str x) = (c == k) := by
  subst hx
  by_cases h : c = k
  · subst h
    rw [decide_eq_true rfl, beq_self_eq_true]
  · rw [decide_eq_false fun z => h (by
      have e := congrArg (fun y : Str => y.cps.toList) (V.str.inj z)
      exact (List.cons.inj e).1)]
    exact (beq_eq_false_iff_ne.mpr h).symm
theorem ok_isbits {f : Addr} {fd : FuncData} (D : Df K mg "_law_is_bits" s_law_is_bits ["value", "length"] f fd) (T : Txt K w mg cs) : FnOk P w K mg base CX0 1 f fd ["value", "length"] (spIsBits K) := by
  refine D.fn.ok sc_law_is_bits (fun vs H Q E h => ?_) (fun cdv A outer s H vs Q E hr h => ?_)
  · obtain ⟨v, d, n, m, rfl, _⟩ := h
    rfl
  · obtain ⟨v, d, n, m, rfl, hd, hg, q⟩ := h
    refine ⟨_, (pss_cons (ps_if (PW.pt (pw_or (pt_not (pt_val (pe_callB (isiK K) (by rfl) T.n_isinstance (by decide +kernel) (pa_cons (pv 0) (pa_cons (pe_ty "str" (by rfl) T.n_str (by decide +kernel)) pa_nil))))) (pw_or1 (pt_cmpR op_ne (pe_callB call_len_str (by rfl) T.n_len (by decide +kernel) (pa_cons (pv 0) pa_nil)) (pv 1) (nomark _))))) (pss_one (ps_ret pe_bl)) pss_nil) (pss_cons (ps_for PassesOwn.never rfl (pi_str (pv 0)) (pg_name (i := 2) sc_law_is_bits.nd rfl (.inl rfl)) (pss_one (ps_if (PW.pt (pw_and (pt_cmpR op_ne (pv 2) pe_str (nomark _)) (pw_and1 (pt_cmpR op_ne (pv 2) pe_str (nomark _))))) (pss_one (ps_ret pe_bl)) pss_nil))) (pss_one (ps_ret pe_bl)))), ?_⟩
    refine ⟨_, rfl, _, _, _, _, _, rfl, .ty "str", dp_ty hd, kit_str d, _, rfl, ?_⟩
    cases d with
    | str x =>
      cases hd
      have hz := (gd_str hg).2
      refine ⟨_, rfl, x, rfl, ?_, _, rfl, rfl, _, rfl, ?_⟩
      · rw [sizeLine_eq]
        omega
      have e : bitRow m (.str x) = (decide ((x.length : Int) = m) && x.cps.toList.all (fun c => c == 48 || c == 49)) := rfl
      rw [e] at q
      clear e
      by_cases c : (x.length : Int) = m
      · rw [decide_eq_true (show V.int (x.length : Int) = V.int m from congrArg V.int c)]
        rw [decide_eq_true c, Bool.true_and] at q
        refine ⟨_, rfl, _, rfl, for_text (fun i σ H' => (∃ y2 : Option V, σ = [some (.str x), some (.int m), y2]) ∧ H' = H ∧ (x.cps.toList.take i).all (fun c => c == 48 || c == 49) = true) ?_ ?_ ?_⟩
        · exact ⟨⟨none, rfl⟩, rfl, rfl⟩
        · rintro i c σ H' hc ⟨⟨y2, rfl⟩, rfl, ha⟩
          have hc' : x.cps.toList[i]? = some c := by
            rw [← hc]
            simp
          have hall : ∀ b : Bool, (c == 48 || c == 49) = b → (x.cps.toList.take (i + 1)).all (fun c => c == 48 || c == 49) = b := by
            intro b hb
            rw [List.take_add_one, hc', List.all_append, ha]
            show (true && ((c == 48 || c == 49) && true)) = b
            rw [hb, Bool.true_and, Bool.and_true]
          refine ⟨_, rfl, rfl, _, rfl, ?_⟩
          rw [one_sign c 48 "0" rfl]
          cases c0 : (c == 48) with
          | true => exact ⟨⟨_, rfl⟩, rfl, hall true (by rw [c0]; rfl)⟩
          | false =>
            refine ⟨_, rfl, rfl, _, rfl, ?_⟩
            rw [one_sign c 49 "1" rfl]
            cases c1 : (c == 49) with
            | true => exact ⟨⟨_, rfl⟩, rfl, hall true (by rw [c0, c1]; rfl)⟩
            | false =>
              have hf := hall false (by rw [c0, c1]; rfl)
              have e : x.cps.toList.all (fun c => c == 48 || c == 49) = false := by
                rw [Bool.eq_false_iff] at hf ⊢
                intro z
                refine hf ?_
                rw [List.all_eq_true] at z ⊢
                exact fun y hy => z y (List.mem_of_mem_take hy)
              rw [e] at q
              exact q
        · rintro σ H' ⟨⟨y2, rfl⟩, rfl, ha⟩
          have e : x.cps.toList.take x.cps.size = x.cps.toList := List.take_of_length_le (by simp)
          rw [e] at ha
          rw [ha] at q
          exact q
      · rw [decide_eq_false (show ¬ V.int (x.length : Int) = V.int m from fun z => c (V.int.inj z))]
        rw [decide_eq_false c, Bool.false_and] at q
        exact q
    | none => exact q
    | int i => exact q
    | bool i => exact q
    | tuple xs => exact q
    | list xs => exact q
    | dict xs => exact q

theorem all_take {α : Type} {p : α → Bool} {xs : List α} {i : Nat} (h : (xs.take i).all p = false) : xs.all p = false := by
  rw [Bool.eq_false_iff] at h ⊢
  intro z
  refine h ?_
  rw [List.all_eq_true] at z ⊢
  exact fun y hy => z y (List.mem_of_mem_take hy)
theorem all_snoc {α : Type} {p : α → Bool} {xs : List α} {i : Nat} {x : α} (hx : xs[i]? = some x) (h : (xs.take i).all p = true) : (xs.take (i + 1)).all p = p x := by
  rw [List.take_add_one, hx, List.all_append, h, Bool.true_and]
  show (p x && true) = _
  rw [Bool.and_true]
theorem ok_rowsgood {f : Addr} {fd : FuncData} (D : Df K mg "_law_rows_good" s_law_rows_good ["rows", "many", "length"] f fd) (T : Txt K w mg cs) (c_law_is_bits : Cl P w K mg base CX0 1 "_law_is_bits" (spIsBits K)) : FnOk P w K mg base CX0 2 f fd ["rows", "many", "length"] (spRowsGood K) := by
  refine D.fn.ok sc_law_rows_good (fun vs H Q E h => ?_) (fun cdv A outer s H vs Q E hr h => ?_)
  · obtain ⟨v, d, n, many, m, rfl, _⟩ := h
    rfl
  · obtain ⟨v, d, n, many, m, rfl, hd, hg, q⟩ := h
    refine ⟨_, (pss_cons (ps_if (PW.pt (pw_or (pt_not (pt_val (pe_callB (isiK K) (by rfl) T.n_isinstance (by decide +kernel) (pa_cons (pv 0) (pa_cons (pe_ty "tuple" (by rfl) T.n_tuple (by decide +kernel)) pa_nil))))) (pw_or1 (pt_cmpR op_ne (pe_callB (lenS K) (by rfl) T.n_len (by decide +kernel) (pa_cons (pv 0) pa_nil)) (pv 1) (nomark _))))) (pss_one (ps_ret pe_bl)) pss_nil) (pss_cons (ps_for PassesOwn.never rfl (pi_tup (pv 0)) (pg_name (i := 3) sc_law_rows_good.nd rfl (.inl rfl)) (pss_one (ps_if (pt_not (pt_val (pe_cl c_law_is_bits hr (by first | decide | omega) (by rfl) (pa_cons (pv 3) (pa_cons (pv 2) pa_nil))))) (pss_one (ps_ret pe_bl)) pss_nil))) (pss_one (ps_ret pe_bl)))), ?_⟩
    refine ⟨_, rfl, _, _, _, _, _, rfl, .ty "tuple", dp_ty hd, kit_tup d, _, rfl, ?_⟩
    cases d with
    | tuple xs =>
      cases hd with
      | @tup a ws _ hT hA =>
        obtain ⟨hl, n', rfl, hx⟩ := gd_tup hg
        have hwl := dp_all_len hA
        have e : rowsOk (.tuple xs) many m = (decide ((xs.length : Int) = many) && xs.all (bitRow m)) := rfl
        rw [e] at q
        clear e
        refine ⟨_, rfl, a, ws, rfl, .inr hT, _, rfl, rfl, _, rfl, ?_⟩
        by_cases c : (ws.length : Int) = many
        · rw [decide_eq_true (show V.int (ws.length : Int) = V.int many by rw [c])]
          rw [decide_eq_true (by rw [← hwl]; exact c), Bool.true_and] at q
          refine ⟨_, rfl, a, rfl, ⟨_, hT⟩, for_tup (xs := ws) (fun i σ H' => (∃ y3 : Option V, σ = [some (.ref a), some (.int many), some (.int m), y3]) ∧ H' = H ∧ (xs.take i).all (bitRow m) = true) ?_ ?_ ?_ ?_⟩
          · exact ⟨⟨none, rfl⟩, rfl, rfl⟩
          · rintro i σ H' _ ⟨_, rfl, _⟩
            exact hT
          · rintro i x σ H' hxi ⟨⟨y3, rfl⟩, rfl, ha⟩
            obtain ⟨d, hdi, hdx⟩ := dp_all_get hA hxi
            refine ⟨_, rfl, _, rfl, x, d, n', m, rfl, hdx, hx d (List.mem_of_getElem? hdi), _, rfl, ?_⟩
            have hs := all_snoc hdi ha
            cases cb : bitRow m d with
            | true => exact ⟨⟨_, rfl⟩, rfl, by rw [hs, cb]⟩
            | false =>
              rw [all_take (i := i + 1) (by rw [hs, cb])] at q
              exact q
          · rintro σ H' ⟨⟨y3, rfl⟩, rfl, ha⟩
            rw [hwl, List.take_length] at ha
            rw [ha] at q
            exact q
        · rw [decide_eq_false (show ¬ V.int (ws.length : Int) = V.int many from fun z => c (V.int.inj z))]
          rw [decide_eq_false (by rw [← hwl]; exact c), Bool.false_and] at q
          exact q
    | bool b => exact q
    | none => exact q
    | int x => exact q
    | str x => exact q
    | list xs => exact q
    | dict xs => exact q
theorem gen_head {xs : List PyData} {k : PyData} (h : xs[0]? = some k) (hk : named "generator" k = false) : genOk (.tuple xs) = false := by
  unfold genOk
  split
  · rename_i e
    cases e
    cases (Option.some.inj h)
    rw [hk]
    rfl
  · rfl
theorem fun_head {xs : List PyData} {k : PyData} (h : xs[0]? = some k) (hk : named "function" k = false) : funOk (.tuple xs) = false := by
  unfold funOk
  split
  · rename_i e
    cases e
    cases (Option.some.inj h)
    rw [hk]
    rfl
  · rfl
theorem block_head {xs : List PyData} {k : PyData} (h : xs[0]? = some k) (h1 : named "generator" k = false) (h2 : named "function" k = false) : blockOk (.tuple xs) = false := by
  unfold blockOk
  rw [gen_head h h1, fun_head h h2]
  rfl
theorem named_strG (x s : Str) : named x (.str s) = decide (V.str s = V.str x) := by
  by_cases h : s = x
  · subst h
    rw [decide_eq_true rfl]
    show (s == s) = true
    exact beq_self_eq_true s
  · rw [decide_eq_false fun z => h (V.str.inj z)]
    show (s == x) = false
    exact beq_eq_false_iff_ne.mpr h
theorem ok_good {f : Addr} {fd : FuncData} (D : Df K mg "_law_block_good" s_law_block_good ["value"] f fd) (T : Txt K w mg cs) (c_law_within : Cl P w K mg base CX0 1 "_law_within" (spWithin K)) (c_law_rows_good : Cl P w K mg base CX0 2 "_law_rows_good" (spRowsGood K)) : FnOk P w K mg base CX0 3 f fd ["value"] (spGood K) := by
  refine D.fn.ok sc_law_block_good (fun vs H Q E h => ?_) (fun cdv A outer s H vs Q E hr h => ?_)
  · obtain ⟨v, d, n, rfl, _⟩ := h
    rfl
  · obtain ⟨v, d, n, rfl, hd, hg, q⟩ := h
    refine ⟨_, (pss_cons (ps_if (PW.pt (pw_or (pt_not (pt_val (pe_callB (isiK K) (by rfl) T.n_isinstance (by decide +kernel) (pa_cons (pv 0) (pa_cons (pe_ty "tuple" (by rfl) T.n_tuple (by decide +kernel)) pa_nil))))) (pw_or (pt_cmpR op_lt (pe_callB (lenS K) (by rfl) T.n_len (by decide +kernel) (pa_cons (pv 0) pa_nil)) pe_int (nomark _)) (pw_or1 (pt_not (pt_val (pe_callB (isiK K) (by rfl) T.n_isinstance (by decide +kernel) (pa_cons (pe_ix (ixT K) (pv 0) pe_int (fun _ _ => rfl)) (pa_cons (pe_ty "str" (by rfl) T.n_str (by decide +kernel)) pa_nil))))))))) (pss_one (ps_ret pe_bl)) pss_nil) (pss_cons (ps_if (PW.pt (pw_and (pt_cmpR op_eq (pe_ix (ixT K) (pv 0) pe_int (fun _ _ => rfl)) pe_str (nomark _)) (pw_and1 (pt_cmpR op_eq (pe_callB (lenS K) (by rfl) T.n_len (by decide +kernel) (pa_cons (pv 0) pa_nil)) pe_int (nomark _))))) (pss_cons (ps_if (PW.pt (pw_or (pt_not (pt_val (pe_cl c_law_within hr (by first | decide | omega) (by rfl) (pa_cons (pe_ix (ixT K) (pv 0) pe_int (fun _ _ => rfl)) (pa_cons pe_int (pa_cons pe_int pa_nil)))))) (pw_or1 (pt_not (pt_val (pe_cl c_law_within hr (by first | decide | omega) (by rfl) (pa_cons (pe_ix (ixT K) (pv 0) pe_int (fun _ _ => rfl)) (pa_cons pe_int (pa_cons pe_int pa_nil))))))))) (pss_one (ps_ret pe_bl)) pss_nil) (pss_one (ps_ret (pe_cl c_law_rows_good hr (by first | decide | omega) (by rfl) (pa_cons (pe_ix (ixT K) (pv 0) pe_int (fun _ _ => rfl)) (pa_cons (pe_op op_shl pe_int (pe_ix (ixT K) (pv 0) pe_int (fun _ _ => rfl))) (pa_cons (pe_ix (ixT K) (pv 0) pe_int (fun _ _ => rfl)) pa_nil))))))) pss_nil) (pss_cons (ps_if (PW.pt (pw_or (pt_cmpR op_ne (pe_ix (ixT K) (pv 0) pe_int (fun _ _ => rfl)) pe_str (nomark _)) (pw_or1 (pt_cmpR op_ne (pe_callB (lenS K) (by rfl) T.n_len (by decide +kernel) (pa_cons (pv 0) pa_nil)) pe_int (nomark _))))) (pss_one (ps_ret pe_bl)) pss_nil) (pss_cons (ps_if (PW.pt (pw_or (pt_not (pt_val (pe_cl c_law_within hr (by first | decide | omega) (by rfl) (pa_cons (pe_ix (ixT K) (pv 0) pe_int (fun _ _ => rfl)) (pa_cons pe_int (pa_cons pe_int pa_nil)))))) (pw_or (pt_not (pt_val (pe_cl c_law_within hr (by first | decide | omega) (by rfl) (pa_cons (pe_ix (ixT K) (pv 0) pe_int (fun _ _ => rfl)) (pa_cons pe_int (pa_cons pe_int pa_nil)))))) (pw_or1 (pt_not (pt_val (pe_cl c_law_within hr (by first | decide | omega) (by rfl) (pa_cons (pe_ix (ixT K) (pv 0) pe_int (fun _ _ => rfl)) (pa_cons pe_int (pa_cons pe_int pa_nil)))))))))) (pss_one (ps_ret pe_bl)) pss_nil) (pss_cons (ps_if (PW.pt (pw_or (pt_cmpR op_gt (pe_op op_add (pe_ix (ixT K) (pv 0) pe_int (fun _ _ => rfl)) (pe_ix (ixT K) (pv 0) pe_int (fun _ _ => rfl))) pe_int (nomark _)) (pw_or (pt_not (pt_val (pe_callB (isiK K) (by rfl) T.n_isinstance (by decide +kernel) (pa_cons (pe_ix (ixT K) (pv 0) pe_int (fun _ _ => rfl)) (pa_cons (pe_ty "tuple" (by rfl) T.n_tuple (by decide +kernel)) pa_nil))))) (pw_or1 (pt_cmpR op_ne (pe_callB (lenS K) (by rfl) T.n_len (by decide +kernel) (pa_cons (pe_ix (ixT K) (pv 0) pe_int (fun _ _ => rfl)) pa_nil)) (pe_op op_shl pe_int (pe_ix (ixT K) (pv 0) pe_int (fun _ _ => rfl))) (nomark _)))))) (pss_one (ps_ret pe_bl)) pss_nil) (pss_cons (ps_for PassesOwn.never rfl (pi_tup (pe_ix (ixT K) (pv 0) pe_int (fun _ _ => rfl))) (pg_name (i := 1) sc_law_block_good.nd rfl (.inl rfl)) (pss_one (ps_if (pt_not (pt_val (pe_cl c_law_rows_good hr (by first | decide | omega) (by rfl) (pa_cons (pv 1) (pa_cons (pe_op op_shl pe_int (pe_ix (ixT K) (pv 0) pe_int (fun _ _ => rfl))) (pa_cons (pe_ix (ixT K) (pv 0) pe_int (fun _ _ => rfl)) pa_nil)))))) (pss_one (ps_ret pe_bl)) pss_nil))) (pss_one (ps_ret pe_bl)))))))), ?_⟩
    refine ⟨_, rfl, _, _, _, _, _, rfl, .ty "tuple", dp_ty hd, kit_tup d, _, rfl, ?_⟩
    cases d with
    | tuple xs =>
      cases hd with
      | @tup a ws _ hT hA =>
        obtain ⟨hl, n', rfl, hx⟩ := gd_tup hg
        have hwl := dp_all_len hA
        refine ⟨_, rfl, a, ws, rfl, .inr hT, _, _, rfl, rfl, _, rfl, ?_⟩
        by_cases c4 : (ws.length : Int) < 4
        · rw [decide_eq_true c4]
          have e : blockOk (.tuple xs) = false := by
            unfold blockOk
            rw [gen_no (by omega), fun_no (by omega)]
            rfl
          rw [e] at q
          exact q
        · rw [decide_eq_false c4]
          obtain ⟨v0, wr, rfl⟩ : ∃ v0 wr, ws = v0 :: wr := by
            cases ws with
            | nil => exact absurd (by decide) c4
            | cons a b => exact ⟨a, b, rfl⟩
          obtain ⟨k, hk, h0⟩ := dp_all_get (i := 0) hA rfl
          have g0 := hx k (List.mem_of_getElem? hk)
          refine ⟨_, rfl, a, _, 0, _, rfl, rfl, hT, at0, _, _, _, _, _, rfl, .ty "str", dp_ty h0, kit_str k, _, rfl, ?_⟩
          have fin : named "generator" k = false → named "function" k = false → Q (.bl false) H := fun h1 h2 => by
            rw [block_head hk h1 h2] at q
            exact q
          cases k with
          | str s =>
            cases h0
            clear fin
            -- value[0] == 'generator'
            refine ⟨_, rfl, a, _, 0, _, rfl, rfl, hT, at0, rfl, _, rfl, ?_⟩
            rw [← named_strG "generator" s]
            cases cg : named "generator" (.str s) with
            | true =>
              have es : s = "generator" := by
                rw [named_strG] at cg
                exact V.str.inj (of_decide_eq_true cg)
              have ef : funOk (.tuple xs) = false := fun_head hk (by rw [es]; decide +kernel)
              unfold blockOk at q
              rw [ef, Bool.or_false] at q
              refine ⟨_, rfl, a, _, rfl, .inr hT, rfl, _, rfl, ?_⟩
              by_cases c : (V.str s :: wr).length = 4
              · rw [decide_eq_true (show V.int (((V.str s :: wr).length : Nat) : Int) = V.int 4 by rw [c]; rfl)]
                obtain ⟨w0, v1, v2, v3, k', n, m, r, e1, rfl, h0', h1, h2, h3⟩ := dp4 hA c
                cases e1
                have ek := Option.some.inj hk
                subst ek
                have g3 := hx r (List.mem_cons_of_mem _ (List.mem_cons_of_mem _ (List.mem_cons_of_mem _ List.mem_cons_self)))
                rw [gen_eq, cg] at q
                clear hx hA hwl hl c c4 h0' hk g0
                refine ⟨_, rfl, a, _, 1, _, rfl, rfl, hT, rfl, v1, n, 1, 10, rfl, h1, _, rfl, ?_⟩
                cases cn : whole n 1 10 with
                | false =>
                  rw [cn] at q
                  exact q
                | true =>
                  rw [cn] at q
                  refine ⟨_, rfl, a, _, 2, _, rfl, rfl, hT, rfl, v2, m, 1, 40, rfl, h2, _, rfl, ?_⟩
                  cases cm : whole m 1 40 with
                  | false =>
                    rw [cm] at q
                    exact q
                  | true =>
                    rw [cm] at q
                    obtain ⟨n, rfl, n1, n2⟩ := whole_int cn
                    obtain ⟨m, rfl, m1, m2⟩ := whole_int cm
                    cases h1
                    cases h2
                    refine ⟨_, rfl, a, _, 3, _, rfl, rfl, hT, rfl, _, rfl, a, _, 1, _, rfl, rfl, hT, rfl, _, _, rfl, rfl, ⟨by omega, by omega, by decide⟩, _, rfl, a, _, 2, _, rfl, rfl, hT, rfl, v3, r, _, _, _, rfl, h3, g3, q⟩
              · rw [decide_eq_false (show ¬ V.int (((V.str s :: wr).length : Nat) : Int) = V.int 4 from fun z => c (by have := V.int.inj z; omega))]
                rw [gen_no (by rw [← hwl]; exact c)] at q
                refine ⟨_, rfl, a, _, 0, _, rfl, rfl, hT, at0, rfl, _, rfl, ?_⟩
                rw [es, decide_eq_false (show ¬ V.str "generator" = V.str "function" from fun z => absurd (V.str.inj z) (by decide +kernel))]
                exact q
            | false =>
              have eg : genOk (.tuple xs) = false := gen_head hk cg
              unfold blockOk at q
              rw [eg, Bool.false_or] at q
              -- value[0] != 'function'
              refine ⟨_, rfl, a, _, 0, _, rfl, rfl, hT, at0, rfl, _, rfl, ?_⟩
              rw [← named_strG "function" s]
              cases cf : named "function" (.str s) with
              | false =>
                rw [fun_head hk cf] at q
                exact q
              | true =>
                refine ⟨_, rfl, a, _, rfl, .inr hT, rfl, _, rfl, ?_⟩
                by_cases c : (V.str s :: wr).length = 5
                · rw [decide_eq_true (show V.int (((V.str s :: wr).length : Nat) : Int) = V.int 5 by rw [c]; rfl)]
                  obtain ⟨w0, v1, v2, v3, v4, k', n, l, m, t, e1, rfl, h0', h1, h2, h3, h4⟩ := dp5 hA c
                  cases e1
                  have ek := Option.some.inj hk
                  subst ek
                  have g4 := hx t (List.mem_cons_of_mem _ (List.mem_cons_of_mem _ (List.mem_cons_of_mem _ (List.mem_cons_of_mem _ List.mem_cons_self))))
                  rw [fun_eq, cf] at q
                  clear hx hA hwl hl c c4 h0' hk g0
                  refine ⟨_, rfl, a, _, 1, _, rfl, rfl, hT, rfl, v1, n, 1, 8, rfl, h1, _, rfl, ?_⟩
                  cases cn : whole n 1 8 with
                  | false =>
                    rw [cn] at q
                    exact q
                  | true =>
                    rw [cn] at q
                    refine ⟨_, rfl, a, _, 2, _, rfl, rfl, hT, rfl, v2, l, 1, 8, rfl, h2, _, rfl, ?_⟩
                    cases cl : whole l 1 8 with
                    | false =>
                      rw [cl] at q
                      exact q
                    | true =>
                      rw [cl] at q
                      refine ⟨_, rfl, a, _, 3, _, rfl, rfl, hT, rfl, v3, m, 1, 40, rfl, h3, _, rfl, ?_⟩
                      cases cm : whole m 1 40 with
                      | false =>
                        rw [cm] at q
                        rw [Bool.and_false, Bool.false_and] at q
                        exact q
                      | true =>
                        rw [cm] at q
                        obtain ⟨n, rfl, n1, n2⟩ := whole_int cn
                        obtain ⟨l, rfl, l1, l2⟩ := whole_int cl
                        obtain ⟨m, rfl, m1, m2⟩ := whole_int cm
                        cases h1
                        cases h2
                        cases h3
                        refine ⟨_, rfl, a, _, 1, _, rfl, rfl, hT, rfl, _, rfl, a, _, 2, _, rfl, rfl, hT, rfl, _, _, rfl, rfl, _, _, rfl, rfl, _, rfl, ?_⟩
                        by_cases cs : n + l ≤ 12
                        · rw [decide_eq_false (show ¬ (12 : Int) < n + l by omega)]
                          have e : sumLe (.int n) (.int l) = true := decide_eq_true cs
                          rw [e] at q
                          refine ⟨_, rfl, a, _, 4, _, rfl, rfl, hT, rfl, _, _, _, _, _, rfl, .ty "tuple", dp_ty h4, kit_tup t, _, rfl, ?_⟩
                          cases t with
                          | tuple ts =>
                            cases h4 with
                            | @tup b us _ hT4 hA4 =>
                              obtain ⟨hl4, n'', rfl, hx4⟩ := gd_tup g4
                              have hwl4 := dp_all_len hA4
                              have q2 : Q (.bl (decide ((ts.length : Int) = 1 * 2 ^ n.toNat) && ts.all (fun r => rowsOk r (1 * 2 ^ l.toNat) m))) H := q
                              clear q
                              refine ⟨_, rfl, a, _, 4, _, rfl, rfl, hT, rfl, b, us, rfl, .inr hT4, _, rfl, a, _, 1, _, rfl, rfl, hT, rfl, _, _, rfl, rfl, ⟨by omega, by omega, by decide⟩, rfl, _, rfl, ?_⟩
                              by_cases c : ((us.length : Nat) : Int) = 1 * 2 ^ n.toNat
                              · rw [decide_eq_true (show V.int ((us.length : Nat) : Int) = V.int (1 * 2 ^ n.toNat) from congrArg V.int c)]
                                rw [decide_eq_true (by rw [← hwl4]; exact c), Bool.true_and] at q2
                                refine ⟨_, rfl, a, _, 4, _, rfl, rfl, hT, rfl, b, rfl, ⟨_, hT4⟩, for_tup (xs := us) (fun i σ H' => (∃ y3 : Option V, σ = [some (.ref a), y3]) ∧ H' = H ∧ (ts.take i).all (fun r => rowsOk r (1 * 2 ^ l.toNat) m) = true) ?_ ?_ ?_ ?_⟩
                                · exact ⟨⟨none, rfl⟩, rfl, rfl⟩
                                · rintro i σ H' _ ⟨_, rfl, _⟩
                                  exact hT4
                                · rintro i x σ H' hxi ⟨⟨y3, rfl⟩, rfl, ha⟩
                                  obtain ⟨d, hdi, hdx⟩ := dp_all_get hA4 hxi
                                  refine ⟨_, rfl, _, rfl, a, _, 2, _, rfl, rfl, hT, rfl, _, _, rfl, rfl, ⟨by omega, by omega, by decide⟩, _, rfl, a, _, 3, _, rfl, rfl, hT, rfl, x, d, _, _, _, rfl, hdx, hx4 d (List.mem_of_getElem? hdi), _, rfl, ?_⟩
                                  have hs := all_snoc hdi ha
                                  cases cb : rowsOk d (1 * 2 ^ l.toNat) m with
                                  | true => exact ⟨⟨_, rfl⟩, rfl, by rw [hs, cb]⟩
                                  | false =>
                                    rw [all_take (i := i + 1) (by rw [hs, cb])] at q2
                                    exact q2
                                · rintro σ H' ⟨⟨y3, rfl⟩, rfl, ha⟩
                                  rw [hwl4, List.take_length] at ha
                                  rw [ha] at q2
                                  exact q2
                              · rw [decide_eq_false (show ¬ V.int ((us.length : Nat) : Int) = V.int (1 * 2 ^ n.toNat) from fun z => c (V.int.inj z))]
                                rw [decide_eq_false (by rw [← hwl4]; exact c), Bool.false_and] at q2
                                exact q2
                          | bool b => exact q
                          | none => exact q
                          | int x => exact q
                          | str x => exact q
                          | list xs => exact q
                          | dict xs => exact q
                        · rw [decide_eq_true (show (12 : Int) < n + l by omega)]
                          have e : sumLe (.int n) (.int l) = false := decide_eq_false cs
                          rw [e] at q
                          exact q
                · rw [decide_eq_false (show ¬ V.int (((V.str s :: wr).length : Nat) : Int) = V.int 5 from fun z => c (by have := V.int.inj z; omega))]
                  rw [fun_no (by rw [← hwl]; exact c)] at q
                  exact q
          | none => exact fin rfl rfl
          | bool b => exact fin rfl rfl
          | int b => exact fin rfl rfl
          | list b => exact fin rfl rfl
          | tuple b => exact fin rfl rfl
          | dict b => exact fin rfl rfl
    | bool b => exact q
    | none => exact q
    | int x => exact q
    | str x => exact q
    | list xs => exact q
    | dict xs => exact q

def oddVals (p l : Addr) : List V := [.bl true, .bl false, .non, .str "", .str "0", .str "1", .str "01", .str "generator", .str "function", .int 0, .int 1, .int 2, .int (-1), .int 11, .int 41, .int (10 ^ (20 : Int).toNat), .ref p, .ref l]
theorem odd_step {f : Addr} {fd : FuncData} (D : Df K mg "_law_odd" s_law_odd ["hand", "depth"] f fd) (T : Txt K w mg cs) (j : Nat) (c_law_take : Cl P w K mg base CX0 1 "_law_take" spTake) (c_law_odd : Cl P w K mg base CX0 (j + 1) "_law_odd" (spOddB K j)) : FnOk P w K mg base CX0 (j + 2) f fd ["hand", "depth"] (spOdd K j) := by
  refine D.fn.ok sc_law_odd (fun vs H Q E h => ?_) (fun cdv A outer s H vs Q E hr h => ?_)
  · obtain ⟨a, d, dep, rfl, _⟩ := h
    rfl
  · obtain ⟨a, d, dep, rfl, hdep, hh, q⟩ := h
    refine ⟨_, (pss_cons (ps_set (i := 2) sc_law_odd.nd rfl (.inl rfl) (pe_cl c_law_take hr (by first | decide | omega) (by rfl) (pa_cons (pv 0) (pa_cons pe_int pa_nil)))) (pss_cons (ps_if (PW.pt (pw_and (pt_cmpR op_gt (pv 1) pe_int (nomark _)) (pw_and1 (pt_cmpR op_gt (pv 2) pe_int (nomark _))))) (pss_cons (ps_setLc (i := 3) (own := [("k", 5)]) (g := gName 5) (tt := tYes) rfl sc_law_odd.nd rfl rfl (sw_true rfl rfl rfl (by decide +kernel)) (pi_range1 (by rfl) T.n_range (pa_cons (pe_cl c_law_take hr (by first | decide | omega) (by rfl) (pa_cons (pv 0) (pa_cons pe_int pa_nil))) pa_nil)) (blkOk_by (own := [("k", 5)]) (N := ["hand", "depth", "kind", "parts", "values", "k"]) (sc := defScope s_law_odd) (by decide +kernel)) (fun _ _ _ _ _ => (pg_name (i := 5) sc_law_odd.nd rfl (.inl rfl))) (fun _ _ _ _ _ => pts_nil) (fun _ _ _ _ _ => (pe_cl c_law_odd hr (by first | decide | omega) (by rfl) (pa_cons (pv 0) (pa_cons (pe_op op_sub (pv 1) pe_int) pa_nil))))) (pss_one (ps_ret (pe_ix (ixL K) (pe_lst (pa_cons (pv 3) (pa_cons (pe_callTy (tupOf K) (by rfl) T.n_tuple (by decide +kernel) (pa_cons (pv 3) pa_nil)) pa_nil))) (pe_op op_sub (pv 2) pe_int) (fun _ _ => rfl))))) pss_nil) (pss_cons (ps_set (i := 4) sc_law_odd.nd rfl (.inl rfl) (pe_lst (pa_cons pe_bl (pa_cons pe_bl (pa_cons pe_non (pa_cons pe_str (pa_cons pe_str (pa_cons pe_str (pa_cons pe_str (pa_cons pe_str (pa_cons pe_str (pa_cons pe_int (pa_cons pe_int (pa_cons pe_int (pa_cons (pe_un un_neg pe_int) (pa_cons pe_int (pa_cons pe_int (pa_cons (pe_op op_pow pe_int pe_int) (pa_cons (pe_tup pa_nil) (pa_cons (pe_lst pa_nil) pa_nil)))))))))))))))))))) (pss_one (ps_ret (pe_ix (ixL K) (pv 4) (pe_cl c_law_take hr (by first | decide | omega) (by rfl) (pa_cons (pv 0) (pa_cons pe_int pa_nil))) (fun _ _ => rfl))))))), ?_⟩
    refine ⟨_, rfl, a, d, 9, rfl, by decide, hh, fun r H1 l1 u1 hh1 k1 => ?_⟩
    refine ⟨_, rfl, _, _, rfl, rfl, _, rfl, ?_⟩
    by_cases c : (0 : Int) < (dep : Int) ∧ 6 < r
    · rw [decide_eq_true c.1]
      refine ⟨_, rfl, _, _, rfl, rfl, _, rfl, ?_⟩
      rw [decide_eq_true c.2]
      refine ⟨_, rfl, a, d, 4, rfl, by decide, hh1, fun m H2 l2 u2 hh2 k2 => ?_⟩
      obtain ⟨m, rfl⟩ : ∃ k : Nat, m = (k : Int) := ⟨m.toNat, by omega⟩
      refine ⟨_, rfl, by omega, by omega, fun Dl hD => ?_⟩
      obtain ⟨nDa, nDd⟩ := hh2.ne hD
      have k12 := k1.trans k2
      have hDo := k12.free hD nDa
      refine lc_range (lo := 0) (n := _) (fun i H' => ∃ (ws : List V) (ds : List PyData), ws.length = i ∧ DpAll K (off Dl (fresh H H')) ws ds ∧ (∀ x ∈ ds, Gz 70 j x) ∧ Hnd H' a d ∧ Keep a H H' ∧ H' Dl = some (.lst ws)) ?_ ?_ ?_
      · exact ⟨[], [], rfl, .nil, fun r hr => (nomatch hr), hh2.new hD, k12.trans (Keep.new hD), upd_same⟩
      · rintro i H' hi ⟨ws, ds, hl, hA, hG, g1, g2, g3⟩
        refine ⟨rfl, ?_⟩
        refine ⟨_, rfl, _, rfl, _, _, rfl, rfl, by omega, a, d, dep - 1, ?_, by omega, g1, fun v H3 hv hh3 k3 => ⟨_, k3 _ _ g3 nDa, ?_, ?_⟩⟩
        · show [V.ref a, V.int ((dep : Int) - 1)] = _
          rw [show ((dep : Int) - 1) = ((dep - 1 : Nat) : Int) by omega]
        · exact Nat.lt_of_lt_of_le (show ws.length < 10000 by omega) (by decide)
        · obtain ⟨D, hD1, hD2⟩ := hv
          have ej : j - 1 + 1 = j := by omega
          rw [ej] at hD2
          refine ⟨ws ++ [v], ds ++ [D], by rw [List.length_append, hl]; rfl, dpAll_snoc (dps_same (fun b o e => ?_) _ hA) (dp_same (fun b o e => ?_) _ hD1), fun x hx => ?_, hh3.set nDa nDd, (g2.trans k3).set hDo, upd_same⟩
          · by_cases hb : b = Dl
            · unfold off at e
              rw [if_pos hb] at e
              cases e
            · rw [off_ne hb] at e ⊢
              obtain ⟨e1, e2⟩ := fresh_some.mp e
              refine fresh_some.mpr ⟨e1, ?_⟩
              rw [upd_ne hb]
              refine k3 _ _ e2 fun z => ?_
              obtain ⟨o, ho⟩ := hh.some
              rw [z, ho] at e1
              cases e1
          · obtain ⟨e1, e2⟩ := fresh_some.mp e
            have hb : b ≠ Dl := fun z => by
              rw [z, g3] at e1
              cases e1
            have ha : b ≠ a := fun z => by
              obtain ⟨o, ho⟩ := g1.some
              rw [z, ho] at e1
              cases e1
            rw [off_ne hb]
            refine fresh_some.mpr ⟨g2.free e1 ha, ?_⟩
            rw [upd_ne hb]
            exact e2
          · rcases List.mem_append.mp hx with z | z
            · exact hG x z
            · rw [List.mem_singleton.mp z]
              exact hD2
      · rintro H' ⟨ws, ds, hl, hA, hG, g1, g2, g3⟩
        refine ⟨_, rfl, _, rfl, Dl, _, rfl, .inl ⟨.inl (.inl g3), fun t nt => ⟨(by show 2 ≤ sizeLine; decide), fun L nL => ?_⟩⟩⟩
        have h2 := g1.new (o := .tup ws) nt
        have h3 := h2.new (o := .lst [.ref Dl, .ref t]) nL
        have kk := g2.trans ((Keep.new (o := .tup ws) nt).trans (Keep.new (o := .lst [.ref Dl, .ref t]) nL))
        have nta := (g1.ne nt).1
        have hto := g2.free nt nta
        refine ⟨_, rfl, _, _, rfl, rfl, L, [.ref Dl, .ref t], r - 7, ?_⟩
        have hsame : ∀ b o, off Dl (fresh H H') b = some o → fresh H (upd (upd H' t (.tup ws)) L (.lst [.ref Dl, .ref t])) b = some o := by
          intro b o e
          obtain ⟨e1, e2⟩ := fresh_some.mp (off_same Dl _ b o e)
          refine fresh_some.mpr ⟨e1, ?_⟩
          rw [upd_ne fun z => ?_, upd_ne fun z => ?_]
          · exact e2
          · rw [z, nt] at e2
            cases e2
          · rw [z] at e2
            rw [upd_ne (ne_of_none e2 nt)] at nL
            rw [nL] at e2
            cases e2
        have ht : upd (upd H' t (.tup ws)) L (.lst [.ref Dl, .ref t]) t = some (.tup ws) := by
          rw [upd_ne (ne_of_none upd_same nL), upd_same]
        have hd : upd (upd H' t (.tup ws)) L (.lst [.ref Dl, .ref t]) Dl = some (.lst ws) := by
          rw [upd_ne (ne_of_none (by rw [upd_ne (ne_of_none g3 nt)]; exact g3) nL), upd_ne (ne_of_none g3 nt)]
          exact g3
        have hw : ds.length ≤ 70 := by
          rw [← dp_all_len hA]
          omega
        rcases (show r = 7 ∨ r = 8 by omega) with e | e
        · subst e
          exact ⟨_, rfl, rfl, .inl (.inl upd_same), rfl, q _ _ ⟨.list ds, .lst (.inl (.inl (fresh_some.mpr ⟨hDo, hd⟩))) (dps_same hsame _ hA), hw, hG⟩ h3 kk⟩
        · subst e
          exact ⟨_, rfl, rfl, .inl (.inl upd_same), rfl, q _ _ ⟨.tuple ds, .tup (.inl (.inl (fresh_some.mpr ⟨hto, ht⟩))) (dps_same hsame _ hA), hw, hG⟩ h3 kk⟩
    · by_cases c1 : (0 : Int) < (dep : Int)
      case' pos =>
        rw [decide_eq_true c1]
        refine ⟨_, rfl, _, _, rfl, rfl, _, rfl, ?_⟩
        rw [decide_eq_false fun z => c ⟨c1, z⟩]
      case' neg =>
        rw [decide_eq_false c1]
      all_goals
        refine ⟨_, rfl, _, _, rfl, rfl, ⟨by decide, by decide, by decide⟩, (by show 0 ≤ sizeLine; decide), fun p np => ⟨(by show 0 ≤ sizeLine; decide), fun l nl => ⟨(by show 18 ≤ sizeLine; decide), fun L nL => ?_⟩⟩⟩
        have h2 := hh1.new (o := .tup []) np
        have h3 := h2.new (o := .lst []) nl
        have h4 := fun o => h3.new (o := o) nL
        refine ⟨_, rfl, _, rfl, a, d, 18, rfl, by decide, h4 _, fun r2 H2 l2 u2 hh2 k2 => ?_⟩
        have eL : H2 L = some (.lst (oddVals p l)) := k2 _ _ upd_same (h3.ne nL).1
        have el := k2 _ _ (by rw [upd_ne (ne_of_none upd_same nL)]; exact upd_same) (h2.ne nl).1
        have ep := k2 _ _ (by rw [upd_ne (ne_of_none (by rw [upd_ne (ne_of_none upd_same nl)]; exact upd_same) nL), upd_ne (ne_of_none upd_same nl)]; exact upd_same) (hh1.ne np).1
        have kk := ((k1.trans (Keep.new np)).trans ((Keep.new nl).trans (Keep.new nL))).trans k2
        obtain ⟨x, hx, hm⟩ := atI_mem (xs := oddVals p l) l2 u2
        refine ⟨L, _, r2, x, rfl, rfl, .inl (.inl eL), hx, ?_⟩
        refine q x H2 ?_ hh2 kk
        have npo := k1.free np (hh1.ne np).1
        have nlo := k1.free (H' := H1) (by
          by_cases z : l = p
          · rw [z]
            exact np
          · rw [upd_ne z] at nl
            exact nl) (h2.ne nl).1
        have okp : ∀ {n : Nat}, OkN K H H2 70 (n + 1) (.ref p) := ⟨.tuple [], .tup (.inl (.inl (fresh_some.mpr ⟨npo, ep⟩))) .nil, by decide, fun x hx => (nomatch hx)⟩
        have okl : ∀ {n : Nat}, OkN K H H2 70 (n + 1) (.ref l) := ⟨.list [], .lst (.inl (.inl (fresh_some.mpr ⟨nlo, el⟩))) .nil, by decide, fun x hx => (nomatch hx)⟩
        have okb : ∀ {n : Nat} {b : Bool}, OkN K H H2 70 n (.bl b) := ⟨_, .bl _, gz_bool⟩
        have oki : ∀ {n : Nat} {i : Int}, i.natAbs < 10 ^ 70 → OkN K H H2 70 n (.int i) := fun hi => ⟨_, .int _, gz_int.mpr hi⟩
        have oks : ∀ {n : Nat} {x : Str}, PySem.PyData.strOk x = true → x.length ≤ 70 → OkN K H H2 70 n (.str x) := fun h1 h2 => ⟨_, .str _, gz_str.mpr ⟨h1, h2⟩⟩
        have okn : ∀ {n : Nat}, OkN K H H2 70 n .non := ⟨_, .non, gz_none⟩
        iterate 18
          rcases List.mem_cons.mp hm with e | hm
          · subst e
            first
              | exact okb
              | exact okn
              | exact okp
              | exact okl
              | exact oki (by decide +kernel)
              | exact oks (by decide +kernel) (by decide +kernel)
        exact nomatch hm
theorem no_odd {f : Addr} {fd : FuncData} (k : Nat) : FnOk P w K mg base CX0 k f fd ["hand", "depth"] (spOddB K 0) :=
  ⟨fun _ _ _ _ h => absurd h.1 (by decide), fun _ _ _ _ _ _ _ _ _ _ _ _ _ h => absurd h.1 (by decide)⟩
theorem ok_odd {f : Addr} {fd : FuncData} (D : Df K mg "_law_odd" s_law_odd ["hand", "depth"] f fd) (T : Txt K w mg cs) (c_law_take : Cl P w K mg base CX0 1 "_law_take" spTake) : ∀ j : Nat, FnOk P w K mg base CX0 (j + 2) f fd ["hand", "depth"] (spOdd K j)
  | 0 => odd_step D T 0 c_law_take (D.cl (no_odd _))
  | j + 1 => odd_step D T (j + 1) c_law_take (D.cl ((ok_odd D T c_law_take j).imp fun _ _ _ _ h => h.2))

theorem bent_step {f : Addr} {fd : FuncData} (D : Df K mg "_law_bent" s_law_bent ["hand", "value", "depth"] f fd) (T : Txt K w mg cs) (j : Nat) (c_law_take : Cl P w K mg base CX0 1 "_law_take" spTake) (c_law_odd : Cl P w K mg base CX0 4 "_law_odd" (spOdd K 2)) (c_law_bent : Cl P w K mg base CX0 (j + 4) "_law_bent" (spBentB K j)) : FnOk P w K mg base CX0 (j + 5) f fd ["hand", "value", "depth"] (spBent K j) := by
  refine D.fn.ok sc_law_bent (fun vs H Q E h => ?_) (fun cdv A outer s H vs Q E hr h => ?_)
  · obtain ⟨a, d, v, s, n, dep, rfl, _⟩ := h
    rfl
  · obtain ⟨a, d, v, z, n, dep, rfl, hdep, hh, hv, z1, z2, hn, q⟩ := h
    refine ⟨_, (pss_cons (ps_set (i := 3) sc_law_bent.nd rfl (.inl rfl) (pe_cl c_law_take hr (by first | decide | omega) (by rfl) (pa_cons (pv 0) (pa_cons pe_int pa_nil)))) (pss_cons (ps_if (PW.pt (pw_and (pt_val (pe_callB (isiK K) (by rfl) T.n_isinstance (by decide +kernel) (pa_cons (pv 1) (pa_cons (pe_ty "str" (by rfl) T.n_str (by decide +kernel)) pa_nil)))) (pw_and (pt_cmpR op_gt (pe_callB call_len_str (by rfl) T.n_len (by decide +kernel) (pa_cons (pv 1) pa_nil)) pe_int (nomark _)) (pw_and1 (pt_cmpR op_lt (pv 3) pe_int (nomark _)))))) (pss_cons (ps_set (i := 4) sc_law_bent.nd rfl (.inl rfl) (pe_cl c_law_take hr (by first | decide | omega) (by rfl) (pa_cons (pv 0) (pa_cons (pe_callB call_len_str (by rfl) T.n_len (by decide +kernel) (pa_cons (pv 1) pa_nil)) pa_nil)))) (pss_cons (ps_set (i := 5) sc_law_bent.nd rfl (.inl rfl) (pe_ix (ixL K) (pe_lst (pa_cons pe_str (pa_cons pe_str (pa_cons pe_str (pa_cons pe_str (pa_cons pe_str (pa_cons pe_str pa_nil))))))) (pe_cl c_law_take hr (by first | decide | omega) (by rfl) (pa_cons (pv 0) (pa_cons pe_int pa_nil))) (fun _ _ => rfl))) (pss_one (ps_ret (pe_ix (ixL K) (pe_lst (pa_cons (pe_op op_add_str (pe_op op_add_str (pe_slice sl_str (pv 1) po_none (po_some (pv 4))) (pv 5)) (pe_slice sl_str (pv 1) (po_some (pe_op op_add (pv 4) pe_int)) po_none)) (pa_cons (pe_op op_add_str (pe_op op_add_str (pe_slice sl_str (pv 1) po_none (po_some (pv 4))) (pv 5)) (pe_slice sl_str (pv 1) (po_some (pv 4)) po_none)) pa_nil))) (pe_cl c_law_take hr (by first | decide | omega) (by rfl) (pa_cons (pv 0) (pa_cons pe_int pa_nil))) (fun _ _ => rfl)))))) pss_nil) (pss_cons (ps_if (PW.pt (pw_and (pt_val (pe_callB (isiK K) (by rfl) T.n_isinstance (by decide +kernel) (pa_cons (pv 1) (pa_cons (pe_ty "int" (by rfl) T.n_int (by decide +kernel)) pa_nil)))) (pw_and1 (pt_cmpR op_lt (pv 3) pe_int (nomark _))))) (pss_one (ps_ret (pe_ix (ixL K) (pe_lst (pa_cons (pe_op op_addW (pv 1) pe_int) (pa_cons (pe_op op_subW (pv 1) pe_int) (pa_cons (pe_cmpR (op_eqD hr.units) (pv 1) pe_int (nomark _)) (pa_cons (pe_un un_negW (pv 1)) (pa_cons (pe_callTy call_strW (by rfl) T.n_str (by decide +kernel) (pa_cons (pv 1) pa_nil)) (pa_cons pe_int (pa_cons pe_int (pa_cons (pe_lst (pa_cons (pv 1) pa_nil)) pa_nil))))))))) (pe_cl c_law_take hr (by first | decide | omega) (by rfl) (pa_cons (pv 0) (pa_cons pe_int pa_nil))) (fun _ _ => rfl)))) pss_nil) (pss_cons (ps_if (PW.pt (pw_or (pt_not (pt_val (pe_callB (isiK K) (by rfl) T.n_isinstance (by decide +kernel) (pa_cons (pv 1) (pa_cons (pe_ty "tuple" (by rfl) T.n_tuple (by decide +kernel)) pa_nil))))) (pw_or (pt_cmpR op_eq (pe_callB (lenS K) (by rfl) T.n_len (by decide +kernel) (pa_cons (pv 1) pa_nil)) pe_int (nomark _)) (pw_or (pt_cmpR op_eq (pv 3) pe_int (nomark _)) (pw_or1 (pt_cmpR op_eq (pv 2) pe_int (nomark _))))))) (pss_one (ps_ret (pe_cl c_law_odd hr (by first | decide | omega) (by rfl) (pa_cons (pv 0) (pa_cons pe_int pa_nil))))) pss_nil) (pss_cons (ps_set (i := 4) sc_law_bent.nd rfl (.inl rfl) (pe_cl c_law_take hr (by first | decide | omega) (by rfl) (pa_cons (pv 0) (pa_cons (pe_callB (lenS K) (by rfl) T.n_len (by decide +kernel) (pa_cons (pv 1) pa_nil)) pa_nil)))) (pss_cons (ps_if (pt_cmpR op_eq (pv 3) pe_int (nomark _)) (pss_one (ps_ret (pe_op (opCatA K) (pe_slice (slTA K) (pv 1) po_none (po_some (pv 4))) (pe_slice (slTA K) (pv 1) (po_some (pe_op op_add (pv 4) pe_int)) po_none)))) pss_nil) (pss_cons (ps_if (pt_cmpR op_eq (pv 3) pe_int (nomark _)) (pss_one (ps_ret (pe_op (opCatA K) (pe_op (opCatA K) (pe_slice (slTA K) (pv 1) po_none (po_some (pv 4))) (pe_slice (slTA K) (pv 1) (po_some (pv 4)) (po_some (pe_op op_add (pv 4) pe_int)))) (pe_slice (slTA K) (pv 1) (po_some (pv 4)) po_none)))) pss_nil) (pss_cons (ps_if (pt_cmpR op_eq (pv 3) pe_int (nomark _)) (pss_one (ps_ret (pe_callTy (listOf K) (by rfl) T.n_list (by decide +kernel) (pa_cons (pv 1) pa_nil)))) pss_nil) (pss_one (ps_ret (pe_op (opCatA K) (pe_op (opCatA K) (pe_slice (slTA K) (pv 1) po_none (po_some (pv 4))) (pe_tup (pa_cons (pe_cl c_law_bent hr (by first | decide | omega) (by rfl) (pa_cons (pv 0) (pa_cons (pe_ix (ixT K) (pv 1) (pv 4) (fun _ _ => rfl)) (pa_cons (pe_op op_sub (pv 2) pe_int) pa_nil)))) pa_nil))) (pe_slice (slTA K) (pv 1) (po_some (pe_op op_add (pv 4) pe_int)) po_none)))))))))))), ?_⟩
    refine ⟨_, rfl, a, d, 10, rfl, by decide, hh, fun r H1 l1 u1 hh1 k1 => ?_⟩
    have hv1 := hv.keep k1
    have q1 : ∀ v' H', Ok K a H' (z + 2) (n + 3) v' → Hnd H' a d → Keep a H1 H' → Q v' H' := fun v' H' g1 g2 g3 => q v' H' g1 g2 (k1.trans g3)
    have fin : ∀ v' H', OkN K H1 H' 70 3 v' → Hnd H' a d → Keep a H1 H' → Q v' H' := fun v' H' g1 g2 g3 => q1 v' H' ((g1.ok hh1.some).up (by omega) (by omega)) g2 g3
    clear q hv hh k1
    obtain ⟨D, hD, hG⟩ := hv1
    have hD1 := dp_same (off_same a H1) D hD
    refine ⟨_, rfl, _, _, _, _, _, rfl, .ty "str", dp_ty hD1, kit_str D, _, rfl, ?_⟩
    cases D with
    | str x =>
      cases hD
      have hx := gz_str.mp hG
      have szx : x.length ≤ sizeLine := by
        rw [sizeLine_eq]
        have := hx.2
        omega
      refine ⟨_, rfl, x, rfl, szx, _, _, rfl, rfl, _, rfl, ?_⟩
      by_cases c : (0 : Int) < (x.length : Int) ∧ r < 7
      · rw [decide_eq_true c.1]
        refine ⟨_, rfl, _, _, rfl, rfl, _, rfl, ?_⟩
        rw [decide_eq_true c.2]
        refine ⟨_, rfl, _, rfl, x, rfl, szx, a, d, (x.length : Int), rfl, c.1, hh1, fun t H2 l2 u2 hh2 k2 => ?_⟩
        obtain ⟨t, rfl⟩ : ∃ k : Nat, t = (k : Int) := ⟨t.toNat, by omega⟩
        refine ⟨(by show 6 ≤ sizeLine; decide), fun c nc => ⟨_, rfl, a, d, 6, rfl, by decide, hh2.new nc, fun t2 H3 l3 u3 hh3 k3 => ?_⟩⟩
        obtain ⟨y, hat, hm⟩ := atI_mem (xs := [.str "0", .str "1", .str "2", .str " ", .str "a", .str ""]) l3 u3
        refine ⟨c, _, t2, y, rfl, rfl, .inl (.inl (k3 _ _ upd_same (hh2.ne nc).1)), hat, ?_⟩
        obtain ⟨sg, rfl, hsg⟩ : ∃ sg : Str, y = .str sg ∧ okS 1 sg := by
          iterate 6
            rcases List.mem_cons.mp hm with e | hm
            · exact ⟨_, e, by decide +kernel, by decide +kernel⟩
          exact nomatch hm
        have e1 : ((t : Int) + 1) = ((t + 1 : Nat) : Int) := by omega
        have ht : t < x.length := by omega
        have hA : okS (z + 2) (cutS x none (some (t : Int)) ++ sg ++ cutS x (some (((t + 1 : Nat) : Int))) none) := okS_mono (okS_app (okS_app (okS_pre hx (by omega)) hsg) (okS_suf (k := t + 1) hx)) (by have := hx.2; omega)
        have hB : okS (z + 2) (cutS x none (some (t : Int)) ++ sg ++ cutS x (some (t : Int)) none) := okS_mono (okS_app (okS_app (okS_pre hx (by omega)) hsg) (okS_suf (k := t) hx)) (by have := hx.2; omega)
        have s1 : (cutS x none (some (t : Int))).length + sg.length ≤ sizeLine := by
          rw [sizeLine_eq]
          have h1 := (okS_pre (k := t) hx (by omega)).2
          have h2 := hsg.2
          have h3 := hx.2
          omega
        have s2 : ∀ k : Nat, (cutS x none (some (t : Int)) ++ sg).length + (cutS x (some (k : Int)) none).length ≤ sizeLine := by
          intro k
          rw [sizeLine_eq]
          have h1 := (okS_app (okS_pre (k := t) hx (by omega)) hsg).2
          have h2 := (okS_suf (k := k) hx).2
          have h3 := hx.2
          omega
        refine ⟨_, rfl, _, rfl, _, rfl, _, rfl, szx, _, rfl, _, _, rfl, rfl, s1, _, rfl, _, rfl, _, _, rfl, rfl, _, rfl, _, rfl, szx, ?_⟩
        rw [e1]
        refine ⟨_, _, rfl, rfl, s2 (t + 1), ?_⟩
        refine ⟨_, rfl, _, rfl, _, rfl, _, rfl, szx, _, rfl, _, _, rfl, rfl, s1, _, rfl, _, rfl, _, rfl, _, rfl, szx, _, _, rfl, rfl, s2 t, ?_⟩
        refine ⟨(by show 2 ≤ sizeLine; decide), fun c2 nc2 => ⟨_, rfl, a, d, 2, rfl, by decide, hh3.new nc2, fun t3 H4 l4 u4 hh4 k4 => ?_⟩⟩
        obtain ⟨y, hat, hm⟩ := atI_mem (xs := [.str (cutS x none (some (t : Int)) ++ sg ++ cutS x (some (((t + 1 : Nat) : Int))) none), .str (cutS x none (some (t : Int)) ++ sg ++ cutS x (some (t : Int)) none)]) l4 u4
        refine ⟨c2, _, t3, y, rfl, rfl, .inl (.inl (k4 _ _ upd_same (hh3.ne nc2).1)), hat, q1 y H4 ?_ hh4 (((k2.trans (Keep.new nc)).trans k3).trans ((Keep.new nc2).trans k4))⟩
        rcases List.mem_cons.mp hm with e | hm
        · subst e
          exact .str hA
        rcases List.mem_cons.mp hm with e | hm
        · subst e
          exact .str hB
        exact nomatch hm
      · by_cases c1 : (0 : Int) < (x.length : Int)
        case' pos =>
          rw [decide_eq_true c1]
          refine ⟨_, rfl, _, _, rfl, rfl, _, rfl, ?_⟩
          rw [decide_eq_false fun z => c ⟨c1, z⟩]
        case' neg =>
          rw [decide_eq_false c1]
        all_goals
          refine ⟨_, rfl, _, _, _, _, _, rfl, .ty "int", dp_ty hD1, kit_int _, _, rfl, ?_⟩
          refine ⟨_, rfl, _, _, _, _, _, rfl, .ty "tuple", dp_ty hD1, kit_tup _, _, rfl, ?_⟩
          exact ⟨_, rfl, a, d, 2, rfl, by decide, hh1, fin⟩
    | int i =>
      cases hD
      have hi := gz_int.mp hG
      refine ⟨_, rfl, _, _, _, _, _, rfl, .ty "int", dp_ty hD1, kit_int _, _, rfl, ?_⟩
      refine ⟨_, rfl, _, _, rfl, rfl, _, rfl, ?_⟩
      by_cases c : r < 7
      · rw [decide_eq_true c]
        have hlog : i.natAbs.log2 < 1920 := by
          by_cases h0 : i.natAbs = 0
          · rw [h0]
            decide
          · rw [Nat.log2_lt h0]
            exact Nat.lt_of_lt_of_le hi (Nat.le_trans (Nat.pow_le_pow_right (by decide) z2) (show 10 ^ 500 ≤ 2 ^ 1920 by decide +kernel))
        refine ⟨_, rfl, i, 1, rfl, rfl, _, rfl, i, 1, rfl, rfl, _, rfl, .int i, .int 1, hD1, .int 1, gd_shaped (gz_gd (by omega) hG) (by omega), by decide +kernel, _, rfl, i, rfl, _, rfl, .inl ⟨i, rfl, hlog, _, rfl, (by show 1 ≤ sizeLine; decide), fun p np => ⟨(by show 8 ≤ sizeLine; decide), fun L nL => ⟨_, rfl, a, d, 8, rfl, by decide, (hh1.new np).new nL, fun t H2 l2 u2 hh2 k2 => ?_⟩⟩⟩⟩
        have h2 := hh1.new (o := .lst [.int i]) np
        obtain ⟨y, hat, hm⟩ := atI_mem (xs := [.int (i + 1), .int (i - 1), .bl (PyData.eqv (.int i) (.int 1)), .int (-i), .str (toString i), .int 0, .int 41, .ref p]) l2 u2
        refine ⟨L, _, t, y, rfl, rfl, .inl (.inl (k2 _ _ upd_same (h2.ne nL).1)), hat, q1 y H2 ?_ hh2 (((Keep.new np).trans (Keep.new nL)).trans k2)⟩
        have ep := k2 _ _ (by rw [upd_ne (ne_of_none upd_same nL)]; exact upd_same) (hh1.ne np).1
        have e100 : 10 ^ (z + 2) = 100 * 10 ^ z := by
          rw [Nat.pow_add, Nat.mul_comm]
        have e1 : 1 ≤ 10 ^ z := Nat.one_le_pow _ _ (by decide)
        iterate 7
          rcases List.mem_cons.mp hm with e | hm
          · subst e
            first
              | exact .bl
              | exact .str (okS_mono (okS_int hi (by omega)) (by omega))
              | exact .int (by rw [e100]; generalize 10 ^ z = N at *; omega)
        rcases List.mem_cons.mp hm with e | hm
        · subst e
          exact .up (.lst (n := n) (s := z) (hh1.ne np).1 ep ⟨[.int i], .cons (.int i) .nil, fun d hd => by rw [List.mem_singleton.mp hd]; exact hG⟩ (by show 1 ≤ z; omega)) (by omega) (by omega)
        exact nomatch hm
      · rw [decide_eq_false c]
        refine ⟨_, rfl, _, _, _, _, _, rfl, .ty "tuple", dp_ty hD1, kit_tup _, _, rfl, ?_⟩
        exact ⟨_, rfl, a, d, 2, rfl, by decide, hh1, fin⟩
    | bool b =>
      cases hD
      have hbs : okS 5 (if b then ("True" : Str) else ("False" : Str)) := by
        cases b
        · exact ⟨by decide +kernel, by decide +kernel⟩
        · exact ⟨by decide +kernel, by decide +kernel⟩
      have hb : (b2i b).natAbs ≤ 1 := by
        cases b <;> decide
      refine ⟨_, rfl, _, _, _, _, _, rfl, .ty "int", dp_ty hD1, kit_int _, _, rfl, ?_⟩
      refine ⟨_, rfl, _, _, rfl, rfl, _, rfl, ?_⟩
      by_cases c : r < 7
      · rw [decide_eq_true c]
        refine ⟨_, rfl, b2i b, 1, rfl, rfl, _, rfl, b2i b, 1, rfl, rfl, _, rfl, .bool b, .int 1, hD1, .int 1, gd_shaped (gz_gd (by omega) hG) (by omega), by decide +kernel, _, rfl, b2i b, rfl, _, rfl, .inr ⟨b, rfl, _, rfl, (by show 1 ≤ sizeLine; decide), fun p np => ⟨(by show 8 ≤ sizeLine; decide), fun L nL => ⟨_, rfl, a, d, 8, rfl, by decide, (hh1.new np).new nL, fun t H2 l2 u2 hh2 k2 => ?_⟩⟩⟩⟩
        have h2 := hh1.new (o := .lst [.bl b]) np
        obtain ⟨y, hat, hm⟩ := atI_mem (xs := [.int (b2i b + 1), .int (b2i b - 1), .bl (PyData.eqv (.bool b) (.int 1)), .int (-b2i b), .str (if b then "True" else "False"), .int 0, .int 41, .ref p]) l2 u2
        refine ⟨L, _, t, y, rfl, rfl, .inl (.inl (k2 _ _ upd_same (h2.ne nL).1)), hat, q1 y H2 ?_ hh2 (((Keep.new np).trans (Keep.new nL)).trans k2)⟩
        have ep := k2 _ _ (by rw [upd_ne (ne_of_none upd_same nL)]; exact upd_same) (hh1.ne np).1
        have e100 : 10 ^ (z + 2) = 100 * 10 ^ z := by
          rw [Nat.pow_add, Nat.mul_comm]
        have e1 : 1 ≤ 10 ^ z := Nat.one_le_pow _ _ (by decide)
        iterate 7
          rcases List.mem_cons.mp hm with e | hm
          · subst e
            first
              | exact .bl
              | exact .str (okS_mono hbs (by omega))
              | exact .int (by rw [e100]; generalize 10 ^ z = N at *; omega)
        rcases List.mem_cons.mp hm with e | hm
        · subst e
          exact .up (.lst (n := n) (s := z) (hh1.ne np).1 ep ⟨[.bool b], .cons (.bl b) .nil, fun d hd => by rw [List.mem_singleton.mp hd]; exact hG⟩ (by show 1 ≤ z; omega)) (by omega) (by omega)
        exact nomatch hm
      · rw [decide_eq_false c]
        refine ⟨_, rfl, _, _, _, _, _, rfl, .ty "tuple", dp_ty hD1, kit_tup _, _, rfl, ?_⟩
        exact ⟨_, rfl, a, d, 2, rfl, by decide, hh1, fin⟩
    | tuple xs =>
      obtain ⟨hl, m, rfl, hx⟩ := gz_tup hG
      cases hD with
      | @tup p ws _ hT hA =>
        have hwl := dp_all_len hA
        have hO : Oks K a H1 z m ws := ⟨xs, hA, hx⟩
        have hT1 := sqt_on hT
        clear hA hx hT hG
        refine ⟨_, rfl, _, _, _, _, _, rfl, .ty "int", dp_ty hD1, kit_int _, _, rfl, ?_⟩
        refine ⟨_, rfl, _, _, _, _, _, rfl, .ty "tuple", dp_ty hD1, kit_tup _, _, rfl, ?_⟩
        refine ⟨_, rfl, p, ws, rfl, .inr hT1, rfl, _, rfl, ?_⟩
        by_cases c0 : ws.length = 0
        · rw [decide_eq_true (show V.int ((ws.length : Nat) : Int) = V.int 0 by rw [c0]; rfl)]
          exact ⟨_, rfl, a, d, 2, rfl, by decide, hh1, fin⟩
        rw [decide_eq_false (show ¬ V.int ((ws.length : Nat) : Int) = V.int 0 from fun e => c0 (by have := V.int.inj e; omega))]
        refine ⟨_, rfl, rfl, _, rfl, ?_⟩
        by_cases c1 : r = 0
        · rw [decide_eq_true (show V.int r = V.int 0 by rw [c1])]
          exact ⟨_, rfl, a, d, 2, rfl, by decide, hh1, fin⟩
        rw [decide_eq_false (show ¬ V.int r = V.int 0 from fun e => c1 (V.int.inj e))]
        refine ⟨_, rfl, rfl, _, rfl, ?_⟩
        by_cases c2 : dep = 0
        · rw [decide_eq_true (show V.int (dep : Int) = V.int 0 by rw [c2]; rfl)]
          exact ⟨_, rfl, a, d, 2, rfl, by decide, hh1, fin⟩
        rw [decide_eq_false (show ¬ V.int (dep : Int) = V.int 0 from fun e => c2 (by have := V.int.inj e; omega))]
        -- at
        refine ⟨_, rfl, _, rfl, p, ws, rfl, .inr hT1, a, d, _, rfl, by omega, hh1, fun t H2 l2 u2 hh2 k2 => ?_⟩
        obtain ⟨t, rfl⟩ : ∃ k : Nat, t = (k : Int) := ⟨t.toNat, by omega⟩
        have ht : t < ws.length := by omega
        have e1 : ((t : Int) + 1) = ((t + 1 : Nat) : Int) := by omega
        have hT2 : SqT K H2 p ws := sqt_on (same_sqt k2.off (sqt_off hh1 hT1))
        have hO2 := hO.keep k2
        have q2 : ∀ v' H', Ok K a H' (z + 2) (m + 2) v' → Hnd H' a d → Keep a H2 H' → Q v' H' := fun v' H' g1 g2 g3 => q1 v' H' (g1.up (Nat.le_refl _) (by omega)) g2 (k2.trans g3)
        have lc : ∀ k : Nat, (cutV ws none (some (k : Int))).length ≤ k := fun k => by
          rw [cutV_len, sIx_n, HT.sIx_none]
          omega
        have lr : ∀ k : Nat, (cutV ws (some (k : Int)) none).length ≤ ws.length - k := fun k => by
          rw [cutV_len, sIx_n, HT.sIx_none]
          omega
        have sz : ∀ n : Nat, n ≤ 1000 → n ≤ sizeLine := fun n h => by
          rw [sizeLine_eq]
          omega
        refine ⟨_, rfl, rfl, _, rfl, ?_⟩
        by_cases c3 : r = 1
        · rw [decide_eq_true (show V.int r = V.int 1 by rw [c3])]
          refine ⟨_, rfl, _, rfl, _, rfl, sl_any hT2 fun p1 H3 s3 t3 => ⟨_, rfl, _, rfl, _, _, rfl, rfl, _, rfl, sl_anyN (same_sqt s3 hT2) fun p2 H4 s4 t4 => ?_⟩⟩
          rw [e1] at t4
          have l1 := lc t
          have l2 := lr (t + 1)
          refine cat_any (same_sqt s4 t3) t4 (sz _ (by omega)) fun p3 H5 s5 t5 => ?_
          have ss := (s3.trans s4).trans s5
          have hh5 := hh2.same ss
          refine q2 _ _ (.up (.tup (s := z) hh5 t5 (.app (.cut _ _ (hO2.keep (.same ss))) (.cut _ _ (hO2.keep (.same ss)))) ?_) (by omega) (by omega)) hh5 (.same ss)
          rw [List.length_append]
          omega
        rw [decide_eq_false (show ¬ V.int r = V.int 1 from fun e => c3 (V.int.inj e))]
        refine ⟨_, rfl, rfl, _, rfl, ?_⟩
        by_cases c4 : r = 2
        · rw [decide_eq_true (show V.int r = V.int 2 by rw [c4])]
          refine ⟨_, rfl, _, rfl, _, rfl, sl_any hT2 fun p1 H3 s3 t3 => ⟨_, rfl, _, rfl, _, rfl, _, rfl, _, _, rfl, rfl, _, rfl, sl_any (same_sqt s3 hT2) fun p2 H4 s4 t4 => ?_⟩⟩
          rw [e1] at t4
          have l1 := lc t
          have l2 := lr t
          have l3 : (cutV ws (some (t : Int)) (some ((t + 1 : Nat) : Int))).length ≤ 1 := by
            rw [cutV_len, sIx_n, sIx_n]
            omega
          refine cat_any (same_sqt s4 t3) t4 (sz _ (by omega)) fun p3 H5 s5 t5 => ?_
          refine ⟨_, rfl, _, rfl, _, rfl, sl_anyN (same_sqt ((s3.trans s4).trans s5) hT2) fun p4 H6 s6 t6 => ?_⟩
          refine cat_any (same_sqt s6 t5) t6 (sz _ (by rw [List.length_append]; omega)) fun p5 H7 s7 t7 => ?_
          have ss := (((s3.trans s4).trans s5).trans s6).trans s7
          have hh7 := hh2.same ss
          have o : ∀ lo hi, Oks K a H7 z m (cutV ws lo hi) := fun lo hi => .cut _ _ (hO2.keep (.same ss))
          refine q2 _ _ (.up (.tup (s := z + 1) hh7 t7 (.up (.app (.app (o _ _) (o _ _)) (o _ _)) (by omega) (Nat.le_refl _)) ?_) (by omega) (by omega)) hh7 (.same ss)
          rw [List.length_append, List.length_append]
          omega
        rw [decide_eq_false (show ¬ V.int r = V.int 2 from fun e => c4 (V.int.inj e))]
        refine ⟨_, rfl, rfl, _, rfl, ?_⟩
        by_cases c5 : r = 3
        · rw [decide_eq_true (show V.int r = V.int 3 by rw [c5])]
          refine ⟨_, rfl, p, ws, rfl, .inr hT2, fun l nl => ?_⟩
          have k3 : Keep a H2 (upd H2 l (.lst ws)) := Keep.new nl
          exact q2 _ _ (.up (.lst (s := z) (hh2.ne nl).1 upd_same (hO2.keep k3) (by omega)) (by omega) (by omega)) (hh2.new nl) k3
        rw [decide_eq_false (show ¬ V.int r = V.int 3 from fun e => c5 (V.int.inj e))]
        -- the part bent
        obtain ⟨x, hxt⟩ : ∃ x, ws[t]? = some x := ⟨_, List.getElem?_eq_getElem ht⟩
        refine ⟨_, rfl, _, rfl, _, rfl, sl_any hT2 fun p1 H3 s3 t3 => ?_⟩
        have hh3 := hh2.same s3
        have l1 := lc t
        have l2 := lr (t + 1)
        refine ⟨_, rfl, _, rfl, _, rfl, p, ws, (t : Int), x, rfl, rfl, same_sqt s3 hT2, atI_nat hxt, _, rfl, _, _, rfl, rfl, by omega, a, d, x, z, m, dep - 1, ?_, by omega, hh3, (hO2.keep (.same s3)).get hxt, z1, z2, by omega, fun v' H4 g1 g2 g3 => ⟨(by show 1 ≤ sizeLine; decide), fun c nc => ?_⟩⟩
        · show [V.ref a, x, V.int ((dep : Int) - 1)] = _
          rw [show ((dep : Int) - 1) = ((dep - 1 : Nat) : Int) by omega]
        have t3' : SqT K H4 p1 (cutV ws none (some (t : Int))) := sqt_on (same_sqt g3.off (sqt_off hh3 t3))
        have hT4 : SqT K H4 p ws := sqt_on (same_sqt g3.off (sqt_off hh3 (same_sqt s3 hT2)))
        refine cat_any (same_sqt (same_new nc) t3') (.inl (.inl upd_same)) (sz _ (by show _ + 1 ≤ _; omega)) fun p3 H5 s5 t5 => ?_
        refine ⟨_, rfl, _, rfl, _, _, rfl, rfl, _, rfl, sl_anyN (same_sqt ((same_new nc).trans s5) hT4) fun p4 H6 s6 t6 => ?_⟩
        rw [e1] at t6
        refine cat_any (same_sqt s6 t5) t6 (sz _ (by rw [List.length_append]; show _ + 1 + _ ≤ _; omega)) fun p5 H7 s7 t7 => ?_
        have ss := (((same_new nc).trans s5).trans s6).trans s7
        have hh7 := g2.same ss
        have kk : Keep a H2 H7 := ((Keep.same s3).trans g3).trans (.same ss)
        have o : ∀ lo hi, Oks K a H7 (z + 2) (m + 3) (cutV ws lo hi) := fun lo hi => .up (.cut _ _ (hO2.keep kk)) (by omega) (by omega)
        refine q1 _ _ (.tup (s := z + 2) (n := m + 3) hh7 t7 (.app (.app (o _ _) (.one (g1.keep (.same ss)))) (o _ _)) ?_) hh7 (k2.trans kk)
        rw [List.length_append, List.length_append]
        show _ + 1 + _ ≤ _
        omega
    | none =>
      refine ⟨_, rfl, _, _, _, _, _, rfl, .ty "int", dp_ty hD1, kit_int _, _, rfl, ?_⟩
      refine ⟨_, rfl, _, _, _, _, _, rfl, .ty "tuple", dp_ty hD1, kit_tup _, _, rfl, ?_⟩
      exact ⟨_, rfl, a, d, 2, rfl, by decide, hh1, fin⟩
    | list xs =>
      refine ⟨_, rfl, _, _, _, _, _, rfl, .ty "int", dp_ty hD1, kit_int _, _, rfl, ?_⟩
      refine ⟨_, rfl, _, _, _, _, _, rfl, .ty "tuple", dp_ty hD1, kit_tup _, _, rfl, ?_⟩
      exact ⟨_, rfl, a, d, 2, rfl, by decide, hh1, fin⟩
    | dict xs => nomatch hD
theorem no_bent {f : Addr} {fd : FuncData} (k : Nat) : FnOk P w K mg base CX0 k f fd ["hand", "value", "depth"] (spBentB K 0) :=
  ⟨fun _ _ _ _ h => absurd h.1 (by decide), fun _ _ _ _ _ _ _ _ _ _ _ _ _ h => absurd h.1 (by decide)⟩
theorem ok_bent {f : Addr} {fd : FuncData} (D : Df K mg "_law_bent" s_law_bent ["hand", "value", "depth"] f fd) (T : Txt K w mg cs) (c_law_take : Cl P w K mg base CX0 1 "_law_take" spTake) (c_law_odd : Cl P w K mg base CX0 4 "_law_odd" (spOdd K 2)) : ∀ j : Nat, FnOk P w K mg base CX0 (j + 5) f fd ["hand", "value", "depth"] (spBent K j)
  | 0 => bent_step D T 0 c_law_take c_law_odd (D.cl (no_bent _))
  | j + 1 => bent_step D T (j + 1) c_law_take c_law_odd (D.cl ((ok_bent D T c_law_take c_law_odd j).imp fun _ _ _ _ h => h.2))

end
def spInner (K : PySem.W.Frag) : Sp := fun vs H Q _ => ∃ (v : V) (d : PyData) (n : Nat) (G : Hp), vs = [v] ∧ Same G H ∧ Dp K G v d ∧ Gd n d ∧ (looksOk d = true → ∀ a us H', Same H H' → SqT K H' a us → DpAll K G us (kidsD d) → Q (.ref a) H') ∧ (looksOk d = false → ∀ H', Same H H' → Q .non H')
theorem look_z {z : Str} {r : List PyData} (h1 : z = "say" → sayOk r = false) (h2 : z = "toss" → tossOk r = false) (h3 : z = "look" → lookOk r = false) (h4 : z = "ask" → askOk r = false) : looksOk (.tuple (.str z :: r)) = false := by
  rw [looks_eq, named_str, named_str, named_str, named_str]
  by_cases c1 : z = "say"
  · rw [if_pos (decide_eq_true c1), h1 c1]
  · rw [if_neg (by rw [decide_eq_false c1]; decide)]
    by_cases c2 : z = "toss"
    · rw [if_pos (decide_eq_true c2), h2 c2]
    · rw [if_neg (by rw [decide_eq_false c2]; decide)]
      by_cases c3 : z = "look"
      · rw [if_pos (decide_eq_true c3), h3 c3]
      · rw [if_neg (by rw [decide_eq_false c3]; decide)]
        by_cases c4 : z = "ask"
        · rw [h4 c4, Bool.and_false]
        · rw [decide_eq_false c4, Bool.false_and]
theorem head_no {k : PyData} {r : List PyData} (h : isStr k = false) : looksOk (.tuple (k :: r)) = false := by
  have hn : ∀ x : Str, named x k = false := fun x => by
    cases c : named x k with
    | false => rfl
    | true =>
      rw [named_eq c] at h
      cases h
  rw [looks_eq, hn, hn, hn, hn]
  rfl

section
variable {P : Program} {w : World} {K : PySem.W.Frag} {mg : Str → Option Value} {base : Heap} {cs : Cs}
theorem ok_lawisparts {f : Addr} {fd : FuncData} (D : Df K mg "_law_is_parts" s_law_is_parts ["parts"] f fd) (T : Txt K w mg cs) (c_law_within : Cl P w K mg base CX0 1 "_law_within" (spWithin K)) : FnOk P w K mg base CX0 2 f fd ["parts"] (spD K partsOk) := by
  refine D.fn.ok sc_law_is_parts (fun vs H Q E h => ?_) (fun cdv A outer s H vs Q E hr h => ?_)
  · obtain ⟨v, d, n, rfl, _⟩ := h
    rfl
  · obtain ⟨v, d, n, rfl, hd, hg, q⟩ := h
    replace q := q H (Same.refl H)
    refine ⟨_, (pss_cons (ps_if (pt_not (pt_val (pe_callB (isiK K) (by rfl) T.n_isinstance (by decide +kernel) (pa_cons (pv 0) (pa_cons (pe_ty "tuple" (by rfl) T.n_tuple (by decide +kernel)) pa_nil))))) (pss_one (ps_ret pe_bl)) pss_nil) (pss_cons (ps_for PassesOwn.never rfl (pi_tup (pv 0)) (pg_name (i := 1) sc_law_is_parts.nd rfl (.inl rfl)) (pss_one (ps_if (pt_val (pe_callB (isiK K) (by rfl) T.n_isinstance (by decide +kernel) (pa_cons (pv 1) (pa_cons (pe_ty "str" (by rfl) T.n_str (by decide +kernel)) pa_nil)))) (pss_one (ps_if (PW.pt (pw_and (pt_cmpR op_ne (pv 1) pe_str (nomark _)) (pw_and1 (pt_cmpR op_ne (pv 1) pe_str (nomark _))))) (pss_one (ps_ret pe_bl)) pss_nil)) (pss_one (ps_if (pt_not (pt_val (pe_cl c_law_within hr (by first | decide | omega) (by rfl) (pa_cons (pv 1) (pa_cons pe_int (pa_cons pe_int pa_nil)))))) (pss_one (ps_ret pe_bl)) pss_nil))))) (pss_one (ps_ret pe_bl)))), ?_⟩
    refine ⟨_, rfl, _, _, _, _, _, rfl, .ty "tuple", dp_ty hd, kit_tup d, _, rfl, ?_⟩
    cases d with
    | tuple xs =>
      cases hd with
      | @tup a ws _ hT hA =>
      obtain ⟨hl, n', rfl, hx⟩ := gd_tup hg
      have hwl := dp_all_len hA
      have e : partsOk (.tuple xs) = xs.all partOk := rfl
      rw [e] at q
      refine ⟨_, rfl, a, rfl, ⟨_, hT⟩, for_tup (xs := ws) (fun i σ H' => (∃ y3 : Option V, σ = [some (.ref a), y3]) ∧ H' = H ∧ (xs.take i).all partOk = true) ?_ ?_ ?_ ?_⟩
      · exact ⟨⟨none, rfl⟩, rfl, rfl⟩
      · rintro i σ H' _ ⟨_, rfl, _⟩
        exact hT
      · rintro i x σ H' hxi ⟨⟨y3, rfl⟩, rfl, ha⟩
        obtain ⟨d, hdi, hdx⟩ := dp_all_get hA hxi
        have hs := all_snoc hdi ha
        refine ⟨_, rfl, _, _, _, _, _, rfl, .ty "str", dp_ty hdx, kit_str d, _, rfl, ?_⟩
        have no : partOk d = false → Q (.bl false) H' := fun c => by
          rw [all_take (i := i + 1) (by rw [hs, c])] at q
          exact q
        have other : partOk d = whole d 0 9999 → ∀ b, whole d 0 9999 = b → (b = true → (xs.take (i + 1)).all partOk = true) ∧ (b = false → Q (.bl false) H') := fun e b hb => ⟨fun z => by rw [hs, e, hb, z], fun z => no (by rw [e, hb, z])⟩
        cases d with
        | str z =>
          cases hdx
          refine ⟨_, rfl, rfl, _, rfl, ?_⟩
          by_cases c0 : z = "0"
          · rw [decide_eq_true (congrArg V.str c0)]
            exact ⟨⟨_, rfl⟩, rfl, by rw [hs]; subst c0; decide⟩
          · rw [decide_eq_false (fun e => c0 (V.str.inj e))]
            refine ⟨_, rfl, rfl, _, rfl, ?_⟩
            by_cases c1 : z = "1"
            · rw [decide_eq_true (congrArg V.str c1)]
              exact ⟨⟨_, rfl⟩, rfl, by rw [hs]; subst c1; decide⟩
            · rw [decide_eq_false (fun e => c1 (V.str.inj e))]
              refine no ?_
              show (decide (z = "0") || decide (z = "1")) = false
              rw [decide_eq_false c0, decide_eq_false c1]
              rfl
        | none =>
          refine ⟨_, rfl, x, _, 0, 9999, rfl, hdx, _, rfl, ?_⟩
          exact no rfl
        | bool b =>
          refine ⟨_, rfl, x, _, 0, 9999, rfl, hdx, _, rfl, ?_⟩
          exact no rfl
        | int b =>
          refine ⟨_, rfl, x, _, 0, 9999, rfl, hdx, _, rfl, ?_⟩
          obtain ⟨o1, o2⟩ := other rfl _ rfl
          cases c : whole (.int b) 0 9999 with
          | true => exact ⟨⟨_, rfl⟩, rfl, o1 c⟩
          | false => exact o2 c
        | tuple b =>
          refine ⟨_, rfl, x, _, 0, 9999, rfl, hdx, _, rfl, ?_⟩
          exact no rfl
        | list b =>
          refine ⟨_, rfl, x, _, 0, 9999, rfl, hdx, _, rfl, ?_⟩
          exact no rfl
        | dict b =>
          refine ⟨_, rfl, x, _, 0, 9999, rfl, hdx, _, rfl, ?_⟩
          exact no rfl
      · rintro σ H' ⟨⟨y3, rfl⟩, rfl, ha⟩
        rw [hwl, List.take_length] at ha
        rw [ha] at q
        exact q
    | none => exact q
    | bool b => exact q
    | int b => exact q
    | str b => exact q
    | list b => exact q
    | dict b => exact q
theorem ok_inner {f : Addr} {fd : FuncData} (D : Df K mg "_law_plain_inner" s_law_plain_inner ["value"] f fd) (T : Txt K w mg cs) (c_law_within : Cl P w K mg base CX0 1 "_law_within" (spWithin K)) (c_law_is_parts : Cl P w K mg base CX0 2 "_law_is_parts" (spD K partsOk)) : FnOk P w K mg base CX0 3 f fd ["value"] (spInner K) := by
  refine D.fn.ok sc_law_plain_inner (fun vs H Q E h => ?_) (fun cdv A outer s H vs Q E hr h => ?_)
  · obtain ⟨v, d, n, G, rfl, _⟩ := h
    rfl
  · obtain ⟨v, d, n, G, rfl, sG, hdG, hg, qy, qn⟩ := h
    refine ⟨_, (pss_cons (ps_if (PW.pt (pw_or (pt_not (pt_val (pe_callB (isiK K) (by rfl) T.n_isinstance (by decide +kernel) (pa_cons (pv 0) (pa_cons (pe_ty "tuple" (by rfl) T.n_tuple (by decide +kernel)) pa_nil))))) (pw_or (pt_cmpR op_eq (pe_callB (lenS K) (by rfl) T.n_len (by decide +kernel) (pa_cons (pv 0) pa_nil)) pe_int (nomark _)) (pw_or1 (pt_not (pt_val (pe_callB (isiK K) (by rfl) T.n_isinstance (by decide +kernel) (pa_cons (pe_ix (ixT K) (pv 0) pe_int (fun _ _ => rfl)) (pa_cons (pe_ty "str" (by rfl) T.n_str (by decide +kernel)) pa_nil))))))))) (pss_one (ps_ret pe_non)) pss_nil) (C8.pss_cut (ps_if (PW.pt (pw_and (pt_cmpR op_eq (pe_ix (ixT K) (pv 0) pe_int (fun _ _ => rfl)) pe_str (nomark _)) (pw_and (pt_cmpR op_eq (pe_callB (lenS K) (by rfl) T.n_len (by decide +kernel) (pa_cons (pv 0) pa_nil)) pe_int (nomark _)) (pw_and1 (pt_val (pe_cl c_law_is_parts hr (by first | decide | omega) (by rfl) (pa_cons (pe_ix (ixT K) (pv 0) pe_int (fun _ _ => rfl)) pa_nil))))))) (pss_one (ps_ret (pe_tup pa_nil))) pss_nil) (C8.pss_cut (ps_if (PW.pt (pw_and (pt_cmpR op_eq (pe_ix (ixT K) (pv 0) pe_int (fun _ _ => rfl)) pe_str (nomark _)) (pw_and (pt_cmpR op_eq (pe_callB (lenS K) (by rfl) T.n_len (by decide +kernel) (pa_cons (pv 0) pa_nil)) pe_int (nomark _)) (pw_and (pt_val (pe_callB (isiK K) (by rfl) T.n_isinstance (by decide +kernel) (pa_cons (pe_ix (ixT K) (pv 0) pe_int (fun _ _ => rfl)) (pa_cons (pe_ty "tuple" (by rfl) T.n_tuple (by decide +kernel)) pa_nil)))) (pw_and1 (pt_val (pe_cl c_law_within hr (by first | decide | omega) (by rfl) (pa_cons (pe_callB (lenS K) (by rfl) T.n_len (by decide +kernel) (pa_cons (pe_ix (ixT K) (pv 0) pe_int (fun _ _ => rfl)) pa_nil)) (pa_cons pe_int (pa_cons pe_int pa_nil)))))))))) (pss_one (ps_ret (pe_ix (ixT K) (pv 0) pe_int (fun _ _ => rfl)))) pss_nil) (C8.pss_cut (ps_if (PW.pt (pw_and (pt_cmpR op_eq (pe_ix (ixT K) (pv 0) pe_int (fun _ _ => rfl)) pe_str (nomark _)) (pw_and (pt_cmpR op_eq (pe_callB (lenS K) (by rfl) T.n_len (by decide +kernel) (pa_cons (pv 0) pa_nil)) pe_int (nomark _)) (pw_and1 (pt_val (pe_cl c_law_within hr (by first | decide | omega) (by rfl) (pa_cons (pe_ix (ixT K) (pv 0) pe_int (fun _ _ => rfl)) (pa_cons pe_int (pa_cons pe_int pa_nil))))))))) (pss_one (ps_ret (pe_slice (slTA K) (pv 0) (po_some pe_int) po_none))) pss_nil) (pss_cons (ps_if (PW.pt (pw_and (pt_cmpR op_eq (pe_ix (ixT K) (pv 0) pe_int (fun _ _ => rfl)) pe_str (nomark _)) (pw_and (pt_cmpR op_eq (pe_callB (lenS K) (by rfl) T.n_len (by decide +kernel) (pa_cons (pv 0) pa_nil)) pe_int (nomark _)) (pw_and1 (pt_val (pe_cl c_law_is_parts hr (by first | decide | omega) (by rfl) (pa_cons (pe_ix (ixT K) (pv 0) pe_int (fun _ _ => rfl)) pa_nil))))))) (pss_one (ps_ret (pe_slice (slTA K) (pv 0) (po_some pe_int) po_none))) pss_nil) (pss_one (ps_ret pe_non))))))), ?_⟩
    have hd := dp_same sG d hdG
    refine ⟨_, rfl, _, _, _, _, _, rfl, .ty "tuple", dp_ty hd, kit_tup d, _, rfl, ?_⟩
    cases d with
    | tuple xs =>
      cases hdG with
      | @tup a ws _ hTG hAG =>
      have hT := same_sqt sG hTG
      have hA := dps_same sG _ hAG
      have hwl := dp_all_len hA
      obtain ⟨hl, n', rfl, hx⟩ := gd_tup hg
      refine ⟨_, rfl, a, ws, rfl, .inr hT, rfl, _, rfl, ?_⟩
      cases xs with
      | nil =>
        rw [decide_eq_true (show V.int ((ws.length : Nat) : Int) = V.int 0 by rw [hwl]; rfl)]
        exact qn rfl H (Same.refl H)
      | cons k r =>
        rw [decide_eq_false (show ¬ V.int ((ws.length : Nat) : Int) = V.int 0 from fun z => by
          have := V.int.inj z
          rw [hwl, List.length_cons] at this
          omega)]
        obtain ⟨v0, vr, rfl, h0, hr'⟩ := dp_cons hA
        obtain ⟨v0', vr', e0, h0G, hrG⟩ := dp_cons hAG
        cases e0
        refine ⟨_, rfl, a, _, 0, v0, rfl, rfl, hT, at_zero, _, _, _, _, _, rfl, .ty "str", dp_ty h0, kit_str k, _, rfl, ?_⟩
        have stop : isStr k = false → Q .non H := fun c => qn (head_no c) H (Same.refl H)
        cases k with
        | str z =>
          cases h0
          have gr : ∀ x ∈ r, Gd n' x := fun x h => hx x (List.mem_cons_of_mem _ h)
          have hlr := dp_all_len hr'
          have lenE : ∀ m : Nat, (vr.length = m → decide (V.int (((V.str z :: vr).length : Nat) : Int) = V.int ((m + 1 : Nat) : Int)) = true) ∧ (vr.length ≠ m → decide (V.int (((V.str z :: vr).length : Nat) : Int) = V.int ((m + 1 : Nat) : Int)) = false) := fun m =>
            ⟨fun h => decide_eq_true (congrArg V.int (by rw [List.length_cons, h])), fun h => decide_eq_false fun e => h (by have := V.int.inj e; rw [List.length_cons] at this; omega)⟩
          have nameE : ∀ x : Str, (z = x → decide (V.str z = V.str x) = true) ∧ (z ≠ x → decide (V.str z = V.str x) = false) := fun x => ⟨fun h => decide_eq_true (congrArg V.str h), fun h => decide_eq_false fun e => h (V.str.inj e)⟩
          -- say
          refine ⟨fun σ2 H2 => σ2 = [some (.ref a)] ∧ Same H H2 ∧ (z = "say" → sayOk r = false), ?_, ?_⟩
          · refine ⟨_, rfl, a, _, 0, .str z, rfl, rfl, hT, at_zero, rfl, _, rfl, ?_⟩
            by_cases c1 : z = "say"
            · rw [(nameE _).1 c1]
              refine ⟨_, rfl, a, _, rfl, .inr hT, rfl, _, rfl, ?_⟩
              by_cases c2 : vr.length = 1
              · have ee := (lenE 1).1 c2
                obtain ⟨vp, p, rfl, rfl, hp⟩ := dp1 hr' c2
                rw [show decide (V.int ((([V.str z, vp] : List V).length : Nat) : Int) = V.int 2) = true from ee]
                refine ⟨_, rfl, a, _, 1, vp, rfl, rfl, hT, rfl, vp, p, n', rfl, hp, gr p List.mem_cons_self, fun H2 s2 => ⟨_, rfl, ?_⟩⟩
                have es : sayOk [p] = partsOk p := rfl
                cases cp : partsOk p with
                | true =>
                  refine ⟨(by show 0 ≤ sizeLine; exact Nat.zero_le _), fun t nt => ?_⟩
                  subst c1
                  refine qy (by rw [looks_say, es, cp]) t [] _ (s2.trans (same_new nt)) (.inl (.inl upd_same)) ?_
                  rw [kids_say]
                  exact .nil
                | false => exact ⟨rfl, s2, fun _ => by rw [es, cp]⟩
              · rw [show decide (V.int (((V.str z :: vr).length : Nat) : Int) = V.int 2) = false from (lenE 1).2 c2]
                exact ⟨rfl, Same.refl H, fun _ => sayOk_no (by omega)⟩
            · rw [(nameE _).2 c1]
              exact ⟨rfl, Same.refl H, fun e => absurd e c1⟩
          rintro σ2 H2 ⟨rfl, s2, f1⟩
          have hT2 := same_sqt s2 hT
          -- toss
          refine ⟨fun σ3 H3 => σ3 = [some (.ref a)] ∧ Same H H3 ∧ (z = "toss" → tossOk r = false), ?_, ?_⟩
          · refine ⟨_, rfl, a, _, 0, .str z, rfl, rfl, hT2, at_zero, rfl, _, rfl, ?_⟩
            by_cases c1 : z = "toss"
            · rw [(nameE _).1 c1]
              refine ⟨_, rfl, a, _, rfl, .inr hT2, rfl, _, rfl, ?_⟩
              by_cases c2 : vr.length = 1
              · have ee := (lenE 1).1 c2
                obtain ⟨vp, p, rfl, rfl, hp⟩ := dp1 hr' c2
                obtain ⟨vp', p', e1, e2, hpG⟩ := dp1 hrG c2
                cases e1
                cases e2
                rw [show decide (V.int ((([V.str z, vp] : List V).length : Nat) : Int) = V.int 2) = true from ee]
                replace hp := dp_same s2 p hp
                refine ⟨_, rfl, a, _, 1, vp, rfl, rfl, hT2, rfl, _, _, _, _, _, rfl, .ty "tuple", dp_ty hp, kit_tup p, _, rfl, ?_⟩
                cases p with
                | tuple ys =>
                  cases hpG with
                  | @tup b us _ bTG bAG =>
                  have bT := same_sqt s2 (same_sqt sG bTG)
                  have hul := dp_all_len bAG
                  refine ⟨_, rfl, a, _, 1, .ref b, rfl, rfl, hT2, rfl, b, us, rfl, .inr bT, .int ((us.length : Nat) : Int), .int ((us.length : Nat) : Int), 1, 64, rfl, .int _, _, rfl, ?_⟩
                  have et : tossOk [.tuple ys] = whole (.int ((us.length : Nat) : Int)) 1 64 := by
                    rw [hul]
                    rfl
                  cases cw : whole (.int ((us.length : Nat) : Int)) 1 64 with
                  | true =>
                    have hn : named "toss" (.str z) = true := by rw [named_str]; exact decide_eq_true c1
                    refine ⟨_, rfl, a, _, 1, .ref b, rfl, rfl, hT2, rfl, qy (by subst c1; rw [looks_toss, et, cw]) b us H2 s2 bT ?_⟩
                    rw [kids_toss hn]
                    exact bAG
                  | false => exact ⟨rfl, s2, fun _ => by rw [et, cw]⟩
                | none => exact ⟨rfl, s2, fun _ => rfl⟩
                | bool b => exact ⟨rfl, s2, fun _ => rfl⟩
                | int b => exact ⟨rfl, s2, fun _ => rfl⟩
                | str b => exact ⟨rfl, s2, fun _ => rfl⟩
                | list b => exact ⟨rfl, s2, fun _ => rfl⟩
                | dict b => exact ⟨rfl, s2, fun _ => rfl⟩
              · rw [show decide (V.int (((V.str z :: vr).length : Nat) : Int) = V.int 2) = false from (lenE 1).2 c2]
                exact ⟨rfl, s2, fun _ => tossOk_no (by omega)⟩
            · rw [(nameE _).2 c1]
              exact ⟨rfl, s2, fun e => absurd e c1⟩
          rintro σ3 H3 ⟨rfl, s3, f2⟩
          clear s2 hT2
          have hT3 := same_sqt s3 hT
          -- look
          refine ⟨fun σ4 H4 => σ4 = [some (.ref a)] ∧ Same H H4 ∧ (z = "look" → lookOk r = false), ?_, ?_⟩
          · refine ⟨_, rfl, a, _, 0, .str z, rfl, rfl, hT3, at_zero, rfl, _, rfl, ?_⟩
            by_cases c1 : z = "look"
            · rw [(nameE _).1 c1]
              refine ⟨_, rfl, a, _, rfl, .inr hT3, rfl, _, rfl, ?_⟩
              by_cases c2 : vr.length = 3
              · have ee := (lenE 3).1 c2
                obtain ⟨vn, vx, vy, dn, dx, dy, rfl, rfl, hn, hvx, hvy⟩ := dp3 hr' c2
                rw [show decide (V.int ((([V.str z, vn, vx, vy] : List V).length : Nat) : Int) = V.int 4) = true from ee]
                refine ⟨_, rfl, a, _, 1, vn, rfl, rfl, hT3, rfl, vn, dn, 0, 9999, rfl, dp_same s3 dn hn, _, rfl, ?_⟩
                have es : lookOk [dn, dx, dy] = whole dn 0 9999 := rfl
                cases cw : whole dn 0 9999 with
                | true =>
                  refine ⟨_, rfl, 2, rfl, slA_any hT3 fun p H4 s4 hp => ?_⟩
                  rw [cut_two] at hp
                  subst c1
                  refine qy (by rw [looks_look, es, cw]) p _ H4 (s3.trans s4) hp ?_
                  rw [kids_look]
                  exact dps_drop 1 hrG
                | false => exact ⟨rfl, s3, fun _ => by rw [es, cw]⟩
              · rw [show decide (V.int (((V.str z :: vr).length : Nat) : Int) = V.int 4) = false from (lenE 3).2 c2]
                exact ⟨rfl, s3, fun _ => lookOk_no (by omega)⟩
            · rw [(nameE _).2 c1]
              exact ⟨rfl, s3, fun e => absurd e c1⟩
          rintro σ4 H4 ⟨rfl, s4, f3⟩
          clear s3 hT3
          have hT4 := same_sqt s4 hT
          -- ask
          refine ⟨_, rfl, a, _, 0, .str z, rfl, rfl, hT4, at_zero, rfl, _, rfl, ?_⟩
          by_cases c1 : z = "ask"
          · rw [(nameE _).1 c1]
            refine ⟨_, rfl, a, _, rfl, .inr hT4, rfl, _, rfl, ?_⟩
            by_cases c2 : vr.length = 2
            · have ee := (lenE 2).1 c2
              obtain ⟨vp, vx, p, dx, rfl, rfl, hp, hvx⟩ := dp2 hr' c2
              rw [show decide (V.int ((([V.str z, vp, vx] : List V).length : Nat) : Int) = V.int 3) = true from ee]
              refine ⟨_, rfl, a, _, 1, vp, rfl, rfl, hT4, rfl, vp, p, n', rfl, dp_same s4 p hp, gr p List.mem_cons_self, fun H5 s5 => ⟨_, rfl, ?_⟩⟩
              have es : askOk [p, dx] = partsOk p := rfl
              have s45 := s4.trans s5
              cases cp : partsOk p with
              | true =>
                refine ⟨_, rfl, 2, rfl, slA_any (same_sqt s5 hT4) fun t H6 s6 hp => ?_⟩
                rw [cut_two] at hp
                subst c1
                refine qy (by rw [looks_ask, es, cp]) t _ H6 (s45.trans s6) hp ?_
                rw [kids_ask]
                exact dps_drop 1 hrG
              | false => exact qn (look_z f1 f2 f3 fun _ => by rw [es, cp]) H5 s45
            · rw [show decide (V.int (((V.str z :: vr).length : Nat) : Int) = V.int 3) = false from (lenE 2).2 c2]
              exact qn (look_z f1 f2 f3 fun _ => askOk_no (by omega)) H4 s4
          · rw [(nameE _).2 c1]
            exact qn (look_z f1 f2 f3 fun e => absurd e c1) H4 s4
        | none => exact stop rfl
        | bool b => exact stop rfl
        | int b => exact stop rfl
        | tuple b => exact stop rfl
        | list b => exact stop rfl
        | dict b => exact stop rfl
    | none => exact qn rfl H (Same.refl H)
    | bool b => exact qn rfl H (Same.refl H)
    | int b => exact qn rfl H (Same.refl H)
    | str b => exact qn rfl H (Same.refl H)
    | list b => exact qn rfl H (Same.refl H)
    | dict b => exact qn rfl H (Same.refl H)

end
def lev (k : Nat) (ds : List PyData) (many : Nat) : Bool := ds.all (okN k) && decide (many + (ds.map (szN k)).sum ≤ 2001)
def kidsAll (ds : List PyData) : List PyData := (ds.map kidsD).flatten
theorem kidsAll_app (a b : List PyData) : kidsAll (a ++ b) = kidsAll a ++ kidsAll b := by
  unfold kidsAll
  rw [List.map_append, List.flatten_append]
theorem lev_step {k many : Nat} {ds : List PyData} (h : ∀ x ∈ ds, looksOk x = true) : lev (k + 1) ds many = lev k (kidsAll ds) (many + ds.length) := by
  have e1 : ds.all (okN (k + 1)) = (kidsAll ds).all (okN k) := by
    induction ds with
    | nil => rfl
    | cons x ds ih =>
      show (okN (k + 1) x && ds.all (okN (k + 1))) = (kidsD x ++ kidsAll ds).all (okN k)
      rw [List.all_append, ih fun y hy => h y (List.mem_cons_of_mem _ hy)]
      congr 1
      show (looksOk x && (kidsD x).all (okN k)) = _
      rw [h x List.mem_cons_self, Bool.true_and]
  have e2 : (ds.map (szN (k + 1))).sum = ds.length + ((kidsAll ds).map (szN k)).sum := by
    clear h e1
    induction ds with
    | nil => rfl
    | cons x ds ih =>
      show szN (k + 1) x + (ds.map (szN (k + 1))).sum = (ds.length + 1) + ((kidsD x ++ kidsAll ds).map (szN k)).sum
      rw [List.map_append, List.sum_append, ih]
      show (1 + ((kidsD x).map (szN k)).sum) + _ = _
      omega
  unfold lev
  rw [e1, e2]
  congr 1
  apply decide_eq_decide.mpr
  omega
theorem lev_bad {k many : Nat} {ds : List PyData} {x : PyData} (hx : x ∈ ds) (h : looksOk x = false) : lev k ds many = false := by
  unfold lev
  have : ds.all (okN k) = false := by
    cases c : ds.all (okN k) with
    | false => rfl
    | true =>
      have := List.all_eq_true.mp c x hx
      rw [okN_looks h] at this
      cases this
  rw [this, Bool.false_and]
theorem sz_len (k : Nat) : ∀ ds : List PyData, ds.length ≤ (ds.map (szN k)).sum
  | [] => Nat.le_refl 0
  | x :: ds => by
    have h1 := sz_len k ds
    have h2 := sz_pos k x
    rw [List.map_cons, List.sum_cons, List.length_cons]
    omega
theorem lev_many {k many : Nat} {ds : List PyData} (h : 2001 < many + ds.length) : lev k ds many = false := by
  unfold lev
  have := sz_len k ds
  rw [decide_eq_false (by omega), Bool.and_false]
theorem kids_bound {n : Nat} : ∀ {ds : List PyData}, (∀ x ∈ ds, Gd n x) → (kidsAll ds).length ≤ 5000 * ds.length
  | [], _ => Nat.le_refl 0
  | x :: ds, h => by
    have h1 := kids_len (h x List.mem_cons_self)
    have h2 := kids_bound fun y hy => h y (List.mem_cons_of_mem x hy)
    show (kidsD x ++ kidsAll ds).length ≤ 5000 * (ds.length + 1)
    rw [List.length_append]
    omega

section
variable {P : Program} {w : World} {K : PySem.W.Frag} {mg : Str → Option Value} {base : Heap} {cs : Cs}
theorem ok_plaingood {f : Addr} {fd : FuncData} (D : Df K mg "_law_plain_good" s_law_plain_good ["value"] f fd) (T : Txt K w mg cs) (c_law_plain_inner : Cl P w K mg base CX0 3 "_law_plain_inner" (spInner K)) : FnOk P w K mg base CX0 4 f fd ["value"] (spD K plainOk) := by
  refine D.fn.ok sc_law_plain_good (fun vs H Q E h => ?_) (fun cdv A outer s H vs Q E hr h => ?_)
  · obtain ⟨v, d, n, rfl, _⟩ := h
    rfl
  · obtain ⟨v, d, n, rfl, hd, hg, q⟩ := h
    refine ⟨_, (pss_cons (ps_set (i := 1) sc_law_plain_good.nd rfl (.inl rfl) (pe_lst (pa_cons (pv 0) pa_nil))) (pss_cons (ps_set (i := 2) sc_law_plain_good.nd rfl (.inl rfl) pe_int) (pss_cons (ps_for PassesOwn.never rfl (pi_range1 (by rfl) T.n_range (pa_cons pe_int pa_nil)) (pg_name (i := 3) sc_law_plain_good.nd rfl (.inl rfl)) (pss_cons (ps_set (i := 4) sc_law_plain_good.nd rfl (.inl rfl) (pe_lst pa_nil)) (pss_cons (ps_for PassesOwn.never rfl (pi_list (pv 1)) (pg_name (i := 5) sc_law_plain_good.nd rfl (.inl rfl)) (pss_cons (ps_set (i := 6) sc_law_plain_good.nd rfl (.inl rfl) (pe_cl c_law_plain_inner hr (by first | decide | omega) (by rfl) (pa_cons (pv 5) pa_nil))) (pss_cons (ps_set (i := 2) sc_law_plain_good.nd rfl (.inl rfl) (pe_op op_add (pv 2) pe_int)) (pss_cons (ps_if (PW.pt (pw_or (pt_cmpR op_isN (pv 6) pe_non (nomark _)) (pw_or1 (pt_cmpR op_gt (pv 2) pe_int (nomark _))))) (pss_one (ps_ret pe_bl)) pss_nil) (pss_one (ps_set (i := 4) sc_law_plain_good.nd rfl (.inl rfl) (pe_op op_cat (pv 4) (pe_callTy (listOf K) (by rfl) T.n_list (by decide +kernel) (pa_cons (pv 6) pa_nil))))))))) (pss_cons (ps_if (pt_cmpR op_eq (pe_callB (lenS K) (by rfl) T.n_len (by decide +kernel) (pa_cons (pv 4) pa_nil)) pe_int (nomark _)) (pss_one (ps_ret pe_bl)) pss_nil) (pss_one (ps_set (i := 1) sc_law_plain_good.nd rfl (.inl rfl) (pv 4))))))) (pss_one (ps_ret pe_bl))))), ?_⟩
    refine ⟨_, rfl, (by show 1 ≤ sizeLine; decide), fun L nL => ?_⟩
    have e0 : plainOk d = lev 60 [d] 0 := by
      unfold plainOk lev
      show (okN 60 d && decide (szN 60 d ≤ 2001)) = ((okN 60 d && true) && decide (0 + (szN 60 d + 0) ≤ 2001))
      rw [Bool.and_true, Nat.add_zero, Nat.zero_add]
    refine ⟨_, rfl, by decide, by decide, for_range (lo := 0) (n := 60) (fun i σ H' => ∃ (Lv : Addr) (ws : List V) (ds : List PyData) (many : Nat) (y3 y4 y5 y6 : Option V), σ = [some v, some (.ref Lv), some (.int (many : Int)), y3, y4, y5, y6] ∧ Same H H' ∧ H' Lv = some (.lst ws) ∧
      DpAll K H ws ds ∧ (∀ x ∈ ds, Gd n x) ∧ ds ≠ [] ∧ many ≤ 2001 ∧ plainOk d = lev (60 - i) ds many) ?_ ?_ ?_⟩
    · exact ⟨L, [v], [d], 0, none, none, none, none, rfl, same_new nL, upd_same, .cons hd .nil, fun x hx => by rw [List.mem_singleton.mp hx]; exact hg, (fun z => by cases z), by decide, e0⟩
    · clear e0 nL
      rintro i σ H1 hi ⟨Lv, ws, ds, many, y3, y4, y5, y6, rfl, s1, eL, hA, hG, hne, hmany, hlev⟩
      have hwl := dp_all_len hA
      refine ⟨Nat.zero_le _, fun B0 nB => ?_⟩
      have nBL : B0 ≠ Lv := (ne_of_none eL nB).symm
      refine ⟨_, rfl, Lv, rfl, ⟨_, .inl (.inl (by rw [upd_ne nBL.symm]; exact eL))⟩, for_list (xs := ws) (fun j σ H' => ∃ (B : Addr) (us : List V) (y5 y6 : Option V), σ = [some v, some (.ref Lv), some (.int ((many + j : Nat) : Int)), some (.int (0 + (i : Int))), some (.ref B), y5, y6] ∧ Same H1 H' ∧ H' B = some (.lst us) ∧
        DpAll K H us (kidsAll (ds.take j)) ∧ (∀ x ∈ ds.take j, looksOk x = true) ∧ many + j ≤ 2001) ?_ ?_ ?_ ?_⟩
      · exact ⟨B0, [], y5, y6, rfl, same_new nB, upd_same, .nil, fun x hx => (by rw [List.take_zero] at hx; cases hx), hmany⟩
      · rintro j σ H' _ ⟨_, _, _, _, _, s2, _⟩
        exact .inl (.inl (s2 _ _ eL))
      · rintro j x σ H2 hx ⟨B, us, z5, z6, rfl, s2, eB, hU, hlk, hmj⟩
        obtain ⟨dx, hdi, hdx⟩ := dp_all_get hA hx
        have hmem := List.mem_of_getElem? hdi
        have hj : j < ds.length := (List.getElem?_eq_some_iff.mp hdi).1
        have s12 := s1.trans s2
        refine ⟨_, rfl, x, dx, n, H, rfl, s12, hdx, hG dx hmem, fun hl a ks H3 s3 hT hK => ?_, fun hl H3 s3 => ?_⟩
        · refine ⟨_, rfl, _, _, rfl, rfl, ?_⟩
          refine ⟨_, rfl, rfl, _, rfl, ?_⟩
          refine ⟨_, rfl, _, _, rfl, rfl, _, rfl, ?_⟩
          by_cases c : 2001 < many + j + 1
          · rw [decide_eq_true (show (((many + j : Nat) : Int) + 1) > 2001 by omega)]
            have q' := q H3 (s12.trans s3)
            rw [hlev, lev_many (by omega)] at q'
            exact q'
          · rw [decide_eq_false (show ¬ (((many + j : Nat) : Int) + 1) > 2001 by omega)]
            have hkl := kids_len (hG dx hmem)
            have hkl2 := dp_all_len hK
            have hul := dp_all_len hU
            have hub := kids_bound (ds := ds.take j) fun y hy => hG y (List.mem_of_mem_take hy)
            have htl : (ds.take j).length = j := by
              rw [List.length_take]
              omega
            rw [htl] at hub
            refine ⟨_, rfl, _, rfl, a, ks, rfl, .inr hT, fun l nl => ?_⟩
            refine ⟨B, l, us, ks, rfl, rfl, by rw [upd_ne (ne_of_none (s3 _ _ eB) nl)]; exact s3 _ _ eB, upd_same, ?_, fun B2 nB2 => ?_⟩
            · rw [sizeLine_eq]
              omega
            · refine ⟨B2, us ++ ks, some x, some (.ref a), ?_, (s2.trans s3).trans ((same_new nl).trans (same_new nB2)), upd_same, ?_, ?_, by omega⟩
              · show [_, _, some (V.int (((many + j : Nat) : Int) + 1)), _, _, _, _] = _
                rw [show (((many + j : Nat) : Int) + 1) = ((many + (j + 1) : Nat) : Int) by omega]
              · rw [List.take_add_one, hdi, kidsAll_app]
                refine dps_app hU ?_
                show DpAll K H ks (kidsD dx ++ [])
                rw [List.append_nil]
                exact hK
              · intro y hy
                rw [List.take_add_one, hdi] at hy
                rcases List.mem_append.mp hy with h | h
                · exact hlk y h
                · rw [List.mem_singleton.mp h]
                  exact hl
        · refine ⟨_, rfl, _, _, rfl, rfl, ?_⟩
          refine ⟨_, rfl, rfl, _, rfl, ?_⟩
          have q' := q H3 (s12.trans s3)
          rw [hlev, lev_bad hmem hl] at q'
          exact q'
      · rintro σ H2 ⟨B, us, z5, z6, rfl, s2, eB, hU, hlk, hmj⟩
        rw [hwl, List.take_length] at hU hlk
        have hul := dp_all_len hU
        rw [show 60 - i = (60 - (i + 1)) + 1 by omega, lev_step hlk, ← hwl] at hlev
        have s12 := s1.trans s2
        refine ⟨_, rfl, B, _, rfl, .inl (.inl (.inl eB)), rfl, _, rfl, ?_⟩
        by_cases c : us.length = 0
        · rw [decide_eq_true (show V.int ((us.length : Nat) : Int) = V.int 0 by rw [c]; rfl)]
          have q' := q H2 s12
          have ek : kidsAll ds = [] := List.eq_nil_of_length_eq_zero (by omega)
          rw [hlev, ek] at q'
          have el : lev (60 - (i + 1)) [] (many + ws.length) = true := by
            show (true && decide (many + ws.length + 0 ≤ 2001)) = true
            rw [Bool.true_and, decide_eq_true (by omega)]
          rw [el] at q'
          exact q'
        · rw [decide_eq_false (show ¬ V.int ((us.length : Nat) : Int) = V.int 0 from fun z => c (by have := V.int.inj z; omega))]
          refine ⟨_, rfl, B, us, kidsAll ds, many + ws.length, _, _, _, _, rfl, s12, eB, hU, ?_, ?_, hmj, hlev⟩
          · intro x hx
            unfold kidsAll at hx
            obtain ⟨l, hl, hxl⟩ := List.mem_flatten.mp hx
            obtain ⟨y, hy, rfl⟩ := List.mem_map.mp hl
            exact kids_gd (hG y hy) hxl
          · intro z
            rw [z] at hul
            exact c hul
    · rintro σ H1 ⟨Lv, ws, ds, many, y3, y4, y5, y6, rfl, s1, eL, hA, hG, hne, hmany, hlev⟩
      have q' := q H1 s1
      have el : lev (60 - 60) ds many = false := by
        cases ds with
        | nil => exact absurd rfl hne
        | cons x ds => rfl
      rw [hlev, el] at q'
      exact q'
theorem ok_isplain {f : Addr} {fd : FuncData} (D : Df K mg "is_plain" s_is_plain ["breaker"] f fd) (T : Txt K w mg cs) (c_check_breaker : Cl P w K mg base (L2.CX P w) 6 "check_breaker" (spCheckB K cs.BadBreaker)) (c_is_made : Cl P w K mg base CX0 1 "is_made" (spD K madeD)) :
    FnOk P w K mg base (L2.CX P w) 7 f fd ["breaker"] (fun vs H Q E => ∃ (v : V) (d : PyData) (n : Nat), vs = [v] ∧ Dp K H v d ∧ Gd n d ∧ ∀ H', Same H H' → (brOk d = true → Q (.bl (!madeD d)) H') ∧ (brOk d = false → E (.ref cs.BadBreaker) none H')) := by
  refine D.fn.okX sc_is_plain (fun vs H Q E h => ?_) (fun cdv A outer s H vs Q E hr h => ?_)
  · obtain ⟨v, d, n, rfl, _⟩ := h
    rfl
  · obtain ⟨v, d, n, rfl, hd, hg, q⟩ := h
    have tk := takes_of (X := cxOf (L2.CX P w) P w K mg base ["breaker"] "is_plain" (defScope s_is_plain) f cdv A outer s H E) (E := E) rfl rfl rfl rfl
    refine ⟨_, (pss_cons (ps_expr (pe_clX c_check_breaker hr (by first | decide | omega) (by rfl) tk (pa_cons (pv 0) pa_nil))) (pss_one (ps_ret (pe_not (pe_cl c_is_made hr (by first | decide | omega) (by rfl) (pa_cons (pv 0) pa_nil)))))), ?_⟩
    exact ⟨_, rfl, v, d, n, rfl, hd, hg, fun H1 s1 => ⟨fun hb => ⟨_, rfl, v, d, n, rfl, dp_same s1 d hd, hg, fun H2 s2 => ⟨_, rfl, (q H2 (s1.trans s2)).1 hb⟩⟩, fun hb => (q H1 s1).2 hb⟩⟩

end
def wfM : Nat → PyData → Prop
  | 0, _ => False
  | j + 1, d => okN (j + 1) d = true ∨ ∃ z r, d = .tuple (.str z :: r) ∧ madeZ z = true ∧ fitZ z r.dropLast = true ∧ wfM j (lastD d)
def mV : Nat → PyData → Int
  | 0, _ => 0
  | j + 1, d => if madeD d then (if headIs "marks" d then 1 + mV j (lastD d) else if headIs "secrets" d then mV j (lastD d) else if headIs "counter" d then intOf (item 2 d) else 0) else (paN (j + 1) d : Int)
theorem okN_parts {n : Nat} {d : PyData} (h : okN (n + 1) d = true) : looksOk d = true ∧ ∀ e ∈ kidsD d, okN n e = true := by
  have h' : (looksOk d && (kidsD d).all (okN n)) = true := h
  rw [Bool.and_eq_true, List.all_eq_true] at h'
  exact h'
theorem looks_names {d : PyData} (h : looksOk d = true) : ∃ z r, d = .tuple (.str z :: r) ∧ (z = "say" ∨ z = "toss" ∨ z = "look" ∨ z = "ask") := by
  obtain ⟨k, r, rfl⟩ := looks_head h
  rw [looks_eq] at h
  cases c1 : named "say" k with
  | true => exact ⟨_, r, by rw [named_eq c1], .inl rfl⟩
  | false =>
    rw [c1, if_neg (by decide)] at h
    cases c2 : named "toss" k with
    | true => exact ⟨_, r, by rw [named_eq c2], .inr (.inl rfl)⟩
    | false =>
      rw [c2, if_neg (by decide)] at h
      cases c3 : named "look" k with
      | true => exact ⟨_, r, by rw [named_eq c3], .inr (.inr (.inl rfl))⟩
      | false =>
        rw [c3, if_neg (by decide), Bool.and_eq_true] at h
        exact ⟨_, r, by rw [named_eq h.1], .inr (.inr (.inr rfl))⟩
theorem looks_plainD {d : PyData} (h : looksOk d = true) : madeD d = false := by
  obtain ⟨z, r, rfl, hz⟩ := looks_names h
  show madeZ z = false
  rcases hz with rfl | rfl | rfl | rfl <;> decide
theorem okN_plainD {n : Nat} {d : PyData} (h : okN n d = true) : madeD d = false := by
  cases n with
  | zero => cases h
  | succ n => exact looks_plainD (okN_parts h).1
theorem mV_plain {n : Nat} {d : PyData} (h : okN n d = true) : mV n d = (paN n d : Int) := by
  cases n with
  | zero => cases h
  | succ n =>
    rw [mV, if_neg (by rw [okN_plainD h]; decide)]
theorem ok_stable : ∀ {n : Nat} {d : PyData}, okN n d = true → okN (n + 1) d = true ∧ paN (n + 1) d = paN n d := by
  intro n
  induction n with
  | zero =>
    intro d h
    cases h
  | succ n ih =>
    intro d h
    obtain ⟨h1, h2⟩ := okN_parts h
    constructor
    · show (looksOk d && (kidsD d).all (okN (n + 1))) = true
      rw [h1, List.all_eq_true.mpr fun e he => (ih (h2 e he)).1]
      rfl
    · show askB d + ((kidsD d).map (paN (n + 1))).foldl max 0 = askB d + ((kidsD d).map (paN n)).foldl max 0
      rw [List.map_congr_left fun e he => (ih (h2 e he)).2]
theorem ok_stableN {n : Nat} {d : PyData} (h : okN n d = true) : ∀ k : Nat, okN (n + k) d = true ∧ paN (n + k) d = paN n d
  | 0 => ⟨h, rfl⟩
  | k + 1 => by
    obtain ⟨h1, h2⟩ := ok_stableN h k
    obtain ⟨h3, h4⟩ := ok_stable h1
    exact ⟨h3, h4.trans h2⟩
theorem chk_most : ∀ {n : Nat} {d : PyData}, chk n d = true → wfM (60 + n) d ∧ mV (60 + n) d = progM n d := by
  intro n
  have plain : ∀ (n : Nat) (d : PyData), madeD d = false → chk n d = true → wfM (60 + n) d ∧ mV (60 + n) d = progM n d := by
    intro n d c h
    rw [chk_plain c] at h
    unfold plainOk at h
    rw [Bool.and_eq_true] at h
    obtain ⟨h1, h2⟩ := ok_stableN h.1 n
    obtain ⟨z, r, rfl, hz⟩ := looks_names (okN_parts (n := 59) h.1).1
    refine ⟨?_, ?_⟩
    · rw [show 60 + n = (59 + n) + 1 by omega] at h1 ⊢
      exact .inl h1
    · rw [mV_plain h1, h2, progM_other (by rcases hz with rfl | rfl | rfl | rfl <;> decide) (by rcases hz with rfl | rfl | rfl | rfl <;> decide), if_neg (by rcases hz with rfl | rfl | rfl | rfl <;> decide), if_neg (by rw [c]; decide)]
  induction n with
  | zero =>
    intro d h
    cases c : madeD d with
    | true =>
      rw [chk_zero c] at h
      cases h
    | false => exact plain 0 d c h
  | succ n ih =>
    intro d h
    cases c : madeD d with
    | false => exact plain (n + 1) d c h
    | true =>
      obtain ⟨z, r, rfl, hz⟩ := made_parts c
      obtain ⟨m, em, hf, hc⟩ := chk_made c h
      have em' : n = m := by omega
      subst em'
      obtain ⟨i1, i2⟩ := ih hc
      refine ⟨.inr ⟨z, r, rfl, hz, hf, i1⟩, ?_⟩
      show mV ((60 + n) + 1) _ = _
      rw [mV, if_pos c, head_str, head_str, head_str, i2]
      by_cases c1 : z = "marks"
      · subst c1
        rw [if_pos (decide_eq_true rfl), progM_marks]
      · rw [if_neg (by rw [decide_eq_false c1]; decide)]
        by_cases c2 : z = "secrets"
        · subst c2
          rw [if_pos (decide_eq_true rfl), progM_secrets]
        · rw [if_neg (by rw [decide_eq_false c2]; decide), progM_other c1 c2]
          by_cases c3 : z = "counter"
          · rw [if_pos (decide_eq_true c3), if_pos c3]
          · rw [if_neg (by rw [decide_eq_false c3]; decide), if_neg c3, if_pos c]
theorem two_parts {r : List PyData} {a b : Int × Int} (h : numsOk r.dropLast [a, b] = true) : ∃ x y z, r = [x, y, z] := by
  have hl : r.dropLast.length = 2 := by
    by_cases c : r.dropLast.length = [a, b].length
    · exact c
    · rw [nums_len c] at h
      cases h
  rw [List.length_dropLast] at hl
  match r, hl with
  | [x, y, z], _ => exact ⟨x, y, z, rfl⟩
theorem max_is {l : List Nat} {m : Int} (h1 : m ∈ l.map (fun n : Nat => (n : Int))) (h2 : ∀ y ∈ l.map (fun n : Nat => (n : Int)), y ≤ m) : m = (l.foldl max 0 : Nat) := by
  have key : ∀ (l : List Nat) (b k : Nat), b ≤ k → (∀ y ∈ l, y ≤ k) → (b = k ∨ k ∈ l) → l.foldl max b = k := by
    intro l
    induction l with
    | nil =>
      intro b k h0 h1 h2
      rcases h2 with h | h
      · exact h
      · cases h
    | cons x l ih =>
      intro b k h0 h1 h2
      rw [List.foldl_cons]
      have hx := h1 x List.mem_cons_self
      refine ih _ _ (by omega) (fun y hy => h1 y (List.mem_cons_of_mem _ hy)) ?_
      rcases h2 with h | h
      · exact .inl (by omega)
      · rcases List.mem_cons.mp h with e | h
        · exact .inl (by omega)
        · exact .inr h
  obtain ⟨k, hk, rfl⟩ := List.mem_map.mp h1
  rw [key l 0 k (Nat.zero_le _) (fun y hy => by have := h2 y (List.mem_map.mpr ⟨y, hy, rfl⟩); omega) (.inr hk)]
def spLM (K : PySem.W.Frag) (j : Nat) : Sp := fun vs H Q _ => ∃ (v : V) (d : PyData) (n : Nat), vs = [v] ∧ Dp K H v d ∧ Gd n d ∧ wfM j d ∧ ∀ H', Same H H' → Q (.int (mV j d)) H'

def spIR (K : PySem.W.Frag) : Sp := fun vs H Q _ => ∃ (v : V) (d : PyData) (n : Nat), vs = [v] ∧ Dp K H v d ∧ Gd n d ∧ brOk d = true ∧ ∀ H', Same H H' → Q (.bl true) H'
theorem sz_stable : ∀ {n : Nat} {d : PyData}, okN n d = true → szN (n + 1) d = szN n d := by
  intro n
  induction n with
  | zero =>
    intro d h
    cases h
  | succ n ih =>
    intro d h
    obtain ⟨h1, h2⟩ := okN_parts h
    show 1 + ((kidsD d).map (szN (n + 1))).sum = 1 + ((kidsD d).map (szN n)).sum
    rw [List.map_congr_left fun e he => ih (h2 e he)]
theorem sz_stableN {n : Nat} {d : PyData} (h : okN n d = true) : ∀ k : Nat, szN (n + k) d = szN n d
  | 0 => rfl
  | k + 1 => (sz_stable (ok_stableN h k).1).trans (sz_stableN h k)
theorem plain_of {j : Nat} {d : PyData} (h : okN j d = true) (hj : j ≤ 60) (hs : szN j d ≤ 2001) : plainOk d = true := by
  obtain ⟨k, e⟩ : ∃ k, 60 = j + k := ⟨60 - j, by omega⟩
  unfold plainOk
  rw [e, (ok_stableN h k).1, sz_stableN h k, decide_eq_true hs]
  rfl
theorem chk_ofplain {j n : Nat} {d : PyData} (h : okN j d = true) (hj : j ≤ 60) (hs : szN j d ≤ 2001) : chk n d = true := by
  rw [chk_plain (okN_plainD h)]
  exact plain_of h hj hs
theorem bsz6 {j : Nat} (h : j ≤ 6) : bsz j ≤ 364 := by
  have : j = 0 ∨ j = 1 ∨ j = 2 ∨ j = 3 ∨ j = 4 ∨ j = 5 ∨ j = 6 := by omega
  rcases this with e | e | e | e | e | e | e <;> subst e <;> decide
theorem marks_of {m : Nat} {i j : Int} {D : PyData} (h : chk m D = true) (h1 : 1 ≤ i) (h2 : i ≤ 40) (h3 : 1 ≤ j) (h4 : j ≤ 40) : chk (m + 1) (.tuple [.str "marks", .int i, .int j, D]) = true :=
  chk_of (own := [.int i, .int j]) (by decide) (fit_two (by decide) rfl h1 h2 h3 h4) (fun z => absurd z (by decide)) h
theorem secrets_of {m : Nat} {i j : Int} {D : PyData} (h : chk m D = true) (h1 : 1 ≤ i) (h2 : i ≤ 40) (h3 : 1 ≤ j) (h4 : j ≤ 40) : chk (m + 1) (.tuple [.str "secrets", .int i, .int j, D]) = true :=
  chk_of (own := [.int i, .int j]) (by decide) (fit_two (by decide) rfl h1 h2 h3 h4) (fun z => absurd z (by decide)) h
theorem pl4 {n : Nat} {z : Str} {i j : Int} {D : PyData} (hz : okT z) (h : Pl n D) : Pl (n + 1) (.tuple [.str z, .int i, .int j, D]) := by
  refine ⟨(by show 4 ≤ 5000; decide), fun x hx => ?_⟩
  rcases List.mem_cons.mp hx with e | hx
  · exact e ▸ pl_str.mpr hz
  rcases List.mem_cons.mp hx with e | hx
  · exact e ▸ pl_int
  rcases List.mem_cons.mp hx with e | hx
  · exact e ▸ pl_int
  · rw [List.mem_singleton.mp hx]
    exact h
theorem bad_no {D : PyData} : (∀ x ∈ ([.none, .tuple [], .tuple [.str "ask", .tuple [.int 0]], .tuple [.str "say", .list [.int 0]], .tuple [.str "marks", .int 1, .int 0, D], .int 7, .str "say", .tuple [.str "toss", .tuple []],
    .tuple [.str "look", .int 0, .tuple [.str "say", .tuple []], .tuple [.str "say", .tuple [.str "2"]]]] : List PyData), brOk x = false) := by
  have hp : ∀ x : PyData, madeD x = false → looksOk x = false → brOk x = false := fun x h1 h2 => by
    unfold brOk
    rw [chk_plain h1]
    unfold plainOk
    rw [okN_looks h2]
    rfl
  intro x hx
  rcases List.mem_cons.mp hx with e | hx
  · rw [e]; exact hp _ rfl rfl
  rcases List.mem_cons.mp hx with e | hx
  · rw [e]; exact hp _ rfl rfl
  rcases List.mem_cons.mp hx with e | hx
  · rw [e]; exact hp _ (by show madeZ "ask" = false; decide) (by rw [looks_ask]; rfl)
  rcases List.mem_cons.mp hx with e | hx
  · rw [e]; exact hp _ (by show madeZ "say" = false; decide) (by rw [looks_say]; rfl)
  rcases List.mem_cons.mp hx with e | hx
  · rw [e]
    unfold brOk
    rw [chk_succ (show madeD _ = true from (by show madeZ "marks" = true; decide))]
    have : fitsD (.tuple [.str "marks", .int 1, .int 0, D]) = false := by
      show (whole (.int 1) 1 40 && (whole (.int 0) 1 40 && true)) = false
      decide
    rw [this, Bool.false_and]
  rcases List.mem_cons.mp hx with e | hx
  · rw [e]; exact hp _ rfl rfl
  rcases List.mem_cons.mp hx with e | hx
  · rw [e]; exact hp _ rfl rfl
  rcases List.mem_cons.mp hx with e | hx
  · rw [e]; exact hp _ (by show madeZ "toss" = false; decide) (by rw [looks_toss]; rfl)
  rw [List.mem_singleton.mp hx]
  have hs : okN 59 (.tuple [.str "say", .tuple [.str "2"]]) = false := okN_looks (by rw [looks_say]; decide)
  unfold brOk
  rw [chk_plain (show madeD _ = false from (by show madeZ "look" = false; decide))]
  unfold plainOk
  have : okN 60 (.tuple [.str "look", .int 0, .tuple [.str "say", .tuple []], .tuple [.str "say", .tuple [.str "2"]]]) = false := by
    show (looksOk _ && (kidsD _).all (okN 59)) = false
    rw [kids_look]
    show (_ && (okN 59 _ && (okN 59 (.tuple [.str "say", .tuple [.str "2"]]) && true))) = false
    rw [hs]
    simp
  rw [this, Bool.false_and]
/-- a new tuple: the hand, what stood, what it is -/
theorem mkT {K : PySem.W.Frag} {a d p : Addr} {H : Hp} {vs : List V} {ds : List PyData} (hh : Hnd H a d) (np : H p = none) (h : DpAll K (off a H) vs ds) :
    Hnd (upd H p (.tup vs)) a d ∧ Keep a H (upd H p (.tup vs)) ∧ Dp K (off a (upd H p (.tup vs))) (.ref p) (.tuple ds) :=
  ⟨hh.new np, Keep.new np, dp_new (hh.ne np).1 upd_same (dps_same (Keep.new (a := a) np).off _ h)⟩
theorem mkLs {a d p : Addr} {H : Hp} {vs : List V} (hh : Hnd H a d) (np : H p = none) : Hnd (upd H p (.lst vs)) a d ∧ Keep a H (upd H p (.lst vs)) ∧ upd H p (.lst vs) p = some (.lst vs) ∧ p ≠ a := ⟨hh.new np, Keep.new np, upd_same, (hh.ne np).1⟩

/-- how the law looks at a made one -/
def mgB (z : Str) (r : List PyData) : Bool := madeZ z && (!r.isEmpty && (fitZ z r.dropLast && (if z = "onetime" then plainOk (lastD (.tuple (.str z :: r))) else true)))
def spMG (K : PySem.W.Frag) : Sp := fun vs H Q _ => ∃ (v : V) (z : Str) (r : List PyData) (n : Nat), vs = [v] ∧ Dp K H v (.tuple (.str z :: r)) ∧ Gd n (.tuple (.str z :: r)) ∧ ∀ H', Same H H' → Q (.bl (mgB z r)) H'
def L7 : List (Str × Nat) := [("marks", 4), ("secrets", 4), ("once", 3), ("cut", 3), ("next", 3), ("guess", 3), ("bit", 2)]
theorem numsRep : ∀ (n : Nat) (ds : List PyData), numsOk ds (List.replicate n (1, 40)) = (decide (ds.length = n) && ds.all (fun d => whole d 1 40))
  | 0, [] => rfl
  | 0, _ :: _ => rfl
  | n + 1, [] => by
    rw [List.replicate_succ]
    rfl
  | n + 1, d :: ds => by
    rw [List.replicate_succ]
    show (whole d 1 40 && numsOk ds (List.replicate n (1, 40))) = (decide (ds.length + 1 = n + 1) && (whole d 1 40 && ds.all (fun d => whole d 1 40)))
    rw [numsRep n ds]
    have : decide (ds.length + 1 = n + 1) = decide (ds.length = n) := decide_eq_decide.mpr (by omega)
    rw [this]
    cases whole d 1 40 <;> cases decide (ds.length = n) <;> rfl
theorem l7_facts : ∀ p ∈ L7, p.1 ∈ numK ∧ 2 ≤ p.2 ∧ numOf p.1 = List.replicate (p.2 - 2) (1, 40) ∧ p.1 ≠ "onetime" ∧ p.1 ≠ "counter" := by decide
theorem mg_l7 {z : Str} {s : Nat} {r : List PyData} (h : (z, s) ∈ L7) : mgB z r = (decide (r.length + 1 = s) && r.dropLast.all (fun d => whole d 1 40)) := by
  obtain ⟨h1, h2, h3, h4, h5⟩ := l7_facts _ h
  dsimp only at h1 h2 h3 h4
  unfold mgB fitZ madeZ
  rw [if_neg h4, if_pos h1, h3, numsRep, decide_eq_true h1, Bool.true_or, Bool.true_and, Bool.and_true]
  cases r with
  | nil =>
    rw [decide_eq_false (show ¬ ([] : List PyData).length + 1 = s by show ¬ 0 + 1 = s; omega)]
    rfl
  | cons x r =>
    show (true && (decide ((x :: r).dropLast.length = s - 2) && _)) = _
    rw [Bool.true_and]
    congr 1
    apply decide_eq_decide.mpr
    rw [List.length_dropLast, List.length_cons]
    omega
theorem last_one {z : Str} {r : List PyData} (h : r ≠ []) : lastD (.tuple (.str z :: r)) = r.getLastD .none := by
  obtain ⟨ys, x, e⟩ : ∃ ys x, r = ys ++ [x] := by
    rcases snoc_cases r with e | e
    · exact absurd e h
    · exact e
  subst e
  show (.str z :: (ys ++ [x])).getLastD .none = (ys ++ [x]).getLastD .none
  rw [List.getLastD_eq_getLast?, List.getLastD_eq_getLast?, ← List.cons_append, List.getLast?_concat, List.getLast?_concat]
theorem plain_str (x : Str) : plainOk (.str x) = false := by
  unfold plainOk
  rw [okN_looks (d := .str x) rfl]
  rfl
theorem plain_made {d : PyData} (h : plainOk d = true) : madeD d = false := by
  unfold plainOk at h
  rw [Bool.and_eq_true] at h
  exact okN_plainD h.1
theorem chk_str (n : Nat) (x : Str) : chk n (.str x) = false := by
  rw [chk_plain (d := .str x) rfl]
  exact plain_str x
/-- the law's way and the program's way -/
theorem chk_law {n : Nat} {z : Str} {r : List PyData} (hz : madeZ z = true) : chk (n + 1) (.tuple (.str z :: r)) = (mgB z r && chk n (lastD (.tuple (.str z :: r)))) := by
  have hm : madeD (.tuple (.str z :: r)) = true := hz
  have hf : fitsD (.tuple (.str z :: r)) = fitZ z r.dropLast := rfl
  rw [chk_succ hm, hf, head_str]
  unfold mgB
  rw [hz, Bool.true_and]
  cases r with
  | nil =>
    have hl : lastD (.tuple [.str z]) = .str z := rfl
    rw [hl, chk_str]
    simp
  | cons x r =>
    show _ = ((true && _) && _)
    rw [Bool.true_and]
    by_cases c : z = "onetime"
    · rw [decide_eq_true c, if_pos c, Bool.true_and]
      generalize lastD (.tuple (.str z :: x :: r)) = l
      cases cp : plainOk l with
      | true =>
        rw [plain_made cp, chk_plain (plain_made cp), cp]
        simp
      | false =>
        cases cm : madeD l with
        | true => simp
        | false =>
          rw [chk_plain cm, cp]
          simp
    · rw [decide_eq_false c, if_neg c]
      simp
theorem chk_no {n : Nat} {d : PyData} (h : madeD d = false) (h2 : looksOk d = false) : chk n d = false := by
  rw [chk_plain h]
  unfold plainOk
  rw [okN_looks h2]
  rfl
theorem chk_four {n : Nat} {z : Str} {r : List PyData} (h : z = "say" ∨ z = "toss" ∨ z = "look" ∨ z = "ask") : chk n (.tuple (.str z :: r)) = plainOk (.tuple (.str z :: r)) := chk_plain (show madeZ z = false by rcases h with rfl | rfl | rfl | rfl <;> decide)
theorem looks_other {z : Str} {r : List PyData} (h : ¬ (z = "say" ∨ z = "toss" ∨ z = "look" ∨ z = "ask")) : looksOk (.tuple (.str z :: r)) = false := by
  refine look_z (fun e => absurd (.inl e) h) (fun e => absurd (.inr (.inl e)) h) (fun e => absurd (.inr (.inr (.inl e))) h) (fun e => absurd (.inr (.inr (.inr e))) h)
theorem mg_notmade {z : Str} {r : List PyData} (h : madeZ z = false) : mgB z r = false := by
  unfold mgB
  rw [h, Bool.false_and]
def cntB : List PyData → Bool
  | [l, c, m, _] => whole l 1 40 && (whole c 1 256 && whole m 1 40)
  | _ => false
def hardB : List PyData → Bool
  | [x, _] => whole x 1 10
  | _ => false
def openB : List PyData → Bool
  | [x, _] => fitOpening [x]
  | _ => false
def lngB : List PyData → Bool
  | [g, k, _] => genOk g && (genNext g && whole k 1 20)
  | _ => false
def oneB : List PyData → Bool
  | [g, k, x] => genOk g && (whole k 1 4 && plainOk x)
  | _ => false
def treB : List PyData → Bool
  | [g, k, q, _] => genOk g && genTwice k q g
  | _ => false
theorem cntB_no {r : List PyData} (h : r.length ≠ 4) : cntB r = false := by
  unfold cntB
  split
  · exact absurd rfl h
  · rfl
theorem hardB_no {r : List PyData} (h : r.length ≠ 2) : hardB r = false := by
  unfold hardB
  split
  · exact absurd rfl h
  · rfl
theorem openB_no {r : List PyData} (h : r.length ≠ 2) : openB r = false := by
  unfold openB
  split
  · exact absurd rfl h
  · rfl
theorem lngB_no {r : List PyData} (h : r.length ≠ 3) : lngB r = false := by
  unfold lngB
  split
  · exact absurd rfl h
  · rfl
theorem oneB_no {r : List PyData} (h : r.length ≠ 3) : oneB r = false := by
  unfold oneB
  split
  · exact absurd rfl h
  · rfl
theorem treB_no {r : List PyData} (h : r.length ≠ 4) : treB r = false := by
  unfold treB
  split
  · exact absurd rfl h
  · rfl
theorem mg_fit {z : Str} {r : List PyData} (h : fitZ z r.dropLast = false) : mgB z r = false := by
  unfold mgB
  rw [h]
  simp
theorem mg_nil {z : Str} : mgB z [] = false := by
  unfold mgB
  simp
theorem mg_hard {r : List PyData} : mgB "hard" r = hardB r := by
  by_cases h : r.length = 2
  · match r, h with
    | [x, y], _ =>
      show (true && ((whole x 1 10 && true) && true)) = whole x 1 10
      simp
  · rw [hardB_no h]
    by_cases h0 : r = []
    · rw [h0, mg_nil]
    · refine mg_fit ?_
      show numsOk r.dropLast [(1, 10)] = false
      have := List.length_pos_iff.mpr h0
      exact nums_len (by rw [List.length_dropLast]; show r.length - 1 ≠ 1; omega)
theorem mg_counter {r : List PyData} : mgB "counter" r = cntB r := by
  by_cases h : r.length = 4
  · match r, h with
    | [x, y, w, t], _ =>
      show (true && ((whole x 1 40 && (whole y 1 256 && (whole w 1 40 && true))) && true)) = (whole x 1 40 && (whole y 1 256 && whole w 1 40))
      simp
  · rw [cntB_no h]
    by_cases h0 : r = []
    · rw [h0, mg_nil]
    · refine mg_fit ?_
      show numsOk r.dropLast [(1, 40), (1, 256), (1, 40)] = false
      have := List.length_pos_iff.mpr h0
      exact nums_len (by rw [List.length_dropLast]; show r.length - 1 ≠ 3; omega)
theorem mg_opening {r : List PyData} : mgB "opening" r = openB r := by
  by_cases h : r.length = 2
  · match r, h with
    | [x, y], _ =>
      show (true && (fitOpening [x] && true)) = fitOpening [x]
      simp
  · rw [openB_no h]
    by_cases h0 : r = []
    · rw [h0, mg_nil]
    · have := List.length_pos_iff.mpr h0
      exact mg_fit (fitOpening_no (by rw [List.length_dropLast]; omega))
theorem mg_longer {r : List PyData} : mgB "longer" r = lngB r := by
  by_cases h : r.length = 3
  · match r, h with
    | [x, y, w], _ =>
      show (true && ((genOk x && (genNext x && whole y 1 20)) && true)) = (genOk x && (genNext x && whole y 1 20))
      simp
  · rw [lngB_no h]
    by_cases h0 : r = []
    · rw [h0, mg_nil]
    · have := List.length_pos_iff.mpr h0
      exact mg_fit (fitLonger_no (by rw [List.length_dropLast]; omega))
theorem mg_onetime {r : List PyData} : mgB "onetime" r = oneB r := by
  by_cases h : r.length = 3
  · match r, h with
    | [x, y, w], _ =>
      show (true && ((genOk x && whole y 1 4) && plainOk w)) = (genOk x && (whole y 1 4 && plainOk w))
      rw [Bool.true_and, Bool.and_assoc]
  · rw [oneB_no h]
    by_cases h0 : r = []
    · rw [h0, mg_nil]
    · have := List.length_pos_iff.mpr h0
      exact mg_fit (fitOnetime_no (by rw [List.length_dropLast]; omega))
theorem mg_tree {r : List PyData} : mgB "tree" r = treB r := by
  by_cases h : r.length = 4
  · match r, h with
    | [x, y, w, t], _ =>
      show (true && ((genOk x && genTwice y w x) && true)) = (genOk x && genTwice y w x)
      simp
  · rw [treB_no h]
    by_cases h0 : r = []
    · rw [h0, mg_nil]
    · have := List.length_pos_iff.mpr h0
      exact mg_fit (fitTree_no (by rw [List.length_dropLast]; omega))
theorem mg_three {z : Str} {r : List PyData} (h : z = "longer" ∨ z = "tree" ∨ z = "onetime") (h2 : r.length < 3) : mgB z r = false := by
  rcases h with rfl | rfl | rfl
  · rw [mg_longer, lngB_no (by omega)]
  · rw [mg_tree, treB_no (by omega)]
  · rw [mg_onetime, oneB_no (by omega)]
theorem mg_gen {z : Str} {g : PyData} {r : List PyData} (h : z = "longer" ∨ z = "tree" ∨ z = "onetime") (h2 : genOk g = false) : mgB z (g :: r) = false := by
  rcases h with rfl | rfl | rfl
  · rw [mg_longer]
    match r with
    | [] => rfl
    | [x] => rfl
    | [x, y] =>
      show (genOk g && _) = false
      rw [h2, Bool.false_and]
    | x :: y :: w :: t => rfl
  · rw [mg_tree]
    match r with
    | [] => rfl
    | [x] => rfl
    | [x, y] => rfl
    | [x, y, w] =>
      show (genOk g && _) = false
      rw [h2, Bool.false_and]
    | x :: y :: w :: t :: u => rfl
  · rw [mg_onetime]
    match r with
    | [] => rfl
    | [x] => rfl
    | [x, y] =>
      show (genOk g && _) = false
      rw [h2, Bool.false_and]
    | x :: y :: w :: t => rfl
theorem blk_no {g : PyData} (h : blockOk g = false) : genOk g = false := by
  unfold blockOk at h
  exact (Bool.or_eq_false_iff.mp h).1
theorem madeZ_cases {z : Str} (h : madeZ z = true) : z = "counter" ∨ (∃ s, (z, s) ∈ L7) ∨ z = "hard" ∨ z = "opening" ∨ z = "longer" ∨ z = "tree" ∨ z = "onetime" := by
  unfold madeZ at h
  rcases Bool.or_eq_true_iff.mp h with h | h
  · have h := of_decide_eq_true h
    unfold numK at h
    simp only [List.mem_cons, List.mem_nil_iff, or_false] at h
    rcases h with rfl | rfl | rfl | rfl | rfl | rfl | rfl | rfl | rfl
    · exact .inr (.inl ⟨4, by decide⟩)
    · exact .inr (.inl ⟨4, by decide⟩)
    · exact .inr (.inl ⟨3, by decide⟩)
    · exact .inl rfl
    · exact .inr (.inl ⟨3, by decide⟩)
    · exact .inr (.inl ⟨3, by decide⟩)
    · exact .inr (.inl ⟨3, by decide⟩)
    · exact .inr (.inl ⟨2, by decide⟩)
    · exact .inr (.inr (.inl rfl))
  · have h := of_decide_eq_true h
    unfold fitK at h
    simp only [List.mem_cons, List.mem_nil_iff, or_false] at h
    rcases h with rfl | rfl | rfl | rfl
    · exact .inr (.inr (.inr (.inr (.inl rfl))))
    · exact .inr (.inr (.inr (.inr (.inr (.inl rfl)))))
    · exact .inr (.inr (.inr (.inl rfl)))
    · exact .inr (.inr (.inr (.inr (.inr (.inr rfl)))))
theorem gen_notfun {g : PyData} (h : blockOk g = true) : ∃ k t, g = .tuple (k :: t) ∧ genOk g = named "generator" k := by
  unfold blockOk at h
  rcases Bool.or_eq_true_iff.mp h with h | h
  · obtain ⟨n, m, rows, rfl, wf⟩ := gen_wf h
    refine ⟨_, _, rfl, ?_⟩
    rw [h, named_str, decide_eq_true rfl]
  · unfold funOk at h
    split at h
    · rename_i k n l m t _
      simp only [Bool.and_eq_true] at h
      refine ⟨k, _, rfl, ?_⟩
      have hk := named_eq h.1.1.1.1.1
      rw [hk, named_str]
      rfl
    · cases h

section
variable {P : Program} {w : World} {K : PySem.W.Frag} {mg : Str → Option Value} {base : Heap} {cs : Cs}
theorem ok_madegood {f : Addr} {fd : FuncData} (D : Df K mg "_law_made_good" s_law_made_good ["value"] f fd) (T : Txt K w mg cs) (c_law_within : Cl P w K mg base CX0 1 "_law_within" (spWithin K)) (c_law_is_bits : Cl P w K mg base CX0 1 "_law_is_bits" (spIsBits K)) (c_law_block_good : Cl P w K mg base CX0 3 "_law_block_good" (spGood K))
    (c_law_plain_good : Cl P w K mg base CX0 4 "_law_plain_good" (spD K plainOk)) : FnOk P w K mg base CX0 5 f fd ["value"] (spMG K) := by
  refine D.fn.ok sc_law_made_good (fun vs H Q E h => ?_) (fun cdv A outer s H vs Q E hr h => ?_)
  · obtain ⟨v, z, r, n, rfl, _⟩ := h
    rfl
  · obtain ⟨v, z, r, n, rfl, hd, hg, q⟩ := h
    refine ⟨_, (pss_cons (ps_set (i := 1) sc_law_made_good.nd rfl (.inl rfl) (pe_ix (ixT K) (pv 0) pe_int (fun _ _ => rfl))) (pss_cons (ps_if (pt_cmpR op_eq (pv 1) pe_str (nomark _)) (pss_cons (ps_if (PW.pt (pw_or (pt_cmpR op_ne (pe_callB (lenS K) (by rfl) T.n_len (by decide +kernel) (pa_cons (pv 0) pa_nil)) pe_int (nomark _)) (pw_or (pt_not (pt_val (pe_cl c_law_within hr (by first | decide | omega) (by rfl) (pa_cons (pe_ix (ixT K) (pv 0) pe_int (fun _ _ => rfl)) (pa_cons pe_int (pa_cons pe_int pa_nil)))))) (pw_or1 (pt_not (pt_val (pe_cl c_law_within hr (by first | decide | omega) (by rfl) (pa_cons (pe_ix (ixT K) (pv 0) pe_int (fun _ _ => rfl)) (pa_cons pe_int (pa_cons pe_int pa_nil)))))))))) (pss_one (ps_ret pe_bl)) pss_nil) (pss_one (ps_ret (pe_cl c_law_within hr (by first | decide | omega) (by rfl) (pa_cons (pe_ix (ixT K) (pv 0) pe_int (fun _ _ => rfl)) (pa_cons pe_int (pa_cons pe_int pa_nil))))))) pss_nil) (pss_cons (ps_for PassesOwn.never rfl (pi_list (pe_lst (pa_cons (pe_tup (pa_cons pe_str (pa_cons pe_int pa_nil))) (pa_cons (pe_tup (pa_cons pe_str (pa_cons pe_int pa_nil))) (pa_cons (pe_tup (pa_cons pe_str (pa_cons pe_int pa_nil))) (pa_cons (pe_tup (pa_cons pe_str (pa_cons pe_int pa_nil))) (pa_cons (pe_tup (pa_cons pe_str (pa_cons pe_int pa_nil))) (pa_cons (pe_tup (pa_cons pe_str (pa_cons pe_int pa_nil))) (pa_cons (pe_tup (pa_cons pe_str (pa_cons pe_int pa_nil))) pa_nil))))))))) (pg_tup (by rfl) (pgs_cons (pg_name (i := 2) sc_law_made_good.nd rfl (.inl rfl)) (pgs_cons (pg_name (i := 3) sc_law_made_good.nd rfl (.inl rfl)) pgs_nil))) (pss_one (ps_if (pt_cmpR op_eq (pv 1) (pv 2) (nomark _)) (pss_cons (ps_if (pt_cmpR op_ne (pe_callB (lenS K) (by rfl) T.n_len (by decide +kernel) (pa_cons (pv 0) pa_nil)) (pv 3) (nomark _)) (pss_one (ps_ret pe_bl)) pss_nil) (pss_cons (ps_for PassesOwn.never rfl (pi_tup (pe_slice (slTA K) (pv 0) (po_some pe_int) (po_some (pe_un un_neg pe_int)))) (pg_name (i := 4) sc_law_made_good.nd rfl (.inl rfl)) (pss_one (ps_if (pt_not (pt_val (pe_cl c_law_within hr (by first | decide | omega) (by rfl) (pa_cons (pv 4) (pa_cons pe_int (pa_cons pe_int pa_nil)))))) (pss_one (ps_ret pe_bl)) pss_nil))) (pss_one (ps_ret pe_bl)))) pss_nil))) (pss_cons (ps_if (pt_cmpR op_eq (pv 1) pe_str (nomark _)) (pss_one (ps_ret (pe_and (pe_cmpR op_eq (pe_callB (lenS K) (by rfl) T.n_len (by decide +kernel) (pa_cons (pv 0) pa_nil)) pe_int (nomark _)) (pe_one (pe_cl c_law_within hr (by first | decide | omega) (by rfl) (pa_cons (pe_ix (ixT K) (pv 0) pe_int (fun _ _ => rfl)) (pa_cons pe_int (pa_cons pe_int pa_nil)))))))) pss_nil) (pss_cons (ps_if (pt_cmpR op_eq (pv 1) pe_str (nomark _)) (pss_one (ps_ret (pe_and (pe_cmpR op_eq (pe_callB (lenS K) (by rfl) T.n_len (by decide +kernel) (pa_cons (pv 0) pa_nil)) pe_int (nomark _)) (pe_and (pe_callB (isiK K) (by rfl) T.n_isinstance (by decide +kernel) (pa_cons (pe_ix (ixT K) (pv 0) pe_int (fun _ _ => rfl)) (pa_cons (pe_ty "str" (by rfl) T.n_str (by decide +kernel)) pa_nil))) (pe_and (pe_cmpR op_gt (pe_callB call_len_str (by rfl) T.n_len (by decide +kernel) (pa_cons (pe_ix (ixT K) (pv 0) pe_int (fun _ _ => rfl)) pa_nil)) pe_int (nomark _)) (pe_and (pe_cmpR op_lt (pe_callB call_len_str (by rfl) T.n_len (by decide +kernel) (pa_cons (pe_ix (ixT K) (pv 0) pe_int (fun _ _ => rfl)) pa_nil)) pe_int (nomark _)) (pe_one (pe_cl c_law_is_bits hr (by first | decide | omega) (by rfl) (pa_cons (pe_ix (ixT K) (pv 0) pe_int (fun _ _ => rfl)) (pa_cons (pe_callB call_len_str (by rfl) T.n_len (by decide +kernel) (pa_cons (pe_ix (ixT K) (pv 0) pe_int (fun _ _ => rfl)) pa_nil)) pa_nil)))))))))) pss_nil) (pss_cons (ps_if (PW.pt (pw_or (pt_cmpR op_notIn_seq (pv 1) (pe_lst (pa_cons pe_str (pa_cons pe_str (pa_cons pe_str pa_nil)))) (by rfl)) (pw_or (pt_cmpR op_lt (pe_callB (lenS K) (by rfl) T.n_len (by decide +kernel) (pa_cons (pv 0) pa_nil)) pe_int (nomark _)) (pw_or (pt_not (pt_val (pe_cl c_law_block_good hr (by first | decide | omega) (by rfl) (pa_cons (pe_ix (ixT K) (pv 0) pe_int (fun _ _ => rfl)) pa_nil)))) (pw_or1 (pt_cmpR (op_neF K hr.units) (pe_ix (ixT K) (pe_ix (ixT K) (pv 0) pe_int (fun _ _ => rfl)) pe_int (fun _ _ => rfl)) pe_str (nomark _))))))) (pss_one (ps_ret pe_bl)) pss_nil) (pss_cons (ps_asg (pe_slice (slTA K) (pe_ix (ixT K) (pv 0) pe_int (fun _ _ => rfl)) (po_some pe_int) (po_some pe_int)) (pg_tup (by rfl) (pgs_cons (pg_name (i := 5) sc_law_made_good.nd rfl (.inl rfl)) (pgs_cons (pg_name (i := 6) sc_law_made_good.nd rfl (.inl rfl)) pgs_nil)))) (pss_cons (ps_if (pt_cmpR op_eq (pv 1) pe_str (nomark _)) (pss_one (ps_ret (pe_and (pe_cmpR op_eq (pe_callB (lenS K) (by rfl) T.n_len (by decide +kernel) (pa_cons (pv 0) pa_nil)) pe_int (nomark _)) (pe_and (pe_cmpR op_eq (pv 6) (pe_op op_add (pv 5) pe_int) (nomark _)) (pe_one (pe_cl c_law_within hr (by first | decide | omega) (by rfl) (pa_cons (pe_ix (ixT K) (pv 0) pe_int (fun _ _ => rfl)) (pa_cons pe_int (pa_cons pe_int pa_nil))))))))) pss_nil) (pss_cons (ps_if (pt_cmpR op_eq (pv 1) pe_str (nomark _)) (pss_one (ps_ret (pe_and (pe_cmpR op_eq (pe_callB (lenS K) (by rfl) T.n_len (by decide +kernel) (pa_cons (pv 0) pa_nil)) pe_int (nomark _)) (pe_and (pe_cl c_law_within hr (by first | decide | omega) (by rfl) (pa_cons (pe_ix (ixT K) (pv 0) pe_int (fun _ _ => rfl)) (pa_cons pe_int (pa_cons pe_int pa_nil)))) (pe_one (pe_cl c_law_plain_good hr (by first | decide | omega) (by rfl) (pa_cons (pe_ix (ixT K) (pv 0) pe_int (fun _ _ => rfl)) pa_nil))))))) pss_nil) (pss_cons (ps_if (PW.pt (pw_or (pt_cmpR op_ne (pe_callB (lenS K) (by rfl) T.n_len (by decide +kernel) (pa_cons (pv 0) pa_nil)) pe_int (nomark _)) (pw_or (pt_cmpR op_ne (pv 6) (pe_op op_mul pe_int (pv 5)) (nomark _)) (pw_or (pt_cmpR op_gt (pv 5) pe_int (nomark _)) (pw_or (pt_not (pt_val (pe_cl c_law_within hr (by first | decide | omega) (by rfl) (pa_cons (pe_ix (ixT K) (pv 0) pe_int (fun _ _ => rfl)) (pa_cons pe_int (pa_cons pe_int pa_nil)))))) (pw_or1 (pt_cmpR op_gt (pe_op op_add (pv 5) (pe_ix (ixT K) (pv 0) pe_int (fun _ _ => rfl))) pe_int (nomark _)))))))) (pss_one (ps_ret pe_bl)) pss_nil) (pss_one (ps_ret (pe_cl c_law_within hr (by first | decide | omega) (by rfl) (pa_cons (pe_ix (ixT K) (pv 0) pe_int (fun _ _ => rfl)) (pa_cons pe_int (pa_cons pe_int pa_nil)))))))))))))))), ?_⟩
    cases hd with
    | @tup a ws _ hT hA =>
    obtain ⟨v0, vr, rfl, h0, hr'⟩ := dp_cons hA
    cases h0
    obtain ⟨_, n', rfl, hx⟩ := gd_tup hg
    have gr : ∀ x ∈ r, Gd n' x := fun x h => hx x (List.mem_cons_of_mem _ h)
    have hlr := dp_all_len hr'
    have lenE : ∀ m : Nat, (vr.length = m → decide (V.int (((V.str z :: vr).length : Nat) : Int) = V.int ((m + 1 : Nat) : Int)) = true) ∧ (vr.length ≠ m → decide (V.int (((V.str z :: vr).length : Nat) : Int) = V.int ((m + 1 : Nat) : Int)) = false) := fun m =>
      ⟨fun h => decide_eq_true (congrArg V.int (by rw [List.length_cons, h])), fun h => decide_eq_false fun e => h (by have := V.int.inj e; rw [List.length_cons] at this; omega)⟩
    have nameE : ∀ x : Str, (z = x → decide (V.str z = V.str x) = true) ∧ (z ≠ x → decide (V.str z = V.str x) = false) := fun x => ⟨fun h => decide_eq_true (congrArg V.str h), fun h => decide_eq_false fun e => h (V.str.inj e)⟩
    refine ⟨_, rfl, a, _, 0, .str z, rfl, rfl, hT, at_zero, ?_⟩
    -- counter
    refine ⟨_, rfl, rfl, _, rfl, ?_⟩
    by_cases c1 : z = "counter"
    · rw [(nameE _).1 c1]
      subst c1
      have q0 := q H (Same.refl H)
      rw [mg_counter] at q0
      refine ⟨_, rfl, a, _, rfl, .inr hT, rfl, _, rfl, ?_⟩
      by_cases c2 : vr.length = 4
      · have ee := (lenE 4).1 c2
        obtain ⟨u0, u1, u2, u3, d0, d1, d2, d3, rfl, rfl, p0, p1, p2, p3⟩ := dp4 hr' c2
        rw [show decide (V.int ((([V.str "counter", u0, u1, u2, u3] : List V).length : Nat) : Int) = V.int 5) = true from ee]
        replace q0 : Q (.bl (whole d0 1 40 && (whole d1 1 256 && whole d2 1 40))) H := q0
        refine ⟨_, rfl, a, _, 1, u0, rfl, rfl, hT, rfl, u0, d0, 1, 40, rfl, p0, _, rfl, ?_⟩
        cases w0 : whole d0 1 40 with
        | false =>
          rw [w0] at q0
          exact q0
        | true =>
          rw [w0, Bool.true_and] at q0
          refine ⟨_, rfl, a, _, 3, u2, rfl, rfl, hT, rfl, u2, d2, 1, 40, rfl, p2, _, rfl, ?_⟩
          cases w2 : whole d2 1 40 with
          | false =>
            rw [w2, Bool.and_false] at q0
            exact q0
          | true =>
            rw [w2, Bool.and_true] at q0
            exact ⟨_, rfl, a, _, 2, u1, rfl, rfl, hT, rfl, u1, d1, 1, 256, rfl, p1, q0⟩
      · rw [show decide (V.int (((V.str "counter" :: vr).length : Nat) : Int) = V.int 5) = false from (lenE 4).2 c2]
        rw [cntB_no (by omega)] at q0
        exact q0
    rw [(nameE _).2 c1]
    -- the seven
    refine ⟨(by show 2 ≤ sizeLine; decide), fun t1 nt1 => ⟨(by show 2 ≤ sizeLine; decide), fun t2 nt2 => ⟨(by show 2 ≤ sizeLine; decide), fun t3 nt3 => ⟨(by show 2 ≤ sizeLine; decide), fun t4 nt4 => ⟨(by show 2 ≤ sizeLine; decide), fun t5 nt5 => ⟨(by show 2 ≤ sizeLine; decide), fun t6 nt6 => ⟨(by show 2 ≤ sizeLine; decide), fun t7 nt7 => ⟨(by show 7 ≤ sizeLine; decide), fun L nL => ?_⟩⟩⟩⟩⟩⟩⟩⟩
    have x1 := same_new (o := .tup [.str "marks", .int 4]) nt1
    have x2 := same_new (o := .tup [.str "secrets", .int 4]) nt2
    have x3 := same_new (o := .tup [.str "once", .int 3]) nt3
    have x4 := same_new (o := .tup [.str "cut", .int 3]) nt4
    have x5 := same_new (o := .tup [.str "next", .int 3]) nt5
    have x6 := same_new (o := .tup [.str "guess", .int 3]) nt6
    have x7 := same_new (o := .tup [.str "bit", .int 2]) nt7
    have xL := same_new (o := .lst [.ref t1, .ref t2, .ref t3, .ref t4, .ref t5, .ref t6, .ref t7]) nL
    obtain ⟨ts, hts, hent⟩ : ∃ ts : List Addr, ts = [t1, t2, t3, t4, t5, t6, t7] ∧ ∀ (i : Nat) (t : Addr), ts[i]? = some t → ∃ p, L7[i]? = some p ∧ upd (upd (upd (upd (upd (upd (upd (upd H t1 (.tup [.str "marks", .int 4])) t2 (.tup [.str "secrets", .int 4])) t3 (.tup [.str "once", .int 3])) t4 (.tup [.str "cut", .int 3])) t5 (.tup [.str "next", .int 3])) t6 (.tup [.str "guess", .int 3])) t7 (.tup [.str "bit", .int 2]))
        L (.lst [.ref t1, .ref t2, .ref t3, .ref t4, .ref t5, .ref t6, .ref t7]) t = some (.tup [.str p.1, .int ((p.2 : Nat) : Int)]) := by
      refine ⟨_, rfl, fun i t ht => ?_⟩
      match i, ht with
      | 0, ht => cases ht; exact ⟨_, rfl, ((((((x2.trans x3).trans x4).trans x5).trans x6).trans x7).trans xL) _ _ upd_same⟩
      | 1, ht => cases ht; exact ⟨_, rfl, (((((x3.trans x4).trans x5).trans x6).trans x7).trans xL) _ _ upd_same⟩
      | 2, ht => cases ht; exact ⟨_, rfl, ((((x4.trans x5).trans x6).trans x7).trans xL) _ _ upd_same⟩
      | 3, ht => cases ht; exact ⟨_, rfl, (((x5.trans x6).trans x7).trans xL) _ _ upd_same⟩
      | 4, ht => cases ht; exact ⟨_, rfl, ((x6.trans x7).trans xL) _ _ upd_same⟩
      | 5, ht => cases ht; exact ⟨_, rfl, (x7.trans xL) _ _ upd_same⟩
      | 6, ht => cases ht; exact ⟨_, rfl, xL _ _ upd_same⟩
      | k + 7, ht => cases ht
    have s0 := ((((((x1.trans x2).trans x3).trans x4).trans x5).trans x6).trans x7).trans xL
    have eL : upd (upd (upd (upd (upd (upd (upd (upd H t1 (.tup [.str "marks", .int 4])) t2 (.tup [.str "secrets", .int 4])) t3 (.tup [.str "once", .int 3])) t4 (.tup [.str "cut", .int 3])) t5 (.tup [.str "next", .int 3])) t6 (.tup [.str "guess", .int 3])) t7 (.tup [.str "bit", .int 2]))
        L (.lst [.ref t1, .ref t2, .ref t3, .ref t4, .ref t5, .ref t6, .ref t7]) L = some (.lst (ts.map V.ref)) := by
      rw [hts]
      exact upd_same
    generalize upd (upd (upd (upd (upd (upd (upd (upd H t1 (.tup [.str "marks", .int 4])) t2 (.tup [.str "secrets", .int 4])) t3 (.tup [.str "once", .int 3])) t4 (.tup [.str "cut", .int 3])) t5 (.tup [.str "next", .int 3])) t6 (.tup [.str "guess", .int 3])) t7 (.tup [.str "bit", .int 2]))
        L (.lst [.ref t1, .ref t2, .ref t3, .ref t4, .ref t5, .ref t6, .ref t7]) = H1 at hent s0 eL
    clear x1 x2 x3 x4 x5 x6 x7 xL nt1 nt2 nt3 nt4 nt5 nt6 nt7 nL
    have htl : ts.length = 7 := by rw [hts]; rfl
    clear hts
    refine ⟨L, rfl, ⟨_, .inl (.inl eL)⟩, for_list (xs := ts.map V.ref) (fun i σ H' => ∃ y2 y3 y4 y5 y6 : Option V, σ = [some (.ref a), some (.str z), y2, y3, y4, y5, y6] ∧ Same H1 H' ∧ ∀ p ∈ L7.take i, z ≠ p.1) ?_ ?_ ?_ ?_⟩
    · exact ⟨none, none, none, none, none, rfl, Same.refl H1, fun p hp => (by rw [List.take_zero] at hp; cases hp)⟩
    · rintro i σ H' _ ⟨_, _, _, _, _, _, s1, _⟩
      exact .inl (.inl (s1 _ _ eL))
    · rintro i x σ H2 hxi ⟨y2, y3, y4, y5, y6, rfl, s1, hno⟩
      obtain ⟨t, ht, rfl⟩ : ∃ t, ts[i]? = some t ∧ V.ref t = x := by
        rw [List.getElem?_map] at hxi
        cases e : ts[i]? with
        | none =>
          rw [e] at hxi
          cases hxi
        | some t =>
          rw [e] at hxi
          exact ⟨t, rfl, Option.some.inj hxi⟩
      obtain ⟨⟨nm, sz⟩, hp, et⟩ := hent i t ht
      have s01 := s0.trans s1
      refine ⟨t, _, rfl, .inl (.inl (s1 _ _ et)), rfl, _, _, rfl, _, _, rfl, rfl, ?_⟩
      refine ⟨_, rfl, _, rfl, rfl, _, rfl, ?_⟩
      by_cases c2 : z = nm
      · rw [(nameE _).1 c2]
        subst c2
        have hmem : (z, sz) ∈ L7 := List.mem_of_getElem? hp
        have hT2 := same_sqt s01 hT
        rw [mg_l7 hmem] at q
        refine ⟨_, rfl, a, _, rfl, .inr hT2, _, rfl, rfl, _, rfl, ?_⟩
        by_cases c3 : r.length + 1 = sz
        · rw [decide_eq_true (show V.int (((V.str z :: vr).length : Nat) : Int) = V.int ((sz : Nat) : Int) by rw [List.length_cons, hlr, c3])]
          rw [decide_eq_true c3, Bool.true_and] at q
          refine ⟨_, rfl, 1, rfl, 1, rfl, -1, rfl, slA_any hT2 fun p H3 s3 hc => ?_⟩
          rw [cut_mid] at hc
          have hAd := dps_last hr'
          have hdl := dp_all_len hAd
          have s03 := s01.trans s3
          refine ⟨p, rfl, ⟨_, hc⟩, for_tup (xs := vr.dropLast) (fun j σ H' => (∃ y4 : Option V, σ = [some (.ref a), some (.str z), some (.str z), some (.int ((sz : Nat) : Int)), y4, y5, y6]) ∧ H' = H3 ∧ (r.dropLast.take j).all (fun d => whole d 1 40) = true) ?_ ?_ ?_ ?_⟩
          · exact ⟨⟨y4, rfl⟩, rfl, rfl⟩
          · rintro j σ H' _ ⟨_, rfl, _⟩
            exact hc
          · rintro j x σ H' hxj ⟨⟨y4, rfl⟩, rfl, ha⟩
            obtain ⟨d, hdi, hdx⟩ := dp_all_get hAd hxj
            have hs := all_snoc hdi ha
            refine ⟨_, rfl, x, d, 1, 40, rfl, dp_same s03 d hdx, _, rfl, ?_⟩
            cases cw : whole d 1 40 with
            | true => exact ⟨⟨_, rfl⟩, rfl, by rw [hs]; exact cw⟩
            | false =>
              have q' := q H' s03
              rw [all_take (i := j + 1) (by rw [hs]; exact cw)] at q'
              exact q'
          · rintro σ H' ⟨⟨y4, rfl⟩, rfl, ha⟩
            rw [hdl, List.take_length] at ha
            have q' := q H' s03
            rw [ha] at q'
            exact q'
        · rw [decide_eq_false (show ¬ V.int (((V.str z :: vr).length : Nat) : Int) = V.int ((sz : Nat) : Int) from fun e => c3 (by have := V.int.inj e; rw [List.length_cons] at this; omega))]
          rw [decide_eq_false c3, Bool.false_and] at q
          exact q H2 s01
      · rw [(nameE _).2 c2]
        refine ⟨_, _, _, _, _, rfl, s1, fun p hp' => ?_⟩
        rw [List.take_add_one, hp] at hp'
        rcases List.mem_append.mp hp' with h | h
        · exact hno p h
        · rw [List.mem_singleton.mp h]
          exact c2
    · rintro σ H2 ⟨y2, y3, y4, y5, y6, rfl, s1, hno⟩
      rw [List.length_map, htl] at hno
      have s01 := s0.trans s1
      have hT2 := same_sqt s01 hT
      have q0 := q H2 s01
      have n7 : ∀ p ∈ L7, z ≠ p.1 := hno
      clear hno hent eL
      -- hard
      refine ⟨_, rfl, rfl, _, rfl, ?_⟩
      by_cases d1 : z = "hard"
      · rw [(nameE _).1 d1]
        subst d1
        rw [mg_hard] at q0
        refine ⟨_, rfl, a, _, rfl, .inr hT2, rfl, _, rfl, ?_⟩
        by_cases c2 : vr.length = 2
        · have ee := (lenE 2).1 c2
          obtain ⟨u0, u1, e0, e1, rfl, rfl, p0, p1⟩ := dp2 hr' c2
          rw [show decide (V.int ((([V.str "hard", u0, u1] : List V).length : Nat) : Int) = V.int 3) = true from ee]
          exact ⟨_, rfl, a, _, 1, u0, rfl, rfl, hT2, rfl, u0, e0, 1, 10, rfl, dp_same s01 e0 p0, q0⟩
        · rw [show decide (V.int (((V.str "hard" :: vr).length : Nat) : Int) = V.int 3) = false from (lenE 2).2 c2]
          rw [hardB_no (by omega)] at q0
          exact q0
      rw [(nameE _).2 d1]
      -- opening
      refine ⟨_, rfl, rfl, _, rfl, ?_⟩
      by_cases d2 : z = "opening"
      · rw [(nameE _).1 d2]
        subst d2
        rw [mg_opening] at q0
        refine ⟨_, rfl, a, _, rfl, .inr hT2, rfl, _, rfl, ?_⟩
        by_cases c2 : vr.length = 2
        · have ee := (lenE 2).1 c2
          obtain ⟨u0, u1, e0, e1, rfl, rfl, p0, p1⟩ := dp2 hr' c2
          rw [show decide (V.int ((([V.str "opening", u0, u1] : List V).length : Nat) : Int) = V.int 3) = true from ee]
          replace q0 : Q (.bl (fitOpening [e0])) H2 := q0
          have g0 := gr e0 List.mem_cons_self
          replace p0 := dp_same s01 e0 p0
          refine ⟨_, rfl, a, _, 1, u0, rfl, rfl, hT2, rfl, _, _, _, _, _, rfl, .ty "str", dp_ty p0, kit_str e0, _, rfl, ?_⟩
          cases e0 with
          | str x =>
            cases p0
            have hz := (gd_str g0).2
            have ef : fitOpening [.str x] = (decide ((1 : Int) ≤ (x.length : Int)) && (decide ((x.length : Int) ≤ 40) && (bitRow (x.length : Int) (.str x) && true))) := rfl
            rw [ef, Bool.and_true] at q0
            refine ⟨_, rfl, a, _, 1, .str x, rfl, rfl, hT2, rfl, x, rfl, by rw [sizeLine_eq]; omega, _, _, rfl, rfl, _, rfl, ?_⟩
            by_cases c3 : (1 : Int) ≤ (x.length : Int)
            · rw [decide_eq_true c3] at q0
              rw [decide_eq_true (show (x.length : Int) > 0 by omega)]
              refine ⟨_, rfl, a, _, 1, .str x, rfl, rfl, hT2, rfl, x, rfl, by rw [sizeLine_eq]; omega, _, _, rfl, rfl, _, rfl, ?_⟩
              by_cases c4 : (x.length : Int) ≤ 40
              · rw [decide_eq_true c4] at q0
                rw [decide_eq_true (show (x.length : Int) < 41 by omega)]
                exact ⟨_, rfl, a, _, 1, .str x, rfl, rfl, hT2, rfl, _, rfl, a, _, 1, .str x, rfl, rfl, hT2, rfl, x, rfl, by rw [sizeLine_eq]; omega, .str x, _, _, _, rfl, .str x, g0, q0⟩
              · rw [decide_eq_false c4] at q0
                rw [decide_eq_false (show ¬ (x.length : Int) < 41 by omega)]
                exact q0
            · rw [decide_eq_false c3] at q0
              rw [decide_eq_false (show ¬ (x.length : Int) > 0 by omega)]
              exact q0
          | none => exact q0
          | bool b => exact q0
          | int b => exact q0
          | tuple b => exact q0
          | list b => exact q0
          | dict b => exact q0
        · rw [show decide (V.int (((V.str "opening" :: vr).length : Nat) : Int) = V.int 3) = false from (lenE 2).2 c2]
          rw [openB_no (by omega)] at q0
          exact q0
      rw [(nameE _).2 d2]
      -- over a generator
      refine ⟨_, rfl, (by show 3 ≤ sizeLine; decide), fun p1 np1 => ⟨p1, _, rfl, .inl (.inl (.inl upd_same)), rfl, rfl, _, rfl, ?_⟩⟩
      have s02 := s01.trans (same_new (o := .lst [.str "longer", .str "tree", .str "onetime"]) np1)
      generalize upd H2 p1 (.lst [.str "longer", .str "tree", .str "onetime"]) = H3 at s02
      clear q0 hT2 s01 s1 np1
      have hT3 := same_sqt s02 hT
      have q0 := q H3 s02
      show if (!inV (.str z) [.str "longer", .str "tree", .str "onetime"]) = true then _ else _
      have ei : inV (.str z) [.str "longer", .str "tree", .str "onetime"] = (decide (z = "longer") || (decide (z = "tree") || decide (z = "onetime"))) := by
        show ((eqV (.str "longer") (.str z) || (eqV (.str "tree") (.str z) || (eqV (.str "onetime") (.str z) || false))) : Bool) = _
        have ee : ∀ y : Str, eqV (.str y) (.str z) = decide (z = y) := fun y => by
          show (y == z) = _
          by_cases h : z = y
          · rw [decide_eq_true h, h]
            exact beq_self_eq_true y
          · rw [decide_eq_false h]
            exact beq_eq_false_iff_ne.mpr fun k => h k.symm
        rw [ee, ee, ee, Bool.or_false]
      rw [ei]
      by_cases hz : z = "longer" ∨ z = "tree" ∨ z = "onetime"
      · have : (decide (z = "longer") || (decide (z = "tree") || decide (z = "onetime"))) = true := by
          rcases hz with h | h | h
          · rw [decide_eq_true h]; rfl
          · rw [decide_eq_true h, Bool.true_or, Bool.or_true]
          · rw [decide_eq_true h, Bool.or_true, Bool.or_true]
        rw [this]
        refine ⟨_, rfl, a, _, rfl, .inr hT3, _, _, rfl, rfl, _, rfl, ?_⟩
        by_cases hl : vr.length < 3
        · rw [decide_eq_true (show (((V.str z :: vr).length : Nat) : Int) < 4 by rw [List.length_cons]; omega)]
          rw [mg_three hz (by omega)] at q0
          exact q0
        rw [decide_eq_false (show ¬ (((V.str z :: vr).length : Nat) : Int) < 4 by rw [List.length_cons]; omega)]
        obtain ⟨g, r', rfl⟩ : ∃ g r', r = g :: r' := by
          cases r with
          | nil => exact absurd hlr (by show vr.length ≠ 0; omega)
          | cons g r' => exact ⟨g, r', rfl⟩
        obtain ⟨vg, vr', rfl, hvg, hr2⟩ := dp_cons hr'
        have gg := gr g List.mem_cons_self
        have hvg3 := dp_same s02 g hvg
        refine ⟨_, rfl, a, _, 1, vg, rfl, rfl, hT3, atI_nat (j := 1) rfl, vg, g, n', rfl, hvg3, gg, _, rfl, ?_⟩
        cases hb : blockOk g with
        | false =>
          rw [mg_gen hz (blk_no hb)] at q0
          exact q0
        | true =>
          obtain ⟨k, t, rfl, hgk⟩ := gen_notfun hb
          cases hvg3 with
          | @tup ga gs _ gT gA =>
          obtain ⟨vk, gs', rfl, hk, _⟩ := dp_cons gA
          obtain ⟨_, n2, rfl, gx⟩ := gd_tup gg
          refine ⟨_, rfl, a, _, 1, .ref ga, rfl, rfl, hT3, atI_nat (j := 1) rfl, ga, _, 0, vk, rfl, rfl, gT, at_zero, k, .str "generator", hk, .str _, gd_lay (gx k List.mem_cons_self), str_lay _, str_dep _, _, rfl, ?_⟩
          show if (!named "generator" k) = true then _ else _
          cases hn : named "generator" k with
          | false =>
            rw [hn] at hgk
            rw [mg_gen hz hgk] at q0
            exact q0
          | true =>
            rw [hn] at hgk
            obtain ⟨k', rr, n, m, eg, b1, b2, b3, b4⟩ := gen_parts hgk
            injection eg with eg
            injection eg with e1 e2
            subst e1
            subst e2
            obtain ⟨w0, w1, w2, w3, f0, f1, f2, f3, ew, ef, y0, y1, y2, y3⟩ := dp4 gA (dp_all_len gA)
            cases ef
            cases y1
            cases y2
            rw [ew] at gT
            refine ⟨_, rfl, a, _, 1, .ref ga, rfl, rfl, hT3, atI_nat (j := 1) rfl, 1, rfl, 3, rfl, slA_any gT fun pp H4 s4 hc => ?_⟩
            have s04 := s02.trans s4
            have hT4 := same_sqt s4 hT3
            clear q0
            have q0 := q H4 s04
            refine ⟨pp, [.int n, .int m], rfl, hc, rfl, _, _, rfl, _, _, rfl, rfl, ?_⟩
            -- longer
            refine ⟨_, rfl, rfl, _, rfl, ?_⟩
            by_cases z1 : z = "longer"
            · rw [(nameE _).1 z1]
              subst z1
              rw [mg_longer] at q0
              refine ⟨_, rfl, a, _, rfl, .inr hT4, rfl, _, rfl, ?_⟩
              by_cases c2 : vr'.length = 2
              · obtain ⟨u1, u2, d1', d2', rfl, rfl, p1', p2'⟩ := dp2 hr2 c2
                rw [decide_eq_true (show V.int ((([V.str "longer", .ref ga, u1, u2] : List V).length : Nat) : Int) = V.int 4 from rfl)]
                replace q0 : Q (.bl (genOk (.tuple [k, .int n, .int m, rr]) && (decide (m = n + 1) && whole d1' 1 20))) H4 := q0
                rw [hgk, Bool.true_and] at q0
                refine ⟨_, rfl, _, rfl, _, _, rfl, rfl, rfl, _, rfl, ?_⟩
                by_cases cm : m = n + 1
                · rw [decide_eq_true (congrArg V.int cm)]
                  rw [decide_eq_true cm, Bool.true_and] at q0
                  exact ⟨_, rfl, a, _, 2, u1, rfl, rfl, hT4, rfl, u1, d1', 1, 20, rfl, dp_same s04 d1' p1', q0⟩
                · rw [decide_eq_false (fun e => cm (V.int.inj e))]
                  rw [decide_eq_false cm, Bool.false_and] at q0
                  exact q0
              · rw [decide_eq_false (show ¬ V.int (((V.str "longer" :: .ref ga :: vr').length : Nat) : Int) = V.int 4 from fun e => c2 (by have := V.int.inj e; rw [List.length_cons, List.length_cons] at this; omega))]
                rw [lngB_no (by rw [List.length_cons, ← dp_all_len hr2]; omega)] at q0
                exact q0
            rw [(nameE _).2 z1]
            refine ⟨_, rfl, rfl, _, rfl, ?_⟩
            by_cases z2 : z = "onetime"
            · rw [(nameE _).1 z2]
              subst z2
              simp only [mg_onetime] at q
              rw [mg_onetime] at q0
              refine ⟨_, rfl, a, _, rfl, .inr hT4, rfl, _, rfl, ?_⟩
              by_cases c2 : vr'.length = 2
              · obtain ⟨u1, u2, d1', d2', rfl, rfl, p1', p2'⟩ := dp2 hr2 c2
                rw [decide_eq_true (show V.int ((([V.str "onetime", .ref ga, u1, u2] : List V).length : Nat) : Int) = V.int 4 from rfl)]
                replace q : ∀ H', Same H H' → Q (.bl (genOk (.tuple [k, .int n, .int m, rr]) && (whole d1' 1 4 && plainOk d2'))) H' := q
                simp only [hgk, Bool.true_and] at q
                refine ⟨_, rfl, a, _, 2, u1, rfl, rfl, hT4, rfl, u1, d1', 1, 4, rfl, dp_same s04 d1' p1', _, rfl, ?_⟩
                cases cw : whole d1' 1 4 with
                | false =>
                  have q1 := q H4 s04
                  rw [cw] at q1
                  exact q1
                | true =>
                  rw [cw] at q
                  exact ⟨_, rfl, a, _, 3, u2, rfl, rfl, hT4, rfl, u2, d2', _, rfl, dp_same s04 d2' p2', gr d2' (List.mem_cons_of_mem _ (List.mem_cons_of_mem _ List.mem_cons_self)), fun H5 s5 => q H5 (s04.trans s5)⟩
              · rw [decide_eq_false (show ¬ V.int (((V.str "onetime" :: .ref ga :: vr').length : Nat) : Int) = V.int 4 from fun e => c2 (by have := V.int.inj e; rw [List.length_cons, List.length_cons] at this; omega))]
                rw [oneB_no (by rw [List.length_cons, ← dp_all_len hr2]; omega)] at q0
                exact q0
            rw [(nameE _).2 z2]
            have z3 : z = "tree" := by
              rcases hz with h | h | h
              · exact absurd h z1
              · exact h
              · exact absurd h z2
            subst z3
            rw [mg_tree] at q0
            refine ⟨_, rfl, a, _, rfl, .inr hT4, rfl, _, rfl, ?_⟩
            by_cases c2 : vr'.length = 3
            · obtain ⟨u1, u2, u3, d1', d2', d3', rfl, rfl, p1', p2', p3'⟩ := dp3 hr2 c2
              rw [decide_eq_true (show V.int ((([V.str "tree", .ref ga, u1, u2, u3] : List V).length : Nat) : Int) = V.int 5 from rfl)]
              replace q0 : Q (.bl (genOk (.tuple [k, .int n, .int m, rr]) && (decide (m = 2 * n) && (decide (n ≤ 8) && (whole d1' 1 (if 12 - n < 8 then 12 - n else 8) && whole d2' 1 1000))))) H4 := q0
              rw [hgk, Bool.true_and] at q0
              refine ⟨_, rfl, _, rfl, _, _, rfl, rfl, .inl ⟨by decide, by decide⟩, rfl, _, rfl, ?_⟩
              by_cases cm : m = 2 * n
              · rw [decide_eq_true (congrArg V.int cm)]
                rw [decide_eq_true cm, Bool.true_and] at q0
                refine ⟨_, rfl, _, _, rfl, rfl, _, rfl, ?_⟩
                by_cases cn : n ≤ 8
                · rw [decide_eq_false (show ¬ n > 8 by omega)]
                  rw [decide_eq_true cn, Bool.true_and] at q0
                  refine ⟨_, rfl, a, _, 2, u1, rfl, rfl, hT4, rfl, u1, d1', 1, 8, rfl, dp_same s04 d1' p1', _, rfl, ?_⟩
                  cases cw : whole d1' 1 8 with
                  | false =>
                    have : whole d1' 1 (if 12 - n < 8 then 12 - n else 8) = false := by
                      cases d1' with
                      | int i =>
                        have h1 : (decide ((1 : Int) ≤ i) && decide (i ≤ 8)) = false := cw
                        show (decide ((1 : Int) ≤ i) && decide (i ≤ (if 12 - n < 8 then 12 - n else 8))) = false
                        rcases Bool.and_eq_false_iff.mp h1 with h | h
                        · rw [h, Bool.false_and]
                        · rw [decide_eq_false (show ¬ i ≤ (if 12 - n < 8 then 12 - n else 8) by have := of_decide_eq_false h; split <;> omega), Bool.and_false]
                      | _ => rfl
                    rw [this, Bool.false_and] at q0
                    exact q0
                  | true =>
                    obtain ⟨i, rfl, i1, i2⟩ := whole_int cw
                    cases p1'
                    refine ⟨_, rfl, _, rfl, a, _, 2, .int i, rfl, rfl, hT4, rfl, _, _, rfl, rfl, _, _, rfl, rfl, _, rfl, ?_⟩
                    by_cases ci : n + i > 12
                    · rw [decide_eq_true ci]
                      have : whole (.int i) 1 (if 12 - n < 8 then 12 - n else 8) = false := by
                        show (decide ((1 : Int) ≤ i) && decide (i ≤ (if 12 - n < 8 then 12 - n else 8))) = false
                        rw [decide_eq_false (show ¬ i ≤ (if 12 - n < 8 then 12 - n else 8) by split <;> omega), Bool.and_false]
                      rw [this, Bool.false_and] at q0
                      exact q0
                    · rw [decide_eq_false ci]
                      have : whole (.int i) 1 (if 12 - n < 8 then 12 - n else 8) = true := whole_in i1 (by split <;> omega)
                      rw [this, Bool.true_and] at q0
                      exact ⟨_, rfl, a, _, 3, u2, rfl, rfl, hT4, rfl, u2, d2', 1, 1000, rfl, dp_same s04 d2' p2', q0⟩
                · rw [decide_eq_true (show n > 8 by omega)]
                  rw [decide_eq_false cn, Bool.false_and] at q0
                  exact q0
              · rw [decide_eq_false (fun e => cm (V.int.inj e))]
                rw [decide_eq_false cm, Bool.false_and] at q0
                exact q0
            · rw [decide_eq_false (show ¬ V.int (((V.str "tree" :: .ref ga :: vr').length : Nat) : Int) = V.int 5 from fun e => c2 (by have := V.int.inj e; rw [List.length_cons, List.length_cons] at this; omega))]
              rw [treB_no (by rw [List.length_cons, ← dp_all_len hr2]; omega)] at q0
              exact q0
      · have hm : mgB z r = false := by
          refine mg_notmade ?_
          cases c : madeZ z with
          | false => rfl
          | true =>
            rcases madeZ_cases c with h | ⟨s, h⟩ | h | h | h | h | h
            · exact absurd h c1
            · exact absurd rfl (n7 _ h)
            · exact absurd h d1
            · exact absurd h d2
            · exact absurd (.inl h) hz
            · exact absurd (.inr (.inl h)) hz
            · exact absurd (.inr (.inr h)) hz
        have : (decide (z = "longer") || (decide (z = "tree") || decide (z = "onetime"))) = false := by
          rw [decide_eq_false fun h => hz (.inl h), decide_eq_false fun h => hz (.inr (.inl h)), decide_eq_false fun h => hz (.inr (.inr h))]
          rfl
        rw [this]
        rw [hm] at q0
        exact q0

end
def spIR5 (K : PySem.W.Frag) : Sp := fun vs H Q _ => ∃ (v : V) (d : PyData) (n : Nat), vs = [v] ∧ Dp K H v d ∧ Gd n d ∧ ∀ H', Same H H' → Q (.bl true) H'
def spRef (K : PySem.W.Frag) : Sp := fun vs H Q _ => ∃ (v : V) (d : PyData) (n : Nat), vs = [v] ∧ Dp K H v d ∧ Gd n d ∧ brOk d = false ∧ ∀ H', Same H H' → Q (.bl true) H'
def isFour (z : Str) : Bool := decide (z = "say") || (decide (z = "toss") || (decide (z = "look") || decide (z = "ask")))
theorem four_iff {z : Str} : isFour z = true ↔ (z = "say" ∨ z = "toss" ∨ z = "look" ∨ z = "ask") := by
  unfold isFour
  simp only [Bool.or_eq_true, decide_eq_true_eq]
theorem in_four {z : Str} : inV (.str z) [.str "say", .str "toss", .str "look", .str "ask"] = isFour z := by
  show ((eqV (.str "say") (.str z) || (eqV (.str "toss") (.str z) || (eqV (.str "look") (.str z) || (eqV (.str "ask") (.str z) || false)))) : Bool) = _
  have ee : ∀ y : Str, eqV (.str y) (.str z) = decide (z = y) := fun y => by
    show (y == z) = _
    by_cases h : z = y
    · rw [decide_eq_true h, h]
      exact beq_self_eq_true y
    · rw [decide_eq_false h]
      exact beq_eq_false_iff_ne.mpr fun k => h k.symm
  rw [ee, ee, ee, ee, Bool.or_false]
  rfl
theorem brOk_four {z : Str} {r : List PyData} (h : brOk (.tuple (.str z :: r)) = true) : (!madeD (.tuple (.str z :: r))) = isFour z := by
  cases c : isFour z with
  | true =>
    have h4 := four_iff.mp c
    have : madeZ z = false := by rcases h4 with rfl | rfl | rfl | rfl <;> decide
    rw [show madeD (.tuple (.str z :: r)) = madeZ z from rfl, this]
    rfl
  | false =>
    have hn : ¬ (z = "say" ∨ z = "toss" ∨ z = "look" ∨ z = "ask") := fun k => by
      rw [four_iff.mpr k] at c
      cases c
    cases cm : madeD (.tuple (.str z :: r)) with
    | true => rfl
    | false =>
      have := chk_no (n := 20) cm (looks_other hn)
      rw [show chk 20 (.tuple (.str z :: r)) = true from h] at this
      cases this

section
variable {P : Program} {w : World} {K : PySem.W.Frag} {mg : Str → Option Value} {base : Heap} {cs : Cs}
theorem ok_breakergood {f : Addr} {fd : FuncData} (D : Df K mg "_law_breaker_good" s_law_breaker_good ["value"] f fd) (T : Txt K w mg cs) (c_law_plain_good : Cl P w K mg base CX0 4 "_law_plain_good" (spD K plainOk)) (c_law_made_good : Cl P w K mg base CX0 5 "_law_made_good" (spMG K)) : FnOk P w K mg base CX0 6 f fd ["value"] (spD K brOk) := by
  refine D.fn.ok sc_law_breaker_good (fun vs H Q E h => ?_) (fun cdv A outer s H vs Q E hr h => ?_)
  · obtain ⟨v, d, n, rfl, _⟩ := h
    rfl
  · obtain ⟨v, d, n, rfl, hd, hg, q⟩ := h
    refine ⟨_, (pss_cons (ps_for PassesOwn.never rfl (pi_range1 (by rfl) T.n_range (pa_cons pe_int pa_nil)) (pg_name (i := 1) sc_law_breaker_good.nd rfl (.inl rfl)) (pss_cons (ps_if (PW.pt (pw_or (pt_not (pt_val (pe_callB (isiK K) (by rfl) T.n_isinstance (by decide +kernel) (pa_cons (pv 0) (pa_cons (pe_ty "tuple" (by rfl) T.n_tuple (by decide +kernel)) pa_nil))))) (pw_or (pt_cmpR op_eq (pe_callB (lenS K) (by rfl) T.n_len (by decide +kernel) (pa_cons (pv 0) pa_nil)) pe_int (nomark _)) (pw_or1 (pt_not (pt_val (pe_callB (isiK K) (by rfl) T.n_isinstance (by decide +kernel) (pa_cons (pe_ix (ixT K) (pv 0) pe_int (fun _ _ => rfl)) (pa_cons (pe_ty "str" (by rfl) T.n_str (by decide +kernel)) pa_nil))))))))) (pss_one (ps_ret pe_bl)) pss_nil) (pss_cons (ps_if (pt_cmpR op_in_seq (pe_ix (ixT K) (pv 0) pe_int (fun _ _ => rfl)) (pe_lst (pa_cons pe_str (pa_cons pe_str (pa_cons pe_str (pa_cons pe_str pa_nil))))) (by rfl)) (pss_one (ps_ret (pe_cl c_law_plain_good hr (by first | decide | omega) (by rfl) (pa_cons (pv 0) pa_nil)))) pss_nil) (pss_cons (ps_if (PW.pt (pw_or (pt_not (pt_val (pe_cl c_law_made_good hr (by first | decide | omega) (by rfl) (pa_cons (pv 0) pa_nil)))) (pw_or1 (pt_cmpR op_eq (pv 1) pe_int (nomark _))))) (pss_one (ps_ret pe_bl)) pss_nil) (pss_one (ps_set (i := 0) sc_law_breaker_good.nd rfl (.inl rfl) (pe_ix (ixT K) (pv 0) (pe_un un_neg pe_int) (fun _ _ => rfl)))))))) (pss_one (ps_ret pe_bl))), ?_⟩
    refine ⟨_, rfl, by decide, by decide, for_range (lo := 0) (n := 21) (fun i σ H' => ∃ (vi : V) (di : PyData) (y1 : Option V), σ = [some vi, y1] ∧ Same H H' ∧ Dp K H vi di ∧ Gd n di ∧ (i ≤ 20 ∧ brOk d = chk (20 - i) di ∨ i = 21 ∧ brOk d = false)) ?_ ?_ ?_⟩
    · exact ⟨v, d, none, rfl, Same.refl H, hd, hg, .inl ⟨Nat.zero_le _, rfl⟩⟩
    · rintro i σ H' hi ⟨vi, di, y1, rfl, s1, hdi, hgi, hb⟩
      have hb' : brOk d = chk (20 - i) di := by
        rcases hb with h | h
        · exact h.2
        · omega
      have hi20 : i ≤ 20 := by omega
      clear hb
      have stop : madeD di = false → looksOk di = false → Q (.bl false) H' := fun h1 h2 => by
        have q' := q H' s1
        rw [hb', chk_no h1 h2] at q'
        exact q'
      have hd1 := dp_same s1 di hdi
      refine ⟨_, rfl, _, _, _, _, _, rfl, .ty "tuple", dp_ty hd1, kit_tup di, _, rfl, ?_⟩
      cases di with
      | tuple xs =>
        cases hdi with
        | @tup a ws _ hT0 hA =>
        have hT := same_sqt s1 hT0
        have hwl := dp_all_len hA
        refine ⟨_, rfl, a, ws, rfl, .inr hT, rfl, _, rfl, ?_⟩
        cases xs with
        | nil =>
          rw [decide_eq_true (show V.int ((ws.length : Nat) : Int) = V.int 0 by rw [hwl]; rfl)]
          exact stop rfl rfl
        | cons k r =>
          rw [decide_eq_false (show ¬ V.int ((ws.length : Nat) : Int) = V.int 0 from fun z => by
            have := V.int.inj z
            rw [hwl, List.length_cons] at this
            omega)]
          have hA0 := hA
          obtain ⟨v0, vr, rfl, h0, hr'⟩ := dp_cons hA
          replace h0 := dp_same s1 k h0
          refine ⟨_, rfl, a, _, 0, v0, rfl, rfl, hT, at_zero, _, _, _, _, _, rfl, .ty "str", dp_ty h0, kit_str k, _, rfl, ?_⟩
          cases k with
          | str z =>
            cases h0
            refine ⟨_, rfl, a, _, 0, .str z, rfl, rfl, hT, at_zero, (by show 4 ≤ sizeLine; decide), fun p np => ⟨p, _, rfl, .inl (.inl (.inl upd_same)), rfl, rfl, _, rfl, ?_⟩⟩
            have s2 := s1.trans (same_new (o := .lst [.str "say", .str "toss", .str "look", .str "ask"]) np)
            generalize upd H' p (.lst [.str "say", .str "toss", .str "look", .str "ask"]) = H2 at s2
            have hT2 := same_sqt s2 hT0
            show if inV (.str z) [.str "say", .str "toss", .str "look", .str "ask"] = true then _ else _
            rw [in_four]
            have hdi2 : Dp K H2 (.ref a) (.tuple (.str z :: r)) := .tup hT2 (dps_same s2 _ hA0)
            cases c4 : isFour z with
            | true =>
              rw [chk_four (four_iff.mp c4)] at hb'
              refine ⟨_, rfl, .ref a, _, n, rfl, hdi2, hgi, fun H3 s3 => ?_⟩
              have q' := q H3 (s2.trans s3)
              rw [hb'] at q'
              exact q'
            | false =>
              have hn : ¬ (z = "say" ∨ z = "toss" ∨ z = "look" ∨ z = "ask") := fun k => by
                rw [four_iff.mpr k] at c4
                cases c4
              refine ⟨_, rfl, .ref a, z, r, n, rfl, hdi2, hgi, fun H3 s3 => ⟨_, rfl, ?_⟩⟩
              have s23 := s2.trans s3
              have q' := q H3 s23
              cases cm : madeZ z with
              | false =>
                rw [mg_notmade cm]
                rw [hb', chk_no (show madeD (.tuple (.str z :: r)) = false from cm) (looks_other hn)] at q'
                exact q'
              | true =>
                by_cases ci : i = 20
                · subst ci
                  rw [Nat.sub_self, chk_zero (show madeD (.tuple (.str z :: r)) = true from cm)] at hb'
                  rw [hb'] at q'
                  cases cg : mgB z r with
                  | false => exact q'
                  | true =>
                    refine ⟨_, rfl, rfl, _, rfl, ?_⟩
                    exact q'
                · rw [show 20 - i = (20 - (i + 1)) + 1 by omega, chk_law cm] at hb'
                  cases cg : mgB z r with
                  | false =>
                    rw [hb', cg] at q'
                    exact q'
                  | true =>
                    rw [cg, Bool.true_and] at hb'
                    refine ⟨_, rfl, rfl, _, rfl, ?_⟩
                    rw [decide_eq_false (show ¬ V.int (0 + (i : Int)) = V.int 20 from fun e => ci (by have := V.int.inj e; omega))]
                    obtain ⟨vl, el, hvl, hmem⟩ := dps_at_last hA0 (fun z => by cases z)
                    refine ⟨_, rfl, 1, rfl, a, _, -1, vl, rfl, rfl, same_sqt s3 hT2, el, ?_⟩
                    refine ⟨vl, _, _, rfl, s23, hvl, ?_, .inl ⟨by omega, hb'⟩⟩
                    obtain ⟨_, n', rfl, hx⟩ := gd_tup hgi
                    exact gd_up (hx _ hmem)
          | none => exact stop rfl (head_no rfl)
          | bool b => exact stop rfl (head_no rfl)
          | int b => exact stop rfl (head_no rfl)
          | tuple b => exact stop rfl (head_no rfl)
          | list b => exact stop rfl (head_no rfl)
          | dict b => exact stop rfl (head_no rfl)
      | none => exact stop rfl rfl
      | bool b => exact stop rfl rfl
      | int b => exact stop rfl rfl
      | str b => exact stop rfl rfl
      | list b => exact stop rfl rfl
      | dict b => exact stop rfl rfl
    · rintro σ H' ⟨vi, di, y1, rfl, s1, hdi, hgi, hb⟩
      have q' := q H' s1
      rcases hb with h | h
      · omega
      · rw [h.2] at q'
        exact q'
theorem ok_right5 {f : Addr} {fd : FuncData} (D : Df K mg "_law_is_right" s_law_is_right ["value"] f fd) (T : Txt K w mg cs) (c_law_breaker_good : Cl P w K mg base CX0 6 "_law_breaker_good" (spD K brOk)) (c_check_breaker : Cl P w K mg base (L2.CX P w) 6 "check_breaker" (spCheckB K cs.BadBreaker))
    (c_is_plain : Cl P w K mg base (L2.CX P w) 7 "is_plain" (fun vs H Q E => ∃ (v : V) (d : PyData) (n : Nat), vs = [v] ∧ Dp K H v d ∧ Gd n d ∧ ∀ H', Same H H' → (brOk d = true → Q (.bl (!madeD d)) H') ∧ (brOk d = false → E (.ref cs.BadBreaker) none H'))) : FnOk P w K mg base CX0 8 f fd ["value"] (spIR5 K) := by
  refine D.fn.ok sc_law_is_right (fun vs H Q E h => ?_) (fun cdv A outer s H vs Q E hr h => ?_)
  · obtain ⟨v, d, n, rfl, _⟩ := h
    rfl
  · obtain ⟨v, d, n, rfl, hd, hg, q⟩ := h
    refine ⟨_, (pss_cons (ps_set (i := 1) sc_law_is_right.nd rfl (.inl rfl) (pe_cl c_law_breaker_good hr (by first | decide | omega) (by rfl) (pa_cons (pv 0) pa_nil))) (pss_cons (ps_try_as (i := 2) (Wout := fun _ _ _ _ => False) rfl rfl sc_law_is_right.nd rfl rfl ⟨rfl, by decide, .inl T.gl_BreakError⟩ takes0 (fun W pn xe tk _ => (pss_one (ps_if (PW.pt (pw_or (pt_cmpR op_notN (pe_clX c_check_breaker hr (by first | decide | omega) (by rfl) tk (pa_cons (pv 0) pa_nil)) pe_non (nomark _)) (pw_or1 (pt_not (pt_val (pv 1)))))) (pss_one (ps_ret pe_bl)) pss_nil))) (fun a oe cls d pn hz hf => pss_when (C := cs.BadBreaker) hz fun hz => (pss_cons (ps_if (PW.pt (pw_or (pt_not (pt_val (pe_callB (call_isE T.e_BadBreaker hz hf) (by rfl) T.n_isinstance (by decide +kernel) (pa_cons (pv 2) (pa_cons (pe_glob (v := .ref cs.BadBreaker) (by rfl) T.gl_BadBreaker rfl) pa_nil))))) (pw_or (pt_val (pe_callB (call_isE T.e_BadBreaker hz hf) (by rfl) T.n_isinstance (by decide +kernel) (pa_cons (pv 2) (pa_cons (pe_glob (v := .ref cs.BadBlock) (by rfl) T.gl_BadBlock rfl) pa_nil)))) (pw_or1 (pt_val (pe_callB (call_isE T.e_BadBreaker hz hf) (by rfl) T.n_isinstance (by decide +kernel) (pa_cons (pv 2) (pa_cons (pe_glob (v := .ref cs.BadScheme) (by rfl) T.gl_BadScheme rfl) pa_nil)))))))) (pss_one (ps_ret pe_bl)) pss_nil) (pss_one (ps_ret (pe_and (pe_callB (call_isE T.e_BadBreaker hz hf) (by rfl) T.n_isinstance (by decide +kernel) (pa_cons (pv 2) (pa_cons (pe_ty "ValueError" (by rfl) T.n_ValueError (by decide +kernel)) pa_nil))) (pe_one (pe_not (pv 1))))))))) (pss_cons (ps_set (i := 3) sc_law_is_right.nd rfl (.inl rfl) (pe_clX c_is_plain hr (by first | decide | omega) (by rfl) takes0 (pa_cons (pv 0) pa_nil))) (pss_one (ps_ret (pe_and (pe_callB (isiK K) (by rfl) T.n_isinstance (by decide +kernel) (pa_cons (pv 3) (pa_cons (pe_ty "bool" (by rfl) T.n_bool (by decide +kernel)) pa_nil))) (pe_one (pe_cmpR op_eq (pv 3) (pe_cmpR op_in_seq (pe_ix (ixT K) (pv 0) pe_int (fun _ _ => rfl)) (pe_lst (pa_cons pe_str (pa_cons pe_str (pa_cons pe_str (pa_cons pe_str pa_nil))))) (by rfl)) (nomark _))))))))), ?_⟩
    refine ⟨_, rfl, v, d, n, rfl, hd, hg, fun H1 s1 => ?_⟩
    refine ⟨_, rfl, v, d, n, rfl, dp_same s1 d hd, hg, fun H2 s2 => ⟨fun ok => ?_, fun no => ?_⟩⟩
    · have s12 := s1.trans s2
      refine ⟨rfl, _, rfl, ?_⟩
      rw [decide_eq_true (show V.non = V.non from rfl)]
      refine ⟨_, rfl, _, rfl, ?_⟩
      rw [ok]
      refine ⟨_, rfl, v, d, n, rfl, dp_same s12 d hd, hg, fun H3 s3 => ⟨fun _ => ?_, fun no => by rw [ok] at no; cases no⟩⟩
      have s13 := s12.trans s3
      refine ⟨_, rfl, _, _, _, _, true, rfl, .ty "bool", .base (.bl _), kit_ty (by decide +kernel), _, rfl, ?_⟩
      obtain ⟨z, r, rfl⟩ := chk_head (show chk 20 d = true from ok)
      have hd3 := dp_same s13 _ hd
      cases hd3 with
      | @tup a ws _ hT hA =>
      obtain ⟨v0, vr, rfl, h0, hr'⟩ := dp_cons hA
      cases h0
      refine ⟨_, rfl, _, rfl, a, _, 0, .str z, rfl, rfl, hT, at_zero, (by show 4 ≤ sizeLine; decide), fun p np => ⟨p, _, rfl, .inl (.inl (.inl upd_same)), rfl, rfl, rfl, ?_⟩⟩
      have e : decide (V.bl (!madeD (.tuple (.str z :: r))) = V.bl (inV (.str z) [.str "say", .str "toss", .str "look", .str "ask"])) = true := by
        rw [in_four, brOk_four ok]
        exact decide_eq_true rfl
      show Q (.bl (decide (V.bl (!madeD (.tuple (.str z :: r))) = V.bl (inV (.str z) [.str "say", .str "toss", .str "look", .str "ask"])))) _
      rw [e]
      exact q _ (s13.trans (same_new np))
    · refine ⟨true, T.exm_BadBreaker_BreakError, fun _ a na => ⟨⟨rfl, rfl⟩, ?_⟩, fun q => nomatch q⟩
      refine ⟨_, rfl, _, _, true, rfl, fun u hu => hu, T.kit_BadBreaker_BadBreaker, _, rfl, ?_⟩
      refine ⟨_, rfl, _, _, false, rfl, fun u hu => hu, T.kit_BadBreaker_BadBlock, _, rfl, ?_⟩
      refine ⟨_, rfl, _, _, false, rfl, fun u hu => hu, T.kit_BadBreaker_BadScheme, _, rfl, ?_⟩
      refine ⟨_, rfl, _, _, true, rfl, fun u hu => hu, T.kit_BadBreaker_ValueError, _, rfl, _, rfl, _, rfl, ?_⟩
      rw [no]
      exact q _ (s1.trans s2)
theorem ok_refused {f : Addr} {fd : FuncData} (D : Df K mg "_law_refused" s_law_refused ["value"] f fd) (T : Txt K w mg cs)
    (c_is_plain : Cl P w K mg base (L2.CX P w) 7 "is_plain" (fun vs H Q E => ∃ (v : V) (d : PyData) (n : Nat), vs = [v] ∧ Dp K H v d ∧ Gd n d ∧ ∀ H', Same H H' → (brOk d = true → Q (.bl (!madeD d)) H') ∧ (brOk d = false → E (.ref cs.BadBreaker) none H'))) : FnOk P w K mg base CX0 8 f fd ["value"] (spRef K) := by
  refine D.fn.ok sc_law_refused (fun vs H Q E h => ?_) (fun cdv A outer s H vs Q E hr h => ?_)
  · obtain ⟨v, d, n, rfl, _⟩ := h
    rfl
  · obtain ⟨v, d, n, rfl, hd, hg, hno, q⟩ := h
    refine ⟨_, (pss_cons (ps_try_many (Wout := fun _ _ _ _ => False) rfl rfl takes0 (fun W pn xe tk _ => (pss_one (ps_expr (pe_clX c_is_plain hr (by first | decide | omega) (by rfl) tk (pa_cons (pv 0) pa_nil))))) (HdsOk.cons ⟨rfl, by decide, .inl T.gl_BadBreaker⟩ (fun a oe cls d pn hz hf => (pss_one (ps_ret pe_bl))) HdsOk.nil)) (pss_one (ps_ret pe_bl))), ?_⟩
    exact ⟨_, rfl, v, d, n, rfl, hd, hg, fun H1 s1 => ⟨fun ok => absurd (hno.symm.trans ok) (by decide), fun _ => ⟨true, T.exm_BadBreaker_BadBreaker, fun _ a na => q _ s1, fun z => nomatch z⟩⟩⟩

end
/-- data of a size, so deep as it is -/
def OX (K : PySem.W.Frag) (a : Addr) (H : Hp) (v : V) : Prop := ∃ n, Ok K a H 100 n v
def OXs (K : PySem.W.Frag) (a : Addr) (H : Hp) (vs : List V) : Prop := ∃ n, Oks K a H 100 n vs
theorem OX.keep {K : PySem.W.Frag} {a : Addr} {H H' : Hp} {v : V} (h : OX K a H v) (k : Keep a H H') : OX K a H' v := by
  obtain ⟨n, h⟩ := h
  exact ⟨n, h.keep k⟩
theorem OXs.keep {K : PySem.W.Frag} {a : Addr} {H H' : Hp} {vs : List V} (h : OXs K a H vs) (k : Keep a H H') : OXs K a H' vs := by
  obtain ⟨n, h⟩ := h
  exact ⟨n, h.keep k⟩
theorem OXs.nil {K : PySem.W.Frag} {a : Addr} {H : Hp} : OXs K a H [] := ⟨0, Oks.nil⟩
theorem OXs.cons {K : PySem.W.Frag} {a : Addr} {H : Hp} {v : V} {vs : List V} (h : OX K a H v) (h' : OXs K a H vs) : OXs K a H (v :: vs) := by
  obtain ⟨n, h⟩ := h
  obtain ⟨m, h'⟩ := h'
  exact ⟨max n m, Oks.cons (h.up (Nat.le_refl _) (by omega)) (h'.up (Nat.le_refl _) (by omega))⟩
theorem OXs.app {K : PySem.W.Frag} {a : Addr} {H : Hp} {vs ws : List V} (h : OXs K a H vs) (h' : OXs K a H ws) : OXs K a H (vs ++ ws) := by
  obtain ⟨n, h⟩ := h
  obtain ⟨m, h'⟩ := h'
  exact ⟨max n m, Oks.app (h.up (Nat.le_refl _) (by omega)) (h'.up (Nat.le_refl _) (by omega))⟩
theorem OXs.get {K : PySem.W.Frag} {a : Addr} {H : Hp} {vs : List V} {i : Nat} {v : V} (h : OXs K a H vs) (e : vs[i]? = some v) : OX K a H v := by
  obtain ⟨n, h⟩ := h
  exact ⟨n, h.get e⟩
theorem OXs.rep {K : PySem.W.Frag} {a : Addr} {H : Hp} {v : V} (h : OX K a H v) (k : Nat) : OXs K a H (List.replicate k v) := by
  obtain ⟨n, h⟩ := h
  exact ⟨n, Oks.rep h k⟩
theorem OX.str {K : PySem.W.Frag} {a : Addr} {H : Hp} {x : Str} (h : PySem.PyData.strOk x = true := by decide +kernel) (h2 : x.length ≤ 100 := by decide +kernel) : OX K a H (.str x) := ⟨0, Ok.str ⟨h, h2⟩⟩
theorem OX.int {K : PySem.W.Frag} {a : Addr} {H : Hp} {i : Int} (h : i.natAbs ≤ 100000) : OX K a H (.int i) := ⟨0, Ok.int (Nat.lt_of_le_of_lt h (by decide))⟩
theorem OX.bl {K : PySem.W.Frag} {a : Addr} {H : Hp} {b : Bool} : OX K a H (.bl b) := ⟨0, Ok.bl⟩
theorem OX.non {K : PySem.W.Frag} {a : Addr} {H : Hp} : OX K a H .non := ⟨0, Ok.non⟩
theorem OX.tup {K : PySem.W.Frag} {a d p : Addr} {H : Hp} {vs : List V} (hh : Hnd H a d) (hT : SqT K H p vs) (h : OXs K a H vs) (hl : vs.length ≤ 100) : OX K a H (.ref p) := by
  obtain ⟨n, h⟩ := h
  exact ⟨n + 1, Ok.tup hh hT h hl⟩
theorem OX.lst {K : PySem.W.Frag} {a p : Addr} {H : Hp} {vs : List V} (pa : p ≠ a) (hL : H p = some (.lst vs)) (h : OXs K a H vs) (hl : vs.length ≤ 100) : OX K a H (.ref p) := by
  obtain ⟨n, h⟩ := h
  exact ⟨n + 1, Ok.lst pa hL h hl⟩
theorem OX.on {K : PySem.W.Frag} {a : Addr} {H : Hp} {v : V} (h : OX K a H v) : ∃ D n, Dp K H v D ∧ Gd n D := by
  obtain ⟨n, D, h1, h2⟩ := h
  exact ⟨D, n, dp_same (off_same a H) D h1, gz_gd (by decide) h2⟩
/-- a new tuple, a new list -/
theorem mkX {K : PySem.W.Frag} {a d p : Addr} {H : Hp} {vs : List V} (hh : Hnd H a d) (np : H p = none) (h : OXs K a H vs) (hl : vs.length ≤ 100) : Hnd (upd H p (.tup vs)) a d ∧ Keep a H (upd H p (.tup vs)) ∧ OX K a (upd H p (.tup vs)) (.ref p) :=
  ⟨hh.new np, Keep.new np, OX.tup (hh.new np) (.inl (.inl upd_same)) (h.keep (Keep.new np)) hl⟩
theorem mkXl {K : PySem.W.Frag} {a d p : Addr} {H : Hp} {vs : List V} (hh : Hnd H a d) (np : H p = none) (h : OXs K a H vs) (hl : vs.length ≤ 100) : Hnd (upd H p (.lst vs)) a d ∧ Keep a H (upd H p (.lst vs)) ∧ OX K a (upd H p (.lst vs)) (.ref p) :=
  ⟨hh.new np, Keep.new np, OX.lst (hh.ne np).1 upd_same (h.keep (Keep.new np)) hl⟩
theorem OX.of {K : PySem.W.Frag} {a : Addr} {H : Hp} {v : V} {n : Nat} {D : PyData} (h : Dp K (off a H) v D) (g : Pz n D) : OX K a H v := ⟨n, D, h, pz_gz g⟩
def spDeep (K : PySem.W.Frag) : Sp := fun vs H Q _ => ∃ (a d : Addr) (least : Nat), vs = [.ref a, .int (least : Int)] ∧ least ≤ 100 ∧ Hnd H a d ∧ ∀ v H', OX K a H' v → Hnd H' a d → Keep a H H' → Q v H'
def spEdge5 (K : PySem.W.Frag) : Sp := fun vs H Q _ => ∃ a d : Addr, vs = [.ref a] ∧ Hnd H a d ∧ ∀ v H', OX K a H' v → Hnd H' a d → Keep a H H' → Q v H'
def spWrong (K : PySem.W.Frag) : Sp := fun vs H Q _ => ∃ (a d : Addr) (v : V), vs = [.ref a, v] ∧ OX K a H v ∧ Hnd H a d ∧ ∀ L ws H', L ≠ a → H' L = some (.lst ws) → OXs K a H' ws → ws.length ≤ 50 → Hnd H' a d → Keep a H H' → Q (.ref L) H'
theorem pz_fun {m : Nat} {tabs : List (List (List Bool))} (h1 : tabs.length = 2 ^ 1) (h2 : ∀ rows ∈ tabs, rows.length = 2 ^ 1 ∧ ∀ r ∈ rows, r.length = m) (hm : m ≤ 2) : Pz 4 (funD 1 1 m tabs) := by
  refine ⟨(by show 5 ≤ 100; decide), fun x hx => ?_⟩
  rcases List.mem_cons.mp hx with e | hx
  · rw [e]; exact pz_str.mpr ⟨by decide +kernel, by decide +kernel⟩
  rcases List.mem_cons.mp hx with e | hx
  · rw [e]; exact pz_int (by decide)
  rcases List.mem_cons.mp hx with e | hx
  · rw [e]; exact pz_int (by decide)
  rcases List.mem_cons.mp hx with e | hx
  · rw [e]; exact pz_int (by omega)
  · rw [List.mem_singleton.mp hx]
    refine ⟨by rw [List.length_map, h1]; decide, fun y hy => ?_⟩
    obtain ⟨rows, hr, rfl⟩ := List.mem_map.mp hy
    obtain ⟨e1, e2⟩ := h2 rows hr
    refine ⟨by rw [List.length_map, e1]; decide, fun z hz => ?_⟩
    obtain ⟨r, hr', rfl⟩ := List.mem_map.mp hz
    refine pz_str.mpr ⟨(okT_sb (r := r) (by have := e2 r hr'; omega)).1, ?_⟩
    rw [sb_len, e2 r hr']
    omega

section
variable {P : Program} {w : World} {K : PySem.W.Frag} {mg : Str → Option Value} {base : Heap} {cs : Cs}
theorem ok_deep {f : Addr} {fd : FuncData} (D : Df K mg "_law_deep" s_law_deep ["hand", "least"] f fd) (T : Txt K w mg cs) (c_law_take : Cl P w K mg base CX0 1 "_law_take" spTake) : FnOk P w K mg base CX0 2 f fd ["hand", "least"] (spDeep K) := by
  refine D.fn.ok sc_law_deep (fun vs H Q E h => ?_) (fun cdv A outer s H vs Q E hr h => ?_)
  · obtain ⟨a, d, least, rfl, _⟩ := h
    rfl
  · obtain ⟨a, d, least, rfl, hl, hh, q⟩ := h
    refine ⟨_, (pss_cons (ps_set (i := 2) sc_law_deep.nd rfl (.inl rfl) (pe_tup (pa_cons pe_str (pa_cons (pe_tup pa_nil) pa_nil)))) (pss_cons (ps_for PassesOwn.never rfl (pi_range1 (by rfl) T.n_range (pa_cons (pe_op op_add (pv 1) (pe_cl c_law_take hr (by first | decide | omega) (by rfl) (pa_cons (pv 0) (pa_cons pe_int pa_nil)))) pa_nil)) (pg_name (i := 3) sc_law_deep.nd rfl (.inl rfl)) (pss_one (ps_set (i := 2) sc_law_deep.nd rfl (.inl rfl) (pe_ix (ixL K) (pe_lst (pa_cons (pe_tup (pa_cons pe_str (pa_cons (pe_tup pa_nil) (pa_cons (pv 2) pa_nil)))) (pa_cons (pe_tup (pa_cons pe_str (pa_cons (pe_tup (pa_cons (pv 2) pa_nil)) pa_nil))) (pa_cons (pe_tup (pa_cons pe_str (pa_cons pe_int (pa_cons (pe_tup (pa_cons pe_str (pa_cons (pe_tup pa_nil) pa_nil))) (pa_cons (pv 2) pa_nil))))) pa_nil)))) (pe_op op_mod (pe_callTy call_int1 (by rfl) T.n_int (by decide +kernel) (pa_cons (pv 3) pa_nil)) pe_int) (fun _ _ => rfl))))) (pss_one (ps_ret (pv 2))))), ?_⟩
    refine ⟨(by show 0 ≤ sizeLine; exact Nat.zero_le _), fun p1 np1 => ⟨(by show 2 ≤ sizeLine; decide), fun p2 np2 => ?_⟩⟩
    obtain ⟨g1, x1, o1⟩ := mkX (K := K) hh np1 .nil (by simp)
    obtain ⟨g2, x2, o2⟩ := mkX (K := K) g1 np2 (.cons (.str (x := "say")) (.cons o1 .nil)) (by simp)
    have x12 := x1.trans x2
    generalize upd (upd H p1 (.tup [])) p2 (.tup [.str "say", .ref p1]) = H1 at g2 o2 x12
    clear np1 np2 g1 x1 o1 x2
    refine ⟨_, rfl, _, rfl, a, d, 3, rfl, by decide, g2, fun r H2 l2 u2 n2 k2 => ⟨_, _, rfl, rfl, ?_⟩⟩
    obtain ⟨many, em, hm⟩ : ∃ n : Nat, (least : Int) + r = (n : Int) ∧ n ≤ 103 := ⟨((least : Int) + r).toNat, by omega, by omega⟩
    refine ⟨(least : Int) + r, rfl, by omega, by omega, ?_⟩
    rw [em]
    refine for_range (lo := 0) (n := many) (fun i σ H' => ∃ (v : V) (y3 : Option V), σ = [some (.ref a), some (.int (least : Int)), some v, y3] ∧ OX K a H' v ∧ Hnd H' a d ∧ Keep a H H') ?_ ?_ ?_
    · exact ⟨_, none, rfl, o2.keep k2, n2, x12.trans k2⟩
    · rintro i σ H3 hi ⟨v, y3, rfl, ov, h3, k3⟩
      refine ⟨(by show 0 ≤ sizeLine; exact Nat.zero_le _), fun p1 np1 => ⟨_, rfl, (by show 3 ≤ sizeLine; decide), fun p2 np2 => ⟨_, rfl, (by show 1 ≤ sizeLine; decide), fun p3 np3 => ⟨(by show 2 ≤ sizeLine; decide), fun p4 np4 => ⟨(by show 0 ≤ sizeLine; exact Nat.zero_le _), fun p5 np5 => ⟨(by show 2 ≤ sizeLine; decide), fun p6 np6 => ⟨_, rfl, (by show 4 ≤ sizeLine; decide), fun p7 np7 => ⟨(by show 3 ≤ sizeLine; decide), fun L nL => ?_⟩⟩⟩⟩⟩⟩⟩⟩
      obtain ⟨g1, x1, o1⟩ := mkX (K := K) h3 np1 .nil (by simp)
      obtain ⟨g2, x2, o2⟩ := mkX (K := K) g1 np2 (.cons (.str (x := "ask")) (.cons o1 (.cons (ov.keep x1) .nil))) (by simp)
      have y2 := x1.trans x2
      obtain ⟨g3, x3, o3⟩ := mkX (K := K) g2 np3 (.cons (ov.keep y2) .nil) (by simp)
      obtain ⟨g4, x4, o4⟩ := mkX (K := K) g3 np4 (.cons (.str (x := "toss")) (.cons o3 .nil)) (by simp)
      have y4 := (y2.trans x3).trans x4
      obtain ⟨g5, x5, o5⟩ := mkX (K := K) g4 np5 .nil (by simp)
      obtain ⟨g6, x6, o6⟩ := mkX (K := K) g5 np6 (.cons (.str (x := "say")) (.cons o5 .nil)) (by simp)
      have y6 := (y4.trans x5).trans x6
      obtain ⟨g7, x7, o7⟩ := mkX (K := K) g6 np7 (.cons (.str (x := "look")) (.cons (.int (i := 0) (by decide)) (.cons o6 (.cons (ov.keep y6) .nil)))) (by simp)
      have hall : OXs K a _ [.ref p2, .ref p4, .ref p7] := .cons (o2.keep ((((x3.trans x4).trans x5).trans x6).trans x7)) (.cons (o4.keep ((x5.trans x6).trans x7)) (.cons o7 .nil))
      have y7 := (k3.trans y6).trans (x7.trans (Keep.new (a := a) (o := .lst [.ref p2, .ref p4, .ref p7]) nL))
      have hall2 := hall.keep (Keep.new (a := a) (o := .lst [.ref p2, .ref p4, .ref p7]) nL)
      have gL := g7.new (o := .lst [.ref p2, .ref p4, .ref p7]) nL
      refine ⟨_, rfl, .inl ⟨_, rfl, _, _, rfl, rfl, (by show (0 : Int) < 3; decide), ?_⟩⟩
      obtain ⟨j, ej, hj⟩ : ∃ j : Nat, (0 + (i : Int)) % 3 = (j : Int) ∧ j < 3 := ⟨((0 + (i : Int)) % 3).toNat, by omega, by omega⟩
      obtain ⟨x, hx⟩ : ∃ x : V, ([.ref p2, .ref p4, .ref p7] : List V)[j]? = some x := ⟨_, List.getElem?_eq_getElem (by exact hj)⟩
      refine ⟨L, _, (0 + (i : Int)) % 3, x, rfl, rfl, .inl (.inl upd_same), by rw [ej]; exact atI_nat hx, ?_⟩
      exact ⟨x, _, rfl, hall2.get hx, gL, y7⟩
    · rintro σ H3 ⟨v, y3, rfl, ov, h3, k3⟩
      exact ⟨_, rfl, q v H3 ov h3 k3⟩

theorem ok_edge5 {f : Addr} {fd : FuncData} (D : Df K mg "_law_edge" s_law_edge ["hand"] f fd) (T : Txt K w mg cs) (c_law_take : Cl P w K mg base CX0 1 "_law_take" spTake) (c_law_deep : Cl P w K mg base CX0 2 "_law_deep" (spDeep K)) : FnOk P w K mg base CX0 3 f fd ["hand"] (spEdge5 K) := by
  refine D.fn.ok sc_law_edge (fun vs H Q E h => ?_) (fun cdv A outer s H vs Q E hr h => ?_)
  · obtain ⟨a, d, rfl, _⟩ := h
    rfl
  · obtain ⟨a, d, rfl, hh, q⟩ := h
    refine ⟨_, (pss_cons (ps_set (i := 1) sc_law_edge.nd rfl (.inl rfl) (pe_tup (pa_cons pe_str (pa_cons (pe_tup (pa_cons pe_str (pa_cons (pe_op op_add pe_int (pe_cl c_law_take hr (by first | decide | omega) (by rfl) (pa_cons (pv 0) (pa_cons pe_int pa_nil)))) pa_nil))) pa_nil)))) (pss_cons (ps_set (i := 2) sc_law_edge.nd rfl (.inl rfl) (pe_cl c_law_take hr (by first | decide | omega) (by rfl) (pa_cons (pv 0) (pa_cons pe_int pa_nil)))) (pss_cons (ps_if (pt_cmpR op_eq (pv 2) pe_int (nomark _)) (pss_cons (ps_set (i := 3) sc_law_edge.nd rfl (.inl rfl) (pe_op op_add pe_int (pe_cl c_law_take hr (by first | decide | omega) (by rfl) (pa_cons (pv 0) (pa_cons pe_int pa_nil))))) (pss_one (ps_ret (pe_ix (ixL K) (pe_lst (pa_cons (pv 1) (pa_cons (pe_tup (pa_cons pe_str (pa_cons (pv 3) (pa_cons (pe_tup (pa_cons pe_str (pa_cons (pe_tup pa_nil) pa_nil))) (pa_cons (pe_tup (pa_cons pe_str (pa_cons (pe_tup pa_nil) pa_nil))) pa_nil))))) (pa_cons (pe_tup (pa_cons pe_str (pa_cons (pe_tup (pa_cons pe_str (pa_cons (pv 3) pa_nil))) (pa_cons (pe_tup (pa_cons pe_str (pa_cons (pe_tup pa_nil) pa_nil))) pa_nil)))) pa_nil)))) (pe_cl c_law_take hr (by first | decide | omega) (by rfl) (pa_cons (pv 0) (pa_cons pe_int pa_nil))) (fun _ _ => rfl))))) pss_nil) (pss_cons (ps_if (pt_cmpR op_eq (pv 2) pe_int (nomark _)) (pss_one (ps_ret (pe_tup (pa_cons pe_str (pa_cons (pe_op (op_rep1 K) (pe_tup (pa_cons (pv 1) pa_nil)) (pe_op op_add pe_int (pe_cl c_law_take hr (by first | decide | omega) (by rfl) (pa_cons (pv 0) (pa_cons pe_int pa_nil))))) pa_nil))))) pss_nil) (pss_cons (ps_if (pt_cmpR op_eq (pv 2) pe_int (nomark _)) (pss_cons (ps_set (i := 4) sc_law_edge.nd rfl (.inl rfl) (pe_cl c_law_deep hr (by first | decide | omega) (by rfl) (pa_cons (pv 0) (pa_cons pe_int pa_nil)))) (pss_one (ps_ret (pe_ix (ixL K) (pe_lst (pa_cons (pv 4) (pa_cons (pe_tup (pa_cons pe_str (pa_cons (pv 4) pa_nil))) (pa_cons (pe_tup (pa_cons pe_str (pa_cons pe_int (pa_cons pe_int (pa_cons (pe_tup (pa_cons pe_str (pa_cons pe_int (pa_cons (pv 4) pa_nil)))) pa_nil))))) pa_nil)))) (pe_cl c_law_take hr (by first | decide | omega) (by rfl) (pa_cons (pv 0) (pa_cons pe_int pa_nil))) (fun _ _ => rfl))))) pss_nil) (pss_cons (ps_if (pt_cmpR op_eq (pv 2) pe_int (nomark _)) (pss_cons (ps_set (i := 5) sc_law_edge.nd rfl (.inl rfl) (pe_tup (pa_cons pe_str (pa_cons (pe_op (op_rep1 K) (pe_tup (pa_cons (pe_tup (pa_cons pe_str (pa_cons (pe_tup pa_nil) pa_nil))) pa_nil)) pe_int) pa_nil)))) (pss_one (ps_ret (pe_tup (pa_cons pe_str (pa_cons (pe_op (opCatA K) (pe_op (op_rep1 K) (pe_tup (pa_cons (pv 5) pa_nil)) pe_int) (pe_tup (pa_cons (pe_tup (pa_cons pe_str (pa_cons (pe_op (op_rep1 K) (pe_tup (pa_cons (pe_tup (pa_cons pe_str (pa_cons (pe_tup pa_nil) pa_nil))) pa_nil)) (pe_op op_add pe_int (pe_cl c_law_take hr (by first | decide | omega) (by rfl) (pa_cons (pv 0) (pa_cons pe_int pa_nil))))) pa_nil))) pa_nil))) pa_nil)))))) pss_nil) (pss_cons (ps_set (i := 6) sc_law_edge.nd rfl (.inl rfl) (pv 1)) (pss_cons (ps_for PassesOwn.never rfl (pi_range1 (by rfl) T.n_range (pa_cons (pe_op op_add pe_int (pe_cl c_law_take hr (by first | decide | omega) (by rfl) (pa_cons (pv 0) (pa_cons pe_int pa_nil)))) pa_nil)) (pg_name (i := 7) sc_law_edge.nd rfl (.inl rfl)) (pss_one (ps_set (i := 6) sc_law_edge.nd rfl (.inl rfl) (pe_tup (pa_cons pe_str (pa_cons (pv 6) pa_nil)))))) (pss_one (ps_ret (pv 6))))))))))), ?_⟩
    refine ⟨_, rfl, a, d, 2, rfl, by decide, hh, fun r1 H1 l1 u1 n1 k1 => ⟨_, _, rfl, rfl, (by show 2 ≤ sizeLine; decide), fun p1 np1 => ⟨(by show 2 ≤ sizeLine; decide), fun p2 np2 => ?_⟩⟩⟩
    obtain ⟨g1, x1, o1⟩ := mkX (K := K) n1 np1 (.cons (.str (x := "1")) (.cons (.int (i := 9999 + r1) (by omega)) .nil)) (by simp)
    obtain ⟨g2, x2, osay⟩ := mkX (K := K) g1 np2 (.cons (.str (x := "say")) (.cons o1 .nil)) (by simp)
    have x12 := (k1.trans x1).trans x2
    generalize upd (upd H1 p1 (.tup [.str "1", .int (9999 + r1)])) p2 (.tup [.str "say", .ref p1]) = H2 at g2 osay x12
    clear np1 np2 g1 x1 o1 x2 k1 n1 l1 u1
    refine ⟨_, rfl, a, d, 5, rfl, by decide, g2, fun kd H3 l3 u3 n3 k3 => ?_⟩
    have osay3 := osay.keep k3
    have x13 := x12.trans k3
    clear osay x12 k3 g2
    refine ⟨_, rfl, rfl, _, rfl, ?_⟩
    by_cases c0 : kd = 0
    · rw [decide_eq_true (congrArg V.int c0)]
      refine ⟨_, rfl, a, d, 2, rfl, by decide, n3, fun r2 H4 l4 u4 n4 k4 => ⟨_, _, rfl, rfl, ?_⟩⟩
      refine ⟨_, rfl, _, rfl, (by show 0 ≤ sizeLine; exact Nat.zero_le _), fun q1 nq1 => ⟨(by show 2 ≤ sizeLine; decide), fun q2 nq2 => ⟨(by show 0 ≤ sizeLine; exact Nat.zero_le _), fun q3 nq3 => ⟨(by show 2 ≤ sizeLine; decide), fun q4 nq4 => ⟨(by show 4 ≤ sizeLine; decide), fun q5 nq5 =>
        ⟨_, rfl, (by show 2 ≤ sizeLine; decide), fun q6 nq6 => ⟨(by show 0 ≤ sizeLine; exact Nat.zero_le _), fun q7 nq7 => ⟨(by show 2 ≤ sizeLine; decide), fun q8 nq8 => ⟨(by show 3 ≤ sizeLine; decide), fun q9 nq9 => ⟨(by show 3 ≤ sizeLine; decide), fun L nL => ?_⟩⟩⟩⟩⟩⟩⟩⟩⟩⟩
      obtain ⟨g1, y1, o1⟩ := mkX (K := K) n4 nq1 .nil (by simp)
      obtain ⟨g2, y2, o2⟩ := mkX (K := K) g1 nq2 (.cons (.str (x := "say")) (.cons o1 .nil)) (by simp)
      obtain ⟨g3, y3, o3⟩ := mkX (K := K) g2 nq3 .nil (by simp)
      obtain ⟨g4, y4, o4⟩ := mkX (K := K) g3 nq4 (.cons (.str (x := "say")) (.cons o3 .nil)) (by simp)
      obtain ⟨g5, y5, o5⟩ := mkX (K := K) g4 nq5 (.cons (.str (x := "look")) (.cons (.int (i := 9999 + r2) (by omega)) (.cons (o2.keep (y3.trans y4)) (.cons o4 .nil)))) (by simp)
      obtain ⟨g6, y6, o6⟩ := mkX (K := K) g5 nq6 (.cons (.str (x := "0")) (.cons (.int (i := 9999 + r2) (by omega)) .nil)) (by simp)
      obtain ⟨g7, y7, o7⟩ := mkX (K := K) g6 nq7 .nil (by simp)
      obtain ⟨g8, y8, o8⟩ := mkX (K := K) g7 nq8 (.cons (.str (x := "say")) (.cons o7 .nil)) (by simp)
      obtain ⟨g9, y9, o9⟩ := mkX (K := K) g8 nq9 (.cons (.str (x := "ask")) (.cons (o6.keep (y7.trans y8)) (.cons o8 .nil))) (by simp)
      have z15 := (((y1.trans y2).trans y3).trans y4).trans y5
      have z69 := ((y6.trans y7).trans y8).trans y9
      have kL := Keep.new (a := a) (o := .lst [.ref p2, .ref q5, .ref q9]) nL
      have hall : OXs K a _ [.ref p2, .ref q5, .ref q9] := (OXs.cons (osay3.keep ((k4.trans z15).trans z69)) (.cons (o5.keep z69) (.cons o9 .nil))).keep kL
      have gL := g9.new (o := .lst [.ref p2, .ref q5, .ref q9]) nL
      have La := (g9.ne nL).1
      refine ⟨_, rfl, a, d, 3, rfl, by decide, gL, fun r H6 l6 u6 n6 k6 => ?_⟩
      obtain ⟨j, rfl⟩ : ∃ j : Nat, r = (j : Int) := ⟨r.toNat, by omega⟩
      obtain ⟨x, hx⟩ : ∃ x : V, ([.ref p2, .ref q5, .ref q9] : List V)[j]? = some x := ⟨_, List.getElem?_eq_getElem (by show j < 3; omega)⟩
      exact ⟨L, _, (j : Int), x, rfl, rfl, .inl (.inl (k6 _ _ upd_same La)), atI_nat hx, q x _ ((hall.get hx).keep k6) n6 ((((x13.trans k4).trans (z15.trans z69)).trans kL).trans k6)⟩
    rw [decide_eq_false (fun e => c0 (V.int.inj e))]
    refine ⟨_, rfl, rfl, _, rfl, ?_⟩
    by_cases c1 : kd = 1
    · rw [decide_eq_true (congrArg V.int c1)]
      refine ⟨_, rfl, (by show 1 ≤ sizeLine; decide), fun q1 nq1 => ⟨_, rfl, a, d, 3, rfl, by decide, n3.new nq1, fun r H4 l4 u4 n4 k4 => ⟨_, _, rfl, rfl, q1, 63 + r, .ref p2, rfl, rfl, .inl (.inl (k4 _ _ upd_same (n3.ne nq1).1)), by omega, by omega, fun t H5 s5 hT => ⟨(by show 2 ≤ sizeLine; decide), fun q2 nq2 => ?_⟩⟩⟩⟩
      have kk := ((Keep.new (a := a) (o := .tup [.ref p2]) nq1).trans k4).trans (Keep.same s5)
      have n5 := n4.same s5
      have ot : OX K a H5 (.ref t) := OX.tup n5 hT (OXs.rep (osay3.keep kk) _) (by rw [List.length_replicate]; omega)
      obtain ⟨g2, y2, o2⟩ := mkX (K := K) n5 nq2 (.cons (.str (x := "toss")) (.cons ot .nil)) (by simp)
      exact q _ _ o2 g2 ((x13.trans kk).trans y2)
    rw [decide_eq_false (fun e => c1 (V.int.inj e))]
    refine ⟨_, rfl, rfl, _, rfl, ?_⟩
    by_cases c2 : kd = 2
    · rw [decide_eq_true (congrArg V.int c2)]
      refine ⟨_, rfl, a, d, 58, rfl, by decide, n3, fun v H4 ov n4 k4 => ?_⟩
      refine ⟨_, rfl, _, rfl, (by show 2 ≤ sizeLine; decide), fun q1 nq1 => ⟨_, rfl, (by show 3 ≤ sizeLine; decide), fun q2 nq2 => ⟨(by show 4 ≤ sizeLine; decide), fun q3 nq3 => ⟨(by show 3 ≤ sizeLine; decide), fun L nL => ?_⟩⟩⟩⟩
      obtain ⟨g1, y1, o1⟩ := mkX (K := K) n4 nq1 (.cons (.str (x := "bit")) (.cons ov .nil)) (by simp)
      obtain ⟨g2, y2, o2⟩ := mkX (K := K) g1 nq2 (.cons (.str (x := "cut")) (.cons (.int (i := 2) (by decide)) (.cons (ov.keep y1) .nil))) (by simp)
      obtain ⟨g3, y3, o3⟩ := mkX (K := K) g2 nq3 (.cons (.str (x := "marks")) (.cons (.int (i := 1) (by decide)) (.cons (.int (i := 1) (by decide)) (.cons o2 .nil)))) (by simp)
      have kL := Keep.new (a := a) (o := .lst [v, .ref q1, .ref q3]) nL
      have z13 := (y1.trans y2).trans y3
      have hall : OXs K a _ [v, .ref q1, .ref q3] := (OXs.cons (ov.keep z13) (.cons (o1.keep (y2.trans y3)) (.cons o3 .nil))).keep kL
      have gL := g3.new (o := .lst [v, .ref q1, .ref q3]) nL
      have La := (g3.ne nL).1
      refine ⟨_, rfl, a, d, 3, rfl, by decide, gL, fun r H6 l6 u6 n6 k6 => ?_⟩
      obtain ⟨j, rfl⟩ : ∃ j : Nat, r = (j : Int) := ⟨r.toNat, by omega⟩
      obtain ⟨x, hx⟩ : ∃ x : V, ([v, .ref q1, .ref q3] : List V)[j]? = some x := ⟨_, List.getElem?_eq_getElem (by show j < 3; omega)⟩
      exact ⟨L, _, (j : Int), x, rfl, rfl, .inl (.inl (k6 _ _ upd_same La)), atI_nat hx, q x _ ((hall.get hx).keep k6) n6 ((((x13.trans k4).trans z13).trans kL).trans k6)⟩
    rw [decide_eq_false (fun e => c2 (V.int.inj e))]
    refine ⟨_, rfl, rfl, _, rfl, ?_⟩
    by_cases c3 : kd = 3
    · rw [decide_eq_true (congrArg V.int c3)]
      refine ⟨(by show 0 ≤ sizeLine; exact Nat.zero_le _), fun q1 nq1 => ⟨(by show 2 ≤ sizeLine; decide), fun q2 nq2 => ⟨(by show 1 ≤ sizeLine; decide), fun q3 nq3 => ⟨q3, 49, .ref q2, rfl, rfl, .inl (.inl upd_same), by decide, by decide, fun t4 H4 s4 hT4 => ⟨(by show 2 ≤ sizeLine; decide), fun q5 nq5 => ?_⟩⟩⟩⟩⟩
      obtain ⟨g1, y1, o1⟩ := mkX (K := K) n3 nq1 .nil (by simp)
      obtain ⟨g2, y2, o2⟩ := mkX (K := K) g1 nq2 (.cons (.str (x := "say")) (.cons o1 .nil)) (by simp)
      have kk := (Keep.new (a := a) (o := .tup [.ref q2]) nq3).trans (Keep.same s4)
      have n4 := (g2.new (o := .tup [.ref q2]) nq3).same s4
      have o4 : OX K a H4 (.ref t4) := OX.tup n4 hT4 (OXs.rep (o2.keep kk) _) (by rw [List.length_replicate]; decide)
      obtain ⟨g5, y5, orow⟩ := mkX (K := K) n4 nq5 (.cons (.str (x := "toss")) (.cons o4 .nil)) (by simp)
      have z5 := ((y1.trans y2).trans kk).trans y5
      clear g1 y1 o1 g2 y2 o2 kk n4 o4 y5
      refine ⟨_, rfl, (by show 1 ≤ sizeLine; decide), fun q6 nq6 => ⟨q6, 39, .ref q5, rfl, rfl, .inl (.inl upd_same), by decide, by decide, fun t7 H7 s7 hT7 => ?_⟩⟩
      have k7 := (Keep.new (a := a) (o := .tup [.ref q5]) nq6).trans (Keep.same s7)
      have n7 := (g5.new (o := .tup [.ref q5]) nq6).same s7
      have o7 := OXs.rep (orow.keep k7) (39 : Int).toNat
      refine ⟨(by show 0 ≤ sizeLine; exact Nat.zero_le _), fun q8 nq8 => ⟨(by show 2 ≤ sizeLine; decide), fun q9 nq9 => ⟨(by show 1 ≤ sizeLine; decide), fun q10 nq10 => ?_⟩⟩⟩
      obtain ⟨g8, y8, o8⟩ := mkX (K := K) n7 nq8 .nil (by simp)
      obtain ⟨g9, y9, o9⟩ := mkX (K := K) g8 nq9 (.cons (.str (x := "say")) (.cons o8 .nil)) (by simp)
      have k10 := Keep.new (a := a) (o := .tup [.ref q9]) nq10
      refine ⟨_, rfl, a, d, 3, rfl, by decide, g9.new nq10, fun r H11 l11 u11 n11 k11 => ⟨_, _, rfl, rfl, q10, 48 + r, .ref q9, rfl, rfl, .inl (.inl (k11 _ _ upd_same (g9.ne nq10).1)), by omega, by omega, fun t12 H12 s12 hT12 => ⟨(by show 2 ≤ sizeLine; decide), fun q13 nq13 => ⟨(by show 1 ≤ sizeLine; decide), fun q14 nq14 => ?_⟩⟩⟩⟩
      have k12 := (k10.trans k11).trans (Keep.same s12)
      have n12 := n11.same s12
      have o12 : OX K a H12 (.ref t12) := OX.tup n12 hT12 (OXs.rep (o9.keep k12) _) (by rw [List.length_replicate]; omega)
      obtain ⟨g13, y13, o13⟩ := mkX (K := K) n12 nq13 (.cons (.str (x := "toss")) (.cons o12 .nil)) (by simp)
      have y14 := Keep.new (a := a) (o := .tup [.ref q13]) nq14
      have g14 := g13.new (o := .tup [.ref q13]) nq14
      have z14 := (((y8.trans y9).trans k12).trans y13).trans y14
      have hT7' : SqT K _ t7 (List.replicate (39 : Int).toNat (.ref q5)) := sqt_on (same_sqt z14.off (sqt_off n7 hT7))
      refine cat_any hT7' (.inl (.inl upd_same)) (by rw [List.length_replicate, sizeLine_eq]; show 39 + 1 ≤ 16777216; decide) fun t15 H15 s15 hT15 => ⟨(by show 2 ≤ sizeLine; decide), fun q16 nq16 => ?_⟩
      have n15 := g14.same s15
      have o15 : OX K a H15 (.ref t15) := OX.tup n15 hT15 ((OXs.app (o7.keep z14) (.cons (o13.keep y14) .nil)).keep (Keep.same s15)) (by rw [List.length_append, List.length_replicate]; show 39 + 1 ≤ 100; decide)
      obtain ⟨g16, y16, o16⟩ := mkX (K := K) n15 nq16 (.cons (.str (x := "toss")) (.cons o15 .nil)) (by simp)
      exact q _ _ o16 g16 (((((x13.trans z5).trans k7).trans z14).trans (Keep.same s15)).trans y16)
    rw [decide_eq_false (fun e => c3 (V.int.inj e))]
    refine ⟨_, rfl, ?_⟩
    refine ⟨_, rfl, a, d, 3, rfl, by decide, n3, fun r H4 l4 u4 n4 k4 => ⟨_, _, rfl, rfl, ?_⟩⟩
    obtain ⟨many, em, hm⟩ : ∃ n : Nat, (19 : Int) + r = (n : Int) ∧ n ≤ 30 := ⟨((19 : Int) + r).toNat, by omega, by omega⟩
    refine ⟨(19 : Int) + r, rfl, by omega, by omega, ?_⟩
    rw [em]
    refine for_range (lo := 0) (n := many) (fun i σ H' => ∃ (v : V) (y7 : Option V), σ = [some (.ref a), some (.ref p2), some (.int kd), none, none, none, some v, y7] ∧ OX K a H' v ∧ Hnd H' a d ∧ Keep a H H') ?_ ?_ ?_
    · exact ⟨_, none, rfl, osay3.keep k4, n4, x13.trans k4⟩
    · rintro i σ H5 hi ⟨v, y7, rfl, ov, h5, k5⟩
      refine ⟨_, rfl, (by show 2 ≤ sizeLine; decide), fun q1 nq1 => ?_⟩
      obtain ⟨g1, y1, o1⟩ := mkX (K := K) h5 nq1 (.cons (.str (x := "bit")) (.cons ov .nil)) (by simp)
      exact ⟨_, _, rfl, o1, g1, k5.trans y1⟩
    · rintro σ H5 ⟨v, y7, rfl, ov, h5, k5⟩
      exact ⟨_, rfl, q v H5 ov h5 k5⟩
theorem ok_wrong {f : Addr} {fd : FuncData} (D : Df K mg "_law_wrong_blocks" s_law_wrong_blocks ["hand", "plain"] f fd) (T : Txt K w mg cs) (c_law_take : Cl P w K mg base CX0 1 "_law_take" spTake) (c_law_table : Cl P w K mg base CX0 3 "_law_table" (spTable K)) (c_law_function : Cl P w K mg base CX0 3 "_law_function" (spFunction K)) : FnOk P w K mg base CX0 4 f fd ["hand", "plain"] (spWrong K) := by
  refine D.fn.ok sc_law_wrong_blocks (fun vs H Q E h => ?_) (fun cdv A outer s H vs Q E hr h => ?_)
  · obtain ⟨a, d, v, rfl, _⟩ := h
    rfl
  · obtain ⟨a, d, v, rfl, ov, hh, q⟩ := h
    refine ⟨_, (pss_cons (ps_set (i := 2) sc_law_wrong_blocks.nd rfl (.inl rfl) (pe_op op_add pe_int (pe_cl c_law_take hr (by first | decide | omega) (by rfl) (pa_cons (pv 0) (pa_cons pe_int pa_nil))))) (pss_cons (ps_set (i := 3) sc_law_wrong_blocks.nd rfl (.inl rfl) (pe_op op_add pe_int (pe_cl c_law_take hr (by first | decide | omega) (by rfl) (pa_cons (pv 0) (pa_cons pe_int pa_nil))))) (pss_cons (ps_set (i := 4) sc_law_wrong_blocks.nd rfl (.inl rfl) (pe_cl c_law_table hr (by first | decide | omega) (by rfl) (pa_cons (pv 0) (pa_cons (pv 2) (pa_cons (pv 3) pa_nil))))) (pss_cons (ps_set (i := 5) sc_law_wrong_blocks.nd rfl (.inl rfl) (pe_cl c_law_function hr (by first | decide | omega) (by rfl) (pa_cons (pv 0) (pa_cons pe_int (pa_cons pe_int (pa_cons (pe_op op_add pe_int (pe_cl c_law_take hr (by first | decide | omega) (by rfl) (pa_cons (pv 0) (pa_cons pe_int pa_nil)))) pa_nil)))))) (pss_cons (ps_set (i := 6) sc_law_wrong_blocks.nd rfl (.inl rfl) (pe_tup (pa_cons pe_str (pa_cons pe_int (pa_cons pe_int (pa_cons (pe_op (op_rep1 K) (pe_tup (pa_cons (pe_op op_repS pe_str pe_int) pa_nil)) pe_int) pa_nil)))))) (pss_cons (ps_set (i := 7) sc_law_wrong_blocks.nd rfl (.inl rfl) (pe_lst (pa_cons (pe_tup (pa_cons pe_str (pa_cons (pv 4) (pa_cons pe_int (pa_cons (pv 1) pa_nil))))) (pa_cons (pe_tup (pa_cons pe_str (pa_cons (pv 4) (pa_cons pe_int (pa_cons pe_int (pa_cons (pv 1) pa_nil)))))) (pa_cons (pe_tup (pa_cons pe_str (pa_cons (pv 4) (pa_cons pe_int (pa_cons (pe_tup (pa_cons pe_str (pa_cons (pv 1) pa_nil))) pa_nil))))) pa_nil))))) (pss_cons (ps_set (i := 7) sc_law_wrong_blocks.nd rfl (.inl rfl) (pe_op op_cat (pv 7) (pe_lst (pa_cons (pe_tup (pa_cons pe_str (pa_cons (pv 5) (pa_cons pe_int (pa_cons (pv 1) pa_nil))))) (pa_cons (pe_tup (pa_cons pe_str (pa_cons (pv 5) (pa_cons pe_int (pa_cons pe_int (pa_cons (pv 1) pa_nil)))))) (pa_cons (pe_tup (pa_cons pe_str (pa_cons (pv 5) (pa_cons pe_int (pa_cons (pv 1) pa_nil))))) pa_nil)))))) (pss_cons (ps_set (i := 7) sc_law_wrong_blocks.nd rfl (.inl rfl) (pe_op op_cat (pv 7) (pe_lst (pa_cons (pe_tup (pa_cons pe_str (pa_cons (pv 6) (pa_cons (pe_op op_add pe_int (pe_cl c_law_take hr (by first | decide | omega) (by rfl) (pa_cons (pv 0) (pa_cons pe_int pa_nil)))) (pa_cons pe_int (pa_cons (pv 1) pa_nil)))))) (pa_cons (pe_tup (pa_cons pe_str (pa_cons (pv 4) (pa_cons pe_int (pa_cons (pv 1) pa_nil))))) pa_nil))))) (pss_one (ps_ret (pe_op op_cat (pv 7) (pe_lst (pa_cons (pe_tup (pa_cons pe_str (pa_cons (pe_op (opCatA K) (pe_slice (slTA K) (pv 4) po_none (po_some pe_int)) (pe_tup (pa_cons (pe_op (opCatA K) (pe_slice (slTA K) (pe_ix (ixT K) (pv 4) pe_int (fun _ _ => rfl)) po_none (po_some (pe_un un_neg pe_int))) (pe_tup (pa_cons pe_str pa_nil))) pa_nil))) (pa_cons pe_int (pa_cons (pv 1) pa_nil))))) (pa_cons (pe_tup (pa_cons pe_str (pa_cons (pe_tup (pa_cons pe_str (pa_cons (pe_tup pa_nil) pa_nil))) (pa_cons pe_int (pa_cons (pv 1) pa_nil))))) pa_nil)))))))))))))), ?_⟩
    refine ⟨_, rfl, a, d, 2, rfl, by decide, hh, fun r1 H1 l1 u1 n1 k1 => ⟨_, _, rfl, rfl, ?_⟩⟩
    obtain ⟨n, en, hn⟩ : ∃ n : Nat, (1 : Int) + r1 = (n : Int) ∧ 1 ≤ n ∧ n ≤ 2 := ⟨(1 + r1).toNat, by omega, by omega, by omega⟩
    show gName 2 (V.int (1 + r1)) _ _ _
    rw [en]
    refine ⟨_, rfl, a, d, 5, rfl, by decide, n1, fun r2 H2 l2 u2 n2 k2 => ⟨_, _, rfl, rfl, ?_⟩⟩
    obtain ⟨m, em, hm⟩ : ∃ n : Nat, (1 : Int) + r2 = (n : Int) ∧ 1 ≤ n ∧ n ≤ 5 := ⟨(1 + r2).toNat, by omega, by omega, by omega⟩
    show gName 3 (V.int (1 + r2)) _ _ _
    rw [em]
    clear en l1 u1 em l2 u2
    refine ⟨_, rfl, _, rfl, _, rfl, a, d, n, m, rfl, by omega, by omega, n2, fun tv rows H3 hl hrw hd n3 k3 => ?_⟩
    have wf : Wf n m rows := ⟨hn.1, by omega, hm.1, by omega, hl, hrw⟩
    have k13 := (k1.trans k2).trans k3
    obtain ⟨ta, tr, rfl, hTa, hTr⟩ := dp_tab hd
    have ot : OX K a H3 (.ref ta) := OX.of hd (wf.pz (by omega))
    refine ⟨_, rfl, _, rfl, a, d, 2, rfl, by decide, n3, fun r3 H4 l4 u4 n4 k4 => ⟨_, _, rfl, rfl, ?_⟩⟩
    obtain ⟨mm, emm, hmm⟩ : ∃ n : Nat, (1 : Int) + r3 = (n : Int) ∧ 1 ≤ n ∧ n ≤ 2 := ⟨(1 + r3).toNat, by omega, by omega, by omega⟩
    refine ⟨a, d, 1, 1, mm, ?_, by omega, by omega, by omega, n4, fun fv tabs H5 hl2 hr2 hd2 n5 k5 => ?_⟩
    · show [V.ref a, V.int 1, V.int 1, V.int (1 + r3)] = _
      rw [emm]
      rfl
    have of : OX K a H5 fv := OX.of hd2 (pz_fun hl2 hr2 hmm.2)
    have k35 := k4.trans k5
    have ot5 := ot.keep k35
    have ov5 := ov.keep (k13.trans k35)
    have hTa5 := same_sqt k35.off hTa
    have hTr5 := same_sqt k35.off hTr
    have x05 := k13.trans k35
    clear k1 k2 k3 k4 k5 n1 n2 n3 n4 ot ov hTa hTr k13 k35 l4 u4 emm hd hd2 hh
    -- wide
    refine ⟨[48], 10, rfl, rfl, ⟨by decide, by decide, by decide⟩, (by show 1 ≤ sizeLine; decide), fun p1 np1 => ⟨p1, 32, _, rfl, rfl, .inl (.inl upd_same), by decide, by decide, fun t2 H7 s7 hT2 => ⟨(by show 4 ≤ sizeLine; decide), fun p3 np3 => ?_⟩⟩⟩
    have y1 := (Keep.new (a := a) (o := .tup [.str (SX.S (List.replicate (10 : Int).toNat [48]).flatten)]) np1).trans (Keep.same s7)
    have n7 := (n5.new (o := .tup [.str (SX.S (List.replicate (10 : Int).toNat [48]).flatten)]) np1).same s7
    have o2 : OX K a H7 (.ref t2) := OX.tup n7 hT2 (OXs.rep (OX.str (by decide +kernel) (by decide +kernel)) _) (by rw [List.length_replicate]; decide)
    obtain ⟨n8, y3, ow⟩ := mkX (K := K) n7 np3 (.cons (.str (x := "generator")) (.cons (.int (i := 5) (by decide)) (.cons (.int (i := 10) (by decide)) (.cons o2 .nil)))) (by simp)
    have z8 := y1.trans y3
    have ot8 := ot5.keep z8
    have of8 := of.keep z8
    have ov8 := ov5.keep z8
    have hTa8 := same_sqt z8.off hTa5
    have hTr8 := same_sqt z8.off hTr5
    have x08 := x05.trans z8
    generalize upd H7 p3 (.tup [.str "generator", .int 5, .int 10, .ref t2]) = H8 at n8 ow ot8 of8 ov8 hTa8 hTr8 x08
    clear y1 n7 o2 y3 z8 ot5 of ov5 hTa5 hTr5 x05 np1 np3 s7 hT2 n5
    -- the first three
    refine ⟨_, rfl, _, rfl, (by show 4 ≤ sizeLine; decide), fun q1 nq1 => ⟨_, rfl, _, rfl, (by show 5 ≤ sizeLine; decide), fun q2 nq2 => ⟨_, rfl, _, rfl, (by show 2 ≤ sizeLine; decide), fun q3 nq3 => ⟨(by show 4 ≤ sizeLine; decide), fun q4 nq4 => ⟨(by show 3 ≤ sizeLine; decide), fun L1 nL1 => ?_⟩⟩⟩⟩⟩
    have i1 : ∀ {G : Hp}, OX K a G (.int 1) := fun {G} => OX.int (by decide)
    obtain ⟨g1, y1, o1⟩ := mkX (K := K) n8 nq1 (.cons (.str (x := "longer")) (.cons ot8 (.cons i1 (.cons ov8 .nil)))) (by simp)
    obtain ⟨g2, y2, o2⟩ := mkX (K := K) g1 nq2 (.cons (.str (x := "tree")) (.cons (ot8.keep y1) (.cons i1 (.cons i1 (.cons (ov8.keep y1) .nil))))) (by simp)
    obtain ⟨g3, y3, o3⟩ := mkX (K := K) g2 nq3 (.cons (.str (x := "bit")) (.cons (ov8.keep (y1.trans y2)) .nil)) (by simp)
    have z3 := (y1.trans y2).trans y3
    obtain ⟨g4, y4, o4⟩ := mkX (K := K) g3 nq4 (.cons (.str (x := "onetime")) (.cons (ot8.keep z3) (.cons i1 (.cons o3 .nil)))) (by simp)
    obtain ⟨gL, yL, eL, La⟩ := mkLs (vs := [.ref q1, .ref q2, .ref q4]) g4 nL1
    have h1 : OXs K a _ [.ref q1, .ref q2, .ref q4] := (OXs.cons (o1.keep ((y2.trans y3).trans y4)) (.cons (o2.keep (y3.trans y4)) (.cons o4 .nil))).keep yL
    have zL := (z3.trans y4).trans yL
    have ot9 := ot8.keep zL
    have of9 := of8.keep zL
    have ov9 := ov8.keep zL
    have ow9 := ow.keep zL
    have hTa9 := same_sqt zL.off hTa8
    have hTr9 := same_sqt zL.off hTr8
    have x09 := x08.trans zL
    generalize upd (upd (upd (upd (upd H8 q1 (.tup [.str "longer", .ref ta, .int 1, v])) q2 (.tup [.str "tree", .ref ta, .int 1, .int 1, v])) q3 (.tup [.str "bit", v])) q4 (.tup [.str "onetime", .ref ta, .int 1, .ref q3])) L1 (.lst [.ref q1, .ref q2, .ref q4]) = H9 at gL eL h1 ot9 of9 ov9 ow9 hTa9 hTr9 x09
    clear g1 y1 o1 g2 y2 o2 g3 y3 o3 z3 g4 y4 o4 yL zL nq1 nq2 nq3 nq4 nL1 ot8 of8 ov8 ow hTa8 hTr8 x08 n8
    -- over functions
    refine ⟨_, rfl, _, rfl, _, rfl, (by show 4 ≤ sizeLine; decide), fun q1' nq1 => ⟨_, rfl, _, rfl, (by show 5 ≤ sizeLine; decide), fun q2' nq2 => ⟨_, rfl, _, rfl, (by show 4 ≤ sizeLine; decide), fun q3' nq3 => ⟨(by show 3 ≤ sizeLine; decide), fun L2 nL2 => ?_⟩⟩⟩⟩
    obtain ⟨g1, y1, o1⟩ := mkX (K := K) gL nq1 (.cons (.str (x := "longer")) (.cons of9 (.cons i1 (.cons ov9 .nil)))) (by simp)
    obtain ⟨g2, y2, o2⟩ := mkX (K := K) g1 nq2 (.cons (.str (x := "tree")) (.cons (of9.keep y1) (.cons i1 (.cons i1 (.cons (ov9.keep y1) .nil))))) (by simp)
    have z2 := y1.trans y2
    obtain ⟨g3, y3, o3⟩ := mkX (K := K) g2 nq3 (.cons (.str (x := "onetime")) (.cons (of9.keep z2) (.cons i1 (.cons (ov9.keep z2) .nil)))) (by simp)
    obtain ⟨g4, y4, e4, L2a⟩ := mkLs (vs := [.ref q1', .ref q2', .ref q3']) g3 nL2
    have z4 := (z2.trans y3).trans y4
    refine ⟨L1, L2, _, _, rfl, rfl, z4 _ _ eL La, e4, (by rw [sizeLine_eq]; show 3 + 3 ≤ 16777216; decide), fun L3 nL3 => ?_⟩
    obtain ⟨g5, y5, e5, L3a⟩ := mkLs (vs := [.ref q1, .ref q2, .ref q4] ++ [.ref q1', .ref q2', .ref q3']) g4 nL3
    have h2 : OXs K a _ ([.ref q1, .ref q2, .ref q4] ++ [.ref q1', .ref q2', .ref q3']) := ((h1.keep z4).app ((OXs.cons (o1.keep (y2.trans y3)) (.cons (o2.keep y3) (.cons o3 .nil))).keep y4)).keep y5
    have z5 := z4.trans y5
    have ot10 := ot9.keep z5
    have ov10 := ov9.keep z5
    have ow10 := ow9.keep z5
    have hTa10 := same_sqt z5.off hTa9
    have hTr10 := same_sqt z5.off hTr9
    have x10 := x09.trans z5
    generalize upd (upd (upd (upd (upd H9 q1' (.tup [.str "longer", fv, .int 1, v])) q2' (.tup [.str "tree", fv, .int 1, .int 1, v])) q3' (.tup [.str "onetime", fv, .int 1, v])) L2 (.lst [.ref q1', .ref q2', .ref q3'])) L3 (.lst ([.ref q1, .ref q2, .ref q4] ++ [.ref q1', .ref q2', .ref q3'])) = H10 at g5 e5 h2 ot10 ov10 ow10 hTa10 hTr10 x10
    clear g1 y1 o1 g2 y2 o2 g3 y3 o3 g4 y4 e4 z2 z4 y5 z5 nq1 nq2 nq3 nL2 nL3 h1 eL La gL ot9 of9 ov9 ow9 hTa9 hTr9 x09 L2a
    -- wide trees
    refine ⟨_, rfl, _, rfl, _, rfl, a, d, 2, rfl, by decide, g5, fun r4 H11 l11 u11 n11 k11 => ⟨_, _, rfl, rfl, _, rfl, (by show 5 ≤ sizeLine; decide), fun s1' ns1 => ⟨_, rfl, _, rfl, (by show 4 ≤ sizeLine; decide), fun s2' ns2 => ⟨(by show 2 ≤ sizeLine; decide), fun L4 nL4 => ?_⟩⟩⟩⟩
    obtain ⟨g1, y1, o1⟩ := mkX (K := K) n11 ns1 (.cons (.str (x := "tree")) (.cons (ow10.keep k11) (.cons (.int (i := 7 + r4) (by omega)) (.cons i1 (.cons (ov10.keep k11) .nil))))) (by simp)
    obtain ⟨g2, y2, o2⟩ := mkX (K := K) g1 ns2 (.cons (.str (x := "onetime")) (.cons (ot10.keep (k11.trans y1)) (.cons i1 (.cons (ov10.keep (k11.trans y1)) .nil)))) (by simp)
    obtain ⟨g3, y3, e3, L4a⟩ := mkLs (vs := [.ref s1', .ref s2']) g2 nL4
    have z3 := ((k11.trans y1).trans y2).trans y3
    refine ⟨L3, L4, _, _, rfl, rfl, z3 _ _ e5 L3a, e3, (by rw [sizeLine_eq]; show 6 + 2 ≤ 16777216; decide), fun L5 nL5 => ?_⟩
    obtain ⟨g4, y4, e4, L5a⟩ := mkLs (vs := ([.ref q1, .ref q2, .ref q4] ++ [.ref q1', .ref q2', .ref q3']) ++ [.ref s1', .ref s2']) g3 nL5
    have h3 : OXs K a _ (([.ref q1, .ref q2, .ref q4] ++ [.ref q1', .ref q2', .ref q3']) ++ [.ref s1', .ref s2']) := ((h2.keep z3).app ((OXs.cons (o1.keep y2) (.cons o2 .nil)).keep y3)).keep y4
    have z4 := z3.trans y4
    have ov12 := ov10.keep z4
    have hTa12 := same_sqt z4.off hTa10
    have hTr12 := same_sqt z4.off hTr10
    have x12 := x10.trans z4
    generalize upd (upd (upd (upd H11 s1' (.tup [.str "tree", .ref p3, .int (7 + r4), .int 1, v])) s2' (.tup [.str "onetime", .ref ta, .int 1, v])) L4 (.lst [.ref s1', .ref s2'])) L5 (.lst (([.ref q1, .ref q2, .ref q4] ++ [.ref q1', .ref q2', .ref q3']) ++ [.ref s1', .ref s2'])) = H12 at g4 e4 h3 ov12 hTa12 hTr12 x12
    clear g1 y1 o1 g2 y2 o2 g3 y3 e3 z3 y4 z4 ns1 ns2 nL4 nL5 k11 n11 l11 u11 h2 e5 L3a g5 ot10 ov10 ow10 hTa10 hTr10 x10 L4a
    -- the last two
    have hTaO := sqt_on hTa12
    refine ⟨_, rfl, _, rfl, 3, rfl, sl_any hTaO fun w1 H13 s13 hw1 => ?_⟩
    refine ⟨_, rfl, ta, _, 3, .ref tr, rfl, rfl, same_sqt s13 hTaO, rfl, 1, rfl, -1, rfl, sl_any (same_sqt s13 (sqt_on hTr12)) fun w2 H14 s14 hw2 => ⟨(by show 1 ≤ sizeLine; decide), fun w3 nw3 => ?_⟩⟩
    have n14 := g4.same (s13.trans s14)
    have orows : ∀ G : Hp, OXs K a G (rows.map fun r => V.str (sb r)) := fun G => ⟨0, _, dp_bits rows, fun x hx => by
      obtain ⟨r, hr, rfl⟩ := List.mem_map.mp hx
      refine gz_str.mpr ⟨(okT_sb (r := r) (by rw [hrw r hr]; omega)).1, ?_⟩
      rw [sb_len, hrw r hr]
      omega⟩
    have ocut : OXs K a H14 (cutV (rows.map fun r => V.str (sb r)) none (some (-1))) := by
      obtain ⟨nn, h⟩ := orows H14
      exact ⟨nn, h.cut none (some (-1))⟩
    have hrl : rows.length ≤ 4 := by
      rw [hl]
      exact Nat.le_trans (two_pow_le hn.2) (by decide)
    have lcut : (cutV (rows.map fun r => V.str (sb r)) none (some (-1))).length ≤ 4 := by
      unfold cutV
      rw [List.length_take, List.length_drop, List.length_map]
      omega
    have k14 := Keep.same (a := a) (s13.trans s14)
    have x3w := Keep.new (a := a) (o := .tup [.str "2"]) nw3
    have n15 := n14.new (o := .tup [.str "2"]) nw3
    refine cat_any (same_sqt (same_new nw3) hw2) (.inl (.inl upd_same)) (by rw [sizeLine_eq]; show _ + 1 ≤ 16777216; omega) fun w4 H16 s16 hw4 => ⟨(by show 1 ≤ sizeLine; decide), fun w5 nw5 => ?_⟩
    have n16 := n15.same s16
    have k16 := x3w.trans (Keep.same (a := a) s16)
    have o4 : OX K a H16 (.ref w4) := OX.tup n16 hw4 ((ocut.keep k16).app (.cons .str .nil)) (by rw [List.length_append]; show _ + 1 ≤ 100; omega)
    obtain ⟨n17, x17, o5⟩ := mkX (K := K) n16 nw5 (.cons o4 .nil) (by simp)
    have hw1' : SqT K (upd H16 w5 (.tup [.ref w4])) w1 (cutV [.str "generator", .int (n : Int), .int (m : Int), .ref tr] none (some 3)) := same_sqt ((((s14.trans (same_new nw3)).trans s16)).trans (same_new nw5)) hw1
    refine cat_any hw1' (.inl (.inl upd_same)) (by rw [sizeLine_eq]; show 3 + 1 ≤ 16777216; decide) fun w6 H18 s18 hw6 => ⟨_, rfl, (by show 4 ≤ sizeLine; decide), fun w7 nw7 => ?_⟩
    have n18 := n17.same s18
    have k18 := (((k14.trans k16).trans x17).trans (Keep.same (a := a) s18))
    have o6 : OX K a H18 (.ref w6) := OX.tup n18 hw6 (OXs.app (vs := [.str "generator", .int (n : Int), .int (m : Int)]) (.cons .str (.cons (.int (by omega)) (.cons (.int (by omega)) .nil))) (.cons (o4.keep (x17.trans (Keep.same s18))) .nil)) (by show 3 + 1 ≤ 100; decide)
    have e18 := k18 _ _ e4 L5a
    have h18 := h3.keep k18
    have ov18 := ov12.keep k18
    have x018 := x12.trans k18
    clear o5 x17 n17 o4 k16 n16 x3w n15 k14 lcut ocut orows n14 hw1' hw2 hw1 hw4 hw6 s13 s14 s16 s18 hTa12 hTr12 hTaO e4 h3 ov12 x12 g4 k18
    obtain ⟨g1, y1, o1⟩ := mkX (K := K) n18 nw7 (.cons (.str (x := "longer")) (.cons o6 (.cons i1 (.cons ov18 .nil)))) (by simp)
    refine ⟨(by show 0 ≤ sizeLine; exact Nat.zero_le _), fun w8 nw8 => ⟨(by show 2 ≤ sizeLine; decide), fun w9 nw9 => ⟨_, rfl, (by show 4 ≤ sizeLine; decide), fun w10 nw10 => ⟨(by show 2 ≤ sizeLine; decide), fun L6 nL6 => ?_⟩⟩⟩⟩
    obtain ⟨g2, y2, o2⟩ := mkX (K := K) g1 nw8 .nil (by simp)
    obtain ⟨g3, y3, o3⟩ := mkX (K := K) g2 nw9 (.cons (.str (x := "say")) (.cons o2 .nil)) (by simp)
    have z3 := (y1.trans y2).trans y3
    obtain ⟨g4, y4, o4⟩ := mkX (K := K) g3 nw10 (.cons (.str (x := "longer")) (.cons o3 (.cons i1 (.cons (ov18.keep z3) .nil)))) (by simp)
    obtain ⟨g5, y5, e5, L6a⟩ := mkLs (vs := [.ref w7, .ref w10]) g4 nL6
    have z5 := (z3.trans y4).trans y5
    refine ⟨L5, L6, _, _, rfl, rfl, z5 _ _ e18 L5a, e5, (by rw [sizeLine_eq]; show 8 + 2 ≤ 16777216; decide), fun L7 nL7 => ?_⟩
    obtain ⟨g6, y6, e6, L7a⟩ := mkLs (vs := (([.ref q1, .ref q2, .ref q4] ++ [.ref q1', .ref q2', .ref q3']) ++ [.ref s1', .ref s2']) ++ [.ref w7, .ref w10]) g5 nL7
    exact q L7 _ _ L7a e6 (((h18.keep z5).app ((OXs.cons (o1.keep ((y2.trans y3).trans y4)) (.cons o4 .nil)).keep y5)).keep y6) (by show 10 ≤ 50; decide) g6 ((x018.trans z5).trans y6)

end
theorem fit_len {z : Str} {a b : List PyData} (ha : fitZ z a = true) (hb : fitZ z b = true) : a.length = b.length := by
  unfold fitZ at ha hb
  by_cases h : z ∈ numK
  · rw [if_pos h] at ha hb
    have key : ∀ c : List PyData, numsOk c (numOf z) = true → c.length = (numOf z).length := fun c hc => by
      by_cases e : c.length = (numOf z).length
      · exact e
      · rw [nums_len e] at hc
        cases hc
    rw [key a ha, key b hb]
  · rw [if_neg h] at ha hb
    by_cases h1 : z = "longer"
    · rw [if_pos h1] at ha hb
      have key : ∀ c : List PyData, fitLonger c = true → c.length = 2 := fun c hc => by
        by_cases e : c.length = 2
        · exact e
        · rw [fitLonger_no e] at hc
          cases hc
      rw [key a ha, key b hb]
    rw [if_neg h1] at ha hb
    by_cases h2 : z = "tree"
    · rw [if_pos h2] at ha hb
      have key : ∀ c : List PyData, fitTree c = true → c.length = 3 := fun c hc => by
        by_cases e : c.length = 3
        · exact e
        · rw [fitTree_no e] at hc
          cases hc
      rw [key a ha, key b hb]
    rw [if_neg h2] at ha hb
    by_cases h3 : z = "opening"
    · rw [if_pos h3] at ha hb
      have key : ∀ c : List PyData, fitOpening c = true → c.length = 1 := fun c hc => by
        by_cases e : c.length = 1
        · exact e
        · rw [fitOpening_no e] at hc
          cases hc
      rw [key a ha, key b hb]
    rw [if_neg h3] at ha hb
    have key : ∀ c : List PyData, fitOnetime c = true → c.length = 2 := fun c hc => by
      by_cases e : c.length = 2
      · exact e
      · rw [fitOnetime_no e] at hc
        cases hc
    rw [key a ha, key b hb]
theorem fit_bound {z : Str} {a : List PyData} (ha : fitZ z a = true) : a.length ≤ 3 := by
  have hz := ha
  unfold fitZ at ha
  by_cases h : z ∈ numK
  · rw [if_pos h] at ha
    have hb : ∀ z ∈ numK, (numOf z).length ≤ 3 := by decide
    have hb := hb z h
    by_cases e : a.length = (numOf z).length
    · omega
    · rw [nums_len e] at ha
      cases ha
  · rw [if_neg h] at ha
    by_cases h1 : z = "longer"
    · rw [if_pos h1] at ha
      by_cases e : a.length = 2
      · omega
      · rw [fitLonger_no e] at ha
        cases ha
    rw [if_neg h1] at ha
    by_cases h2 : z = "tree"
    · rw [if_pos h2] at ha
      by_cases e : a.length = 3
      · omega
      · rw [fitTree_no e] at ha
        cases ha
    rw [if_neg h2] at ha
    by_cases h3 : z = "opening"
    · rw [if_pos h3] at ha
      by_cases e : a.length = 1
      · omega
      · rw [fitOpening_no e] at ha
        cases ha
    rw [if_neg h3] at ha
    by_cases e : a.length = 2
    · omega
    · rw [fitOnetime_no e] at ha
      cases ha
/-- a made one without its inner one is none -/
theorem made_cut {n : Nat} {D : PyData} (hm : madeD D = true) (hc : chk n D = true) : ∃ z r, D = .tuple (.str z :: r) ∧ r ≠ [] ∧ r.length ≤ 4 ∧ brOk (.tuple (.str z :: r.dropLast)) = false := by
  obtain ⟨z, r, rfl, hz⟩ := made_parts hm
  obtain ⟨m, rfl, hf, hl⟩ := chk_made hm hc
  have hb := fit_bound hf
  rw [List.length_dropLast] at hb
  refine ⟨z, r, rfl, ?_, by omega, ?_⟩
  · rintro rfl
    rw [show lastD (.tuple [.str z]) = .str z from rfl, chk_str] at hl
    cases hl
  unfold brOk
  rw [chk_law hz]
  have hno : mgB z r.dropLast = false := by
    cases e : r.dropLast with
    | nil => exact mg_nil
    | cons x t =>
      refine mg_fit ?_
      cases c : fitZ z (x :: t).dropLast with
      | false => rfl
      | true =>
        rw [e] at hf
        have := fit_len hf c
        rw [List.length_dropLast, List.length_cons] at this
        omega
  rw [hno, Bool.false_and]
/-- what is no breaker -/
def BadV (K : PySem.W.Frag) (a : Addr) (H : Hp) (v : V) : Prop := ∃ n D, Dp K (off a H) v D ∧ Gz 100 n D ∧ brOk D = false
theorem BadV.keep {K : PySem.W.Frag} {a : Addr} {H H' : Hp} {v : V} (h : BadV K a H v) (k : Keep a H H') : BadV K a H' v := by
  obtain ⟨n, D, h1, h2, h3⟩ := h
  exact ⟨n, D, dp_same k.off D h1, h2, h3⟩
theorem gz_bad1 : Gz 100 2 (.tuple [.str "say", .list [.str "0"]]) := by
  refine ⟨by decide, fun x hx => ?_⟩
  rcases List.mem_cons.mp hx with e | hx
  · rw [e]
    exact gz_str.mpr ⟨by decide +kernel, by decide +kernel⟩
  · rw [List.mem_singleton.mp hx]
    refine ⟨by decide, fun y hy => ?_⟩
    rw [List.mem_singleton.mp hy]
    exact gz_str.mpr ⟨by decide +kernel, by decide +kernel⟩
theorem gz_bad2 : Gz 100 2 (.tuple [.str "toss", .tuple []]) := by
  refine ⟨by decide, fun x hx => ?_⟩
  rcases List.mem_cons.mp hx with e | hx
  · rw [e]
    exact gz_str.mpr ⟨by decide +kernel, by decide +kernel⟩
  · rw [List.mem_singleton.mp hx]
    exact ⟨by decide, fun y hy => nomatch hy⟩
theorem OXs.dl {K : PySem.W.Frag} {a : Addr} {H : Hp} {vs : List V} (h : OXs K a H vs) : OXs K a H vs.dropLast := by
  obtain ⟨n, ds, h1, h2⟩ := h
  exact ⟨n, ds.dropLast, dps_last h1, fun d hd => h2 d ((List.dropLast_sublist _).subset hd)⟩
theorem cut_end {v : V} {vs : List V} : cutV (v :: vs) none (some (-1)) = (v :: vs).dropLast := by
  unfold cutV
  have e2 : HT.sIx (v :: vs).length (v :: vs).length (some (-1)) = vs.length := by
    show (if (-1 : Int) < 0 then ((-1 : Int) + ((v :: vs).length : Int)).toNat else min (-1 : Int).toNat (v :: vs).length) = _
    rw [if_pos (by decide), List.length_cons]
    omega
  rw [e2, HT.sIx_none, List.drop_zero, Nat.sub_zero, List.dropLast_eq_take, List.length_cons, Nat.add_sub_cancel]
theorem bad5_no (D : PyData) (hD : brOk D = false) : ∀ x ∈ ([.none, .tuple [.str "say", .list [.str "0"]], D, .tuple [.str "toss", .tuple []], .int 5] : List PyData), brOk x = false := by
  have hp : ∀ x : PyData, madeD x = false → looksOk x = false → brOk x = false := fun x h1 h2 => chk_no (n := 20) h1 h2
  intro x hx
  rcases List.mem_cons.mp hx with e | hx
  · rw [e]; exact hp _ rfl rfl
  rcases List.mem_cons.mp hx with e | hx
  · rw [e]; exact hp _ (by show madeZ "say" = false; decide) (by rw [looks_say]; rfl)
  rcases List.mem_cons.mp hx with e | hx
  · rw [e]; exact hD
  rcases List.mem_cons.mp hx with e | hx
  · rw [e]; exact hp _ (by show madeZ "toss" = false; decide) (by rw [looks_toss]; rfl)
  · rw [List.mem_singleton.mp hx]; exact hp _ rfl rfl

section
variable {P : Program} {w : World} {K : PySem.W.Frag} {mg : Str → Option Value} {base : Heap} {cs : Cs}
theorem ok_law05 {f : Addr} {fd : FuncData} (F : Fun K "law" "law" s_law f fd) (T : Txt K w mg cs) (c_law_draws : Cl P w K mg base CX0 1 "_law_draws" (spDraws K)) (c_law_take : Cl P w K mg base CX0 1 "_law_take" spTake) (c_law_breaker : Cl P w K mg base CX0 7 "_law_breaker" (spBr K 4))
    (c_law_made : Cl P w K mg base CX0 4 "_law_made" (spMd K)) (c_law_odd : Cl P w K mg base CX0 6 "_law_odd" (spOdd K 4)) (c_law_bent : Cl P w K mg base CX0 10 "_law_bent" (spBent K 5)) (c_law_is_right : Cl P w K mg base CX0 8 "_law_is_right" (spIR5 K))
    (c_law_edge : Cl P w K mg base CX0 3 "_law_edge" (spEdge5 K)) (c_law_refused : Cl P w K mg base CX0 8 "_law_refused" (spRef K)) (c_law_wrong_blocks : Cl P w K mg base CX0 4 "_law_wrong_blocks" (spWrong K)) : FnOk P w K mg base CX0 11 f fd ["script"] (spLaw K) := by
  refine F.ok sc_law (fun vs H Q E h => ?_) (fun cdv A outer s H vs Q E hr h => ?_)
  · obtain ⟨a, ns, rfl, _⟩ := h
    rfl
  · obtain ⟨a, ns, rfl, hS, hlen, q⟩ := h
    refine ⟨_, (pss_cons (ps_set (i := 1) sc_law.nd rfl (.inl rfl) (pe_lst (pa_cons (pe_cl c_law_draws hr (by first | decide | omega) (by rfl) (pa_cons (pv 0) (pa_cons pe_int pa_nil))) (pa_cons pe_int pa_nil)))) (pss_cons (ps_set (i := 2) sc_law.nd rfl (.inl rfl) (pe_cl c_law_breaker hr (by first | decide | omega) (by rfl) (pa_cons (pv 1) (pa_cons (pe_op op_add pe_int (pe_cl c_law_take hr (by first | decide | omega) (by rfl) (pa_cons (pv 1) (pa_cons pe_int pa_nil)))) (pa_cons pe_int (pa_cons (pe_op op_add pe_int (pe_cl c_law_take hr (by first | decide | omega) (by rfl) (pa_cons (pv 1) (pa_cons pe_int pa_nil)))) (pa_cons pe_int pa_nil))))))) (pss_cons (ps_set (i := 3) sc_law.nd rfl (.inl rfl) (pv 2)) (pss_cons (ps_for PassesOwn.never rfl (pi_range1 (by rfl) T.n_range (pa_cons (pe_ix (ixL K) (pe_lst (pa_cons pe_int (pa_cons pe_int (pa_cons pe_int (pa_cons pe_int pa_nil))))) (pe_cl c_law_take hr (by first | decide | omega) (by rfl) (pa_cons (pv 1) (pa_cons pe_int pa_nil))) (fun _ _ => rfl)) pa_nil)) (pg_name (i := 4) sc_law.nd rfl (.inl rfl)) (pss_one (ps_set (i := 3) sc_law.nd rfl (.inl rfl) (pe_cl c_law_made hr (by first | decide | omega) (by rfl) (pa_cons (pv 1) (pa_cons (pv 3) pa_nil)))))) (pss_cons (ps_for PassesOwn.never rfl (pi_list (pe_lst (pa_cons (pv 2) (pa_cons (pv 3) pa_nil)))) (pg_name (i := 5) sc_law.nd rfl (.inl rfl)) (pss_cons (ps_if (pt_not (pt_val (pe_cl c_law_is_right hr (by first | decide | omega) (by rfl) (pa_cons (pv 5) pa_nil)))) (pss_one (ps_ret pe_bl)) pss_nil) (pss_one (ps_for PassesOwn.never rfl (pi_range1 (by rfl) T.n_range (pa_cons pe_int pa_nil)) (pg_name (i := 6) sc_law.nd rfl (.inl rfl)) (pss_cons (ps_set (i := 7) sc_law.nd rfl (.inl rfl) (pe_cl c_law_bent hr (by first | decide | omega) (by rfl) (pa_cons (pv 1) (pa_cons (pv 5) (pa_cons pe_int pa_nil))))) (pss_one (ps_if (PW.pt (pw_or (pt_not (pt_val (pe_cl c_law_is_right hr (by first | decide | omega) (by rfl) (pa_cons (pv 7) pa_nil)))) (pw_or1 (pt_not (pt_val (pe_cl c_law_is_right hr (by first | decide | omega) (by rfl) (pa_cons (pe_cl c_law_bent hr (by first | decide | omega) (by rfl) (pa_cons (pv 1) (pa_cons (pv 7) (pa_cons pe_int pa_nil)))) pa_nil))))))) (pss_one (ps_ret pe_bl)) pss_nil))))))) (pss_cons (ps_set (i := 8) sc_law.nd rfl (.inl rfl) (pe_cl c_law_made hr (by first | decide | omega) (by rfl) (pa_cons (pv 1) (pa_cons (pv 2) pa_nil)))) (pss_cons (ps_set (i := 9) sc_law.nd rfl (.inl rfl) (pe_lst (pa_cons (pe_tup (pa_cons pe_str (pa_cons (pe_tup (pa_cons (pv 2) (pa_cons (pv 8) pa_nil))) pa_nil))) (pa_cons (pe_tup (pa_cons pe_str (pa_cons pe_int (pa_cons (pv 8) (pa_cons (pv 2) pa_nil))))) (pa_cons (pe_tup (pa_cons pe_str (pa_cons (pe_tup (pa_cons pe_int pa_nil)) (pa_cons (pv 8) pa_nil)))) (pa_cons (pe_op (opCatA K) (pv 8) (pe_tup (pa_cons (pv 2) pa_nil))) (pa_cons (pe_slice (slTA K) (pv 8) po_none (po_some (pe_un un_neg pe_int))) (pa_cons (pe_tup (pa_cons pe_str (pa_cons (pe_lst (pa_cons pe_str pa_nil)) pa_nil))) pa_nil)))))))) (pss_cons (ps_set (i := 9) sc_law.nd rfl (.inl rfl) (pe_op op_cat (pv 9) (pe_lst (pa_cons (pe_tup (pa_cons pe_str (pa_cons pe_int (pa_cons pe_int (pa_cons pe_int (pa_cons (pv 2) pa_nil)))))) (pa_cons (pe_tup (pa_cons pe_str (pa_cons pe_int (pa_cons pe_int (pa_cons pe_int (pa_cons (pv 2) pa_nil)))))) (pa_cons (pe_tup (pa_cons pe_str (pa_cons pe_bl (pa_cons pe_int (pa_cons pe_int (pa_cons (pv 2) pa_nil)))))) (pa_cons (pe_tup (pa_cons pe_str (pa_cons pe_int (pa_cons (pv 2) pa_nil)))) pa_nil))))))) (pss_cons (ps_for PassesOwn.never rfl (pi_list (pe_lst (pa_cons pe_non (pa_cons (pe_tup (pa_cons pe_str (pa_cons (pe_lst (pa_cons pe_str pa_nil)) pa_nil))) (pa_cons (pe_slice (slTA K) (pv 8) po_none (po_some (pe_un un_neg pe_int))) (pa_cons (pe_tup (pa_cons pe_str (pa_cons (pe_tup pa_nil) pa_nil))) (pa_cons pe_int pa_nil))))))) (pg_name (i := 10) sc_law.nd rfl (.inl rfl)) (pss_one (ps_if (pt_not (pt_val (pe_cl c_law_refused hr (by first | decide | omega) (by rfl) (pa_cons (pv 10) pa_nil)))) (pss_one (ps_ret pe_bl)) pss_nil))) (pss_cons (ps_set (i := 9) sc_law.nd rfl (.inl rfl) (pe_op op_cat (pv 9) (pe_cl c_law_wrong_blocks hr (by first | decide | omega) (by rfl) (pa_cons (pv 1) (pa_cons (pv 2) pa_nil))))) (pss_cons (ps_for PassesOwn.never rfl (pi_list (pe_op op_cat (pv 9) (pe_lst (pa_cons (pe_tup (pa_cons pe_str (pa_cons (pe_tup pa_nil) pa_nil))) (pa_cons (pe_tup (pa_cons pe_str (pa_cons pe_bl (pa_cons (pv 2) (pa_cons (pv 2) pa_nil))))) (pa_cons (pe_cl c_law_odd hr (by first | decide | omega) (by rfl) (pa_cons (pv 1) (pa_cons pe_int pa_nil))) (pa_cons (pe_tup (pa_cons pe_str (pa_cons (pe_tup (pa_cons pe_bl pa_nil)) pa_nil))) (pa_cons (pe_tup (pa_cons pe_str (pa_cons (pe_tup (pa_cons pe_str pa_nil)) pa_nil))) (pa_cons (pe_callTy (listOf K) (by rfl) T.n_list (by decide +kernel) (pa_cons (pv 2) pa_nil)) pa_nil))))))))) (pg_name (i := 5) sc_law.nd rfl (.inl rfl)) (pss_one (ps_if (pt_not (pt_val (pe_cl c_law_is_right hr (by first | decide | omega) (by rfl) (pa_cons (pv 5) pa_nil)))) (pss_one (ps_ret pe_bl)) pss_nil))) (pss_one (ps_ret (pe_or (pe_cmpR op_gt (pe_cl c_law_take hr (by first | decide | omega) (by rfl) (pa_cons (pv 1) (pa_cons pe_int pa_nil))) pe_int (nomark _)) (pe_one (pe_cl c_law_is_right hr (by first | decide | omega) (by rfl) (pa_cons (pe_cl c_law_edge hr (by first | decide | omega) (by rfl) (pa_cons (pv 1) pa_nil)) pa_nil))))))))))))))))), ?_⟩
    refine ⟨_, rfl, a, ns, 500, rfl, hS, hlen, by omega, fun d ds H1 nd s1 ed hd0 => ⟨(by show 2 ≤ sizeLine; decide), fun b nb => ?_⟩⟩
    have hn1 : Hnd (upd H1 b (.lst [.ref d, .int 0])) b d := ⟨ds, 0, upd_same, by rw [upd_ne (ne_of_none ed nb)]; exact ed, hd0, ne_of_none ed nb⟩
    generalize upd H1 b (.lst [.ref d, .int 0]) = H2 at hn1
    clear nb ed nd s1 hd0
    have qT : ∀ H', Q (.bl true) H' := q
    clear q
    refine ⟨_, rfl, _, rfl, b, d, 4, rfl, by decide, hn1, fun r1 H3 l1 u1 n3 k3 => ⟨_, _, rfl, rfl, _, rfl, b, d, 3, rfl, by decide, n3, fun r2 H4 l2 u2 n4 k4 => ⟨_, _, rfl, rfl, ?_⟩⟩⟩
    obtain ⟨dep, edep, hdep⟩ : ∃ n : Nat, (1 : Int) + r1 = (n : Int) ∧ n ≤ 4 := ⟨(1 + r1).toNat, by omega, by omega⟩
    obtain ⟨len, elen, hlen⟩ : ∃ n : Nat, (1 : Int) + r2 = (n : Int) ∧ n ≤ 3 := ⟨(1 + r2).toNat, by omega, by omega⟩
    refine ⟨b, d, dep, 2, len, 1, ?_, hdep, by omega, by omega, n4, fun v H5 pb n5 k5 => ?_⟩
    · show [V.ref b, V.int (1 + r1), V.int 2, V.int (1 + r2), V.int 1] = _
      rw [edep, elen]
      rfl
    obtain ⟨D0, hD0, hP0, hok0, hsz0⟩ := pb
    have hsz : szN (dep + 1) D0 ≤ 364 := Nat.le_trans hsz0 (bsz6 (by omega))
    have hP15 : Pz 15 D0 := pz_le hP0 (by omega)
    have hchk : ∀ n, chk n D0 = true := fun n => chk_ofplain hok0 (by omega) (by omega)
    clear l1 u1 l2 u2 edep elen n3 n4 hn1 k3 k4 k5 hsz0 hP0 hsz hok0
    -- breaker = plain, made ones over it
    refine ⟨_, rfl, (by show 4 ≤ sizeLine; decide), fun L nL => ?_⟩
    have Lb := (n5.ne nL).1
    refine ⟨_, rfl, b, d, 4, rfl, by decide, n5.new nL, fun r3 H6 l3 u3 n6 k6 => ?_⟩
    obtain ⟨many, hat, hmany⟩ : ∃ m : Nat, atI [V.int 0, V.int 1, V.int 2, V.int 4] r3 = some (V.int (m : Int)) ∧ m ≤ 4 := by
      have : r3 = 0 ∨ r3 = 1 ∨ r3 = 2 ∨ r3 = 3 := by omega
      rcases this with e | e | e | e <;> subst e
      · exact ⟨0, rfl, by decide⟩
      · exact ⟨1, rfl, by decide⟩
      · exact ⟨2, rfl, by decide⟩
      · exact ⟨4, rfl, by decide⟩
    have kk := (Keep.new (a := b) (o := .lst [.int 0, .int 1, .int 2, .int 4]) nL).trans k6
    have hD6 := dp_same kk.off _ hD0
    refine ⟨L, _, r3, _, rfl, rfl, .inl (.inl (k6 _ _ upd_same Lb)), hat, ?_⟩
    clear nL Lb n5 k6 kk hD0 hat l3 u3
    refine ⟨_, rfl, by omega, by omega, for_range (lo := 0) (n := many) (fun i σ H' => ∃ (vb : V) (D : PyData) (y4 : Option V), σ = [some (.ref a), some (.ref b), some v, some vb, y4, none, none, none, none, none, none] ∧ Hnd H' b d ∧ Dp K (off b H') v D0 ∧ Dp K (off b H') vb D ∧ Pz (15 + 3 * i) D ∧ chk i D = true) ?_ ?_ ?_⟩
    · exact ⟨v, D0, none, rfl, n6, hD6, hD6, hP15, hchk 0⟩
    · rintro i σ H' hi ⟨vb, D, y4, rfl, h1, hp, hv, hP, hc⟩
      refine ⟨_, rfl, _, rfl, b, d, vb, D, _, i, rfl, hv, hP, hc, h1, fun v' D' H2 hv' hP' _ hc' n2 k2 => ?_⟩
      exact ⟨v', D', _, rfl, n2, dp_same k2.off _ hp, hv', hP', hc'⟩
    rintro σ H7 ⟨vb, D1, y4, rfl, n7, hp7, hv7, hP1, hc1⟩
    have hP27 : Pz 27 D1 := pz_le hP1 (by omega)
    clear hP1 hc1 hD6 n6
    -- both, and bent
    refine ⟨_, rfl, _, rfl, (by show 2 ≤ sizeLine; decide), fun L1 nL1 => ?_⟩
    have kL := Keep.new (a := b) (o := .lst [v, vb]) nL1
    have nL := n7.new (o := .lst [v, vb]) nL1
    have L1b := (n7.ne nL1).1
    have eL : upd H7 L1 (.lst [v, vb]) L1 = some (.lst [v, vb]) := upd_same
    have hpL := dp_same kL.off _ hp7
    have hvL := dp_same kL.off _ hv7
    generalize upd H7 L1 (.lst [v, vb]) = H8 at nL eL hpL hvL
    clear kL nL1 n7 hp7 hv7
    have hboth : ∀ (i : Nat) (x : V), ([v, vb] : List V)[i]? = some x → ∃ D, Dp K (off b H8) x D ∧ Pz 27 D := by
      intro i x hx
      match i, hx with
      | 0, hx => cases hx; exact ⟨D0, hpL, pz_le hP15 (by omega)⟩
      | 1, hx => cases hx; exact ⟨D1, hvL, hP27⟩
      | k + 2, hx => cases hx
    refine ⟨L1, rfl, ⟨_, .inl (.inl eL)⟩, for_list (xs := [v, vb]) (fun i σ H' => ∃ (y4 y5 y6 y7 : Option V), σ = [some (.ref a), some (.ref b), some v, some vb, y4, y5, y6, y7, none, none, none] ∧ Hnd H' b d ∧ Keep b H8 H') ?_ ?_ ?_ ?_⟩
    · exact ⟨y4, none, none, none, rfl, nL, Keep.refl b H8⟩
    · rintro i σ H' _ ⟨_, _, _, _, _, _, k⟩
      exact .inl (.inl (k _ _ eL L1b))
    · rintro i x σ H9 hx ⟨z4, z5, z6, z7, rfl, n9, k9⟩
      obtain ⟨Dx, hDx, hPx⟩ := hboth i x hx
      have hDx9 := dp_same k9.off _ hDx
      refine ⟨_, rfl, x, Dx, _, rfl, dp_same (off_same b _) _ hDx9, pl_gd (pz_pl hPx), fun H10 s10 => ⟨_, rfl, ?_⟩⟩
      have n10 := n9.same s10
      have k10 := k9.trans (Keep.same (a := b) s10)
      refine ⟨_, rfl, by decide, by decide, for_range (lo := 0) (n := 4) (fun j σ H' => ∃ (y6 y7 : Option V), σ = [some (.ref a), some (.ref b), some v, some vb, z4, some x, y6, y7, none, none, none] ∧ Hnd H' b d ∧ Keep b H8 H') ?_ ?_ ?_⟩
      · exact ⟨z6, z7, rfl, n10, k10⟩
      · rintro j σ H11 hj ⟨y6, y7, rfl, n11, k11⟩
        have ox : Ok K b H11 100 27 x := ⟨Dx, dp_same k11.off _ hDx, pz_gz hPx⟩
        refine ⟨_, rfl, _, rfl, b, d, x, 100, 27, 5, rfl, by decide, n11, ox, by decide, by decide, by decide, fun v1 H12 o12 n12 k12 => ?_⟩
        obtain ⟨E1, he1, hg1⟩ := o12
        refine ⟨_, rfl, v1, E1, _, rfl, dp_same (off_same b _) _ he1, gz_gd (by decide) hg1, fun H13 s13 => ⟨_, rfl, ?_⟩⟩
        have n13 := n12.same s13
        have k13 := Keep.same (a := b) s13
        have o13 : Ok K b H13 102 30 v1 := ⟨E1, dp_same k13.off _ he1, hg1⟩
        refine ⟨_, rfl, _, rfl, b, d, v1, 102, 30, 5, rfl, by decide, n13, o13, by decide, by decide, by decide, fun v2 H14 o14 n14 k14 => ?_⟩
        obtain ⟨E2, he2, hg2⟩ := o14
        refine ⟨v2, E2, _, rfl, dp_same (off_same b _) _ he2, gz_gd (by decide) hg2, fun H15 s15 => ⟨_, rfl, ?_⟩⟩
        exact ⟨_, _, rfl, n14.same s15, (((k11.trans k12).trans k13).trans k14).trans (Keep.same (a := b) s15)⟩
      · rintro σ H11 ⟨y6, y7, rfl, n11, k11⟩
        exact ⟨_, _, _, _, rfl, n11, k11⟩
    rintro σ H9 ⟨z4, z5, z6, z7, rfl, n9, k9⟩
    have hp9 := dp_same k9.off _ hpL
    clear hboth hvL hpL eL nL k9 hP27 L1b
    -- made
    refine ⟨_, rfl, _, rfl, b, d, v, D0, 15, 0, rfl, hp9, hP15, hchk 0, n9, fun vm Dm H10 hm10 hPm hmade hcm n10 k10 => ?_⟩
    have hp10 := dp_same k10.off _ hp9
    obtain ⟨zm, rm, rfl, hrm, hrl, hcut⟩ := made_cut hmade hcm
    obtain ⟨zp, rp, rfl⟩ := chk_head (hchk 0)
    obtain ⟨pa, pws, rfl, pT, pA⟩ : ∃ pa pws, v = .ref pa ∧ SqT K (off b H10) pa pws ∧ DpAll K (off b H10) pws (.str zp :: rp) := by
      cases hp10 with
      | tup hs ha => exact ⟨_, _, rfl, hs, ha⟩
    obtain ⟨ma, mws, rfl, mT, mA⟩ : ∃ ma mws, vm = .ref ma ∧ SqT K (off b H10) ma mws ∧ DpAll K (off b H10) mws (.str zm :: rm) := by
      cases hm10 with
      | tup hs ha => exact ⟨_, _, rfl, hs, ha⟩
    have op : OX K b H10 (.ref pa) := OX.of hp10 hP15
    have om : OX K b H10 (.ref ma) := OX.of hm10 hPm
    have mlen : mws.length ≤ 5 := by
      rw [dp_all_len mA, List.length_cons]
      omega
    have plen : pws.length ≤ 100 := by
      rw [dp_all_len pA]
      exact (show Pz (14 + 1) (.tuple (.str zp :: rp)) from hP15).1
    have omws : OXs K b H10 mws := ⟨17, _, mA, fun x hx => pz_gz ((show Pz (17 + 1) (.tuple (.str zm :: rm)) from hPm).2 x hx)⟩
    have opws : OXs K b H10 pws := ⟨14, _, pA, fun x hx => pz_gz ((show Pz (14 + 1) (.tuple (.str zp :: rp)) from hP15).2 x hx)⟩
    obtain ⟨m0, mr, rfl, _, mA'⟩ := dp_cons mA
    clear n9 k10 hp9 pA
    show gName 8 (V.ref ma) _ _ _
    refine ⟨_, rfl, _, rfl, (by show 2 ≤ sizeLine; decide), fun p1 np1 => ⟨(by show 2 ≤ sizeLine; decide), fun p2 np2 => ⟨_, rfl, _, rfl, (by show 4 ≤ sizeLine; decide), fun p3 np3 => ⟨(by show 1 ≤ sizeLine; decide), fun p4 np4 => ⟨_, rfl, (by show 3 ≤ sizeLine; decide), fun p5 np5 => ⟨_, rfl, _, rfl, (by show 1 ≤ sizeLine; decide), fun p6 np6 => ?_⟩⟩⟩⟩⟩⟩
    obtain ⟨g1, y1, o1⟩ := mkX (K := K) n10 np1 (.cons op (.cons om .nil)) (by simp)
    obtain ⟨g2, y2, o2⟩ := mkX (K := K) g1 np2 (.cons (.str (x := "toss")) (.cons o1 .nil)) (by simp)
    obtain ⟨g3, y3, o3⟩ := mkX (K := K) g2 np3 (.cons (.str (x := "look")) (.cons (.int (i := 0) (by decide)) (.cons (om.keep (y1.trans y2)) (.cons (op.keep (y1.trans y2)) .nil)))) (by simp)
    obtain ⟨g4, y4, o4⟩ := mkX (K := K) g3 np4 (.cons (.int (i := 0) (by decide)) .nil) (by simp)
    obtain ⟨g5, y5, o5⟩ := mkX (K := K) g4 np5 (.cons (.str (x := "ask")) (.cons o4 (.cons (om.keep (((y1.trans y2).trans y3).trans y4)) .nil))) (by simp)
    obtain ⟨g6, y6, o6⟩ := mkX (K := K) g5 np6 (.cons (op.keep ((((y1.trans y2).trans y3).trans y4).trans y5)) .nil) (by simp)
    have z6 := ((((y1.trans y2).trans y3).trans y4).trans y5).trans y6
    have w2 := o2.keep (((y3.trans y4).trans y5).trans y6)
    have w3 := o3.keep ((y4.trans y5).trans y6)
    have w5 := o5.keep y6
    have wp := op.keep z6
    have wm := om.keep z6
    have mT6 := same_sqt z6.off mT
    have pT6 := same_sqt z6.off pT
    have mA6 := dps_same z6.off _ mA
    have omw6 := omws.keep z6
    have opw6 := opws.keep z6
    have e6 : upd (upd (upd (upd (upd (upd H10 p1 (.tup [.ref pa, .ref ma])) p2 (.tup [.str "toss", .ref p1])) p3 (.tup [.str "look", .int 0, .ref ma, .ref pa])) p4 (.tup [.int 0])) p5 (.tup [.str "ask", .ref p4, .ref ma])) p6 (.tup [.ref pa]) p6 = some (.tup [.ref pa]) := upd_same
    generalize upd (upd (upd (upd (upd (upd H10 p1 (.tup [.ref pa, .ref ma])) p2 (.tup [.str "toss", .ref p1])) p3 (.tup [.str "look", .int 0, .ref ma, .ref pa])) p4 (.tup [.int 0])) p5 (.tup [.str "ask", .ref p4, .ref ma])) p6 (.tup [.ref pa]) = G6 at g6 w2 w3 w5 wp wm mT6 pT6 mA6 omw6 opw6 e6
    clear g1 g2 g3 g4 g5 y1 y2 y3 y4 y5 y6 z6 o1 o2 o3 o4 o5 o6 np1 np2 np3 np4 np5 np6 op om mT pT mA omws opws n10 hp10 hm10 mA'
    refine cat_any (sqt_on mT6) (.inl (.inl e6)) (by rw [sizeLine_eq]; show mr.length + 1 + 1 ≤ 16777216; have : mr.length + 1 ≤ 5 := mlen; omega) fun t7 G7 s7 hT7 => ?_
    have k7 := Keep.same (a := b) s7
    have w7 : OX K b G7 (.ref t7) := OX.tup (g6.same s7) hT7 ((omw6.app (.cons wp .nil)).keep k7) (by show (m0 :: mr ++ [V.ref pa]).length ≤ 100; rw [List.length_append]; show mr.length + 1 + 1 ≤ 100; have : mr.length + 1 ≤ 5 := mlen; omega)
    refine ⟨_, rfl, _, rfl, _, rfl, sl_any (sqt_on (same_sqt k7.off mT6)) fun t8 G8 s8 hT8 => ?_⟩
    rw [cut_end] at hT8
    have k8 := Keep.same (a := b) s8
    have g8 := (g6.same s7).same s8
    have k68 := k7.trans k8
    have mlen8 : (m0 :: mr).dropLast.length ≤ 100 := by rw [List.length_dropLast]; omega
    have omd : OXs K b G8 (m0 :: mr).dropLast := (OXs.dl omw6).keep k68
    have w8 : OX K b G8 (.ref t8) := OX.tup g8 hT8 omd mlen8
    refine ⟨(by show 1 ≤ sizeLine; decide), fun p9 np9 => ⟨(by show 2 ≤ sizeLine; decide), fun p10 np10 => ⟨(by show 6 ≤ sizeLine; decide), fun L nL => ?_⟩⟩⟩
    obtain ⟨g9, y9, o9⟩ := mkXl (K := K) g8 np9 (.cons (.str (x := "0")) .nil) (by simp)
    obtain ⟨g10, y10, o10⟩ := mkX (K := K) g9 np10 (.cons (.str (x := "say")) (.cons o9 .nil)) (by simp)
    obtain ⟨gL, yL, eL, Lb⟩ := mkLs (vs := [.ref p2, .ref p3, .ref p5, .ref t7, .ref t8, .ref p10]) g10 nL
    have z8 := (y9.trans y10).trans yL
    have z68 := k68.trans z8
    have hall : OXs K b _ [.ref p2, .ref p3, .ref p5, .ref t7, .ref t8, .ref p10] := .cons (w2.keep z68) (.cons (w3.keep z68) (.cons (w5.keep z68) (.cons (w7.keep (k8.trans z8)) (.cons (w8.keep z8) (.cons (o10.keep yL) .nil)))))
    have wpL := wp.keep z68
    have wmL := wm.keep z68
    have mTL := same_sqt z68.off mT6
    have pTL := same_sqt z68.off pT6
    have mAL := dps_same z68.off _ mA6
    have opwL := opw6.keep z68
    generalize upd (upd (upd G8 p9 (.lst [.str "0"])) p10 (.tup [.str "say", .ref p9])) L (.lst [.ref p2, .ref p3, .ref p5, .ref t7, .ref t8, .ref p10]) = GL at gL eL hall wpL wmL mTL pTL mAL opwL
    clear g9 g10 y9 y10 yL z8 z68 o9 o10 w2 w3 w5 w7 w8 k8 k68 omd hT8 s8 g8 k7 s7 hT7 np9 np10 nL mT6 pT6 mA6 omw6 opw6 e6 wp wm g6
    -- some more with numbers beyond
    refine ⟨_, rfl, _, rfl, (by show 5 ≤ sizeLine; decide), fun c1 nc1 => ⟨_, rfl, (by show 5 ≤ sizeLine; decide), fun c2 nc2 => ⟨_, rfl, (by show 5 ≤ sizeLine; decide), fun c3 nc3 => ⟨_, rfl, (by show 3 ≤ sizeLine; decide), fun c4 nc4 => ⟨(by show 4 ≤ sizeLine; decide), fun M nM => ?_⟩⟩⟩⟩⟩
    have i1 : ∀ {G : Hp}, OX K b G (.int 1) := fun {G} => OX.int (by decide)
    have i41 : ∀ {G : Hp}, OX K b G (.int 41) := fun {G} => OX.int (by decide)
    obtain ⟨g1, y1, o1⟩ := mkX (K := K) gL nc1 (.cons (.str (x := "counter")) (.cons i41 (.cons i41 (.cons i1 (.cons wpL .nil))))) (by simp)
    obtain ⟨g2, y2, o2⟩ := mkX (K := K) g1 nc2 (.cons (.str (x := "counter")) (.cons i1 (.cons i41 (.cons i41 (.cons (wpL.keep y1) .nil))))) (by simp)
    obtain ⟨g3, y3, o3⟩ := mkX (K := K) g2 nc3 (.cons (.str (x := "counter")) (.cons (.bl (b := true)) (.cons i1 (.cons i1 (.cons (wpL.keep (y1.trans y2)) .nil))))) (by simp)
    obtain ⟨g4, y4, o4⟩ := mkX (K := K) g3 nc4 (.cons (.str (x := "cut")) (.cons i41 (.cons (wpL.keep ((y1.trans y2).trans y3)) .nil))) (by simp)
    obtain ⟨gM, yM, eM, Mb⟩ := mkLs (vs := [.ref c1, .ref c2, .ref c3, .ref c4]) g4 nM
    have zM := (((y1.trans y2).trans y3).trans y4).trans yM
    refine ⟨L, M, _, _, rfl, rfl, zM _ _ eL Lb, eM, (by rw [sizeLine_eq]; show 6 + 4 ≤ 16777216; decide), fun N nN => ?_⟩
    obtain ⟨gN, yN, eN, Nb⟩ := mkLs (vs := [.ref p2, .ref p3, .ref p5, .ref t7, .ref t8, .ref p10] ++ [.ref c1, .ref c2, .ref c3, .ref c4]) gM nN
    have zN := zM.trans yN
    have hallN : OXs K b _ ([.ref p2, .ref p3, .ref p5, .ref t7, .ref t8, .ref p10] ++ [.ref c1, .ref c2, .ref c3, .ref c4]) := (hall.keep zN).app ((OXs.cons (o1.keep ((y2.trans y3).trans y4)) (.cons (o2.keep (y3.trans y4)) (.cons (o3.keep y4) (.cons o4 .nil)))).keep (yM.trans yN))
    have wpN := wpL.keep zN
    have wmN := wmL.keep zN
    have mTN := same_sqt zN.off mTL
    have pTN := same_sqt zN.off pTL
    have mAN := dps_same zN.off _ mAL
    have opwN := opwL.keep zN
    generalize upd (upd (upd (upd (upd (upd GL c1 (.tup [.str "counter", .int 41, .int 41, .int 1, .ref pa])) c2 (.tup [.str "counter", .int 1, .int 41, .int 41, .ref pa])) c3 (.tup [.str "counter", .bl true, .int 1, .int 1, .ref pa])) c4 (.tup [.str "cut", .int 41, .ref pa])) M (.lst [.ref c1, .ref c2, .ref c3, .ref c4])) N (.lst ([.ref p2, .ref p3, .ref p5, .ref t7, .ref t8, .ref p10] ++ [.ref c1, .ref c2, .ref c3, .ref c4])) = GN at gN eN hallN wpN wmN mTN pTN mAN opwN
    have hNl : ([V.ref p2, V.ref p3, V.ref p5, V.ref t7, V.ref t8, V.ref p10] ++ [V.ref c1, V.ref c2, V.ref c3, V.ref c4]).length = 10 := rfl
    generalize [V.ref p2, V.ref p3, V.ref p5, V.ref t7, V.ref t8, V.ref p10] ++ [V.ref c1, V.ref c2, V.ref c3, V.ref c4] = vN at eN hallN hNl
    clear g1 g2 g3 g4 gM y1 y2 y3 y4 yM yN zM zN o1 o2 o3 o4 nc1 nc2 nc3 nc4 nM nN wpL wmL mTL pTL mAL opwL gL eL hall eM
    show gName 9 (V.ref N) [some (.ref a), some (.ref b), some (.ref pa), some vb, z4, z5, z6, z7, some (.ref ma), _, none] _ _
    -- what is none
    refine ⟨(by show 1 ≤ sizeLine; decide), fun q1 nq1 => ⟨(by show 2 ≤ sizeLine; decide), fun q2 nq2 => ⟨_, rfl, _, rfl, _, rfl, sl_any (sqt_on (same_sqt ((Keep.new (a := b) (o := .lst [.str "0"]) nq1).trans (Keep.new (a := b) (o := .tup [.str "say", .ref q1]) nq2)).off mTN)) fun q3 G3 s3 hq3 => ⟨(by show 0 ≤ sizeLine; exact Nat.zero_le _), fun q4 nq4 => ⟨(by show 2 ≤ sizeLine; decide), fun q5 nq5 => ⟨(by show 5 ≤ sizeLine; decide), fun B nB => ?_⟩⟩⟩⟩⟩⟩
    rw [cut_end] at hq3
    have g1 := gN.new (o := .lst [.str "0"]) nq1
    have g2 := g1.new (o := .tup [.str "say", .ref q1]) nq2
    have g3 := g2.same s3
    have g4 := g3.new (o := .tup []) nq4
    have g5 := g4.new (o := .tup [.str "toss", .ref q4]) nq5
    have y1 := Keep.new (a := b) (o := .lst [.str "0"]) nq1
    have y2 := Keep.new (a := b) (o := .tup [.str "say", .ref q1]) nq2
    have y3 := Keep.same (a := b) s3
    have y4 := Keep.new (a := b) (o := .tup []) nq4
    have y5 := Keep.new (a := b) (o := .tup [.str "toss", .ref q4]) nq5
    have q1b := (gN.ne nq1).1
    have hb2 : BadV K b _ (.ref q2) := ⟨2, .tuple [.str "say", .list [.str "0"]], .tup (sqt_off g2 (.inl (.inl upd_same))) (.cons (.str "say") (.cons (.lst (.inl (.inl (by rw [off_ne q1b]; exact y2 _ _ upd_same q1b))) (.cons (.str "0") .nil)) .nil)), gz_bad1, bad5_no _ hcut _ (by simp)⟩
    have hb3 : BadV K b G3 (.ref q3) := by
      refine ⟨18, .tuple (.str zm :: rm).dropLast, .tup (sqt_off g3 hq3) (dps_last (dps_same ((y1.trans y2).trans y3).off _ mAN)), ?_, ?_⟩
      · have h18 := pz_gz hPm
        exact ⟨by rw [List.length_dropLast]; have : (PyData.str zm :: rm).length ≤ 100 := h18.1; omega, fun x hx => h18.2 x ((List.dropLast_sublist _).subset hx)⟩
      · rw [List.dropLast_cons_of_ne_nil hrm]
        exact hcut
    have hb5 : BadV K b _ (.ref q5) := ⟨2, .tuple [.str "toss", .tuple []], .tup (sqt_off g5 (.inl (.inl upd_same))) (.cons (.str "toss") (.cons (.tup (sqt_off g5 (.inl (.inl (y5 _ _ upd_same (g3.ne nq4).1)))) .nil) .nil)), gz_bad2, bad5_no _ hcut _ (by simp)⟩
    have hbn : ∀ {G : Hp}, BadV K b G .non := fun {G} => ⟨0, .none, .non, trivial, bad5_no _ hcut _ (by simp)⟩
    have hbi : ∀ {G : Hp}, BadV K b G (.int 5) := fun {G} => ⟨0, .int 5, .int 5, (by show (5 : Int).natAbs < 10 ^ 100; decide), bad5_no _ hcut _ (by simp)⟩
    obtain ⟨gB, yB, eB, Bb⟩ := mkLs (vs := [.non, .ref q2, .ref q3, .ref q5, .int 5]) g5 nB
    have hbad : ∀ (i : Nat) (x : V), ([.non, .ref q2, .ref q3, .ref q5, .int 5] : List V)[i]? = some x → BadV K b (upd (upd (upd G3 q4 (.tup [])) q5 (.tup [.str "toss", .ref q4])) B (.lst [.non, .ref q2, .ref q3, .ref q5, .int 5])) x := by
      intro i x hx
      match i, hx with
      | 0, hx => cases hx; exact hbn
      | 1, hx => cases hx; exact hb2.keep (((y3.trans y4).trans y5).trans yB)
      | 2, hx => cases hx; exact hb3.keep ((y4.trans y5).trans yB)
      | 3, hx => cases hx; exact hb5.keep yB
      | 4, hx => cases hx; exact hbi
      | k + 5, hx => cases hx
    have zB := ((((y1.trans y2).trans y3).trans y4).trans y5).trans yB
    have wpB := wpN.keep zB
    have pTB := same_sqt zB.off pTN
    have opwB := opwN.keep zB
    have eNB := zB _ _ eN Nb
    have hallB := hallN.keep zB
    generalize upd (upd (upd G3 q4 (.tup [])) q5 (.tup [.str "toss", .ref q4])) B (.lst [.non, .ref q2, .ref q3, .ref q5, .int 5]) = GB at gB eB hbad wpB pTB opwB eNB hallB
    clear g1 g2 g3 g4 g5 y1 y2 y3 y4 y5 yB zB hb2 hb3 hb5 hbn hbi nq1 nq2 nq4 nq5 nB s3 hq3 wpN wmN mTN pTN mAN opwN eN hallN gN
    refine ⟨B, rfl, ⟨_, .inl (.inl eB)⟩, for_list (xs := [.non, .ref q2, .ref q3, .ref q5, .int 5]) (fun i σ H' => ∃ (y10 : Option V), σ = [some (.ref a), some (.ref b), some (.ref pa), some vb, z4, z5, z6, z7, some (.ref ma), some (.ref N), y10] ∧ Hnd H' b d ∧ Keep b GB H') ?_ ?_ ?_ ?_⟩
    · exact ⟨none, rfl, gB, Keep.refl b GB⟩
    · rintro i σ H' _ ⟨_, _, _, k⟩
      exact .inl (.inl (k _ _ eB Bb))
    · rintro i x σ H9 hx ⟨y10, rfl, n9, k9⟩
      obtain ⟨n, Dx, hDx, hGx, hno⟩ := (hbad i x hx).keep k9
      refine ⟨_, rfl, x, Dx, n, rfl, dp_same (off_same b _) _ hDx, gz_gd (by decide) hGx, hno, fun H10 s10 => ⟨_, rfl, ?_⟩⟩
      exact ⟨_, rfl, n9.same s10, k9.trans (Keep.same (a := b) s10)⟩
    rintro σ HC ⟨y10, rfl, gC, kC⟩
    have wpC := wpB.keep kC
    have pTC := same_sqt kC.off pTB
    have opwC := opwB.keep kC
    have eNC := kC _ _ eNB Nb
    have hallC := hallB.keep kC
    clear hbad eB Bb gB wpB pTB opwB eNB hallB kC
    refine ⟨_, rfl, _, rfl, _, rfl, b, d, .ref pa, rfl, wpC, gC, fun L2 ws HD L2b eL2 ows wlen gD kD => ?_⟩
    refine ⟨N, L2, _, _, rfl, rfl, kD _ _ eNC Nb, eL2, (by rw [sizeLine_eq]; omega), fun N2 nN2 => ?_⟩
    have wpD := wpC.keep kD
    have pTD := same_sqt kD.off pTC
    have opwD := opwC.keep kD
    have hallD := (hallC.keep kD).app ows
    obtain ⟨gE, yE, eE, N2b⟩ := mkLs (vs := vN ++ ws) gD nN2
    have wpE := wpD.keep yE
    have pTE := same_sqt yE.off pTD
    have opwE := opwD.keep yE
    have hallE := hallD.keep yE
    have hEl : (vN ++ ws).length ≤ 60 := by rw [List.length_append]; omega
    generalize upd HD N2 (.lst (vN ++ ws)) = GE at gE eE wpE pTE opwE hallE
    generalize vN ++ ws = vE at eE hallE hEl
    clear wpD pTD opwD hallD yE nN2 kD gD ows wlen eL2 L2b wpC pTC opwC eNC hallC gC hNl
    show gName 9 (V.ref N2) [some (.ref a), some (.ref b), some (.ref pa), some vb, z4, z5, z6, z7, some (.ref ma), some (.ref N), y10] _ _
    refine ⟨_, rfl, (by show 0 ≤ sizeLine; exact Nat.zero_le _), fun r1 nr1 => ⟨(by show 2 ≤ sizeLine; decide), fun r2 nr2 => ⟨_, rfl, _, rfl, (by show 4 ≤ sizeLine; decide), fun r3 nr3 => ?_⟩⟩⟩
    obtain ⟨g1, y1, o1⟩ := mkX (K := K) gE nr1 .nil (by simp)
    obtain ⟨g2, y2, o2⟩ := mkX (K := K) g1 nr2 (.cons (.str (x := "toss")) (.cons o1 .nil)) (by simp)
    obtain ⟨g3, y3, o3⟩ := mkX (K := K) g2 nr3 (.cons (.str (x := "look")) (.cons (.bl (b := true)) (.cons (wpE.keep (y1.trans y2)) (.cons (wpE.keep (y1.trans y2)) .nil)))) (by simp)
    have x3 := (y1.trans y2).trans y3
    have v2 := o2.keep y3
    generalize upd (upd (upd GE r1 (.tup [])) r2 (.tup [.str "toss", .ref r1])) r3 (.tup [.str "look", .bl true, .ref pa, .ref pa]) = G3 at g3 o3 x3 v2
    clear g1 g2 y1 y2 y3 o1 o2 nr1 nr2 nr3
    refine ⟨_, rfl, b, d, 4, rfl, by decide, g3, fun vo G4 ho g4 k4 => ?_⟩
    have oo : OX K b G4 vo := ⟨5, (ho.ok g3.some).up (by decide) (by decide)⟩
    refine ⟨(by show 1 ≤ sizeLine; decide), fun r4 nr4 => ⟨(by show 2 ≤ sizeLine; decide), fun r5 nr5 => ⟨(by show 1 ≤ sizeLine; decide), fun r6 nr6 => ⟨(by show 2 ≤ sizeLine; decide), fun r7 nr7 => ?_⟩⟩⟩⟩
    obtain ⟨h4, u4, p4'⟩ := mkX (K := K) g4 nr4 (.cons (.bl (b := true)) .nil) (by simp)
    obtain ⟨h5, u5, p5'⟩ := mkX (K := K) h4 nr5 (.cons (.str (x := "say")) (.cons p4' .nil)) (by simp)
    obtain ⟨h6, u6, p6'⟩ := mkX (K := K) h5 nr6 (.cons (.str (x := "01")) .nil) (by simp)
    obtain ⟨h7, u7, p7'⟩ := mkX (K := K) h6 nr7 (.cons (.str (x := "say")) (.cons p6' .nil)) (by simp)
    have x47 := ((u4.trans u5).trans u6).trans u7
    have x37 := k4.trans x47
    have x7 := x3.trans x37
    refine ⟨_, rfl, pa, pws, rfl, .inr (sqt_on (same_sqt x7.off pTE)), fun r8 nr8 => ⟨(by show 6 ≤ sizeLine; decide), fun M2 nM2 => ?_⟩⟩
    obtain ⟨h8, u8, p8'⟩ := mkXl (K := K) h7 nr8 (opwE.keep x7) plen
    obtain ⟨h9, u9, e9, M2b⟩ := mkLs (vs := [.ref r2, .ref r3, vo, .ref r5, .ref r7, .ref r8]) h8 nM2
    have x89 := u8.trans u9
    have x9 := x7.trans x89
    refine ⟨N2, M2, _, _, rfl, rfl, x9 _ _ eE N2b, e9, (by rw [sizeLine_eq]; show vE.length + 6 ≤ 16777216; omega), fun N3 nN3 => ?_⟩
    obtain ⟨gF, uF, eF, N3b⟩ := mkLs (vs := vE ++ [.ref r2, .ref r3, vo, .ref r5, .ref r7, .ref r8]) h9 nN3
    have x39 := x37.trans x89
    have x79 := x47.trans x89
    have hallF : OXs K b _ (vE ++ [.ref r2, .ref r3, vo, .ref r5, .ref r7, .ref r8]) := ((hallE.keep x9).app (.cons (v2.keep x39) (.cons (o3.keep x39) (.cons (oo.keep x79) (.cons (p5'.keep ((u6.trans u7).trans x89)) (.cons (p7'.keep x89) (.cons (p8'.keep u9) .nil))))))).keep uF
    generalize upd (upd (upd (upd (upd (upd (upd G4 r4 (.tup [.bl true])) r5 (.tup [.str "say", .ref r4])) r6 (.tup [.str "01"])) r7 (.tup [.str "say", .ref r6])) r8 (.lst pws)) M2 (.lst [.ref r2, .ref r3, vo, .ref r5, .ref r7, .ref r8])) N3 (.lst (vE ++ [.ref r2, .ref r3, vo, .ref r5, .ref r7, .ref r8])) = GF at gF eF hallF
    generalize vE ++ [V.ref r2, V.ref r3, vo, V.ref r5, V.ref r7, V.ref r8] = vF at eF hallF
    clear g3 g4 k4 x3 v2 o3 oo ho h4 h5 h6 h7 h8 h9 u4 u5 u6 u7 u8 u9 uF p4' p5' p6' p7' p8' x47 x37 x7 x89 x9 x39 x79 nr4 nr5 nr6 nr7 nr8 nM2 nN3 e9 M2b gE eE wpE pTE opwE hallE hEl
    refine ⟨N3, rfl, ⟨_, .inl (.inl eF)⟩, for_list (xs := vF) (fun i σ H' => ∃ (y5 : Option V), σ = [some (.ref a), some (.ref b), some (.ref pa), some vb, z4, y5, z6, z7, some (.ref ma), some (.ref N2), y10] ∧ Hnd H' b d ∧ Keep b GF H') ?_ ?_ ?_ ?_⟩
    · exact ⟨z5, rfl, gF, Keep.refl b GF⟩
    · rintro i σ H' _ ⟨_, _, _, k⟩
      exact .inl (.inl (k _ _ eF N3b))
    · rintro i x σ H9 hx ⟨y5, rfl, n9, k9⟩
      obtain ⟨Dx, n, hDx, hGx⟩ := ((hallF.get hx).keep k9).on
      refine ⟨_, rfl, x, Dx, n, rfl, hDx, hGx, fun H10 s10 => ⟨_, rfl, ?_⟩⟩
      exact ⟨_, rfl, n9.same s10, k9.trans (Keep.same (a := b) s10)⟩
    rintro σ HG ⟨y5, rfl, gG, kG⟩
    refine ⟨_, rfl, b, d, 3, rfl, by decide, gG, fun r HI l u nI kI => ?_⟩
    refine ⟨_, _, rfl, rfl, _, rfl, ?_⟩
    by_cases c : 0 < r
    · rw [if_pos (decide_eq_true c)]
      exact qT _
    · rw [if_neg (by rw [decide_eq_false c]; decide)]
      refine ⟨_, rfl, b, d, rfl, nI, fun ve HJ ov nJ kJ => ?_⟩
      obtain ⟨De, n, hDe, hGe⟩ := ov.on
      exact ⟨ve, De, n, rfl, hDe, hGe, fun H' _ => qT H'⟩

theorem mk_law {f1 f2 f3 f4 f5 f6 f7 f8 f9 f10 f11 f12 f13 f14 f15 f16 f17 f18 f19 f20 f21 f22 f23 f24 f25 f26 f27 f28 f29 f30 f31 f32 f33 f34 f35 f36 f37 f38 f39 f40 f41 f : Addr} {d1 d2 d3 d4 d5 d6 d7 d8 d9 d10 d11 d12 d13 d14 d15 d16 d17 d18 d19 d20 d21 d22 d23 d24 d25 d26 d27 d28 d29 d30 d31 d32 d33 d34 d35 d36 d37 d38 d39 d40 d41 fd : FuncData} (T : Txt K w mg cs)
    (D_is_whole : Df K mg "is_whole" s_is_whole ["value", "low", "high"] f1 d1)
    (D_are_rows : Df K mg "are_rows" s_are_rows ["value", "many", "m"] f2 d2)
    (D_is_generator : Df K mg "is_generator" s_is_generator ["value"] f3 d3)
    (D_are_numbers : Df K mg "are_numbers" s_are_numbers ["own", "bounds"] f4 d4)
    (D_fits_longer : Df K mg "fits_longer" s_fits_longer ["own"] f5 d5)
    (D_fits_tree : Df K mg "fits_tree" s_fits_tree ["own"] f6 d6)
    (D_fits_opening : Df K mg "fits_opening" s_fits_opening ["own"] f7 d7)
    (D_fits_onetime : Df K mg "fits_onetime" s_fits_onetime ["own"] f8 d8)
    (D_is_made : Df K mg "is_made" s_is_made ["value"] f9 d9)
    (D_fits_kind : Df K mg "fits_kind" s_fits_kind ["made"] f10 d10)
    (D_is_part : Df K mg "is_part" s_is_part ["value"] f11 d11)
    (D_are_parts : Df K mg "are_parts" s_are_parts ["value"] f12 d12)
    (D_looks_plain : Df K mg "looks_plain" s_looks_plain ["value"] f13 d13)
    (D_directly_within : Df K mg "directly_within" s_directly_within ["plain"] f14 d14)
    (D_is_plain_breaker : Df K mg "is_plain_breaker" s_is_plain_breaker ["value"] f15 d15)
    (D_check_breaker : Df K mg "check_breaker" s_check_breaker ["breaker"] f16 d16)
    (D_is_plain : Df K mg "is_plain" s_is_plain ["breaker"] f17 d17)
    (D__law_draws : Df K mg "_law_draws" s_law_draws ["script", "many"] f18 d18)
    (D__law_take : Df K mg "_law_take" s_law_take ["hand", "many"] f19 d19)
    (D__law_string : Df K mg "_law_string" s_law_string ["hand", "length"] f20 d20)
    (D__law_table : Df K mg "_law_table" s_law_table ["hand", "n", "m"] f21 d21)
    (D__law_function : Df K mg "_law_function" s_law_function ["hand", "n", "l", "m"] f22 d22)
    (D__law_parts : Df K mg "_law_parts" s_law_parts ["hand", "length"] f23 d23)
    (D__law_breaker : Df K mg "_law_breaker" s_law_breaker ["hand", "depth", "asks", "length", "said"] f24 d24)
    (D__law_made : Df K mg "_law_made" s_law_made ["hand", "inner"] f25 d25)
    (D__law_within : Df K mg "_law_within" s_law_within ["value", "least", "most"] f26 d26)
    (D__law_is_bits : Df K mg "_law_is_bits" s_law_is_bits ["value", "length"] f27 d27)
    (D__law_rows_good : Df K mg "_law_rows_good" s_law_rows_good ["rows", "many", "length"] f28 d28)
    (D__law_block_good : Df K mg "_law_block_good" s_law_block_good ["value"] f29 d29)
    (D__law_is_parts : Df K mg "_law_is_parts" s_law_is_parts ["parts"] f30 d30)
    (D__law_plain_inner : Df K mg "_law_plain_inner" s_law_plain_inner ["value"] f31 d31)
    (D__law_plain_good : Df K mg "_law_plain_good" s_law_plain_good ["value"] f32 d32)
    (D__law_made_good : Df K mg "_law_made_good" s_law_made_good ["value"] f33 d33)
    (D__law_breaker_good : Df K mg "_law_breaker_good" s_law_breaker_good ["value"] f34 d34)
    (D__law_odd : Df K mg "_law_odd" s_law_odd ["hand", "depth"] f35 d35)
    (D__law_bent : Df K mg "_law_bent" s_law_bent ["hand", "value", "depth"] f36 d36)
    (D__law_is_right : Df K mg "_law_is_right" s_law_is_right ["value"] f37 d37)
    (D__law_edge : Df K mg "_law_edge" s_law_edge ["hand"] f38 d38)
    (D__law_refused : Df K mg "_law_refused" s_law_refused ["value"] f39 d39)
    (D__law_wrong_blocks : Df K mg "_law_wrong_blocks" s_law_wrong_blocks ["hand", "plain"] f40 d40)
    (D__law_deep : Df K mg "_law_deep" s_law_deep ["hand", "least"] f41 d41)
    (F : Fun K "law" "law" s_law f fd) : FnOk P w K mg base CX0 top_level f fd ["script"] (spLaw K) := by
  have c_take : Cl P w K mg base CX0 1 "_law_take" spTake := D__law_take.cl (ok_take D__law_take T)
  have c_string : Cl P w K mg base CX0 2 "_law_string" spString := D__law_string.cl (ok_string D__law_string T c_take)
  have c_table : Cl P w K mg base CX0 3 "_law_table" (spTable K) := D__law_table.cl (ok_table D__law_table T c_string)
  have c_function : Cl P w K mg base CX0 3 "_law_function" (spFunction K) := D__law_function.cl (ok_function D__law_function T c_string)
  have c_whole : Cl P w K mg base CX0 1 "is_whole" (spWhole K) := D_is_whole.cl (ok_whole D_is_whole T)
  have c_rows : Cl P w K mg base CX0 1 "are_rows" (spRows K) := D_are_rows.cl (ok_rows D_are_rows T)
  have c_gen : Cl P w K mg base CX0 2 "is_generator" (spD K genOk) := D_is_generator.cl (ok_gen D_is_generator T c_whole c_rows)
  have c_nums : Cl P w K mg base CX0 2 "are_numbers" (spNums K) := D_are_numbers.cl (ok_numbers D_are_numbers T c_whole)
  have c_l : Cl P w K mg base CX0 3 "fits_longer" (spOwn K fitLonger) := D_fits_longer.cl (ok_longerF D_fits_longer T c_whole c_gen)
  have c_t : Cl P w K mg base CX0 3 "fits_tree" (spOwn K fitTree) := D_fits_tree.cl (ok_treeF D_fits_tree T c_whole c_gen)
  have c_o : Cl P w K mg base CX0 3 "fits_opening" (spOwn K fitOpening) := D_fits_opening.cl (ok_openingF D_fits_opening T c_rows)
  have c_1 : Cl P w K mg base CX0 3 "fits_onetime" (spOwn K fitOnetime) := D_fits_onetime.cl (ok_onetimeF D_fits_onetime T c_whole c_gen)
  have c_made : Cl P w K mg base CX0 1 "is_made" (spD K madeD) := D_is_made.cl (ok_made D_is_made T)
  have c_kind : Cl P w K mg base CX0 4 "fits_kind" (spKind K) := D_fits_kind.cl (ok_kind D_fits_kind T c_nums fun f sp h => by
    rcases h with ⟨e, rfl⟩ | ⟨e, rfl⟩ | ⟨e, rfl⟩ | ⟨e, rfl⟩
    · exact held_of c_l e
    · exact held_of c_t e
    · exact held_of c_o e
    · exact held_of c_1 e)
  have c_parts : Cl P w K mg base CX0 3 "are_parts" (spD K partsOk) := D_are_parts.cl (ok_parts D_are_parts T (D_is_part.cl (ok_part D_is_part T c_whole)))
  have c_looks : Cl P w K mg base CX0 4 "looks_plain" (spD K looksOk) := D_looks_plain.cl (ok_looks D_looks_plain T c_whole c_parts)
  have c_kids : Cl P w K mg base CX0 1 "directly_within" (spKids K) := D_directly_within.cl (ok_kids D_directly_within T)
  have c_plain : Cl P w K mg base CX0 5 "is_plain_breaker" (spD K plainOk) := D_is_plain_breaker.cl (ok_plainB D_is_plain_breaker T c_looks c_kids)
  have c_check : Cl P w K mg base (L2.CX P w) 6 "check_breaker" (spCheckB K cs.BadBreaker) := D_check_breaker.cl (ok_checkB D_check_breaker T c_made c_kind c_plain)
  have c_isplain := D_is_plain.cl (ok_isplain D_is_plain T c_check c_made)
  have c_lparts : Cl P w K mg base CX0 2 "_law_parts" (spParts8 K) := D__law_parts.cl (ok_lawparts D__law_parts T c_take)
  have c_within : Cl P w K mg base CX0 1 "_law_within" (spWithin K) := D__law_within.cl (ok_within D__law_within T)
  have c_isbits : Cl P w K mg base CX0 1 "_law_is_bits" (spIsBits K) := D__law_is_bits.cl (ok_isbits D__law_is_bits T)
  have c_rowsgood : Cl P w K mg base CX0 2 "_law_rows_good" (spRowsGood K) := D__law_rows_good.cl (ok_rowsgood D__law_rows_good T c_isbits)
  have c_good : Cl P w K mg base CX0 3 "_law_block_good" (spGood K) := D__law_block_good.cl (ok_good D__law_block_good T c_within c_rowsgood)
  have c_isparts : Cl P w K mg base CX0 2 "_law_is_parts" (spD K partsOk) := D__law_is_parts.cl (ok_lawisparts D__law_is_parts T c_within)
  have c_inner : Cl P w K mg base CX0 3 "_law_plain_inner" (spInner K) := D__law_plain_inner.cl (ok_inner D__law_plain_inner T c_within c_isparts)
  have c_pgood : Cl P w K mg base CX0 4 "_law_plain_good" (spD K plainOk) := D__law_plain_good.cl (ok_plaingood D__law_plain_good T c_inner)
  have c_mgood : Cl P w K mg base CX0 5 "_law_made_good" (spMG K) := D__law_made_good.cl (ok_madegood D__law_made_good T c_within c_isbits c_good c_pgood)
  have c_bgood : Cl P w K mg base CX0 6 "_law_breaker_good" (spD K brOk) := D__law_breaker_good.cl (ok_breakergood D__law_breaker_good T c_pgood c_mgood)
  have c_odd := ok_odd (P := P) (w := w) (base := base) D__law_odd T c_take
  exact ok_law05 F T (D__law_draws.cl (ok_draws D__law_draws T)) c_take (D__law_breaker.cl (ok_br D__law_breaker T c_take c_lparts 4)) (D__law_made.cl (ok_lawmade D__law_made T c_take c_string c_table)) (D__law_odd.cl (c_odd 4))
    (D__law_bent.cl (ok_bent D__law_bent T c_take (D__law_odd.cl (c_odd 2)) 5)) (D__law_is_right.cl (ok_right5 D__law_is_right T c_bgood c_check c_isplain)) (D__law_edge.cl (ok_edge5 D__law_edge T c_take (D__law_deep.cl (ok_deep D__law_deep T c_take))))
    (D__law_refused.cl (ok_refused D__law_refused T c_isplain)) (D__law_wrong_blocks.cl (ok_wrong D__law_wrong_blocks T c_take c_table c_function))
end
theorem all_mk {l : PySem.W.OpenLaw} {w : World} {K : PySem.W.Frag} {h : Heap} {mg : Str → Option Value} {fa f1 f2 f3 f4 f5 f6 f7 f8 f9 f10 f11 f12 f13 f14 f15 f16 f17 f18 f19 f20 f21 f22 f23 f24 f25 f26 f27 f28 f29 f30 f31 f32 f33 f34 f35 f36 f37 f38 f39 f40 f41 f42 : Addr} (X : K.In h) (G : h.Ns mainGlobals mg) (hfa : mg "law" = some (.ref fa))
    {od1 an1 od2 an2 od3 an3 od4 an4 od5 an5 od6 an6 od7 an7 od8 an8 od9 an9 od10 an10 od11 an11 od12 an12 od13 an13 od14 an14 od15 an15 od16 an16 od17 an17 od18 an18 od19 an19 od20 an20 od21 an21 od22 an22 od23 an23 od24 an24 od25 an25 od26 an26 od27 an27 od28 an28 od29 an29 od30 an30 od31 an31 od32 an32 od33 an33 od34 an34 od35 an35 od36 an36 od37 an37 od38 an38 od39 an39 od40 an40 od41 an41 od42 an42 : Option Addr} {sl1 sl2 sl3 sl4 sl5 sl6 sl7 sl8 sl9 sl10 sl11 sl12 sl13 sl14 sl15 sl16 sl17 sl18 sl19 sl20 sl21 sl22 sl23 sl24 sl25 sl26 sl27 sl28 sl29 sl30 sl31 sl32 sl33 sl34 sl35 sl36 sl37 sl38 sl39 sl40 sl41 sl42 : Array (Option Value)} {oc1 kV1 dc1 pm1 cd1 ct1 oc2 kV2 dc2 pm2 cd2 ct2 oc3 kV3 dc3 pm3 cd3 ct3 oc4 kV4 dc4 pm4 cd4 ct4 oc5 kV5 dc5 pm5 cd5 ct5 oc6 kV6 dc6 pm6 cd6 ct6 oc7 kV7 dc7 pm7 cd7 ct7 oc8 kV8 dc8 pm8 cd8 ct8 oc9 kV9 dc9 pm9 cd9 ct9 oc10 kV10 dc10 pm10 cd10 ct10 oc11 kV11 dc11 pm11 cd11 ct11 oc12 kV12 dc12 pm12 cd12 ct12 oc13 kV13 dc13 pm13 cd13 ct13 oc14 kV14 dc14 pm14 cd14 ct14 oc15 kV15 dc15 pm15 cd15 ct15 oc16 kV16 dc16 pm16 cd16 ct16 oc17 kV17 dc17 pm17 cd17 ct17 oc18 kV18 dc18 pm18 cd18 ct18 oc19 kV19 dc19 pm19 cd19 ct19 oc20 kV20 dc20 pm20 cd20 ct20 oc21 kV21 dc21 pm21 cd21 ct21 oc22 kV22 dc22 pm22 cd22 ct22 oc23 kV23 dc23 pm23 cd23 ct23 oc24 kV24 dc24 pm24 cd24 ct24 oc25 kV25 dc25 pm25 cd25 ct25 oc26 kV26 dc26 pm26 cd26 ct26 oc27 kV27 dc27 pm27 cd27 ct27 oc28 kV28 dc28 pm28 cd28 ct28 oc29 kV29 dc29 pm29 cd29 ct29 oc30 kV30 dc30 pm30 cd30 ct30 oc31 kV31 dc31 pm31 cd31 ct31 oc32 kV32 dc32 pm32 cd32 ct32 oc33 kV33 dc33 pm33 cd33 ct33 oc34 kV34 dc34 pm34 cd34 ct34 oc35 kV35 dc35 pm35 cd35 ct35 oc36 kV36 dc36 pm36 cd36 ct36 oc37 kV37 dc37 pm37 cd37 ct37 oc38 kV38 dc38 pm38 cd38 ct38 oc39 kV39 dc39 pm39 cd39 ct39 oc40 kV40 dc40 pm40 cd40 ct40 oc41 kV41 dc41 pm41 cd41 ct41 oc42 kV42 dc42 pm42 cd42 ct42 : Value}
    (a1 : PySem.W.nsIn K mainGlobals "is_whole" = some (some (.ref f1))) (l1 : K.lookup f1 = some ⟨oc1, od1, .func (PySem.W.fnOf "is_whole" "is_whole" (defArgs s_is_whole) (defBody s_is_whole) (defScope s_is_whole) .none kV1 dc1 pm1 an1 cd1 ct1), sl1⟩) (c1 : PySem.W.codeIn K cd1 "is_whole" = true) (k1 : PySem.W.keepIn K (.ref f1) = true)
    (a2 : PySem.W.nsIn K mainGlobals "are_rows" = some (some (.ref f2))) (l2 : K.lookup f2 = some ⟨oc2, od2, .func (PySem.W.fnOf "are_rows" "are_rows" (defArgs s_are_rows) (defBody s_are_rows) (defScope s_are_rows) .none kV2 dc2 pm2 an2 cd2 ct2), sl2⟩) (c2 : PySem.W.codeIn K cd2 "are_rows" = true) (k2 : PySem.W.keepIn K (.ref f2) = true)
    (a3 : PySem.W.nsIn K mainGlobals "is_generator" = some (some (.ref f3))) (l3 : K.lookup f3 = some ⟨oc3, od3, .func (PySem.W.fnOf "is_generator" "is_generator" (defArgs s_is_generator) (defBody s_is_generator) (defScope s_is_generator) .none kV3 dc3 pm3 an3 cd3 ct3), sl3⟩) (c3 : PySem.W.codeIn K cd3 "is_generator" = true) (k3 : PySem.W.keepIn K (.ref f3) = true)
    (a4 : PySem.W.nsIn K mainGlobals "are_numbers" = some (some (.ref f4))) (l4 : K.lookup f4 = some ⟨oc4, od4, .func (PySem.W.fnOf "are_numbers" "are_numbers" (defArgs s_are_numbers) (defBody s_are_numbers) (defScope s_are_numbers) .none kV4 dc4 pm4 an4 cd4 ct4), sl4⟩) (c4 : PySem.W.codeIn K cd4 "are_numbers" = true) (k4 : PySem.W.keepIn K (.ref f4) = true)
    (a5 : PySem.W.nsIn K mainGlobals "fits_longer" = some (some (.ref f5))) (l5 : K.lookup f5 = some ⟨oc5, od5, .func (PySem.W.fnOf "fits_longer" "fits_longer" (defArgs s_fits_longer) (defBody s_fits_longer) (defScope s_fits_longer) .none kV5 dc5 pm5 an5 cd5 ct5), sl5⟩) (c5 : PySem.W.codeIn K cd5 "fits_longer" = true) (k5 : PySem.W.keepIn K (.ref f5) = true)
    (a6 : PySem.W.nsIn K mainGlobals "fits_tree" = some (some (.ref f6))) (l6 : K.lookup f6 = some ⟨oc6, od6, .func (PySem.W.fnOf "fits_tree" "fits_tree" (defArgs s_fits_tree) (defBody s_fits_tree) (defScope s_fits_tree) .none kV6 dc6 pm6 an6 cd6 ct6), sl6⟩) (c6 : PySem.W.codeIn K cd6 "fits_tree" = true) (k6 : PySem.W.keepIn K (.ref f6) = true)
    (a7 : PySem.W.nsIn K mainGlobals "fits_opening" = some (some (.ref f7))) (l7 : K.lookup f7 = some ⟨oc7, od7, .func (PySem.W.fnOf "fits_opening" "fits_opening" (defArgs s_fits_opening) (defBody s_fits_opening) (defScope s_fits_opening) .none kV7 dc7 pm7 an7 cd7 ct7), sl7⟩) (c7 : PySem.W.codeIn K cd7 "fits_opening" = true) (k7 : PySem.W.keepIn K (.ref f7) = true)
    (a8 : PySem.W.nsIn K mainGlobals "fits_onetime" = some (some (.ref f8))) (l8 : K.lookup f8 = some ⟨oc8, od8, .func (PySem.W.fnOf "fits_onetime" "fits_onetime" (defArgs s_fits_onetime) (defBody s_fits_onetime) (defScope s_fits_onetime) .none kV8 dc8 pm8 an8 cd8 ct8), sl8⟩) (c8 : PySem.W.codeIn K cd8 "fits_onetime" = true) (k8 : PySem.W.keepIn K (.ref f8) = true)
    (a9 : PySem.W.nsIn K mainGlobals "is_made" = some (some (.ref f9))) (l9 : K.lookup f9 = some ⟨oc9, od9, .func (PySem.W.fnOf "is_made" "is_made" (defArgs s_is_made) (defBody s_is_made) (defScope s_is_made) .none kV9 dc9 pm9 an9 cd9 ct9), sl9⟩) (c9 : PySem.W.codeIn K cd9 "is_made" = true) (k9 : PySem.W.keepIn K (.ref f9) = true)
    (a10 : PySem.W.nsIn K mainGlobals "fits_kind" = some (some (.ref f10))) (l10 : K.lookup f10 = some ⟨oc10, od10, .func (PySem.W.fnOf "fits_kind" "fits_kind" (defArgs s_fits_kind) (defBody s_fits_kind) (defScope s_fits_kind) .none kV10 dc10 pm10 an10 cd10 ct10), sl10⟩) (c10 : PySem.W.codeIn K cd10 "fits_kind" = true) (k10 : PySem.W.keepIn K (.ref f10) = true)
    (a11 : PySem.W.nsIn K mainGlobals "is_part" = some (some (.ref f11))) (l11 : K.lookup f11 = some ⟨oc11, od11, .func (PySem.W.fnOf "is_part" "is_part" (defArgs s_is_part) (defBody s_is_part) (defScope s_is_part) .none kV11 dc11 pm11 an11 cd11 ct11), sl11⟩) (c11 : PySem.W.codeIn K cd11 "is_part" = true) (k11 : PySem.W.keepIn K (.ref f11) = true)
    (a12 : PySem.W.nsIn K mainGlobals "are_parts" = some (some (.ref f12))) (l12 : K.lookup f12 = some ⟨oc12, od12, .func (PySem.W.fnOf "are_parts" "are_parts" (defArgs s_are_parts) (defBody s_are_parts) (defScope s_are_parts) .none kV12 dc12 pm12 an12 cd12 ct12), sl12⟩) (c12 : PySem.W.codeIn K cd12 "are_parts" = true) (k12 : PySem.W.keepIn K (.ref f12) = true)
    (a13 : PySem.W.nsIn K mainGlobals "looks_plain" = some (some (.ref f13))) (l13 : K.lookup f13 = some ⟨oc13, od13, .func (PySem.W.fnOf "looks_plain" "looks_plain" (defArgs s_looks_plain) (defBody s_looks_plain) (defScope s_looks_plain) .none kV13 dc13 pm13 an13 cd13 ct13), sl13⟩) (c13 : PySem.W.codeIn K cd13 "looks_plain" = true) (k13 : PySem.W.keepIn K (.ref f13) = true)
    (a14 : PySem.W.nsIn K mainGlobals "directly_within" = some (some (.ref f14))) (l14 : K.lookup f14 = some ⟨oc14, od14, .func (PySem.W.fnOf "directly_within" "directly_within" (defArgs s_directly_within) (defBody s_directly_within) (defScope s_directly_within) .none kV14 dc14 pm14 an14 cd14 ct14), sl14⟩) (c14 : PySem.W.codeIn K cd14 "directly_within" = true) (k14 : PySem.W.keepIn K (.ref f14) = true)
    (a15 : PySem.W.nsIn K mainGlobals "is_plain_breaker" = some (some (.ref f15))) (l15 : K.lookup f15 = some ⟨oc15, od15, .func (PySem.W.fnOf "is_plain_breaker" "is_plain_breaker" (defArgs s_is_plain_breaker) (defBody s_is_plain_breaker) (defScope s_is_plain_breaker) .none kV15 dc15 pm15 an15 cd15 ct15), sl15⟩) (c15 : PySem.W.codeIn K cd15 "is_plain_breaker" = true) (k15 : PySem.W.keepIn K (.ref f15) = true)
    (a16 : PySem.W.nsIn K mainGlobals "check_breaker" = some (some (.ref f16))) (l16 : K.lookup f16 = some ⟨oc16, od16, .func (PySem.W.fnOf "check_breaker" "check_breaker" (defArgs s_check_breaker) (defBody s_check_breaker) (defScope s_check_breaker) .none kV16 dc16 pm16 an16 cd16 ct16), sl16⟩) (c16 : PySem.W.codeIn K cd16 "check_breaker" = true) (k16 : PySem.W.keepIn K (.ref f16) = true)
    (a17 : PySem.W.nsIn K mainGlobals "is_plain" = some (some (.ref f17))) (l17 : K.lookup f17 = some ⟨oc17, od17, .func (PySem.W.fnOf "is_plain" "is_plain" (defArgs s_is_plain) (defBody s_is_plain) (defScope s_is_plain) .none kV17 dc17 pm17 an17 cd17 ct17), sl17⟩) (c17 : PySem.W.codeIn K cd17 "is_plain" = true) (k17 : PySem.W.keepIn K (.ref f17) = true)
    (a18 : PySem.W.nsIn K mainGlobals "_law_draws" = some (some (.ref f18))) (l18 : K.lookup f18 = some ⟨oc18, od18, .func (PySem.W.fnOf "_law_draws" "_law_draws" (defArgs s_law_draws) (defBody s_law_draws) (defScope s_law_draws) .none kV18 dc18 pm18 an18 cd18 ct18), sl18⟩) (c18 : PySem.W.codeIn K cd18 "_law_draws" = true) (k18 : PySem.W.keepIn K (.ref f18) = true)
    (a19 : PySem.W.nsIn K mainGlobals "_law_take" = some (some (.ref f19))) (l19 : K.lookup f19 = some ⟨oc19, od19, .func (PySem.W.fnOf "_law_take" "_law_take" (defArgs s_law_take) (defBody s_law_take) (defScope s_law_take) .none kV19 dc19 pm19 an19 cd19 ct19), sl19⟩) (c19 : PySem.W.codeIn K cd19 "_law_take" = true) (k19 : PySem.W.keepIn K (.ref f19) = true)
    (a20 : PySem.W.nsIn K mainGlobals "_law_string" = some (some (.ref f20))) (l20 : K.lookup f20 = some ⟨oc20, od20, .func (PySem.W.fnOf "_law_string" "_law_string" (defArgs s_law_string) (defBody s_law_string) (defScope s_law_string) .none kV20 dc20 pm20 an20 cd20 ct20), sl20⟩) (c20 : PySem.W.codeIn K cd20 "_law_string" = true) (k20 : PySem.W.keepIn K (.ref f20) = true)
    (a21 : PySem.W.nsIn K mainGlobals "_law_table" = some (some (.ref f21))) (l21 : K.lookup f21 = some ⟨oc21, od21, .func (PySem.W.fnOf "_law_table" "_law_table" (defArgs s_law_table) (defBody s_law_table) (defScope s_law_table) .none kV21 dc21 pm21 an21 cd21 ct21), sl21⟩) (c21 : PySem.W.codeIn K cd21 "_law_table" = true) (k21 : PySem.W.keepIn K (.ref f21) = true)
    (a22 : PySem.W.nsIn K mainGlobals "_law_function" = some (some (.ref f22))) (l22 : K.lookup f22 = some ⟨oc22, od22, .func (PySem.W.fnOf "_law_function" "_law_function" (defArgs s_law_function) (defBody s_law_function) (defScope s_law_function) .none kV22 dc22 pm22 an22 cd22 ct22), sl22⟩) (c22 : PySem.W.codeIn K cd22 "_law_function" = true) (k22 : PySem.W.keepIn K (.ref f22) = true)
    (a23 : PySem.W.nsIn K mainGlobals "_law_parts" = some (some (.ref f23))) (l23 : K.lookup f23 = some ⟨oc23, od23, .func (PySem.W.fnOf "_law_parts" "_law_parts" (defArgs s_law_parts) (defBody s_law_parts) (defScope s_law_parts) .none kV23 dc23 pm23 an23 cd23 ct23), sl23⟩) (c23 : PySem.W.codeIn K cd23 "_law_parts" = true) (k23 : PySem.W.keepIn K (.ref f23) = true)
    (a24 : PySem.W.nsIn K mainGlobals "_law_breaker" = some (some (.ref f24))) (l24 : K.lookup f24 = some ⟨oc24, od24, .func (PySem.W.fnOf "_law_breaker" "_law_breaker" (defArgs s_law_breaker) (defBody s_law_breaker) (defScope s_law_breaker) .none kV24 dc24 pm24 an24 cd24 ct24), sl24⟩) (c24 : PySem.W.codeIn K cd24 "_law_breaker" = true) (k24 : PySem.W.keepIn K (.ref f24) = true)
    (a25 : PySem.W.nsIn K mainGlobals "_law_made" = some (some (.ref f25))) (l25 : K.lookup f25 = some ⟨oc25, od25, .func (PySem.W.fnOf "_law_made" "_law_made" (defArgs s_law_made) (defBody s_law_made) (defScope s_law_made) .none kV25 dc25 pm25 an25 cd25 ct25), sl25⟩) (c25 : PySem.W.codeIn K cd25 "_law_made" = true) (k25 : PySem.W.keepIn K (.ref f25) = true)
    (a26 : PySem.W.nsIn K mainGlobals "_law_within" = some (some (.ref f26))) (l26 : K.lookup f26 = some ⟨oc26, od26, .func (PySem.W.fnOf "_law_within" "_law_within" (defArgs s_law_within) (defBody s_law_within) (defScope s_law_within) .none kV26 dc26 pm26 an26 cd26 ct26), sl26⟩) (c26 : PySem.W.codeIn K cd26 "_law_within" = true) (k26 : PySem.W.keepIn K (.ref f26) = true)
    (a27 : PySem.W.nsIn K mainGlobals "_law_is_bits" = some (some (.ref f27))) (l27 : K.lookup f27 = some ⟨oc27, od27, .func (PySem.W.fnOf "_law_is_bits" "_law_is_bits" (defArgs s_law_is_bits) (defBody s_law_is_bits) (defScope s_law_is_bits) .none kV27 dc27 pm27 an27 cd27 ct27), sl27⟩) (c27 : PySem.W.codeIn K cd27 "_law_is_bits" = true) (k27 : PySem.W.keepIn K (.ref f27) = true)
    (a28 : PySem.W.nsIn K mainGlobals "_law_rows_good" = some (some (.ref f28))) (l28 : K.lookup f28 = some ⟨oc28, od28, .func (PySem.W.fnOf "_law_rows_good" "_law_rows_good" (defArgs s_law_rows_good) (defBody s_law_rows_good) (defScope s_law_rows_good) .none kV28 dc28 pm28 an28 cd28 ct28), sl28⟩) (c28 : PySem.W.codeIn K cd28 "_law_rows_good" = true) (k28 : PySem.W.keepIn K (.ref f28) = true)
    (a29 : PySem.W.nsIn K mainGlobals "_law_block_good" = some (some (.ref f29))) (l29 : K.lookup f29 = some ⟨oc29, od29, .func (PySem.W.fnOf "_law_block_good" "_law_block_good" (defArgs s_law_block_good) (defBody s_law_block_good) (defScope s_law_block_good) .none kV29 dc29 pm29 an29 cd29 ct29), sl29⟩) (c29 : PySem.W.codeIn K cd29 "_law_block_good" = true) (k29 : PySem.W.keepIn K (.ref f29) = true)
    (a30 : PySem.W.nsIn K mainGlobals "_law_is_parts" = some (some (.ref f30))) (l30 : K.lookup f30 = some ⟨oc30, od30, .func (PySem.W.fnOf "_law_is_parts" "_law_is_parts" (defArgs s_law_is_parts) (defBody s_law_is_parts) (defScope s_law_is_parts) .none kV30 dc30 pm30 an30 cd30 ct30), sl30⟩) (c30 : PySem.W.codeIn K cd30 "_law_is_parts" = true) (k30 : PySem.W.keepIn K (.ref f30) = true)
    (a31 : PySem.W.nsIn K mainGlobals "_law_plain_inner" = some (some (.ref f31))) (l31 : K.lookup f31 = some ⟨oc31, od31, .func (PySem.W.fnOf "_law_plain_inner" "_law_plain_inner" (defArgs s_law_plain_inner) (defBody s_law_plain_inner) (defScope s_law_plain_inner) .none kV31 dc31 pm31 an31 cd31 ct31), sl31⟩) (c31 : PySem.W.codeIn K cd31 "_law_plain_inner" = true) (k31 : PySem.W.keepIn K (.ref f31) = true)
    (a32 : PySem.W.nsIn K mainGlobals "_law_plain_good" = some (some (.ref f32))) (l32 : K.lookup f32 = some ⟨oc32, od32, .func (PySem.W.fnOf "_law_plain_good" "_law_plain_good" (defArgs s_law_plain_good) (defBody s_law_plain_good) (defScope s_law_plain_good) .none kV32 dc32 pm32 an32 cd32 ct32), sl32⟩) (c32 : PySem.W.codeIn K cd32 "_law_plain_good" = true) (k32 : PySem.W.keepIn K (.ref f32) = true)
    (a33 : PySem.W.nsIn K mainGlobals "_law_made_good" = some (some (.ref f33))) (l33 : K.lookup f33 = some ⟨oc33, od33, .func (PySem.W.fnOf "_law_made_good" "_law_made_good" (defArgs s_law_made_good) (defBody s_law_made_good) (defScope s_law_made_good) .none kV33 dc33 pm33 an33 cd33 ct33), sl33⟩) (c33 : PySem.W.codeIn K cd33 "_law_made_good" = true) (k33 : PySem.W.keepIn K (.ref f33) = true)
    (a34 : PySem.W.nsIn K mainGlobals "_law_breaker_good" = some (some (.ref f34))) (l34 : K.lookup f34 = some ⟨oc34, od34, .func (PySem.W.fnOf "_law_breaker_good" "_law_breaker_good" (defArgs s_law_breaker_good) (defBody s_law_breaker_good) (defScope s_law_breaker_good) .none kV34 dc34 pm34 an34 cd34 ct34), sl34⟩) (c34 : PySem.W.codeIn K cd34 "_law_breaker_good" = true) (k34 : PySem.W.keepIn K (.ref f34) = true)
    (a35 : PySem.W.nsIn K mainGlobals "_law_odd" = some (some (.ref f35))) (l35 : K.lookup f35 = some ⟨oc35, od35, .func (PySem.W.fnOf "_law_odd" "_law_odd" (defArgs s_law_odd) (defBody s_law_odd) (defScope s_law_odd) .none kV35 dc35 pm35 an35 cd35 ct35), sl35⟩) (c35 : PySem.W.codeIn K cd35 "_law_odd" = true) (k35 : PySem.W.keepIn K (.ref f35) = true)
    (a36 : PySem.W.nsIn K mainGlobals "_law_bent" = some (some (.ref f36))) (l36 : K.lookup f36 = some ⟨oc36, od36, .func (PySem.W.fnOf "_law_bent" "_law_bent" (defArgs s_law_bent) (defBody s_law_bent) (defScope s_law_bent) .none kV36 dc36 pm36 an36 cd36 ct36), sl36⟩) (c36 : PySem.W.codeIn K cd36 "_law_bent" = true) (k36 : PySem.W.keepIn K (.ref f36) = true)
    (a37 : PySem.W.nsIn K mainGlobals "_law_is_right" = some (some (.ref f37))) (l37 : K.lookup f37 = some ⟨oc37, od37, .func (PySem.W.fnOf "_law_is_right" "_law_is_right" (defArgs s_law_is_right) (defBody s_law_is_right) (defScope s_law_is_right) .none kV37 dc37 pm37 an37 cd37 ct37), sl37⟩) (c37 : PySem.W.codeIn K cd37 "_law_is_right" = true) (k37 : PySem.W.keepIn K (.ref f37) = true)
    (a38 : PySem.W.nsIn K mainGlobals "_law_edge" = some (some (.ref f38))) (l38 : K.lookup f38 = some ⟨oc38, od38, .func (PySem.W.fnOf "_law_edge" "_law_edge" (defArgs s_law_edge) (defBody s_law_edge) (defScope s_law_edge) .none kV38 dc38 pm38 an38 cd38 ct38), sl38⟩) (c38 : PySem.W.codeIn K cd38 "_law_edge" = true) (k38 : PySem.W.keepIn K (.ref f38) = true)
    (a39 : PySem.W.nsIn K mainGlobals "_law_refused" = some (some (.ref f39))) (l39 : K.lookup f39 = some ⟨oc39, od39, .func (PySem.W.fnOf "_law_refused" "_law_refused" (defArgs s_law_refused) (defBody s_law_refused) (defScope s_law_refused) .none kV39 dc39 pm39 an39 cd39 ct39), sl39⟩) (c39 : PySem.W.codeIn K cd39 "_law_refused" = true) (k39 : PySem.W.keepIn K (.ref f39) = true)
    (a40 : PySem.W.nsIn K mainGlobals "_law_wrong_blocks" = some (some (.ref f40))) (l40 : K.lookup f40 = some ⟨oc40, od40, .func (PySem.W.fnOf "_law_wrong_blocks" "_law_wrong_blocks" (defArgs s_law_wrong_blocks) (defBody s_law_wrong_blocks) (defScope s_law_wrong_blocks) .none kV40 dc40 pm40 an40 cd40 ct40), sl40⟩) (c40 : PySem.W.codeIn K cd40 "_law_wrong_blocks" = true) (k40 : PySem.W.keepIn K (.ref f40) = true)
    (a41 : PySem.W.nsIn K mainGlobals "_law_deep" = some (some (.ref f41))) (l41 : K.lookup f41 = some ⟨oc41, od41, .func (PySem.W.fnOf "_law_deep" "_law_deep" (defArgs s_law_deep) (defBody s_law_deep) (defScope s_law_deep) .none kV41 dc41 pm41 an41 cd41 ct41), sl41⟩) (c41 : PySem.W.codeIn K cd41 "_law_deep" = true) (k41 : PySem.W.keepIn K (.ref f41) = true)
    (a42 : PySem.W.nsIn K mainGlobals "law" = some (some (.ref f42))) (l42 : K.lookup f42 = some ⟨oc42, od42, .func (PySem.W.fnOf "law" "law" (defArgs s_law) (defBody s_law) (defScope s_law) .none kV42 dc42 pm42 an42 cd42 ct42), sl42⟩) (c42 : PySem.W.codeIn K cd42 "law" = true) (k42 : PySem.W.keepIn K (.ref f42) = true)
    (z1 : PySem.W.nsIn K mainGlobals "ValueError" = some none)
    (z2 : PySem.W.nsIn K mainGlobals "abs" = some none)
    (z3 : PySem.W.nsIn K mainGlobals "all" = some none)
    (z4 : PySem.W.nsIn K mainGlobals "bool" = some none)
    (z5 : PySem.W.nsIn K mainGlobals "int" = some none)
    (z6 : PySem.W.nsIn K mainGlobals "isinstance" = some none)
    (z7 : PySem.W.nsIn K mainGlobals "len" = some none)
    (z8 : PySem.W.nsIn K mainGlobals "list" = some none)
    (z9 : PySem.W.nsIn K mainGlobals "min" = some none)
    (z10 : PySem.W.nsIn K mainGlobals "range" = some none)
    (z11 : PySem.W.nsIn K mainGlobals "str" = some none)
    (z12 : PySem.W.nsIn K mainGlobals "tuple" = some none)
    (z13 : PySem.W.nsIn K mainGlobals "zip" = some none)
    {tk1 : Tok} (y1 : PySem.W.nsIn K mainGlobals "DEEPEST_MADE" = some (some (.int 20 tk1)))
    {tk2 : Tok} (y2 : PySem.W.nsIn K mainGlobals "DEEPEST_PLAIN" = some (some (.int 60 tk2)))
    {tk3 : Tok} (y3 : PySem.W.nsIn K mainGlobals "LAST_BIT" = some (some (.int 9999 tk3)))
    {tk4 : Tok} (y4 : PySem.W.nsIn K mainGlobals "MOST_BITS" = some (some (.int 40 tk4)))
    {tk5 : Tok} (y5 : PySem.W.nsIn K mainGlobals "MOST_TOSSED" = some (some (.int 64 tk5)))
    {tk6 : Tok} (y6 : PySem.W.nsIn K mainGlobals "MOST_WITHIN" = some (some (.int 2000 tk6)))
    {CBadBlock CBadBreaker CBadScheme CBreakError : Addr}
    {CNUMBERS : Addr} {esNUMBERS : Array DictEntry} {nnNUMBERS : Nat}
    {CFITTING : Addr} {esFITTING : Array DictEntry} {nnFITTING : Nat}
    {hF1 hF2 hF3 hF4 : Int} {tF1 tF2 tF3 tF4 : Tok}
    (gBadBlock : PySem.W.nsIn K mainGlobals "BadBlock" = some (some (.ref CBadBlock)))
    (gBadBreaker : PySem.W.nsIn K mainGlobals "BadBreaker" = some (some (.ref CBadBreaker)))
    (gBadScheme : PySem.W.nsIn K mainGlobals "BadScheme" = some (some (.ref CBadScheme)))
    (gBreakError : PySem.W.nsIn K mainGlobals "BreakError" = some (some (.ref CBreakError)))
    (xBadBreaker : PySem.W.excIn K CBadBreaker [.type "ValueError", .type "Exception", .type "BaseException", .type "object"] "ValueError.__new__" = true)
    (kBadBreaker : PySem.W.keepIn K (.ref CBadBreaker) = true)
    (bBadBreaker : PySem.W.subIn K (.ref CBadBreaker) (.type "BaseException") = some true)
    (tBadBreaker : PySem.W.typeIn K (.ref CBadBreaker) = some (.type "type"))
    (uBadBreaker : PySem.W.findIn K (.ref CBadBreaker) "__getattribute__" = some (some (.builtin "BaseException.__getattribute__")))
    (vBadBreaker : PySem.W.findIn K (.ref CBadBreaker) "__getattr__" = some none)
    (hBadBreaker : PySem.W.hasDictIn K CBadBreaker = true)
    (wBadBreaker : PySem.W.findIn K (.ref CBadBreaker) "__class__" = some (some (.builtin "object.__class__")))
    (mBadBreaker : PySem.W.mroIn K CBadBreaker (.type "object") = some true)
    (eBadBreakerBreakError : PySem.W.exmOne K (.ref CBadBreaker) (.ref CBreakError) = some true)
    (eBadBreakerBadBreaker : PySem.W.exmOne K (.ref CBadBreaker) (.ref CBadBreaker) = some true)
    (kBadBreakerBadBreaker : PySem.W.kitOne K (.ref CBadBreaker) (.ref CBadBreaker) = some true)
    (kBadBreakerBadBlock : PySem.W.kitOne K (.ref CBadBreaker) (.ref CBadBlock) = some false)
    (kBadBreakerBadScheme : PySem.W.kitOne K (.ref CBadBreaker) (.ref CBadScheme) = some false)
    (kBadBreakerValueError : PySem.W.kitOne K (.ref CBadBreaker) (.type "ValueError") = some true)
    (sp1 : PySem.W.specialIn K (.builtin "object.__class__") "__get__" = some (some (.builtin "getset_descriptor.__get__")))
    (tk1 : PySem.W.takesIn K (.builtin "object.__class__") = some true)
    (gNUMBERS : PySem.W.nsIn K mainGlobals "NUMBERS" = some (some (.ref CNUMBERS)))
    (lNUMBERS : K.lookup CNUMBERS = some ⟨.type "dict", none, .dict esNUMBERS nnNUMBERS, #[]⟩)
    (qNUMBERS : PySem.W.KeysLit w.params esNUMBERS.toList)
    (loNUMBERS : (CNUMBERS == sysModules) = false)
    (rNUMBERS : numB K esNUMBERS.toList numK = true)
    (gFITTING : PySem.W.nsIn K mainGlobals "FITTING" = some (some (.ref CFITTING)))
    (lFITTING : K.lookup CFITTING = some ⟨.type "dict", none, .dict esFITTING nnFITTING, #[]⟩)
    (qFITTING : PySem.W.KeysLit w.params esFITTING.toList)
    (loFITTING : (CFITTING == sysModules) = false)
    (rFITTING : esFITTING.toList = [⟨hF1, .str "longer" tF1, .ref f5⟩, ⟨hF2, .str "tree" tF2, .ref f6⟩, ⟨hF3, .str "opening" tF3, .ref f7⟩, ⟨hF4, .str "onetime" tF4, .ref f8⟩]) :
    ∃ fd : FuncData, (∀ (s : Shared) (v : Value), BindsTo s fd ⟨[v], []⟩ [("script", v)]) ∧ ∀ base : Heap, K.In base → base.Ns mainGlobals mg → FnOk l.prog w K mg base CX0 top_level fa fd ["script"] (spLaw K) := by
  have e := hfa.symm.trans (PySem.W.mg_of X G a42)
  cases e
  have T : Txt K w mg ⟨CBadBlock, CBadBreaker, CBadScheme, CBreakError, CNUMBERS, CFITTING⟩ := { n_ValueError := PySem.W.mg_none_of X G z1, n_abs := PySem.W.mg_none_of X G z2, n_all := PySem.W.mg_none_of X G z3, n_bool := PySem.W.mg_none_of X G z4, n_int := PySem.W.mg_none_of X G z5, n_isinstance := PySem.W.mg_none_of X G z6, n_len := PySem.W.mg_none_of X G z7, n_list := PySem.W.mg_none_of X G z8, n_min := PySem.W.mg_none_of X G z9, n_range := PySem.W.mg_none_of X G z10, n_str := PySem.W.mg_none_of X G z11, n_tuple := PySem.W.mg_none_of X G z12, n_zip := PySem.W.mg_none_of X G z13, g_DEEPEST_MADE := ⟨_, PySem.W.mg_of X G y1, ⟨_, rfl⟩⟩, g_DEEPEST_PLAIN := ⟨_, PySem.W.mg_of X G y2, ⟨_, rfl⟩⟩, g_LAST_BIT := ⟨_, PySem.W.mg_of X G y3, ⟨_, rfl⟩⟩, g_MOST_BITS := ⟨_, PySem.W.mg_of X G y4, ⟨_, rfl⟩⟩, g_MOST_TOSSED := ⟨_, PySem.W.mg_of X G y5, ⟨_, rfl⟩⟩, g_MOST_WITHIN := ⟨_, PySem.W.mg_of X G y6, ⟨_, rfl⟩⟩, gl_BadBlock := PySem.W.mg_of X G gBadBlock, gl_BadBreaker := PySem.W.mg_of X G gBadBreaker, gl_BadScheme := PySem.W.mg_of X G gBadScheme, gl_BreakError := PySem.W.mg_of X G gBreakError, gl_NUMBERS := PySem.W.mg_of X G gNUMBERS, gl_FITTING := PySem.W.mg_of X G gFITTING, dk_NUMBERS := ⟨⟨_, _, ⟨lNUMBERS, qNUMBERS, loNUMBERS⟩, numB_ok rNUMBERS⟩, num_has⟩, dk_FITTING := ⟨⟨_, _, ⟨lFITTING, qFITTING, loFITTING⟩, fitB_ok rFITTING (PySem.W.mg_of X G a5) (PySem.W.mg_of X G a6) (PySem.W.mg_of X G a7) (PySem.W.mg_of X G a8)⟩, fit_has⟩, x_BadBreaker := ⟨xBadBreaker, PySem.W.mg_of X G gBadBreaker, kBadBreaker, bBadBreaker, tBadBreaker⟩, e_BadBreaker := ⟨uBadBreaker, vBadBreaker, bBadBreaker, hBadBreaker, wBadBreaker, sp1, tk1, mBadBreaker⟩, exm_BadBreaker_BreakError := eBadBreakerBreakError, exm_BadBreaker_BadBreaker := eBadBreakerBadBreaker, kit_BadBreaker_BadBreaker := kBadBreakerBadBreaker, kit_BadBreaker_BadBlock := kBadBreakerBadBlock, kit_BadBreaker_BadScheme := kBadBreakerBadScheme, kit_BadBreaker_ValueError := kBadBreakerValueError }
  have F1 := fun_mk (st := s_is_whole) l1 c1 k1
  have b1 := F1.binds (ps := ["value", "low", "high"]) fun _ _ _ _ _ _ us hl => match us, hl with | [_, _, _], _ => rfl
  have F2 := fun_mk (st := s_are_rows) l2 c2 k2
  have b2 := F2.binds (ps := ["value", "many", "m"]) fun _ _ _ _ _ _ us hl => match us, hl with | [_, _, _], _ => rfl
  have F3 := fun_mk (st := s_is_generator) l3 c3 k3
  have b3 := F3.binds (ps := ["value"]) fun _ _ _ _ _ _ us hl => match us, hl with | [_], _ => rfl
  have F4 := fun_mk (st := s_are_numbers) l4 c4 k4
  have b4 := F4.binds (ps := ["own", "bounds"]) fun _ _ _ _ _ _ us hl => match us, hl with | [_, _], _ => rfl
  have F5 := fun_mk (st := s_fits_longer) l5 c5 k5
  have b5 := F5.binds (ps := ["own"]) fun _ _ _ _ _ _ us hl => match us, hl with | [_], _ => rfl
  have F6 := fun_mk (st := s_fits_tree) l6 c6 k6
  have b6 := F6.binds (ps := ["own"]) fun _ _ _ _ _ _ us hl => match us, hl with | [_], _ => rfl
  have F7 := fun_mk (st := s_fits_opening) l7 c7 k7
  have b7 := F7.binds (ps := ["own"]) fun _ _ _ _ _ _ us hl => match us, hl with | [_], _ => rfl
  have F8 := fun_mk (st := s_fits_onetime) l8 c8 k8
  have b8 := F8.binds (ps := ["own"]) fun _ _ _ _ _ _ us hl => match us, hl with | [_], _ => rfl
  have F9 := fun_mk (st := s_is_made) l9 c9 k9
  have b9 := F9.binds (ps := ["value"]) fun _ _ _ _ _ _ us hl => match us, hl with | [_], _ => rfl
  have F10 := fun_mk (st := s_fits_kind) l10 c10 k10
  have b10 := F10.binds (ps := ["made"]) fun _ _ _ _ _ _ us hl => match us, hl with | [_], _ => rfl
  have F11 := fun_mk (st := s_is_part) l11 c11 k11
  have b11 := F11.binds (ps := ["value"]) fun _ _ _ _ _ _ us hl => match us, hl with | [_], _ => rfl
  have F12 := fun_mk (st := s_are_parts) l12 c12 k12
  have b12 := F12.binds (ps := ["value"]) fun _ _ _ _ _ _ us hl => match us, hl with | [_], _ => rfl
  have F13 := fun_mk (st := s_looks_plain) l13 c13 k13
  have b13 := F13.binds (ps := ["value"]) fun _ _ _ _ _ _ us hl => match us, hl with | [_], _ => rfl
  have F14 := fun_mk (st := s_directly_within) l14 c14 k14
  have b14 := F14.binds (ps := ["plain"]) fun _ _ _ _ _ _ us hl => match us, hl with | [_], _ => rfl
  have F15 := fun_mk (st := s_is_plain_breaker) l15 c15 k15
  have b15 := F15.binds (ps := ["value"]) fun _ _ _ _ _ _ us hl => match us, hl with | [_], _ => rfl
  have F16 := fun_mk (st := s_check_breaker) l16 c16 k16
  have b16 := F16.binds (ps := ["breaker"]) fun _ _ _ _ _ _ us hl => match us, hl with | [_], _ => rfl
  have F17 := fun_mk (st := s_is_plain) l17 c17 k17
  have b17 := F17.binds (ps := ["breaker"]) fun _ _ _ _ _ _ us hl => match us, hl with | [_], _ => rfl
  have F18 := fun_mk (st := s_law_draws) l18 c18 k18
  have b18 := F18.binds (ps := ["script", "many"]) fun _ _ _ _ _ _ us hl => match us, hl with | [_, _], _ => rfl
  have F19 := fun_mk (st := s_law_take) l19 c19 k19
  have b19 := F19.binds (ps := ["hand", "many"]) fun _ _ _ _ _ _ us hl => match us, hl with | [_, _], _ => rfl
  have F20 := fun_mk (st := s_law_string) l20 c20 k20
  have b20 := F20.binds (ps := ["hand", "length"]) fun _ _ _ _ _ _ us hl => match us, hl with | [_, _], _ => rfl
  have F21 := fun_mk (st := s_law_table) l21 c21 k21
  have b21 := F21.binds (ps := ["hand", "n", "m"]) fun _ _ _ _ _ _ us hl => match us, hl with | [_, _, _], _ => rfl
  have F22 := fun_mk (st := s_law_function) l22 c22 k22
  have b22 := F22.binds (ps := ["hand", "n", "l", "m"]) fun _ _ _ _ _ _ us hl => match us, hl with | [_, _, _, _], _ => rfl
  have F23 := fun_mk (st := s_law_parts) l23 c23 k23
  have b23 := F23.binds (ps := ["hand", "length"]) fun _ _ _ _ _ _ us hl => match us, hl with | [_, _], _ => rfl
  have F24 := fun_mk (st := s_law_breaker) l24 c24 k24
  have b24 := F24.binds (ps := ["hand", "depth", "asks", "length", "said"]) fun _ _ _ _ _ _ us hl => match us, hl with | [_, _, _, _, _], _ => rfl
  have F25 := fun_mk (st := s_law_made) l25 c25 k25
  have b25 := F25.binds (ps := ["hand", "inner"]) fun _ _ _ _ _ _ us hl => match us, hl with | [_, _], _ => rfl
  have F26 := fun_mk (st := s_law_within) l26 c26 k26
  have b26 := F26.binds (ps := ["value", "least", "most"]) fun _ _ _ _ _ _ us hl => match us, hl with | [_, _, _], _ => rfl
  have F27 := fun_mk (st := s_law_is_bits) l27 c27 k27
  have b27 := F27.binds (ps := ["value", "length"]) fun _ _ _ _ _ _ us hl => match us, hl with | [_, _], _ => rfl
  have F28 := fun_mk (st := s_law_rows_good) l28 c28 k28
  have b28 := F28.binds (ps := ["rows", "many", "length"]) fun _ _ _ _ _ _ us hl => match us, hl with | [_, _, _], _ => rfl
  have F29 := fun_mk (st := s_law_block_good) l29 c29 k29
  have b29 := F29.binds (ps := ["value"]) fun _ _ _ _ _ _ us hl => match us, hl with | [_], _ => rfl
  have F30 := fun_mk (st := s_law_is_parts) l30 c30 k30
  have b30 := F30.binds (ps := ["parts"]) fun _ _ _ _ _ _ us hl => match us, hl with | [_], _ => rfl
  have F31 := fun_mk (st := s_law_plain_inner) l31 c31 k31
  have b31 := F31.binds (ps := ["value"]) fun _ _ _ _ _ _ us hl => match us, hl with | [_], _ => rfl
  have F32 := fun_mk (st := s_law_plain_good) l32 c32 k32
  have b32 := F32.binds (ps := ["value"]) fun _ _ _ _ _ _ us hl => match us, hl with | [_], _ => rfl
  have F33 := fun_mk (st := s_law_made_good) l33 c33 k33
  have b33 := F33.binds (ps := ["value"]) fun _ _ _ _ _ _ us hl => match us, hl with | [_], _ => rfl
  have F34 := fun_mk (st := s_law_breaker_good) l34 c34 k34
  have b34 := F34.binds (ps := ["value"]) fun _ _ _ _ _ _ us hl => match us, hl with | [_], _ => rfl
  have F35 := fun_mk (st := s_law_odd) l35 c35 k35
  have b35 := F35.binds (ps := ["hand", "depth"]) fun _ _ _ _ _ _ us hl => match us, hl with | [_, _], _ => rfl
  have F36 := fun_mk (st := s_law_bent) l36 c36 k36
  have b36 := F36.binds (ps := ["hand", "value", "depth"]) fun _ _ _ _ _ _ us hl => match us, hl with | [_, _, _], _ => rfl
  have F37 := fun_mk (st := s_law_is_right) l37 c37 k37
  have b37 := F37.binds (ps := ["value"]) fun _ _ _ _ _ _ us hl => match us, hl with | [_], _ => rfl
  have F38 := fun_mk (st := s_law_edge) l38 c38 k38
  have b38 := F38.binds (ps := ["hand"]) fun _ _ _ _ _ _ us hl => match us, hl with | [_], _ => rfl
  have F39 := fun_mk (st := s_law_refused) l39 c39 k39
  have b39 := F39.binds (ps := ["value"]) fun _ _ _ _ _ _ us hl => match us, hl with | [_], _ => rfl
  have F40 := fun_mk (st := s_law_wrong_blocks) l40 c40 k40
  have b40 := F40.binds (ps := ["hand", "plain"]) fun _ _ _ _ _ _ us hl => match us, hl with | [_, _], _ => rfl
  have F41 := fun_mk (st := s_law_deep) l41 c41 k41
  have b41 := F41.binds (ps := ["hand", "least"]) fun _ _ _ _ _ _ us hl => match us, hl with | [_, _], _ => rfl
  have F42 := fun_mk (st := s_law) l42 c42 k42
  have b42 := F42.binds (ps := ["script"]) fun _ _ _ _ _ _ us hl => match us, hl with | [_], _ => rfl
  refine ⟨PySem.W.fnOf "law" "law" (defArgs s_law) (defBody s_law) (defScope s_law) .none kV42 dc42 pm42 an42 cd42 ct42, fun s v => .of_eq rfl, fun base _ _ => ?_⟩
  exact mk_law T ⟨F1, b1, PySem.W.mg_of X G a1⟩ ⟨F2, b2, PySem.W.mg_of X G a2⟩ ⟨F3, b3, PySem.W.mg_of X G a3⟩ ⟨F4, b4, PySem.W.mg_of X G a4⟩ ⟨F5, b5, PySem.W.mg_of X G a5⟩ ⟨F6, b6, PySem.W.mg_of X G a6⟩ ⟨F7, b7, PySem.W.mg_of X G a7⟩ ⟨F8, b8, PySem.W.mg_of X G a8⟩ ⟨F9, b9, PySem.W.mg_of X G a9⟩ ⟨F10, b10, PySem.W.mg_of X G a10⟩ ⟨F11, b11, PySem.W.mg_of X G a11⟩ ⟨F12, b12, PySem.W.mg_of X G a12⟩ ⟨F13, b13, PySem.W.mg_of X G a13⟩ ⟨F14, b14, PySem.W.mg_of X G a14⟩ ⟨F15, b15, PySem.W.mg_of X G a15⟩ ⟨F16, b16, PySem.W.mg_of X G a16⟩ ⟨F17, b17, PySem.W.mg_of X G a17⟩ ⟨F18, b18, PySem.W.mg_of X G a18⟩ ⟨F19, b19, PySem.W.mg_of X G a19⟩ ⟨F20, b20, PySem.W.mg_of X G a20⟩ ⟨F21, b21, PySem.W.mg_of X G a21⟩ ⟨F22, b22, PySem.W.mg_of X G a22⟩ ⟨F23, b23, PySem.W.mg_of X G a23⟩ ⟨F24, b24, PySem.W.mg_of X G a24⟩ ⟨F25, b25, PySem.W.mg_of X G a25⟩ ⟨F26, b26, PySem.W.mg_of X G a26⟩ ⟨F27, b27, PySem.W.mg_of X G a27⟩ ⟨F28, b28, PySem.W.mg_of X G a28⟩ ⟨F29, b29, PySem.W.mg_of X G a29⟩ ⟨F30, b30, PySem.W.mg_of X G a30⟩ ⟨F31, b31, PySem.W.mg_of X G a31⟩ ⟨F32, b32, PySem.W.mg_of X G a32⟩ ⟨F33, b33, PySem.W.mg_of X G a33⟩ ⟨F34, b34, PySem.W.mg_of X G a34⟩ ⟨F35, b35, PySem.W.mg_of X G a35⟩ ⟨F36, b36, PySem.W.mg_of X G a36⟩ ⟨F37, b37, PySem.W.mg_of X G a37⟩ ⟨F38, b38, PySem.W.mg_of X G a38⟩ ⟨F39, b39, PySem.W.mg_of X G a39⟩ ⟨F40, b40, PySem.W.mg_of X G a40⟩ ⟨F41, b41, PySem.W.mg_of X G a41⟩ F42
end My
open PySem PySem.W PyProof.Rows
set_option maxRecDepth 100000 in
set_option maxHeartbeats 0 in
theorem PySem.Challenge.cw_breakback_k05_breakers_that_are_right_holds : PySem.Challenge.rw_breakback_k05_breakers_that_are_right.Holds := by
  w_on; o_law; k_head; (case hw => w_witness2)
  k_fill
  refine L2.walk_of (l := PySem.Challenge.rw_breakback_k05_breakers_that_are_right) (n := 63) (k := My.top_level) (x := "script") (CX := fun _ => L2.CX0) (sp := fun w => My.spLaw _) rfl (by decide) rfl ⟨rfl, by decide, by decide⟩ (fun w h Y => PySem.W.kIn_of Y) ?F (fun _ _ a ns hl _ hS => ⟨a, ns, rfl, hS, hl, fun _ => rfl⟩) (fun _ _ _ _ _ h => h)
  case F =>
    intro w mg fa h KX G hmg
    refine' My.all_mk KX G hmg ?a1 ?l1 ?c1 ?k1 ?a2 ?l2 ?c2 ?k2 ?a3 ?l3 ?c3 ?k3 ?a4 ?l4 ?c4 ?k4 ?a5 ?l5 ?c5 ?k5 ?a6 ?l6 ?c6 ?k6 ?a7 ?l7 ?c7 ?k7 ?a8 ?l8 ?c8 ?k8 ?a9 ?l9 ?c9 ?k9 ?a10 ?l10 ?c10 ?k10 ?a11 ?l11 ?c11 ?k11 ?a12 ?l12 ?c12 ?k12 ?a13 ?l13 ?c13 ?k13 ?a14 ?l14 ?c14 ?k14 ?a15 ?l15 ?c15 ?k15 ?a16 ?l16 ?c16 ?k16 ?a17 ?l17 ?c17 ?k17 ?a18 ?l18 ?c18 ?k18 ?a19 ?l19 ?c19 ?k19 ?a20 ?l20 ?c20 ?k20 ?a21 ?l21 ?c21 ?k21 ?a22 ?l22 ?c22 ?k22 ?a23 ?l23 ?c23 ?k23 ?a24 ?l24 ?c24 ?k24 ?a25 ?l25 ?c25 ?k25 ?a26 ?l26 ?c26 ?k26 ?a27 ?l27 ?c27 ?k27 ?a28 ?l28 ?c28 ?k28 ?a29 ?l29 ?c29 ?k29 ?a30 ?l30 ?c30 ?k30 ?a31 ?l31 ?c31 ?k31 ?a32 ?l32 ?c32 ?k32 ?a33 ?l33 ?c33 ?k33 ?a34 ?l34 ?c34 ?k34 ?a35 ?l35 ?c35 ?k35 ?a36 ?l36 ?c36 ?k36 ?a37 ?l37 ?c37 ?k37 ?a38 ?l38 ?c38 ?k38 ?a39 ?l39 ?c39 ?k39 ?a40 ?l40 ?c40 ?k40 ?a41 ?l41 ?c41 ?k41 ?a42 ?l42 ?c42 ?k42 ?z1 ?z2 ?z3 ?z4 ?z5 ?z6 ?z7 ?z8 ?z9 ?z10 ?z11 ?z12 ?z13 ?y1 ?y2 ?y3 ?y4 ?y5 ?y6 ?gBadBlock ?gBadBreaker ?gBadScheme ?gBreakError ?xBadBreaker ?kBadBreaker ?bBadBreaker ?tBadBreaker ?uBadBreaker ?vBadBreaker ?hBadBreaker ?wBadBreaker ?mBadBreaker ?eBadBreakerBreakError ?eBadBreakerBadBreaker ?kBadBreakerBadBreaker ?kBadBreakerBadBlock ?kBadBreakerBadScheme ?kBadBreakerValueError ?sp1 ?tk1 ?gNUMBERS ?lNUMBERS ?qNUMBERS ?loNUMBERS ?rNUMBERS ?gFITTING ?lFITTING ?qFITTING ?loFITTING ?rFITTING
    (case a1 => k_is); (case l1 => k_is); (case c1 => k_is); (case k1 => k_is); (case a2 => k_is); (case l2 => k_is); (case c2 => k_is); (case k2 => k_is)
    (case a3 => k_is); (case l3 => k_is); (case c3 => k_is); (case k3 => k_is); (case a4 => k_is); (case l4 => k_is); (case c4 => k_is); (case k4 => k_is)
    (case a5 => k_is); (case l5 => k_is); (case c5 => k_is); (case k5 => k_is); (case a6 => k_is); (case l6 => k_is); (case c6 => k_is); (case k6 => k_is)
    (case a7 => k_is); (case l7 => k_is); (case c7 => k_is); (case k7 => k_is); (case a8 => k_is); (case l8 => k_is); (case c8 => k_is); (case k8 => k_is)
    (case a9 => k_is); (case l9 => k_is); (case c9 => k_is); (case k9 => k_is); (case a10 => k_is); (case l10 => k_is); (case c10 => k_is); (case k10 => k_is)
    (case a11 => k_is); (case l11 => k_is); (case c11 => k_is); (case k11 => k_is); (case a12 => k_is); (case l12 => k_is); (case c12 => k_is); (case k12 => k_is)
    (case a13 => k_is); (case l13 => k_is); (case c13 => k_is); (case k13 => k_is); (case a14 => k_is); (case l14 => k_is); (case c14 => k_is); (case k14 => k_is)
    (case a15 => k_is); (case l15 => k_is); (case c15 => k_is); (case k15 => k_is); (case a16 => k_is); (case l16 => k_is); (case c16 => k_is); (case k16 => k_is)
    (case a17 => k_is); (case l17 => k_is); (case c17 => k_is); (case k17 => k_is); (case a18 => k_is); (case l18 => k_is); (case c18 => k_is); (case k18 => k_is)
    (case a19 => k_is); (case l19 => k_is); (case c19 => k_is); (case k19 => k_is); (case a20 => k_is); (case l20 => k_is); (case c20 => k_is); (case k20 => k_is)
    (case a21 => k_is); (case l21 => k_is); (case c21 => k_is); (case k21 => k_is); (case a22 => k_is); (case l22 => k_is); (case c22 => k_is); (case k22 => k_is)
    (case a23 => k_is); (case l23 => k_is); (case c23 => k_is); (case k23 => k_is); (case a24 => k_is); (case l24 => k_is); (case c24 => k_is); (case k24 => k_is)
    (case a25 => k_is); (case l25 => k_is); (case c25 => k_is); (case k25 => k_is); (case a26 => k_is); (case l26 => k_is); (case c26 => k_is); (case k26 => k_is)
    (case a27 => k_is); (case l27 => k_is); (case c27 => k_is); (case k27 => k_is); (case a28 => k_is); (case l28 => k_is); (case c28 => k_is); (case k28 => k_is)
    (case a29 => k_is); (case l29 => k_is); (case c29 => k_is); (case k29 => k_is); (case a30 => k_is); (case l30 => k_is); (case c30 => k_is); (case k30 => k_is)
    (case a31 => k_is); (case l31 => k_is); (case c31 => k_is); (case k31 => k_is); (case a32 => k_is); (case l32 => k_is); (case c32 => k_is); (case k32 => k_is)
    (case a33 => k_is); (case l33 => k_is); (case c33 => k_is); (case k33 => k_is); (case a34 => k_is); (case l34 => k_is); (case c34 => k_is); (case k34 => k_is)
    (case a35 => k_is); (case l35 => k_is); (case c35 => k_is); (case k35 => k_is); (case a36 => k_is); (case l36 => k_is); (case c36 => k_is); (case k36 => k_is)
    (case a37 => k_is); (case l37 => k_is); (case c37 => k_is); (case k37 => k_is); (case a38 => k_is); (case l38 => k_is); (case c38 => k_is); (case k38 => k_is)
    (case a39 => k_is); (case l39 => k_is); (case c39 => k_is); (case k39 => k_is); (case a40 => k_is); (case l40 => k_is); (case c40 => k_is); (case k40 => k_is)
    (case a41 => k_is); (case l41 => k_is); (case c41 => k_is); (case k41 => k_is); (case a42 => k_is); (case l42 => k_is); (case c42 => k_is); (case k42 => k_is)
    (case z1 => k_is); (case z2 => k_is); (case z3 => k_is); (case z4 => k_is); (case z5 => k_is); (case z6 => k_is); (case z7 => k_is); (case z8 => k_is)
    (case z9 => k_is); (case z10 => k_is); (case z11 => k_is); (case z12 => k_is); (case z13 => k_is); (case y1 => k_is); (case y2 => k_is); (case y3 => k_is)
    (case y4 => k_is); (case y5 => k_is); (case y6 => k_is); (case gBadBlock => k_is); (case gBadBreaker => k_is); (case gBadScheme => k_is); (case gBreakError => k_is); (case xBadBreaker => k_exc)
    (case kBadBreaker => k_is); (case bBadBreaker => k_is); (case tBadBreaker => k_is); (case uBadBreaker => k_is); (case vBadBreaker => k_is); (case hBadBreaker => k_is); (case wBadBreaker => k_is); (case mBadBreaker => k_is)
    (case eBadBreakerBreakError => first | rfl | k_is); (case eBadBreakerBadBreaker => first | rfl | k_is); (case kBadBreakerBadBreaker => first | rfl | k_is); (case kBadBreakerBadBlock => first | rfl | k_is); (case kBadBreakerBadScheme => first | rfl | k_is); (case kBadBreakerValueError => first | rfl | k_is); (case sp1 => first | rfl | k_is); (case tk1 => first | rfl | k_is)
    (case gNUMBERS => k_is); (case lNUMBERS => k_is); (case qNUMBERS => repeat (first | exact trivial | refine ⟨⟨_, _, rfl, rfl⟩, ?_⟩)); (case loNUMBERS => rfl); (case rNUMBERS => rfl); (case gFITTING => k_is); (case lFITTING => k_is); (case qFITTING => repeat (first | exact trivial | refine ⟨⟨_, _, rfl, rfl⟩, ?_⟩))
    (case loFITTING => rfl); (case rFITTING => rfl)
#print axioms PySem.Challenge.cw_breakback_k05_breakers_that_are_right_holds
