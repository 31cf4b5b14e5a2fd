
import PyProof.Rows.All
import Wide.All
import OpenK.AllK
import Wide.FinOn
import HandS.ForMost
import HandS.Codes
import HandS.StrMore
import HandS.Defaults
import HandS.IntHex
import HandS.IsInst
import HandS.TupAny
import HandS.TupMul
import PyProof.FString3
import PyProof.Rows.StrIntSpec
import PyProof.StrOps2
import KE.IntText
import KE.KIntText
import KE.IntTextLaws
import HandS.Exc
import HandS.ExcOwn
import HandS.TryOnly
import HandS.TryMany
import HandS.ExcIs
import HandS.WordsExc
import HandS.ForExc

import HandS.Gcd
import HandS.Zip
import HandS.Walk
import HandS.CallLocal
import HandS.More
import HandS.Iter
import HandS.Style
import PyProof.P3Eq
import PySem.Challenge.RW_breakback_k31_built_and_fitting_goals
set_option Elab.async false
set_option linter.all false
set_option maxRecDepth 100000
set_option maxHeartbeats 4000000
namespace My
open PySem PySem.Spec PyProof.Rows L2
theorem snocInd {α : Type} {P : List α → Prop} (h0 : P []) (h1 : ∀ l a, P l → P (l ++ [a])) (l : List α) : P l := by
  have h : ∀ (n : Nat) (l : List α), l.length = n → P l := by
    intro n
    induction n with
    | zero =>
      intro l e
      rw [List.eq_nil_of_length_eq_zero e]
      exact h0
    | succ n ih =>
      intro l e
      have hn : l ≠ [] := fun z => by
        rw [z] at e
        cases e
      rw [← List.dropLast_concat_getLast hn]
      exact h1 _ _ (ih _ (by rw [List.length_dropLast, e]; rfl))
  exact h _ l rfl
/-! ### strings of bits -/
def cB (b : Bool) : Nat := if b then 49 else 48
def sb (bs : List Bool) : Str := SX.S (bs.map cB)
def toB : Nat → Nat → List Bool
  | 0, _ => []
  | n + 1, k => toB n (k / 2) ++ [k % 2 == 1]
def bit (b : Bool) : Nat := if b then 1 else 0
def val (bs : List Bool) : Nat := bs.foldl (fun a b => 2 * a + bit b) 0
theorem toB_len : ∀ n k, (toB n k).length = n
  | 0, _ => rfl
  | n + 1, k => by
    show (toB n (k / 2) ++ [k % 2 == 1]).length = n + 1
    rw [List.length_append, toB_len n]
    rfl
theorem sb_len (bs : List Bool) : (sb bs).length = bs.length := by
  unfold sb
  rw [SX.S_len, List.length_map]
theorem cB_inj {a b : Bool} (h : cB a = cB b) : a = b := by
  cases a <;> cases b <;> first | rfl | (exact absurd h (by decide))
theorem map_cB_inj : ∀ {l m : List Bool}, l.map cB = m.map cB → l = m
  | [], [], _ => rfl
  | [], _ :: _, h => by simp at h
  | _ :: _, [], h => by simp at h
  | a :: l, b :: m, h => by
    rw [List.map_cons, List.map_cons] at h
    injection h with h1 h2
    rw [cB_inj h1, map_cB_inj h2]
theorem sb_inj {l m : List Bool} (h : sb l = sb m) : l = m := map_cB_inj (SX.S_inj h)
theorem sb_cat (l m : List Bool) : sb l ++ sb m = sb (l ++ m) := by
  unfold sb
  rw [SX.S_cat, List.map_append]
theorem val_snoc (l : List Bool) (b : Bool) : val (l ++ [b]) = 2 * val l + bit b := by
  unfold val
  rw [List.foldl_append]
  rfl
theorem bit_lt (b : Bool) : bit b < 2 := by cases b <;> decide
theorem toB_val (bs : List Bool) : toB bs.length (val bs) = bs := by
  induction bs using snocInd with
  | h0 => rfl
  | h1 l b ih =>
    rw [List.length_append, val_snoc]
    show toB (l.length + 1) _ = _
    show toB l.length ((2 * val l + bit b) / 2) ++ [(2 * val l + bit b) % 2 == 1] = l ++ [b]
    have h := bit_lt b
    rw [show (2 * val l + bit b) / 2 = val l by omega, ih, show (2 * val l + bit b) % 2 = bit b by omega]
    cases b <;> rfl
theorem val_lt (bs : List Bool) : val bs < 2 ^ bs.length := by
  induction bs using snocInd with
  | h0 => exact Nat.one_pos
  | h1 l b ih =>
    rw [List.length_append, val_snoc]
    show _ < 2 ^ (l.length + 1)
    have h := bit_lt b
    rw [Nat.pow_succ]
    omega
theorem val_toB : ∀ (n k : Nat), k < 2 ^ n → val (toB n k) = k
  | 0, k, h => by
    have e : k = 0 := by
      have : k < 1 := h
      omega
    subst e
    rfl
  | n + 1, k, h => by
    show val (toB n (k / 2) ++ [k % 2 == 1]) = k
    rw [Nat.pow_succ] at h
    rw [val_snoc, val_toB n (k / 2) (by omega)]
    have e : bit (k % 2 == 1) = k % 2 := by
      rcases Nat.mod_two_eq_zero_or_one k with z | z <;> rw [z] <;> rfl
    rw [e]
    omega
theorem toB_zero (n : Nat) : toB n 0 = List.replicate n false := by
  induction n with
  | zero => rfl
  | succ n ih =>
    show toB n 0 ++ [false] = _
    rw [ih, List.replicate_succ']
/-! ### two strings place by place -/
theorem toB_xor : ∀ (n a b : Nat), toB n (a ^^^ b) = List.zipWith (fun x y => x != y) (toB n a) (toB n b)
  | 0, _, _ => rfl
  | n + 1, a, b => by
    show toB n ((a ^^^ b) / 2) ++ [(a ^^^ b) % 2 == 1] = List.zipWith (fun x y => x != y) (toB n (a / 2) ++ [a % 2 == 1]) (toB n (b / 2) ++ [b % 2 == 1])
    rw [List.zipWith_append (by rw [toB_len, toB_len]), Nat.xor_div_two, toB_xor n]
    congr 1
    have e : (a ^^^ b) % 2 = (a % 2) ^^^ (b % 2) := by
      have h := Nat.xor_mod_two_pow (a := a) (b := b) (n := 1)
      rw [Nat.pow_one] at h
      exact h
    rw [e]
    rcases Nat.mod_two_eq_zero_or_one a with z | z <;> rcases Nat.mod_two_eq_zero_or_one b with y | y <;> rw [z, y] <;> rfl
theorem toB_and : ∀ (n a b : Nat), toB n (a &&& b) = List.zipWith (fun x y => x && y) (toB n a) (toB n b)
  | 0, _, _ => rfl
  | n + 1, a, b => by
    show toB n ((a &&& b) / 2) ++ [(a &&& b) % 2 == 1] = List.zipWith (fun x y => x && y) (toB n (a / 2) ++ [a % 2 == 1]) (toB n (b / 2) ++ [b % 2 == 1])
    rw [List.zipWith_append (by rw [toB_len, toB_len]), Nat.and_div_two, toB_and n]
    congr 1
    have e : (a &&& b) % 2 = (a % 2) * (b % 2) := by
      have h := Nat.and_mod_two_pow (a := a) (b := b) (n := 1)
      rw [Nat.pow_one] at h
      rw [h]
      rcases Nat.mod_two_eq_zero_or_one a with z | z <;> rcases Nat.mod_two_eq_zero_or_one b with y | y <;> rw [z, y] <;> rfl
    rw [e]
    rcases Nat.mod_two_eq_zero_or_one a with z | z <;> rcases Nat.mod_two_eq_zero_or_one b with y | y <;> rw [z, y] <;> rfl
/-! ### the digits that Python writes -/
def dig (k : Nat) : List Nat := (Nat.toDigits 2 k).map Char.toNat
theorem dig_lt {k : Nat} (h : k < 2) : dig k = [cB (k == 1)] := by
  unfold dig
  rw [Nat.toDigits_of_lt_base h]
  have : k = 0 ∨ k = 1 := by omega
  rcases this with e | e <;> subst e <;> rfl
theorem dig_ge {k : Nat} (h : 2 ≤ k) : dig k = dig (k / 2) ++ [cB (k % 2 == 1)] := by
  unfold dig
  rw [Nat.toDigits_of_base_le (by decide) h, List.map_append]
  congr 1
  rcases Nat.mod_two_eq_zero_or_one k with z | z <;> rw [z] <;> rfl
theorem dig_toB : ∀ (n k : Nat), k < 2 ^ (n + 1) → ∃ p, (toB (n + 1) k).map cB = List.replicate p 48 ++ dig k
  | 0, k, h => by
    have hk : k < 2 := h
    refine ⟨0, ?_⟩
    rw [dig_lt hk]
    show [cB (k % 2 == 1)] = [cB (k == 1)]
    rw [Nat.mod_eq_of_lt hk]
  | n + 1, k, h => by
    show ∃ p, (toB (n + 1) (k / 2) ++ [k % 2 == 1]).map cB = _
    rw [List.map_append]
    by_cases hk : k < 2
    · refine ⟨n + 1, ?_⟩
      rw [dig_lt hk, show k / 2 = 0 by omega, toB_zero, List.map_replicate, Nat.mod_eq_of_lt hk]
      rfl
    · have h' : k < 2 ^ (n + 1) * 2 := by
        rw [← Nat.pow_succ]
        exact h
      obtain ⟨p, e⟩ := dig_toB n (k / 2) (by omega)
      refine ⟨p, ?_⟩
      rw [e, dig_ge (k := k) (by omega), List.append_assoc]
      rfl
theorem dig_len_pos (k : Nat) : 0 < (dig k).length := by
  unfold dig
  rw [List.length_map]
  exact Nat.length_toDigits_pos
theorem dig_head (k : Nat) : ∃ c r, dig k = c :: r ∧ (c = 48 ∨ c = 49) := by
  induction k using Nat.strongRecOn with
  | _ k ih =>
    by_cases hk : k < 2
    · rw [dig_lt hk]
      exact ⟨_, _, rfl, by cases (k == 1) <;> decide⟩
    · obtain ⟨c, r, e, h⟩ := ih (k / 2) (by omega)
      rw [dig_ge (by omega), e]
      exact ⟨c, r ++ [_], rfl, h⟩
theorem zfill_dig (n k : Nat) (h : k < 2 ^ (n + 1)) : Txt.zfill (SX.S (dig k)) ((n + 1 : Nat) : Int) = sb (toB (n + 1) k) := by
  obtain ⟨p, e⟩ := dig_toB n k h
  have hl : n + 1 = p + (dig k).length := by
    have := congrArg List.length e
    rw [List.length_map, toB_len, List.length_append, List.length_replicate] at this
    exact this
  unfold sb
  rw [e]
  unfold Txt.zfill
  rw [SX.S_len]
  by_cases hp : p = 0
  · subst hp
    rw [if_pos (by omega)]
    rfl
  · rw [if_neg (by omega)]
    obtain ⟨c, r, ed, hc⟩ := dig_head k
    have hm : ((n + 1 : Nat) : Int).toNat - (dig k).length = p := by omega
    rw [hm]
    unfold zfilled
    rw [ed]
    rcases hc with rfl | rfl
    · show Builtin.Str.padded _ p 0 48 = _
      refine TL.ext_tl ?_
      simp [Builtin.Str.padded, TL.tl, SX.S]
    · show Builtin.Str.padded _ p 0 48 = _
      refine TL.ext_tl ?_
      simp [Builtin.Str.padded, TL.tl, SX.S]
section
open Builtin Builtin.Str Builtin.Int Builtin.Float
theorem ite_n {c : Prop} [Decidable c] {X Y : Prop} (hc : ¬ c) (h : Y) : if c then X else Y := by
  rw [if_neg hc]
  exact h
theorem ite_y {c : Prop} [Decidable c] {X Y : Prop} (hc : c) (h : X) : if c then X else Y := by
  rw [if_pos hc]
  exact h
/-- the text of the bits of n, as the format "b" makes it -/
theorem field_b (l : List Nat) (hl : l ≠ []) : intField' { fill := 32, align := 62, type := some 98 } false [] l [] 4 = ⟨l.toArray⟩ := by
  unfold intField'
  have h0 : l.isEmpty = false := by
    cases l with
    | nil => exact absurd rfl hl
    | cons a r => rfl
  simp [h0]
theorem wp_eq {α : Type} {M : Model} {A : Around} {t t' : Sem α} {Q : α → Shared → Prop} {E : Value → Shared → Prop} {s : Shared} (e : t = t') (h : wpAny M A t' Q E s) : wpAny M A t Q E s := by
  rw [e]
  exact h
set_option maxHeartbeats 1000000 in
theorem gives_fmtB {spec : PySem.Str} (n : Nat) (t u : Tok) (hz : (Nat.toDigits 2 n).length ≤ sizeLine)
    (hp : parseFormatSpec spec.cps.toList "int" 62 = .ok { fill := 32, align := 62, type := some 98 }) (hne : (spec.length == 0) = false)
    (hasc : ((spec.cps.toList.drop 1).any (· ≥ 128) || (spec.cps.getD 0 0 ≥ 128 && !([60, 62, 61, 94] : List Nat).contains (spec.cps.getD 1 0))) = false) :
    Gives («int.__format__» ⟨[.int (n : Int) t, .str spec u], []⟩) (.str ⟨((Nat.toDigits 2 n).map Char.toNat).toArray⟩) := by
  intro prog w A R s hq
  unfold Builtin.«int.__format__»
  simp only [selfAndOne, noKeywords, Int.intOfSelf, asInt?, asStr?, List.isEmpty_nil, if_true, pure_bind, bind_pure, bind_assoc, hne, hasc, Bool.false_eq_true, if_false,
    show (Value.str spec u == Value.none) = false from rfl]
  refine wpAny_bind (wpAny_typeNameOf (T := "str") (typeIs_str _ _ _) (by decide) fun _ => ?_)
  refine wpAny_bind (wpAny_typeNameOfCut_int ?_)
  simp only [hp, Option.getD_some]
  refine wpAny_ite (ite_y (by decide) ?_)
  refine wp_eq (t' := retStr (intField' { fill := 32, align := 62, type := some 98 } (decide ((n : Int) < 0)) [] ((Nat.toDigits 2 n).map fun c => (if (98 : Nat) == 88 then c.toUpper else c).toNat) [] 4)) (by kernel_rfl) ?_
  rw [show decide ((n : Int) < 0) = false from decide_eq_false (by omega), field_b _ (by
    have := Nat.length_toDigits_pos (b := 2) (n := n)
    intro z
    rw [List.map_eq_nil_iff] at z
    rw [z] at this
    exact absurd this (by decide))]
  refine wpAny_bind (wpAny_mkStr (wpAny_pure hq.2) ?_)
  show (List.toArray _).size ≤ _
  rw [List.size_toArray, List.length_map]
  exact hz
end
/-! ### a text times an int -/
theorem foldl_app (x : Array Nat) : ∀ (n : Nat) (acc : Array Nat), ((List.replicate n x).foldl (· ++ ·) acc).toList = acc.toList ++ (List.replicate n x.toList).flatten
  | 0, acc => by simp
  | n + 1, acc => by
    rw [List.replicate_succ, List.foldl_cons, foldl_app x n, List.replicate_succ, List.flatten_cons, Array.toList_append, List.append_assoc]
def rRepS : R2 := fun x y H Q => ∃ (l : List Nat) (k : Int), x = .str (SX.S l) ∧ y = .int k ∧ (0 ≤ k ∧ l.length * k.toNat ≤ 16777216 ∧ k ≤ 16777216) ∧ Q (.str (SX.S (List.replicate k.toNat l).flatten)) H
theorem op_repS {X : Cx} : OpR X (binaryOp .Mult) rRepS := by
  intro pins s σ H x y v u Q I rx ry h
  obtain ⟨l, k, rfl, rfl, ⟨h0, hz, hk⟩, q⟩ := h
  obtain ⟨t, rfl⟩ := rx
  obtain ⟨t', rfl⟩ := ry
  have hs : sizeLine = 16777216 := sizeLine_eq
  refine PySem.P.mul_str ?_ (fun h1 _ => ?_) (fun _ _ => ?_) ?_
  · rw [decide_eq_false (by omega), decide_eq_false (by omega)]
    rfl
  · rw [SX.S_len]
    have hp : 0 < k := by omega
    have : (l.length : Int) * k ≤ 16777216 := by
      have e : ((l.length * k.toNat : Nat) : Int) = (l.length : Int) * k := by
        rw [Int.natCast_mul, Int.toNat_of_nonneg h0]
      omega
    have := (Int.le_ediv_iff_mul_le hp (a := (l.length : Int)) (b := 2 ^ 63 - 1)).mpr (by omega)
    omega
  · rw [SX.S_len]
    unfold Builtin.Str.tooLong
    rw [sizeLine_eq]
    exact decide_eq_false (by omega)
  · by_cases h1 : k < 1
    · rw [if_pos h1]
      have e : k = 0 := by omega
      subst e
      exact ⟨by decide, .str (SX.S []), H, I.tok _, ⟨_, rfl⟩, q⟩
    · rw [if_neg h1]
      by_cases h2 : (k == 1 || (SX.S l).length == 0) = true
      · rw [if_pos h2]
        have e : (List.replicate k.toNat l).flatten = l := by
          rw [Bool.or_eq_true, beq_iff_eq, beq_iff_eq, SX.S_len] at h2
          rcases h2 with e | e
          · subst e
            simp
          · rw [List.eq_nil_of_length_eq_zero e]
            simp
        rw [e] at q
        exact ⟨.str (SX.S l), H, I, ⟨t, rfl⟩, q⟩
      · rw [if_neg h2]
        have e : (⟨(List.replicate k.toNat (SX.S l).cps).foldl (· ++ ·) #[]⟩ : Str) = SX.S (List.replicate k.toNat l).flatten := by
          refine TL.ext_tl ?_
          show (List.foldl (· ++ ·) (#[] : Array Nat) (List.replicate k.toNat l.toArray)).toList = _
          rw [foldl_app]
          rfl
        rw [e]
        refine ⟨?_, .str _, H, I.tok _, ⟨_, rfl⟩, q⟩
        rw [SX.S_len, List.length_flatten, List.map_replicate, List.sum_replicate_nat, hs]
        rw [Nat.mul_comm]
        exact hz
/-! ### f(k = v, ..): keywords alone -/
theorem pe_callN0 {X : Cx} {CX : CXT} {k : Nat} {f : Addr} {fd : FuncData} {ps ks : List Str} {sp : Sp} {E : XK} {x : Str} {p pos : Pos} {kws : List Keyword} {tk : TA} {g : List Value → List Value → List Value} {gV : List V → List V → List V}
    (F : FnOk X.prog X.w X.K X.mg X.base CX k f fd ps sp) (hr : Room k X.A) (hg : Gl X x) (hm : X.mg x = some (.ref f)) (hk : PySem.W.keepIn X.K (.ref f) = true) (hb : KBn X.K fd ps 0 ks g gV) (hx : Passes CX X E)
    (hkw : PK X kws tk) (hall : (backToKw pos (keywordEach kws X.env)).all (·.1.isSome) = true := by rfl) (hks : (backToKw pos (keywordEach kws X.env)).filterMap (·.1) = ks := by rfl)
    (hdb : (x == ("__debug__" : Str)) = false := by decide)
    (hpl : ((backTo pos (starEach [] X.env)).any (·.1) || (backToKw pos (keywordEach kws X.env)).any (·.1.isNone)) = false := by rfl) :
    PE X (.Call (.Name x p) [] kws pos) (tCallN 0 ks.length sp gV E tNil tk) := by
  refine ⟨fun pins s σ H Q I h => ?_⟩
  refine wpAny_Call_Name_kw (ld_glob I hg hm ?_ hdb)
  refine PySem.W.callWith_KW0 (h₀ := X.base) I.ok.mod.kin hk hall ?_ hpl
  refine thn (hkw.run pos pins s σ H _ I h) fun ws s2 ⟨zs, H2, I2, rz, l1, l2, q2⟩ => ⟨I2.kIn, ?_⟩
  rw [hks]
  exact run_fnN (us := []) (vs := []) F hr hb hx I2 .nil rz rfl l2 q2
/-! ### int(t, 2) -/
namespace Two
open PySem.NumText PySem.Calls
def Bin (c : Nat) : Prop := c = 48 ∨ c = 49
def num (l : List Nat) : Nat := l.foldl (fun a c => a * 2 + (c - 48)) 0
theorem Bin.plain {c : Nat} (h : Bin c) : c ≠ 95 ∧ c ≠ 0 ∧ c < 128 ∧ 33 ≤ c ∧ c ≠ 32 ∧ c ≠ 43 ∧ c ≠ 45 := by
  rcases h with e | e <;> subst e <;> decide
theorem one {ds : Array Nat} {b : Bool} {c : Nat} (h : Bin c) : PySem.NumText.step 2 (ds, b) c = some (ds.push (c - 48), true) := by
  rcases h with e | e <;> subst e <;> rfl
theorem more : ∀ (cs : List Nat) (ds : Array Nat), (∀ c ∈ cs, Bin c) → cs.foldlM (PySem.NumText.step 2) (ds, true) = some ((ds.toList ++ cs.map (· - 48)).toArray, true)
  | [], ds, _ => by simp
  | c :: cs, ds, h => by
    rw [List.foldlM_cons, one (h c (List.mem_cons_self ..))]
    refine (more cs (ds.push (c - 48)) fun d hd => h d (List.mem_cons_of_mem _ hd)).trans ?_
    simp
theorem all {cs : List Nat} (h : ∀ c ∈ cs, Bin c) (hne : cs ≠ []) : digits? 2 cs = some (cs.map (· - 48)).toArray := by
  cases cs with
  | nil => exact absurd rfl hne
  | cons c cs =>
    have e : List.foldlM (PySem.NumText.step 2) ((#[] : Array Nat), false) (c :: cs) = some (((c :: cs).map (· - 48)).toArray, true) := by
      rw [List.foldlM_cons, one (h c (List.mem_cons_self ..))]
      refine (more cs (#[].push (c - 48)) fun d hd => h d (List.mem_cons_of_mem _ hd)).trans ?_
      simp
    unfold digits?
    rw [e]
    rfl
theorem worth (l : List Nat) : (l.map (· - 48)).toArray.foldl (fun acc d => acc * 2 + d) 0 = num l := by
  rw [← Array.foldl_toList]
  unfold num
  rw [List.foldl_map]
theorem noBlank {cs : List Nat} (h : ∀ c ∈ cs, Bin c) : cs.dropWhile blank = cs := by
  cases cs with
  | nil => rfl
  | cons c cs =>
    have := (h c (List.mem_cons_self ..)).plain
    exact dropWhile_of (by omega)
theorem noSign {cs : List Nat} (h : ∀ c ∈ cs, Bin c) : sign cs = (false, cs) := by
  cases cs with
  | nil => rfl
  | cons c cs =>
    have := (h c (List.mem_cons_self ..)).plain
    exact sign_of (by omega) (by omega)
theorem noPre {cs : List Nat} (h : ∀ c ∈ cs, Bin c) : based 2 cs = (2, false, cs) := by
  match cs, h with
  | [], _ => rfl
  | [a], h =>
    rcases h a (List.mem_cons_self ..) with e | e <;> subst e <;> rfl
  | a :: c :: r, h =>
    rcases h a (List.mem_cons_self ..) with e | e <;> subst e <;>
      rcases h c (List.mem_cons_of_mem _ (List.mem_cons_self ..)) with e | e <;> subst e <;> rfl
theorem read {cs : List Nat} (h : ∀ c ∈ cs, Bin c) (hne : cs ≠ []) : (int_private% "readNumeral") 0 2 cs = (int_private% "Numeral.value") ((num cs : Nat) : Int) := by
  have hb : based 2 cs = (2, false, cs) := noPre h
  have hr : ∀ c ∈ cs.reverse, Bin c := fun c hc => h c (List.mem_reverse.mp hc)
  rw [readNumeral_eq 0 2 cs, noBlank h, noSign h]
  show judge 0 false (based 2 cs).1 (based 2 cs).2.1 (digits? (based 2 cs).1 (((based 2 cs).2.2.reverse.dropWhile blank).reverse)) = _
  rw [hb]
  show judge 0 false 2 false (digits? 2 ((cs.reverse.dropWhile blank).reverse)) = _
  rw [noBlank hr, List.reverse_reverse, all h hne]
  show (int_private% "Numeral.value") (((cs.map (· - 48)).toArray.foldl (fun acc d => acc * 2 + d) 0 : Nat) : Int) = _
  rw [worth]
theorem seen {x : Str} (h : ∀ c ∈ x.cps.toList, Bin c) : numTextOf x = x.cps.toList ∧ numSeenOf x = x.cps.toList := by
  have e1 : numTextOf x = x.cps.toList := if_pos (by
    rw [← Array.all_toList, List.all_eq_true]
    exact fun c hc => decide_eq_true (h c hc).plain.2.2.1)
  refine ⟨e1, ?_⟩
  show List.takeWhile _ (numTextOf x) = _
  rw [e1]
  exact takeWhile_all fun c hc => bne_iff_ne.mpr (h c hc).plain.2.1
set_option maxHeartbeats 4000000 in
theorem gives {x : PySem.Str} {u t : Tok} (hl : x.length ≤ 640) (h : ∀ c ∈ x.cps.toList, Bin c) (hne : x.cps.toList ≠ []) :
    Gives (Builtin.«int.__new__» ⟨[.type "int", .str x u, .int 2 t], []⟩) (.int ((num x.cps.toList : Nat) : Int)) :=
  .of_wp fun M A E s Q hQ => by
    obtain ⟨hp, g, d, tk, os⟩ := s
    have f1 := F.conv_sub_int
    have f2 := F.madeHere_int
    have f6 : typeOf (.str x u) = pure (.type "str") := rfl
    obtain ⟨e1, e2⟩ := seen h
    have hk : Hx.Hid ((numSeenOf x).length ≤ 640 ∧ (int_private% "readNumeral") 0 2 (numSeenOf x) = (int_private% "Numeral.value") ((num x.cps.toList : Nat) : Int) ∧ ((numSeenOf x).length == (numTextOf x).length) = true) := by
      refine ⟨?_, ?_, ?_⟩
      · rw [e2, Array.length_toList]
        exact hl
      · rw [e2]
        exact read h hne
      · rw [e1, e2]
        exact beq_self_eq_true _
    clear e1 e2 hl hne h
    repeat (any_goals (first
      | assumption
      | ((with_reducible show wpAny _ _ ((int_private% "intFromText") _ _ _) _ _ _); refine Hx.wp_textB hk.out.1 hk.out.2.1 hk.out.2.2 ?_)
      | wp_step))
    all_goals (try exact ⟨_, rfl, hQ⟩)
end Two
def rIntBin : List V → Hp → VK → Prop := fun xs H Q => ∃ l : List Nat, xs = [.str (SX.S l), .int 2] ∧ (l ≠ [] ∧ l.length ≤ 640 ∧ ∀ c ∈ l, Two.Bin c) ∧ Q (.int ((Two.num l : Nat) : Int)) H
theorem call_int_bin {X : Cx} : CallR X (.type "int") rIntBin := by
  intro pins s σ H xs us Q I r h
  obtain ⟨l, rfl, ⟨hne, hl, hx⟩, q⟩ := h
  obtain ⟨u, w', rfl, ⟨t1, rfl⟩, ⟨t2, rfl⟩⟩ := vals2 r
  exact callType_new F.called_int F.newNe_int (Hx.typeCall_int_2 _ _) (Hx.newCall_int_2 _ _) (fun obj => F.initArgs_range_2 obj _ _) F.entry_int_new
    (Two.gives (x := SX.S l) (u := t1) (t := t2) (by rw [SX.S_len]; exact hl) hx hne).meets (show (Made.int ((Two.num l : Nat) : Int)).post _ s from ⟨rfl, .int ((Two.num l : Nat) : Int), H, I.tok _, ⟨_, rfl⟩, q⟩)
/-! ### f"{n:b}" -/
def tFmtB (te : TE) : TE := fun σ H Q => te σ H fun x H1 => ∃ n : Nat, x = .int (n : Int) ∧ (dig n).length ≤ 16777216 ∧ Q (.str (SX.S (dig n))) H1
theorem spec_b : Builtin.Float.parseFormatSpec (Str.ofString "b").cps.toList "int" 62 = .ok { fill := 32, align := 62, type := some 98 } := by kernel_rfl
theorem pe_fmtB {X : Cx} {e : Expr} {te : TE} {j : Nat} {p1 p2 p3 p4 : Pos} (he : PE X e te) : PE X (.JoinedStr [.FormattedValue e (-1) (some (.JoinedStr [.Constant (.str "b") j p1] p2)) p3] p4) (tFmtB te) := by
  refine ⟨fun pins s σ H Q I h => ?_⟩
  refine wpAny_JoinedStr_one (wpAny_FormattedValue_spec (thn (he.run pins s σ H _ I h) fun v s1 hv => ?_))
  obtain ⟨x, H1, I1, r1, n, rfl, hz, q⟩ := hv
  obtain ⟨t, rfl⟩ := r1
  refine wpAny_JoinedStr_one (thn ((pe_str (X := X) (x := "b") (j := j) (pos := p1)).run pins s1 σ H1 (fun v H2 => v = .str "b" ∧ H2 = H1) I1 ⟨rfl, rfl⟩) fun v s2 hv => ?_)
  obtain ⟨x, H2, I2, r2, rfl, rfl⟩ := hv
  obtain ⟨t2, rfl⟩ := r2
  have hd : (Nat.toDigits 2 n).length ≤ sizeLine := by
    have h := hz
    unfold dig at h
    rw [List.length_map] at h
    rw [sizeLine_eq]
    exact h
  refine ⟨_, t2, rfl, wpAny_formatField_spec (by decide) (fun s' => typeIs_int s' _ t) F.slot_int_format F.entry_int_format F.args_int_format_2 (fun u => gives_fmtB n t u hd spec_b (by decide) (by decide)) ⟨.str (SX.S (dig n)), _, I2.tok _, ⟨_, rfl⟩, q⟩ (by decide) ?_⟩
  show (List.toArray _).size ≤ _
  rw [List.size_toArray, List.length_map]
  exact hd
/-! ### a def under its name, with its promise -/
structure Df (K : PySem.W.Frag) (mg : Str → Option Value) (x : Str) (st : Stmt) (ps : List Str) (f : Addr) (fd : FuncData) : Prop where
  fn : Fun K x x st f fd
  bi : Binds K fd ps []
  gl : mg x = some (.ref f)
structure Cl (P : Program) (w : World) (K : PySem.W.Frag) (mg : Str → Option Value) (base : Heap) (CX : CXT) (k : Nat) (x : Str) (sp : Sp) : Prop where
  ex : ∃ (f : Addr) (fd : FuncData) (ps : List Str), FnOk P w K mg base CX k f fd ps sp ∧ mg x = some (.ref f) ∧ PySem.W.keepIn K (.ref f) = true ∧ Binds K fd ps []
structure Ck (P : Program) (w : World) (K : PySem.W.Frag) (mg : Str → Option Value) (base : Heap) (CX : CXT) (k n : Nat) (x : Str) (ks : List Str) (gV : List V → List V → List V) (sp : Sp) : Prop where
  ex : ∃ (f : Addr) (fd : FuncData) (ps : List Str) (g : List Value → List Value → List Value), FnOk P w K mg base CX k f fd ps sp ∧ mg x = some (.ref f) ∧ PySem.W.keepIn K (.ref f) = true ∧ KBn K fd ps n ks g gV
section
variable {P : Program} {w : World} {K : PySem.W.Frag} {mg : Str → Option Value} {base : Heap} {CX : CXT} {k j : Nat} {x : Str} {sp : Sp}
theorem Df.cl {st : Stmt} {ps : List Str} {f : Addr} {fd : FuncData} (D : Df K mg x st ps f fd) (h : FnOk P w K mg base CX k f fd ps sp) : Cl P w K mg base CX k x sp := ⟨f, fd, ps, h, D.gl, D.fn.kp, D.bi⟩
theorem pe_cl {X : Cx} {p pos : Pos} {e : Expr} {es : List Expr} {t : TA} (c : Cl X.prog X.w X.K X.mg X.base CX0 k x sp) (hr : Room j X.A) (hk : k ≤ j) (hg : Gl X x) (ha : PA X (e :: es) t)
    (hdb : (x == ("__debug__" : Str)) = false := by decide) (he : starEach (e :: es) X.env = (false, eval e X.env) :: starEach es X.env := by rfl) (hpl : (backTo pos (starEach es X.env)).any (·.1) = false := by rfl) :
    PE X (.Call (.Name x p) (e :: es) [] pos) (tCall sp [] E0 t) := by
  obtain ⟨f, fd, ps, F, hm, kp, b⟩ := c.ex
  exact pe_call F (hr.mono hk) hg hm kp b .nil pass0 ha hdb he hpl
theorem pe_ck0 {X : Cx} {p pos : Pos} {kws : List Keyword} {tk : TA} {ks : List Str} {gV : List V → List V → List V} (c : Ck X.prog X.w X.K X.mg X.base CX0 k 0 x ks gV sp) (hr : Room j X.A) (hk : k ≤ j) (hg : Gl X x) (hkw : PK X kws tk)
    (hall : (backToKw pos (keywordEach kws X.env)).all (·.1.isSome) = true := by rfl) (hks : (backToKw pos (keywordEach kws X.env)).filterMap (·.1) = ks := by rfl)
    (hdb : (x == ("__debug__" : Str)) = false := by decide)
    (hpl : ((backTo pos (starEach [] X.env)).any (·.1) || (backToKw pos (keywordEach kws X.env)).any (·.1.isNone)) = false := by rfl) :
    PE X (.Call (.Name x p) [] kws pos) (tCallN 0 ks.length sp gV E0 tNil tk) := by
  obtain ⟨f, fd, ps, g, F, hm, kp, b⟩ := c.ex
  exact pe_callN0 F (hr.mono hk) hg hm kp b pass0 hkw hall hks hdb hpl
end
/-! ### rules that speak of the written part, K named (a comprehension's block asks it so) -/
section
variable {X : Cx}
theorem ixL (K : PySem.W.Frag) (h : X.K = K := by rfl) : IxR X (rIxL K) := by
  subst h
  exact ix_list
theorem ixT (K : PySem.W.Frag) (h : X.K = K := by rfl) : IxR X (rIxT K) := by
  subst h
  exact ix_tup
def rLenS (K : PySem.W.Frag) : List V → Hp → VK → Prop := fun xs H Q => ∃ p ys, xs = [.ref p] ∧ (SqL K H p ys ∨ SqT K H p ys) ∧ Q (.int (ys.length : Nat)) H
theorem lenS (K : PySem.W.Frag) (h : X.K = K := by rfl) : CallR X (.builtin "len") (rLenS K) := by
  subst h
  exact call_len_seq
def rListOf (K : PySem.W.Frag) : List V → Hp → VK → Prop := fun xs H Q => ∃ p ys, xs = [.ref p] ∧ (SqL K H p ys ∨ SqT K H p ys) ∧ ∀ l, H l = none → Q (.ref l) (upd H l (.lst ys))
theorem listOf (K : PySem.W.Frag) (h : X.K = K := by rfl) : CallR X (.type "list") (rListOf K) := by
  subst h
  exact call_list_of
def rTupOf (K : PySem.W.Frag) : List V → Hp → VK → Prop := fun xs H Q => ∃ p ys, xs = [.ref p] ∧ ((SqL K H p ys ∧ ∀ l, H l = none → Q (.ref l) (upd H l (.tup ys))) ∨ (SqT K H p ys ∧ Q (.ref p) H))
theorem tupOf (K : PySem.W.Frag) (h : X.K = K := by rfl) : CallR X (.type "tuple") (rTupOf K) := by
  subst h
  exact call_tuple_of
theorem crSum (K : PySem.W.Frag) (hc : X.calm = true) (h : X.K = K := by rfl) : CallR X (.builtin "sum") (rSum K) := by
  subst h
  exact cr_sum hc
theorem crAll (K : PySem.W.Frag) (hc : X.calm = true) (h : X.K = K := by rfl) : CallR X (.builtin "all") (rAll K) := by
  subst h
  exact cr_all hc
theorem isiK (K : PySem.W.Frag) (h : X.K = K := by rfl) : CallR X (.builtin "isinstance") (rIsi K) := by
  subst h
  exact call_isi
theorem opCatA (K : PySem.W.Frag) (h : X.K = K := by rfl) : OpR X (binaryOp .Add) (rCatA K) := by
  subst h
  exact op_catA
theorem slL (K : PySem.W.Frag) (h : X.K = K := by rfl) : SlR X (rSlL K) := by
  subst h
  exact sl_list
def rJoin (K : PySem.W.Frag) : V → List V → Hp → VK → Prop := fun x xs H Q => ∃ (a : Str) (p : Addr) (ys : List Str), x = .str a ∧ xs = [.ref p] ∧ (SqL K H p (ys.map V.str) ∨ SqT K H p (ys.map V.str)) ∧ (ys.map (·.length)).sum + ys.length * a.length ≤ 16777216 ∧ Q (.str (Txt.join a ys)) H
theorem mtJoin (K : PySem.W.Frag) (h : X.K = K := by rfl) : MtR X "str.join" (rJoin K) := by
  subst h
  exact mt_join
theorem slTA (K : PySem.W.Frag) (h : X.K = K := by rfl) : SlR X (rSlA K) := by
  subst h
  exact sl_tupA
/-- a built-in class as a value -/
theorem pe_ty {x : Str} {pos : Pos} (t : String) (hg : Gl X x) (hm : X.mg x = none) (hv : bootBuiltins x = some (.type t)) (hn : x ≠ "__name__" := by decide +kernel) (hd : (x == ("__debug__" : Str)) = false := by decide +kernel) : PE X (.Name x pos) (tC (.ty t)) := pe_bltn hg hm hv rfl hn hd
end

theorem Vals.rev : ∀ {xs : List V} {us : List Value}, Vals xs us → Vals xs.reverse us.reverse
  | _, _, .nil => .nil
  | _, _, .cons r t => by
    rw [List.reverse_cons, List.reverse_cons]
    exact Vals.append (Vals.rev t) (.cons r .nil)
theorem Fun.kb {K : PySem.W.Frag} {x qual : Str} {st : Stmt} {f : Addr} {fd : FuncData} {ps ks : List Str} {g : List Value → List Value → List Value} {gV : List V → List V → List V} (F : Fun K x qual st f fd) (n : Nat)
    (h : ∀ (kV doc pm : Value) (an : Option Addr) (cdv ct : Value) (us ws : List Value), us.length = n → ws.length = ks.length → bindArgs (PySem.W.fnOf x qual (defArgs st) (defBody st) (defScope st) .none kV doc pm an cdv ct) ⟨us, ks.zip ws⟩ = pure (ps.zip (g us ws)))
    (hrel : ∀ {vs : List V} {us : List Value} {zs : List V} {ws : List Value}, Vals vs us → Vals zs ws → Vals (gV vs zs) (g us ws)) : KBn K fd ps n ks g gV := by
  obtain ⟨oc, od, kV, doc, pm, an, cdv, ct, osl, rfl, lk, hcd⟩ := F.ex
  exact ⟨fun s us ws _ l1 l2 => .of_eq (h kV doc pm an cdv ct us ws l1 l2), hrel⟩

/-! ### own errors -/
structure Exn (K : PySem.W.Frag) (mg : Str → Option Value) (x : Str) (C : Addr) : Prop where
  inn : PySem.W.excIn K C [.type "ValueError", .type "Exception", .type "BaseException", .type "object"] "ValueError.__new__" = true
  gl : mg x = some (.ref C)
  kp : PySem.W.keepIn K (.ref C) = true
  ba : PySem.W.subIn K (.ref C) (.type "BaseException") = some true
  ty : PySem.W.typeIn K (.ref C) = some (.type "type")
section
variable {X : Cx} {C : Addr} {x m : Str} {j k i : Nat} {p p2 pos pos2 : Pos} {W : WX} {sp : Sp} {e : Expr} {es : List Expr} {t : TA}
theorem ps_raiseE (e : Exn X.K X.mg x C) (hc : X.calm = true) (tk : Takes X W) (hg : Gl X x) (hdb : (x == ("__debug__" : Str)) = false := by decide) :
    PS X (.Raise (some (.Call (.Name x p) [.Constant (.str m) j p2] [] pos)) none pos2) (fun _ σ H => W (.ref C) none σ H) :=
  ps_raise hc tk (pmk_own PySem.F.excBase_ValueError e.inn e.gl e.kp (raises_own e.ba e.ty) hg hdb)
theorem pe_clX (c : Cl X.prog X.w X.K X.mg X.base (L2.CX X.prog X.w) k x sp) (hr : Room i X.A) (hk : k ≤ i) (hg : Gl X x) (tk : Takes X W) (ha : PA X (e :: es) t)
    (hdb : (x == ("__debug__" : Str)) = false := by decide) (he : starEach (e :: es) X.env = (false, eval e X.env) :: starEach es X.env := by rfl) (hpl : (backTo pos (starEach es X.env)).any (·.1) = false := by rfl) :
    PE X (.Call (.Name x p) (e :: es) [] pos) (tCallS sp (WE W) t) := by
  obtain ⟨f, fd, ps, F, hm, kp, b⟩ := c.ex
  exact pe_callS F (hr.mono hk) hg hm kp b (fun σ => passAt tk σ) ha hdb he hpl
end

/-! ### try: .. except A as n: .. except B as m: .. -/
/-- a clause that names what it catches: the class, the name's slot, what the suite does -/
structure Cla where
  c : Value
  i : Nat
  ts : Addr → Value → Option Addr → TS
/-- behind the suite the name is gone -/
def Cla.gone (q : Cla) (D : Ends) : Ends where
  nx σ H := D.nx (σ.set q.i none) H
  rt := D.rt
  bk σ H := D.bk (σ.set q.i none) H
  ct σ H := D.ct (σ.set q.i none) H
/-- what the clauses wish of an exception -/
def claW (K : PySem.W.Frag) (Wout : WX) (D : Ends) : List Cla → WX
  | [] => Wout
  | q :: r => fun cls d σ H => ∃ b, PySem.W.exmOne K cls q.c = some b ∧
      (b = true → ∀ a, H a = none → q.ts a cls d (q.gone D) (σ.set q.i (some (.ref a))) H) ∧ (b = false → claW K Wout D r cls d σ H)
inductive ClaOk (X : Cx) : List ExceptHandler → List Cla → Prop
  | nil : ClaOk X [] []
  | cons {x n : Str} {q : Cla} {b : Stmt} {bs : List Stmt} {p1 p2 : Pos} {hs : List ExceptHandler} {l : List Cla}
      (slot : X.N[q.i]? = some n) (loc : X.env.kindOf n = some .local) (cls : Names X x q.c)
      (run : ∀ (a : Addr) (oe : Obj) (cls : Value) (d : Option Addr) (pn : List (Addr × Obj)), Zc cls d oe → (∃ vs, oe.data = .fields vs) → PSs (X.suite a ((a, oe) :: pn)) (b :: bs) (q.ts a cls d))
      (rest : ClaOk X hs l) : ClaOk X (.ExceptHandler (some (.Name x p1)) (some n) (b :: bs) p2 :: hs) (q :: l)
/-- the exception at a was caught: it stands on the ground, and what was known when it was raised is known -/
structure Caught (X : Cx) (pins : List (Addr × Obj)) (σ : L2.St) (H : Hp) (B : Heap) (a : Addr) (cls : Value) (d : Option Addr) (sI t : Shared) : Prop where
  inv : Inv X pins σ H sI
  fl : HandSPX.FlyingZ B (X.env :: X.outer) a (Zc cls d) t.heap
  up : sI.heap.UpToSlots t.heap
  nb : ∀ b o, sI.heap.get? b = some o → b ∉ frs X.stack → B.get? b = some o
  na : H a = none
  os : t.os = sI.os
  ag : AllBare t.gens
section
variable {X : Cx} {pins : List (Addr × Obj)} {σ : L2.St} {H : Hp} {B : Heap} {a : Addr} {cls : Value} {d : Option Addr} {sI t : Shared}
theorem Caught.now (c : Caught X pins σ H B a cls d sI t) : Inv X pins σ H t := c.inv.landed c.nb c.fl.1 c.up c.os c.ag
theorem Caught.later (c : Caught X pins σ H B a cls d sI t) {h : Heap} (f : HandSPX.FlyingZ B (X.env :: X.outer) a (Zc cls d) h) (u : t.heap.UpToSlots h) : Caught X pins σ H B a cls d sI { t with heap := h } :=
  ⟨c.inv, f, c.up.trans u, c.nb, c.na, c.os, c.ag⟩
/-- within a suite -/
theorem Caught.inSuite (c : Caught X pins σ H B a cls d sI t) (hf : X.env.frame = some X.env.locals) : ∃ oe, Zc cls d oe ∧ (∃ vs, oe.data = .fields vs) ∧ t.heap.get? a = some oe ∧ Inv (X.suite a ((a, oe) :: (X.pn ++ pins))) [] σ H t := by
  obtain ⟨oe, vs, at_a, z, dat⟩ := c.fl.there
  have off : a ∉ frs (X.env :: X.outer) := fun m => by
    obtain ⟨_, o', g, no⟩ := c.fl.2.2.1.mem m
    cases at_a.symm.trans g
    exact no _ dat
  have l : a ≠ X.env.locals := fun e => off (List.mem_filterMap.mpr ⟨_, .head _, by rw [hf, e]⟩)
  have f : a ∉ X.fs := fun m => by
    obtain ⟨e, me, q⟩ := List.mem_filterMap.mp m
    exact off (List.mem_filterMap.mpr ⟨e, .tail _ me, q⟩)
  exact ⟨oe, z, ⟨vs, dat⟩, at_a, c.now.suite at_a dat c.na l f⟩
/-- no clause is left: it flies on -/
theorem Caught.flies (c : Caught X pins σ H B a cls d sI t) {D : Ends} {Wout : WX} (hs : X.stack = X.env :: X.outer) (hf : X.env.frame = some X.env.locals) (tk : Takes X Wout) (w : Wout cls d σ H) :
    wpAny (model X.prog X.w) X.A (handleBy (.ref a) X.env []) (SP X pins D) X.xe t := by
  obtain ⟨k1, k2, k3, oe, vs, T, oT, ts', g, z, dat, first, more⟩ := id c.fl
  refine wpAny_handleBy_nil (by
    unfold PySem.passOn
    refine wpAny_bind (wpAny_field g dat first ?_)
    rw [if_neg (by simp)]
    have up : wpAny (model X.prog X.w) X.A (setFlight (.ref a) X.env.frame) (fun _ s4 => wpAny (model X.prog X.w) X.A (throw (.ref a) : Sem Flow) (SP X pins D) X.xe s4) X.xe t := by
      rw [hf]
      refine HandSPX.setFlight_upZ c.fl fun h held u => wpAny_throw (tk _ _ ⟨a, B, sI, pins, σ, H, cls, d, rfl, c.inv, c.nb, c.up.trans u, ?_, c.na, c.os, c.ag, w⟩)
      rw [hs]
      exact .inr (.inr held)
    first
      | exact wpAny_bind (wpAny_pure (wpAny_bind up))
      | exact wpAny_bind up)
/-- the clauses, one after the other -/
theorem Caught.clauses {D : Ends} {Wout : WX} (hs : X.stack = X.env :: X.outer) (hf : X.env.frame = some X.env.locals) (hN : X.N.Nodup) (tk : Takes X Wout) {hds : List ExceptHandler} {l : List Cla} (ok : ClaOk X hds l) :
    Caught X pins σ H B a cls d sI t → claW X.K Wout D l cls d σ H → wpAny (model X.prog X.w) X.A (handleBy (.ref a) X.env hds) (SP X pins D) X.xe t := by
  induction ok with
  | nil => exact fun c w => c.flies hs hf tk w
  | @cons x n q b bs p1 p2 hs2 l2 slot loc nm run rest ih =>
    rintro c ⟨m, hm, yes, no⟩
    obtain ⟨oe, z, dat, g, S⟩ := c.inSuite hf
    have typ : PySem.W.Looks (model X.prog X.w) t.heap (typeOf (.ref a)) cls := fun _ _ _ _ k r => wpAny_typeOf_ref (k _ _ g) (by rw [z.1]; exact r)
    refine wpAny_handleBy_cons (codeAny_handlers_test ?_) nofun
    have look : ∀ {Q E : Value → Shared → Prop}, Q q.c t → wpAny (model X.prog X.w) (X.A.mark (some (.ref a))) (eval (.Name x p1) X.env) Q E t := fun r => by
      rcases nm with ⟨g1, g2, e | ⟨e, v, nn⟩⟩
      · exact ld_glob (X := X.suite a ((a, oe) :: (X.pn ++ pins))) S g1 e r g2
      · exact ld_blt (X := X.suite a ((a, oe) :: (X.pn ++ pins))) S g1 e v r nn g2
    refine look ((PySem.W.exm_one (M := model X.prog X.w) c.now.kIn typ hm).here ?_)
    match m, hm, yes, no with
    | false, _, _, no => exact ih c (no rfl)
    | true, _, yes, _ =>
      refine codeAny_handlers_suite_as (HandSPX.lands_againZ c.fl fun h f u => ?_)
      have c2 := c.later f u
      obtain ⟨o2, z2, dat2, g2, S2⟩ := c2.inSuite hf
      refine store_ok (X := X.suite a ((a, o2) :: (X.pn ++ pins))) (v := .ref a) S2 hN slot (.inl loc) rfl (fun s5 S5 => ?_) (.inr loc)
      refine wpAny_mono ((run a o2 cls d (X.pn ++ pins) z2 dat2).run [] s5 _ H _ S5 (yes rfl a c.na)) (fun fl s6 post => ?_) (fun _ _ => False.elim)
      have shut : ∀ {τ : L2.St} {G : Hp} {R : Shared → Prop}, Inv (X.suite a ((a, o2) :: (X.pn ++ pins))) [] τ G s6 → (∀ s7, Inv X pins (τ.set q.i none) G s7 → R s7) →
          wpAny (model X.prog X.w) X.A (do bindName X.env n .none; unbindBehindTheSuite X.env n p2) (fun _ s7 => R s7) X.xe s6 := fun S6 r => gone_ok (S6.unsuite c.inv.ok) hN slot loc r
      match fl, post with
      | .next, ⟨_, _, S6, r⟩ => exact shut S6 fun _ J => ⟨_, _, J, r⟩
      | .brk, ⟨_, _, S6, r⟩ => exact shut S6 fun _ J => ⟨_, _, J, r⟩
      | .cont, ⟨_, _, S6, r⟩ => exact shut S6 fun _ J => ⟨_, _, J, r⟩
      | .ret _, ⟨_, _, _, S6, rv, r⟩ => exact shut S6 fun _ J => ⟨_, _, _, J, rv, r⟩
end
theorem ps_try_named {X : Cx} {body : List Stmt} {h₀ : ExceptHandler} {hds : List ExceptHandler} {l : List Cla} {pos : Pos} {tb : WX → TS} {Wout : WX}
    (hs : X.stack = X.env :: X.outer) (hf : X.env.frame = some X.env.locals) (hN : X.N.Nodup) (tk : Takes X Wout)
    (hb : ∀ (W : WX) (pn : List (Addr × Obj)) (xe : Value → Shared → Prop), Takes (X.tr pn xe) W → PassesOwn (model X.prog X.w) X.A X.env xe → PSs (X.tr pn xe) body (tb W))
    (cl : ClaOk X (h₀ :: hds) l) : PS X (.Try body (h₀ :: hds) [] [] pos) (fun D σ H => tb (claW X.K Wout D l) D σ H) := by
  refine ⟨fun pins s σ H D I w => wpAny_Try_except ?_⟩
  let catch_ : Value → Shared → Prop := fun e s₁ => wpAny (model X.prog X.w) X.A (noteFrame e X.env) (fun _ s₂ => wpAny (model X.prog X.w) X.A (setFlight e none)
    (fun _ s₃ => wpAny (model X.prog X.w) X.A (handleBy e X.env (h₀ :: hds)) (SP X pins D) X.xe s₃) X.xe s₂) X.xe s₁
  refine wpAny_mono ((hb (claW X.K Wout D l) (X.pn ++ pins) catch_ ?_ PassesOwn.looking).run [] s σ H D (I.toTry _) w) (fun fl t post => ?_) (fun _ _ e => e)
  · rintro u t ⟨a, B, sI, _, τ, G, cls, d, rfl, J, nb, up, sky, na, os, ag, w⟩
    rw [← show X.stack = (X.tr (X.pn ++ pins) catch_).stack from rfl, hs] at sky
    refine Sky.land Zc.steady (by rw [I.ok.frames, hs]) hf sky fun h f u => ?_
    exact Caught.clauses hs hf hN tk cl (pins := pins) (t := { t with heap := h }) ⟨J.ofTry I.ok, f, up.trans u, nb, na, os, ag⟩ w
  · match fl, post with
    | .next, ⟨_, _, J, r⟩ => exact wpAny_execs_nil ⟨_, _, J.ofTry I.ok, r⟩
    | .brk, ⟨_, _, J, r⟩ => exact ⟨_, _, J.ofTry I.ok, r⟩
    | .cont, ⟨_, _, J, r⟩ => exact ⟨_, _, J.ofTry I.ok, r⟩
    | .ret _, ⟨_, _, _, J, rv, r⟩ => exact ⟨_, _, _, J.ofTry I.ok, rv, r⟩
theorem pe_ckX0 {k j : Nat} {x : Str} {sp : Sp} {X : Cx} {p pos : Pos} {kws : List Keyword} {tk : TA} {ks : List Str} {gV : List V → List V → List V} (c : Ck X.prog X.w X.K X.mg X.base (L2.CX X.prog X.w) k 0 x ks gV sp) (hr : Room j X.A) (hk : k ≤ j) (hg : Gl X x) (hkw : PK X kws tk)
    (hall : (backToKw pos (keywordEach kws X.env)).all (·.1.isSome) = true := by rfl) (hks : (backToKw pos (keywordEach kws X.env)).filterMap (·.1) = ks := by rfl)
    (hdb : (x == ("__debug__" : Str)) = false := by decide)
    (hpl : ((backTo pos (starEach [] X.env)).any (·.1) || (backToKw pos (keywordEach kws X.env)).any (·.1.isNone)) = false := by rfl) :
    PE X (.Call (.Name x p) [] kws pos) (tCallN 0 ks.length sp gV E0 tNil tk) := by
  obtain ⟨f, fd, ps, g, F, hm, kp, b⟩ := c.ex
  exact pe_callN0 F (hr.mono hk) hg hm kp b (fun pins σ H s e s' I c => passAt (W := fun _ _ _ _ => False) takes0 σ pins H s e s' I c) hkw hall hks hdb hpl

/-! ### data: what a value is, to any depth -/
theorem dp_all_len {K : PySem.W.Frag} {H : Hp} : ∀ {vs : List V} {ds : List PyData}, DpAll K H vs ds → vs.length = ds.length
  | _, _, .nil => rfl
  | _, _, .cons _ t => congrArg Nat.succ (dp_all_len t)
theorem dp_all_get {K : PySem.W.Frag} {H : Hp} : ∀ {vs : List V} {ds : List PyData} {i : Nat} {v : V}, DpAll K H vs ds → vs[i]? = some v → ∃ d, ds[i]? = some d ∧ Dp K H v d
  | _, _, _, _, .nil, h => by simp at h
  | _, _, 0, v, .cons h t, e => by
    have e' := Option.some.inj e
    subst e'
    exact ⟨_, rfl, h⟩
  | _, _, i + 1, v, .cons h t, e => dp_all_get (i := i) t e
theorem same_sqt {K : PySem.W.Frag} {H H' : Hp} {a : Addr} {xs : List V} (e : Same H H') (h : SqT K H a xs) : SqT K H' a xs := by
  rcases h with (h | ⟨o, h⟩) | h
  · exact .inl (.inl (e _ _ h))
  · exact .inl (.inr ⟨o, e _ _ h⟩)
  · exact .inr h
mutual
theorem dp_same {K : PySem.W.Frag} {H H' : Hp} (e : Same H H') : ∀ (d : PyData) {v : V}, Dp K H v d → Dp K H' v d
  | .none, _, .non => .non
  | .bool _, _, .bl b => .bl b
  | .int _, _, .int i => .int i
  | .str _, _, .str x => .str x
  | .list ds, _, .lst hs ha => .lst (e.seq hs) (dps_same e ds ha)
  | .tuple ds, _, .tup hs ha => .tup (same_sqt e hs) (dps_same e ds ha)
  | .dict _, _, h => by cases h
theorem dps_same {K : PySem.W.Frag} {H H' : Hp} (e : Same H H') : ∀ (ds : List PyData) {vs : List V}, DpAll K H vs ds → DpAll K H' vs ds
  | [], _, .nil => .nil
  | d :: ds, _, .cons h t => .cons (dp_same e d h) (dps_same e ds t)
end
def okT (x : Str) : Prop := PySem.PyData.strOk x = true ∧ x.length ≤ 5000
/-- plain data of so many levels at most, nothing large -/
def Gd : Nat → PyData → Prop
  | 0, d => match d with
    | .none => True
    | .bool _ => True
    | .int _ => True
    | .str x => okT x
    | _ => False
  | n + 1, d => match d with
    | .none => True
    | .bool _ => True
    | .int _ => True
    | .str x => okT x
    | .list xs => xs.length ≤ 5000 ∧ ∀ x ∈ xs, Gd n x
    | .tuple xs => xs.length ≤ 5000 ∧ ∀ x ∈ xs, Gd n x
    | .dict _ => False
theorem gd_str {n : Nat} {x : Str} (h : Gd n (.str x)) : okT x := by
  cases n with
  | zero => exact h
  | succ n => exact h
theorem gd_tup {n : Nat} {xs : List PyData} (h : Gd n (.tuple xs)) : xs.length ≤ 5000 ∧ ∃ m, n = m + 1 ∧ ∀ x ∈ xs, Gd m x := by
  cases n with
  | zero => exact h.elim
  | succ n => exact ⟨h.1, n, rfl, h.2⟩
theorem gd_lst {n : Nat} {xs : List PyData} (h : Gd n (.list xs)) : xs.length ≤ 5000 ∧ ∃ m, n = m + 1 ∧ ∀ x ∈ xs, Gd m x := by
  cases n with
  | zero => exact h.elim
  | succ n => exact ⟨h.1, n, rfl, h.2⟩
theorem gd_up : ∀ {n : Nat} {d : PyData}, Gd n d → Gd (n + 1) d
  | 0, .none, h => h
  | 0, .bool _, h => h
  | 0, .int _, h => h
  | 0, .str _, h => h
  | n + 1, .none, h => h
  | n + 1, .bool _, h => h
  | n + 1, .int _, h => h
  | n + 1, .str _, h => h
  | n + 1, .list xs, h => ⟨h.1, fun x hx => gd_up (h.2 x hx)⟩
  | n + 1, .tuple xs, h => ⟨h.1, fun x hx => gd_up (h.2 x hx)⟩
theorem gd_le {n m : Nat} {d : PyData} (h : Gd n d) (hm : n ≤ m) : Gd m d := by
  induction hm with
  | refl => exact h
  | step _ ih => exact gd_up ih
theorem depthAll_le {n : Nat} : ∀ {xs : List PyData}, (∀ x ∈ xs, x.depth ≤ n) → PyData.depthAll xs ≤ n
  | [], _ => by
    unfold PyData.depthAll
    exact Nat.zero_le _
  | x :: xs, h => by
    unfold PyData.depthAll
    exact Nat.max_le.mpr ⟨h x List.mem_cons_self, depthAll_le fun y hy => h y (List.mem_cons_of_mem _ hy)⟩
theorem layAll_of : ∀ {xs : List PyData}, (∀ x ∈ xs, x.canLay0 = true) → PyData.canLayAll0 xs = true
  | [], _ => by
    unfold PyData.canLayAll0
    rfl
  | x :: xs, h => by
    unfold PyData.canLayAll0
    rw [h x List.mem_cons_self, layAll_of fun y hy => h y (List.mem_cons_of_mem _ hy)]
    rfl
theorem gd_facts : ∀ {n : Nat} {d : PyData}, Gd n d → d.canLay0 = true ∧ d.depth ≤ n
  | 0, .none, h => ⟨by unfold PyData.canLay0; rfl, by unfold PyData.depth; omega⟩
  | 0, .bool _, h => ⟨by unfold PyData.canLay0; rfl, by unfold PyData.depth; omega⟩
  | 0, .int _, h => ⟨by unfold PyData.canLay0; rfl, by unfold PyData.depth; omega⟩
  | 0, .str _, h => ⟨by unfold PyData.canLay0; exact h.1, by unfold PyData.depth; omega⟩
  | n + 1, .none, h => ⟨by unfold PyData.canLay0; rfl, by unfold PyData.depth; omega⟩
  | n + 1, .bool _, h => ⟨by unfold PyData.canLay0; rfl, by unfold PyData.depth; omega⟩
  | n + 1, .int _, h => ⟨by unfold PyData.canLay0; rfl, by unfold PyData.depth; omega⟩
  | n + 1, .str _, h => ⟨by unfold PyData.canLay0; exact h.1, by unfold PyData.depth; omega⟩
  | n + 1, .list xs, h => ⟨by unfold PyData.canLay0; exact layAll_of fun x hx => (gd_facts (h.2 x hx)).1, by
      unfold PyData.depth
      have := depthAll_le fun x hx => (gd_facts (h.2 x hx)).2
      omega⟩
  | n + 1, .tuple xs, h => ⟨by unfold PyData.canLay0; exact layAll_of fun x hx => (gd_facts (h.2 x hx)).1, by
      unfold PyData.depth
      have := depthAll_le fun x hx => (gd_facts (h.2 x hx)).2
      omega⟩
theorem gd_shaped {n : Nat} {d : PyData} (h : Gd n d) (hn : n ≤ 64) : SeqAt.shaped d = true := by
  obtain ⟨h1, h2⟩ := gd_facts h
  unfold SeqAt.shaped
  rw [h1, decide_eq_true (Nat.le_trans h2 hn)]
  rfl
/-! ### types -/
def tyN : PyData → String
  | .none => "NoneType"
  | .bool _ => "bool"
  | .int _ => "int"
  | .str _ => "str"
  | .list _ => "list"
  | .tuple _ => "tuple"
  | .dict _ => "dict"
theorem dp_ty {K : PySem.W.Frag} {H : Hp} {v : V} : ∀ {d : PyData}, Dp K H v d → TyX K H v (.type (tyN d))
  | _, .non => .base .non
  | _, .bl b => .base (.bl b)
  | _, .int i => .base (.int i)
  | _, .str x => .base (.str x)
  | _, .lst hs _ => by
    rcases hs with (h | ⟨o, h⟩) | ⟨o, _, _, h, hc, _⟩
    · exact .base (.lst h)
    · exact .base (.frz h)
    · exact .kList h hc
  | _, .tup hs _ => by
    rcases hs with (h | ⟨o, h⟩) | ⟨o, _, _, h, hc, _⟩
    · exact .base (.tup h)
    · exact .fTuple h
    · exact .kTuple h hc
def isInt : PyData → Bool
  | .int _ => true
  | .bool _ => true
  | _ => false
def isBool : PyData → Bool
  | .bool _ => true
  | _ => false
def isStr : PyData → Bool
  | .str _ => true
  | _ => false
def isTup : PyData → Bool
  | .tuple _ => true
  | _ => false
theorem kit_int {K : PySem.W.Frag} (d : PyData) : PySem.W.kitOne K (.type (tyN d)) (.type "int") = some (isInt d) := by
  cases d with
  | none => exact kit_ty (show kitB "NoneType" "int" = some false by decide +kernel)
  | bool _ => exact kit_ty (show kitB "bool" "int" = some true by decide +kernel)
  | int _ => exact kit_ty (show kitB "int" "int" = some true by decide +kernel)
  | str _ => exact kit_ty (show kitB "str" "int" = some false by decide +kernel)
  | list _ => exact kit_ty (show kitB "list" "int" = some false by decide +kernel)
  | tuple _ => exact kit_ty (show kitB "tuple" "int" = some false by decide +kernel)
  | dict _ => exact kit_ty (show kitB "dict" "int" = some false by decide +kernel)
theorem kit_bool {K : PySem.W.Frag} (d : PyData) : PySem.W.kitOne K (.type (tyN d)) (.type "bool") = some (isBool d) := by
  cases d with
  | none => exact kit_ty (show kitB "NoneType" "bool" = some false by decide +kernel)
  | bool _ => exact kit_ty (show kitB "bool" "bool" = some true by decide +kernel)
  | int _ => exact kit_ty (show kitB "int" "bool" = some false by decide +kernel)
  | str _ => exact kit_ty (show kitB "str" "bool" = some false by decide +kernel)
  | list _ => exact kit_ty (show kitB "list" "bool" = some false by decide +kernel)
  | tuple _ => exact kit_ty (show kitB "tuple" "bool" = some false by decide +kernel)
  | dict _ => exact kit_ty (show kitB "dict" "bool" = some false by decide +kernel)
theorem kit_str {K : PySem.W.Frag} (d : PyData) : PySem.W.kitOne K (.type (tyN d)) (.type "str") = some (isStr d) := by
  cases d with
  | none => exact kit_ty (show kitB "NoneType" "str" = some false by decide +kernel)
  | bool _ => exact kit_ty (show kitB "bool" "str" = some false by decide +kernel)
  | int _ => exact kit_ty (show kitB "int" "str" = some false by decide +kernel)
  | str _ => exact kit_ty (show kitB "str" "str" = some true by decide +kernel)
  | list _ => exact kit_ty (show kitB "list" "str" = some false by decide +kernel)
  | tuple _ => exact kit_ty (show kitB "tuple" "str" = some false by decide +kernel)
  | dict _ => exact kit_ty (show kitB "dict" "str" = some false by decide +kernel)
theorem kit_tup {K : PySem.W.Frag} (d : PyData) : PySem.W.kitOne K (.type (tyN d)) (.type "tuple") = some (isTup d) := by
  cases d with
  | none => exact kit_ty (show kitB "NoneType" "tuple" = some false by decide +kernel)
  | bool _ => exact kit_ty (show kitB "bool" "tuple" = some false by decide +kernel)
  | int _ => exact kit_ty (show kitB "int" "tuple" = some false by decide +kernel)
  | str _ => exact kit_ty (show kitB "str" "tuple" = some false by decide +kernel)
  | list _ => exact kit_ty (show kitB "list" "tuple" = some false by decide +kernel)
  | tuple _ => exact kit_ty (show kitB "tuple" "tuple" = some true by decide +kernel)
  | dict _ => exact kit_ty (show kitB "dict" "tuple" = some false by decide +kernel)
/-! ### what a block is -/
def whole : PyData → Int → Int → Bool
  | .int i, lo, hi => decide (lo ≤ i) && decide (i ≤ hi)
  | _, _, _ => false
def strLen (m : Int) : PyData → Bool
  | .str x => decide ((x.length : Int) = m)
  | _ => false
def bitRow (m : Int) : PyData → Bool
  | .str x => decide ((x.length : Int) = m) && x.cps.toList.all (fun c => c == 48 || c == 49)
  | _ => false
def rowsOk : PyData → Int → Int → Bool
  | .tuple xs, many, m => decide ((xs.length : Int) = many) && xs.all (bitRow m)
  | _, _, _ => false
def named (x : Str) (d : PyData) : Bool := PyData.eqv d (.str x)
def genRows : PyData → PyData → PyData → Bool
  | .int n, .int m, r => rowsOk r (1 * 2 ^ n.toNat) m
  | _, _, _ => false
def genOk : PyData → Bool
  | .tuple [k, n, m, r] => named "generator" k && whole n 1 10 && whole m 1 40 && genRows n m r
  | _ => false
def sumLe : PyData → PyData → Bool
  | .int n, .int l => decide (n + l ≤ 12)
  | _, _ => false
def funTabs : PyData → PyData → PyData → PyData → Bool
  | .int n, .int l, .int m, .tuple ts => decide ((ts.length : Int) = 1 * 2 ^ n.toNat) && ts.all (fun r => rowsOk r (1 * 2 ^ l.toNat) m)
  | _, _, _, _ => false
def funOk : PyData → Bool
  | .tuple [k, n, l, m, t] => named "function" k && whole n 1 8 && whole l 1 8 && sumLe n l && whole m 1 40 && funTabs n l m t
  | _ => false
theorem gen_no {xs : List PyData} (h : ¬ xs.length = 4) : genOk (.tuple xs) = false := by
  unfold genOk
  split
  · rename_i e
    cases e
    exact absurd rfl h
  · rfl
theorem fun_no {xs : List PyData} (h : ¬ xs.length = 5) : funOk (.tuple xs) = false := by
  unfold funOk
  split
  · rename_i e
    cases e
    exact absurd rfl h
  · rfl
def blockOk (d : PyData) : Bool := genOk d || funOk d
/-! ### strip of 0 and 1 -/
theorem strip_all (x : Str) : decide (V.str (Txt.stripChars x "01") = V.str "") = x.cps.toList.all (fun c => c == 48 || c == 49) := by
  have goes : ∀ c : Nat, (("01" : Str).cps.contains c) = (c == 48 || c == 49) := fun c => by
    show (#[48, 49] : Array Nat).contains c = _
    by_cases h1 : c = 48
    · subst h1
      simp
    · by_cases h2 : c = 49
      · subst h2
        simp
      · simp [h1, h2]
  have hn : x.cps.toList.length = x.length := by simp [Str.length]
  have key : Txt.stripChars x "01" = "" ↔ ∀ k, k < x.length → (("01" : Str).cps.contains (x.cps.getD k 0)) = true := by
    unfold Txt.stripChars
    rw [stripBy_eq]
    obtain ⟨a1, a2, a3⟩ := lo_facts ("01" : Str).cps.contains x
    obtain ⟨b1, b2, b3, _⟩ := hi_facts ("01" : Str).cps.contains x _ a1
    generalize stripLo ("01" : Str).cps.contains true x = lo at a1 a2 a3 b1 b2 b3
    generalize stripHi ("01" : Str).cps.contains true x lo = hi at b1 b2 b3
    have hl : (Builtin.Str.strSub x lo hi).cps.toList = (x.cps.toList.drop lo).take (hi - lo) := PySem.StrLaws.strSub_toList x lo hi
    constructor
    · intro e k hk
      have h0 : (x.cps.toList.drop lo).take (hi - lo) = [] := by
        rw [← hl, e]
        rfl
      have h1 := congrArg List.length h0
      rw [List.length_take, List.length_drop, hn] at h1
      have h2 : min (hi - lo) (x.length - lo) = 0 := h1
      by_cases hk' : k < lo
      · exact a2 k hk'
      · exact b3 k (by omega) hk
    · intro h
      have e : lo = x.length := by
        rcases a3 with z | z
        · exact z
        · by_cases c : lo < x.length
          · rw [h lo c] at z
            cases z
          · omega
      refine TL.ext_tl ?_
      show (Builtin.Str.strSub x lo hi).cps.toList = []
      rw [hl, List.drop_eq_nil_of_le (by omega)]
      exact List.take_nil
  have e2 : (∀ k, k < x.length → (("01" : Str).cps.contains (x.cps.getD k 0)) = true) ↔ x.cps.toList.all (fun c => c == 48 || c == 49) = true := by
    rw [List.all_eq_true]
    constructor
    · intro h c hc
      obtain ⟨k, hk, e⟩ := List.getElem_of_mem hc
      have := h k (by omega)
      rw [← getD_list, List.getD_eq_getElem?_getD, List.getElem?_eq_getElem hk] at this
      rw [← goes c, ← e]
      exact this
    · intro h k hk
      rw [← getD_list, List.getD_eq_getElem?_getD, List.getElem?_eq_getElem (by omega)]
      rw [goes]
      exact h _ (List.getElem_mem _)
  by_cases c : Txt.stripChars x "01" = ""
  · rw [c, decide_eq_true rfl]
    exact (e2.mp (key.mp c)).symm
  · rw [decide_eq_false fun z => c (V.str.inj z)]
    cases hq : x.cps.toList.all (fun c => c == 48 || c == 49)
    · rfl
    · exact absurd (key.mpr (e2.mpr hq)) c
/-! ### what the law makes -/
def rowsD (rows : List (List Bool)) : PyData := .tuple (rows.map fun r => .str (sb r))
def tabD (n m : Nat) (rows : List (List Bool)) : PyData := .tuple [.str "generator", .int (n : Int), .int (m : Int), rowsD rows]
def funD (n l m : Nat) (tabs : List (List (List Bool))) : PyData := .tuple [.str "function", .int (n : Int), .int (l : Int), .int (m : Int), .tuple (tabs.map rowsD)]
theorem dp_bits {K : PySem.W.Frag} {H : Hp} : ∀ rows : List (List Bool), DpAll K H (rows.map fun r => V.str (sb r)) (rows.map fun r => PyData.str (sb r))
  | [] => .nil
  | r :: rows => .cons (.str _) (dp_bits rows)
theorem dpAll_snoc {K : PySem.W.Frag} {H : Hp} {v : V} {d : PyData} : ∀ {vs : List V} {ds : List PyData}, DpAll K H vs ds → Dp K H v d → DpAll K H (vs ++ [v]) (ds ++ [d])
  | _, _, .nil, h => .cons h .nil
  | _, _, .cons h t, h' => .cons h (dpAll_snoc t h')

/-! ### the promises -/
/-- the hand: a list of the draws' list and the number of the next draw -/
def Hnd (H : Hp) (a d : Addr) : Prop := ∃ (ds : List Int) (i : Nat), H a = some (.lst [.ref d, .int (i : Int)]) ∧ H d = some (.lst (ds.map V.int)) ∧ (∀ x ∈ ds, 0 ≤ x) ∧ d ≠ a
/-- all but the hand is as it was -/
def Keep (a : Addr) (H H' : Hp) : Prop := ∀ b o, H b = some o → b ≠ a → H' b = some o
theorem Keep.trans {a : Addr} {H H1 H2 : Hp} (h : Keep a H H1) (h' : Keep a H1 H2) : Keep a H H2 := fun b o e n => h' b o (h b o e n) n
theorem Keep.refl (a : Addr) (H : Hp) : Keep a H H := fun _ _ e _ => e
theorem Keep.new {a p : Addr} {H : Hp} {o : HO} (np : H p = none) : Keep a H (upd H p o) := fun b u e _ => by
  rw [upd_ne (ne_of_none e np)]
  exact e
theorem same_new {H : Hp} {p : Addr} {o : HO} (h : H p = none) : Same H (upd H p o) := fun b x e => by
  rw [upd_ne (ne_of_none e h)]
  exact e
theorem Hnd.same {H H' : Hp} {a d : Addr} (h : Hnd H a d) (s : Same H H') : Hnd H' a d := by
  obtain ⟨ds, i, h1, h2, h3, h4⟩ := h
  exact ⟨ds, i, s _ _ h1, s _ _ h2, h3, h4⟩
theorem Hnd.new {H : Hp} {a d p : Addr} {o : HO} (h : Hnd H a d) (np : H p = none) : Hnd (upd H p o) a d := h.same (same_new np)
theorem Hnd.some {H : Hp} {a d : Addr} (h : Hnd H a d) : ∃ o, H a = some o := by
  obtain ⟨ds, i, h1, _⟩ := h
  exact ⟨_, h1⟩
/-- what is new is neither the hand nor the draws -/
theorem Hnd.ne {H : Hp} {a d p : Addr} (h : Hnd H a d) (np : H p = none) : p ≠ a ∧ p ≠ d := by
  obtain ⟨ds, i, h1, h2, _⟩ := h
  exact ⟨(ne_of_none h1 np).symm, (ne_of_none h2 np).symm⟩
/-- an object beside the hand may change -/
theorem Hnd.set {H : Hp} {a d p : Addr} {o : HO} (h : Hnd H a d) (pa : p ≠ a) (pd : p ≠ d) : Hnd (upd H p o) a d := by
  obtain ⟨ds, i, h1, h2, h3, h4⟩ := h
  exact ⟨ds, i, by rw [upd_ne pa.symm]; exact h1, by rw [upd_ne pd.symm]; exact h2, h3, h4⟩
theorem Keep.same {a : Addr} {H H' : Hp} (s : Same H H') : Keep a H H' := fun b o e _ => s b o e
def spDraws (K : PySem.W.Frag) : Sp := fun vs H Q _ => ∃ (a : Addr) (ns : List Int) (many : Nat), vs = [.ref a, .int (many : Int)] ∧ SqL K H a (ns.map V.int) ∧ ns.length ≤ 63 ∧ many ≤ 5000 ∧
  ∀ (p : Addr) (ds : List Int) (H' : Hp), H p = none → Same H H' → H' p = some (.lst (ds.map V.int)) → (∀ x ∈ ds, (0 : Int) ≤ x) → Q (.ref p) H'
def spTake : Sp := fun vs H Q _ => ∃ (a d : Addr) (many : Int), vs = [.ref a, .int many] ∧ 0 < many ∧ Hnd H a d ∧ ∀ r H', 0 ≤ r → r < many → Hnd H' a d → Keep a H H' → Q (.int r) H'
def spString : Sp := fun vs H Q _ => ∃ (a d : Addr) (n : Nat), vs = [.ref a, .int (n : Int)] ∧ n ≤ 5000 ∧ Hnd H a d ∧ ∀ bs H', bs.length = n → Hnd H' a d → Keep a H H' → Q (.str (sb bs)) H'
def spBits : Sp := fun vs H Q _ => ∃ n k : Nat, vs = [.int (n : Int), .int (k : Int)] ∧ n ≤ 5000 ∧ k < 2 ^ n ∧ Q (.str (sb (toB n k))) H
def spNumber : Sp := fun vs H Q _ => ∃ bs : List Bool, vs = [.str (sb bs)] ∧ bs.length ≤ 640 ∧ Q (.int ((val bs : Nat) : Int)) H
def spXor : Sp := fun vs H Q _ => ∃ l m : List Bool, vs = [.str (sb l), .str (sb m)] ∧ l.length = m.length ∧ l.length ≤ 640 ∧ Q (.str (sb (List.zipWith (fun x y => x != y) l m))) H
def spParity : Sp := fun vs H Q _ => ∃ l m : List Bool, vs = [.str (sb l), .str (sb m)] ∧ l.length = m.length ∧ l.length ≤ 640 ∧ Q (.int ((((List.zipWith (fun x y => x && y) l m).count true : Nat) : Int) % 2)) H
def spIsS : Sp := fun vs H Q _ => ∃ x y : Str, vs = [.str x, .str y] ∧ Q (.bl (decide (x = y))) H
def spIsN : Sp := fun vs H Q _ => ∃ x y : Int, vs = [.int x, .int y] ∧ Q (.bl (decide (x = y))) H
def spPair : Sp := fun vs H Q _ => ∃ l m : List Bool, vs = [.str (sb l), .str (sb m)] ∧ l.length = m.length ∧ l.length ≤ 640 ∧ ∀ H', Same H H' → Q (.bl true) H'
def spLaw (K : PySem.W.Frag) : Sp := fun vs H Q _ => ∃ (a : Addr) (ns : List Int), vs = [.ref a] ∧ SqL K H a (ns.map V.int) ∧ ns.length ≤ 63 ∧ ∀ H', Q (.bl true) H'
/-- what was made anew may change: nothing that was there is it -/
theorem Keep.set {a p : Addr} {H H' : Hp} {o : HO} (h : Keep a H H') (np : H p = none) : Keep a H (upd H' p o) := fun b u e n => by
  rw [upd_ne (ne_of_none e np)]
  exact h b u e n
theorem Keep.free {a p : Addr} {H H' : Hp} (h : Keep a H H') (np : H' p = none) (pa : p ≠ a) : H p = none := by
  cases e : H p with
  | none => rfl
  | some o =>
    have := h p o e pa
    rw [np] at this
    cases this
/-- the heap without the hand: what data stand on -/
def off (a : Addr) (H : Hp) : Hp := fun b => if b = a then none else H b
theorem off_ne {a b : Addr} {H : Hp} (h : b ≠ a) : off a H b = H b := if_neg h
theorem off_same (a : Addr) (H : Hp) : Same (off a H) H := fun b o e => by
  unfold off at e
  by_cases h : b = a
  · rw [if_pos h] at e
    cases e
  · rw [if_neg h] at e
    exact e
theorem Keep.off {a : Addr} {H H' : Hp} (k : Keep a H H') : Same (off a H) (off a H') := fun b o e => by
  unfold My.off at e ⊢
  by_cases h : b = a
  · rw [if_pos h] at e
    cases e
  · rw [if_neg h] at e ⊢
    exact k b o e h

def spWhole (K : PySem.W.Frag) : Sp := fun vs H Q _ => ∃ (v : V) (d : PyData) (lo hi : Int), vs = [v, .int lo, .int hi] ∧ Dp K H v d ∧ Q (.bl (whole d lo hi)) H
def spRows (K : PySem.W.Frag) : Sp := fun vs H Q _ => ∃ (v : V) (d : PyData) (n : Nat) (many m : Int), vs = [v, .int many, .int m] ∧ Dp K H v d ∧ Gd n d ∧ many ≤ 4096 ∧ m ≤ 40 ∧ ∀ H', Same H H' → Q (.bl (rowsOk d many m)) H'
def spGen (K : PySem.W.Frag) : Sp := fun vs H Q _ => ∃ (v : V) (d : PyData) (n : Nat), vs = [v] ∧ Dp K H v d ∧ Gd n d ∧ n ≤ 64 ∧ ∀ H', Same H H' → Q (.bl (genOk d)) H'
def spFun (K : PySem.W.Frag) : Sp := fun vs H Q _ => ∃ (v : V) (d : PyData) (n : Nat), vs = [v] ∧ Dp K H v d ∧ Gd n d ∧ n ≤ 64 ∧ ∀ H', Same H H' → Q (.bl (funOk d)) H'
def spCheck (K : PySem.W.Frag) (C : Addr) : Sp := fun vs H Q E => ∃ (v : V) (d : PyData) (n : Nat), vs = [v] ∧ Dp K H v d ∧ Gd n d ∧ n ≤ 64 ∧ ∀ H', Same H H' → (blockOk d = true → Q .non H') ∧ (blockOk d = false → E (.ref C) none H')

def spTable (K : PySem.W.Frag) : Sp := fun vs H Q _ => ∃ (a d : Addr) (n m : Nat), vs = [.ref a, .int (n : Int), .int (m : Int)] ∧ n ≤ 8 ∧ m ≤ 200 ∧ Hnd H a d ∧
  ∀ v rows H', rows.length = 2 ^ n → (∀ r ∈ rows, r.length = m) → Dp K (off a H') v (tabD n m rows) → Hnd H' a d → Keep a H H' → Q v H'
def spFunction (K : PySem.W.Frag) : Sp := fun vs H Q _ => ∃ (a d : Addr) (n l m : Nat), vs = [.ref a, .int (n : Int), .int (l : Int), .int (m : Int)] ∧ n ≤ 8 ∧ l ≤ 8 ∧ m ≤ 200 ∧ Hnd H a d ∧
  ∀ v tabs H', tabs.length = 2 ^ n → (∀ rows ∈ tabs, rows.length = 2 ^ l ∧ ∀ r ∈ rows, r.length = m) → Dp K (off a H') v (funD n l m tabs) → Hnd H' a d → Keep a H H' → Q v H'

theorem for_text {x : Str} {g : TG} {tb : TS} {D : Ends} {σ : L2.St} {H : Hp} (Pv : Nat → L2.St → Hp → Prop) (h0 : Pv 0 σ H)
    (hs : ∀ i c σ H, x.cps[i]? = some c → Pv i σ H → g (.str ⟨#[c]⟩) σ H fun σ2 H2 => tb { D with nx := Pv (i + 1), ct := Pv (i + 1), bk := D.nx } σ2 H2) (hd : ∀ σ H, Pv x.cps.size σ H → D.nx σ H) :
    ∃ W : Nat → Nat → L2.St → Hp → Prop, (∃ m, W 0 m σ H) ∧ ∀ i m σ H, W i m σ H →
      ((Its x).stop i H ∧ D.nx σ H) ∨ ((Its x).go i H ∧ ∃ N : L2.St → Hp → Prop, (∀ σ' H', N σ' H' → ∃ m', m' < m ∧ W (i + 1) m' σ' H') ∧ ∀ y H', (Its x).yld i H y H' → g y σ H' fun σ2 H2 => tb { D with nx := N, ct := N, bk := D.nx } σ2 H2) := by
  refine ⟨fun i m σ H => m = x.cps.size - i ∧ i ≤ x.cps.size ∧ Pv i σ H, ⟨x.cps.size, by omega, Nat.zero_le _, h0⟩, ?_⟩
  rintro i m σ H ⟨rfl, hi, p⟩
  by_cases c : i < x.cps.size
  · refine .inr ⟨c, Pv (i + 1), fun σ' H' p' => ⟨x.cps.size - (i + 1), by omega, rfl, c, p'⟩, ?_⟩
    rintro y H' ⟨rfl, k, hk, rfl⟩
    exact hs i k σ _ hk p
  · have e : i = x.cps.size := by omega
    subst e
    exact .inl ⟨Nat.le_refl _, hd σ H p⟩

theorem ix_nat (n d i : Nat) : HT.sIx n d (some (i : Int)) = min i n := by
  unfold HT.sIx
  show (if (i : Int) < 0 then _ else min (i : Int).toNat n) = _
  rw [if_neg (by omega)]
  rfl
theorem sb_drop_take (l : List Bool) (a b : Nat) : (⟨(((sb l).cps.toList.drop a).take b).toArray⟩ : Str) = sb ((l.drop a).take b) := by
  unfold sb
  rw [List.map_take, List.map_drop]
theorem cut_pre {l : List Bool} {i : Nat} : cutS (sb l) none (some (i : Int)) = sb (l.take i) := by
  unfold cutS
  rw [sb_drop_take, ix_nat, HT.sIx_none, sb_len, List.drop_zero, Nat.sub_zero]
  congr 1
  by_cases h : i ≤ l.length
  · rw [Nat.min_eq_left h]
  · rw [List.take_of_length_le (by omega), List.take_of_length_le (by omega)]
theorem cut_suf {l : List Bool} {i : Nat} : cutS (sb l) (some (i : Int)) none = sb (l.drop i) := by
  unfold cutS
  rw [sb_drop_take, ix_nat, HT.sIx_none, sb_len, List.take_of_length_le (by rw [List.length_drop]; omega)]
  congr 1
  by_cases h : i ≤ l.length
  · rw [Nat.min_eq_left h]
  · rw [Nat.min_eq_right (by omega), List.drop_length, List.drop_of_length_le (by omega)]
theorem cut_one {l : List Bool} {i : Nat} : cutS (sb l) (some (i : Int)) (some ((i : Int) + 1)) = sb ((l.drop i).take 1) := by
  unfold cutS
  rw [show ((i : Int) + 1) = ((i + 1 : Nat) : Int) by omega, sb_drop_take, ix_nat, ix_nat, sb_len]
  congr 1
  by_cases h : i + 1 ≤ l.length
  · rw [Nat.min_eq_left h, Nat.min_eq_left (by omega)]
    congr 1
    omega
  · by_cases h' : i = l.length
    · subst h'
      rw [Nat.min_self, List.drop_length]
      simp
    · rw [Nat.min_eq_right (show l.length ≤ i by omega), List.drop_length, List.drop_eq_nil_of_le (show l.length ≤ i by omega)]
      simp
theorem rep_bits (b : Bool) (n : Nat) : SX.S (List.replicate n [cB b]).flatten = sb (List.replicate n b) := by
  unfold sb
  congr 1
  induction n with
  | zero => rfl
  | succ n ih =>
    rw [List.replicate_succ, List.flatten_cons, ih]
    rfl
theorem val_take (l : List Bool) (i : Nat) (h : i < l.length) : val (l.take (i + 1)) = 2 * val (l.take i) + bit l[i] := by
  rw [List.take_add_one, List.getElem?_eq_getElem h]
  exact val_snoc _ _
theorem val_zeros (n : Nat) : val (List.replicate n false) = 0 := by
  induction n with
  | zero => rfl
  | succ n ih =>
    rw [List.replicate_succ', val_snoc, ih]
    rfl
theorem sb_at {l : List Bool} {i c : Nat} (h : (sb l).cps[i]? = some c) : ∃ h : i < l.length, c = cB l[i] := by
  have e : (l.map cB)[i]? = some c := by
    rw [← h]
    show _ = ((l.map cB).toArray)[i]?
    simp
  rw [List.getElem?_map] at e
  obtain ⟨b, hb, rfl⟩ := Option.map_eq_some_iff.mp e
  obtain ⟨hi, rfl⟩ := List.getElem?_eq_some_iff.mp hb
  exact ⟨hi, rfl⟩

theorem name_ne {d : PyData} {x : Str} : (!PyData.eqv d (.str x)) = !named x d := rfl
theorem whole_int {d : PyData} {lo hi : Int} (h : whole d lo hi = true) : ∃ i, d = .int i ∧ lo ≤ i ∧ i ≤ hi := by
  cases d with
  | int i =>
    have h' : (decide (lo ≤ i) && decide (i ≤ hi)) = true := h
    rw [Bool.and_eq_true, decide_eq_true_eq, decide_eq_true_eq] at h'
    exact ⟨i, rfl, h'⟩
  | _ => cases h
theorem gen_eq {k n m r : PyData} : genOk (.tuple [k, n, m, r]) = (named "generator" k && whole n 1 10 && whole m 1 40 && genRows n m r) := rfl
theorem fun_eq {k n l m t : PyData} : funOk (.tuple [k, n, l, m, t]) = (named "function" k && whole n 1 8 && whole l 1 8 && sumLe n l && whole m 1 40 && funTabs n l m t) := rfl
theorem pow_le {n : Int} {b : Nat} (h0 : 1 ≤ n) (h : n ≤ (b : Int)) : (1 : Int) * 2 ^ n.toNat ≤ ((2 ^ b : Nat) : Int) := by
  have h1 : (2 : Nat) ^ n.toNat ≤ 2 ^ b := Nat.pow_le_pow_right (by decide) (by omega)
  have h2 : ((2 ^ n.toNat : Nat) : Int) ≤ ((2 ^ b : Nat) : Int) := Int.ofNat_le.mpr h1
  rw [Int.natCast_pow] at h2
  rw [Int.one_mul]
  exact h2
theorem dp4 {K : PySem.W.Frag} {H : Hp} {ws : List V} {xs : List PyData} (h : DpAll K H ws xs) (c : ws.length = 4) : ∃ v0 v1 v2 v3 d0 d1 d2 d3, ws = [v0, v1, v2, v3] ∧ xs = [d0, d1, d2, d3] ∧ Dp K H v0 d0 ∧ Dp K H v1 d1 ∧ Dp K H v2 d2 ∧ Dp K H v3 d3 := by
  match xs, ws, c, h with
  | _, [v0, v1, v2, v3], _, .cons h0 (.cons h1 (.cons h2 (.cons h3 .nil))) => exact ⟨_, _, _, _, _, _, _, _, rfl, rfl, h0, h1, h2, h3⟩
theorem dp5 {K : PySem.W.Frag} {H : Hp} {ws : List V} {xs : List PyData} (h : DpAll K H ws xs) (c : ws.length = 5) : ∃ v0 v1 v2 v3 v4 d0 d1 d2 d3 d4, ws = [v0, v1, v2, v3, v4] ∧ xs = [d0, d1, d2, d3, d4] ∧ Dp K H v0 d0 ∧ Dp K H v1 d1 ∧ Dp K H v2 d2 ∧ Dp K H v3 d3 ∧ Dp K H v4 d4 := by
  match xs, ws, c, h with
  | _, [v0, v1, v2, v3, v4], _, .cons h0 (.cons h1 (.cons h2 (.cons h3 (.cons h4 .nil)))) => exact ⟨_, _, _, _, _, _, _, _, _, _, rfl, rfl, h0, h1, h2, h3, h4⟩
theorem join_all : ∀ ys : List Str, (Txt.join "" ys).cps.toList = (ys.map (·.cps.toList)).flatten := by
  intro ys
  have j : ∀ ps : List (List Nat), TL.joinL [] ps = ps.flatten := by
    intro ps
    induction ps with
    | nil => rfl
    | cons x r ih =>
      cases r with
      | nil => exact (List.append_nil x).symm
      | cons y r =>
        show x ++ ([] ++ TL.joinL [] (y :: r)) = x ++ (y :: r).flatten
        rw [ih, List.nil_append]
  have e : ys = (ys.map (·.cps.toList)).map SX.S := by
    rw [List.map_map]
    exact (List.map_id'' (fun x => SX.S_tl x) ys).symm
  have h := SX.join_S [] (ys.map (·.cps.toList))
  rw [← e, j] at h
  exact congrArg (fun z : Str => z.cps.toList) h

/-! ### data of a size -/
def okS (s : Nat) (x : Str) : Prop := PySem.PyData.strOk x = true ∧ x.length ≤ s
def Gz (s : Nat) : Nat → PyData → Prop
  | 0, d => match d with
    | .none => True
    | .bool _ => True
    | .int i => i.natAbs < 10 ^ s
    | .str x => okS s x
    | _ => False
  | n + 1, d => match d with
    | .none => True
    | .bool _ => True
    | .int i => i.natAbs < 10 ^ s
    | .str x => okS s x
    | .list xs => xs.length ≤ s ∧ ∀ x ∈ xs, Gz s n x
    | .tuple xs => xs.length ≤ s ∧ ∀ x ∈ xs, Gz s n x
    | .dict _ => False
theorem gz_str {s n : Nat} {x : Str} : Gz s n (.str x) ↔ okS s x := by
  cases n <;> exact Iff.rfl
theorem gz_int {s n : Nat} {i : Int} : Gz s n (.int i) ↔ i.natAbs < 10 ^ s := by
  cases n <;> exact Iff.rfl
theorem gz_bool {s n : Nat} {b : Bool} : Gz s n (.bool b) := by
  cases n <;> trivial
theorem gz_none {s n : Nat} : Gz s n .none := by
  cases n <;> trivial
theorem gz_tup {s n : Nat} {xs : List PyData} (h : Gz s n (.tuple xs)) : xs.length ≤ s ∧ ∃ m, n = m + 1 ∧ ∀ x ∈ xs, Gz s m x := by
  cases n with
  | zero => exact h.elim
  | succ n => exact ⟨h.1, n, rfl, h.2⟩
theorem gz_gd {s : Nat} (hs : s ≤ 5000) : ∀ {n : Nat} {d : PyData}, Gz s n d → Gd n d
  | 0, .none, h => h
  | 0, .bool _, h => h
  | 0, .int _, h => trivial
  | 0, .str _, h => ⟨h.1, Nat.le_trans h.2 hs⟩
  | n + 1, .none, h => h
  | n + 1, .bool _, h => h
  | n + 1, .int _, h => trivial
  | n + 1, .str _, h => ⟨h.1, Nat.le_trans h.2 hs⟩
  | n + 1, .list xs, h => ⟨Nat.le_trans h.1 hs, fun x hx => gz_gd hs (h.2 x hx)⟩
  | n + 1, .tuple xs, h => ⟨Nat.le_trans h.1 hs, fun x hx => gz_gd hs (h.2 x hx)⟩
theorem gz_up {s t : Nat} (hs : s ≤ t) : ∀ {n m : Nat} {d : PyData}, n ≤ m → Gz s n d → Gz t m d
  | n, m, .none, _, h => gz_none
  | n, m, .bool _, _, h => gz_bool
  | n, m, .int _, _, h => gz_int.mpr (Nat.lt_of_lt_of_le (gz_int.mp h) (Nat.pow_le_pow_right (by decide) hs))
  | n, m, .str _, _, h => gz_str.mpr ⟨(gz_str.mp h).1, Nat.le_trans (gz_str.mp h).2 hs⟩
  | 0, m, .list _, _, h => h.elim
  | 0, m, .tuple _, _, h => h.elim
  | 0, m, .dict _, _, h => h.elim
  | n + 1, m, .dict _, _, h => h.elim
  | n + 1, m + 1, .list xs, hm, h => ⟨Nat.le_trans h.1 hs, fun x hx => gz_up hs (Nat.le_of_succ_le_succ hm) (h.2 x hx)⟩
  | n + 1, m + 1, .tuple xs, hm, h => ⟨Nat.le_trans h.1 hs, fun x hx => gz_up hs (Nat.le_of_succ_le_succ hm) (h.2 x hx)⟩
theorem sqt_off {K : PySem.W.Frag} {H : Hp} {a d p : Addr} {xs : List V} (h : Hnd H a d) (s : SqT K H p xs) : SqT K (off a H) p xs := by
  obtain ⟨ds, i, h1, _⟩ := h
  rcases s with (s | ⟨o, s⟩) | s
  · refine .inl (.inl ?_)
    rw [off_ne fun e => ?_]
    · exact s
    · rw [e, h1] at s
      cases s
  · refine .inl (.inr ⟨o, ?_⟩)
    rw [off_ne fun e => ?_]
    · exact s
    · rw [e, h1] at s
      cases s
  · exact .inr s
theorem sqt_on {K : PySem.W.Frag} {H : Hp} {a p : Addr} {xs : List V} (s : SqT K (off a H) p xs) : SqT K H p xs := same_sqt (off_same a H) s
theorem sql_on {K : PySem.W.Frag} {H : Hp} {a p : Addr} {xs : List V} (s : SqL K (off a H) p xs) : SqL K H p xs := (off_same a H).seq s
/-- a value of data of a size, beside the hand -/
def Ok (K : PySem.W.Frag) (a : Addr) (H : Hp) (s n : Nat) (v : V) : Prop := ∃ D, Dp K (off a H) v D ∧ Gz s n D
theorem Ok.same {K : PySem.W.Frag} {a : Addr} {H H' : Hp} {s n : Nat} {v : V} (h : Ok K a H s n v) (e : Same (off a H) (off a H')) : Ok K a H' s n v := by
  obtain ⟨D, h1, h2⟩ := h
  exact ⟨D, dp_same e D h1, h2⟩
theorem Ok.keep {K : PySem.W.Frag} {a : Addr} {H H' : Hp} {s n : Nat} {v : V} (h : Ok K a H s n v) (e : Keep a H H') : Ok K a H' s n v := h.same e.off
theorem Ok.up {K : PySem.W.Frag} {a : Addr} {H : Hp} {s n t m : Nat} {v : V} (h : Ok K a H s n v) (hs : s ≤ t) (hm : n ≤ m) : Ok K a H t m v := by
  obtain ⟨D, h1, h2⟩ := h
  exact ⟨D, h1, gz_up hs hm h2⟩
theorem same_off {a : Addr} {H H' : Hp} (s : Same H H') : Same (off a H) (off a H') := (Keep.same (a := a) s).off
theorem cutV_all {xs : List V} {lo hi : Option Int} (h1 : HT.sIx xs.length 0 lo = 0) (h2 : HT.sIx xs.length xs.length hi = xs.length) : cutV xs lo hi = xs := by
  unfold cutV
  rw [h1, h2]
  simp
theorem sl_any {K : PySem.W.Frag} {H : Hp} {Q : VK} {lo hi : Option Int} {a : Addr} {xs : List V} (hT : SqT K H a xs) (q : ∀ p H', Same H H' → SqT K H' p (cutV xs lo hi) → Q (.ref p) H') : rSlA K (.ref a) lo hi H Q := by
  refine ⟨a, xs, rfl, hT, fun hw => ?_, fun hw p np => ?_⟩
  · exact q a H (Same.refl H) (by rw [cutV_all hw.1 hw.2]; exact hT)
  · exact q p _ (same_new np) (.inl (.inl upd_same))
theorem sl_anyN {K : PySem.W.Frag} {σ : L2.St} {H : Hp} {Q : VK} {l : Option Int} {a : Addr} {xs : List V} (hT : SqT K H a xs) (q : ∀ p H', Same H H' → SqT K H' p (cutV xs l none) → Q (.ref p) H') : tNoPart σ H fun u H3 => rSlA K (.ref a) l u H3 Q := sl_any hT q
theorem cat_any {K : PySem.W.Frag} {H : Hp} {Q : VK} {a b : Addr} {xs ys : List V} (ha : SqT K H a xs) (hb : SqT K H b ys) (hz : xs.length + ys.length ≤ sizeLine) (q : ∀ p H', Same H H' → SqT K H' p (xs ++ ys) → Q (.ref p) H') : rCatA K (.ref a) (.ref b) H Q := by
  refine ⟨a, b, xs, ys, rfl, rfl, ha, hb, hz, fun e => ?_, fun e1 e2 => ?_, fun e1 e2 p np => ?_⟩
  · subst e
    exact q b H (Same.refl H) hb
  · subst e2
    exact q a H (Same.refl H) (by rw [List.append_nil]; exact ha)
  · exact q p _ (same_new np) (.inl (.inl upd_same))
theorem dps_drop {K : PySem.W.Frag} {H : Hp} : ∀ (i : Nat) {vs : List V} {ds : List PyData}, DpAll K H vs ds → DpAll K H (vs.drop i) (ds.drop i)
  | 0, _, _, h => h
  | i + 1, _, _, .nil => .nil
  | i + 1, _, _, .cons _ t => dps_drop i t
theorem dps_take {K : PySem.W.Frag} {H : Hp} : ∀ (i : Nat) {vs : List V} {ds : List PyData}, DpAll K H vs ds → DpAll K H (vs.take i) (ds.take i)
  | 0, _, _, h => .nil
  | i + 1, _, _, .nil => .nil
  | i + 1, _, _, .cons h t => .cons h (dps_take i t)
theorem dps_app {K : PySem.W.Frag} {H : Hp} : ∀ {vs ws : List V} {ds es : List PyData}, DpAll K H vs ds → DpAll K H ws es → DpAll K H (vs ++ ws) (ds ++ es)
  | _, _, _, _, .nil, h => h
  | _, _, _, _, .cons h t, h' => .cons h (dps_app t h')
/-- the values of a row, all of a size -/
def Oks (K : PySem.W.Frag) (a : Addr) (H : Hp) (s n : Nat) (vs : List V) : Prop := ∃ ds, DpAll K (off a H) vs ds ∧ ∀ d ∈ ds, Gz s n d
theorem Oks.keep {K : PySem.W.Frag} {a : Addr} {H H' : Hp} {s n : Nat} {vs : List V} (h : Oks K a H s n vs) (e : Keep a H H') : Oks K a H' s n vs := by
  obtain ⟨D, h1, h2⟩ := h
  exact ⟨D, dps_same e.off D h1, h2⟩
theorem Oks.up {K : PySem.W.Frag} {a : Addr} {H : Hp} {s n t m : Nat} {vs : List V} (h : Oks K a H s n vs) (hs : s ≤ t) (hm : n ≤ m) : Oks K a H t m vs := by
  obtain ⟨D, h1, h2⟩ := h
  exact ⟨D, h1, fun d hd => gz_up hs hm (h2 d hd)⟩
theorem Oks.app {K : PySem.W.Frag} {a : Addr} {H : Hp} {s n : Nat} {vs ws : List V} (h : Oks K a H s n vs) (h' : Oks K a H s n ws) : Oks K a H s n (vs ++ ws) := by
  obtain ⟨D, h1, h2⟩ := h
  obtain ⟨E, h3, h4⟩ := h'
  refine ⟨D ++ E, dps_app h1 h3, fun d hd => ?_⟩
  rcases List.mem_append.mp hd with z | z
  · exact h2 d z
  · exact h4 d z
theorem Oks.cut {K : PySem.W.Frag} {a : Addr} {H : Hp} {s n : Nat} {vs : List V} (lo hi : Option Int) (h : Oks K a H s n vs) : Oks K a H s n (cutV vs lo hi) := by
  obtain ⟨D, h1, h2⟩ := h
  exact ⟨(D.drop _).take _, dps_take _ (dps_drop _ h1), fun d hd => h2 d (List.mem_of_mem_drop (List.mem_of_mem_take hd))⟩
theorem Oks.one {K : PySem.W.Frag} {a : Addr} {H : Hp} {s n : Nat} {v : V} (h : Ok K a H s n v) : Oks K a H s n [v] := by
  obtain ⟨D, h1, h2⟩ := h
  refine ⟨[D], .cons h1 .nil, fun d hd => ?_⟩
  rw [List.mem_singleton.mp hd]
  exact h2
theorem Oks.get {K : PySem.W.Frag} {a : Addr} {H : Hp} {s n i : Nat} {v : V} {vs : List V} (h : Oks K a H s n vs) (e : vs[i]? = some v) : Ok K a H s n v := by
  obtain ⟨D, h1, h2⟩ := h
  obtain ⟨d, hd, h3⟩ := dp_all_get h1 e
  exact ⟨d, h3, h2 d (List.mem_of_getElem? hd)⟩
theorem Ok.tup {K : PySem.W.Frag} {a d p : Addr} {H : Hp} {s n : Nat} {vs : List V} (hh : Hnd H a d) (hT : SqT K H p vs) (h : Oks K a H s n vs) (hl : vs.length ≤ s) : Ok K a H s (n + 1) (.ref p) := by
  obtain ⟨D, h1, h2⟩ := h
  exact ⟨.tuple D, .tup (sqt_off hh hT) h1, by rw [← dp_all_len h1]; exact hl, h2⟩
theorem Ok.lst {K : PySem.W.Frag} {a p : Addr} {H : Hp} {s n : Nat} {vs : List V} (pa : p ≠ a) (hL : H p = some (.lst vs)) (h : Oks K a H s n vs) (hl : vs.length ≤ s) : Ok K a H s (n + 1) (.ref p) := by
  obtain ⟨D, h1, h2⟩ := h
  exact ⟨.list D, .lst (.inl (.inl (by rw [off_ne pa]; exact hL))) h1, by rw [← dp_all_len h1]; exact hl, h2⟩
theorem Ok.str {K : PySem.W.Frag} {a : Addr} {H : Hp} {s n : Nat} {x : Str} (h : okS s x) : Ok K a H s n (.str x) := ⟨.str x, .str x, gz_str.mpr h⟩
theorem Ok.int {K : PySem.W.Frag} {a : Addr} {H : Hp} {s n : Nat} {i : Int} (h : i.natAbs < 10 ^ s) : Ok K a H s n (.int i) := ⟨.int i, .int i, gz_int.mpr h⟩
theorem Ok.bl {K : PySem.W.Frag} {a : Addr} {H : Hp} {s n : Nat} {b : Bool} : Ok K a H s n (.bl b) := ⟨.bool b, .bl b, gz_bool⟩
theorem Ok.non {K : PySem.W.Frag} {a : Addr} {H : Hp} {s n : Nat} : Ok K a H s n .non := ⟨.none, .non, gz_none⟩
/-! ### signs -/
theorem strOk_iff {x : Str} : PySem.PyData.strOk x = true ↔ ∀ c ∈ x.cps.toList, c < 1114112 := by
  unfold PySem.PyData.strOk
  rw [← Array.all_toList, List.all_eq_true]
  constructor
  · intro h c hc
    exact of_decide_eq_true (h c hc)
  · intro h c hc
    exact decide_eq_true (h c hc)
theorem strOk_app {x y : Str} (hx : PySem.PyData.strOk x = true) (hy : PySem.PyData.strOk y = true) : PySem.PyData.strOk (x ++ y) = true := by
  rw [strOk_iff] at hx hy ⊢
  intro c hc
  have e : (x ++ y).cps.toList = x.cps.toList ++ y.cps.toList := by
    show (x.cps ++ y.cps).toList = _
    simp
  rw [e] at hc
  rcases List.mem_append.mp hc with z | z
  · exact hx c z
  · exact hy c z
theorem strOk_cut {x : Str} {lo hi : Option Int} (hx : PySem.PyData.strOk x = true) : PySem.PyData.strOk (cutS x lo hi) = true := by
  rw [strOk_iff] at hx ⊢
  intro c hc
  exact hx c (List.mem_of_mem_drop (List.mem_of_mem_take hc))
theorem str_app_len (x y : Str) : (x ++ y).length = x.length + y.length := by
  show (x.cps ++ y.cps).size = _
  rw [Array.size_append]
  rfl
theorem cutS_len {x : Str} {lo hi : Option Int} : (cutS x lo hi).length = min (HT.sIx x.length x.length hi - HT.sIx x.length 0 lo) (x.length - HT.sIx x.length 0 lo) := by
  show (List.toArray _).size = _
  rw [List.size_toArray, List.length_take, List.length_drop]
  rfl
theorem cutV_len {x : List V} {lo hi : Option Int} : (cutV x lo hi).length = min (HT.sIx x.length x.length hi - HT.sIx x.length 0 lo) (x.length - HT.sIx x.length 0 lo) := by
  unfold cutV
  rw [List.length_take, List.length_drop]
theorem okS_int {s : Nat} {i : Int} (h : i.natAbs < 10 ^ s) (hs : 0 < s) : okS (s + 1) (Str.ofString (toString i)) := by
  refine ⟨?_, ?_⟩
  · rw [strOk_iff, Str.ofString_eq_toList]
    intro c hc
    obtain ⟨k, _, e⟩ := List.mem_map.mp hc
    rw [← e]
    have := k.valid
    rcases this with h | ⟨_, h⟩
    · show k.val.toNat < _
      have h' : k.val.toNat < 55296 := h
      omega
    · exact h
  · rw [PySem.ofString_length]
    exact int_text_length_le10 hs h
theorem atI_mem {xs : List V} {i : Int} (h0 : 0 ≤ i) (h1 : i < (xs.length : Int)) : ∃ x, atI xs i = some x ∧ x ∈ xs := by
  obtain ⟨k, rfl⟩ : ∃ k : Nat, i = (k : Int) := ⟨i.toNat, by omega⟩
  have hk : k < xs.length := by omega
  exact ⟨xs[k], atI_nat (List.getElem?_eq_getElem hk), List.getElem_mem hk⟩
theorem okS_mono {s t : Nat} {x : Str} (h : okS s x) (e : s ≤ t) : okS t x := ⟨h.1, Nat.le_trans h.2 e⟩
theorem okS_app {s t : Nat} {x y : Str} (hx : okS s x) (hy : okS t y) : okS (s + t) (x ++ y) := ⟨strOk_app hx.1 hy.1, by
  rw [str_app_len]
  have h1 := hx.2
  have h2 := hy.2
  omega⟩
theorem sIx_n (n d k : Nat) : HT.sIx n d (some (k : Int)) = min k n := HT.sIx_nat n d k
theorem okS_pre {s k : Nat} {x : Str} (hx : okS s x) (hk : k ≤ x.length) : okS k (cutS x none (some (k : Int))) := ⟨strOk_cut hx.1, by
  rw [cutS_len, sIx_n, HT.sIx_none]
  omega⟩
theorem okS_suf {s k : Nat} {x : Str} (hx : okS s x) : okS (x.length - k) (cutS x (some (k : Int)) none) := ⟨strOk_cut hx.1, by
  rw [cutS_len, sIx_n, HT.sIx_none]
  omega⟩
theorem Oks.nil {K : PySem.W.Frag} {a : Addr} {H : Hp} {s n : Nat} : Oks K a H s n [] := ⟨[], .nil, fun d hd => nomatch hd⟩
theorem Oks.cons {K : PySem.W.Frag} {a : Addr} {H : Hp} {s n : Nat} {v : V} {vs : List V} (h : Ok K a H s n v) (h' : Oks K a H s n vs) : Oks K a H s n (v :: vs) := (Oks.one h).app h'
theorem Oks.rep {K : PySem.W.Frag} {a : Addr} {H : Hp} {s n : Nat} {v : V} (h : Ok K a H s n v) : ∀ k : Nat, Oks K a H s n (List.replicate k v)
  | 0 => .nil
  | k + 1 => by
    rw [List.replicate_succ]
    exact .cons h (Oks.rep h k)
theorem Ok.small {K : PySem.W.Frag} {a : Addr} {H : Hp} {s n : Nat} {i : Int} (h : i.natAbs < 100) (hs : 2 ≤ s) : Ok K a H s n (.int i) := .int (Nat.lt_of_lt_of_le (show i.natAbs < 10 ^ 2 from h) (Nat.pow_le_pow_right (by decide) hs))
theorem shl_one (n : Nat) : (1 : Int) * 2 ^ ((n : Nat) : Int).toNat = ((2 ^ n : Nat) : Int) := by
  rw [Int.one_mul, Int.toNat_natCast, Int.natCast_pow]
  rfl
theorem two_pow_le {n b : Nat} (h : n ≤ b) : 2 ^ n ≤ 2 ^ b := Nat.pow_le_pow_right (by decide) h
theorem at0 {v : V} {ws : List V} : atI (v :: ws) 0 = some v := atI_nat (j := 0) rfl
theorem all4 {P : PyData → Prop} {a b c d : PyData} (h1 : P a) (h2 : P b) (h3 : P c) (h4 : P d) : ∀ x ∈ [a, b, c, d], P x := by
  intro x hx
  rcases List.mem_cons.mp hx with e | hx
  · exact e ▸ h1
  rcases List.mem_cons.mp hx with e | hx
  · exact e ▸ h2
  rcases List.mem_cons.mp hx with e | hx
  · exact e ▸ h3
  rcases List.mem_cons.mp hx with e | hx
  · exact e ▸ h4
  exact nomatch hx
theorem off_upd {R : Addr} {H : Hp} {o : HO} (a : Addr) : off R (off a (upd H R o)) = off R (off a H) := by
  funext b
  unfold off
  by_cases h : b = R
  · rw [if_pos h, if_pos h]
  · rw [if_neg h, if_neg h]
    by_cases h' : b = a
    · rw [if_pos h', if_pos h']
    · rw [if_neg h', if_neg h', upd_ne h]
theorem off_mono {R : Addr} {H H' : Hp} (s : Same H H') : Same (off R H) (off R H') := fun b o e => by
  unfold off at e ⊢
  by_cases h : b = R
  · rw [if_pos h] at e
    cases e
  · rw [if_neg h] at e ⊢
    exact s b o e

theorem dp_sbs {K : PySem.W.Frag} {H : Hp} : ∀ {vs : List V} {rows : List (List Bool)}, DpAll K H vs (rows.map fun r => PyData.str (sb r)) → vs = rows.map fun r => V.str (sb r)
  | _, [], .nil => rfl
  | _, _ :: _, .cons (.str _) t => by rw [List.map_cons, dp_sbs t]
/-! ### generators, as the document tells them -/
structure Wf (n m : Nat) (rows : List (List Bool)) : Prop where
  n1 : 1 ≤ n
  n2 : n ≤ 10
  m1 : 1 ≤ m
  m2 : m ≤ 40
  len : rows.length = 2 ^ n
  row : ∀ r ∈ rows, r.length = m
theorem bitRow_sb {m : Nat} {r : List Bool} (h : r.length = m) : bitRow (m : Int) (.str (sb r)) = true := by
  show (decide (((sb r).length : Int) = (m : Int)) && (sb r).cps.toList.all _) = true
  rw [sb_len, h, decide_eq_true rfl, Bool.true_and, List.all_eq_true]
  intro c hc
  have e : (sb r).cps.toList = r.map cB := by
    show ((r.map cB).toArray).toList = _
    simp
  rw [e] at hc
  obtain ⟨b, _, rfl⟩ := List.mem_map.mp hc
  cases b <;> rfl
theorem sb_bitRow {m : Int} {d : PyData} (h : bitRow m d = true) : ∃ r : List Bool, d = .str (sb r) ∧ (r.length : Int) = m := by
  cases d with
  | str x =>
    have h' : (decide ((x.length : Int) = m) && x.cps.toList.all (fun c => c == 48 || c == 49)) = true := h
    obtain ⟨h1, h2⟩ := Bool.and_eq_true_iff.mp h'
    have key : ∀ l : List Nat, l.all (fun c => c == 48 || c == 49) = true → ∃ r : List Bool, l = r.map cB := by
      intro l
      induction l with
      | nil => exact fun _ => ⟨[], rfl⟩
      | cons c l ih =>
        intro hl
        rw [List.all_cons, Bool.and_eq_true] at hl
        obtain ⟨r, e⟩ := ih hl.2
        rcases Bool.or_eq_true_iff.mp hl.1 with z | z
        · exact ⟨false :: r, by rw [e, beq_iff_eq.mp z]; rfl⟩
        · exact ⟨true :: r, by rw [e, beq_iff_eq.mp z]; rfl⟩
    obtain ⟨r, e⟩ := key _ h2
    have ex : x = sb r := TL.ext_tl (by
      show x.cps.toList = ((r.map cB).toArray).toList
      rw [e])
    refine ⟨r, by rw [ex], ?_⟩
    have := of_decide_eq_true h1
    rw [ex, sb_len] at this
    exact this
  | _ => cases h
theorem rows_ok {many m : Nat} {rows : List (List Bool)} (h1 : rows.length = many) (h2 : ∀ r ∈ rows, r.length = m) : rowsOk (rowsD rows) (many : Int) (m : Int) = true := by
  show (decide (((rows.map fun r => PyData.str (sb r)).length : Int) = (many : Int)) && (rows.map fun r => PyData.str (sb r)).all (bitRow (m : Int))) = true
  rw [List.length_map, h1, decide_eq_true rfl, Bool.true_and, List.all_eq_true]
  intro x hx
  obtain ⟨r, hr, rfl⟩ := List.mem_map.mp hx
  exact bitRow_sb (h2 r hr)
theorem ok_rowsD {many m : Int} {d : PyData} (h : rowsOk d many m = true) : ∃ rows : List (List Bool), d = rowsD rows ∧ (rows.length : Int) = many ∧ ∀ r ∈ rows, (r.length : Int) = m := by
  cases d with
  | tuple xs =>
    have h' : (decide ((xs.length : Int) = many) && xs.all (bitRow m)) = true := h
    obtain ⟨h1, h2⟩ := Bool.and_eq_true_iff.mp h'
    have key : ∀ l : List PyData, l.all (bitRow m) = true → ∃ rows : List (List Bool), l = rows.map (fun r => .str (sb r)) ∧ ∀ r ∈ rows, (r.length : Int) = m := by
      intro l
      induction l with
      | nil => exact fun _ => ⟨[], rfl, fun r hr => nomatch hr⟩
      | cons c l ih =>
        intro hl
        rw [List.all_cons, Bool.and_eq_true] at hl
        obtain ⟨rows, e, hr⟩ := ih hl.2
        obtain ⟨r, er, hl'⟩ := sb_bitRow hl.1
        refine ⟨r :: rows, by rw [e, er]; rfl, fun x hx => ?_⟩
        rcases List.mem_cons.mp hx with z | z
        · rw [z]
          exact hl'
        · exact hr x z
    obtain ⟨rows, e, hr⟩ := key _ h2
    refine ⟨rows, by rw [e]; rfl, ?_, hr⟩
    have := of_decide_eq_true h1
    rw [e, List.length_map] at this
    exact this
  | _ => cases h
theorem wf_gen {n m : Nat} {rows : List (List Bool)} (h : Wf n m rows) : genOk (tabD n m rows) = true := by
  have e1 : whole (.int (n : Int)) 1 10 = true := by
    show (decide _ && decide _) = true
    rw [decide_eq_true (show (1 : Int) ≤ (n : Int) by have := h.n1; omega), decide_eq_true (show (n : Int) ≤ 10 by have := h.n2; omega)]
    rfl
  have e2 : whole (.int (m : Int)) 1 40 = true := by
    show (decide _ && decide _) = true
    rw [decide_eq_true (show (1 : Int) ≤ (m : Int) by have := h.m1; omega), decide_eq_true (show (m : Int) ≤ 40 by have := h.m2; omega)]
    rfl
  have e3 : genRows (.int (n : Int)) (.int (m : Int)) (rowsD rows) = true := by
    show rowsOk (rowsD rows) (1 * 2 ^ (n : Int).toNat) (m : Int) = true
    rw [shl_one]
    exact rows_ok h.len h.row
  show genOk (.tuple [.str "generator", .int (n : Int), .int (m : Int), rowsD rows]) = true
  rw [gen_eq, e1, e2, e3]
  decide +kernel
theorem named_iff {x : Str} {d : PyData} (h : named x d = true) : d = .str x := by
  cases d with
  | str y =>
    have h' : (y == x) = true := h
    rw [beq_iff_eq.mp h']
  | _ => cases h
theorem gen_wf {d : PyData} (h : genOk d = true) : ∃ (n m : Nat) (rows : List (List Bool)), d = tabD n m rows ∧ Wf n m rows := by
  unfold genOk at h
  split at h
  · rename_i k n m r
    obtain ⟨g3, h4⟩ := Bool.and_eq_true_iff.mp h
    obtain ⟨g2, h3⟩ := Bool.and_eq_true_iff.mp g3
    obtain ⟨h1, h2⟩ := Bool.and_eq_true_iff.mp g2
    obtain ⟨n, rfl, n1, n2⟩ := whole_int h2
    obtain ⟨m, rfl, m1, m2⟩ := whole_int h3
    obtain ⟨n, rfl⟩ : ∃ k : Nat, n = (k : Int) := ⟨n.toNat, by omega⟩
    obtain ⟨m, rfl⟩ : ∃ k : Nat, m = (k : Int) := ⟨m.toNat, by omega⟩
    have h4' : rowsOk r (1 * 2 ^ (n : Int).toNat) (m : Int) = true := h4
    rw [shl_one] at h4'
    obtain ⟨rows, rfl, hl, hr⟩ := ok_rowsD h4'
    refine ⟨n, m, rows, by rw [named_iff h1]; rfl, by omega, by omega, by omega, by omega, by omega, fun r hr' => by have := hr r hr'; omega⟩
  · cases h
theorem fun_no_gen {d : PyData} (h : funOk d = true) : genOk d = false ∧ ∃ ds, d = .tuple (.str "function" :: ds) := by
  unfold funOk at h
  split at h
  · rename_i k n l m t
    have h1 : named "function" k = true := by
      obtain ⟨h, _⟩ := Bool.and_eq_true_iff.mp h
      obtain ⟨h, _⟩ := Bool.and_eq_true_iff.mp h
      obtain ⟨h, _⟩ := Bool.and_eq_true_iff.mp h
      obtain ⟨h, _⟩ := Bool.and_eq_true_iff.mp h
      exact (Bool.and_eq_true_iff.mp h).1
    have e := named_iff h1
    subst e
    exact ⟨gen_no (by show ¬ 5 = 4; decide), _, rfl⟩
  · cases h
theorem wf_block {n m : Nat} {rows : List (List Bool)} (h : Wf n m rows) : blockOk (tabD n m rows) = true := by
  unfold blockOk
  rw [wf_gen h]
  rfl
/-- data of tuples, texts and numbers alone -/
def Pl : Nat → PyData → Prop
  | 0, d => match d with
    | .int _ => True
    | .str x => okT x
    | _ => False
  | n + 1, d => match d with
    | .int _ => True
    | .str x => okT x
    | .tuple xs => xs.length ≤ 5000 ∧ ∀ x ∈ xs, Pl n x
    | _ => False
theorem pl_str {n : Nat} {x : Str} : Pl n (.str x) ↔ okT x := by cases n <;> exact Iff.rfl
theorem pl_int {n : Nat} {i : Int} : Pl n (.int i) := by cases n <;> trivial
theorem pl_tup {n : Nat} {xs : List PyData} (h : Pl n (.tuple xs)) : xs.length ≤ 5000 ∧ ∃ m, n = m + 1 ∧ ∀ x ∈ xs, Pl m x := by
  cases n with
  | zero => exact h.elim
  | succ n => exact ⟨h.1, n, rfl, h.2⟩
theorem pl_gd : ∀ {n : Nat} {d : PyData}, Pl n d → Gd n d
  | 0, .int _, _ => trivial
  | 0, .str _, h => h
  | n + 1, .int _, _ => trivial
  | n + 1, .str _, h => h
  | n + 1, .tuple xs, h => ⟨h.1, fun x hx => pl_gd (h.2 x hx)⟩
theorem dp_offs {K : PySem.W.Frag} {a d : Addr} {H : Hp} (hh : Hnd H a d) : ∀ {n : Nat} {D : PyData} {v : V}, Pl n D → Dp K H v D → Dp K (off a H) v D
  | 0, .int _, _, _, .int i => .int i
  | 0, .str _, _, _, .str x => .str x
  | n + 1, .int _, _, _, .int i => .int i
  | n + 1, .str _, _, _, .str x => .str x
  | n + 1, .tuple xs, _, h, .tup hT hA => .tup (sqt_off hh hT) (go h.2 hA)
where go {n : Nat} : ∀ {xs : List PyData} {vs : List V}, (∀ x ∈ xs, Pl n x) → DpAll K H vs xs → DpAll K (off a H) vs xs
  | [], _, _, .nil => .nil
  | x :: xs, _, h, .cons hv t => .cons (dp_offs hh (h x List.mem_cons_self) hv) (go (fun y hy => h y (List.mem_cons_of_mem _ hy)) t)
theorem okT_sb {r : List Bool} (h : r.length ≤ 5000) : okT (sb r) := by
  refine ⟨?_, by rw [sb_len]; exact h⟩
  unfold PySem.PyData.strOk
  rw [← Array.all_toList, List.all_eq_true]
  intro c hc
  have e : (sb r).cps.toList = r.map cB := by
    show ((r.map cB).toArray).toList = _
    simp
  rw [e] at hc
  obtain ⟨b, _, rfl⟩ := List.mem_map.mp hc
  cases b <;> decide
theorem pl_tab {n m : Nat} {rows : List (List Bool)} (h1 : rows.length ≤ 5000) (h2 : ∀ r ∈ rows, r.length ≤ 5000) : Pl 2 (tabD n m rows) := by
  refine ⟨by show 4 ≤ 5000; decide, fun x hx => ?_⟩
  rcases List.mem_cons.mp hx with e | hx
  · rw [e]
    exact pl_str.mpr ⟨by decide +kernel, by decide +kernel⟩
  rcases List.mem_cons.mp hx with e | hx
  · rw [e]
    exact pl_int
  rcases List.mem_cons.mp hx with e | hx
  · rw [e]
    exact pl_int
  rcases List.mem_cons.mp hx with e | hx
  · rw [e]
    refine ⟨by rw [List.length_map]; exact h1, fun y hy => ?_⟩
    obtain ⟨r, hr, rfl⟩ := List.mem_map.mp hy
    exact pl_str.mpr (okT_sb (h2 r hr))
  exact nomatch hx
theorem Wf.pl {n m : Nat} {rows : List (List Bool)} (h : Wf n m rows) : Pl 2 (tabD n m rows) := by
  have h2 := two_pow_le (b := 10) h.n2
  have h1 := h.len
  exact pl_tab (by omega) fun r hr => by
    have := h.row r hr
    have := h.m2
    omega
/-- where a generator stands -/
theorem dp_tab {K : PySem.W.Frag} {H : Hp} {v : V} {n m : Nat} {rows : List (List Bool)} (h : Dp K H v (tabD n m rows)) : ∃ a r, v = .ref a ∧ SqT K H a [.str "generator", .int (n : Int), .int (m : Int), .ref r] ∧ SqT K H r (rows.map fun r => V.str (sb r)) := by
  cases h with
  | @tup a ws _ hT hA =>
    cases hA with
    | cons h0 hA =>
      cases hA with
      | cons h1 hA =>
        cases hA with
        | cons h2 hA =>
          cases hA with
          | cons h3 hA =>
            cases hA
            cases h0
            cases h1
            cases h2
            cases h3 with
            | @tup r us _ hR hU => exact ⟨a, r, rfl, hT, by rw [← dp_sbs hU]; exact hR⟩
theorem tab_dp {K : PySem.W.Frag} {H : Hp} {a r : Addr} {n m : Nat} {rows : List (List Bool)} (h1 : SqT K H a [.str "generator", .int (n : Int), .int (m : Int), .ref r]) (h2 : SqT K H r (rows.map fun r => V.str (sb r))) : Dp K H (.ref a) (tabD n m rows) :=
  .tup h1 (.cons (.str _) (.cons (.int _) (.cons (.int _) (.cons (.tup h2 (dp_bits rows)) .nil))))

/-! ### data compared with a text or an empty tuple, of any depth -/
def rEqF (K : PySem.W.Frag) : R2 := fun x y H Q => ∃ d e, Dp K H x d ∧ Dp K H y e ∧ d.canLay0 = true ∧ e.canLay0 = true ∧ e.depth ≤ 8 ∧ Q (.bl (PyData.eqv d e)) H
def rNeF (K : PySem.W.Frag) : R2 := fun x y H Q => ∃ d e, Dp K H x d ∧ Dp K H y e ∧ d.canLay0 = true ∧ e.canLay0 = true ∧ e.depth ≤ 8 ∧ Q (.bl (!PyData.eqv d e)) H
/-- a dict that the module's top has written: its keys, and what each holds -/
inductive KeysAre (R : Str → Value → Prop) : List DictEntry → List Str → Prop where
  | nil : KeysAre R [] []
  | cons {e : DictEntry} {k : Str} {t : Tok} {es : List DictEntry} {ks : List Str} (h : e.key = .str k t) (r : R k e.val) (q : KeysAre R es ks) : KeysAre R (e :: es) (k :: ks)
/-- the values of a dict: what is told of each can be said of a value of the proof's own -/
def HasV (R : Str → Value → Prop) : Prop := ∀ z u, R z u → ∃ v, RelV v u
structure DictK (K : PySem.W.Frag) (w : World) (d : Addr) (ks : List Str) (R : Str → Value → Prop) : Prop where
  ex : ∃ es n, KDict K w d es n ∧ KeysAre R es.toList ks
  has : HasV R
theorem keys_isStr {k z : Str} {t : Tok} : (Value.str k t).isStr z = decide (k = z) := by
  show (k == z) = _
  by_cases h : k = z
  · rw [decide_eq_true h, h]
    exact beq_self_eq_true z
  · rw [decide_eq_false h]
    exact beq_eq_false_iff_ne.mpr h
theorem keys_no {R : Str → Value → Prop} {z : Str} : ∀ {es : List DictEntry} {ks : List Str}, KeysAre R es ks → z ∉ ks → es.find? (·.key.isStr z) = none ∧ es.any (·.refKey) = false
  | _, _, .nil, _ => ⟨rfl, rfl⟩
  | _, _, .cons (e := e) (k := k) h r q, hz => by
    obtain ⟨h1, h2⟩ := keys_no q fun m => hz (List.mem_cons_of_mem _ m)
    have hk : e.key.isStr z = false := by
      rw [h, keys_isStr]
      exact decide_eq_false fun m => hz (m ▸ List.mem_cons_self)
    have hr : e.refKey = false := by
      unfold DictEntry.refKey
      rw [h]
    exact ⟨by rw [List.find?_cons, hk]; exact h1, by rw [List.any_cons, hr, h2]; rfl⟩
theorem keys_yes {R : Str → Value → Prop} {z : Str} : ∀ {es : List DictEntry} {ks : List Str}, KeysAre R es ks → z ∈ ks → ∃ e, es.find? (·.key.isStr z) = some e ∧ R z e.val
  | _, _, .cons (e := e) (k := k) h r q, hz => by
    by_cases hk : k = z
    · refine ⟨e, ?_, hk ▸ r⟩
      rw [List.find?_cons, h, keys_isStr, decide_eq_true hk]
    · rcases List.mem_cons.mp hz with m | m
      · exact absurd m.symm hk
      · obtain ⟨e', h1, h2⟩ := keys_yes q m
        refine ⟨e', ?_, h2⟩
        rw [List.find?_cons, h, keys_isStr, decide_eq_false hk]
        exact h1
theorem nsIn_no {K : PySem.W.Frag} {w : World} {d : Addr} {es : Array DictEntry} {n : Nat} {R : Str → Value → Prop} {ks : List Str} {z : Str} (D : KDict K w d es n) (q : KeysAre R es.toList ks) (hz : z ∉ ks) : PySem.W.nsIn K d z = some none := by
  obtain ⟨h1, h2⟩ := keys_no q hz
  unfold PySem.W.nsIn
  rw [D.at_]
  dsimp only
  rw [h1]
  dsimp only
  rw [h2]
  rfl
theorem nsIn_yes {K : PySem.W.Frag} {w : World} {d : Addr} {es : Array DictEntry} {n : Nat} {R : Str → Value → Prop} {ks : List Str} {z : Str} (D : KDict K w d es n) (q : KeysAre R es.toList ks) (hz : z ∈ ks) : ∃ u, PySem.W.nsIn K d z = some (some u) ∧ R z u := by
  obtain ⟨e, h1, h2⟩ := keys_yes q hz
  refine ⟨e.val, ?_, h2⟩
  unfold PySem.W.nsIn
  rw [D.at_]
  dsimp only
  rw [h1]
def rInDk (d : Addr) (ks : List Str) : R2 := fun x y H Q => ∃ z : Str, x = .str z ∧ y = .ref d ∧ Q (.bl (decide (z ∈ ks))) H
def rIxDk (d : Addr) (ks : List Str) (R : Str → Value → Prop) : R2 := fun x y H Q => ∃ z : Str, x = .ref d ∧ y = .str z ∧ z ∈ ks ∧ ∀ v u, RelV v u → R z u → Q v H
section
variable {X : Cx}
theorem op_eqF (K : PySem.W.Frag) (hu : X.A.units + 64 < cLine) (h : X.K = K := by rfl) : OpR X (compareOp .Eq) (rEqF K) := by
  subst h
  intro pins s σ H x y v u Q I rx ry h
  obtain ⟨d, e, hd, he, sd, se, hdep, q⟩ := h
  obtain ⟨as, r1⟩ := Dp.reads I d x v hd rx
  obtain ⟨bs, r2⟩ := Dp.reads I e y u he ry
  exact SeqAt.compareEq_reads r1 r2 sd se (by have := Nat.min_le_right d.depth e.depth; omega) ⟨.bl _, H, I, rfl, q⟩
theorem op_neF (K : PySem.W.Frag) (hu : X.A.units + 64 < cLine) (h : X.K = K := by rfl) : OpR X (compareOp .NotEq) (rNeF K) := by
  subst h
  intro pins s σ H x y v u Q I rx ry h
  obtain ⟨d, e, hd, he, sd, se, hdep, q⟩ := h
  obtain ⟨as, r1⟩ := Dp.reads I d x v hd rx
  obtain ⟨bs, r2⟩ := Dp.reads I e y u he ry
  exact SeqAt.compareNe_reads r1 r2 sd se (by have := Nat.min_le_right d.depth e.depth; omega) ⟨.bl _, H, I, rfl, q⟩
theorem in_dk {d : Addr} {ks : List Str} {R : Str → Value → Prop} (D : DictK X.K X.w d ks R) : OpR X (compareOp .In) (rInDk d ks) := by
  obtain ⟨es, n, kd, ka⟩ := D.ex
  intro pins s σ H x y v u Q I rx ry h
  obtain ⟨z, rfl, rfl, q⟩ := h
  by_cases hz : z ∈ ks
  · obtain ⟨u', e, _⟩ := nsIn_yes kd ka hz
    rw [decide_eq_true hz] at q
    exact op_in_kd kd pins s σ H _ _ v u Q I rx ry ⟨z, some u', rfl, rfl, e, q⟩
  · rw [decide_eq_false hz] at q
    exact op_in_kd kd pins s σ H _ _ v u Q I rx ry ⟨z, none, rfl, rfl, nsIn_no kd ka hz, q⟩
theorem ix_dk {d : Addr} {ks : List Str} {R : Str → Value → Prop} (D : DictK X.K X.w d ks R) : IxR X (rIxDk d ks R) := by
  have hv := D.has
  obtain ⟨es, n, kd, ka⟩ := D.ex
  intro value slice pins s σ H x y v u Q I rx ry h hs
  obtain ⟨z, rfl, rfl, hz, q⟩ := h
  obtain ⟨u', e, r⟩ := nsIn_yes kd ka hz
  obtain ⟨v', rv⟩ := hv z u' r
  exact ix_kdict value slice pins s σ H _ _ v u Q I rx ry ⟨d, z, v', rfl, rfl, ⟨es, n, u', kd.at_, kd.lit, e, rv⟩, q v' u' rv r⟩ hs
/-- a local name that holds one of several defs -/
def tCallH (i : Nat) (R : Addr → Sp → Prop) (t : TA) : TE := fun σ H Q => ∃ f sp, σ[i]? = some (some (.ref f)) ∧ R f sp ∧ t σ H fun vs H1 => sp vs H1 Q (fun _ _ _ => False)
theorem pe_callH {k j i : Nat} {R : Addr → Sp → Prop} {x : Str} {p pos : Pos} {e : Expr} {es : List Expr} {t : TA} (A : ∀ f sp, R f sp → Held X.prog X.w X.K X.mg X.base k f sp) (hr : Room j X.A) (hk : k ≤ j) (hN : X.N[i]? = some x) (hv : Vis X.env.scope x) (ha : PA X (e :: es) t)
    (hdb : (x == ("__debug__" : Str)) = false := by decide) (hcd : (x == ("__classdict__" : Str)) = false := by decide)
    (he : starEach (e :: es) X.env = (false, eval e X.env) :: starEach es X.env := by rfl) (hpl : (backTo pos (starEach es X.env)).any (·.1) = false := by rfl) : PE X (.Call (.Name x p) (e :: es) [] pos) (tCallH i R t) :=
  ⟨fun pins s σ H Q I h => by
    obtain ⟨f, sp, h1, h2, h3⟩ := h
    exact (pe_callA (S := fun f' => if f' = f then some sp else none) (fun f' sp' q => by
      by_cases z : f' = f
      · rw [if_pos z] at q
        rw [z, ← Option.some.inj q]
        exact A f sp h2
      · rw [if_neg z] at q
        cases q) (hr.mono hk) hN hv ha hdb hcd he hpl).run pins s σ H Q I ⟨f, sp, h1, if_pos rfl, h3⟩⟩
end
theorem walk_zipT {K : PySem.W.Frag} {a b : Addr} {xs ys : List V} {n : Nat} (hx : xs.length = n) (hy : ys.length = n) : Walk (RZ.ItzT K a b) n (fun H => SqT K H a xs ∧ SqT K H b ys) (YPair (fun i => xs[i]?) (fun i => ys[i]?)) where
  goes := fun i _ hi q => ⟨xs, ys, xs[i]'(by omega), ys[i]'(by omega), q.1, q.2, List.getElem?_eq_getElem _, List.getElem?_eq_getElem _⟩
  stops := fun _ q => ⟨xs, ys, q.1, q.2, .inl (by omega)⟩
  yields := fun i H v H' _ q y => by
    obtain ⟨T, x, z, h1, h2, h3, h4, h5⟩ := y
    exact ⟨T, x, z, h1, h2, h3, h4 xs q.1, h5 ys q.2⟩
/-! ### facts of data -/
theorem gd_lay {n : Nat} {d : PyData} (h : Gd n d) : d.canLay0 = true := (gd_facts h).1
theorem named_str {x z : Str} : named x (.str z) = decide (z = x) := by
  show (PyData.eqv (.str z) (.str x)) = _
  simp only [PyData.eqv]
  by_cases h : z = x
  · rw [decide_eq_true h, h]
    exact beq_self_eq_true x
  · rw [decide_eq_false h]
    exact beq_eq_false_iff_ne.mpr h
theorem eqv_nil {xs : List PyData} : PyData.eqv (.tuple xs) (.tuple []) = xs.isEmpty := by
  cases xs <;> simp [PyData.eqv, PyData.eqvAll]
theorem str_lay (x : Str) (h : PySem.PyData.strOk x = true := by decide +kernel) : PyData.canLay0 (.str x) = true := by
  unfold PyData.canLay0
  exact h
theorem str_dep (x : Str) : PyData.depth (.str x) ≤ 8 := by
  unfold PyData.depth
  omega
theorem nil_lay : PyData.canLay0 (.tuple []) = true := by decide +kernel
theorem nil_dep : PyData.depth (.tuple []) ≤ 8 := by decide +kernel

/-! ### larger blocks -/
def rowV (rows : List (List Bool)) : List V := rows.map fun r => V.str (sb r)
def spAll (K : PySem.W.Frag) : Sp := fun vs H Q _ => ∃ n : Nat, vs = [.int (n : Int)] ∧ n ≤ 12 ∧ ∀ p H', H p = none → Same H H' → H' p = some (.lst (rowV ((List.range (2 ^ n)).map fun i => toB n i))) → Q (.ref p) H'
def spParts (K : PySem.W.Frag) (CB CS : Addr) : Sp := fun vs H Q E => ∃ (v : V) (D : PyData) (k : Nat), vs = [v] ∧ Dp K H v D ∧ Gd k D ∧ k ≤ 64 ∧
  ((blockOk D = false ∧ ∀ H', Same H H' → E (.ref CB) none H') ∨ (funOk D = true ∧ ∀ H', Same H H' → E (.ref CS) none H') ∨
    (∃ n m rows, D = tabD n m rows ∧ Wf n m rows ∧ ∀ p r H', Same H H' → SqT K H' p [.int (n : Int), .int (m : Int), .ref r] → SqT K H' r (rowV rows) → Q (.ref p) H'))
/-- signs from a state, so many, then the state -/
def putOut (rows : List (List Bool)) : Nat → List Bool → List Bool
  | 0, s => s
  | k + 1, s => (rows.getD (val s) []).drop ((rows.getD (val s) []).length - 1) ++ putOut rows k (rows.getD (val s) []).dropLast
def longR (n : Nat) (rows : List (List Bool)) (k : Nat) : List (List Bool) := (List.range (2 ^ n)).map fun i => putOut rows k (toB n i)
def spPut (K : PySem.W.Frag) : Sp := fun vs H Q _ => ∃ (r : Addr) (n k : Nat) (rows : List (List Bool)) (s : List Bool), vs = [.ref r, .str (sb s), .int (k : Int)] ∧ SqT K H r (rowV rows) ∧ Wf n (n + 1) rows ∧ s.length = n ∧ k ≤ 20 ∧ Q (.str (sb (putOut rows k s))) H
def LongBad (D : PyData) (k : Int) : Prop := funOk D = true ∨ ∃ n m rows, D = tabD n m rows ∧ Wf n m rows ∧ (m ≠ n + 1 ∨ whole (.int k) 1 20 = false)
def spLong (K : PySem.W.Frag) (CB CS : Addr) : Sp := fun vs H Q E => ∃ (v : V) (D : PyData) (d : Nat) (k : Int), vs = [v, .int k] ∧ Dp K H v D ∧ Gd d D ∧ d ≤ 64 ∧
  ((blockOk D = false ∧ ∀ H', Same H H' → E (.ref CB) none H') ∨ (LongBad D k ∧ ∀ H', Same H H' → E (.ref CS) none H') ∨
    (∃ (n j : Nat) (rows : List (List Bool)), D = tabD n (n + 1) rows ∧ k = (j : Int) ∧ Wf n (n + 1) rows ∧ 1 ≤ j ∧ j ≤ 20 ∧ ∀ v' H', Same H H' → Dp K H' v' (tabD n (n + j) (longR n rows j)) → Q v' H'))
def CutBad (D : PyData) (b : Int) : Prop := funOk D = true ∨ ∃ n m rows, D = tabD n m rows ∧ Wf n m rows ∧ whole (.int b) 1 (m : Int) = false
def spCut (K : PySem.W.Frag) (CB CS : Addr) : Sp := fun vs H Q E => ∃ (v : V) (D : PyData) (d : Nat) (b : Int), vs = [v, .int b] ∧ Dp K H v D ∧ Gd d D ∧ d ≤ 64 ∧
  ((blockOk D = false ∧ ∀ H', Same H H' → E (.ref CB) none H') ∨ (CutBad D b ∧ ∀ H', Same H H' → E (.ref CS) none H') ∨
    (∃ (n m j : Nat) (rows : List (List Bool)), D = tabD n m rows ∧ b = (j : Int) ∧ Wf n m rows ∧ 1 ≤ j ∧ j ≤ m ∧ ∀ v' H', Same H H' → Dp K H' v' (tabD n j (rows.map fun r => r.take j)) → Q v' H'))
def spSame (K : PySem.W.Frag) (j : Nat) : Sp := fun vs H Q _ => ∃ (v w : V) (d : PyData), vs = [v, w] ∧ Dp K H v d ∧ Dp K H w d ∧ Pl j d ∧ Q (.bl true) H
def spSameB (K : PySem.W.Frag) (j : Nat) : Sp := fun vs H Q E => 1 ≤ j ∧ spSame K (j - 1) vs H Q E
def spLawLong (K : PySem.W.Frag) : Sp := fun vs H Q _ => ∃ (v : V) (n j : Nat) (rows : List (List Bool)), vs = [v, .int (j : Int)] ∧ Dp K H v (tabD n (n + 1) rows) ∧ Wf n (n + 1) rows ∧ 1 ≤ j ∧ j ≤ 20 ∧ ∀ v' H', Same H H' → Dp K H' v' (tabD n (n + j) (longR n rows j)) → Q v' H'
theorem put_len {n : Nat} {rows : List (List Bool)} (h : Wf n (n + 1) rows) : ∀ (k : Nat) (s : List Bool), s.length = n → (putOut rows k s).length = n + k
  | 0, s, hs => hs
  | k + 1, s, hs => by
    have h1 := val_lt s
    rw [hs, ← h.len] at h1
    have hr : (rows.getD (val s) []).length = n + 1 := by
      rw [List.getD_eq_getElem?_getD, List.getElem?_eq_getElem h1]
      exact h.row _ (List.getElem_mem h1)
    show ((rows.getD (val s) []).drop ((rows.getD (val s) []).length - 1) ++ putOut rows k (rows.getD (val s) []).dropLast).length = _
    rw [List.length_append, put_len h k _ (by rw [List.length_dropLast, hr]; rfl), List.length_drop, hr]
    omega
theorem Wf.long {n j : Nat} {rows : List (List Bool)} (h : Wf n (n + 1) rows) (h2 : n + j ≤ 40) : Wf n (n + j) (longR n rows j) where
  n1 := h.n1
  n2 := h.n2
  m1 := by have := h.n1; omega
  m2 := h2
  len := by
    unfold longR
    rw [List.length_map, List.length_range]
  row := fun r hr => by
    unfold longR at hr
    obtain ⟨i, _, rfl⟩ := List.mem_map.mp hr
    exact put_len h j _ (toB_len _ _)
theorem Wf.cut {n m j : Nat} {rows : List (List Bool)} (h : Wf n m rows) (h1 : 1 ≤ j) (h2 : j ≤ m) : Wf n j (rows.map fun r => r.take j) where
  n1 := h.n1
  n2 := h.n2
  m1 := h1
  m2 := Nat.le_trans h2 h.m2
  len := by
    rw [List.length_map]
    exact h.len
  row := fun r hr => by
    obtain ⟨x, hx, rfl⟩ := List.mem_map.mp hr
    rw [List.length_take, h.row x hx]
    omega
def spSpoilt (K : PySem.W.Frag) : Sp := fun vs H Q _ => ∃ (a d : Addr) (v : V) (n m : Nat) (rows : List (List Bool)), vs = [.ref a, v] ∧ Hnd H a d ∧ Dp K H v (tabD n m rows) ∧ Wf n m rows ∧
  ∀ v' D' H', Dp K H' v' D' → Pl 2 D' → blockOk D' = false → Hnd H' a d → Keep a H H' → Q v' H'
theorem dp_txts {K : PySem.W.Frag} {H : Hp} : ∀ ys : List Str, DpAll K H (ys.map V.str) (ys.map PyData.str)
  | [] => .nil
  | y :: ys => .cons (.str y) (dp_txts ys)
theorem rowV_txts (rows : List (List Bool)) : rowV rows = (rows.map sb).map V.str := by
  unfold rowV
  rw [List.map_map]
  rfl
theorem spoilt_bad {n m i : Nat} {ys : List Str} {y : Str} (hi : ys[i]? = some y) (hy : bitRow (m : Int) (.str y) = false) : blockOk (.tuple [.str "generator", .int (n : Int), .int (m : Int), .tuple (ys.map PyData.str)]) = false := by
  have e1 : (ys.map PyData.str).all (bitRow (m : Int)) = false := by
    rw [Bool.eq_false_iff]
    intro z
    rw [List.all_eq_true] at z
    have := z (.str y) (List.mem_map.mpr ⟨y, List.mem_of_getElem? hi, rfl⟩)
    rw [hy] at this
    cases this
  have e2 : genRows (.int (n : Int)) (.int (m : Int)) (.tuple (ys.map PyData.str)) = false := by
    show (decide _ && _) = false
    rw [e1, Bool.and_false]
  unfold blockOk
  rw [gen_eq, e2, Bool.and_false, Bool.false_or]
  exact fun_no (by show ¬ 4 = 5; decide)
theorem spoilt_row {r : List Bool} {m p : Nat} (hr : r.length = m) (hp : p < m) {c : Str} (hc : c = "2" ∨ c = "" ∨ c = "01") : bitRow (m : Int) (.str (sb (r.take p) ++ c ++ sb (r.drop (p + 1)))) = false := by
  show (decide (((sb (r.take p) ++ c ++ sb (r.drop (p + 1))).length : Int) = (m : Int)) && (sb (r.take p) ++ c ++ sb (r.drop (p + 1))).cps.toList.all (fun c => c == 48 || c == 49)) = false
  have l1 : (sb (r.take p) ++ c ++ sb (r.drop (p + 1))).length = p + c.length + (m - (p + 1)) := by
    rw [str_app_len, str_app_len, sb_len, sb_len, List.length_take, List.length_drop, hr]
    omega
  rcases hc with e | e | e
  · have e2 : (sb (r.take p) ++ c ++ sb (r.drop (p + 1))).cps.toList.all (fun c => c == 48 || c == 49) = false := by
      have e3 : (sb (r.take p) ++ c ++ sb (r.drop (p + 1))).cps.toList = (sb (r.take p)).cps.toList ++ c.cps.toList ++ (sb (r.drop (p + 1))).cps.toList := by
        show (((sb (r.take p)).cps ++ c.cps) ++ (sb (r.drop (p + 1))).cps).toList = _
        simp
      rw [e3, List.all_append, List.all_append, e]
      have e4 : ("2" : Str).cps.toList.all (fun c => c == 48 || c == 49) = false := by decide +kernel
      rw [e4, Bool.and_false, Bool.false_and]
    rw [e2, Bool.and_false]
  · have lc : c.length = 0 := by rw [e]; decide +kernel
    rw [l1, lc, decide_eq_false (by omega), Bool.false_and]
  · have lc : c.length = 2 := by rw [e]; decide +kernel
    rw [l1, lc, decide_eq_false (by omega), Bool.false_and]
def LongFits (D : PyData) (k : Int) : Prop := ∃ (n j : Nat) (rows : List (List Bool)), D = tabD n (n + 1) rows ∧ k = (j : Int) ∧ Wf n (n + 1) rows ∧ 1 ≤ j ∧ j ≤ 20
def CutFits (D : PyData) (b : Int) : Prop := ∃ (n m j : Nat) (rows : List (List Bool)), D = tabD n m rows ∧ b = (j : Int) ∧ Wf n m rows ∧ 1 ≤ j ∧ j ≤ m
def spTold3 (K : PySem.W.Frag) : Sp := fun vs H Q _ => ∃ (v : V) (D : PyData) (d : Nat) (which k : Int), vs = [.int which, v, .int k] ∧ (which = 0 ∨ which = 1) ∧ Dp K H v D ∧ Gd d D ∧ d ≤ 64 ∧
  ((blockOk D = false ∧ ∀ H', Same H H' → Q (.str "block") H') ∨ ((which = 0 ∧ LongBad D k ∨ which = 1 ∧ CutBad D k) ∧ ∀ H', Same H H' → Q (.str "scheme") H') ∨
    ((which = 0 ∧ LongFits D k ∨ which = 1 ∧ CutFits D k) ∧ ∀ H', Same H H' → Q (.str "fine") H'))
theorem fun_ok {n l m : Nat} {tabs : List (List (List Bool))} (hn : 1 ≤ n ∧ n ≤ 8) (hl : 1 ≤ l ∧ l ≤ 8) (hnl : n + l ≤ 12) (hm : 1 ≤ m ∧ m ≤ 40) (h1 : tabs.length = 2 ^ n) (h2 : ∀ rows ∈ tabs, rows.length = 2 ^ l ∧ ∀ r ∈ rows, r.length = m) : funOk (funD n l m tabs) = true := by
  have w : ∀ {i k : Nat}, 1 ≤ i → i ≤ k → whole (.int (i : Int)) 1 (k : Int) = true := fun {i k} h1 h2 => by
    show (decide _ && decide _) = true
    rw [decide_eq_true (show (1 : Int) ≤ (i : Int) by omega), decide_eq_true (show (i : Int) ≤ (k : Int) by omega)]
    rfl
  have e1 : whole (.int (n : Int)) 1 8 = true := w hn.1 hn.2
  have e2 : whole (.int (l : Int)) 1 8 = true := w hl.1 hl.2
  have e3 : whole (.int (m : Int)) 1 40 = true := w hm.1 hm.2
  have e4 : sumLe (.int (n : Int)) (.int (l : Int)) = true := decide_eq_true (show (n : Int) + (l : Int) ≤ 12 by omega)
  have e5 : funTabs (.int (n : Int)) (.int (l : Int)) (.int (m : Int)) (.tuple (tabs.map rowsD)) = true := by
    show (decide (((tabs.map rowsD).length : Int) = 1 * 2 ^ (n : Int).toNat) && (tabs.map rowsD).all (fun r => rowsOk r (1 * 2 ^ (l : Int).toNat) (m : Int))) = true
    rw [shl_one, shl_one, List.length_map, h1, decide_eq_true rfl, Bool.true_and, List.all_eq_true]
    intro x hx
    obtain ⟨rows, hr, rfl⟩ := List.mem_map.mp hx
    exact rows_ok (h2 rows hr).1 (h2 rows hr).2
  show funOk (.tuple [.str "function", .int (n : Int), .int (l : Int), .int (m : Int), .tuple (tabs.map rowsD)]) = true
  rw [fun_eq, e1, e2, e3, e4, e5]
  decide +kernel
theorem pl_fun {n l m : Nat} {tabs : List (List (List Bool))} (h1 : tabs.length ≤ 5000) (h2 : ∀ rows ∈ tabs, rows.length ≤ 5000 ∧ ∀ r ∈ rows, r.length ≤ 5000) : Pl 3 (funD n l m tabs) := by
  refine ⟨by show 5 ≤ 5000; decide, fun x hx => ?_⟩
  rcases List.mem_cons.mp hx with e | hx
  · rw [e]
    exact pl_str.mpr ⟨by decide +kernel, by decide +kernel⟩
  refine all4 pl_int pl_int pl_int ?_ x hx
  refine ⟨by rw [List.length_map]; exact h1, fun y hy => ?_⟩
  obtain ⟨rows, hrow, rfl⟩ := List.mem_map.mp hy
  refine ⟨by rw [List.length_map]; exact (h2 rows hrow).1, fun z hz => ?_⟩
  obtain ⟨r, hr, rfl⟩ := List.mem_map.mp hz
  exact pl_str.mpr (okT_sb ((h2 rows hrow).2 r hr))
theorem short_bad : blockOk (.tuple [.str "generator", .int 1, .int 2, .tuple [.str "00"]]) = false := by decide +kernel
theorem whole_no {x lo hi : Int} (h : x < lo ∨ hi < x) : whole (.int x) lo hi = false := by
  show (decide (lo ≤ x) && decide (x ≤ hi)) = false
  rcases h with h | h
  · rw [decide_eq_false (show ¬ lo ≤ x by omega), Bool.false_and]
  · rw [decide_eq_false (show ¬ x ≤ hi by omega), Bool.and_false]

theorem getD_row {rows : List (List Bool)} {i : Nat} (h : i < rows.length) : (rowV rows)[i]? = some (.str (sb (rows.getD i []))) := by
  unfold rowV
  rw [List.getElem?_map, List.getElem?_eq_getElem h, List.getD_eq_getElem?_getD, List.getElem?_eq_getElem h]
  rfl
theorem Wf.at {n m : Nat} {rows : List (List Bool)} (h : Wf n m rows) {s : List Bool} (hs : s.length = n) : val s < rows.length ∧ (rows.getD (val s) []).length = m := by
  have h1 := val_lt s
  rw [hs, ← h.len] at h1
  refine ⟨h1, ?_⟩
  rw [List.getD_eq_getElem?_getD, List.getElem?_eq_getElem h1]
  exact h.row _ (List.getElem_mem h1)
theorem sb_cps (l : List Bool) : (sb l).cps.toList = l.map cB := by
  show ((l.map cB).toArray).toList = _
  simp
theorem last_bit {row : List Bool} {n : Nat} (h : row.length = n + 1) : ∃ b, row.drop n = [b] ∧ atI (sb row).cps.toList (-1) = some (cB b) := by
  have hn : n < row.length := by omega
  refine ⟨row[n], ?_, ?_⟩
  · rw [List.drop_eq_getElem_cons hn, List.drop_of_length_le (by omega)]
  · rw [sb_cps]
    unfold atI ixN
    rw [List.length_map, if_neg (by decide), if_pos (by omega)]
    show (row.map cB)[((-1 : Int) + (row.length : Int)).toNat]? = _
    rw [show ((-1 : Int) + (row.length : Int)).toNat = n by omega, List.getElem?_map, List.getElem?_eq_getElem hn]
    rfl
theorem cut_last {l : List Bool} : cutS (sb l) none (some (-1)) = sb l.dropLast := by
  unfold cutS
  rw [sb_drop_take]
  have e0 : HT.sIx (sb l).length 0 none = 0 := rfl
  rw [e0, List.drop_zero, Nat.sub_zero]
  have e : HT.sIx (sb l).length (sb l).length (some (-1)) = l.length - 1 := by
    rw [sb_len]
    show (if (-1 : Int) < 0 then ((-1 : Int) + (l.length : Int)).toNat else min (-1 : Int).toNat l.length) = _
    rw [if_pos (by decide)]
    omega
  rw [show HT.sIx (sb l).length (sb l).length (some (-1)) = l.length - 1 from e, List.dropLast_eq_take]

theorem str_bit (k : Nat) : Str.ofString (toString ((k : Int) % 2)) = sb [k % 2 == 1] := by
  have h : ((k : Int) % 2) = ((k % 2 : Nat) : Int) := by omega
  rw [h]
  rcases Nat.mod_two_eq_zero_or_one k with z | z <;> rw [z] <;> decide +kernel

theorem sb_size {bs : List Bool} (h : bs.length ≤ 16777216) : (sb bs).length ≤ sizeLine := by
  rw [sb_len, sizeLine_eq]
  exact h
theorem xor_nat (a b : Nat) : Builtin.bitXor (a : Int) (b : Int) = ((a ^^^ b : Nat) : Int) := by
  rw [Bits.bitXor_pp (by omega) (by omega)]
  rfl
theorem val_lt' {l m : List Bool} (h : l.length = m.length) : val m < 2 ^ l.length := by
  rw [h]
  exact val_lt m

/-! ### (z,) * k, k from 1 on -/
def rRep1 (K : PySem.W.Frag) : R2 := fun x y H Q => ∃ (l : Addr) (k : Int) (z : V), x = .ref l ∧ y = .int k ∧ SqT K H l [z] ∧ 1 ≤ k ∧ k ≤ 5000 ∧ ∀ p H', Same H H' → SqT K H' p (List.replicate k.toNat z) → Q (.ref p) H'
theorem tuple_once (l : Addr) (z : Value) (n : Nat) (dd : Option Addr) (sl : Array (Option Value)) (u : Tok) :
    Meets (Builtin.«tuple.__mul__» ⟨[.ref l, .int 1 u], []⟩) (fun _ R s => s.heap.get? l = some { cls := .type "tuple", dict := dd, data := .seq #[z] n, slots := sl } ∧ R (.ok (.ret (.ref l))) s) :=
  .of_wp fun prog w A R s h => by
    obtain ⟨hp, g, d, tk, os⟩ := s
    obtain ⟨hl, h⟩ := h
    have idx := AutoSeq1.idx_int
    wp_walk using wpAny_loadPart' hl
    exact ⟨_, rfl, h⟩
section
variable {X : Cx}
theorem op_rep1 (K : PySem.W.Frag) (hK : X.K = K := by rfl) : OpR X (binaryOp .Mult) (rRep1 K) := by
  subst hK
  intro pins s σ H x y v u Q I rx ry h
  obtain ⟨l, k, z, rfl, rfl, hT, h1, h2, q⟩ := h
  cases rx
  obtain ⟨t, rfl⟩ := ry
  obtain ⟨its, rz, ⟨⟨cls, dd, data, sl⟩, ho, hc, n, hd⟩, hs⟩ := I.tuple hT
  dsimp only at hc hd
  subst hc hd
  match its, rz with
  | [w], .cons rw' .nil =>
    -- what the slot of the tuple must do
    have road : ∀ {Q' : Value → Shared → Prop}, wpAny (model X.prog X.w) X.A (call (.builtin "tuple.__mul__") [.ref l, .int k t]) Q' X.xe s →
        wpAny (model X.prog X.w) X.A (binaryOp .Mult (.ref l) (.int k t)) Q' X.xe s := fun {Q'} c =>
      wpAny_binaryOp_repeat_ref (U := "int") (T := "tuple") (by decide)
        ⟨_, ho, rfl⟩ (fun s' => typeIs_int s' k t)
        noFill_tuple_mul F.fills_int_mul
        F.slot_int_rmul repeat_tuple
        F.slot_int_index.lookup
        (call_meets F.slot_int_rmul (typeIs_int s k t)
          F.entry_int_rmul (F.args_int_rmul_2 _ _)
          (int_rmul_tuple k t l _ n dd sl)
          ⟨ho, rfl, ⟨_, ho, rfl⟩, c⟩)
    refine road ?_
    by_cases one : k = 1
    · subst one
      refine call_meets F.slot_tuple_mul ⟨_, ho, rfl⟩
        F.entry_tuple_mul (F.args_tuple_mul_2 _ _)
        (tuple_once l w n dd sl t) ⟨ho, ?_⟩
      exact ⟨.ref l, H, I, rfl, q l H (Same.refl H) hT⟩
    · have a0 : (decide (k < -(2 ^ 63)) || decide (k ≥ 2 ^ 63)) = false := by
        rw [decide_eq_false (show ¬ k < -(2 ^ 63) by omega), Bool.false_or]
        exact decide_eq_false (by omega)
      have a1 : ((#[w] : Array Value).isEmpty || k == 1) = false := beq_eq_false_iff_ne.mpr one
      have a2 : (decide (k ≤ 0) || (#[w] : Array Value).isEmpty) = false := by
        rw [decide_eq_false (show ¬ k ≤ 0 by omega)]
        rfl
      have sz : (((#[w] : Array Value).size : Nat) : Int) = 1 := rfl
      have a4 : Builtin.Tuple.tupleTooMany ((((#[w] : Array Value).size : Nat) : Int) * k) = false := by
        rw [sz, Int.one_mul]
        unfold Builtin.Tuple.tupleTooMany
        exact decide_eq_false (by rw [sizeLine_eq]; omega)
      have len : (List.replicate k.toNat [w]).flatten.length = k.toNat := by
        rw [PyProof.Rows.lm_len_rep_flat]
        exact Nat.mul_one _
      refine call_meets F.slot_tuple_mul ⟨_, ho, rfl⟩
        F.entry_tuple_mul (F.args_tuple_mul_2 _ _)
        (tuple_mulW l #[w] n dd sl k t a0 a1 a2 (by rw [sz]; omega) a4 (by rw [show (#[w] : Array Value) = [w].toArray from rfl, size_rep, List.size_toArray, len, sizeLine_eq]; omega)) ⟨ho, ?_⟩
      rw [show (#[w] : Array Value) = [w].toArray from rfl, size_rep]
      have np := I.hok.fresh (Nat.le_refl s.heap.objs.size)
      have e1 : (List.replicate k.toNat [z]).flatten = List.replicate k.toNat z := by
        generalize k.toNat = j
        induction j with
        | zero => rfl
        | succ j ih => rw [List.replicate_succ, List.flatten_cons, ih, List.replicate_succ]; rfl
      refine ⟨.ref s.heap.objs.size, _, I.laid (t' := s.toks) (o := .tup (List.replicate k.toNat [z]).flatten) (fun _ _ g => Heap.get?_push_of_some _ g) (Nat.le_refl _) ?_, rfl, q _ _ (same_new np) (.inl (.inl (by rw [upd_same, e1])))⟩
      refine ⟨?_, _, (show Vals [z] [w] from .cons rw' .nil).rep k.toNat, IsTup.new _ _⟩
      rw [PyProof.Rows.lm_len_rep_flat, sizeLine_eq]
      show k.toNat * 1 ≤ _
      omega
end

/-! ### functions, as the document tells them -/
structure Wff (n l m : Nat) (tabs : List (List (List Bool))) : Prop where
  n1 : 1 ≤ n
  n2 : n ≤ 8
  l1 : 1 ≤ l
  l2 : l ≤ 8
  nl : n + l ≤ 12
  m1 : 1 ≤ m
  m2 : m ≤ 40
  len : tabs.length = 2 ^ n
  row : ∀ rows ∈ tabs, rows.length = 2 ^ l ∧ ∀ r ∈ rows, r.length = m
theorem Wff.ok {n l m : Nat} {tabs : List (List (List Bool))} (h : Wff n l m tabs) : funOk (funD n l m tabs) = true := fun_ok ⟨h.n1, h.n2⟩ ⟨h.l1, h.l2⟩ h.nl ⟨h.m1, h.m2⟩ h.len h.row
theorem Wff.pl {n l m : Nat} {tabs : List (List (List Bool))} (h : Wff n l m tabs) : Pl 3 (funD n l m tabs) := by
  have a1 := two_pow_le (b := 8) h.n2
  have a2 := two_pow_le (b := 8) h.l2
  have a3 := h.len
  refine pl_fun (by omega) fun rows hr => ?_
  have a4 := (h.row rows hr).1
  refine ⟨by omega, fun r hr' => ?_⟩
  have a5 := (h.row rows hr).2 r hr'
  have a6 := h.m2
  omega
theorem fun_wf {d : PyData} (h : funOk d = true) : ∃ (n l m : Nat) (tabs : List (List (List Bool))), d = funD n l m tabs ∧ Wff n l m tabs := by
  unfold funOk at h
  split at h
  · rename_i k n l m t
    obtain ⟨g5, h6⟩ := Bool.and_eq_true_iff.mp h
    obtain ⟨g4, h5⟩ := Bool.and_eq_true_iff.mp g5
    obtain ⟨g3, h4⟩ := Bool.and_eq_true_iff.mp g4
    obtain ⟨g2, h3⟩ := Bool.and_eq_true_iff.mp g3
    obtain ⟨h1, h2⟩ := Bool.and_eq_true_iff.mp g2
    obtain ⟨n, rfl, n1, n2⟩ := whole_int h2
    obtain ⟨l, rfl, l1, l2⟩ := whole_int h3
    obtain ⟨m, rfl, m1, m2⟩ := whole_int h5
    obtain ⟨n, rfl⟩ : ∃ k : Nat, n = (k : Int) := ⟨n.toNat, by omega⟩
    obtain ⟨l, rfl⟩ : ∃ k : Nat, l = (k : Int) := ⟨l.toNat, by omega⟩
    obtain ⟨m, rfl⟩ : ∃ k : Nat, m = (k : Int) := ⟨m.toNat, by omega⟩
    have h4' : (n : Int) + (l : Int) ≤ 12 := of_decide_eq_true h4
    cases t with
    | tuple ts =>
      have h6' : (decide ((ts.length : Int) = 1 * 2 ^ (n : Int).toNat) && ts.all (fun r => rowsOk r (1 * 2 ^ (l : Int).toNat) (m : Int))) = true := h6
      rw [shl_one, shl_one] at h6'
      obtain ⟨e1, e2⟩ := Bool.and_eq_true_iff.mp h6'
      have e1' : (ts.length : Int) = ((2 ^ n : Nat) : Int) := of_decide_eq_true e1
      have key : ∀ q : List PyData, q.all (fun r => rowsOk r ((2 ^ l : Nat) : Int) (m : Int)) = true → ∃ tabs : List (List (List Bool)), q = tabs.map rowsD ∧ ∀ rows ∈ tabs, rows.length = 2 ^ l ∧ ∀ r ∈ rows, r.length = m := by
        intro q
        induction q with
        | nil => exact fun _ => ⟨[], rfl, fun r hr => nomatch hr⟩
        | cons c q ih =>
          intro hl
          rw [List.all_cons, Bool.and_eq_true] at hl
          obtain ⟨tabs, e, hr⟩ := ih hl.2
          obtain ⟨rows, er, hl', hr'⟩ := ok_rowsD hl.1
          refine ⟨rows :: tabs, by rw [e, er]; rfl, fun x hx => ?_⟩
          rcases List.mem_cons.mp hx with z | z
          · rw [z]
            exact ⟨by omega, fun r hr => by have := hr' r hr; omega⟩
          · exact hr x z
      obtain ⟨tabs, rfl, hr⟩ := key ts e2
      rw [List.length_map] at e1'
      refine ⟨n, l, m, tabs, by rw [named_iff h1]; rfl, by omega, by omega, by omega, by omega, by omega, by omega, by omega, by omega, hr⟩
    | _ => cases h6
  · cases h
theorem gen_no_fun {d : PyData} (h : genOk d = true) : funOk d = false := by
  obtain ⟨n, m, rows, rfl, _⟩ := gen_wf h
  exact fun_no (by show ¬ 4 = 5; decide)
def tabsD (tabs : List (List (List Bool))) : PyData := .tuple (tabs.map rowsD)
theorem dp_fun {K : PySem.W.Frag} {H : Hp} {v : V} {n l m : Nat} {tabs : List (List (List Bool))} (h : Dp K H v (funD n l m tabs)) : ∃ a t, v = .ref a ∧ SqT K H a [.str "function", .int (n : Int), .int (l : Int), .int (m : Int), .ref t] ∧ Dp K H (.ref t) (tabsD tabs) := by
  cases h with
  | @tup a ws _ hT hA =>
    cases hA with
    | cons h0 hA =>
      cases hA with
      | cons h1 hA =>
        cases hA with
        | cons h2 hA =>
          cases hA with
          | cons h3 hA =>
            cases hA with
            | cons h4 hA =>
              cases hA
              cases h0
              cases h1
              cases h2
              cases h3
              cases h4 with
              | tup hR hU => exact ⟨a, _, rfl, hT, .tup hR hU⟩
theorem fun_dp {K : PySem.W.Frag} {H : Hp} {a t : Addr} {n l m : Nat} {tabs : List (List (List Bool))} (h1 : SqT K H a [.str "function", .int (n : Int), .int (l : Int), .int (m : Int), .ref t]) (h2 : Dp K H (.ref t) (tabsD tabs)) : Dp K H (.ref a) (funD n l m tabs) :=
  .tup h1 (.cons (.str _) (.cons (.int _) (.cons (.int _) (.cons (.int _) (.cons h2 .nil)))))
theorem tabs_at {K : PySem.W.Frag} {H : Hp} {t : Addr} {tabs : List (List (List Bool))} (h : Dp K H (.ref t) (tabsD tabs)) : ∃ us, SqT K H t us ∧ us.length = tabs.length ∧ ∀ i (hi : i < tabs.length), ∃ r, us[i]? = some (.ref r) ∧ SqT K H r (rowV tabs[i]) := by
  cases h with
  | @tup _ us _ hT hA =>
    have hl := dp_all_len hA
    rw [List.length_map] at hl
    refine ⟨us, hT, hl, fun i hi => ?_⟩
    have hiu : i < us.length := by omega
    obtain ⟨d, hd, hx⟩ := dp_all_get hA (List.getElem?_eq_getElem hiu)
    rw [List.getElem?_map, List.getElem?_eq_getElem hi] at hd
    have e := Option.some.inj hd
    subst e
    obtain ⟨r, e2, hr⟩ : ∃ r, us[i] = .ref r ∧ SqT K H r (rowV tabs[i]) := by
      generalize us[i] = u at hx
      cases hx with
      | @tup r ws _ hR hU => exact ⟨r, rfl, by unfold rowV; rw [← dp_sbs hU]; exact hR⟩
    exact ⟨r, by rw [List.getElem?_eq_getElem hiu, e2], hr⟩
def spFParts (K : PySem.W.Frag) (CB CS : Addr) : Sp := fun vs H Q E => ∃ (v : V) (D : PyData) (k : Nat), vs = [v] ∧ Dp K H v D ∧ Gd k D ∧ k ≤ 64 ∧
  ((blockOk D = false ∧ ∀ H', Same H H' → E (.ref CB) none H') ∨ (genOk D = true ∧ ∀ H', Same H H' → E (.ref CS) none H') ∨
    (∃ n l m tabs, D = funD n l m tabs ∧ Wff n l m tabs ∧ ∀ p t H', Same H H' → SqT K H' p [.int (n : Int), .int (l : Int), .int (m : Int), .ref t] → Dp K H' (.ref t) (tabsD tabs) → Q (.ref p) H'))
def spRow (K : PySem.W.Frag) (CB : Addr) : Sp := fun vs H Q E => ∃ (v : V) (D : PyData) (k : Nat) (x : Str), vs = [v, .str x] ∧ Dp K H v D ∧ Gd k D ∧ k ≤ 64 ∧
  ((blockOk D = false ∧ ∀ H', Same H H' → E (.ref CB) none H') ∨
    (∃ n m rows s, D = tabD n m rows ∧ x = sb s ∧ s.length = n ∧ Wf n m rows ∧ ∀ H', Same H H' → Q (.str (sb (rows.getD (val s) []))) H'))
def spVal (K : PySem.W.Frag) (CB : Addr) : Sp := fun vs H Q E => ∃ (v : V) (D : PyData) (k : Nat) (x y : Str), vs = [v, .str x, .str y] ∧ Dp K H v D ∧ Gd k D ∧ k ≤ 64 ∧
  ((blockOk D = false ∧ ∀ H', Same H H' → E (.ref CB) none H') ∨
    (∃ n l m tabs s t, D = funD n l m tabs ∧ x = sb s ∧ y = sb t ∧ s.length = n ∧ t.length = l ∧ Wff n l m tabs ∧ ∀ H', Same H H' → Q (.str (sb ((tabs.getD (val s) []).getD (val t) []))) H'))
/-- down from a label, along a path -/
def goDown (rows : List (List Bool)) (n : Nat) : List Bool → List Bool → List Bool
  | lab, [] => lab
  | lab, b :: bs => goDown rows n (if b then (rows.getD (val lab) []).drop n else (rows.getD (val lab) []).take n) bs
def treeT (n d : Nat) (rows : List (List Bool)) : List (List (List Bool)) := (List.range (2 ^ n)).map fun i => (List.range (2 ^ d)).map fun j => goDown rows n (toB n i) (toB d j)
def spGo (K : PySem.W.Frag) : Sp := fun vs H Q _ => ∃ (r : Addr) (n : Nat) (rows : List (List Bool)) (lab path : List Bool), vs = [.ref r, .str (sb lab), .str (sb path)] ∧ SqT K H r (rowV rows) ∧ Wf n (2 * n) rows ∧ lab.length = n ∧ Q (.str (sb (goDown rows n lab path))) H
def TreeBad (D : PyData) (d : Int) : Prop := funOk D = true ∨ ∃ n m rows, D = tabD n m rows ∧ Wf n m rows ∧ (m ≠ 2 * n ∨ 8 < n ∨ whole (.int d) 1 8 = false ∨ 12 < (n : Int) + d)
def TreeFits (D : PyData) (d : Int) : Prop := ∃ (n j : Nat) (rows : List (List Bool)), D = tabD n (2 * n) rows ∧ d = (j : Int) ∧ Wf n (2 * n) rows ∧ n ≤ 8 ∧ 1 ≤ j ∧ j ≤ 8 ∧ n + j ≤ 12
def spTree (K : PySem.W.Frag) (CB CS : Addr) : Sp := fun vs H Q E => ∃ (v : V) (D : PyData) (k : Nat) (d : Int), vs = [v, .int d] ∧ Dp K H v D ∧ Gd k D ∧ k ≤ 64 ∧
  ((blockOk D = false ∧ ∀ H', Same H H' → E (.ref CB) none H') ∨ (TreeBad D d ∧ ∀ H', Same H H' → E (.ref CS) none H') ∨
    (∃ (n j : Nat) (rows : List (List Bool)), D = tabD n (2 * n) rows ∧ d = (j : Int) ∧ Wf n (2 * n) rows ∧ n ≤ 8 ∧ 1 ≤ j ∧ j ≤ 8 ∧ n + j ≤ 12 ∧ ∀ v' H', Same H H' → Dp K H' v' (funD n j n (treeT n j rows)) → Q v' H'))
def cntR (c : Nat) (tabs : List (List (List Bool))) : List (List Bool) := tabs.map fun vals => (vals.take c).flatten
def CntBad (D : PyData) (c : Int) : Prop := genOk D = true ∨ ∃ n l m tabs, D = funD n l m tabs ∧ Wff n l m tabs ∧ (whole (.int c) 1 ((2 ^ l : Nat) : Int) = false ∨ 40 < c * (m : Int))
def CntFits (D : PyData) (c : Int) : Prop := ∃ (n l m j : Nat) (tabs : List (List (List Bool))), D = funD n l m tabs ∧ c = (j : Int) ∧ Wff n l m tabs ∧ 1 ≤ j ∧ j ≤ 2 ^ l ∧ j * m ≤ 40
def spCnt (K : PySem.W.Frag) (CB CS : Addr) : Sp := fun vs H Q E => ∃ (v : V) (D : PyData) (k : Nat) (c : Int), vs = [v, .int c] ∧ Dp K H v D ∧ Gd k D ∧ k ≤ 64 ∧
  ((blockOk D = false ∧ ∀ H', Same H H' → E (.ref CB) none H') ∨ (CntBad D c ∧ ∀ H', Same H H' → E (.ref CS) none H') ∨
    (∃ (n l m j : Nat) (tabs : List (List (List Bool))), D = funD n l m tabs ∧ c = (j : Int) ∧ Wff n l m tabs ∧ 1 ≤ j ∧ j ≤ 2 ^ l ∧ j * m ≤ 40 ∧ ∀ v' H', Same H H' → Dp K H' v' (tabD n (j * m) (cntR j tabs)) → Q v' H'))
def par (l m : List Bool) : Bool := ((List.zipWith (fun x y => x && y) l m).count true) % 2 == 1
def hardRow (n : Nat) (rows : List (List Bool)) (i j : Nat) : List Bool := rows.getD i [] ++ toB n j ++ [par (toB n i) (toB n j)]
def hardR (n : Nat) (rows : List (List Bool)) : List (List Bool) := ((List.range (2 ^ n)).map fun i => (List.range (2 ^ n)).map fun j => hardRow n rows i j).flatten
def HardBad (D : PyData) : Prop := funOk D = true ∨ ∃ n m rows, D = tabD n m rows ∧ Wf n m rows ∧ (5 < n ∨ 40 < m + n + 1)
def HardFits (D : PyData) : Prop := ∃ (n m : Nat) (rows : List (List Bool)), D = tabD n m rows ∧ Wf n m rows ∧ n ≤ 5 ∧ m + n + 1 ≤ 40
def spHard (K : PySem.W.Frag) (CB CS : Addr) : Sp := fun vs H Q E => ∃ (v : V) (D : PyData) (k : Nat), vs = [v] ∧ Dp K H v D ∧ Gd k D ∧ k ≤ 64 ∧
  ((blockOk D = false ∧ ∀ H', Same H H' → E (.ref CB) none H') ∨ (HardBad D ∧ ∀ H', Same H H' → E (.ref CS) none H') ∨
    (∃ (n m : Nat) (rows : List (List Bool)), D = tabD n m rows ∧ Wf n m rows ∧ n ≤ 5 ∧ m + n + 1 ≤ 40 ∧ ∀ v' H', Same H H' → Dp K H' v' (tabD (2 * n) (m + n + 1) (hardR n rows)) → Q v' H'))
def spLawTree (K : PySem.W.Frag) : Sp := fun vs H Q _ => ∃ (v : V) (n j : Nat) (rows : List (List Bool)), vs = [v, .int (j : Int)] ∧ Dp K H v (tabD n (2 * n) rows) ∧ Wf n (2 * n) rows ∧ n ≤ 8 ∧ 1 ≤ j ∧ j ≤ 8 ∧ ∀ v' H', Same H H' → Dp K H' v' (funD n j n (treeT n j rows)) → Q v' H'
def spLawHard (K : PySem.W.Frag) : Sp := fun vs H Q _ => ∃ (v : V) (n m : Nat) (rows : List (List Bool)), vs = [v] ∧ Dp K H v (tabD n m rows) ∧ Wf n m rows ∧ n ≤ 5 ∧ m + n + 1 ≤ 40 ∧ ∀ v' H', Same H H' → Dp K H' v' (tabD (2 * n) (m + n + 1) (hardR n rows)) → Q v' H'
section
variable {X : Cx} {tg e : Expr} {te : TE}
theorem piL (K : PySem.W.Frag) (he : PE X e te) (h : X.K = K := by rfl) : PI X tg e (iList K te) := by
  subst h
  exact pi_list he
theorem piT (K : PySem.W.Frag) (he : PE X e te) (h : X.K = K := by rfl) : PI X tg e (iTup K te) := by
  subst h
  exact pi_tup he
end
theorem off_upd1 {R : Addr} {H : Hp} {o : HO} : off R (upd H R o) = off R H := by
  funext b
  unfold off
  by_cases h : b = R
  · rw [if_pos h, if_pos h]
  · rw [if_neg h, if_neg h, upd_ne h]
theorem rowV_at {rows : List (List Bool)} {i : Nat} {x : V} (h : (rowV rows)[i]? = some x) : ∃ hi : i < rows.length, x = .str (sb rows[i]) := by
  unfold rowV at h
  rw [List.getElem?_map] at h
  obtain ⟨r, hr, e⟩ := Option.map_eq_some_iff.mp h
  obtain ⟨hi, rfl⟩ := List.getElem?_eq_some_iff.mp hr
  exact ⟨hi, e.symm⟩
theorem range_at {n k i : Nat} {x : V} (h : (rowV ((List.range k).map fun i => toB n i))[i]? = some x) : i < k ∧ x = .str (sb (toB n i)) := by
  obtain ⟨hi, e⟩ := rowV_at h
  rw [List.length_map, List.length_range] at hi
  refine ⟨hi, ?_⟩
  rw [e, List.getElem_map, List.getElem_range]
theorem rowV_len (rows : List (List Bool)) : (rowV rows).length = rows.length := List.length_map ..
theorem rowV_snoc {k : Nat} (f : Nat → List Bool) : rowV ((List.range (k + 1)).map f) = rowV ((List.range k).map f) ++ [.str (sb (f k))] := by
  unfold rowV
  rw [List.range_succ, List.map_append, List.map_append]
  rfl
theorem walkL {K : PySem.W.Frag} {a : Addr} {xs : List V} {B : (Hp → Prop) → V → Hp → Prop} {H0 : Hp} {Qd : Hp → Prop} (Pv : Nat → Hp → Prop) (h0 : Pv 0 H0) (hl : ∀ i H, i ≤ xs.length → Pv i H → SqL K H a xs)
    (hs : ∀ i x H, xs[i]? = some x → Pv i H → B (Pv (i + 1)) x H) (hd : ∀ H, Pv xs.length H → Qd H) :
    ∃ W : Nat → Nat → Hp → Prop, (∃ m, W 0 m H0) ∧ ∀ i m H, W i m H → ((Itl K a).stop i H ∧ Qd H) ∨ ((Itl K a).go i H ∧ ∃ Nx : Hp → Prop, (∀ H', Nx H' → ∃ m', m' < m ∧ W (i + 1) m' H') ∧ ∀ x H', (Itl K a).yld i H x H' → B Nx x H') := by
  refine ⟨fun i m H => m = xs.length - i ∧ i ≤ xs.length ∧ Pv i H, ⟨xs.length, by omega, Nat.zero_le _, h0⟩, ?_⟩
  rintro i m H ⟨rfl, hi, p⟩
  have hS := hl i H hi p
  by_cases c : i < xs.length
  · refine .inr ⟨⟨xs, xs[i], hS, List.getElem?_eq_getElem c⟩, Pv (i + 1), fun H' p' => ⟨xs.length - (i + 1), by omega, rfl, c, p'⟩, ?_⟩
    rintro y H' ⟨rfl, hy⟩
    exact hs i y _ (hy xs hS) p
  · have e : i = xs.length := by omega
    subst e
    exact .inl ⟨⟨xs, hS, Nat.le_refl _⟩, hd H p⟩
def hardMade (n : Nat) (rows : List (List Bool)) (i : Nat) : List (List Bool) := ((List.range i).map fun i => (List.range (2 ^ n)).map fun j => hardRow n rows i j).flatten
theorem hardMade_succ (n : Nat) (rows : List (List Bool)) (i : Nat) : hardMade n rows (i + 1) = hardMade n rows i ++ (List.range (2 ^ n)).map fun j => hardRow n rows i j := by
  unfold hardMade
  rw [List.range_succ, List.map_append, List.flatten_append]
  show _ ++ ((_ : List (List Bool)) ++ []) = _
  rw [List.append_nil]
theorem hardMade_len (n : Nat) (rows : List (List Bool)) (i : Nat) : (hardMade n rows i).length = i * 2 ^ n := by
  induction i with
  | zero => rw [Nat.zero_mul]; rfl
  | succ i ih => rw [hardMade_succ, List.length_append, ih, List.length_map, List.length_range, Nat.succ_mul]
theorem rowV_app (a b : List (List Bool)) : rowV (a ++ b) = rowV a ++ rowV b := List.map_append ..
def spTold4 (K : PySem.W.Frag) : Sp := fun vs H Q _ => ∃ (v : V) (D : PyData) (d : Nat) (which k : Int), vs = [.int which, v, .int k] ∧ (0 ≤ which ∧ which ≤ 4) ∧ Dp K H v D ∧ Gd d D ∧ d ≤ 64 ∧
  ((blockOk D = false ∧ ∀ H', Same H H' → Q (.str "block") H') ∨ ((which = 0 ∧ TreeBad D k ∨ which = 1 ∧ CntBad D k ∨ which = 2 ∧ HardBad D) ∧ ∀ H', Same H H' → Q (.str "scheme") H') ∨
    ((which = 0 ∧ TreeFits D k ∨ which = 1 ∧ CntFits D k ∨ which = 2 ∧ HardFits D) ∧ ∀ H', Same H H' → Q (.str "fine") H'))
theorem ne_int {x y : Int} (h : x ≠ y) : decide (V.int x = V.int y) = false := decide_eq_false fun z => h (V.int.inj z)
def spLooks (K : PySem.W.Frag) : Sp := fun vs H Q _ => ∃ (v w : V) (n m n' l' m' : Nat) (rows : List (List Bool)) (tabs : List (List (List Bool))), vs = [v, w] ∧ Dp K H v (tabD n m rows) ∧ Wf n m rows ∧ Dp K H w (funD n' l' m' tabs) ∧ Wff n' l' m' tabs ∧ ∀ H', Same H H' → Q (.bl true) H'
def spEdges : Sp := fun vs H Q _ => ∃ (a d : Addr), vs = [.ref a] ∧ Hnd H a d ∧ ∀ H', Q (.bl true) H'

theorem join_sbs (rows : List (List Bool)) : Txt.join "" (rows.map sb) = sb rows.flatten := by
  have e := join_all (rows.map sb)
  have e2 : ((rows.map sb).map (·.cps.toList)).flatten = rows.flatten.map cB := by
    rw [List.map_map, List.map_flatten]
    refine congrArg List.flatten (List.map_congr_left fun r _ => ?_)
    exact sb_cps r
  refine TL.ext_tl ?_
  show (Txt.join "" (rows.map sb)).cps.toList = (sb rows.flatten).cps.toList
  rw [e, e2, sb_cps]
theorem cut_rows {rows : List (List Bool)} {c : Nat} : cutV (rowV rows) none (some (c : Int)) = ((rows.take c).map sb).map V.str := by
  unfold cutV
  rw [HT.sIx_none, sIx_n, List.drop_zero, Nat.sub_zero, rowV_txts, ← List.map_take, ← List.map_take, List.length_map, List.length_map]
  by_cases h : c ≤ rows.length
  · rw [Nat.min_eq_left h]
  · rw [Nat.min_eq_right (by omega), List.take_of_length_le (Nat.le_refl _), List.take_of_length_le (by omega)]
theorem sum_rows {rows : List (List Bool)} {m : Nat} (h : ∀ r ∈ rows, r.length = m) : ((rows.map sb).map (·.length)).sum = rows.length * m := by
  induction rows with
  | nil => rw [List.length_nil, Nat.zero_mul]; rfl
  | cons r rows ih =>
    rw [List.map_cons, List.map_cons, List.sum_cons, ih fun x hx => h x (List.mem_cons_of_mem _ hx), List.length_cons, Nat.succ_mul, sb_len, h r List.mem_cons_self]
    omega

theorem pss_when {X : Cx} {b : List Stmt} {cls : Value} {d : Option Addr} {C : Addr} {oe : Obj} {t : TS} (hz : Zc cls d oe) (h : Zc (.ref C) none oe → PSs X b t) : PSs X b (fun D σ H => (cls = .ref C ∧ d = none) ∧ t D σ H) := by
  refine ⟨fun pins s σ H D I q => ?_⟩
  obtain ⟨⟨e1, e2⟩, q⟩ := q
  subst e1
  subst e2
  exact (h hz).run pins s σ H D I q

/-! ### a written dict of texts -/
def txtR (ps : List (Str × Str)) : Str → Value → Prop := fun z u => ∃ x t, (z, x) ∈ ps ∧ u = .str x t
theorem txt_has {ps : List (Str × Str)} : HasV (txtR ps) := fun z u h => by
  obtain ⟨x, t, _, rfl⟩ := h
  exact ⟨.str x, _, rfl⟩
def rNotDk (d : Addr) (ks : List Str) : R2 := fun x y H Q => ∃ z : Str, x = .str z ∧ y = .ref d ∧ Q (.bl (!decide (z ∈ ks))) H
theorem notin_dk {X : Cx} {d : Addr} {ks : List Str} {R : Str → Value → Prop} (D : DictK X.K X.w d ks R) : OpR X (compareOp .NotIn) (rNotDk d ks) := by
  obtain ⟨es, n, kd, ka⟩ := D.ex
  intro pins s σ H x y v u Q I rx ry h
  obtain ⟨z, e1, e2, q⟩ := h
  subst e1 e2
  cases hz : decide (z ∈ ks) with
  | true =>
    rw [hz] at q
    obtain ⟨u', e, _⟩ := nsIn_yes kd ka (of_decide_eq_true hz)
    exact op_notIn_kd kd pins s σ H _ _ v u Q I rx ry ⟨z, some u', rfl, rfl, e, q⟩
  | false =>
    rw [hz] at q
    exact op_notIn_kd kd pins s σ H _ _ v u Q I rx ry ⟨z, none, rfl, rfl, nsIn_no kd ka (of_decide_eq_false hz), q⟩

def topS (i : Nat) : Stmt := PySem.Challenge.pw_breakback_k31_built_and_fitting_goals.main.body.getD i (.Pass ⟨0, 0, 0, 0⟩)
abbrev s_bits : Stmt := topS 1
abbrev s_all_bits : Stmt := topS 2
abbrev s_number_of : Stmt := topS 3
abbrev s_is_whole : Stmt := topS 10
abbrev s_are_rows : Stmt := topS 11
abbrev s_is_generator : Stmt := topS 12
abbrev s_is_function : Stmt := topS 13
abbrev s_check_block : Stmt := topS 14
abbrev s_generator_parts : Stmt := topS 15
abbrev s_function_parts : Stmt := topS 16
abbrev s_put_out : Stmt := topS 17
abbrev s_longer : Stmt := topS 18
abbrev s_go_down : Stmt := topS 19
abbrev s_tree : Stmt := topS 20
abbrev s_counter : Stmt := topS 21
abbrev s_cut : Stmt := topS 22
abbrev s_layers_of : Stmt := topS 26
abbrev s_with_layer : Stmt := topS 27
abbrev s_tables_of : Stmt := topS 28
abbrev s_built : Stmt := topS 29
abbrev s_check_goal : Stmt := topS 30
abbrev s_law_draws : Stmt := topS 32
abbrev s_law_take : Stmt := topS 33
abbrev s_law_string : Stmt := topS 34
abbrev s_law_table : Stmt := topS 35
abbrev s_law_function : Stmt := topS 36
abbrev s_law_bits : Stmt := topS 37
abbrev s_law_number : Stmt := topS 38
abbrev s_law_longer : Stmt := topS 39
abbrev s_law_tree : Stmt := topS 40
abbrev s_law_layer : Stmt := topS 41
abbrev s_law_block : Stmt := topS 42
abbrev s_law_step : Stmt := topS 43
abbrev s_law_scheme : Stmt := topS 44
abbrev s_law_goal : Stmt := topS 45
abbrev s_law_refused : Stmt := topS 46
abbrev s_law_bent : Stmt := topS 47
abbrev s_law_unfit : Stmt := topS 48
abbrev s_law_no_goal : Stmt := topS 49
abbrev s_law_edges : Stmt := topS 50
abbrev s_law_whole : Stmt := topS 51
abbrev s_law : Stmt := topS 52
theorem sc_bits : FnScope ["length", "number"] ["length", "number"] (defScope s_bits) := ⟨rfl, rfl, rfl, by decide +kernel, rfl, by decide +kernel, by decide +kernel⟩
theorem sc_all_bits : FnScope ["length", "number"] ["length"] (defScope s_all_bits) := ⟨rfl, rfl, rfl, by decide +kernel, rfl, by decide +kernel, by decide +kernel⟩
theorem sc_number_of : FnScope ["string"] ["string"] (defScope s_number_of) := ⟨rfl, rfl, rfl, by decide +kernel, rfl, by decide +kernel, by decide +kernel⟩
theorem sc_is_whole : FnScope ["value", "low", "high"] ["value", "low", "high"] (defScope s_is_whole) := ⟨rfl, rfl, rfl, by decide +kernel, rfl, by decide +kernel, by decide +kernel⟩
theorem sc_are_rows : FnScope ["value", "many", "m", "row"] ["value", "many", "m"] (defScope s_are_rows) := ⟨rfl, rfl, rfl, by decide +kernel, rfl, by decide +kernel, by decide +kernel⟩
theorem sc_is_generator : FnScope ["value", "kind", "n", "m", "rows"] ["value"] (defScope s_is_generator) := ⟨rfl, rfl, rfl, by decide +kernel, rfl, by decide +kernel, by decide +kernel⟩
theorem sc_is_function : FnScope ["value", "kind", "n", "l", "m", "tables", "rows"] ["value"] (defScope s_is_function) := ⟨rfl, rfl, rfl, by decide +kernel, rfl, by decide +kernel, by decide +kernel⟩
theorem sc_check_block : FnScope ["block"] ["block"] (defScope s_check_block) := ⟨rfl, rfl, rfl, by decide +kernel, rfl, by decide +kernel, by decide +kernel⟩
theorem sc_generator_parts : FnScope ["block"] ["block"] (defScope s_generator_parts) := ⟨rfl, rfl, rfl, by decide +kernel, rfl, by decide +kernel, by decide +kernel⟩
theorem sc_function_parts : FnScope ["block"] ["block"] (defScope s_function_parts) := ⟨rfl, rfl, rfl, by decide +kernel, rfl, by decide +kernel, by decide +kernel⟩
theorem sc_put_out : FnScope ["rows", "state", "k", "out", "_", "row"] ["rows", "state", "k"] (defScope s_put_out) := ⟨rfl, rfl, rfl, by decide +kernel, rfl, by decide +kernel, by decide +kernel⟩
theorem sc_longer : FnScope ["block", "k", "n", "m", "rows", "seed"] ["block", "k"] (defScope s_longer) := ⟨rfl, rfl, rfl, by decide +kernel, rfl, by decide +kernel, by decide +kernel⟩
theorem sc_go_down : FnScope ["rows", "label", "path", "n", "bit", "row"] ["rows", "label", "path"] (defScope s_go_down) := ⟨rfl, rfl, rfl, by decide +kernel, rfl, by decide +kernel, by decide +kernel⟩
theorem sc_tree : FnScope ["block", "d", "n", "m", "rows", "paths", "tables", "key", "path"] ["block", "d"] (defScope s_tree) := ⟨rfl, rfl, rfl, by decide +kernel, rfl, by decide +kernel, by decide +kernel⟩
theorem sc_counter : FnScope ["block", "c", "n", "l", "m", "tables", "values"] ["block", "c"] (defScope s_counter) := ⟨rfl, rfl, rfl, by decide +kernel, rfl, by decide +kernel, by decide +kernel⟩
theorem sc_cut : FnScope ["block", "b", "n", "m", "rows", "row"] ["block", "b"] (defScope s_cut) := ⟨rfl, rfl, rfl, by decide +kernel, rfl, by decide +kernel, by decide +kernel⟩
theorem sc_layers_of : FnScope ["scheme", "layers", "inner"] ["scheme"] (defScope s_layers_of) := ⟨rfl, rfl, rfl, by decide +kernel, rfl, by decide +kernel, by decide +kernel⟩
theorem sc_with_layer : FnScope ["name", "number", "block"] ["name", "number", "block"] (defScope s_with_layer) := ⟨rfl, rfl, rfl, by decide +kernel, rfl, by decide +kernel, by decide +kernel⟩
theorem sc_tables_of : FnScope ["layers", "block", "tables", "name", "number"] ["layers", "block"] (defScope s_tables_of) := ⟨rfl, rfl, rfl, by decide +kernel, rfl, by decide +kernel, by decide +kernel⟩
theorem sc_built : FnScope ["scheme", "block"] ["scheme", "block"] (defScope s_built) := ⟨rfl, rfl, rfl, by decide +kernel, rfl, by decide +kernel, by decide +kernel⟩
theorem sc_check_goal : FnScope ["goal", "block", "name", "whole"] ["goal", "block"] (defScope s_check_goal) := ⟨rfl, rfl, rfl, by decide +kernel, rfl, by decide +kernel, by decide +kernel⟩
theorem sc_law_draws : FnScope ["script", "many", "rests", "draws", "k", "cell", "at", "mixed"] ["script", "many"] (defScope s_law_draws) := ⟨rfl, rfl, rfl, by decide +kernel, rfl, by decide +kernel, by decide +kernel⟩
theorem sc_law_take : FnScope ["hand", "many", "at", "draws"] ["hand", "many"] (defScope s_law_take) := ⟨rfl, rfl, rfl, by decide +kernel, rfl, by decide +kernel, by decide +kernel⟩
theorem sc_law_string : FnScope ["hand", "length", "k"] ["hand", "length"] (defScope s_law_string) := ⟨rfl, rfl, rfl, by decide +kernel, rfl, by decide +kernel, by decide +kernel⟩
theorem sc_law_table : FnScope ["hand", "n", "m", "rows", "k"] ["hand", "n", "m"] (defScope s_law_table) := ⟨rfl, rfl, rfl, by decide +kernel, rfl, by decide +kernel, by decide +kernel⟩
theorem sc_law_function : FnScope ["hand", "n", "l", "m", "rows", "key", "k"] ["hand", "n", "l", "m"] (defScope s_law_function) := ⟨rfl, rfl, rfl, by decide +kernel, rfl, by decide +kernel, by decide +kernel⟩
theorem sc_law_bits : FnScope ["length", "number", "found", "k"] ["length", "number"] (defScope s_law_bits) := ⟨rfl, rfl, rfl, by decide +kernel, rfl, by decide +kernel, by decide +kernel⟩
theorem sc_law_number : FnScope ["string", "found", "sign"] ["string"] (defScope s_law_number) := ⟨rfl, rfl, rfl, by decide +kernel, rfl, by decide +kernel, by decide +kernel⟩
theorem sc_law_longer : FnScope ["table", "k", "n", "rows", "seed", "state", "out", "turn", "row"] ["table", "k"] (defScope s_law_longer) := ⟨rfl, rfl, rfl, by decide +kernel, rfl, by decide +kernel, by decide +kernel⟩
theorem sc_law_tree : FnScope ["table", "d", "n", "rows", "key", "values", "x", "label", "bit", "row"] ["table", "d"] (defScope s_law_tree) := ⟨rfl, rfl, rfl, by decide +kernel, rfl, by decide +kernel, by decide +kernel⟩
theorem sc_law_layer : FnScope ["name", "number", "table", "rows", "row"] ["name", "number", "table"] (defScope s_law_layer) := ⟨rfl, rfl, rfl, by decide +kernel, rfl, by decide +kernel, by decide +kernel⟩
theorem sc_law_block : FnScope ["hand", "kind", "n"] ["hand"] (defScope s_law_block) := ⟨rfl, rfl, rfl, by decide +kernel, rfl, by decide +kernel, by decide +kernel⟩
theorem sc_law_step : FnScope ["hand", "table", "most", "kind"] ["hand", "table"] (defScope s_law_step) := ⟨rfl, rfl, rfl, by decide +kernel, rfl, by decide +kernel, by decide +kernel⟩
theorem sc_law_scheme : FnScope ["hand", "block", "many", "scheme", "table", "layers", "turn", "name", "number"] ["hand", "block", "many"] (defScope s_law_scheme) := ⟨rfl, rfl, rfl, by decide +kernel, rfl, by decide +kernel, by decide +kernel⟩
theorem sc_law_goal : FnScope ["hand", "scheme", "table", "names", "name"] ["hand", "scheme", "table"] (defScope s_law_goal) := ⟨rfl, rfl, rfl, by decide +kernel, rfl, by decide +kernel, by decide +kernel⟩
theorem sc_law_refused : FnScope ["value", "block", "goal", "error"] ["value", "block", "goal"] (defScope s_law_refused) := ⟨rfl, rfl, rfl, by decide +kernel, rfl, by decide +kernel, by decide +kernel⟩
theorem sc_law_bent : FnScope ["hand", "scheme", "odd"] ["hand", "scheme"] (defScope s_law_bent) := ⟨rfl, rfl, rfl, by decide +kernel, rfl, by decide +kernel, by decide +kernel⟩
theorem sc_law_unfit : FnScope ["hand", "scheme", "table", "l", "m", "odd", "n"] ["hand", "scheme", "table"] (defScope s_law_unfit) := ⟨rfl, rfl, rfl, by decide +kernel, rfl, by decide +kernel, by decide +kernel⟩
theorem sc_law_no_goal : FnScope ["hand", "scheme", "table", "odd"] ["hand", "scheme", "table"] (defScope s_law_no_goal) := ⟨rfl, rfl, rfl, by decide +kernel, rfl, by decide +kernel, by decide +kernel⟩
theorem sc_law_edges : FnScope ["hand", "small", "number", "name", "scheme", "wide", "long"] ["hand"] (defScope s_law_edges) := ⟨rfl, rfl, rfl, by decide +kernel, rfl, by decide +kernel, by decide +kernel⟩
theorem sc_law_whole : FnScope ["script", "hand", "block", "scheme", "table", "layers", "goal", "bent", "turn", "unfit", "deep", "deeper", "wrong"] ["script"] (defScope s_law_whole) := ⟨rfl, rfl, rfl, by decide +kernel, rfl, by decide +kernel, by decide +kernel⟩
theorem sc_law : FnScope ["script"] ["script"] (defScope s_law) := ⟨rfl, rfl, rfl, by decide +kernel, rfl, by decide +kernel, by decide +kernel⟩
structure Cs where
  BadBlock : Addr
  BadScheme : Addr
  BreakError : Addr
  ABOUT : Addr
structure Txt (K : PySem.W.Frag) (w : World) (mg : Str → Option Value) (cs : Cs) : Prop where
  gl_BadBlock : mg "BadBlock" = some (.ref cs.BadBlock)
  gl_BadScheme : mg "BadScheme" = some (.ref cs.BadScheme)
  gl_BreakError : mg "BreakError" = some (.ref cs.BreakError)
  gl_ABOUT : mg "ABOUT" = some (.ref cs.ABOUT)
  dk_ABOUT : DictK K w cs.ABOUT ["tell", "marks", "secrets", "once", "opening", "next"] (txtR [("tell", "any"), ("marks", "function"), ("secrets", "function"), ("once", "generator"), ("opening", "generator"), ("next", "generator")])
  x_BadBlock : Exn K mg "BadBlock" cs.BadBlock
  e_BadBlock : ExcC K cs.BadBlock
  exm_BadBlock_BadBlock : PySem.W.exmOne K (.ref cs.BadBlock) (.ref cs.BadBlock) = some true
  kit_BadBlock_BreakError : PySem.W.kitOne K (.ref cs.BadBlock) (.ref cs.BreakError) = some true
  kit_BadBlock_ValueError : PySem.W.kitOne K (.ref cs.BadBlock) (.type "ValueError") = some true
  exm_BadBlock_BadScheme : PySem.W.exmOne K (.ref cs.BadBlock) (.ref cs.BadScheme) = some false
  x_BadScheme : Exn K mg "BadScheme" cs.BadScheme
  e_BadScheme : ExcC K cs.BadScheme
  exm_BadScheme_BadBlock : PySem.W.exmOne K (.ref cs.BadScheme) (.ref cs.BadBlock) = some false
  exm_BadScheme_BadScheme : PySem.W.exmOne K (.ref cs.BadScheme) (.ref cs.BadScheme) = some true
  kit_BadScheme_BreakError : PySem.W.kitOne K (.ref cs.BadScheme) (.ref cs.BreakError) = some true
  kit_BadScheme_ValueError : PySem.W.kitOne K (.ref cs.BadScheme) (.type "ValueError") = some true
  n_ValueError : mg "ValueError" = none
  n_abs : mg "abs" = none
  n_all : mg "all" = none
  n_bool : mg "bool" = none
  n_int : mg "int" = none
  n_isinstance : mg "isinstance" = none
  n_len : mg "len" = none
  n_list : mg "list" = none
  n_min : mg "min" = none
  n_range : mg "range" = none
  n_str : mg "str" = none
  n_tuple : mg "tuple" = none
  g_DEEPEST : ∃ u, mg "DEEPEST" = some u ∧ RelV (.int 8) u
  g_MOST_BITS : ∃ u, mg "MOST_BITS" = some u ∧ RelV (.int 40) u
def top_level : Nat := 13
section
variable {P : Program} {w : World} {K : PySem.W.Frag} {mg : Str → Option Value} {base : Heap} {cs : Cs}
theorem dig_len {n k : Nat} (h : k < 2 ^ (n + 1)) : (dig k).length ≤ n + 1 := by
  obtain ⟨p, e⟩ := dig_toB n k h
  have := congrArg List.length e
  rw [List.length_map, toB_len, List.length_append, List.length_replicate] at this
  omega
theorem ok_bits {f : Addr} {fd : FuncData} (D : Df K mg "bits" s_bits ["length", "number"] f fd) (T : Txt K w mg cs) : FnOk P w K mg base CX0 1 f fd ["length", "number"] spBits := by
  refine D.fn.ok sc_bits (fun vs H Q E h => ?_) (fun cdv A outer s H vs Q E hr h => ?_)
  · obtain ⟨n, k, rfl, _⟩ := h
    rfl
  · obtain ⟨n, k, rfl, hn, hk, q⟩ := h
    refine ⟨_, (pss_cons (ps_if (pt_cmpR op_eq (pv 0) pe_int (nomark _)) (pss_one (ps_ret pe_str)) pss_nil) (pss_one (ps_ret (pe_m1 PySem.F.slot_str_zfill PySem.F.type_str_zfill mt_zfill (pe_fmtB (pv 1)) (pv 0))))), ?_⟩
    refine ⟨_, rfl, rfl, _, rfl, ite2 (fun c => ?_) (fun c => ?_)⟩
    · have e : (n : Int) = 0 := V.int.inj (of_decide_eq_true c)
      have e : n = 0 := by omega
      subst e
      exact q
    · obtain ⟨m, rfl⟩ : ∃ m, n = m + 1 := by
        cases n with
        | zero => exact absurd (decide_eq_true rfl) c
        | succ m => exact ⟨m, rfl⟩
      refine ⟨_, rfl, k, rfl, ?_, ⟨_, rfl⟩, _, rfl, _, _, rfl, rfl, padOk_of (by omega) (by omega), ?_⟩
      · have := dig_len hk
        omega
      · rw [zfill_dig m k hk]
        exact q

theorem num_val (bs : List Bool) : Two.num (bs.map cB) = val bs := by
  unfold Two.num val
  rw [List.foldl_map]
  congr 1
  funext a b
  cases b
  · show a * 2 + 0 = 2 * a + 0
    omega
  · show a * 2 + 1 = 2 * a + 1
    omega
theorem ok_number {f : Addr} {fd : FuncData} (D : Df K mg "number_of" s_number_of ["string"] f fd) (T : Txt K w mg cs) : FnOk P w K mg base CX0 1 f fd ["string"] spNumber := by
  refine D.fn.ok sc_number_of (fun vs H Q E h => ?_) (fun cdv A outer s H vs Q E hr h => ?_)
  · obtain ⟨bs, rfl, _⟩ := h
    rfl
  · obtain ⟨bs, rfl, hl, q⟩ := h
    refine ⟨_, (pss_cons (ps_if (pt_cmpR op_eq (pv 0) pe_str (nomark _)) (pss_one (ps_ret pe_int)) pss_nil) (pss_one (ps_ret (pe_callTy call_int_bin (by rfl) T.n_int (by decide +kernel) (pa_cons (pv 0) (pa_cons pe_int pa_nil)))))), ?_⟩
    refine ⟨_, rfl, rfl, _, rfl, ite2 (fun c => ?_) (fun c => ?_)⟩
    · have e : sb bs = sb [] := V.str.inj (of_decide_eq_true c)
      have e := sb_inj e
      subst e
      exact q
    · refine ⟨_, rfl, bs.map cB, rfl, ⟨?_, ?_, ?_⟩, ?_⟩
      · intro z
        have e : bs = [] := List.map_eq_nil_iff.mp z
        subst e
        exact c (decide_eq_true rfl)
      · rw [List.length_map]
        exact hl
      · intro x hx
        obtain ⟨b, _, rfl⟩ := List.mem_map.mp hx
        cases b
        · exact .inl rfl
        · exact .inr rfl
      · rw [num_val]
        exact q

theorem ok_whole {f : Addr} {fd : FuncData} (D : Df K mg "is_whole" s_is_whole ["value", "low", "high"] f fd) (T : Txt K w mg cs) : FnOk P w K mg base CX0 1 f fd ["value", "low", "high"] (spWhole K) := by
  refine D.fn.ok sc_is_whole (fun vs H Q E h => ?_) (fun cdv A outer s H vs Q E hr h => ?_)
  · obtain ⟨v, d, lo, hi, rfl, _⟩ := h
    rfl
  · obtain ⟨v, d, lo, hi, rfl, hd, q⟩ := h
    refine ⟨_, (pss_one (ps_ret (pe_and (pe_callB (isiK K) (by rfl) T.n_isinstance (by decide +kernel) (pa_cons (pv 0) (pa_cons (pe_ty "int" (by rfl) T.n_int (by decide +kernel)) pa_nil))) (pe_and (pe_not (pe_callB (isiK K) (by rfl) T.n_isinstance (by decide +kernel) (pa_cons (pv 0) (pa_cons (pe_ty "bool" (by rfl) T.n_bool (by decide +kernel)) pa_nil)))) (pe_one (pe_chain op_le op_le (pv 1) (pv 0) (pv 2))))))), ?_⟩
    refine ⟨_, rfl, _, _, _, _, _, rfl, .ty "int", dp_ty hd, kit_int d, _, rfl, ?_⟩
    cases d with
    | int i =>
      cases hd
      refine ⟨_, rfl, _, _, _, _, false, rfl, .ty "bool", .base (.int i), kit_ty (by decide +kernel), _, rfl, _, rfl, ?_⟩
      refine ⟨_, rfl, _, rfl, _, _, rfl, rfl, _, rfl, ?_⟩
      by_cases c : lo ≤ i
      · rw [decide_eq_true c]
        refine ⟨_, rfl, _, _, rfl, rfl, ?_⟩
        have e : whole (.int i) lo hi = decide (i ≤ hi) := by
          show (decide (lo ≤ i) && decide (i ≤ hi)) = _
          rw [decide_eq_true c, Bool.true_and]
        rw [e] at q
        exact q
      · rw [decide_eq_false c]
        have e : whole (.int i) lo hi = false := by
          show (decide (lo ≤ i) && decide (i ≤ hi)) = _
          rw [decide_eq_false c, Bool.false_and]
        rw [e] at q
        exact q
    | bool b =>
      cases hd
      exact ⟨_, rfl, _, _, _, _, true, rfl, .ty "bool", .base (.bl b), kit_ty (by decide +kernel), _, rfl, _, rfl, q⟩
    | none => exact q
    | str x => exact q
    | list xs => exact q
    | tuple xs => exact q
    | dict xs => exact q
theorem all_rows {m : Int} {xs : List PyData} (h : xs.all (strLen m) = true) : ∃ ys : List Str, xs = ys.map PyData.str ∧ ∀ y ∈ ys, (y.length : Int) = m := by
  induction xs with
  | nil => exact ⟨[], rfl, fun y hy => (nomatch hy)⟩
  | cons x xs ih =>
    rw [List.all_cons, Bool.and_eq_true] at h
    obtain ⟨ys, e, hy⟩ := ih h.2
    cases x with
    | str z =>
      refine ⟨z :: ys, by rw [e]; rfl, fun y hy' => ?_⟩
      rcases List.mem_cons.mp hy' with r | r
      · subst r
        exact of_decide_eq_true h.1
      · exact hy y r
    | _ => cases h.1
theorem dp_strs {K : PySem.W.Frag} {H : Hp} : ∀ {vs : List V} {ys : List Str}, DpAll K H vs (ys.map PyData.str) → vs = ys.map V.str
  | _, [], .nil => rfl
  | _, y :: ys, .cons (.str _) t => by rw [List.map_cons, dp_strs t]
theorem sum_len {m : Nat} : ∀ {ys : List Str}, (∀ y ∈ ys, (y.length : Int) = (m : Int)) → (ys.map (·.length)).sum = ys.length * m
  | [], _ => by simp
  | y :: ys, h => by
    have h1 := h y List.mem_cons_self
    rw [List.map_cons, List.sum_cons, sum_len fun z hz => h z (List.mem_cons_of_mem _ hz), List.length_cons, Nat.succ_mul]
    omega
theorem all_bits {m : Int} {ys : List Str} (h : ∀ y ∈ ys, (y.length : Int) = m) : (ys.map PyData.str).all (bitRow m) = (Txt.join "" ys).cps.toList.all (fun c => c == 48 || c == 49) := by
  rw [join_all]
  induction ys with
  | nil => rfl
  | cons y ys ih =>
    rw [List.map_cons, List.all_cons, ih fun z hz => h z (List.mem_cons_of_mem _ hz), List.map_cons, List.flatten_cons, List.all_append]
    congr 1
    show (decide ((y.length : Int) = m) && _) = _
    rw [decide_eq_true (h y List.mem_cons_self), Bool.true_and]
theorem not_all {m : Int} {xs : List PyData} (h : xs.all (strLen m) = false) : xs.all (bitRow m) = false := by
  rw [Bool.eq_false_iff] at h ⊢
  intro z
  refine h ?_
  rw [List.all_eq_true] at z ⊢
  intro x hx
  have := z x hx
  cases x with
  | str y =>
    have h2 : (decide ((y.length : Int) = m) && y.cps.toList.all (fun c => c == 48 || c == 49)) = true := this
    exact (Bool.and_eq_true_iff.mp h2).1
  | _ => cases this
theorem ok_rows {f : Addr} {fd : FuncData} (D : Df K mg "are_rows" s_are_rows ["value", "many", "m"] f fd) (T : Txt K w mg cs) : FnOk P w K mg base CX0 1 f fd ["value", "many", "m"] (spRows K) := by
  refine D.fn.ok sc_are_rows (fun vs H Q E h => ?_) (fun cdv A outer s H vs Q E hr h => ?_)
  · obtain ⟨v, d, n, many, m, rfl, _⟩ := h
    rfl
  · obtain ⟨v, d, n, many, m, rfl, hd, hg, hmany, hm, q⟩ := h
    refine ⟨_, (pss_cons (ps_if (PW.pt (pw_or (pt_not (pt_val (pe_callB (isiK K) (by rfl) T.n_isinstance (by decide +kernel) (pa_cons (pv 0) (pa_cons (pe_ty "tuple" (by rfl) T.n_tuple (by decide +kernel)) pa_nil))))) (pw_or1 (pt_cmpR op_ne (pe_callB (lenS K) (by rfl) T.n_len (by decide +kernel) (pa_cons (pv 0) pa_nil)) (pv 1) (nomark _))))) (pss_one (ps_ret pe_bl)) pss_nil) (pss_cons (ps_if (pt_not (pt_val (pe_callB (crAll K rfl) (by rfl) T.n_all (by decide +kernel) (pa_cons (pe_lc (own := [("row", 3)]) (g := gName 3) (tt := tYes) rfl sc_are_rows.nd (pi_tup (pv 0)) (blkOk_by (own := [("row", 3)]) (N := ["value", "many", "m", "row"]) (sc := defScope s_are_rows) (by decide +kernel)) (fun _ _ _ _ _ => (pg_name (i := 3) sc_are_rows.nd rfl (.inl rfl))) (fun _ _ _ _ _ => pts_nil) (fun _ _ _ _ _ => (pe_and (pe_callB (isiK K) (by rfl) T.n_isinstance (by decide +kernel) (pa_cons (pv 3) (pa_cons (pe_ty "str" (by rfl) T.n_str (by decide +kernel)) pa_nil))) (pe_one (pe_cmpR op_eq (pe_callB call_len_str (by rfl) T.n_len (by decide +kernel) (pa_cons (pv 3) pa_nil)) (pv 2) (nomark _)))))) pa_nil)))) (pss_one (ps_ret pe_bl)) pss_nil) (pss_one (ps_ret (pe_cmpR op_eq (pe_m1 PySem.F.slot_str_strip PySem.F.type_str_strip mt_stripChars (pe_m1 PySem.F.slot_str_join PySem.F.type_str_join (mtJoin K) pe_str (pv 0)) pe_str) pe_str (nomark _)))))), ?_⟩
    refine ⟨_, rfl, _, _, _, _, _, rfl, .ty "tuple", dp_ty hd, kit_tup d, _, rfl, ?_⟩
    cases d with
    | tuple xs =>
      cases hd with
      | @tup a ws _ hT hA =>
        obtain ⟨hl, n', rfl, hx⟩ := gd_tup hg
        have hwl := dp_all_len hA
        refine ⟨_, rfl, a, ws, rfl, .inr hT, _, rfl, rfl, _, rfl, ?_⟩
        by_cases c : (ws.length : Int) = many
        · rw [decide_eq_true (show V.int (ws.length : Int) = V.int many by rw [c])]
          -- all([isinstance(row, str) and len(row) == m for row in value])
          refine ⟨_, rfl, a, rfl, ⟨_, hT⟩, fun Dl hD => ?_⟩
          refine lc_tup (xs := ws) (fun i H' => Same H H' ∧ H' Dl = some (.lst ((xs.take i).map fun x => V.bl (strLen m x)))) ?_ ?_ ?_ ?_
          · exact ⟨same_new hD, upd_same⟩
          · rintro i H' _ ⟨s1, _⟩
            exact same_sqt s1 hT
          · rintro i x H' hxi ⟨s1, e1⟩
            obtain ⟨d, hdi, hdx⟩ := dp_all_get hA hxi
            have hdx' := dp_same s1 d hdx
            have hgd := hx d (List.mem_of_getElem? hdi)
            have hi : i < xs.length := (List.getElem?_eq_some_iff.mp hdi).1
            have fin : ∀ b : Bool, strLen m d = b → ∃ acc, H' Dl = some (.lst acc) ∧ acc.length < sizeLine ∧ (Same H (upd H' Dl (.lst (acc ++ [.bl b]))) ∧ upd H' Dl (.lst (acc ++ [.bl b])) Dl = some (.lst ((xs.take (i + 1)).map fun x => V.bl (strLen m x)))) := by
              intro b hb
              refine ⟨_, e1, ?_, fun p o e => ?_, ?_⟩
              · rw [List.length_map, List.length_take]
                exact Nat.lt_of_lt_of_le (show min i xs.length < 10000 by omega) (by decide)
              · rw [upd_ne (ne_of_none e hD)]
                exact s1 p o e
              · rw [upd_same, List.take_add_one, hdi, List.map_append]
                show _ = some (HO.lst (_ ++ [V.bl (strLen m d)]))
                rw [hb]
            refine ⟨rfl, ?_⟩
            refine ⟨_, rfl, _, _, _, _, _, rfl, .ty "str", dp_ty hdx', kit_str d, _, rfl, ?_⟩
            cases d with
            | str z =>
              cases hdx'
              have hz := (gd_str hgd).2
              refine ⟨_, rfl, z, rfl, ?_, _, rfl, rfl, ?_⟩
              · rw [sizeLine_eq]
                omega
              · refine fin _ ?_
                show decide ((z.length : Int) = m) = decide (V.int (z.length : Int) = V.int m)
                by_cases c : (z.length : Int) = m
                · rw [decide_eq_true c, decide_eq_true (congrArg V.int c)]
                · rw [decide_eq_false c, decide_eq_false fun z => c (V.int.inj z)]
            | none => exact fin false rfl
            | bool b => exact fin false rfl
            | int b => exact fin false rfl
            | list b => exact fin false rfl
            | tuple b => exact fin false rfl
            | dict b => exact fin false rfl
          · rintro H' ⟨s1, e1⟩
            have et : (xs.take ws.length).map (fun x => V.bl (strLen m x)) = ((xs.map (strLen m)).map V.bl) := by
              rw [List.take_of_length_le (by omega), List.map_map]
              rfl
            rw [et] at e1
            refine ⟨Dl, _, rfl, .inl (.inl e1), _, rfl, ?_⟩
            have ea : (xs.map (strLen m)).all id = xs.all (strLen m) := by
              rw [List.all_map]
              rfl
            rw [ea]
            cases hc : xs.all (strLen m) with
            | false =>
              have e : rowsOk (.tuple xs) many m = false := by
                show (decide _ && xs.all (bitRow m)) = false
                rw [not_all hc, Bool.and_false]
              have q' := q H' s1
              rw [e] at q'
              exact q'
            | true =>
              obtain ⟨ys, rfl, hy⟩ := all_rows hc
              have ew := dp_strs hA
              subst ew
              have hm0 : ∃ k : Nat, ys = [] ∨ m = (k : Int) := by
                cases ys with
                | nil => exact ⟨0, .inl rfl⟩
                | cons y ys => exact ⟨y.length, .inr (hy y List.mem_cons_self).symm⟩
              have hsum : (ys.map (·.length)).sum ≤ 4096 * 40 := by
                obtain ⟨k, rfl | rfl⟩ := hm0
                · simp
                · rw [sum_len hy]
                  have h1 : ys.length ≤ 4096 := by
                    rw [List.length_map] at c
                    omega
                  have h2 : k ≤ 40 := by omega
                  exact Nat.mul_le_mul h1 h2
              refine ⟨⟨_, rfl⟩, _, rfl, "", a, ys, rfl, rfl, .inr (same_sqt s1 hT), ?_, ⟨_, rfl⟩, _, _, rfl, rfl, ?_, rfl, ?_⟩
              · show _ + _ * 0 ≤ _
                omega
              · have hj : (Txt.join "" ys).length = (ys.map (·.length)).sum := by
                  show (Txt.join "" ys).cps.size = _
                  rw [← Array.length_toList, join_all, List.length_flatten, List.map_map]
                  congr 1
                rw [hj, sizeLine_eq]
                omega
              · rw [strip_all, ← all_bits hy]
                have e : rowsOk (.tuple (ys.map PyData.str)) many m = (ys.map PyData.str).all (bitRow m) := by
                  show (decide (((ys.map PyData.str).length : Int) = many) && _) = _
                  rw [decide_eq_true (by rw [List.length_map] at c ⊢; exact c), Bool.true_and]
                have q' := q H' s1
                rw [e] at q'
                exact q'
        · rw [decide_eq_false (show ¬ V.int (ws.length : Int) = V.int many from fun z => c (V.int.inj z))]
          have e : rowsOk (.tuple xs) many m = false := by
            show (decide ((xs.length : Int) = many) && _) = false
            rw [decide_eq_false (by rw [← hwl]; exact c), Bool.false_and]
          have q' := q H (Same.refl H)
          rw [e] at q'
          exact q'
    | bool b => exact q H (Same.refl H)
    | none => exact q H (Same.refl H)
    | int x => exact q H (Same.refl H)
    | str x => exact q H (Same.refl H)
    | list xs => exact q H (Same.refl H)
    | dict xs => exact q H (Same.refl H)

theorem ok_gen {f : Addr} {fd : FuncData} (D : Df K mg "is_generator" s_is_generator ["value"] f fd) (T : Txt K w mg cs) (c_is_whole : Cl P w K mg base CX0 1 "is_whole" (spWhole K)) (c_are_rows : Cl P w K mg base CX0 1 "are_rows" (spRows K)) : FnOk P w K mg base CX0 2 f fd ["value"] (spGen K) := by
  refine D.fn.ok sc_is_generator (fun vs H Q E h => ?_) (fun cdv A outer s H vs Q E hr h => ?_)
  · obtain ⟨v, d, n, rfl, _⟩ := h
    rfl
  · obtain ⟨v, d, n, rfl, hd, hg, hn64, q⟩ := h
    refine ⟨_, (pss_cons (ps_if (PW.pt (pw_or (pt_not (pt_val (pe_callB (isiK K) (by rfl) T.n_isinstance (by decide +kernel) (pa_cons (pv 0) (pa_cons (pe_ty "tuple" (by rfl) T.n_tuple (by decide +kernel)) pa_nil))))) (pw_or1 (pt_cmpR op_ne (pe_callB (lenS K) (by rfl) T.n_len (by decide +kernel) (pa_cons (pv 0) pa_nil)) pe_int (nomark _))))) (pss_one (ps_ret pe_bl)) pss_nil) (pss_cons (ps_asg (pv 0) (pg_tup (by rfl) (pgs_cons (pg_name (i := 1) sc_is_generator.nd rfl (.inl rfl)) (pgs_cons (pg_name (i := 2) sc_is_generator.nd rfl (.inl rfl)) (pgs_cons (pg_name (i := 3) sc_is_generator.nd rfl (.inl rfl)) (pgs_cons (pg_name (i := 4) sc_is_generator.nd rfl (.inl rfl)) pgs_nil)))))) (pss_cons (ps_if (PW.pt (pw_or (pt_cmpR (op_neD hr.units) (pv 1) pe_str (nomark _)) (pw_or (pt_not (pt_val (pe_cl c_is_whole hr (by first | decide | omega) (by rfl) (pa_cons (pv 2) (pa_cons pe_int (pa_cons pe_int pa_nil)))))) (pw_or1 (pt_not (pt_val (pe_cl c_is_whole hr (by first | decide | omega) (by rfl) (pa_cons (pv 3) (pa_cons pe_int (pa_cons (C8.pe_gc (by rfl) T.g_MOST_BITS) pa_nil)))))))))) (pss_one (ps_ret pe_bl)) pss_nil) (pss_one (ps_ret (pe_cl c_are_rows hr (by first | decide | omega) (by rfl) (pa_cons (pv 4) (pa_cons (pe_op op_shl pe_int (pv 2)) (pa_cons (pv 3) pa_nil))))))))), ?_⟩
    refine ⟨_, rfl, _, _, _, _, _, rfl, .ty "tuple", dp_ty hd, kit_tup d, _, rfl, ?_⟩
    cases d with
    | tuple xs =>
      cases hd with
      | @tup a ws _ hT hA =>
        obtain ⟨hl, n', rfl, hx⟩ := gd_tup hg
        have hwl := dp_all_len hA
        refine ⟨_, rfl, a, ws, rfl, .inr hT, rfl, _, rfl, ?_⟩
        by_cases c : ws.length = 4
        · obtain ⟨v0, v1, v2, v3, k, n, m, r, rfl, rfl, h0, h1, h2, h3⟩ := dp4 hA c
          rw [decide_eq_true (show V.int (([v0, v1, v2, v3].length : Nat) : Int) = V.int 4 from rfl)]
          refine ⟨_, rfl, a, _, rfl, hT, rfl, _, _, rfl, _, _, rfl, _, _, rfl, _, _, rfl, rfl, ?_⟩
          have g0 := hx k List.mem_cons_self
          have g3 := hx r (List.mem_cons_of_mem _ (List.mem_cons_of_mem _ (List.mem_cons_of_mem _ List.mem_cons_self)))
          rw [gen_eq] at q
          -- kind != 'generator'
          refine ⟨_, rfl, k, .str "generator", h0, .str _, gd_shaped g0 (by omega), by decide +kernel, _, rfl, ?_⟩
          rw [name_ne]
          cases ck : named "generator" k with
          | false =>
            rw [ck] at q
            exact q H (Same.refl H)
          | true =>
            rw [ck] at q
            refine ⟨_, rfl, v1, n, 1, 10, rfl, h1, _, rfl, ?_⟩
            cases cn : whole n 1 10 with
            | false =>
              rw [cn] at q
              exact q H (Same.refl H)
            | true =>
              rw [cn] at q
              refine ⟨_, rfl, v2, m, 1, 40, rfl, h2, _, rfl, ?_⟩
              cases cm : whole m 1 40 with
              | false =>
                rw [cm] at q
                exact q H (Same.refl H)
              | true =>
                rw [cm] at q
                obtain ⟨n, rfl, n1, n2⟩ := whole_int cn
                obtain ⟨m, rfl, m1, m2⟩ := whole_int cm
                cases h1
                cases h2
                refine ⟨_, rfl, _, rfl, _, _, rfl, rfl, ⟨by omega, by omega, by decide⟩, _, rfl, v3, r, _, _, _, rfl, h3, g3, ?_, m2, fun H' s' => q H' s'⟩
                exact Int.le_trans (pow_le (b := 10) n1 n2) (by decide)
        · have hne : ((ws.length : Nat) : Int) ≠ 4 := by omega
          rw [decide_eq_false (show ¬ V.int (ws.length : Int) = V.int 4 from fun z => hne (V.int.inj z))]
          have e := gen_no (xs := xs) (by omega)
          have q' := q H (Same.refl H)
          rw [e] at q'
          exact q'
    | bool b => exact q H (Same.refl H)
    | none => exact q H (Same.refl H)
    | int x => exact q H (Same.refl H)
    | str x => exact q H (Same.refl H)
    | list xs => exact q H (Same.refl H)
    | dict xs => exact q H (Same.refl H)

theorem ok_fun {f : Addr} {fd : FuncData} (D : Df K mg "is_function" s_is_function ["value"] f fd) (T : Txt K w mg cs) (c_is_whole : Cl P w K mg base CX0 1 "is_whole" (spWhole K)) (c_are_rows : Cl P w K mg base CX0 1 "are_rows" (spRows K)) : FnOk P w K mg base CX0 2 f fd ["value"] (spFun K) := by
  refine D.fn.ok sc_is_function (fun vs H Q E h => ?_) (fun cdv A outer s H vs Q E hr h => ?_)
  · obtain ⟨v, d, n, rfl, _⟩ := h
    rfl
  · obtain ⟨v, d, n, rfl, hd, hg, hn64, q⟩ := h
    refine ⟨_, (pss_cons (ps_if (PW.pt (pw_or (pt_not (pt_val (pe_callB (isiK K) (by rfl) T.n_isinstance (by decide +kernel) (pa_cons (pv 0) (pa_cons (pe_ty "tuple" (by rfl) T.n_tuple (by decide +kernel)) pa_nil))))) (pw_or1 (pt_cmpR op_ne (pe_callB (lenS K) (by rfl) T.n_len (by decide +kernel) (pa_cons (pv 0) pa_nil)) pe_int (nomark _))))) (pss_one (ps_ret pe_bl)) pss_nil) (pss_cons (ps_asg (pv 0) (pg_tup (by rfl) (pgs_cons (pg_name (i := 1) sc_is_function.nd rfl (.inl rfl)) (pgs_cons (pg_name (i := 2) sc_is_function.nd rfl (.inl rfl)) (pgs_cons (pg_name (i := 3) sc_is_function.nd rfl (.inr rfl)) (pgs_cons (pg_name (i := 4) sc_is_function.nd rfl (.inr rfl)) (pgs_cons (pg_name (i := 5) sc_is_function.nd rfl (.inl rfl)) pgs_nil))))))) (pss_cons (ps_if (PW.pt (pw_or (pt_cmpR (op_neD hr.units) (pv 1) pe_str (nomark _)) (pw_or (pt_not (pt_val (pe_cl c_is_whole hr (by first | decide | omega) (by rfl) (pa_cons (pv 2) (pa_cons pe_int (pa_cons pe_int pa_nil)))))) (pw_or (pt_not (pt_val (pe_cl c_is_whole hr (by first | decide | omega) (by rfl) (pa_cons (pv 3) (pa_cons pe_int (pa_cons pe_int pa_nil)))))) (pw_or1 (pt_cmpR op_gt (pe_op op_add (pv 2) (pv 3)) pe_int (nomark _))))))) (pss_one (ps_ret pe_bl)) pss_nil) (pss_cons (ps_if (PW.pt (pw_or (pt_not (pt_val (pe_cl c_is_whole hr (by first | decide | omega) (by rfl) (pa_cons (pv 4) (pa_cons pe_int (pa_cons (C8.pe_gc (by rfl) T.g_MOST_BITS) pa_nil)))))) (pw_or (pt_not (pt_val (pe_callB (isiK K) (by rfl) T.n_isinstance (by decide +kernel) (pa_cons (pv 5) (pa_cons (pe_ty "tuple" (by rfl) T.n_tuple (by decide +kernel)) pa_nil))))) (pw_or1 (pt_cmpR op_ne (pe_callB (lenS K) (by rfl) T.n_len (by decide +kernel) (pa_cons (pv 5) pa_nil)) (pe_op op_shl pe_int (pv 2)) (nomark _)))))) (pss_one (ps_ret pe_bl)) pss_nil) (pss_one (ps_ret (pe_callB (crAll K rfl) (by rfl) T.n_all (by decide +kernel) (pa_cons (pe_lc (own := [("rows", 6)]) (g := gName 6) (tt := tYes) rfl sc_is_function.nd (pi_tup (pv 5)) (blkOk_by (own := [("rows", 6)]) (N := ["value", "kind", "n", "l", "m", "tables", "rows"]) (sc := defScope s_is_function) (by decide +kernel)) (fun _ _ _ _ _ => (pg_name (i := 6) sc_is_function.nd rfl (.inl rfl))) (fun _ _ _ _ _ => pts_nil) (fun _ _ _ _ _ => (pe_cl c_are_rows hr (by first | decide | omega) (by rfl) (pa_cons (pv 6) (pa_cons (pe_op op_shl pe_int (pv 3)) (pa_cons (pv 4) pa_nil)))))) pa_nil)))))))), ?_⟩
    refine ⟨_, rfl, _, _, _, _, _, rfl, .ty "tuple", dp_ty hd, kit_tup d, _, rfl, ?_⟩
    cases d with
    | tuple xs =>
      cases hd with
      | @tup a ws _ hT hA =>
        obtain ⟨hl, n', rfl, hx⟩ := gd_tup hg
        have hwl := dp_all_len hA
        refine ⟨_, rfl, a, ws, rfl, .inr hT, rfl, _, rfl, ?_⟩
        by_cases c : ws.length = 5
        · obtain ⟨v0, v1, v2, v3, v4, k, n, l, m, t, rfl, rfl, h0, h1, h2, h3, h4⟩ := dp5 hA c
          rw [decide_eq_true (show V.int (([v0, v1, v2, v3, v4].length : Nat) : Int) = V.int 5 from rfl)]
          refine ⟨_, rfl, a, _, rfl, hT, rfl, _, _, rfl, _, _, rfl, _, _, rfl, _, _, rfl, _, _, rfl, rfl, ?_⟩
          have g0 := hx k List.mem_cons_self
          have g4 := hx t (List.mem_cons_of_mem _ (List.mem_cons_of_mem _ (List.mem_cons_of_mem _ (List.mem_cons_of_mem _ List.mem_cons_self))))
          clear hx hA hT hwl hl c
          rw [fun_eq] at q
          -- kind != 'function'
          refine ⟨_, rfl, k, .str "function", h0, .str _, gd_shaped g0 (by omega), by decide +kernel, _, rfl, ?_⟩
          rw [name_ne]
          cases ck : named "function" k with
          | false =>
            rw [ck] at q
            exact q H (Same.refl H)
          | true =>
            rw [ck] at q
            refine ⟨_, rfl, v1, n, 1, 8, rfl, h1, _, rfl, ?_⟩
            cases cn : whole n 1 8 with
            | false =>
              rw [cn] at q
              exact q H (Same.refl H)
            | true =>
              rw [cn] at q
              refine ⟨_, rfl, v2, l, 1, 8, rfl, h2, _, rfl, ?_⟩
              cases cl : whole l 1 8 with
              | false =>
                rw [cl] at q
                exact q H (Same.refl H)
              | true =>
                rw [cl] at q
                obtain ⟨n, rfl, n1, n2⟩ := whole_int cn
                obtain ⟨l, rfl, l1, l2⟩ := whole_int cl
                cases h1
                cases h2
                refine ⟨_, rfl, _, rfl, _, _, rfl, rfl, _, _, rfl, rfl, _, rfl, ?_⟩
                by_cases cs : n + l ≤ 12
                · rw [decide_eq_false (show ¬ (12 : Int) < n + l by omega)]
                  have e : sumLe (.int n) (.int l) = true := decide_eq_true cs
                  rw [e] at q
                  refine ⟨_, rfl, v3, m, 1, 40, rfl, h3, _, rfl, ?_⟩
                  cases cm : whole m 1 40 with
                  | false =>
                    rw [cm] at q
                    exact q H (Same.refl H)
                  | true =>
                    rw [cm] at q
                    obtain ⟨m, rfl, m1, m2⟩ := whole_int cm
                    cases h3
                    -- isinstance(tables, tuple), len(tables)
                    refine ⟨_, rfl, _, _, _, _, _, rfl, .ty "tuple", dp_ty h4, kit_tup t, _, rfl, ?_⟩
                    cases t with
                    | tuple ts =>
                      cases h4 with
                      | @tup b us _ hT hA =>
                        obtain ⟨hl, n'', rfl, hx⟩ := gd_tup g4
                        have hwl := dp_all_len hA
                        have q2 : ∀ H' : Hp, Same H H' → Q (.bl (decide ((ts.length : Int) = 1 * 2 ^ n.toNat) && ts.all (fun r => rowsOk r (1 * 2 ^ l.toNat) m))) H' := fun H' s' => q H' s'
                        clear q
                        refine ⟨_, rfl, b, us, rfl, .inr hT, _, rfl, _, _, rfl, rfl, ⟨by omega, by omega, by decide⟩, rfl, _, rfl, ?_⟩
                        by_cases c : ((us.length : Nat) : Int) = 1 * 2 ^ n.toNat
                        · rw [decide_eq_true (show V.int ((us.length : Nat) : Int) = V.int (1 * 2 ^ n.toNat) from congrArg V.int c)]
                          refine ⟨_, rfl, b, rfl, ⟨_, hT⟩, fun Dl hD => ?_⟩
                          refine lc_tup (xs := us) (fun i H' => Same H H' ∧ H' Dl = some (.lst ((ts.take i).map fun r => V.bl (rowsOk r (1 * 2 ^ l.toNat) m)))) ?_ ?_ ?_ ?_
                          · exact ⟨same_new hD, upd_same⟩
                          · rintro i H' _ ⟨s1, _⟩
                            exact same_sqt s1 hT
                          · rintro i x H' hxi ⟨s1, e1⟩
                            obtain ⟨d, hdi, hdx⟩ := dp_all_get hA hxi
                            have hi : i < ts.length := (List.getElem?_eq_some_iff.mp hdi).1
                            refine ⟨rfl, ?_⟩
                            refine ⟨_, rfl, _, rfl, _, _, rfl, rfl, ⟨by omega, by omega, by decide⟩, _, rfl, x, d, _, _, _, rfl, dp_same s1 d hdx, hx d (List.mem_of_getElem? hdi), ?_, m2, fun H2 s2 => ?_⟩
                            · exact Int.le_trans (pow_le (b := 8) l1 l2) (by decide)
                            · refine ⟨_, s2 _ _ e1, ?_, fun p o e => ?_, ?_⟩
                              · rw [List.length_map, List.length_take]
                                exact Nat.lt_of_lt_of_le (show min i ts.length < 10000 by omega) (by decide)
                              · rw [upd_ne (ne_of_none e hD)]
                                exact s2 _ _ (s1 p o e)
                              · rw [upd_same, List.take_add_one, hdi, List.map_append]
                                rfl
                          · rintro H' ⟨s1, e1⟩
                            have et : (ts.take us.length).map (fun r => V.bl (rowsOk r (1 * 2 ^ l.toNat) m)) = ((ts.map (fun r => rowsOk r (1 * 2 ^ l.toNat) m)).map V.bl) := by
                              rw [List.take_of_length_le (by omega), List.map_map]
                              rfl
                            rw [et] at e1
                            refine ⟨Dl, _, rfl, .inl (.inl e1), ?_⟩
                            have ea : (ts.map (fun r => rowsOk r (1 * 2 ^ l.toNat) m)).all id = ts.all (fun r => rowsOk r (1 * 2 ^ l.toNat) m) := by
                              rw [List.all_map]
                              rfl
                            rw [ea]
                            have q3 := q2 H' s1
                            rw [decide_eq_true (by rw [← hwl]; exact c), Bool.true_and] at q3
                            exact q3
                        · rw [decide_eq_false (show ¬ V.int ((us.length : Nat) : Int) = V.int (1 * 2 ^ n.toNat) from fun z => c (V.int.inj z))]
                          have q3 := q2 H (Same.refl H)
                          rw [decide_eq_false (by rw [← hwl]; exact c), Bool.false_and] at q3
                          exact q3
                    | bool b => exact q H (Same.refl H)
                    | none => exact q H (Same.refl H)
                    | int x => exact q H (Same.refl H)
                    | str x => exact q H (Same.refl H)
                    | list xs => exact q H (Same.refl H)
                    | dict xs => exact q H (Same.refl H)
                · rw [decide_eq_true (show (12 : Int) < n + l by omega)]
                  have e : sumLe (.int n) (.int l) = false := decide_eq_false cs
                  rw [e] at q
                  exact q H (Same.refl H)
        · have hne : ((ws.length : Nat) : Int) ≠ 5 := by omega
          rw [decide_eq_false (show ¬ V.int (ws.length : Int) = V.int 5 from fun z => hne (V.int.inj z))]
          have e := fun_no (xs := xs) (by omega)
          have q' := q H (Same.refl H)
          rw [e] at q'
          exact q'
    | bool b => exact q H (Same.refl H)
    | none => exact q H (Same.refl H)
    | int x => exact q H (Same.refl H)
    | str x => exact q H (Same.refl H)
    | list xs => exact q H (Same.refl H)
    | dict xs => exact q H (Same.refl H)
theorem ok_check {f : Addr} {fd : FuncData} (D : Df K mg "check_block" s_check_block ["block"] f fd) (T : Txt K w mg cs) (c_is_generator : Cl P w K mg base CX0 2 "is_generator" (spGen K)) (c_is_function : Cl P w K mg base CX0 2 "is_function" (spFun K)) : FnOk P w K mg base (L2.CX P w) 3 f fd ["block"] (spCheck K cs.BadBlock) := by
  refine D.fn.okX sc_check_block (fun vs H Q E h => ?_) (fun cdv A outer s H vs Q E hr h => ?_)
  · obtain ⟨v, d, n, rfl, _⟩ := h
    rfl
  · obtain ⟨v, d, n, rfl, hd, hg, hn, q⟩ := h
    have tk := takes_of (X := cxOf (L2.CX P w) P w K mg base ["block"] "check_block" (defScope s_check_block) f cdv A outer s H E) (E := E) rfl rfl rfl rfl
    refine ⟨_, (pss_one (ps_if (PW.pt (pw_and (pt_not (pt_val (pe_cl c_is_generator hr (by first | decide | omega) (by rfl) (pa_cons (pv 0) pa_nil)))) (pw_and1 (pt_not (pt_val (pe_cl c_is_function hr (by first | decide | omega) (by rfl) (pa_cons (pv 0) pa_nil))))))) (pss_one (ps_raiseE T.x_BadBlock rfl tk (by rfl))) pss_nil)), ?_⟩
    refine ⟨_, rfl, v, d, n, rfl, hd, hg, hn, fun H1 s1 => ⟨_, rfl, ?_⟩⟩
    unfold blockOk at q
    cases cg : genOk d with
    | true =>
      rw [cg] at q
      exact (q H1 s1).1 rfl
    | false =>
      rw [cg] at q
      refine ⟨_, rfl, v, d, n, rfl, dp_same s1 d hd, hg, hn, fun H2 s2 => ⟨_, rfl, ?_⟩⟩
      cases cf : funOk d with
      | true =>
        rw [cf] at q
        exact (q H2 (s1.trans s2)).1 rfl
      | false =>
        rw [cf] at q
        exact (q H2 (s1.trans s2)).2 rfl

theorem ok_all {f : Addr} {fd : FuncData} (D : Df K mg "all_bits" s_all_bits ["length"] f fd) (T : Txt K w mg cs) (c_bits : Cl P w K mg base CX0 1 "bits" spBits) : FnOk P w K mg base CX0 2 f fd ["length"] (spAll K) := by
  refine D.fn.ok sc_all_bits (fun vs H Q E h => ?_) (fun cdv A outer s H vs Q E hr h => ?_)
  · obtain ⟨n, rfl, _⟩ := h
    rfl
  · obtain ⟨n, rfl, hn, q⟩ := h
    refine ⟨_, (pss_one (ps_ret (pe_lc (own := [("number", 1)]) (g := gName 1) (tt := tYes) rfl sc_all_bits.nd (pi_range1 (by rfl) T.n_range (pa_cons (pe_op op_shl pe_int (pv 0)) pa_nil)) (blkOk_by (own := [("number", 1)]) (N := ["length", "number"]) (sc := defScope s_all_bits) (by decide +kernel)) (fun _ _ _ _ _ => (pg_name (i := 1) sc_all_bits.nd rfl (.inl rfl))) (fun _ _ _ _ _ => pts_nil) (fun _ _ _ _ _ => (pe_cl c_bits hr (by first | decide | omega) (by rfl) (pa_cons (pv 0) (pa_cons (pv 1) pa_nil))))))), ?_⟩
    have hp := two_pow_le (b := 12) hn
    refine ⟨_, rfl, _, _, rfl, rfl, ⟨by omega, by omega, by decide⟩, _, rfl, ?_⟩
    rw [shl_one]
    generalize hN : 2 ^ n = N at hp ⊢
    refine ⟨by omega, by omega, fun Dl hD => ?_⟩
    refine lc_range (lo := 0) (n := _) (fun i H' => Same H H' ∧ H' Dl = some (.lst (rowV ((List.range i).map fun i => toB n i)))) ?_ ?_ ?_
    · exact ⟨same_new hD, upd_same⟩
    · rintro i H' hi ⟨s1, e1⟩
      refine ⟨rfl, ?_⟩
      refine ⟨_, rfl, _, rfl, n, i, ?_, by omega, by rw [hN]; omega, _, e1, ?_, fun b o e => ?_, ?_⟩
      · show [V.int (n : Int), V.int (0 + (i : Int))] = _
        rw [Int.zero_add]
      · unfold rowV
        rw [List.length_map, List.length_map, List.length_range]
        exact Nat.lt_of_lt_of_le (show i < 10000 by omega) (by decide)
      · rw [upd_ne (ne_of_none e hD)]
        exact s1 b o e
      · rw [upd_same, List.range_succ]
        unfold rowV
        rw [List.map_append, List.map_append]
        rfl
    · rintro H' ⟨s1, e1⟩
      rw [Int.toNat_natCast, ← hN] at e1
      exact q Dl H' hD s1 e1
theorem ok_parts {f : Addr} {fd : FuncData} (D : Df K mg "generator_parts" s_generator_parts ["block"] f fd) (T : Txt K w mg cs) (c_check_block : Cl P w K mg base (L2.CX P w) 3 "check_block" (spCheck K cs.BadBlock)) : FnOk P w K mg base (L2.CX P w) 4 f fd ["block"] (spParts K cs.BadBlock cs.BadScheme) := by
  refine D.fn.okX sc_generator_parts (fun vs H Q E h => ?_) (fun cdv A outer s H vs Q E hr h => ?_)
  · obtain ⟨v, d, n, rfl, _⟩ := h
    rfl
  · obtain ⟨v, d, n, rfl, hd, hg, hn, q⟩ := h
    have tk := takes_of (X := cxOf (L2.CX P w) P w K mg base ["block"] "generator_parts" (defScope s_generator_parts) f cdv A outer s H E) (E := E) rfl rfl rfl rfl
    refine ⟨_, (pss_cons (ps_expr (pe_clX c_check_block hr (by first | decide | omega) (by rfl) tk (pa_cons (pv 0) pa_nil))) (pss_cons (ps_if (pt_cmpR op_ne (pe_ix (ixT K) (pv 0) pe_int (fun _ _ => rfl)) pe_str (nomark _)) (pss_one (ps_raiseE T.x_BadScheme rfl tk (by rfl))) pss_nil) (pss_one (ps_ret (pe_slice (slTA K) (pv 0) (po_some pe_int) po_none))))), ?_⟩
    refine ⟨_, rfl, v, d, n, rfl, hd, hg, hn, fun H1 s1 => ⟨fun ok => ?_, fun no => ?_⟩⟩
    · rcases q with ⟨q0, _⟩ | ⟨q0, q⟩ | ⟨n', m, rows, rfl, wf, q⟩
      · rw [q0] at ok
        cases ok
      · obtain ⟨_, ds, rfl⟩ := fun_no_gen q0
        cases hd with
        | @tup a ws _ hT hA =>
          cases hA with
          | cons h0 hA =>
            cases h0
            refine ⟨_, rfl, a, _, 0, _, rfl, rfl, same_sqt s1 hT, at0, rfl, _, rfl, ?_⟩
            exact q H1 s1
      · obtain ⟨a, r, rfl, hT, hR⟩ := dp_tab hd
        have hT1 := same_sqt s1 hT
        refine ⟨_, rfl, a, _, 0, _, rfl, rfl, hT1, at0, rfl, _, rfl, ?_⟩
        refine ⟨_, rfl, _, rfl, sl_anyN hT1 fun p H2 s2 t2 => ?_⟩
        exact q p r H2 (s1.trans s2) t2 (same_sqt (s1.trans s2) hR)
    · rcases q with ⟨_, q⟩ | ⟨q0, _⟩ | ⟨n', m, rows, rfl, wf, _⟩
      · exact q H1 s1
      · unfold blockOk at no
        rw [q0, Bool.or_true] at no
        cases no
      · rw [wf_block wf] at no
        cases no

theorem ok_put {f : Addr} {fd : FuncData} (D : Df K mg "put_out" s_put_out ["rows", "state", "k"] f fd) (T : Txt K w mg cs) (c_number_of : Cl P w K mg base CX0 1 "number_of" spNumber) : FnOk P w K mg base CX0 2 f fd ["rows", "state", "k"] (spPut K) := by
  refine D.fn.ok sc_put_out (fun vs H Q E h => ?_) (fun cdv A outer s H vs Q E hr h => ?_)
  · obtain ⟨r, n, k, rows, s, rfl, _⟩ := h
    rfl
  · obtain ⟨r, n, k, rows, s, rfl, hT, wf, hs, hk, q⟩ := h
    refine ⟨_, (pss_cons (ps_set (i := 3) sc_put_out.nd rfl (.inl rfl) pe_str) (pss_cons (ps_for PassesOwn.never rfl (pi_range1 (by rfl) T.n_range (pa_cons (pv 2) pa_nil)) (pg_name (i := 4) sc_put_out.nd rfl (.inl rfl)) (pss_cons (ps_set (i := 5) sc_put_out.nd rfl (.inl rfl) (pe_ix (ixT K) (pv 0) (pe_cl c_number_of hr (by first | decide | omega) (by rfl) (pa_cons (pv 1) pa_nil)) (fun _ _ => rfl))) (pss_cons (ps_set (i := 1) sc_put_out.nd rfl (.inl rfl) (pe_slice sl_str (pv 5) po_none (po_some (pe_un un_neg pe_int)))) (pss_one (ps_set (i := 3) sc_put_out.nd rfl (.inl rfl) (pe_op op_add_str (pv 3) (pe_ix ix_str (pv 5) (pe_un un_neg pe_int) (fun _ _ => rfl)))))))) (pss_one (ps_ret (pe_op op_add_str (pv 3) (pv 1)))))), ?_⟩
    have hn10 := wf.n2
    refine ⟨_, rfl, _, rfl, by omega, by omega, for_range (lo := 0) (n := k) (fun i σ H' => ∃ (t o : List Bool) (y4 y5 : Option V), σ = [some (.ref r), some (.str (sb t)), some (.int (k : Int)), some (.str (sb o)), y4, y5] ∧ t.length = n ∧ o.length = i ∧ i ≤ k ∧ putOut rows k s = o ++ putOut rows (k - i) t ∧ H' = H) ?_ ?_ ?_⟩
    · exact ⟨s, [], none, none, rfl, hs, rfl, Nat.zero_le _, rfl, rfl⟩
    · rintro i σ H' hi ⟨t, o, y4, y5, rfl, ht, ho, hik, he, rfl⟩
      obtain ⟨hv, hrow⟩ := wf.at ht
      generalize hR : rows.getD (val t) [] = row at hrow
      obtain ⟨b, hb, hbl⟩ := last_bit hrow
      have sz : ∀ l : List Bool, l.length ≤ 1000 → (sb l).length ≤ sizeLine := fun l h => by
        rw [sb_len, sizeLine_eq]
        omega
      refine ⟨_, rfl, _, rfl, t, rfl, by omega, r, _, _, _, rfl, rfl, hT, atI_nat (getD_row hv), ?_⟩
      rw [hR]
      refine ⟨_, rfl, _, rfl, _, rfl, _, rfl, sz _ (by omega), ?_⟩
      rw [show cutS (sb row) none (some (-1)) = sb row.dropLast from cut_last]
      refine ⟨_, rfl, _, rfl, _, rfl, _, -1, cB b, rfl, rfl, sz _ (by omega), hbl, _, _, rfl, rfl, ?_, row.dropLast, o ++ [b], some (.int (0 + (i : Int))), some (.str (sb row)), ?_, ?_, ?_, by omega, ?_, rfl⟩
      · rw [show (⟨#[cB b]⟩ : Str) = sb [b] from rfl, ← str_app_len, sb_cat]
        exact sz _ (by rw [List.length_append, ho]; show i + 1 ≤ _; omega)
      · rw [← sb_cat]
        rfl
      · rw [List.length_dropLast, hrow]
        rfl
      · rw [List.length_append, ho]
        rfl
      · rw [he, show k - i = (k - (i + 1)) + 1 by omega]
        show o ++ ((rows.getD (val t) []).drop ((rows.getD (val t) []).length - 1) ++ putOut rows (k - (i + 1)) (rows.getD (val t) []).dropLast) = _
        rw [hR, hrow, show n + 1 - 1 = n from rfl, hb, List.append_assoc]
    · rintro σ H' ⟨t, o, y4, y5, rfl, ht, ho, hik, he, rfl⟩
      rw [Nat.sub_self] at he
      have he' : putOut rows k s = o ++ t := he
      rw [he'] at q
      refine ⟨_, rfl, _, rfl, _, _, rfl, rfl, ?_, ?_⟩
      · rw [← str_app_len, sb_cat, sb_len, List.length_append, sizeLine_eq]
        omega
      · rw [sb_cat]
        exact q

theorem ok_fparts {f : Addr} {fd : FuncData} (D : Df K mg "function_parts" s_function_parts ["block"] f fd) (T : Txt K w mg cs) (c_check_block : Cl P w K mg base (L2.CX P w) 3 "check_block" (spCheck K cs.BadBlock)) : FnOk P w K mg base (L2.CX P w) 4 f fd ["block"] (spFParts K cs.BadBlock cs.BadScheme) := by
  refine D.fn.okX sc_function_parts (fun vs H Q E h => ?_) (fun cdv A outer s H vs Q E hr h => ?_)
  · obtain ⟨v, d, n, rfl, _⟩ := h
    rfl
  · obtain ⟨v, d, n, rfl, hd, hg, hn, q⟩ := h
    have tk := takes_of (X := cxOf (L2.CX P w) P w K mg base ["block"] "function_parts" (defScope s_function_parts) f cdv A outer s H E) (E := E) rfl rfl rfl rfl
    refine ⟨_, (pss_cons (ps_expr (pe_clX c_check_block hr (by first | decide | omega) (by rfl) tk (pa_cons (pv 0) pa_nil))) (pss_cons (ps_if (pt_cmpR op_ne (pe_ix (ixT K) (pv 0) pe_int (fun _ _ => rfl)) pe_str (nomark _)) (pss_one (ps_raiseE T.x_BadScheme rfl tk (by rfl))) pss_nil) (pss_one (ps_ret (pe_slice (slTA K) (pv 0) (po_some pe_int) po_none))))), ?_⟩
    refine ⟨_, rfl, v, d, n, rfl, hd, hg, hn, fun H1 s1 => ⟨fun ok => ?_, fun no => ?_⟩⟩
    · rcases q with ⟨q0, _⟩ | ⟨q0, q⟩ | ⟨n', l, m, tabs, rfl, wf, q⟩
      · rw [q0] at ok
        cases ok
      · obtain ⟨n', m, rows, rfl, wf⟩ := gen_wf q0
        obtain ⟨a, r, rfl, hT, hR⟩ := dp_tab hd
        refine ⟨_, rfl, a, _, 0, _, rfl, rfl, same_sqt s1 hT, at0, rfl, _, rfl, ?_⟩
        exact q H1 s1
      · obtain ⟨a, t, rfl, hT, hR⟩ := dp_fun hd
        have hT1 := same_sqt s1 hT
        refine ⟨_, rfl, a, _, 0, _, rfl, rfl, hT1, at0, rfl, _, rfl, ?_⟩
        refine ⟨_, rfl, _, rfl, sl_anyN hT1 fun p H2 s2 t2 => ?_⟩
        exact q p t H2 (s1.trans s2) t2 (dp_same (s1.trans s2) _ hR)
    · rcases q with ⟨_, q⟩ | ⟨q0, _⟩ | ⟨n', l, m, tabs, rfl, wf, _⟩
      · exact q H1 s1
      · unfold blockOk at no
        rw [q0, Bool.true_or] at no
        cases no
      · unfold blockOk at no
        rw [wf.ok, Bool.or_true] at no
        cases no

theorem ok_go {f : Addr} {fd : FuncData} (D : Df K mg "go_down" s_go_down ["rows", "label", "path"] f fd) (T : Txt K w mg cs) (c_number_of : Cl P w K mg base CX0 1 "number_of" spNumber) : FnOk P w K mg base CX0 2 f fd ["rows", "label", "path"] (spGo K) := by
  refine D.fn.ok sc_go_down (fun vs H Q E h => ?_) (fun cdv A outer s H vs Q E hr h => ?_)
  · obtain ⟨r, n, rows, lab, path, rfl, _⟩ := h
    rfl
  · obtain ⟨r, n, rows, lab, path, rfl, hT, wf, hs, q⟩ := h
    refine ⟨_, (pss_cons (ps_set (i := 3) sc_go_down.nd rfl (.inl rfl) (pe_callB call_len_str (by rfl) T.n_len (by decide +kernel) (pa_cons (pv 1) pa_nil))) (pss_cons (ps_for PassesOwn.never rfl (pi_str (pv 2)) (pg_name (i := 4) sc_go_down.nd rfl (.inl rfl)) (pss_cons (ps_set (i := 5) sc_go_down.nd rfl (.inl rfl) (pe_ix (ixT K) (pv 0) (pe_cl c_number_of hr (by first | decide | omega) (by rfl) (pa_cons (pv 1) pa_nil)) (fun _ _ => rfl))) (pss_one (ps_set (i := 1) sc_go_down.nd rfl (.inl rfl) (pe_ifExp (pt_cmpR op_eq (pv 4) pe_str (nomark _)) (pe_slice sl_str (pv 5) po_none (po_some (pv 3))) (pe_slice sl_str (pv 5) (po_some (pv 3)) po_none)))))) (pss_one (ps_ret (pv 1))))), ?_⟩
    have hn10 := wf.n2
    have sz : ∀ l : List Bool, l.length ≤ 1000 → (sb l).length ≤ sizeLine := fun l h => by
      rw [sb_len, sizeLine_eq]
      omega
    refine ⟨_, rfl, _, rfl, sz _ (by omega), ?_⟩
    rw [sb_len, hs]
    refine ⟨_, rfl, _, rfl, for_text (fun i σ H' => ∃ (t : List Bool) (y4 y5 : Option V), σ = [some (.ref r), some (.str (sb t)), some (.str (sb path)), some (.int (n : Int)), y4, y5] ∧ t.length = n ∧ goDown rows n lab path = goDown rows n t (path.drop i) ∧ H' = H) ?_ ?_ ?_⟩
    · exact ⟨lab, none, none, rfl, hs, rfl, rfl⟩
    · rintro i c σ H' hc ⟨t, y4, y5, rfl, ht, he, rfl⟩
      obtain ⟨hi, rfl⟩ := sb_at hc
      obtain ⟨hv, hrow⟩ := wf.at ht
      rw [List.drop_eq_getElem_cons hi] at he
      have he' : goDown rows n lab path = goDown rows n (if path[i] then (rows.getD (val t) []).drop n else (rows.getD (val t) []).take n) (path.drop (i + 1)) := he
      generalize hR : rows.getD (val t) [] = row at hrow he'
      refine ⟨_, rfl, _, rfl, t, rfl, by omega, r, _, _, _, rfl, rfl, hT, atI_nat (getD_row hv), ?_⟩
      rw [hR]
      refine ⟨_, rfl, rfl, _, rfl, ?_⟩
      cases hb : path[i] with
      | false =>
        rw [hb] at he'
        refine ⟨_, rfl, _, rfl, _, rfl, _, rfl, sz _ (by omega), ?_⟩
        rw [cut_pre]
        refine ⟨row.take n, some (.str ⟨#[cB false]⟩), some (.str (sb row)), rfl, ?_, he', rfl⟩
        rw [List.length_take, hrow]
        omega
      | true =>
        rw [hb] at he'
        refine ⟨_, rfl, _, rfl, _, rfl, _, rfl, sz _ (by omega), ?_⟩
        rw [cut_suf]
        refine ⟨row.drop n, some (.str ⟨#[cB true]⟩), some (.str (sb row)), rfl, ?_, he', rfl⟩
        rw [List.length_drop, hrow]
        omega
    · rintro σ H' ⟨t, y4, y5, rfl, ht, he, rfl⟩
      have es : (sb path).cps.size = path.length := sb_len path
      rw [es, List.drop_length] at he
      have he' : goDown rows n lab path = t := he
      rw [he'] at q
      exact ⟨_, rfl, q⟩

theorem map_int_set (rs : List Int) (j : Nat) (x : Int) : (rs.map V.int).set j (.int x) = (rs.set j x).map V.int := by
  rw [List.map_set]
theorem at_int {rs : List Int} {j : Nat} {z : Int} (h : rs[j]? = some z) : atI (rs.map V.int) ((j : Nat) : Int) = some (.int z) := atI_nat (by
  rw [List.getElem?_map, h]
  rfl)
theorem ok_draws {f : Addr} {fd : FuncData} (D : Df K mg "_law_draws" s_law_draws ["script", "many"] f fd) (T : Txt K w mg cs) : FnOk P w K mg base CX0 1 f fd ["script", "many"] (spDraws K) := by
  refine D.fn.ok sc_law_draws (fun vs H Q E h => ?_) (fun cdv A outer s H vs Q E hr h => ?_)
  · obtain ⟨a, ns, many, rfl, _⟩ := h
    rfl
  · obtain ⟨a, ns, many, rfl, hS, hl, hm, q⟩ := h
    refine ⟨_, (pss_cons (ps_setLc (i := 2) (own := [("cell", 5)]) (g := gName 5) (tt := tYes) rfl sc_law_draws.nd rfl rfl (sw_true rfl rfl rfl (by decide +kernel)) (pi_list (pv 0)) (blkOk_by (own := [("cell", 5)]) (N := ["script", "many", "rests", "draws", "k", "cell", "at", "mixed"]) (sc := defScope s_law_draws) (by decide +kernel)) (fun _ _ _ _ _ => (pg_name (i := 5) sc_law_draws.nd rfl (.inl rfl))) (fun _ _ _ _ _ => pts_nil) (fun _ _ _ _ _ => (pe_callB call_abs (by rfl) T.n_abs (by decide +kernel) (pa_cons (pe_callTy call_int1 (by rfl) T.n_int (by decide +kernel) (pa_cons (pv 5) pa_nil)) pa_nil)))) (pss_cons (ps_set (i := 3) sc_law_draws.nd rfl (.inl rfl) (pe_lst pa_nil)) (pss_cons (ps_for PassesOwn.never rfl (pi_range1 (by rfl) T.n_range (pa_cons (pv 1) pa_nil)) (pg_name (i := 4) sc_law_draws.nd rfl (.inl rfl)) (pss_cons (ps_set (i := 5) sc_law_draws.nd rfl (.inl rfl) (pv 4)) (C8.pss_cut (ps_if (pt_cmpR op_gt (pe_callB (lenS K) (by rfl) T.n_len (by decide +kernel) (pa_cons (pv 0) pa_nil)) pe_int (nomark _)) (pss_cons (ps_set (i := 6) sc_law_draws.nd rfl (.inl rfl) (pe_op op_mod (pv 4) (pe_callB (lenS K) (by rfl) T.n_len (by decide +kernel) (pa_cons (pv 0) pa_nil)))) (pss_cons (ps_set (i := 5) sc_law_draws.nd rfl (.inl rfl) (pe_callTy call_int1 (by rfl) T.n_int (by decide +kernel) (pa_cons (pe_ix (ixL K) (pv 0) (pv 6) (fun _ _ => rfl)) pa_nil))) (pss_one (ps_if (PW.pt (pw_and (pt_cmpR op_ge (pv 5) (pe_op op_pow pe_int pe_int) (nomark _)) (pw_and1 (pt_cmpR op_gt (pe_ix (ixL K) (pv 2) (pv 6) (fun _ _ => rfl)) pe_int (nomark _))))) (pss_cons (ps_expr (pe_bm PySem.F.plainAttrs_list PySem.F.slot_list_append PySem.F.type_list_append mt_append (pv 3) (pa_cons (pe_op op_mod (pe_callTy call_int1 (by rfl) T.n_int (by decide +kernel) (pa_cons (pe_ix (ixL K) (pv 2) (pv 6) (fun _ _ => rfl)) pa_nil)) pe_int) pa_nil))) (pss_cons (ps_asg (pe_op op_fdiv (pe_callTy call_int1 (by rfl) T.n_int (by decide +kernel) (pa_cons (pe_ix (ixL K) (pv 2) (pv 6) (fun _ _ => rfl)) pa_nil)) pe_int) (pg_sub (pv 2) (pv 6) set_list)) (pss_one ps_continue))) pss_nil)))) pss_nil) (pss_cons (ps_set (i := 7) sc_law_draws.nd rfl (.inl rfl) (pe_op op_mod (pe_callTy call_int1 (by rfl) T.n_int (by decide +kernel) (pa_cons (pe_op op_add (pe_op op_add (pe_op op_mul (pv 5) pe_int) (pe_op op_mul (pv 4) pe_int)) pe_int) pa_nil)) pe_int)) (pss_cons (ps_set (i := 7) sc_law_draws.nd rfl (.inl rfl) (pe_op op_mod (pe_callTy call_int1 (by rfl) T.n_int (by decide +kernel) (pa_cons (pe_op op_add (pe_op op_fdiv (pe_op op_mul (pv 7) (pv 7)) pe_int) (pv 7)) pa_nil)) pe_int)) (pss_one (ps_expr (pe_bm PySem.F.plainAttrs_list PySem.F.slot_list_append PySem.F.type_list_append mt_append (pv 3) (pa_cons (pe_op op_mod (pe_callTy call_int1 (by rfl) T.n_int (by decide +kernel) (pa_cons (pe_op op_add (pe_op op_fdiv (pe_op op_mul (pv 7) (pv 7)) pe_int) (pe_op op_mul (pv 4) pe_int)) pa_nil)) pe_int) pa_nil))))))))) (pss_one (ps_ret (pv 3)))))), ?_⟩
    -- rests
    refine ⟨_, rfl, a, rfl, ⟨_, hS⟩, fun R hR => ?_⟩
    refine lc_list (xs := ns.map V.int) (fun i H' => ∃ rs : List Int, rs.length = i ∧ (∀ x ∈ rs, 0 ≤ x) ∧ Same H H' ∧ H' R = some (.lst (rs.map V.int))) ?_ ?_ ?_ ?_
    · exact ⟨[], rfl, fun x hx => (nomatch hx), same_new hR, upd_same⟩
    · rintro i H' _ ⟨rs, _, _, hs, _⟩
      exact hs.seq hS
    · rintro i x H' hx ⟨rs, hn, h0, hs, hr'⟩
      obtain ⟨z, hz⟩ : ∃ z, x = V.int z := by
        rw [List.getElem?_map] at hx
        cases e : ns[i]? with
        | none =>
          rw [e] at hx
          cases hx
        | some z =>
          rw [e] at hx
          exact ⟨z, (Option.some.inj hx).symm⟩
      subst hz
      have hi : i < ns.length := by
        have := (List.getElem?_eq_some_iff.mp hx).1
        rw [List.length_map] at this
        exact this
      refine ⟨rfl, ?_⟩
      refine ⟨_, rfl, .inl ⟨_, rfl, _, rfl, _, hr', ?_, ?_⟩⟩
      · rw [List.length_map]
        exact small1000 (by omega)
      · refine ⟨rs ++ [if z < 0 then -z else z], by rw [List.length_append, hn]; rfl, ?_, ?_, ?_⟩
        · intro y hy
          rcases List.mem_append.mp hy with hy | hy
          · exact h0 y hy
          · rw [List.mem_singleton.mp hy]
            split <;> omega
        · intro b o e
          rw [upd_ne (ne_of_none e hR)]
          exact hs b o e
        · rw [upd_same, List.map_append]
          rfl
    · rintro H1 ⟨rs, hn, h0, s1, e1⟩
      rw [List.length_map] at hn
      -- draws = []
      refine ⟨Nat.zero_le _, fun L hL => ?_⟩
      have nRL : R ≠ L := ne_of_none e1 hL
      have hL0 : H L = none := s1.free hL
      -- the loop
      refine ⟨_, rfl, _, rfl, by omega, by omega, for_range (lo := 0) (n := many) (fun i σ H' => ∃ (rs ds : List Int) (y4 y5 y6 y7 : Option V), σ = [some (.ref a), some (.int (many : Int)), some (.ref R), some (.ref L), y4, y5, y6, y7] ∧
        rs.length = ns.length ∧ (∀ x ∈ rs, 0 ≤ x) ∧ ds.length = i ∧ (∀ x ∈ ds, 0 ≤ x) ∧ Same H H' ∧ H' R = some (.lst (rs.map V.int)) ∧ H' L = some (.lst (ds.map V.int))) ?_ ?_ ?_⟩
      · refine ⟨rs, [], none, none, none, none, rfl, hn, h0, rfl, fun x hx => (nomatch hx), s1.trans (same_new hL), ?_, upd_same⟩
        rw [upd_ne nRL]
        exact e1
      · clear e1 hn h0 rs s1 hL
        rintro i σ H' hi ⟨rs, ds, y4, y5, y6, y7, rfl, hn, h0, hd, hd0, s1, e1, e2⟩
        have hSL : SqL K H' a (ns.map V.int) := s1.seq hS
        -- what the rest of the turn asks: a number is put behind the draws
        have put : ∀ (x : Int) (σ' : L2.St) (H2 : Hp) (rs' : List Int), 0 ≤ x → rs'.length = ns.length → (∀ x ∈ rs', 0 ≤ x) → Same H H2 → H2 R = some (.lst (rs'.map V.int)) → H2 L = some (.lst ((ds ++ [x]).map V.int)) →
            (∃ y4 y5 y6 y7 : Option V, σ' = [some (.ref a), some (.int (many : Int)), some (.ref R), some (.ref L), y4, y5, y6, y7]) →
            (fun (i : Nat) (σ : L2.St) (H' : Hp) => ∃ (rs ds : List Int) (y4 y5 y6 y7 : Option V), σ = [some (.ref a), some (.int (many : Int)), some (.ref R), some (.ref L), y4, y5, y6, y7] ∧
              rs.length = ns.length ∧ (∀ x ∈ rs, 0 ≤ x) ∧ ds.length = i ∧ (∀ x ∈ ds, 0 ≤ x) ∧ Same H H' ∧ H' R = some (.lst (rs.map V.int)) ∧ H' L = some (.lst (ds.map V.int))) (i + 1) σ' H2 := by
          rintro x σ' H2 rs' hx g1 g2 g3 g4 g5 ⟨z4, z5, z6, z7, rfl⟩
          refine ⟨rs', ds ++ [x], z4, z5, z6, z7, rfl, g1, g2, by rw [List.length_append, hd]; rfl, ?_, g3, g4, g5⟩
          intro y hy
          rcases List.mem_append.mp hy with hy | hy
          · exact hd0 y hy
          · rw [List.mem_singleton.mp hy]
            exact hx
        have app : ∀ (x : Int), upd H' L (.lst (ds.map V.int ++ [.int x])) R = some (.lst (rs.map V.int)) ∧ Same H (upd H' L (.lst (ds.map V.int ++ [.int x]))) ∧ upd H' L (.lst (ds.map V.int ++ [.int x])) L = some (.lst ((ds ++ [x]).map V.int)) := by
          intro x
          refine ⟨by rw [upd_ne nRL]; exact e1, fun b u e => ?_, ?_⟩
          · rw [upd_ne (ne_of_none e hL0)]
            exact s1 b u e
          · rw [upd_same, List.map_append]
            rfl
        have hsz : (ds.map V.int).length < sizeLine := by
          rw [List.length_map]
          exact Nat.lt_of_lt_of_le (show ds.length < 10000 by omega) (by decide)
        -- cell = k
        refine ⟨_, rfl, ?_⟩
        refine ⟨fun σ2 H2 => H2 = H' ∧ ∃ (c : Int) (y6 : Option V), σ2 = [some (.ref a), some (.int (many : Int)), some (.ref R), some (.ref L), some (.int (0 + (i : Int))), some (.int c), y6, y7], ?_, ?_⟩
        · -- if len(script) > 0
          refine ⟨_, rfl, a, _, rfl, .inl hSL, _, _, rfl, rfl, _, rfl, ite2 (fun c => ?_) (fun c => ?_)⟩
          · have hp : 0 < ns.length := by
              have c' : (0 : Int) < (((ns.map V.int).length : Nat) : Int) := of_decide_eq_true c
              rw [List.length_map] at c'
              omega
            -- at = k % len(script)
            refine ⟨_, rfl, _, rfl, a, _, rfl, .inl hSL, _, _, rfl, rfl, ?_, ?_⟩
            · rw [List.length_map]
              omega
            · obtain ⟨j, hj, hjl⟩ : ∃ j : Nat, (0 + (i : Int)) % (((ns.map V.int).length : Nat) : Int) = (j : Int) ∧ j < ns.length := by
                rw [List.length_map]
                have h1 := Int.emod_nonneg (0 + (i : Int)) (b := (ns.length : Int)) (by omega)
                have h2 := Int.emod_lt_of_pos (0 + (i : Int)) (b := (ns.length : Int)) (by omega)
                exact ⟨((0 + (i : Int)) % (ns.length : Int)).toNat, by omega, by omega⟩
              show gName 6 (V.int ((0 + (i : Int)) % (((ns.map V.int).length : Nat) : Int))) _ _ _
              rw [hj]
              have hx : (ns.map V.int)[j]? = some (.int ns[j]) := by
                rw [List.getElem?_map, List.getElem?_eq_getElem hjl]
                rfl
              have hjr : j < rs.length := by omega
              have hy : (rs.map V.int)[j]? = some (.int rs[j]) := by
                rw [List.getElem?_map, List.getElem?_eq_getElem hjr]
                rfl
              -- cell = int(script[at])
              refine ⟨_, rfl, _, rfl, a, _, (j : Int), _, rfl, rfl, hSL, atI_nat hx, .inl ⟨_, rfl, ?_⟩⟩
              -- if cell >= 10 ** 18 and rests[at] > 0
              refine ⟨_, rfl, _, _, rfl, rfl, ⟨by decide, by decide, by decide⟩, _, _, rfl, rfl, _, rfl, ite2 (fun c => ?_) (fun c => ?_)⟩
              · refine ⟨_, rfl, _, rfl, R, _, (j : Int), _, rfl, rfl, .inl (.inl e1), atI_nat hy, _, _, rfl, rfl, _, rfl, ite2 (fun c => ?_) (fun c => ?_)⟩
                · have hr0 : 0 ≤ rs[j] := h0 _ (List.getElem_mem hjr)
                  -- draws.append(int(rests[at]) % 1000003)
                  refine ⟨_, rfl, .inl ⟨rfl, _, .inl (.inl e2)⟩, _, rfl, _, rfl, R, _, (j : Int), _, rfl, rfl, .inl (.inl e1), atI_nat hy, .inl ⟨_, rfl, _, _, rfl, rfl, (by show (0 : Int) < 1000003; decide), L, _, _, rfl, rfl, e2, hsz, ?_⟩⟩
                  obtain ⟨p1, p2, p3⟩ := app (rs[j] % 1000003)
                  -- rests[at] = int(rests[at]) // 1000003
                  refine ⟨_, rfl, _, rfl, R, _, (j : Int), _, rfl, rfl, .inl (.inl p1), atI_nat hy, .inl ⟨_, rfl, _, _, rfl, rfl, ⟨by decide, by decide⟩, _, rfl, _, rfl, R, _, (j : Int), j, rfl, rfl, p1, ?_, ?_⟩⟩
                  · unfold ixN
                    rw [if_pos (by omega), if_pos (by rw [List.length_map]; omega)]
                    rfl
                  · refine put (rs[j] % 1000003) _ _ (rs.set j (rs[j] / 1000003)) (by omega) (by rw [List.length_set]; exact hn) ?_ ?_ ?_ ?_ ⟨_, _, _, _, rfl⟩
                    · intro y hy'
                      rcases List.mem_or_eq_of_mem_set hy' with z | z
                      · exact h0 y z
                      · rw [z]
                        omega
                    · intro b u e
                      rw [upd_ne (ne_of_none e hR)]
                      exact p2 b u e
                    · rw [upd_same, List.map_set]
                    · rw [upd_ne nRL.symm]
                      exact p3
                · exact ⟨rfl, _, _, rfl⟩
              · exact ⟨rfl, _, _, rfl⟩
          · exact ⟨rfl, _, _, rfl⟩
        · rintro σ2 H2 ⟨rfl, c, z6, rfl⟩
          -- mixed, twice
          refine ⟨_, rfl, _, _, rfl, rfl, .inr ⟨by decide, by decide⟩, _, rfl, _, _, rfl, rfl, .inr ⟨by decide, by decide⟩, _, _, rfl, rfl, _, _, rfl, rfl, .inl ⟨_, rfl, _, _, rfl, rfl, (by show (0 : Int) < 2147483647; decide), ?_⟩⟩
          refine ⟨_, rfl, _, rfl, _, _, rfl, rfl, .inl ⟨?_, ?_⟩, _, _, rfl, rfl, ⟨by decide, by decide⟩, _, rfl, _, _, rfl, rfl, .inl ⟨_, rfl, _, _, rfl, rfl, (by show (0 : Int) < 2147483629; decide), ?_⟩⟩
          · omega
          · omega
          -- draws.append
          refine ⟨_, rfl, .inl ⟨rfl, _, .inl (.inl e2)⟩, _, rfl, _, rfl, _, _, rfl, rfl, .inl ⟨?_, ?_⟩, _, _, rfl, rfl, ⟨by decide, by decide⟩, _, rfl, _, _, rfl, rfl, .inr ⟨by decide, by decide⟩, _, _, rfl, rfl, .inl ⟨_, rfl, _, _, rfl, rfl, (by show (0 : Int) < 2147483629; decide), L, _, _, rfl, rfl, e2, hsz, ?_⟩⟩
          · omega
          · omega
          refine put _ _ _ rs ?_ hn h0 (app _).2.1 (app _).1 (app _).2.2 ⟨_, _, _, _, rfl⟩
          exact Int.emod_nonneg _ (by decide)
      · rintro σ H2 ⟨rs, ds, y4, y5, y6, y7, rfl, hn, h0, hd, hd0, s2, e1, e2⟩
        exact ⟨_, rfl, q L ds H2 hL0 s2 e2 hd0⟩

theorem ok_take {f : Addr} {fd : FuncData} (D : Df K mg "_law_take" s_law_take ["hand", "many"] f fd) (T : Txt K w mg cs) : FnOk P w K mg base CX0 1 f fd ["hand", "many"] spTake := by
  refine D.fn.ok sc_law_take (fun vs H Q E h => ?_) (fun cdv A outer s H vs Q E hr h => ?_)
  · obtain ⟨a, d, many, rfl, _⟩ := h
    rfl
  · obtain ⟨a, d, many, rfl, hm, ⟨ds, i, h1, h2, h3, h4⟩, q⟩ := h
    refine ⟨_, (pss_cons (ps_set (i := 2) sc_law_take.nd rfl (.inl rfl) (pe_ix (ixL K) (pv 0) pe_int (fun _ _ => rfl))) (pss_cons (ps_asg (pe_op op_add (pv 2) pe_int) (pg_sub (pv 0) pe_int set_list)) (pss_cons (ps_set (i := 3) sc_law_take.nd rfl (.inl rfl) (pe_ix (ixL K) (pv 0) pe_int (fun _ _ => rfl))) (pss_cons (ps_if (pt_cmpR op_ge (pv 2) (pe_callB (lenS K) (by rfl) T.n_len (by decide +kernel) (pa_cons (pv 3) pa_nil)) (nomark _)) (pss_one (ps_ret pe_int)) pss_nil) (pss_one (ps_ret (pe_op op_mod (pe_op op_fdiv (pe_callTy call_int1 (by rfl) T.n_int (by decide +kernel) (pa_cons (pe_ix (ixL K) (pv 3) (pv 2) (fun _ _ => rfl)) pa_nil)) pe_int) (pv 1)))))))), ?_⟩
    have s1 : Same H H := Same.refl H
    -- at = hand[1]
    refine ⟨_, rfl, a, _, 1, .int (i : Int), rfl, rfl, .inl (.inl h1), rfl, ?_⟩
    -- hand[1] = at + 1
    refine ⟨_, rfl, _, _, rfl, rfl, _, rfl, a, _, 1, 1, rfl, rfl, h1, rfl, ?_⟩
    -- draws = hand[0]
    refine ⟨_, rfl, a, _, 0, .ref d, rfl, rfl, .inl (.inl upd_same), rfl, ?_⟩
    have hd : (upd H a (.lst [.ref d, .int ((i : Int) + 1)])) d = some (.lst (ds.map V.int)) := by
      rw [upd_ne h4]
      exact h2
    have hn : Hnd (upd H a (.lst [.ref d, .int ((i : Int) + 1)])) a d := ⟨ds, i + 1, upd_same, hd, h3, h4⟩
    have hk : Keep a H (upd H a (.lst [.ref d, .int ((i : Int) + 1)])) := fun b o e n => by
      rw [upd_ne n]
      exact e
    -- at >= len(draws)
    refine ⟨_, rfl, _, rfl, d, _, rfl, .inl (.inl (.inl hd)), _, _, rfl, rfl, _, rfl, ite2 (fun c => ?_) (fun c => ?_)⟩
    · exact q 0 _ (Int.le_refl 0) hm hn hk
    · have hi : i < ds.length := by
        have c' : ¬ (((ds.map V.int).length : Int) ≤ (i : Int)) := fun z => c (decide_eq_true z)
        rw [List.length_map] at c'
        omega
      have hx : (ds.map V.int)[i]? = some (.int ds[i]) := by
        rw [List.getElem?_map, List.getElem?_eq_getElem hi]
        rfl
      have h0 := h3 ds[i] (List.getElem_mem hi)
      refine ⟨_, rfl, _, rfl, d, _, (i : Int), .int ds[i], rfl, rfl, .inl (.inl hd), atI_nat hx, .inl ⟨_, rfl, ?_⟩⟩
      refine ⟨_, _, rfl, rfl, ⟨by decide, by decide⟩, _, rfl, _, _, rfl, rfl, hm, ?_⟩
      exact q _ _ (Int.emod_nonneg _ (by omega)) (Int.emod_lt_of_pos _ hm) hn hk

theorem join_bits (bs : List Bool) : Txt.join "" (bs.map fun b => sb [b]) = sb bs := by
  have e : bs.map (fun b => sb [b]) = (bs.map fun b => [cB b]).map SX.S := by
    rw [List.map_map]
    rfl
  have j : ∀ ps : List (List Nat), TL.joinL [] ps = ps.flatten := by
    intro ps
    induction ps with
    | nil => rfl
    | cons x r ih =>
      cases r with
      | nil => exact (List.append_nil x).symm
      | cons y r =>
        show x ++ ([] ++ TL.joinL [] (y :: r)) = x ++ (y :: r).flatten
        rw [ih, List.nil_append]
  rw [e]
  refine (SX.join_S [] _).trans ?_
  rw [j]
  unfold sb
  congr 1
  clear e j
  induction bs with
  | nil => rfl
  | cons b bs ih =>
    rw [List.map_cons, List.flatten_cons, ih]
    rfl
theorem ok_string {f : Addr} {fd : FuncData} (D : Df K mg "_law_string" s_law_string ["hand", "length"] f fd) (T : Txt K w mg cs) (c_law_take : Cl P w K mg base CX0 1 "_law_take" spTake) : FnOk P w K mg base CX0 2 f fd ["hand", "length"] spString := by
  refine D.fn.ok sc_law_string (fun vs H Q E h => ?_) (fun cdv A outer s H vs Q E hr h => ?_)
  · obtain ⟨a, d, n, rfl, _⟩ := h
    rfl
  · obtain ⟨a, d, n, rfl, hn, hh, q⟩ := h
    refine ⟨_, (pss_one (ps_ret (pe_m1 PySem.F.slot_str_join PySem.F.type_str_join (mtJoin K) pe_str (pe_lc (own := [("k", 2)]) (g := gName 2) (tt := tYes) rfl sc_law_string.nd (pi_range1 (by rfl) T.n_range (pa_cons (pv 1) pa_nil)) (blkOk_by (own := [("k", 2)]) (N := ["hand", "length", "k"]) (sc := defScope s_law_string) (by decide +kernel)) (fun _ _ _ _ _ => (pg_name (i := 2) sc_law_string.nd rfl (.inl rfl))) (fun _ _ _ _ _ => pts_nil) (fun _ _ _ _ _ => (pe_ix (ixL K) (pe_lst (pa_cons pe_str (pa_cons pe_str pa_nil))) (pe_cl c_law_take hr (by first | decide | omega) (by rfl) (pa_cons (pv 0) (pa_cons pe_int pa_nil))) (fun _ _ => rfl))))))), ?_⟩
    refine ⟨⟨_, rfl⟩, _, rfl, _, rfl, by omega, by omega, fun Dl hD => ?_⟩
    obtain ⟨nDa, nDd⟩ := hh.ne hD
    refine lc_range (lo := 0) (n := n) (fun i H' => ∃ bs : List Bool, bs.length = i ∧ Hnd H' a d ∧ Keep a H H' ∧ H' Dl = some (.lst (bs.map fun b => V.str (sb [b])))) ?_ ?_ ?_
    · exact ⟨[], rfl, hh.new hD, Keep.new hD, upd_same⟩
    · rintro i H' hi ⟨bs, hl, h1, h2, h3⟩
      refine ⟨rfl, ?_⟩
      -- the list ['0', '1'], then the draw
      refine ⟨by decide, fun p np => ?_⟩
      obtain ⟨npa, npd⟩ := h1.ne np
      refine ⟨_, rfl, a, d, 2, rfl, by decide, h1.new np, fun r H2 hr0 hr2 hh2 hk2 => ?_⟩
      have e2 : H2 Dl = some (.lst (bs.map fun b => V.str (sb [b]))) := hk2 _ _ (by rw [upd_ne (ne_of_none h3 np)]; exact h3) nDa
      have hb : ∃ b : Bool, atI [V.str "0", V.str "1"] r = some (V.str (sb [b])) := by
        have er : r = 0 ∨ r = 1 := by omega
        rcases er with e | e <;> subst e
        · exact ⟨false, rfl⟩
        · exact ⟨true, rfl⟩
      obtain ⟨b, hb⟩ := hb
      refine ⟨p, _, r, _, rfl, rfl, .inl (.inl (hk2 _ _ upd_same npa)), hb, _, e2, ?_, ?_⟩
      · rw [List.length_map]
        exact Nat.lt_of_lt_of_le (show bs.length < 10000 by omega) (by decide)
      · refine ⟨bs ++ [b], by rw [List.length_append, hl]; rfl, hh2.set nDa nDd, ((h2.trans (Keep.new np)).trans hk2).set hD, ?_⟩
        rw [upd_same, List.map_append]
        rfl
    · rintro H' ⟨bs, hl, h1, h2, h3⟩
      refine ⟨_, Dl, bs.map (fun b => sb [b]), rfl, rfl, .inl (.inl (.inl (by rw [List.map_map]; exact h3))), ?_, ?_⟩
      · have e : ((bs.map fun b => sb [b]).map (·.length)).sum = bs.length := by
          rw [List.map_map]
          clear h3 hl
          induction bs with
          | nil => rfl
          | cons b bs ih =>
            rw [List.map_cons, List.sum_cons, ih, List.length_cons]
            show 1 + _ = _
            omega
        rw [e]
        show _ + _ * 0 ≤ _
        omega
      · rw [join_bits]
        exact q bs H' hl h1 h2

theorem ok_table {f : Addr} {fd : FuncData} (D : Df K mg "_law_table" s_law_table ["hand", "n", "m"] f fd) (T : Txt K w mg cs) (c_law_string : Cl P w K mg base CX0 2 "_law_string" spString) : FnOk P w K mg base CX0 3 f fd ["hand", "n", "m"] (spTable K) := by
  refine D.fn.ok sc_law_table (fun vs H Q E h => ?_) (fun cdv A outer s H vs Q E hr h => ?_)
  · obtain ⟨a, d, n, m, rfl, _⟩ := h
    rfl
  · obtain ⟨a, d, n, m, rfl, hn, hm, hh, q⟩ := h
    refine ⟨_, (pss_cons (ps_setLc (i := 3) (own := [("k", 4)]) (g := gName 4) (tt := tYes) rfl sc_law_table.nd rfl rfl (sw_true rfl rfl rfl (by decide +kernel)) (pi_range1 (by rfl) T.n_range (pa_cons (pe_op op_shl pe_int (pv 1)) pa_nil)) (blkOk_by (own := [("k", 4)]) (N := ["hand", "n", "m", "rows", "k"]) (sc := defScope s_law_table) (by decide +kernel)) (fun _ _ _ _ _ => (pg_name (i := 4) sc_law_table.nd rfl (.inl rfl))) (fun _ _ _ _ _ => pts_nil) (fun _ _ _ _ _ => (pe_cl c_law_string hr (by first | decide | omega) (by rfl) (pa_cons (pv 0) (pa_cons (pv 2) pa_nil))))) (pss_one (ps_ret (pe_tup (pa_cons pe_str (pa_cons (pv 1) (pa_cons (pv 2) (pa_cons (pe_callTy (tupOf K) (by rfl) T.n_tuple (by decide +kernel) (pa_cons (pv 3) pa_nil)) pa_nil)))))))), ?_⟩
    have hp : 2 ^ n ≤ 256 := two_pow_le (b := 8) hn
    refine ⟨_, rfl, _, _, rfl, rfl, ⟨by omega, by omega, by decide⟩, _, rfl, ?_⟩
    rw [shl_one]
    generalize hN : 2 ^ n = N at hp ⊢
    refine ⟨by omega, by omega, fun Dl hD => ?_⟩
    obtain ⟨nDa, nDd⟩ := hh.ne hD
    refine lc_range (lo := 0) (n := _) (fun i H' => ∃ rows : List (List Bool), rows.length = i ∧ (∀ r ∈ rows, r.length = m) ∧ Hnd H' a d ∧ Keep a H H' ∧ H' Dl = some (.lst (rows.map fun r => V.str (sb r)))) ?_ ?_ ?_
    · exact ⟨[], rfl, fun r hr => (nomatch hr), hh.new hD, Keep.new hD, upd_same⟩
    · rintro i H' hi ⟨rows, hl, hr, h1, h2, h3⟩
      refine ⟨rfl, ?_⟩
      refine ⟨_, rfl, _, rfl, a, d, m, rfl, by omega, h1, fun bs H2 hb hh2 hk2 => ⟨_, hk2 _ _ h3 nDa, ?_, ?_⟩⟩
      · rw [List.length_map]
        exact Nat.lt_of_lt_of_le (show rows.length < 10000 by omega) (by decide)
      · refine ⟨rows ++ [bs], by rw [List.length_append, hl]; rfl, ?_, hh2.set nDa nDd, (h2.trans hk2).set hD, ?_⟩
        · intro r hr'
          rcases List.mem_append.mp hr' with z | z
          · exact hr r z
          · rw [List.mem_singleton.mp z]
            exact hb
        · rw [upd_same, List.map_append]
          rfl
    · rintro H' ⟨rows, hl, hr, h1, h2, h3⟩
      have hl2 : rows.length = 2 ^ n := by
        rw [hl, hN]
        omega
      refine ⟨_, rfl, _, rfl, _, rfl, Dl, _, rfl, .inl ⟨.inl (.inl h3), fun l hl' => ⟨(by show 4 ≤ sizeLine; decide), fun p np => ?_⟩⟩⟩
      have hl1 := h1.ne hl'
      have h1' := h1.new (o := .tup (rows.map fun r => V.str (sb r))) hl'
      have hp1 := h1'.ne np
      refine q _ rows _ hl2 hr ?_ (h1'.new np) ((h2.trans (Keep.new hl')).trans (Keep.new np))
      have e1 : off a (upd (upd H' l (.tup (rows.map fun r => V.str (sb r)))) p (.tup [.str "generator", .int (n : Int), .int (m : Int), .ref l])) p = some (.tup [.str "generator", .int (n : Int), .int (m : Int), .ref l]) := by
        rw [off_ne hp1.1, upd_same]
      have e2 : off a (upd (upd H' l (.tup (rows.map fun r => V.str (sb r)))) p (.tup [.str "generator", .int (n : Int), .int (m : Int), .ref l])) l = some (.tup (rows.map fun r => V.str (sb r))) := by
        rw [off_ne hl1.1, upd_ne (ne_of_none upd_same np), upd_same]
      exact .tup (.inl (.inl e1)) (.cons (.str _) (.cons (.int _) (.cons (.int _) (.cons (.tup (.inl (.inl e2)) (dp_bits rows)) .nil))))
theorem ok_function {f : Addr} {fd : FuncData} (D : Df K mg "_law_function" s_law_function ["hand", "n", "l", "m"] f fd) (T : Txt K w mg cs) (c_law_string : Cl P w K mg base CX0 2 "_law_string" spString) : FnOk P w K mg base CX0 3 f fd ["hand", "n", "l", "m"] (spFunction K) := by
  refine D.fn.ok sc_law_function (fun vs H Q E h => ?_) (fun cdv A outer s H vs Q E hr h => ?_)
  · obtain ⟨a, d, n, l, m, rfl, _⟩ := h
    rfl
  · obtain ⟨a, d, n, l, m, rfl, hn, hl, hm, hh, q⟩ := h
    refine ⟨_, (pss_cons (ps_set (i := 4) sc_law_function.nd rfl (.inl rfl) (pe_lst pa_nil)) (pss_cons (ps_for PassesOwn.never rfl (pi_range1 (by rfl) T.n_range (pa_cons (pe_op op_shl pe_int (pv 1)) pa_nil)) (pg_name (i := 5) sc_law_function.nd rfl (.inl rfl)) (pss_one (ps_expr (pe_bm PySem.F.plainAttrs_list PySem.F.slot_list_append PySem.F.type_list_append mt_append (pv 4) (pa_cons (pe_callTy (tupOf K) (by rfl) T.n_tuple (by decide +kernel) (pa_cons (pe_lc (own := [("k", 6)]) (g := gName 6) (tt := tYes) rfl sc_law_function.nd (pi_range1 (by rfl) T.n_range (pa_cons (pe_op op_shl pe_int (pv 2)) pa_nil)) (blkOk_by (own := [("k", 6)]) (N := ["hand", "n", "l", "m", "rows", "key", "k"]) (sc := defScope s_law_function) (by decide +kernel)) (fun _ _ _ _ _ => (pg_name (i := 6) sc_law_function.nd rfl (.inl rfl))) (fun _ _ _ _ _ => pts_nil) (fun _ _ _ _ _ => (pe_cl c_law_string hr (by first | decide | omega) (by rfl) (pa_cons (pv 0) (pa_cons (pv 3) pa_nil))))) pa_nil)) pa_nil))))) (pss_one (ps_ret (pe_tup (pa_cons pe_str (pa_cons (pv 1) (pa_cons (pv 2) (pa_cons (pv 3) (pa_cons (pe_callTy (tupOf K) (by rfl) T.n_tuple (by decide +kernel) (pa_cons (pv 4) pa_nil)) pa_nil)))))))))), ?_⟩
    have hp : 2 ^ n ≤ 256 := two_pow_le (b := 8) hn
    have hpl : 2 ^ l ≤ 256 := two_pow_le (b := 8) hl
    refine ⟨Nat.zero_le _, fun R hR => ?_⟩
    obtain ⟨nRa, nRd⟩ := hh.ne hR
    refine ⟨_, rfl, _, _, rfl, rfl, ⟨by omega, by omega, by decide⟩, _, rfl, ?_⟩
    rw [shl_one]
    generalize hN : 2 ^ n = N at hp ⊢
    refine ⟨by omega, by omega, for_range (lo := 0) (n := _) (fun i σ H' => ∃ (y5 y6 : Option V) (ws : List V) (tabs : List (List (List Bool))), σ = [some (.ref a), some (.int (n : Int)), some (.int (l : Int)), some (.int (m : Int)), some (.ref R), y5, y6] ∧ tabs.length = i ∧
      (∀ rows ∈ tabs, rows.length = 2 ^ l ∧ ∀ r ∈ rows, r.length = m) ∧ ws.length = i ∧ DpAll K (off R (off a H')) ws (tabs.map rowsD) ∧ Hnd H' a d ∧ Keep a H H' ∧ H' R = some (.lst ws)) ?_ ?_ ?_⟩
    · exact ⟨none, none, [], [], rfl, rfl, fun r hr => (nomatch hr), rfl, DpAll.nil, hh.new hR, Keep.new hR, upd_same⟩
    · rintro i σ H' hi ⟨y5, y6, ws, tabs, rfl, ht, hts, hws, hdp, h1, h2, h3⟩
      refine ⟨_, rfl, .inl ⟨rfl, _, .inl (.inl h3)⟩, ?_⟩
      refine ⟨_, rfl, _, _, rfl, rfl, ⟨by omega, by omega, by decide⟩, _, rfl, ?_⟩
      rw [shl_one]
      generalize hL : 2 ^ l = L at hpl ⊢
      refine ⟨by omega, by omega, fun Dl hD => ?_⟩
      obtain ⟨nDa, nDd⟩ := h1.ne hD
      have nDR : Dl ≠ R := (ne_of_none h3 hD).symm
      refine lc_range (lo := 0) (n := _) (fun j H2 => ∃ rows : List (List Bool), rows.length = j ∧ (∀ r ∈ rows, r.length = m) ∧ Hnd H2 a d ∧ Keep a H' H2 ∧ H2 R = some (.lst ws) ∧ H2 Dl = some (.lst (rows.map fun r => V.str (sb r)))) ?_ ?_ ?_
      · exact ⟨[], rfl, fun r hr => (nomatch hr), h1.new hD, Keep.new hD, by rw [upd_ne nDR.symm]; exact h3, upd_same⟩
      · rintro j H2 hj ⟨rows, hl', hr, g1, g2, g3, g4⟩
        refine ⟨rfl, ?_⟩
        refine ⟨_, rfl, _, rfl, a, d, m, rfl, by omega, g1, fun bs H3 hb hh3 hk3 => ⟨_, hk3 _ _ g4 nDa, ?_, ?_⟩⟩
        · rw [List.length_map]
          exact Nat.lt_of_lt_of_le (show rows.length < 10000 by omega) (by decide)
        · refine ⟨rows ++ [bs], by rw [List.length_append, hl']; rfl, ?_, hh3.set nDa nDd, (g2.trans hk3).set hD, ?_, ?_⟩
          · intro r hr'
            rcases List.mem_append.mp hr' with z | z
            · exact hr r z
            · rw [List.mem_singleton.mp z]
              exact hb
          · rw [upd_ne nDR.symm]
            exact hk3 _ _ g3 nRa
          · rw [upd_same, List.map_append]
            rfl
      · rintro H2 ⟨rows, hl', hr, g1, g2, g3, g4⟩
        have hl2 : rows.length = 2 ^ l := by
          rw [hl', hL]
          omega
        refine ⟨Dl, _, rfl, .inl ⟨.inl (.inl g4), fun t nt => ⟨R, ws, _, rfl, rfl, ?_, ?_, ?_⟩⟩⟩
        · rw [upd_ne (ne_of_none g3 nt)]
          exact g3
        · exact Nat.lt_of_lt_of_le (show ws.length < 10000 by omega) (by decide)
        · obtain ⟨nta, ntd⟩ := g1.ne nt
          have ntR : t ≠ R := (ne_of_none g3 nt).symm
          have kk : Keep a H' (upd H2 t (.tup (rows.map fun r => V.str (sb r)))) := g2.trans (Keep.new nt)
          refine ⟨_, _, ws ++ [.ref t], tabs ++ [rows], rfl, by rw [List.length_append, ht]; rfl, ?_, by rw [List.length_append, hws]; rfl, ?_, (g1.new nt).set nRa nRd, (h2.trans kk).set hR, upd_same⟩
          · intro rows' hr'
            rw [← hL]
            rcases List.mem_append.mp hr' with z | z
            · exact hts _ z
            · rw [List.mem_singleton.mp z]
              exact ⟨hl2, hr⟩
          · rw [off_upd, List.map_append]
            refine dpAll_snoc (dps_same (off_mono kk.off) _ hdp) ?_
            refine .tup (.inl (.inl ?_)) (dp_bits rows)
            rw [off_ne ntR, off_ne nta, upd_same]
    · rintro σ H' ⟨y5, y6, ws, tabs, rfl, ht, hts, hws, hdp, h1, h2, h3⟩
      have hl2 : tabs.length = 2 ^ n := by
        rw [ht, hN]
        omega
      refine ⟨_, rfl, _, rfl, _, rfl, _, rfl, R, _, rfl, .inl ⟨.inl (.inl h3), fun t nt => ⟨(by show 5 ≤ sizeLine; decide), fun p np => ?_⟩⟩⟩
      have ht1 := h1.ne nt
      have h1' := h1.new (o := .tup ws) nt
      have hp1 := h1'.ne np
      refine q _ tabs _ hl2 hts ?_ (h1'.new np) ((h2.trans (Keep.new nt)).trans (Keep.new np))
      have e1 : off a (upd (upd H' t (.tup ws)) p (.tup [.str "function", .int (n : Int), .int (l : Int), .int (m : Int), .ref t])) p = some (.tup [.str "function", .int (n : Int), .int (l : Int), .int (m : Int), .ref t]) := by
        rw [off_ne hp1.1, upd_same]
      have e2 : off a (upd (upd H' t (.tup ws)) p (.tup [.str "function", .int (n : Int), .int (l : Int), .int (m : Int), .ref t])) t = some (.tup ws) := by
        rw [off_ne ht1.1, upd_ne (ne_of_none upd_same np), upd_same]
      have e3 : Same (off R (off a H')) (off a (upd (upd H' t (.tup ws)) p (.tup [.str "function", .int (n : Int), .int (l : Int), .int (m : Int), .ref t]))) := fun b o e => (((Keep.new nt).trans (Keep.new np)).off) b o (off_same R _ b o e)
      exact .tup (.inl (.inl e1)) (.cons (.str _) (.cons (.int _) (.cons (.int _) (.cons (.int _) (.cons (.tup (.inl (.inl e2)) (dps_same e3 _ hdp)) .nil)))))

end
/-! ### layers with numbers of any kind -/
def LongNo (D Y : PyData) : Prop := funOk D = true ∨ ∃ n m rows, D = tabD n m rows ∧ Wf n m rows ∧ (m ≠ n + 1 ∨ whole Y 1 20 = false)
def spLongA (K : PySem.W.Frag) (CB CS : Addr) : Sp := fun vs H Q E => ∃ (v kv : V) (D Y : PyData) (d : Nat), vs = [v, kv] ∧ Dp K H v D ∧ Gd d D ∧ d ≤ 64 ∧ Dp K H kv Y ∧
  ((LongNo D Y ∧ ∀ H', Same H H' → E (.ref CS) none H') ∨
    (∃ (n j : Nat) (rows : List (List Bool)), D = tabD n (n + 1) rows ∧ Y = .int (j : Int) ∧ Wf n (n + 1) rows ∧ 1 ≤ j ∧ j ≤ 20 ∧ ∀ v' H', Same H H' → Dp K H' v' (tabD n (n + j) (longR n rows j)) → Q v' H'))
def CutNo (D Y : PyData) : Prop := funOk D = true ∨ ∃ n m rows, D = tabD n m rows ∧ Wf n m rows ∧ whole Y 1 (m : Int) = false
def spCutA (K : PySem.W.Frag) (CB CS : Addr) : Sp := fun vs H Q E => ∃ (v kv : V) (D Y : PyData) (d : Nat), vs = [v, kv] ∧ Dp K H v D ∧ Gd d D ∧ d ≤ 64 ∧ Dp K H kv Y ∧
  ((CutNo D Y ∧ ∀ H', Same H H' → E (.ref CS) none H') ∨
    (∃ (n m j : Nat) (rows : List (List Bool)), D = tabD n m rows ∧ Y = .int (j : Int) ∧ Wf n m rows ∧ 1 ≤ j ∧ j ≤ m ∧ ∀ v' H', Same H H' → Dp K H' v' (tabD n j (rows.map fun r => r.take j)) → Q v' H'))
def TreeNo (D Y : PyData) : Prop := funOk D = true ∨ ∃ n m rows, D = tabD n m rows ∧ Wf n m rows ∧ (m ≠ 2 * n ∨ 8 < n ∨ whole Y 1 8 = false ∨ ∃ k : Int, Y = .int k ∧ 12 < (n : Int) + k)
def spTreeA (K : PySem.W.Frag) (CB CS : Addr) : Sp := fun vs H Q E => ∃ (v kv : V) (D Y : PyData) (d : Nat), vs = [v, kv] ∧ Dp K H v D ∧ Gd d D ∧ d ≤ 64 ∧ Dp K H kv Y ∧
  ((TreeNo D Y ∧ ∀ H', Same H H' → E (.ref CS) none H') ∨
    (∃ (n j : Nat) (rows : List (List Bool)), D = tabD n (2 * n) rows ∧ Y = .int (j : Int) ∧ Wf n (2 * n) rows ∧ n ≤ 8 ∧ 1 ≤ j ∧ j ≤ 8 ∧ n + j ≤ 12 ∧ ∀ v' H', Same H H' → Dp K H' v' (funD n j n (treeT n j rows)) → Q v' H'))
def CntNo (D Y : PyData) : Prop := genOk D = true ∨ ∃ n l m tabs, D = funD n l m tabs ∧ Wff n l m tabs ∧ (whole Y 1 ((2 ^ l : Nat) : Int) = false ∨ ∃ k : Int, Y = .int k ∧ 40 < k * (m : Int))
def spCntA (K : PySem.W.Frag) (CB CS : Addr) : Sp := fun vs H Q E => ∃ (v kv : V) (D Y : PyData) (d : Nat), vs = [v, kv] ∧ Dp K H v D ∧ Gd d D ∧ d ≤ 64 ∧ Dp K H kv Y ∧
  ((CntNo D Y ∧ ∀ H', Same H H' → E (.ref CS) none H') ∨
    (∃ (n l m j : Nat) (tabs : List (List (List Bool))), D = funD n l m tabs ∧ Y = .int (j : Int) ∧ Wff n l m tabs ∧ 1 ≤ j ∧ j ≤ 2 ^ l ∧ j * m ≤ 40 ∧ ∀ v' H', Same H H' → Dp K H' v' (tabD n (j * m) (cntR j tabs)) → Q v' H'))

section
variable {P : Program} {w : World} {K : PySem.W.Frag} {mg : Str → Option Value} {base : Heap} {cs : Cs}
theorem ok_longerA {f : Addr} {fd : FuncData} (D : Df K mg "longer" s_longer ["block", "k"] f fd) (T : Txt K w mg cs) (c_generator_parts : Cl P w K mg base (L2.CX P w) 4 "generator_parts" (spParts K cs.BadBlock cs.BadScheme))
    (c_is_whole : Cl P w K mg base CX0 1 "is_whole" (spWhole K)) (c_all_bits : Cl P w K mg base CX0 2 "all_bits" (spAll K)) (c_put_out : Cl P w K mg base CX0 2 "put_out" (spPut K)) : FnOk P w K mg base (L2.CX P w) 5 f fd ["block", "k"] (spLongA K cs.BadBlock cs.BadScheme) := by
  refine D.fn.okX sc_longer (fun vs H Q E h => ?_) (fun cdv A outer s H vs Q E hr h => ?_)
  · obtain ⟨v, kv, d, Y, n, rfl, _⟩ := h
    rfl
  · obtain ⟨v, kv, d, Y, n, rfl, hd, hg, hn, hY, q⟩ := h
    have tk := takes_of (X := cxOf (L2.CX P w) P w K mg base ["block", "k", "n", "m", "rows", "seed"] "longer" (defScope s_longer) f cdv A outer s H E) (E := E) rfl rfl rfl rfl
    refine ⟨_, (pss_cons (ps_asg (pe_clX c_generator_parts hr (by first | decide | omega) (by rfl) tk (pa_cons (pv 0) pa_nil)) (pg_tup (by rfl) (pgs_cons (pg_name (i := 2) sc_longer.nd rfl (.inl rfl)) (pgs_cons (pg_name (i := 3) sc_longer.nd rfl (.inl rfl)) (pgs_cons (pg_name (i := 4) sc_longer.nd rfl (.inr rfl)) pgs_nil))))) (pss_cons (ps_if (pt_cmpR op_ne (pv 3) (pe_op op_add (pv 2) pe_int) (nomark _)) (pss_one (ps_raiseE T.x_BadScheme rfl tk (by rfl))) pss_nil) (pss_cons (ps_if (pt_not (pt_val (pe_cl c_is_whole hr (by first | decide | omega) (by rfl) (pa_cons (pv 1) (pa_cons pe_int (pa_cons pe_int pa_nil)))))) (pss_one (ps_raiseE T.x_BadScheme rfl tk (by rfl))) pss_nil) (pss_one (ps_ret (pe_tup (pa_cons pe_str (pa_cons (pv 2) (pa_cons (pe_op op_add (pv 2) (pv 1)) (pa_cons (pe_callTy (tupOf K) (by rfl) T.n_tuple (by decide +kernel) (pa_cons (pe_lc (own := [("seed", 5)]) (g := gName 5) (tt := tYes) rfl sc_longer.nd (pi_list (pe_cl c_all_bits hr (by first | decide | omega) (by rfl) (pa_cons (pv 2) pa_nil))) (blkOk_by (own := [("seed", 5)]) (N := ["block", "k", "n", "m", "rows", "seed"]) (sc := defScope s_longer) (by decide +kernel)) (fun _ _ _ _ _ => (pg_name (i := 5) sc_longer.nd rfl (.inl rfl))) (fun _ _ _ _ _ => pts_nil) (fun _ _ _ _ _ => (pe_cl c_put_out hr (by first | decide | omega) (by rfl) (pa_cons (pv 4) (pa_cons (pv 5) (pa_cons (pv 1) pa_nil)))))) pa_nil)) pa_nil)))))))))), ?_⟩
    rcases q with ⟨q0, q⟩ | ⟨n', j, rows, rfl, rfl, wf, j1, j2, q⟩
    · rcases q0 with q0 | ⟨n', m, rows, rfl, wf, bad⟩
      · exact ⟨_, rfl, v, d, n, rfl, hd, hg, hn, .inr (.inl ⟨q0, q⟩)⟩
      · refine ⟨_, rfl, v, _, n, rfl, hd, hg, hn, .inr (.inr ⟨n', m, rows, rfl, wf, fun p r H1 s1 t1 t2 => ?_⟩)⟩
        refine ⟨p, _, rfl, t1, rfl, _, _, rfl, _, _, rfl, _, _, rfl, rfl, ?_⟩
        refine ⟨_, rfl, _, rfl, _, _, rfl, rfl, rfl, _, rfl, ?_⟩
        by_cases c : m = n' + 1
        · rw [decide_eq_true (show V.int (m : Int) = V.int ((n' : Int) + 1) from congrArg V.int (by omega))]
          refine ⟨_, rfl, kv, Y, 1, 20, rfl, dp_same s1 _ hY, _, rfl, ?_⟩
          rcases bad with bad | bad
          · exact absurd c bad
          · rw [bad]
            exact q H1 s1
        · rw [decide_eq_false (show ¬ V.int (m : Int) = V.int ((n' : Int) + 1) from fun z => c (by have := V.int.inj z; omega))]
          exact q H1 s1
    · cases hY
      refine ⟨_, rfl, v, _, n, rfl, hd, hg, hn, .inr (.inr ⟨n', n' + 1, rows, rfl, wf, fun p r H1 s1 t1 t2 => ?_⟩)⟩
      refine ⟨p, _, rfl, t1, rfl, _, _, rfl, _, _, rfl, _, _, rfl, rfl, ?_⟩
      refine ⟨_, rfl, _, rfl, _, _, rfl, rfl, rfl, _, rfl, ?_⟩
      rw [decide_eq_true (show V.int ((n' + 1 : Nat) : Int) = V.int ((n' : Int) + 1) from congrArg V.int (by omega))]
      refine ⟨_, rfl, .int (j : Int), .int (j : Int), 1, 20, rfl, .int (j : Int), _, rfl, ?_⟩
      have ew : whole (.int (j : Int)) 1 20 = true := by
        show (decide _ && decide _) = true
        rw [decide_eq_true (show (1 : Int) ≤ (j : Int) by omega), decide_eq_true (show (j : Int) ≤ 20 by omega)]
        rfl
      rw [ew]
      have hn10 := wf.n2
      refine ⟨_, rfl, _, rfl, _, rfl, _, _, rfl, rfl, _, rfl, n', rfl, by omega, fun L H2 nL s2 eL => ⟨L, rfl, ⟨_, .inl (.inl eL)⟩, fun Dl hD => ?_⟩⟩
      have nLD : Dl ≠ L := (ne_of_none eL hD).symm
      refine lc_list (xs := rowV ((List.range (2 ^ n')).map fun i => toB n' i)) (fun i H' => Same H2 H' ∧ H' Dl = some (.lst (rowV ((List.range i).map fun i => putOut rows j (toB n' i))))) ?_ ?_ ?_ ?_
      · exact ⟨same_new hD, upd_same⟩
      · rintro i H' _ ⟨s3, _⟩
        exact .inl (.inl (s3 _ _ eL))
      · rintro i x H' hx ⟨s3, e3⟩
        have hi : i < 2 ^ n' := by
          have := (List.getElem?_eq_some_iff.mp hx).1
          unfold rowV at this
          rw [List.length_map, List.length_map, List.length_range] at this
          exact this
        have ex : x = .str (sb (toB n' i)) := by
          unfold rowV at hx
          rw [List.getElem?_map, List.getElem?_map, List.getElem?_range hi] at hx
          exact (Option.some.inj hx).symm
        subst ex
        have hp := two_pow_le (b := 10) hn10
        refine ⟨rfl, ?_⟩
        refine ⟨_, rfl, _, rfl, _, rfl, r, n', j, rows, toB n' i, rfl, same_sqt (s2.trans s3) t2, wf, toB_len _ _, j2, _, e3, ?_, fun b o e => ?_, ?_⟩
        · unfold rowV
          rw [List.length_map, List.length_map, List.length_range]
          exact Nat.lt_of_lt_of_le (show i < 10000 by omega) (by decide)
        · rw [upd_ne (ne_of_none e hD)]
          exact s3 b o e
        · rw [upd_same, List.range_succ]
          unfold rowV
          rw [List.map_append, List.map_append]
          rfl
      · rintro H' ⟨s3, e3⟩
        have el : (rowV ((List.range (2 ^ n')).map fun i => toB n' i)).length = 2 ^ n' := by
          unfold rowV
          rw [List.length_map, List.length_map, List.length_range]
        rw [el] at e3
        refine ⟨Dl, _, rfl, .inl ⟨.inl (.inl e3), fun t nt => ⟨(by show 4 ≤ sizeLine; decide), fun g ng => ?_⟩⟩⟩
        have s4 := ((s1.trans s2).trans s3).trans ((same_new nt).trans (same_new (o := .tup [.str "generator", .int (n' : Int), .int ((n' : Int) + (j : Int)), .ref t]) ng))
        refine q _ _ s4 (tab_dp (n := n') (m := n' + j) (r := t) (.inl (.inl upd_same)) (.inl (.inl ?_)))
        rw [upd_ne (ne_of_none upd_same ng), upd_same]
        rfl
theorem ok_cutA {f : Addr} {fd : FuncData} (D : Df K mg "cut" s_cut ["block", "b"] f fd) (T : Txt K w mg cs) (c_generator_parts : Cl P w K mg base (L2.CX P w) 4 "generator_parts" (spParts K cs.BadBlock cs.BadScheme))
    (c_is_whole : Cl P w K mg base CX0 1 "is_whole" (spWhole K)) : FnOk P w K mg base (L2.CX P w) 5 f fd ["block", "b"] (spCutA K cs.BadBlock cs.BadScheme) := by
  refine D.fn.okX sc_cut (fun vs H Q E h => ?_) (fun cdv A outer s H vs Q E hr h => ?_)
  · obtain ⟨v, kv, d, Y, n, rfl, _⟩ := h
    rfl
  · obtain ⟨v, kv, d, Y, n, rfl, hd, hg, hn, hY, q⟩ := h
    have tk := takes_of (X := cxOf (L2.CX P w) P w K mg base ["block", "b", "n", "m", "rows", "row"] "cut" (defScope s_cut) f cdv A outer s H E) (E := E) rfl rfl rfl rfl
    refine ⟨_, (pss_cons (ps_asg (pe_clX c_generator_parts hr (by first | decide | omega) (by rfl) tk (pa_cons (pv 0) pa_nil)) (pg_tup (by rfl) (pgs_cons (pg_name (i := 2) sc_cut.nd rfl (.inl rfl)) (pgs_cons (pg_name (i := 3) sc_cut.nd rfl (.inl rfl)) (pgs_cons (pg_name (i := 4) sc_cut.nd rfl (.inl rfl)) pgs_nil))))) (pss_cons (ps_if (pt_not (pt_val (pe_cl c_is_whole hr (by first | decide | omega) (by rfl) (pa_cons (pv 1) (pa_cons pe_int (pa_cons (pv 3) pa_nil)))))) (pss_one (ps_raiseE T.x_BadScheme rfl tk (by rfl))) pss_nil) (pss_one (ps_ret (pe_tup (pa_cons pe_str (pa_cons (pv 2) (pa_cons (pv 1) (pa_cons (pe_callTy (tupOf K) (by rfl) T.n_tuple (by decide +kernel) (pa_cons (pe_lc (own := [("row", 5)]) (g := gName 5) (tt := tYes) rfl sc_cut.nd (pi_tup (pv 4)) (blkOk_by (own := [("row", 5)]) (N := ["block", "b", "n", "m", "rows", "row"]) (sc := defScope s_cut) (by decide +kernel)) (fun _ _ _ _ _ => (pg_name (i := 5) sc_cut.nd rfl (.inl rfl))) (fun _ _ _ _ _ => pts_nil) (fun _ _ _ _ _ => (pe_slice sl_str (pv 5) po_none (po_some (pv 1))))) pa_nil)) pa_nil))))))))), ?_⟩
    rcases q with ⟨q0, q⟩ | ⟨n', m, j, rows, rfl, rfl, wf, j1, j2, q⟩
    · rcases q0 with q0 | ⟨n', m, rows, rfl, wf, bad⟩
      · exact ⟨_, rfl, v, d, n, rfl, hd, hg, hn, .inr (.inl ⟨q0, q⟩)⟩
      · refine ⟨_, rfl, v, _, n, rfl, hd, hg, hn, .inr (.inr ⟨n', m, rows, rfl, wf, fun p r H1 s1 t1 t2 => ?_⟩)⟩
        refine ⟨p, _, rfl, t1, rfl, _, _, rfl, _, _, rfl, _, _, rfl, rfl, ?_⟩
        refine ⟨_, rfl, _, rfl, kv, Y, 1, (m : Int), rfl, dp_same s1 _ hY, _, rfl, ?_⟩
        rw [bad]
        exact q H1 s1
    · cases hY
      refine ⟨_, rfl, v, _, n, rfl, hd, hg, hn, .inr (.inr ⟨n', m, rows, rfl, wf, fun p r H1 s1 t1 t2 => ?_⟩)⟩
      refine ⟨p, _, rfl, t1, rfl, _, _, rfl, _, _, rfl, _, _, rfl, rfl, ?_⟩
      refine ⟨_, rfl, _, rfl, .int (j : Int), .int (j : Int), 1, (m : Int), rfl, .int (j : Int), _, rfl, ?_⟩
      have ew : whole (.int (j : Int)) 1 (m : Int) = true := by
        show (decide _ && decide _) = true
        rw [decide_eq_true (show (1 : Int) ≤ (j : Int) by omega), decide_eq_true (show (j : Int) ≤ (m : Int) by omega)]
        rfl
      rw [ew]
      have hn10 := wf.n2
      refine ⟨_, rfl, _, rfl, _, rfl, r, rfl, ⟨_, t2⟩, fun Dl hD => ?_⟩
      refine lc_tup (xs := rowV rows) (fun i H' => Same H1 H' ∧ H' Dl = some (.lst (rowV ((rows.take i).map fun r => r.take j)))) ?_ ?_ ?_ ?_
      · exact ⟨same_new hD, upd_same⟩
      · rintro i H' _ ⟨s3, _⟩
        exact same_sqt s3 t2
      · rintro i x H' hx ⟨s3, e3⟩
        have hi : i < rows.length := by
          have := (List.getElem?_eq_some_iff.mp hx).1
          unfold rowV at this
          rw [List.length_map] at this
          exact this
        have ex : x = .str (sb rows[i]) := by
          unfold rowV at hx
          rw [List.getElem?_map, List.getElem?_eq_getElem hi] at hx
          exact (Option.some.inj hx).symm
        subst ex
        have hp := two_pow_le (b := 10) hn10
        have hl := wf.len
        have hrl := wf.row _ (List.getElem_mem hi)
        have hm := wf.m2
        refine ⟨rfl, ?_⟩
        refine ⟨_, rfl, _, rfl, _, rfl, _, rfl, ?_, _, e3, ?_, fun b o e => ?_, ?_⟩
        · rw [sb_len, sizeLine_eq]
          omega
        · unfold rowV
          rw [List.length_map, List.length_map, List.length_take]
          exact Nat.lt_of_lt_of_le (show min i rows.length < 10000 by omega) (by decide)
        · rw [upd_ne (ne_of_none e hD)]
          exact s3 b o e
        · rw [upd_same, List.take_add_one, List.getElem?_eq_getElem hi, cut_pre]
          unfold rowV
          rw [List.map_append, List.map_append]
          rfl
      · rintro H' ⟨s3, e3⟩
        have el : (rowV rows).length = rows.length := by
          unfold rowV
          rw [List.length_map]
        rw [el, List.take_length] at e3
        refine ⟨Dl, _, rfl, .inl ⟨.inl (.inl e3), fun t nt => ⟨(by show 4 ≤ sizeLine; decide), fun g ng => ?_⟩⟩⟩
        have s4 := (s1.trans s3).trans ((same_new nt).trans (same_new (o := .tup [.str "generator", .int (n' : Int), .int (j : Int), .ref t]) ng))
        refine q _ _ s4 (tab_dp (n := n') (m := j) (r := t) (.inl (.inl upd_same)) (.inl (.inl ?_)))
        rw [upd_ne (ne_of_none upd_same ng), upd_same]
        rfl
theorem ok_treeA {f : Addr} {fd : FuncData} (D : Df K mg "tree" s_tree ["block", "d"] f fd) (T : Txt K w mg cs) (c_generator_parts : Cl P w K mg base (L2.CX P w) 4 "generator_parts" (spParts K cs.BadBlock cs.BadScheme))
    (c_is_whole : Cl P w K mg base CX0 1 "is_whole" (spWhole K)) (c_all_bits : Cl P w K mg base CX0 2 "all_bits" (spAll K)) (c_go_down : Cl P w K mg base CX0 2 "go_down" (spGo K)) : FnOk P w K mg base (L2.CX P w) 5 f fd ["block", "d"] (spTreeA K cs.BadBlock cs.BadScheme) := by
  refine D.fn.okX sc_tree (fun vs H Q E h => ?_) (fun cdv A outer s H vs Q E hr h => ?_)
  · obtain ⟨v, kv, d, Y, n, rfl, _⟩ := h
    rfl
  · obtain ⟨v, kv, d, Y, n, rfl, hd, hg, hn, hY, q⟩ := h
    have tk := takes_of (X := cxOf (L2.CX P w) P w K mg base ["block", "d", "n", "m", "rows", "paths", "tables", "key", "path"] "tree" (defScope s_tree) f cdv A outer s H E) (E := E) rfl rfl rfl rfl
    refine ⟨_, (pss_cons (ps_asg (pe_clX c_generator_parts hr (by first | decide | omega) (by rfl) tk (pa_cons (pv 0) pa_nil)) (pg_tup (by rfl) (pgs_cons (pg_name (i := 2) sc_tree.nd rfl (.inl rfl)) (pgs_cons (pg_name (i := 3) sc_tree.nd rfl (.inl rfl)) (pgs_cons (pg_name (i := 4) sc_tree.nd rfl (.inr rfl)) pgs_nil))))) (pss_cons (ps_if (PW.pt (pw_or (pt_cmpR op_ne (pv 3) (pe_op op_mul pe_int (pv 2)) (nomark _)) (pw_or1 (pt_cmpR op_gt (pv 2) pe_int (nomark _))))) (pss_one (ps_raiseE T.x_BadScheme rfl tk (by rfl))) pss_nil) (pss_cons (ps_if (PW.pt (pw_or (pt_not (pt_val (pe_cl c_is_whole hr (by first | decide | omega) (by rfl) (pa_cons (pv 1) (pa_cons pe_int (pa_cons pe_int pa_nil)))))) (pw_or1 (pt_cmpR op_gt (pe_op op_add (pv 2) (pv 1)) pe_int (nomark _))))) (pss_one (ps_raiseE T.x_BadScheme rfl tk (by rfl))) pss_nil) (pss_cons (ps_set (i := 5) sc_tree.nd rfl (.inr rfl) (pe_cl c_all_bits hr (by first | decide | omega) (by rfl) (pa_cons (pv 1) pa_nil))) (pss_cons (ps_setLc (i := 6) (own := [("key", 7)]) (g := gName 7) (tt := tYes) rfl sc_tree.nd rfl rfl (sw_true rfl rfl rfl (by decide +kernel)) (pi_list (pe_cl c_all_bits hr (by first | decide | omega) (by rfl) (pa_cons (pv 2) pa_nil))) (blkOk_by (own := [("key", 7)]) (N := ["block", "d", "n", "m", "rows", "paths", "tables", "key", "path"]) (sc := defScope s_tree) (by decide +kernel)) (fun _ _ _ _ _ => (pg_name (i := 7) sc_tree.nd rfl (.inr rfl))) (fun _ _ _ _ _ => pts_nil) (fun _ _ _ _ _ => (pe_callTy (tupOf K) (by rfl) T.n_tuple (by decide +kernel) (pa_cons (pe_lc (own := [("path", 8)]) (g := gName 8) (tt := tYes) rfl sc_tree.nd (piL K (pv 5)) (blkOk_by (own := [("path", 8)]) (by rfl)) (fun _ _ _ _ _ => (pg_name (i := 8) sc_tree.nd rfl (.inl rfl))) (fun _ _ _ _ _ => pts_nil) (fun _ _ _ _ _ => (pe_cl c_go_down hr (by first | decide | omega) (by rfl) (pa_cons (pv 4) (pa_cons (pv 7) (pa_cons (pv 8) pa_nil)))))) pa_nil)))) (pss_one (ps_ret (pe_tup (pa_cons pe_str (pa_cons (pv 2) (pa_cons (pv 1) (pa_cons (pv 2) (pa_cons (pe_callTy (tupOf K) (by rfl) T.n_tuple (by decide +kernel) (pa_cons (pv 6) pa_nil)) pa_nil))))))))))))), ?_⟩
    rcases q with ⟨q0, q⟩ | ⟨n', j, rows, rfl, rfl, wf, n8, j1, j2, nj, q⟩
    · rcases q0 with q0 | ⟨n', m, rows, rfl, wf, bad⟩
      · exact ⟨_, rfl, v, d, n, rfl, hd, hg, hn, .inr (.inl ⟨q0, q⟩)⟩
      · refine ⟨_, rfl, v, _, n, rfl, hd, hg, hn, .inr (.inr ⟨n', m, rows, rfl, wf, fun p r H1 s1 t1 t2 => ?_⟩)⟩
        refine ⟨p, _, rfl, t1, rfl, _, _, rfl, _, _, rfl, _, _, rfl, rfl, ?_⟩
        refine ⟨_, rfl, _, rfl, _, _, rfl, rfl, .inl ⟨by decide, by decide⟩, rfl, _, rfl, ?_⟩
        by_cases c1 : m = 2 * n'
        · rw [decide_eq_true (show V.int (m : Int) = V.int (2 * (n' : Int)) from congrArg V.int (by omega))]
          refine ⟨_, rfl, _, _, rfl, rfl, _, rfl, ?_⟩
          by_cases c2 : (8 : Int) < (n' : Int)
          · rw [decide_eq_true c2]
            exact q H1 s1
          · rw [decide_eq_false c2]
            refine ⟨_, rfl, kv, Y, 1, 8, rfl, dp_same s1 _ hY, _, rfl, ?_⟩
            cases c3 : whole Y 1 8 with
            | false => exact q H1 s1
            | true =>
              obtain ⟨k, rfl, k1, k2⟩ := whole_int c3
              cases hY
              refine ⟨_, rfl, _, rfl, _, _, rfl, rfl, _, _, rfl, rfl, _, rfl, ?_⟩
              rcases bad with bad | bad | bad | ⟨k', e, bad⟩
              · exact absurd c1 bad
              · exact absurd (show (8 : Int) < (n' : Int) by omega) c2
              · rw [c3] at bad
                cases bad
              · injection e with e
                subst e
                rw [decide_eq_true bad]
                exact q H1 s1
        · rw [decide_eq_false (show ¬ V.int (m : Int) = V.int (2 * (n' : Int)) from fun z => c1 (by have := V.int.inj z; omega))]
          exact q H1 s1
    · cases hY
      refine ⟨_, rfl, v, _, n, rfl, hd, hg, hn, .inr (.inr ⟨n', 2 * n', rows, rfl, wf, fun p r H1 s1 t1 t2 => ?_⟩)⟩
      refine ⟨p, _, rfl, t1, rfl, _, _, rfl, _, _, rfl, _, _, rfl, rfl, ?_⟩
      refine ⟨_, rfl, _, rfl, _, _, rfl, rfl, .inl ⟨by decide, by decide⟩, rfl, _, rfl, ?_⟩
      rw [decide_eq_true (show V.int ((2 * n' : Nat) : Int) = V.int (2 * (n' : Int)) from congrArg V.int (by omega))]
      refine ⟨_, rfl, _, _, rfl, rfl, _, rfl, ?_⟩
      rw [decide_eq_false (show ¬ (8 : Int) < (n' : Int) by omega)]
      refine ⟨_, rfl, .int (j : Int), .int (j : Int), 1, 8, rfl, .int (j : Int), _, rfl, ?_⟩
      have ew : whole (.int (j : Int)) 1 8 = true := by
        show (decide _ && decide _) = true
        rw [decide_eq_true (show (1 : Int) ≤ (j : Int) by omega), decide_eq_true (show (j : Int) ≤ 8 by omega)]
        rfl
      rw [ew]
      refine ⟨_, rfl, _, rfl, _, _, rfl, rfl, _, _, rfl, rfl, _, rfl, ?_⟩
      rw [decide_eq_false (show ¬ (12 : Int) < (n' : Int) + (j : Int) by omega)]
      refine ⟨_, rfl, j, rfl, by omega, fun L1 H2 nL1 s2 e1 => ?_⟩
      refine ⟨_, rfl, n', rfl, by omega, fun L2 H3 nL2 s3 e2 => ⟨L2, rfl, ⟨_, .inl (.inl e2)⟩, fun Dl hD => ?_⟩⟩
      have hp := two_pow_le (b := 8) n8
      have hpj := two_pow_le (b := 8) j2
      have e13 := s3 _ _ e1
      have t23 := same_sqt (s2.trans s3) t2
      refine lc_list (xs := rowV ((List.range (2 ^ n')).map fun i => toB n' i)) (fun i H' => Same H3 H' ∧ ∃ us, H' Dl = some (.lst us) ∧ us.length = i ∧ DpAll K (off Dl H') us ((List.range i).map fun i => rowsD ((List.range (2 ^ j)).map fun k => goDown rows n' (toB n' i) (toB j k)))) ?_ ?_ ?_ ?_
      · exact ⟨same_new hD, [], upd_same, rfl, .nil⟩
      · rintro i H' _ ⟨s4, _⟩
        exact .inl (.inl (s4 _ _ e2))
      · rintro i x H' hx ⟨s4, us, e4, hul, hA⟩
        obtain ⟨hi, rfl⟩ := range_at hx
        refine ⟨rfl, ?_⟩
        refine ⟨_, rfl, L1, rfl, ⟨_, .inl (.inl (s4 _ _ e13))⟩, fun Di hDi => ?_⟩
        refine lc_list (xs := rowV ((List.range (2 ^ j)).map fun i => toB j i)) (fun k H2 => Same H' H2 ∧ H2 Di = some (.lst (rowV ((List.range k).map fun k => goDown rows n' (toB n' i) (toB j k))))) ?_ ?_ ?_ ?_
        · exact ⟨same_new hDi, upd_same⟩
        · rintro k H2 _ ⟨s5, _⟩
          exact .inl (.inl (s5 _ _ (s4 _ _ e13)))
        · rintro k y H2 hy ⟨s5, e5⟩
          obtain ⟨hk, rfl⟩ := range_at hy
          refine ⟨rfl, ?_⟩
          refine ⟨_, rfl, _, rfl, _, rfl, r, n', rows, toB n' i, toB j k, rfl, same_sqt (s4.trans s5) t23, wf, toB_len _ _, _, e5, ?_, fun b o e => ?_, ?_⟩
          · rw [rowV_len, List.length_map, List.length_range]
            exact Nat.lt_of_lt_of_le (show k < 10000 by omega) (by decide)
          · rw [upd_ne (ne_of_none e hDi)]
            exact s5 b o e
          · rw [upd_same, rowV_snoc]
        · rintro H2 ⟨s5, e5⟩
          rw [rowV_len, List.length_map, List.length_range] at e5
          refine ⟨Di, _, rfl, .inl ⟨.inl (.inl e5), fun t nt => ?_⟩⟩
          have e42 := s5 _ _ e4
          have ntD : t ≠ Dl := (ne_of_none e42 nt).symm
          refine ⟨_, by rw [upd_ne ntD.symm]; exact e42, ?_, fun b o e => ?_, us ++ [.ref t], upd_same, by rw [List.length_append, hul]; rfl, ?_⟩
          · exact Nat.lt_of_lt_of_le (show us.length < 10000 by omega) (by decide)
          · rw [upd_ne (ne_of_none e hD)]
            exact same_new nt _ _ (s5 _ _ (s4 _ _ e))
          · rw [off_upd1, List.range_succ, List.map_append]
            refine dpAll_snoc (dps_same (off_mono (s5.trans (same_new nt))) _ hA) (.tup (.inl (.inl ?_)) (dp_bits _))
            rw [off_ne ntD, upd_same]
            rfl
      · rintro H' ⟨s4, us, e4, hul, hA⟩
        rw [rowV_len, List.length_map, List.length_range] at hul hA
        refine ⟨_, rfl, _, rfl, _, rfl, _, rfl, Dl, _, rfl, .inl ⟨.inl (.inl e4), fun t nt => ⟨(by show 5 ≤ sizeLine; decide), fun g ng => ?_⟩⟩⟩
        have s6 := (same_new (o := .tup us) nt).trans (same_new (o := .tup [.str "function", .int (n' : Int), .int (j : Int), .int (n' : Int), .ref t]) ng)
        refine q _ _ (((s1.trans s2).trans s3).trans (s4.trans s6)) (fun_dp (n := n') (l := j) (m := n') (t := t) (.inl (.inl upd_same)) ?_)
        have eT : (treeT n' j rows).map rowsD = (List.range (2 ^ n')).map fun i => rowsD ((List.range (2 ^ j)).map fun k => goDown rows n' (toB n' i) (toB j k)) := by
          unfold treeT
          rw [List.map_map]
          rfl
        unfold tabsD
        rw [eT]
        exact .tup (.inl (.inl (by rw [upd_ne (ne_of_none upd_same ng), upd_same]))) (dps_same (fun b o e => s6 _ _ (off_same Dl H' _ _ e)) _ hA)
theorem ok_counterA {f : Addr} {fd : FuncData} (D : Df K mg "counter" s_counter ["block", "c"] f fd) (T : Txt K w mg cs) (c_function_parts : Cl P w K mg base (L2.CX P w) 4 "function_parts" (spFParts K cs.BadBlock cs.BadScheme))
    (c_is_whole : Cl P w K mg base CX0 1 "is_whole" (spWhole K)) : FnOk P w K mg base (L2.CX P w) 5 f fd ["block", "c"] (spCntA K cs.BadBlock cs.BadScheme) := by
  refine D.fn.okX sc_counter (fun vs H Q E h => ?_) (fun cdv A outer s H vs Q E hr h => ?_)
  · obtain ⟨v, kv, d, Y, n, rfl, _⟩ := h
    rfl
  · obtain ⟨v, kv, d, Y, n, rfl, hd, hg, hn, hY, q⟩ := h
    have tk := takes_of (X := cxOf (L2.CX P w) P w K mg base ["block", "c", "n", "l", "m", "tables", "values"] "counter" (defScope s_counter) f cdv A outer s H E) (E := E) rfl rfl rfl rfl
    refine ⟨_, (pss_cons (ps_asg (pe_clX c_function_parts hr (by first | decide | omega) (by rfl) tk (pa_cons (pv 0) pa_nil)) (pg_tup (by rfl) (pgs_cons (pg_name (i := 2) sc_counter.nd rfl (.inl rfl)) (pgs_cons (pg_name (i := 3) sc_counter.nd rfl (.inl rfl)) (pgs_cons (pg_name (i := 4) sc_counter.nd rfl (.inl rfl)) (pgs_cons (pg_name (i := 5) sc_counter.nd rfl (.inl rfl)) pgs_nil)))))) (pss_cons (ps_if (PW.pt (pw_or (pt_not (pt_val (pe_cl c_is_whole hr (by first | decide | omega) (by rfl) (pa_cons (pv 1) (pa_cons pe_int (pa_cons (pe_op op_shl pe_int (pv 3)) pa_nil)))))) (pw_or1 (pt_cmpR op_gt (pe_op op_mul (pv 1) (pv 4)) (C8.pe_gc (by rfl) T.g_MOST_BITS) (nomark _))))) (pss_one (ps_raiseE T.x_BadScheme rfl tk (by rfl))) pss_nil) (pss_one (ps_ret (pe_tup (pa_cons pe_str (pa_cons (pv 2) (pa_cons (pe_op op_mul (pv 1) (pv 4)) (pa_cons (pe_callTy (tupOf K) (by rfl) T.n_tuple (by decide +kernel) (pa_cons (pe_lc (own := [("values", 6)]) (g := gName 6) (tt := tYes) rfl sc_counter.nd (pi_tup (pv 5)) (blkOk_by (own := [("values", 6)]) (N := ["block", "c", "n", "l", "m", "tables", "values"]) (sc := defScope s_counter) (by decide +kernel)) (fun _ _ _ _ _ => (pg_name (i := 6) sc_counter.nd rfl (.inl rfl))) (fun _ _ _ _ _ => pts_nil) (fun _ _ _ _ _ => (pe_m1 PySem.F.slot_str_join PySem.F.type_str_join (mtJoin K) pe_str (pe_slice (slTA K) (pv 6) po_none (po_some (pv 1)))))) pa_nil)) pa_nil))))))))), ?_⟩
    rcases q with ⟨q0, q⟩ | ⟨n', l, m, j, tabs, rfl, rfl, wf, j1, j2, jm, q⟩
    · rcases q0 with q0 | ⟨n', l, m, tabs, rfl, wf, bad⟩
      · exact ⟨_, rfl, v, d, n, rfl, hd, hg, hn, .inr (.inl ⟨q0, q⟩)⟩
      · refine ⟨_, rfl, v, _, n, rfl, hd, hg, hn, .inr (.inr ⟨n', l, m, tabs, rfl, wf, fun p t H1 s1 t1 t2 => ?_⟩)⟩
        have hl8 := wf.l2
        have hm40 := wf.m2
        refine ⟨p, _, rfl, t1, rfl, _, _, rfl, _, _, rfl, _, _, rfl, _, _, rfl, rfl, ?_⟩
        refine ⟨_, rfl, _, rfl, _, _, rfl, rfl, ⟨by omega, by omega, by decide⟩, kv, Y, 1, _, rfl, dp_same s1 _ hY, _, rfl, ?_⟩
        rw [shl_one]
        cases c : whole Y 1 ((2 ^ l : Nat) : Int) with
        | false => exact q H1 s1
        | true =>
          obtain ⟨k, rfl, k1, k2⟩ := whole_int c
          cases hY
          have hp := two_pow_le (b := 8) hl8
          have hk : k ≤ 256 := by
            generalize 2 ^ l = N at *
            omega
          refine ⟨_, rfl, _, rfl, _, _, rfl, rfl, .inl ⟨by omega, by omega⟩, _, _, rfl, rfl, _, rfl, ?_⟩
          rcases bad with bad | ⟨k', e, bad⟩
          · rw [c] at bad
            cases bad
          · injection e with e
            subst e
            rw [decide_eq_true bad]
            exact q H1 s1
    · cases hY
      refine ⟨_, rfl, v, _, n, rfl, hd, hg, hn, .inr (.inr ⟨n', l, m, tabs, rfl, wf, fun p t H1 s1 t1 t2 => ?_⟩)⟩
      have hl8 := wf.l2
      have hm40 := wf.m2
      have hp := two_pow_le (b := 8) hl8
      refine ⟨p, _, rfl, t1, rfl, _, _, rfl, _, _, rfl, _, _, rfl, _, _, rfl, rfl, ?_⟩
      refine ⟨_, rfl, _, rfl, _, _, rfl, rfl, ⟨by omega, by omega, by decide⟩, .int (j : Int), .int (j : Int), 1, _, rfl, .int (j : Int), _, rfl, ?_⟩
      rw [shl_one]
      have ew : whole (.int (j : Int)) 1 ((2 ^ l : Nat) : Int) = true := by
        show (decide _ && decide _) = true
        rw [decide_eq_true (show (1 : Int) ≤ (j : Int) by omega), decide_eq_true (show (j : Int) ≤ ((2 ^ l : Nat) : Int) by generalize 2 ^ l = N at *; omega)]
        rfl
      rw [ew]
      have hj : j ≤ 256 := by
        generalize 2 ^ l = N at *
        omega
      have ejm : (j : Int) * (m : Int) = ((j * m : Nat) : Int) := (Int.natCast_mul j m).symm
      refine ⟨_, rfl, _, rfl, _, _, rfl, rfl, .inl ⟨by omega, by omega⟩, _, _, rfl, rfl, _, rfl, ?_⟩
      rw [decide_eq_false (show ¬ (40 : Int) < (j : Int) * (m : Int) by rw [ejm]; omega)]
      obtain ⟨us, hU, hul, hat⟩ := tabs_at t2
      have hlen := wf.len
      have hn8 := two_pow_le (b := 8) wf.n2
      refine ⟨_, rfl, _, rfl, _, rfl, _, _, rfl, rfl, .inl ⟨by omega, by omega⟩, _, rfl, t, rfl, ⟨_, hU⟩, fun Dl hD => ?_⟩
      refine lc_tup (xs := us) (fun i H' => Same H1 H' ∧ H' Dl = some (.lst (rowV (cntR j (tabs.take i))))) ?_ ?_ ?_ ?_
      · exact ⟨same_new hD, upd_same⟩
      · rintro i H' _ ⟨s3, _⟩
        exact same_sqt s3 hU
      · rintro i x H' hx ⟨s3, e3⟩
        have hi : i < tabs.length := by
          have := (List.getElem?_eq_some_iff.mp hx).1
          omega
        obtain ⟨r, hr', hR⟩ := hat i hi
        have ex : x = .ref r := Option.some.inj (hx.symm.trans hr')
        subst ex
        have hrow := wf.row _ (List.getElem_mem hi)
        refine ⟨rfl, ?_⟩
        refine ⟨⟨_, rfl⟩, _, rfl, _, rfl, _, rfl, sl_any (same_sqt s3 hR) fun p2 H2 s4 t4 => ?_⟩
        rw [cut_rows] at t4
        refine ⟨"", p2, _, rfl, rfl, .inr t4, ?_, _, s4 _ _ e3, ?_, fun b o e => ?_, ?_⟩
        · rw [sum_rows (m := m) fun r hr => hrow.2 r (List.mem_of_mem_take hr), List.length_take]
          have a1 : min j (tabs[i]).length * m ≤ 256 * 40 := Nat.mul_le_mul (by omega) hm40
          show _ + _ * 0 ≤ _
          omega
        · rw [rowV_len]
          unfold cntR
          rw [List.length_map, List.length_take]
          exact Nat.lt_of_lt_of_le (show min i tabs.length < 10000 by omega) (by decide)
        · rw [upd_ne (ne_of_none e hD)]
          exact s4 _ _ (s3 b o e)
        · rw [upd_same, join_sbs, List.take_add_one, List.getElem?_eq_getElem hi]
          unfold cntR rowV
          rw [List.map_append, List.map_append]
          rfl
      · rintro H' ⟨s3, e3⟩
        rw [hul, List.take_length] at e3
        refine ⟨Dl, _, rfl, .inl ⟨.inl (.inl e3), fun u nu => ⟨(by show 4 ≤ sizeLine; decide), fun g ng => ?_⟩⟩⟩
        have s4 := (s1.trans s3).trans ((same_new nu).trans (same_new (o := .tup [.str "generator", .int (n' : Int), .int ((j : Int) * (m : Int)), .ref u]) ng))
        refine q _ _ s4 (tab_dp (n := n') (m := j * m) (r := u) (.inl (.inl (by rw [upd_same]; show some (HO.tup [.str "generator", .int (n' : Int), .int ((j : Int) * (m : Int)), .ref u]) = _; rw [ejm]))) (.inl (.inl ?_)))
        rw [upd_ne (ne_of_none upd_same ng), upd_same]
        rfl

end
/-! ### blocks, layers, schemes -/
inductive Blk where
  | gen (n m : Nat) (rows : List (List Bool))
  | fn (n l m : Nat) (tabs : List (List (List Bool)))
def Blk.D : Blk → PyData
  | .gen n m rows => tabD n m rows
  | .fn n l m tabs => funD n l m tabs
def Blk.Ok : Blk → Prop
  | .gen n m rows => Wf n m rows
  | .fn n l m tabs => Wff n l m tabs
def numD : PyData → Nat
  | .int i => i.toNat
  | _ => 0
def layLong (Y : PyData) : Blk → Option Blk
  | .gen n m rows => if m = n + 1 ∧ whole Y 1 20 = true then some (.gen n (n + numD Y) (longR n rows (numD Y))) else none
  | .fn .. => none
def layTree (Y : PyData) : Blk → Option Blk
  | .gen n m rows => if m = 2 * n ∧ n ≤ 8 ∧ whole Y 1 8 = true ∧ n + numD Y ≤ 12 then some (.fn n (numD Y) n (treeT n (numD Y) rows)) else none
  | .fn .. => none
def layCnt (Y : PyData) : Blk → Option Blk
  | .fn n l m tabs => if whole Y 1 ((2 ^ l : Nat) : Int) = true ∧ numD Y * m ≤ 40 then some (.gen n (numD Y * m) (cntR (numD Y) tabs)) else none
  | .gen .. => none
def layCut (Y : PyData) : Blk → Option Blk
  | .gen n m rows => if whole Y 1 (m : Int) = true then some (.gen n (numD Y) (rows.map fun r => r.take (numD Y))) else none
  | .fn .. => none
def lay1 (p : PyData × PyData) (b : Blk) : Option Blk :=
  if named "longer" p.1 = true then layLong p.2 b else if named "tree" p.1 = true then layTree p.2 b else if named "counter" p.1 = true then layCnt p.2 b else if named "cut" p.1 = true then layCut p.2 b else none
theorem whole_nat {Y : PyData} {hi : Int} (h : whole Y 1 hi = true) : ∃ k : Nat, Y = .int (k : Int) ∧ numD Y = k ∧ 1 ≤ k ∧ (k : Int) ≤ hi := by
  obtain ⟨i, rfl, h1, h2⟩ := whole_int h
  refine ⟨i.toNat, ?_, rfl, by omega, by omega⟩
  rw [show ((i.toNat : Nat) : Int) = i by omega]
theorem long_cases (Y : PyData) (b : Blk) (h : b.Ok) : (layLong Y b = none ∧ LongNo b.D Y) ∨ ∃ (n j : Nat) (rows : List (List Bool)), b = .gen n (n + 1) rows ∧ Y = .int (j : Int) ∧ Wf n (n + 1) rows ∧ 1 ≤ j ∧ j ≤ 20 ∧ layLong Y b = some (.gen n (n + j) (longR n rows j)) := by
  cases b with
  | fn n l m tabs => exact .inl ⟨rfl, .inl (Wff.ok h)⟩
  | gen n m rows =>
    by_cases c : m = n + 1 ∧ whole Y 1 20 = true
    · obtain ⟨rfl, hw⟩ := c
      obtain ⟨k, rfl, e, k1, k2⟩ := whole_nat hw
      refine .inr ⟨n, k, rows, rfl, rfl, h, k1, by omega, ?_⟩
      show (if _ then _ else _) = _
      rw [if_pos ⟨rfl, hw⟩, e]
    · refine .inl ⟨if_neg c, .inr ⟨n, m, rows, rfl, h, ?_⟩⟩
      by_cases c1 : m = n + 1
      · exact .inr (Bool.eq_false_iff.mpr fun z => c ⟨c1, z⟩)
      · exact .inl c1
theorem tree_cases (Y : PyData) (b : Blk) (h : b.Ok) : (layTree Y b = none ∧ TreeNo b.D Y) ∨ ∃ (n j : Nat) (rows : List (List Bool)), b = .gen n (2 * n) rows ∧ Y = .int (j : Int) ∧ Wf n (2 * n) rows ∧ n ≤ 8 ∧ 1 ≤ j ∧ j ≤ 8 ∧ n + j ≤ 12 ∧ layTree Y b = some (.fn n j n (treeT n j rows)) := by
  cases b with
  | fn n l m tabs => exact .inl ⟨rfl, .inl (Wff.ok h)⟩
  | gen n m rows =>
    by_cases c : m = 2 * n ∧ n ≤ 8 ∧ whole Y 1 8 = true ∧ n + numD Y ≤ 12
    · obtain ⟨rfl, n8, hw, hn⟩ := c
      obtain ⟨k, rfl, e, k1, k2⟩ := whole_nat hw
      refine .inr ⟨n, k, rows, rfl, rfl, h, n8, k1, by omega, by rw [← e]; exact hn, ?_⟩
      show (if _ then _ else _) = _
      rw [if_pos ⟨rfl, n8, hw, hn⟩, e]
    · refine .inl ⟨if_neg c, .inr ⟨n, m, rows, rfl, h, ?_⟩⟩
      by_cases c1 : m = 2 * n
      · by_cases c2 : 8 < n
        · exact .inr (.inl c2)
        · cases c3 : whole Y 1 8 with
          | false => exact .inr (.inr (.inl rfl))
          | true =>
            obtain ⟨k, rfl, e, k1, k2⟩ := whole_nat c3
            refine .inr (.inr (.inr ⟨_, rfl, ?_⟩))
            by_cases c4 : n + numD (.int (k : Int)) ≤ 12
            · exact absurd ⟨c1, by omega, c3, c4⟩ c
            · omega
      · exact .inl c1
theorem cnt_cases (Y : PyData) (b : Blk) (h : b.Ok) : (layCnt Y b = none ∧ CntNo b.D Y) ∨ ∃ (n l m j : Nat) (tabs : List (List (List Bool))), b = .fn n l m tabs ∧ Y = .int (j : Int) ∧ Wff n l m tabs ∧ 1 ≤ j ∧ j ≤ 2 ^ l ∧ j * m ≤ 40 ∧ layCnt Y b = some (.gen n (j * m) (cntR j tabs)) := by
  cases b with
  | gen n m rows => exact .inl ⟨rfl, .inl (wf_gen h)⟩
  | fn n l m tabs =>
    by_cases c : whole Y 1 ((2 ^ l : Nat) : Int) = true ∧ numD Y * m ≤ 40
    · obtain ⟨hw, hn⟩ := c
      obtain ⟨k, rfl, e, k1, k2⟩ := whole_nat hw
      refine .inr ⟨n, l, m, k, tabs, rfl, rfl, h, k1, Int.ofNat_le.mp k2, by rw [← e]; exact hn, ?_⟩
      show (if _ then _ else _) = _
      rw [if_pos ⟨hw, hn⟩, e]
    · refine .inl ⟨if_neg c, .inr ⟨n, l, m, tabs, rfl, h, ?_⟩⟩
      cases c3 : whole Y 1 ((2 ^ l : Nat) : Int) with
      | false => exact .inl rfl
      | true =>
        obtain ⟨k, rfl, e, k1, k2⟩ := whole_nat c3
        refine .inr ⟨_, rfl, ?_⟩
        by_cases c4 : numD (.int (k : Int)) * m ≤ 40
        · exact absurd ⟨c3, c4⟩ c
        · rw [e] at c4
          rw [← Int.natCast_mul]
          omega
theorem cut_cases (Y : PyData) (b : Blk) (h : b.Ok) : (layCut Y b = none ∧ CutNo b.D Y) ∨ ∃ (n m j : Nat) (rows : List (List Bool)), b = .gen n m rows ∧ Y = .int (j : Int) ∧ Wf n m rows ∧ 1 ≤ j ∧ j ≤ m ∧ layCut Y b = some (.gen n j (rows.map fun r => r.take j)) := by
  cases b with
  | fn n l m tabs => exact .inl ⟨rfl, .inl (Wff.ok h)⟩
  | gen n m rows =>
    by_cases c : whole Y 1 (m : Int) = true
    · obtain ⟨k, rfl, e, k1, k2⟩ := whole_nat c
      refine .inr ⟨n, m, k, rows, rfl, rfl, h, k1, by omega, ?_⟩
      show (if _ then _ else _) = _
      rw [if_pos c, e]
    · exact .inl ⟨if_neg c, .inr ⟨n, m, rows, rfl, h, Bool.eq_false_iff.mpr c⟩⟩
theorem Wf.counted {n l m j : Nat} {tabs : List (List (List Bool))} (h : Wff n l m tabs) (h1 : 1 ≤ j) (h2 : j ≤ 2 ^ l) (h3 : j * m ≤ 40) : Wf n (j * m) (cntR j tabs) where
  n1 := h.n1
  n2 := Nat.le_trans h.n2 (by decide)
  m1 := Nat.mul_pos h1 h.m1
  m2 := h3
  len := by
    unfold cntR
    rw [List.length_map]
    exact h.len
  row := fun r hr => by
    unfold cntR at hr
    obtain ⟨vals, hv, rfl⟩ := List.mem_map.mp hr
    obtain ⟨g1, g2⟩ := h.row vals hv
    have : ∀ l : List (List Bool), (∀ r ∈ l, r.length = m) → l.flatten.length = l.length * m := by
      intro l
      induction l with
      | nil => exact fun _ => (Nat.zero_mul m).symm
      | cons x l ih =>
        intro h
        rw [List.flatten_cons, List.length_append, h x List.mem_cons_self, ih fun y hy => h y (List.mem_cons_of_mem _ hy), List.length_cons, Nat.succ_mul, Nat.add_comm]
    rw [this _ fun r hr => g2 r (List.mem_of_mem_take hr), List.length_take, g1, Nat.min_eq_left h2]
theorem down_len {n : Nat} {rows : List (List Bool)} (h : Wf n (2 * n) rows) : ∀ (bs lab : List Bool), lab.length = n → (goDown rows n lab bs).length = n
  | [], lab, hl => hl
  | b :: bs, lab, hl => by
    obtain ⟨_, hr⟩ := h.at hl
    refine down_len h bs _ ?_
    cases b
    · show ((rows.getD (val lab) []).take n).length = n
      rw [List.length_take, hr]
      omega
    · show ((rows.getD (val lab) []).drop n).length = n
      rw [List.length_drop, hr]
      omega
theorem Wff.treed {n j : Nat} {rows : List (List Bool)} (h : Wf n (2 * n) rows) (n8 : n ≤ 8) (h1 : 1 ≤ j) (h2 : j ≤ 8) (h3 : n + j ≤ 12) : Wff n j n (treeT n j rows) where
  n1 := h.n1
  n2 := n8
  l1 := h1
  l2 := h2
  nl := h3
  m1 := h.n1
  m2 := by omega
  len := by
    unfold treeT
    rw [List.length_map, List.length_range]
  row := fun t ht => by
    unfold treeT at ht
    obtain ⟨i, _, rfl⟩ := List.mem_map.mp ht
    refine ⟨by rw [List.length_map, List.length_range], fun r hr => ?_⟩
    obtain ⟨k, _, rfl⟩ := List.mem_map.mp hr
    exact down_len h _ _ (toB_len _ _)
theorem lay_ok {p : PyData × PyData} {b b' : Blk} (h : b.Ok) (e : lay1 p b = some b') : b'.Ok := by
  unfold lay1 at e
  by_cases c1 : named "longer" p.1 = true
  · rw [if_pos c1] at e
    rcases long_cases p.2 b h with ⟨e2, _⟩ | ⟨n, j, rows, rfl, _, wf, j1, j2, e2⟩
    · rw [e2] at e
      cases e
    · rw [e2] at e
      cases e
      exact wf.long (by have := wf.n2; omega)
  rw [if_neg c1] at e
  by_cases c2 : named "tree" p.1 = true
  · rw [if_pos c2] at e
    rcases tree_cases p.2 b h with ⟨e2, _⟩ | ⟨n, j, rows, rfl, _, wf, n8, j1, j2, nj, e2⟩
    · rw [e2] at e
      cases e
    · rw [e2] at e
      cases e
      exact Wff.treed wf n8 j1 j2 nj
  rw [if_neg c2] at e
  by_cases c3 : named "counter" p.1 = true
  · rw [if_pos c3] at e
    rcases cnt_cases p.2 b h with ⟨e2, _⟩ | ⟨n, l, m, j, tabs, rfl, _, wf, j1, j2, jm, e2⟩
    · rw [e2] at e
      cases e
    · rw [e2] at e
      cases e
      exact Wf.counted wf j1 j2 jm
  rw [if_neg c3] at e
  by_cases c4 : named "cut" p.1 = true
  · rw [if_pos c4] at e
    rcases cut_cases p.2 b h with ⟨e2, _⟩ | ⟨n, m, j, rows, rfl, _, wf, j1, j2, e2⟩
    · rw [e2] at e
      cases e
    · rw [e2] at e
      cases e
      exact wf.cut j1 j2
  rw [if_neg c4] at e
  cases e
theorem pl_up1 : ∀ {n : Nat} {d : PyData}, Pl n d → Pl (n + 1) d
  | 0, .int _, h => h
  | 0, .str _, h => h
  | n + 1, .int _, h => h
  | n + 1, .str _, h => h
  | n + 1, .tuple xs, h => ⟨h.1, fun x hx => pl_up1 (h.2 x hx)⟩
theorem blk_pl {b : Blk} (h : b.Ok) : Pl 3 b.D := by
  cases b with
  | gen n m rows => exact pl_up1 (Wf.pl h)
  | fn n l m tabs => exact Wff.pl h
theorem blk_gd {b : Blk} (h : b.Ok) : Gd 3 b.D := pl_gd (blk_pl h)
theorem blk_ok {b : Blk} (h : b.Ok) : blockOk b.D = true := by
  cases b with
  | gen n m rows => exact wf_block h
  | fn n l m tabs =>
    show (genOk (funD n l m tabs) || funOk (funD n l m tabs)) = true
    rw [Wff.ok h, Bool.or_true]
def spWith (K : PySem.W.Frag) (CS : Addr) : Sp := fun vs H Q E => ∃ (xv kv v : V) (p : PyData × PyData) (b : Blk) (n : Nat), vs = [xv, kv, v] ∧ Dp K H xv p.1 ∧ Gd n p.1 ∧ Dp K H kv p.2 ∧ Dp K H v b.D ∧ b.Ok ∧
  (∀ b' v' H', lay1 p b = some b' → Same H H' → Dp K H' v' b'.D → Q v' H') ∧ (∀ H', lay1 p b = none → Same H H' → E (.ref CS) none H')
def blkS : PyData := .tuple [.str "block"]
def laysD : Nat → PyData → Option (List (PyData × PyData))
  | 0, D => if PyData.eqv D blkS = true then some [] else none
  | f + 1, D => if PyData.eqv D blkS = true then some [] else match D with
    | .tuple [x, y, z] => (laysD f z).map fun ls => ls ++ [(x, y)]
    | _ => none
def layP (p : PyData × PyData) : PyData := .tuple [p.1, p.2]
def LsOn (K : PySem.W.Frag) (H : Hp) (p : Addr) (ls : List (PyData × PyData)) : Prop := ∃ us, H p = some (.lst us) ∧ DpAll K H us (ls.map layP)
def spLayers (K : PySem.W.Frag) (CS : Addr) : Sp := fun vs H Q E => ∃ (v : V) (D : PyData) (n : Nat), vs = [v] ∧ Dp K H v D ∧ Gd n D ∧
  (∀ ls p H', laysD 7 D = some ls → Same H H' → LsOn K H' p ls → Q (.ref p) H') ∧ (∀ H', laysD 7 D = none → Same H H' → E (.ref CS) none H')
theorem lays_end {f : Nat} {D : PyData} (h : PyData.eqv D blkS = true) : laysD f D = some [] := by
  cases f <;> exact if_pos h
theorem lays_zero {D : PyData} (h : PyData.eqv D blkS = false) : laysD 0 D = none := if_neg (by rw [h]; decide)
theorem lays_no {f : Nat} {D : PyData} (h : PyData.eqv D blkS = false) (n : ∀ x y z, D ≠ .tuple [x, y, z]) : laysD f D = none := by
  cases f with
  | zero => exact lays_zero h
  | succ f =>
    unfold laysD
    rw [if_neg (by rw [h]; decide)]
    split
    · exact absurd rfl (n _ _ _)
    · rfl
theorem lays_step {f : Nat} {x y z : PyData} (h : PyData.eqv (.tuple [x, y, z]) blkS = false) : laysD (f + 1) (.tuple [x, y, z]) = (laysD f z).map fun ls => ls ++ [(x, y)] := if_neg (by rw [h]; decide)
theorem dps_rev {K : PySem.W.Frag} {H : Hp} : ∀ {vs : List V} {ds : List PyData}, DpAll K H vs ds → DpAll K H vs.reverse ds.reverse
  | _, _, .nil => .nil
  | _, _, .cons h t => by
    rw [List.reverse_cons, List.reverse_cons]
    exact dps_app (dps_rev t) (.cons h .nil)
theorem three {K : PySem.W.Frag} {H : Hp} {ws : List V} {xs : List PyData} (h : DpAll K H ws xs) (c : ws.length = 3) : ∃ v0 v1 v2 d0 d1 d2, ws = [v0, v1, v2] ∧ xs = [d0, d1, d2] ∧ Dp K H v0 d0 ∧ Dp K H v1 d1 ∧ Dp K H v2 d2 := by
  match xs, ws, c, h with
  | _, [v0, v1, v2], _, .cons h0 (.cons h1 (.cons h2 .nil)) => exact ⟨_, _, _, _, _, _, rfl, rfl, h0, h1, h2⟩
theorem dp_offN {K : PySem.W.Frag} {H : Hp} {L : Addr} {v : V} {d : PyData} (hL : H L = none) (h : Dp K H v d) {o : HO} : Dp K (off L (upd H L o)) v d := by
  refine dp_same (fun b x e => ?_) d h
  have hb : b ≠ L := fun z => by
    rw [z, hL] at e
    cases e
  rw [off_ne hb, upd_ne hb]
  exact e
theorem same_offN {H H' : Hp} {L : Addr} (s : Same H H') (hL : H L = none) : Same H (off L H') := fun b o e => by
  have hb : b ≠ L := fun z => by
    rw [z, hL] at e
    cases e
  rw [off_ne hb]
  exact s b o e
theorem set_same {H H' : Hp} {p : Addr} {o : HO} (s : Same H H') (np : H p = none) : Same H (upd H' p o) := fun b x e => by
  rw [upd_ne (ne_of_none e np)]
  exact s b x e
theorem sqt_past {K : PySem.W.Frag} {L p : Addr} {H : Hp} {xs ys : List V} (e : H L = some (.lst ys)) (s : SqT K H p xs) : SqT K (off L H) p xs := by
  rcases s with (h | ⟨o, h⟩) | h
  · exact .inl (.inl (by rw [off_ne (fun z => by rw [z, e] at h; cases h)]; exact h))
  · exact .inl (.inr ⟨o, by rw [off_ne (fun z => by rw [z, e] at h; cases h)]; exact h⟩)
  · exact .inr h

section
variable {P : Program} {w : World} {K : PySem.W.Frag} {mg : Str → Option Value} {base : Heap} {cs : Cs}
theorem ok_with {f : Addr} {fd : FuncData} (D : Df K mg "with_layer" s_with_layer ["name", "number", "block"] f fd) (T : Txt K w mg cs) (c_longer : Cl P w K mg base (L2.CX P w) 5 "longer" (spLongA K cs.BadBlock cs.BadScheme)) (c_tree : Cl P w K mg base (L2.CX P w) 5 "tree" (spTreeA K cs.BadBlock cs.BadScheme))
    (c_counter : Cl P w K mg base (L2.CX P w) 5 "counter" (spCntA K cs.BadBlock cs.BadScheme)) (c_cut : Cl P w K mg base (L2.CX P w) 5 "cut" (spCutA K cs.BadBlock cs.BadScheme)) : FnOk P w K mg base (L2.CX P w) 6 f fd ["name", "number", "block"] (spWith K cs.BadScheme) := by
  refine D.fn.okX sc_with_layer (fun vs H Q E h => ?_) (fun cdv A outer s H vs Q E hr h => ?_)
  · obtain ⟨xv, kv, v, p, b, n, rfl, _⟩ := h
    rfl
  · obtain ⟨xv, kv, v, p, b, n, rfl, hx, hg, hk, hb, ok, q1, q0⟩ := h
    have tk := takes_of (X := cxOf (L2.CX P w) P w K mg base ["name", "number", "block"] "with_layer" (defScope s_with_layer) f cdv A outer s H E) (E := E) rfl rfl rfl rfl
    refine ⟨_, (pss_cons (ps_if (pt_cmpR (op_eqF K hr.units) (pv 0) pe_str (nomark _)) (pss_one (ps_ret (pe_clX c_longer hr (by first | decide | omega) (by rfl) tk (pa_cons (pv 2) (pa_cons (pv 1) pa_nil))))) pss_nil) (pss_cons (ps_if (pt_cmpR (op_eqF K hr.units) (pv 0) pe_str (nomark _)) (pss_one (ps_ret (pe_clX c_tree hr (by first | decide | omega) (by rfl) tk (pa_cons (pv 2) (pa_cons (pv 1) pa_nil))))) pss_nil) (pss_cons (ps_if (pt_cmpR (op_eqF K hr.units) (pv 0) pe_str (nomark _)) (pss_one (ps_ret (pe_clX c_counter hr (by first | decide | omega) (by rfl) tk (pa_cons (pv 2) (pa_cons (pv 1) pa_nil))))) pss_nil) (pss_cons (ps_if (pt_cmpR (op_eqF K hr.units) (pv 0) pe_str (nomark _)) (pss_one (ps_ret (pe_clX c_cut hr (by first | decide | omega) (by rfl) tk (pa_cons (pv 2) (pa_cons (pv 1) pa_nil))))) pss_nil) (pss_one (ps_raiseE T.x_BadScheme rfl tk (by rfl))))))), ?_⟩
    have gb := blk_gd ok
    have lx := gd_lay hg
    refine ⟨_, rfl, _, _, hx, .str _, lx, by decide +kernel, by decide +kernel, _, rfl, ?_⟩
    cases c1 : named "longer" p.1 with
    | true =>
      rw [show PyData.eqv p.1 (.str "longer") = true from c1]
      have el : lay1 p b = layLong p.2 b := by
        unfold lay1
        rw [if_pos c1]
      refine ⟨_, rfl, _, rfl, v, kv, b.D, p.2, 3, rfl, hb, gb, by decide, hk, ?_⟩
      rcases long_cases p.2 b ok with ⟨e, no⟩ | ⟨n, j, rows, rfl, eY, wf, j1, j2, e⟩
      · exact .inl ⟨no, fun H' s => q0 H' (el.trans e) s⟩
      · exact .inr ⟨n, j, rows, rfl, eY, wf, j1, j2, fun v' H' s d => q1 _ v' H' (el.trans e) s d⟩
    | false =>
    rw [show PyData.eqv p.1 (.str "longer") = false from c1]
    refine ⟨_, rfl, _, _, hx, .str _, lx, by decide +kernel, by decide +kernel, _, rfl, ?_⟩
    cases c2 : named "tree" p.1 with
    | true =>
      rw [show PyData.eqv p.1 (.str "tree") = true from c2]
      have el : lay1 p b = layTree p.2 b := by
        unfold lay1
        rw [if_neg (by rw [c1]; decide), if_pos c2]
      refine ⟨_, rfl, _, rfl, v, kv, b.D, p.2, 3, rfl, hb, gb, by decide, hk, ?_⟩
      rcases tree_cases p.2 b ok with ⟨e, no⟩ | ⟨n, j, rows, rfl, eY, wf, n8, j1, j2, nj, e⟩
      · exact .inl ⟨no, fun H' s => q0 H' (el.trans e) s⟩
      · exact .inr ⟨n, j, rows, rfl, eY, wf, n8, j1, j2, nj, fun v' H' s d => q1 _ v' H' (el.trans e) s d⟩
    | false =>
    rw [show PyData.eqv p.1 (.str "tree") = false from c2]
    refine ⟨_, rfl, _, _, hx, .str _, lx, by decide +kernel, by decide +kernel, _, rfl, ?_⟩
    cases c3 : named "counter" p.1 with
    | true =>
      rw [show PyData.eqv p.1 (.str "counter") = true from c3]
      have el : lay1 p b = layCnt p.2 b := by
        unfold lay1
        rw [if_neg (by rw [c1]; decide), if_neg (by rw [c2]; decide), if_pos c3]
      refine ⟨_, rfl, _, rfl, v, kv, b.D, p.2, 3, rfl, hb, gb, by decide, hk, ?_⟩
      rcases cnt_cases p.2 b ok with ⟨e, no⟩ | ⟨n, l, m, j, tabs, rfl, eY, wf, j1, j2, jm, e⟩
      · exact .inl ⟨no, fun H' s => q0 H' (el.trans e) s⟩
      · exact .inr ⟨n, l, m, j, tabs, rfl, eY, wf, j1, j2, jm, fun v' H' s d => q1 _ v' H' (el.trans e) s d⟩
    | false =>
    rw [show PyData.eqv p.1 (.str "counter") = false from c3]
    refine ⟨_, rfl, _, _, hx, .str _, lx, by decide +kernel, by decide +kernel, _, rfl, ?_⟩
    cases c4 : named "cut" p.1 with
    | true =>
      rw [show PyData.eqv p.1 (.str "cut") = true from c4]
      have el : lay1 p b = layCut p.2 b := by
        unfold lay1
        rw [if_neg (by rw [c1]; decide), if_neg (by rw [c2]; decide), if_neg (by rw [c3]; decide), if_pos c4]
      refine ⟨_, rfl, _, rfl, v, kv, b.D, p.2, 3, rfl, hb, gb, by decide, hk, ?_⟩
      rcases cut_cases p.2 b ok with ⟨e, no⟩ | ⟨n, m, j, rows, rfl, eY, wf, j1, j2, e⟩
      · exact .inl ⟨no, fun H' s => q0 H' (el.trans e) s⟩
      · exact .inr ⟨n, m, j, rows, rfl, eY, wf, j1, j2, fun v' H' s d => q1 _ v' H' (el.trans e) s d⟩
    | false =>
    rw [show PyData.eqv p.1 (.str "cut") = false from c4]
    refine q0 H ?_ (Same.refl H)
    unfold lay1
    rw [if_neg (by rw [c1]; decide), if_neg (by rw [c2]; decide), if_neg (by rw [c3]; decide), if_neg (by rw [c4]; decide)]

theorem ok_layers {f : Addr} {fd : FuncData} (D : Df K mg "layers_of" s_layers_of ["scheme"] f fd) (T : Txt K w mg cs) : FnOk P w K mg base (L2.CX P w) 1 f fd ["scheme"] (spLayers K cs.BadScheme) := by
  refine D.fn.okX sc_layers_of (fun vs H Q E h => ?_) (fun cdv A outer s H vs Q E hr h => ?_)
  · obtain ⟨v, D, n, rfl, _⟩ := h
    rfl
  · obtain ⟨v, D0, n, rfl, hd, hg, q1, q0⟩ := h
    have tk := takes_of (X := cxOf (L2.CX P w) P w K mg base ["scheme", "layers", "inner"] "layers_of" (defScope s_layers_of) f cdv A outer s H E) (E := E) rfl rfl rfl rfl
    refine ⟨_, (pss_cons (ps_set (i := 1) sc_layers_of.nd rfl (.inl rfl) (pe_lst pa_nil)) (pss_cons (ps_set (i := 2) sc_layers_of.nd rfl (.inl rfl) (pv 0)) (pss_cons (ps_while (passes_of rfl) (pt_cmpR (op_neF K hr.units) (pv 2) (pe_tup (pa_cons pe_str pa_nil)) (nomark _)) (pss_cons (ps_if (PW.pt (pw_or (pt_not (pt_val (pe_callB (isiK K) (by rfl) T.n_isinstance (by decide +kernel) (pa_cons (pv 2) (pa_cons (pe_ty "tuple" (by rfl) T.n_tuple (by decide +kernel)) pa_nil))))) (pw_or1 (pt_cmpR op_ne (pe_callB (lenS K) (by rfl) T.n_len (by decide +kernel) (pa_cons (pv 2) pa_nil)) pe_int (nomark _))))) (pss_one (ps_raiseE T.x_BadScheme rfl tk (by rfl))) pss_nil) (pss_cons (ps_if (pt_cmpR op_eq (pe_callB (lenS K) (by rfl) T.n_len (by decide +kernel) (pa_cons (pv 1) pa_nil)) (pe_op op_sub (C8.pe_gc (by rfl) T.g_DEEPEST) pe_int) (nomark _)) (pss_one (ps_raiseE T.x_BadScheme rfl tk (by rfl))) pss_nil) (pss_cons (ps_expr (pe_bm PySem.F.plainAttrs_list PySem.F.slot_list_append PySem.F.type_list_append mt_append (pv 1) (pa_cons (pe_slice (slTA K) (pv 2) po_none (po_some pe_int)) pa_nil))) (pss_one (ps_set (i := 2) sc_layers_of.nd rfl (.inl rfl) (pe_ix (ixT K) (pv 2) pe_int (fun _ _ => rfl)))))))) (pss_one (ps_ret (pe_revL (pv 1))))))), ?_⟩
    refine ⟨(by show 0 ≤ sizeLine; exact Nat.zero_le _), fun L nL => ?_⟩
    refine ⟨_, rfl, ?_⟩
    refine ⟨fun m σ H' => ∃ (vi : V) (Di : PyData) (us : List V) (acc : List (PyData × PyData)), σ = [some v, some (.ref L), some vi] ∧ m = 8 - acc.length ∧ acc.length ≤ 7 ∧ us.length = acc.length ∧ Same H H' ∧ Dp K H vi Di ∧ Gd n Di ∧ H' L = some (.lst us) ∧ DpAll K (off L H') us (acc.map layP) ∧
      laysD 7 D0 = (laysD (7 - acc.length) Di).map fun ls => ls ++ acc.reverse, ⟨_, v, D0, [], [], rfl, rfl, by decide, rfl, same_new nL, hd, hg, upd_same, .nil, ?_⟩, ?_⟩
    · show laysD 7 D0 = (laysD 7 D0).map _
      simp
    rintro m σ H' ⟨vi, Di, us, acc, rfl, hm, hacc, hul, s1, hdi, hgi, eL, hA, hb⟩
    refine ⟨_, rfl, (by show 1 ≤ sizeLine; decide), fun p1 np1 => ?_⟩
    have sN : Same H' (upd H' p1 (.tup [.str "block"])) := same_new np1
    have hB : Dp K (upd H' p1 (.tup [.str "block"])) (.ref p1) blkS := .tup (.inl (.inl upd_same)) (.cons (.str _) .nil)
    have eL1 := sN _ _ eL
    have hA1 := dps_same (off_mono sN) _ hA
    have s2 := s1.trans sN
    generalize upd H' p1 (.tup [.str "block"]) = H1 at *
    clear sN eL hA np1
    have hdi1 := dp_same s2 _ hdi
    have hL0 : L ≠ p1 ∨ True := .inr trivial
    refine ⟨_, _, hdi1, hB, gd_lay hgi, by decide +kernel, by decide +kernel, _, rfl, ?_⟩
    cases ce : PyData.eqv Di blkS with
    | true =>
      rw [lays_end ce] at hb
      refine ⟨_, rfl, L, us, rfl, .inl (.inl eL1), fun p np => q1 _ p _ hb (s2.trans (same_new np)) ⟨_, upd_same, ?_⟩⟩
      show DpAll K _ us.reverse (List.map layP acc.reverse)
      rw [List.map_reverse]
      exact dps_rev (dps_same ((off_same L H1).trans (same_new np)) _ hA1)
    | false =>
      refine ⟨fun σ H2 => ∃ (vi : V) (Di : PyData) (us' : List V) (acc' : List (PyData × PyData)), σ = [some v, some (.ref L), some vi] ∧ acc'.length = acc.length + 1 ∧ acc'.length ≤ 7 ∧ us'.length = acc'.length ∧ Same H H2 ∧ Dp K H vi Di ∧ Gd n Di ∧ H2 L = some (.lst us') ∧ DpAll K (off L H2) us' (acc'.map layP) ∧
        laysD 7 D0 = (laysD (7 - acc'.length) Di).map fun ls => ls ++ acc'.reverse, ?_, ?_⟩
      · rintro σ H2 ⟨vi, Di, us', acc', rfl, h1, h2, h3, h4, h5, h6, h7, h8, h9⟩
        exact ⟨8 - acc'.length, by omega, vi, Di, us', acc', rfl, rfl, h2, h3, h4, h5, h6, h7, h8, h9⟩
      · refine ⟨_, rfl, _, _, _, _, _, rfl, .ty "tuple", dp_ty hdi1, kit_tup Di, _, rfl, ?_⟩
        have no : (∀ x y z, Di ≠ .tuple [x, y, z]) → E (.ref cs.BadScheme) none H1 := fun nx => q0 H1 (by rw [hb, lays_no ce nx]; rfl) s2
        cases Di with
        | tuple xs =>
          obtain ⟨a, ws, rfl, hT, hX⟩ : ∃ a ws, vi = .ref a ∧ SqT K H a ws ∧ DpAll K H ws xs := by
            cases hdi with
            | tup hT hA => exact ⟨_, _, rfl, hT, hA⟩
          have hT1 := same_sqt s2 hT
          refine ⟨_, rfl, a, ws, rfl, .inr hT1, rfl, _, rfl, ?_⟩
          by_cases c3 : ws.length = 3
          · obtain ⟨v0, v1, v2, d0, d1, d2, rfl, rfl, h0, h1, h2⟩ := three hX c3
            rw [decide_eq_true (show V.int ((([v0, v1, v2] : List V).length : Nat) : Int) = V.int 3 from rfl)]
            refine ⟨_, rfl, L, us, rfl, .inl (.inl (.inl eL1)), _, _, rfl, rfl, rfl, _, rfl, ?_⟩
            by_cases c7 : acc.length = 7
            · rw [decide_eq_true (show V.int ((us.length : Nat) : Int) = V.int (8 - 1) by rw [hul, c7]; rfl)]
              refine q0 H1 ?_ s2
              rw [hb, c7, lays_zero ce]
              rfl
            · rw [decide_eq_false (show ¬ V.int ((us.length : Nat) : Int) = V.int (8 - 1) from fun z => c7 (by have := V.int.inj z; omega))]
              refine ⟨_, rfl, .inl ⟨rfl, _, .inl (.inl eL1)⟩, _, rfl, _, rfl, sl_any hT1 fun p2 H2 s3 t3 => ?_⟩
              have eL2 := s3 _ _ eL1
              have t3' : SqT K H2 p2 [v0, v1] := t3
              have gx := gd_tup hgi
              obtain ⟨_, n', rfl, hx⟩ := gx
              have s23 := s2.trans s3
              refine ⟨L, _, _, rfl, rfl, eL2, by rw [hul, sizeLine_eq]; omega, _, rfl, a, _, 2, _, rfl, rfl, same_sqt (set_same s23 nL) hT, rfl, ?_⟩
              refine ⟨v2, d2, us ++ [.ref p2], acc ++ [(d0, d1)], rfl, by rw [List.length_append]; rfl, by rw [List.length_append]; show acc.length + 1 ≤ 7; omega, by rw [List.length_append, List.length_append, hul]; rfl, set_same s23 nL, h2, gd_up (hx d2 (by simp)), upd_same, ?_, ?_⟩
              · rw [off_upd1, List.map_append]
                refine dpAll_snoc (dps_same (off_mono s3) _ hA1) (.tup (sqt_past eL2 t3') (.cons (dp_same (same_offN s23 nL) _ h0) (.cons (dp_same (same_offN s23 nL) _ h1) .nil)))
              · rw [hb, show 7 - acc.length = (7 - (acc ++ [(d0, d1)]).length) + 1 by rw [List.length_append]; show _ = 7 - (acc.length + 1) + 1; omega, lays_step ce, Option.map_map]
                refine congrArg (fun g => Option.map g _) (funext fun ls => ?_)
                show (ls ++ [(d0, d1)]) ++ acc.reverse = ls ++ (acc ++ [(d0, d1)]).reverse
                rw [List.reverse_append, List.append_assoc]
                rfl
          · rw [decide_eq_false (show ¬ V.int ((ws.length : Nat) : Int) = V.int 3 from fun z => c3 (by have := V.int.inj z; omega))]
            refine no fun x y z e => c3 ?_
            injection e with e
            rw [dp_all_len hX, e]
            rfl
        | _ => exact no fun _ _ _ e => by cases e

end
mutual
theorem dp_offL {K : PySem.W.Frag} {L : Addr} {H : Hp} {ys : List V} (e : H L = some (.lst ys)) : ∀ (D : PyData) {n : Nat} {v : V}, Pl n D → Dp K H v D → Dp K (off L H) v D
  | .int _, _, _, _, .int i => .int i
  | .str _, _, _, _, .str x => .str x
  | .tuple xs, _, _, h, .tup hs ha => .tup (sqt_past e hs) (dps_offL e xs (by
      obtain ⟨_, m, _, hx⟩ := pl_tup h
      exact fun x hx' => ⟨m, hx x hx'⟩) ha)
  | .none, n, _, h, _ => by cases n <;> exact h.elim
  | .bool _, n, _, h, _ => by cases n <;> exact h.elim
  | .list _, n, _, h, _ => by cases n <;> exact h.elim
  | .dict _, n, _, h, _ => by cases n <;> exact h.elim
theorem dps_offL {K : PySem.W.Frag} {L : Addr} {H : Hp} {ys : List V} (e : H L = some (.lst ys)) : ∀ (ds : List PyData) {vs : List V}, (∀ x ∈ ds, ∃ n, Pl n x) → DpAll K H vs ds → DpAll K (off L H) vs ds
  | [], _, _, .nil => .nil
  | d :: ds, _, h, .cons h1 t => by
    obtain ⟨n, hn⟩ := h d List.mem_cons_self
    exact .cons (dp_offL e d hn h1) (dps_offL e ds (fun x hx => h x (List.mem_cons_of_mem _ hx)) t)
end

def builtL : List (PyData × PyData) → Blk → Option Blk
  | [], b => some b
  | q :: ls, b => (lay1 q b).bind (builtL ls)
def builtD (D : PyData) (b : Blk) : Option Blk := (laysD 7 D).bind fun ls => builtL ls b
theorem dp_set {K : PySem.W.Frag} {L : Addr} {H : Hp} {ys : List V} {o : HO} {n : Nat} {v : V} {D : PyData} (e : H L = some (.lst ys)) (hp : Pl n D) (h : Dp K H v D) : Dp K (upd H L o) v D := by
  have h1 := dp_offL e D hp h
  rw [← off_upd1 (o := o)] at h1
  exact dp_same (off_same L _) _ h1
theorem lays_gd {n : Nat} : ∀ {f : Nat} {D : PyData} {ls : List (PyData × PyData)}, Gd n D → laysD f D = some ls → ls.length ≤ f ∧ ∀ q ∈ ls, Gd n q.1
  | 0, D, ls, g, e => by
    unfold laysD at e
    split at e
    · cases e
      exact ⟨Nat.le_refl 0, fun _ h => nomatch h⟩
    · cases e
  | f + 1, D, ls, g, e => by
    unfold laysD at e
    split at e
    · cases e
      exact ⟨Nat.zero_le _, fun _ h => nomatch h⟩
    · split at e
      · rename_i _ _ x y z
        obtain ⟨_, m, rfl, hx⟩ := gd_tup g
        obtain ⟨l1, e1, rfl⟩ := Option.map_eq_some_iff.mp e
        obtain ⟨h1, h2⟩ := lays_gd (n := m + 1) (gd_up (hx _ (by simp))) e1
        refine ⟨by rw [List.length_append]; show l1.length + 1 ≤ f + 1; omega, fun q hq => ?_⟩
        rcases List.mem_append.mp hq with h | h
        · exact h2 q h
        · rw [List.mem_singleton.mp h]
          exact gd_up (hx _ (by simp))
      · cases e
theorem built_ok : ∀ {ls : List (PyData × PyData)} {b b' : Blk}, b.Ok → builtL ls b = some b' → b'.Ok
  | [], b, b', h, e => by
    cases e
    exact h
  | q :: ls, b, b', h, e => by
    obtain ⟨c, e1, e2⟩ := Option.bind_eq_some_iff.mp (show (lay1 q b).bind (builtL ls) = some b' from e)
    exact built_ok (lay_ok h e1) e2
def spTables (K : PySem.W.Frag) (CS : Addr) : Sp := fun vs H Q E => ∃ (p : Addr) (us : List V) (v : V) (ls : List (PyData × PyData)) (b : Blk) (n : Nat), vs = [.ref p, v] ∧ H p = some (.lst us) ∧ DpAll K H us (ls.map layP) ∧ (∀ q ∈ ls, Gd n q.1) ∧ ls.length ≤ 7 ∧ Dp K H v b.D ∧ b.Ok ∧
  (∀ b' L ws v' H', builtL ls b = some b' → Same H H' → H' L = some (.lst (ws ++ [v'])) → Dp K H' v' b'.D → Q (.ref L) H') ∧ (∀ H', builtL ls b = none → Same H H' → E (.ref CS) none H')
def spBuilt (K : PySem.W.Frag) (CB CS : Addr) : Sp := fun vs H Q E => ∃ (v u : V) (D B : PyData) (n m : Nat), vs = [v, u] ∧ Dp K H v D ∧ Gd n D ∧ Dp K H u B ∧ Gd m B ∧ m ≤ 64 ∧
  ((blockOk B = false ∧ ∀ H', Same H H' → E (.ref CB) none H') ∨
    ∃ b : Blk, B = b.D ∧ b.Ok ∧ (∀ b' v' H', builtD D b = some b' → Same H H' → Dp K H' v' b'.D → Q v' H') ∧ (∀ H', builtD D b = none → Same H H' → E (.ref CS) none H'))

section
variable {P : Program} {w : World} {K : PySem.W.Frag} {mg : Str → Option Value} {base : Heap} {cs : Cs}
theorem ok_tables {f : Addr} {fd : FuncData} (D : Df K mg "tables_of" s_tables_of ["layers", "block"] f fd) (T : Txt K w mg cs) (c_with_layer : Cl P w K mg base (L2.CX P w) 6 "with_layer" (spWith K cs.BadScheme)) : FnOk P w K mg base (L2.CX P w) 7 f fd ["layers", "block"] (spTables K cs.BadScheme) := by
  refine D.fn.okX sc_tables_of (fun vs H Q E h => ?_) (fun cdv A outer s H vs Q E hr h => ?_)
  · obtain ⟨p, us, v, ls, b, n, rfl, _⟩ := h
    rfl
  · obtain ⟨p, us, v, ls, b, n, rfl, hp, hA, hg, hl, hd, ok, q1, q0⟩ := h
    have tk := takes_of (X := cxOf (L2.CX P w) P w K mg base ["layers", "block", "tables", "name", "number"] "tables_of" (defScope s_tables_of) f cdv A outer s H E) (E := E) rfl rfl rfl rfl
    refine ⟨_, (pss_cons (ps_set (i := 2) sc_tables_of.nd rfl (.inl rfl) (pe_lst (pa_cons (pv 1) pa_nil))) (pss_cons (ps_for (passes_of rfl) rfl (pi_list (pv 0)) (pg_tup (by rfl) (pgs_cons (pg_name (i := 3) sc_tables_of.nd rfl (.inl rfl)) (pgs_cons (pg_name (i := 4) sc_tables_of.nd rfl (.inl rfl)) pgs_nil))) (pss_one (ps_expr (pe_bm PySem.F.plainAttrs_list PySem.F.slot_list_append PySem.F.type_list_append mt_append (pv 2) (pa_cons (pe_clX c_with_layer hr (by first | decide | omega) (by rfl) tk (pa_cons (pv 3) (pa_cons (pv 4) (pa_cons (pe_ix (ixL K) (pv 2) (pe_un un_neg pe_int) (fun _ _ => rfl)) pa_nil)))) pa_nil))))) (pss_one (ps_ret (pv 2))))), ?_⟩
    refine ⟨_, rfl, (by show 1 ≤ sizeLine; decide), fun L nL => ?_⟩
    have Lp : p ≠ L := fun z => by
      rw [z, nL] at hp
      cases hp
    have hul := dp_all_len hA
    rw [List.length_map] at hul
    refine ⟨_, rfl, p, rfl, ⟨us, .inl (.inl (by rw [upd_ne Lp]; exact hp))⟩, for_list (xs := us) (fun i σ H' => ∃ (c : Blk) (ws : List V) (vc : V) (y3 y4 : Option V), σ = [some (.ref p), some v, some (.ref L), y3, y4] ∧ ws.length = i ∧ builtL ls b = builtL (ls.drop i) c ∧ c.Ok ∧ Same H H' ∧ H' L = some (.lst (ws ++ [vc])) ∧ Dp K H' vc c.D) ?_ ?_ ?_ ?_⟩
    · exact ⟨b, [], v, none, none, rfl, rfl, rfl, ok, same_new nL, upd_same, dp_same (same_new nL) _ hd⟩
    · rintro i σ H' _ ⟨c, ws, vc, y3, y4, rfl, hw, hb, hc, s1, eL, hv⟩
      exact .inl (.inl (s1 _ _ hp))
    · rintro i x σ H' hx ⟨c, ws, vc, y3, y4, rfl, hw, hb, hc, s1, eL, hv⟩
      obtain ⟨d, hd1, hd2⟩ := dp_all_get hA hx
      rw [List.getElem?_map] at hd1
      obtain ⟨q, hq, rfl⟩ := Option.map_eq_some_iff.mp hd1
      obtain ⟨a2, us2, rfl, hT, hQ⟩ : ∃ a us, x = .ref a ∧ SqT K H a us ∧ DpAll K H us [q.1, q.2] := by
        cases hd2 with
        | tup hT hA => exact ⟨_, _, rfl, hT, hA⟩
      obtain ⟨x0, k0, rfl, hx0, hk0⟩ : ∃ x0 k0, us2 = [x0, k0] ∧ Dp K H x0 q.1 ∧ Dp K H k0 q.2 := by
        cases hQ with
        | cons h0 h =>
          cases h with
          | cons h1 h =>
            cases h
            exact ⟨_, _, rfl, h0, h1⟩
      have hi := (List.getElem?_eq_some_iff.mp hx).1
      have edr : ls.drop i = q :: ls.drop (i + 1) := by
        obtain ⟨hi2, e2⟩ := List.getElem?_eq_some_iff.mp hq
        rw [List.drop_eq_getElem_cons hi2, e2]
      rw [edr] at hb
      refine ⟨a2, _, rfl, same_sqt s1 hT, rfl, _, _, rfl, _, _, rfl, rfl, ?_⟩
      refine ⟨_, rfl, .inl ⟨rfl, _, .inl (.inl eL)⟩, _, rfl, _, rfl, _, rfl, 1, rfl, L, _, -1, vc, rfl, rfl, .inl (.inl eL), atI_last _ _, ?_⟩
      refine ⟨x0, k0, vc, q, c, n, rfl, dp_same s1 _ hx0, hg q (List.mem_of_getElem? hq), dp_same s1 _ hk0, hv, hc, fun c' v' H2 e s2 d2 => ?_, fun H2 e s2 => q0 H2 (hb.trans (by show (lay1 q c).bind _ = none; rw [e]; rfl)) (s1.trans s2)⟩
      have hc' := lay_ok hc e
      have eL2 := s2 _ _ eL
      refine ⟨L, _, _, rfl, rfl, eL2, by rw [List.length_append, hw, sizeLine_eq]; show i + 1 < _; omega, ?_⟩
      refine ⟨c', ws ++ [vc], v', _, _, rfl, by rw [List.length_append, hw]; rfl, hb.trans (by show (lay1 q c).bind _ = _; rw [e]; rfl), hc', set_same (s1.trans s2) nL, upd_same, dp_set eL2 (blk_pl hc') d2⟩
    · rintro σ H' ⟨c, ws, vc, y3, y4, rfl, hw, hb, hc, s1, eL, hv⟩
      rw [hul, List.drop_length] at hb
      exact ⟨_, rfl, q1 c L ws vc H' hb s1 eL hv⟩
theorem ok_built {f : Addr} {fd : FuncData} (D : Df K mg "built" s_built ["scheme", "block"] f fd) (T : Txt K w mg cs) (c_check_block : Cl P w K mg base (L2.CX P w) 3 "check_block" (spCheck K cs.BadBlock)) (c_layers_of : Cl P w K mg base (L2.CX P w) 1 "layers_of" (spLayers K cs.BadScheme)) (c_tables_of : Cl P w K mg base (L2.CX P w) 7 "tables_of" (spTables K cs.BadScheme)) : FnOk P w K mg base (L2.CX P w) 8 f fd ["scheme", "block"] (spBuilt K cs.BadBlock cs.BadScheme) := by
  refine D.fn.okX sc_built (fun vs H Q E h => ?_) (fun cdv A outer s H vs Q E hr h => ?_)
  · obtain ⟨v, u, D, B, n, m, rfl, _⟩ := h
    rfl
  · obtain ⟨v, u, D0, B, n, m, rfl, hd, hg, hu, hm, m64, q⟩ := h
    have tk := takes_of (X := cxOf (L2.CX P w) P w K mg base ["scheme", "block"] "built" (defScope s_built) f cdv A outer s H E) (E := E) rfl rfl rfl rfl
    refine ⟨_, (pss_cons (ps_expr (pe_clX c_check_block hr (by first | decide | omega) (by rfl) tk (pa_cons (pv 1) pa_nil))) (pss_one (ps_ret (pe_ix (ixL K) (pe_clX c_tables_of hr (by first | decide | omega) (by rfl) tk (pa_cons (pe_clX c_layers_of hr (by first | decide | omega) (by rfl) tk (pa_cons (pv 0) pa_nil)) (pa_cons (pv 1) pa_nil))) (pe_un un_neg pe_int) (fun _ _ => rfl))))), ?_⟩
    refine ⟨_, rfl, u, B, m, rfl, hu, hm, m64, fun H1 s1 => ⟨fun okB => ?_, fun no => ?_⟩⟩
    · rcases q with ⟨q0, _⟩ | ⟨b, rfl, ok, q1, q0⟩
      · rw [q0] at okB
        cases okB
      · refine ⟨_, rfl, v, D0, n, rfl, dp_same s1 _ hd, hg, fun ls p H2 e s2 ⟨us, eP, hA⟩ => ?_, fun H2 e s2 => q0 H2 (by unfold builtD; rw [e]; rfl) (s1.trans s2)⟩
        obtain ⟨l7, gls⟩ := lays_gd hg e
        have eb : builtD D0 b = builtL ls b := by
          unfold builtD
          rw [e]
          rfl
        have s12 := s1.trans s2
        refine ⟨_, rfl, p, us, u, ls, b, n, rfl, eP, hA, gls, l7, dp_same s12 _ hu, ok, fun b' L ws v' H3 e3 s3 eL d3 => ?_, fun H3 e3 s3 => q0 H3 (eb.trans e3) (s12.trans s3)⟩
        refine ⟨1, rfl, L, _, -1, v', rfl, rfl, .inl (.inl eL), atI_last _ _, ?_⟩
        exact q1 b' v' H3 (eb.trans e3) (s12.trans s3) d3
    · rcases q with ⟨_, q0⟩ | ⟨b, rfl, ok, _⟩
      · exact q0 H1 s1
      · rw [blk_ok ok] at no
        cases no

end
/-! ### goals -/
def aboK : List Str := ["tell", "marks", "secrets", "once", "opening", "next"]
def aboP : List (Str × Str) := [("tell", "any"), ("marks", "function"), ("secrets", "function"), ("once", "generator"), ("opening", "generator"), ("next", "generator")]
def aboF (z : Str) : Str := ((aboP.find? fun p => decide (p.1 = z)).map (·.2)).getD ""
theorem abo_of {z x : Str} (h : (z, x) ∈ aboP) : x = aboF z := by
  unfold aboP at h
  simp only [List.mem_cons, List.not_mem_nil, or_false, Prod.mk.injEq] at h
  rcases h with ⟨e, f⟩ | ⟨e, f⟩ | ⟨e, f⟩ | ⟨e, f⟩ | ⟨e, f⟩ | ⟨e, f⟩ <;> subst e <;> subst f <;> decide +kernel
def kindB : Blk → Str
  | .gen .. => "generator"
  | .fn .. => "function"
def wideB : Blk → Nat
  | .gen _ m _ => m
  | .fn _ l _ _ => l
def goalW (z : Str) (w : Blk) (y : PyData) : Bool := (decide (aboF z = "any") || decide (aboF z = kindB w)) && (!decide (z = "opening") || rowsOk (.tuple [y]) 1 (wideB w : Int))
def goalOk : PyData → Blk → Bool
  | .tuple (.str z :: r), b => decide (z ∈ aboK) && (decide (r.length + 1 = if z = "opening" then 3 else 2) && (match builtD (r.getLastD (.str z)) b with
    | some w => goalW z w (r.headD .none)
    | none => false))
  | _, _ => false
def spGoal (K : PySem.W.Frag) (CB CS : Addr) : Sp := fun vs H Q E => ∃ (v u : V) (g B : PyData) (n m : Nat), vs = [v, u] ∧ Dp K H v g ∧ Gd n g ∧ Dp K H u B ∧ Gd m B ∧ m ≤ 64 ∧
  ((blockOk B = false ∧ ∀ H', Same H H' → E (.ref CB) none H') ∨
    ∃ b : Blk, B = b.D ∧ b.Ok ∧ (∀ H', goalOk g b = true → Same H H' → Q .non H') ∧ (∀ H', goalOk g b = false → Same H H' → E (.ref CS) none H'))
theorem blk_parts {K : PySem.W.Frag} {H : Hp} {v : V} {b : Blk} (h : Dp K H v b.D) : ∃ a us, v = .ref a ∧ SqT K H a us ∧ us[0]? = some (.str (kindB b)) ∧ us[2]? = some (.int (wideB b : Int)) := by
  cases b with
  | gen n m rows =>
    obtain ⟨a, r, rfl, hT, _⟩ := dp_tab h
    exact ⟨a, _, rfl, hT, rfl, rfl⟩
  | fn n l m tabs =>
    obtain ⟨a, r, rfl, hT, _⟩ := dp_fun h
    exact ⟨a, _, rfl, hT, rfl, rfl⟩
theorem blk_wide {b : Blk} (h : b.Ok) : wideB b ≤ 40 := by
  cases b with
  | gen n m rows => exact Wf.m2 h
  | fn n l m tabs => exact Nat.le_trans (Wff.l2 h) (by decide)
theorem inV_two (x p q : Str) : inV (V.str x) [.str p, .str q] = (decide (x = p) || decide (x = q)) := by
  have e : ∀ y : Str, eqV (V.str y) (V.str x) = decide (x = y) := fun y => by
    show (y == x) = _
    by_cases h : x = y
    · rw [decide_eq_true h, h]
      exact beq_self_eq_true y
    · rw [decide_eq_false h]
      exact beq_eq_false_iff_ne.mpr fun z => h z.symm
  show ([V.str p, V.str q].any fun y => eqV y (.str x)) = _
  rw [List.any_cons, List.any_cons, List.any_nil, e, e, Bool.or_false]
theorem rel_txt {v : V} {x : Str} {t : Tok} (h : RelV v (.str x t)) : v = .str x := (Option.some.inj h.abs).symm
theorem builtD_ok {D : PyData} {b b' : Blk} (h : b.Ok) (e : builtD D b = some b') : b'.Ok := by
  obtain ⟨ls, _, e2⟩ := Option.bind_eq_some_iff.mp e
  exact built_ok h e2

section
variable {P : Program} {w : World} {K : PySem.W.Frag} {mg : Str → Option Value} {base : Heap} {cs : Cs}
theorem ok_goal {f : Addr} {fd : FuncData} (D : Df K mg "check_goal" s_check_goal ["goal", "block"] f fd) (T : Txt K w mg cs) (c_check_block : Cl P w K mg base (L2.CX P w) 3 "check_block" (spCheck K cs.BadBlock)) (c_built : Cl P w K mg base (L2.CX P w) 8 "built" (spBuilt K cs.BadBlock cs.BadScheme)) (c_are_rows : Cl P w K mg base CX0 1 "are_rows" (spRows K)) : FnOk P w K mg base (L2.CX P w) 9 f fd ["goal", "block"] (spGoal K cs.BadBlock cs.BadScheme) := by
  refine D.fn.okX sc_check_goal (fun vs H Q E h => ?_) (fun cdv A outer s H vs Q E hr h => ?_)
  · obtain ⟨v, u, g, B, n, m, rfl, _⟩ := h
    rfl
  · obtain ⟨v, u, g, B, n, m, rfl, hd, hg, hu, hm, m64, q⟩ := h
    have tk := takes_of (X := cxOf (L2.CX P w) P w K mg base ["goal", "block", "name", "whole"] "check_goal" (defScope s_check_goal) f cdv A outer s H E) (E := E) rfl rfl rfl rfl
    refine ⟨_, (pss_cons (ps_expr (pe_clX c_check_block hr (by first | decide | omega) (by rfl) tk (pa_cons (pv 1) pa_nil))) (pss_cons (ps_if (PW.pt (pw_or (pt_not (pt_val (pe_callB (isiK K) (by rfl) T.n_isinstance (by decide +kernel) (pa_cons (pv 0) (pa_cons (pe_ty "tuple" (by rfl) T.n_tuple (by decide +kernel)) pa_nil))))) (pw_or (pt_cmpR (op_eqF K hr.units) (pv 0) (pe_tup pa_nil) (nomark _)) (pw_or (pt_not (pt_val (pe_callB (isiK K) (by rfl) T.n_isinstance (by decide +kernel) (pa_cons (pe_ix (ixT K) (pv 0) pe_int (fun _ _ => rfl)) (pa_cons (pe_ty "str" (by rfl) T.n_str (by decide +kernel)) pa_nil))))) (pw_or1 (pt_cmpR (notin_dk T.dk_ABOUT) (pe_ix (ixT K) (pv 0) pe_int (fun _ _ => rfl)) (pe_glob (v := .ref cs.ABOUT) (by rfl) T.gl_ABOUT rfl) (by rfl))))))) (pss_one (ps_raiseE T.x_BadScheme rfl tk (by rfl))) pss_nil) (pss_cons (ps_set (i := 2) sc_check_goal.nd rfl (.inl rfl) (pe_ix (ixT K) (pv 0) pe_int (fun _ _ => rfl))) (pss_cons (ps_if (pt_cmpR op_ne (pe_callB (lenS K) (by rfl) T.n_len (by decide +kernel) (pa_cons (pv 0) pa_nil)) (pe_ifExp (pt_cmpR op_eq (pv 2) pe_str (nomark _)) pe_int pe_int) (nomark _)) (pss_one (ps_raiseE T.x_BadScheme rfl tk (by rfl))) pss_nil) (pss_cons (ps_set (i := 3) sc_check_goal.nd rfl (.inl rfl) (pe_clX c_built hr (by first | decide | omega) (by rfl) tk (pa_cons (pe_ix (ixT K) (pv 0) (pe_un un_neg pe_int) (fun _ _ => rfl)) (pa_cons (pv 1) pa_nil)))) (pss_cons (ps_if (pt_cmpR op_notIn_seq (pe_ix (ix_dk T.dk_ABOUT) (pe_glob (v := .ref cs.ABOUT) (by rfl) T.gl_ABOUT rfl) (pv 2) (fun _ _ => rfl)) (pe_tup (pa_cons pe_str (pa_cons (pe_ix (ixT K) (pv 3) pe_int (fun _ _ => rfl)) pa_nil))) (by rfl)) (pss_one (ps_raiseE T.x_BadScheme rfl tk (by rfl))) pss_nil) (pss_one (ps_if (PW.pt (pw_and (pt_cmpR op_eq (pv 2) pe_str (nomark _)) (pw_and1 (pt_not (pt_val (pe_cl c_are_rows hr (by first | decide | omega) (by rfl) (pa_cons (pe_tup (pa_cons (pe_ix (ixT K) (pv 0) pe_int (fun _ _ => rfl)) pa_nil)) (pa_cons pe_int (pa_cons (pe_ix (ixT K) (pv 3) pe_int (fun _ _ => rfl)) pa_nil))))))))) (pss_one (ps_raiseE T.x_BadScheme rfl tk (by rfl))) pss_nil)))))))), ?_⟩
    refine ⟨_, rfl, u, B, m, rfl, hu, hm, m64, fun H1 s1 => ⟨fun okB => ?_, fun no => ?_⟩⟩
    · rcases q with ⟨q0, _⟩ | ⟨b, rfl, ok, q1, q0⟩
      · rw [q0] at okB
        cases okB
      · have hd1 := dp_same s1 _ hd
        refine ⟨_, rfl, _, _, _, _, _, rfl, .ty "tuple", dp_ty hd1, kit_tup g, _, rfl, ?_⟩
        cases g with
        | tuple xs =>
          refine ⟨_, rfl, (by show 0 ≤ sizeLine; exact Nat.zero_le _), fun p1 np1 => ?_⟩
          have s2 := same_new (o := .tup []) np1
          have hN : Dp K (upd H1 p1 (.tup [])) (.ref p1) (.tuple []) := .tup (.inl (.inl upd_same)) .nil
          have s12 := s1.trans s2
          generalize upd H1 p1 (.tup []) = H2 at *
          refine ⟨_, _, dp_same s12 _ hd, hN, gd_lay hg, by decide +kernel, by decide +kernel, _, rfl, ?_⟩
          obtain ⟨a, ws, rfl, hT, hX⟩ : ∃ a ws, v = .ref a ∧ SqT K H a ws ∧ DpAll K H ws xs := by
            cases hd with
            | tup hT hA => exact ⟨_, _, rfl, hT, hA⟩
          have hT2 := same_sqt s12 hT
          cases xs with
          | nil =>
            rw [show PyData.eqv (.tuple []) (.tuple []) = true by simp only [PyData.eqv, PyData.eqvAll]]
            exact q0 H2 rfl s12
          | cons x r =>
            rw [show PyData.eqv (.tuple (x :: r)) (.tuple []) = false by simp only [PyData.eqv, PyData.eqvAll]]
            cases hX with
            | @cons v0 _ vr _ h0 hr =>
            have h02 := dp_same s12 _ h0
            refine ⟨_, rfl, a, _, 0, _, rfl, rfl, hT2, at0, ?_⟩
            refine ⟨_, _, _, _, _, rfl, .ty "str", dp_ty h02, kit_str x, _, rfl, ?_⟩
            cases x with
            | str z =>
              cases h0
              have hxl := dp_all_len hr
              refine ⟨_, rfl, a, _, 0, _, rfl, rfl, hT2, at0, z, rfl, rfl, _, rfl, ?_⟩
              cases hz : decide (z ∈ aboK) with
              | false =>
                rw [show decide (z ∈ (["tell", "marks", "secrets", "once", "opening", "next"] : List Str)) = false from hz]
                exact q0 H2 (by show (decide (z ∈ aboK) && _) = false; rw [hz]; rfl) s12
              | true =>
                rw [show decide (z ∈ (["tell", "marks", "secrets", "once", "opening", "next"] : List Str)) = true from hz]
                have hgo : goalOk (.tuple (.str z :: r)) b = (decide (r.length + 1 = if z = "opening" then 3 else 2) && (match builtD (r.getLastD (.str z)) b with
                    | some w => goalW z w (r.headD .none)
                    | none => false)) := by
                  show (decide (z ∈ aboK) && _) = _
                  rw [hz, Bool.true_and]
                refine ⟨_, rfl, a, _, 0, _, rfl, rfl, hT2, at0, ?_⟩
                refine ⟨_, rfl, a, _, rfl, .inr hT2, _, rfl, rfl, _, rfl, ?_⟩
                by_cases co : z = "opening"
                · rw [decide_eq_true (congrArg V.str co)]
                  subst co
                  rw [if_pos rfl] at hgo
                  refine ⟨rfl, _, rfl, ?_⟩
                  by_cases cl : r.length = 2
                  · obtain ⟨g1, g2, rfl⟩ : ∃ g1 g2, r = [g1, g2] := by
                      match r, cl with
                      | [x, y], _ => exact ⟨x, y, rfl⟩
                    cases hr with
                    | @cons v1 _ vr1 _ h1 hr1 =>
                    cases hr1 with
                    | @cons v2 _ vr2 _ h2 hr2 =>
                    cases hr2
                    rw [decide_eq_true (show V.int ((([V.str "opening", v1, v2] : List V).length : Nat) : Int) = V.int 3 from rfl)]
                    have h12 := dp_same s12 _ h1
                    have h22 := dp_same s12 _ h2
                    obtain ⟨_, n', rfl, hgx⟩ := gd_tup hg
                    refine ⟨_, rfl, 1, rfl, a, _, -1, v2, rfl, rfl, hT2, rfl, _, rfl, v2, u, g2, b.D, n', m, rfl, h22, hgx g2 (by simp), dp_same s12 _ hu, hm, m64, .inr ⟨b, rfl, ok, fun w' v' H3 e3 s3 d3 => ?_, fun H3 e3 s3 => q0 H3 ?_ (s12.trans s3)⟩⟩
                    · have wok := builtD_ok ok e3
                      obtain ⟨aw, uw, rfl, hTw, k0, k2⟩ := blk_parts d3
                      have go3 : goalOk (.tuple [.str "opening", g1, g2]) b = goalW "opening" w' g1 := by
                        rw [hgo, show builtD (([g1, g2] : List PyData).getLastD (.str "opening")) b = some w' from e3]
                        rfl
                      refine ⟨_, rfl, "opening", rfl, rfl, of_decide_eq_true hz, fun va ua rv hab => ?_⟩
                      obtain ⟨x, t, hm2, rfl⟩ := hab
                      obtain rfl := rel_txt rv
                      obtain rfl := abo_of hm2
                      refine ⟨_, rfl, aw, _, 0, _, rfl, rfl, hTw, atI_nat (j := 0) k0, (by show 2 ≤ sizeLine; decide), fun p3 np3 => ?_⟩
                      have s4 := same_new (o := .tup [.str "any", .str (kindB w')]) np3
                      refine ⟨p3, _, rfl, .inr (.inl (.inl upd_same)), rfl, rfl, _, rfl, ?_⟩
                      rw [inV_two]
                      have s34 := s12.trans (s3.trans s4)
                      have s34' := s3.trans s4
                      generalize upd H3 p3 (.tup [.str "any", .str (kindB w')]) = H4 at *
                      cases ck : (decide (aboF "opening" = "any") || decide (aboF "opening" = kindB w')) with
                      | false => exact q0 _ (go3.trans (by unfold goalW; rw [ck]; rfl)) s34
                      | true =>
                        refine ⟨_, rfl, rfl, _, rfl, ?_⟩
                        rw [decide_eq_true rfl]
                        refine ⟨_, rfl, a, _, 1, v1, rfl, rfl, same_sqt s34' hT2, rfl, (by show 1 ≤ sizeLine; decide), fun p5 np5 => ?_⟩
                        have s5 := same_new (o := .tup [v1]) np5
                        have d5 : Dp K (upd H4 p5 (.tup [v1])) (.ref p5) (.tuple [g1]) := .tup (.inl (.inl upd_same)) (.cons (dp_same (s34'.trans s5) _ h12) .nil)
                        refine ⟨_, rfl, aw, _, 2, _, rfl, rfl, same_sqt (s4.trans s5) hTw, atI_nat (j := 2) k2, _, .tuple [g1], n' + 1, 1, (wideB w' : Int), rfl, d5, ⟨(by show 1 ≤ 5000; decide), fun y hy => (by rw [List.mem_singleton.mp hy]; exact hgx g1 (by simp))⟩, by decide, by have := blk_wide wok; omega, fun H5 s6 => ⟨_, rfl, ?_⟩⟩
                        have s45 := s34.trans (s5.trans s6)
                        cases cr : rowsOk (.tuple [g1]) 1 (wideB w' : Int) with
                        | false => exact q0 _ (go3.trans (by unfold goalW; rw [ck, cr]; rfl)) s45
                        | true => exact q1 _ (go3.trans (by unfold goalW; rw [ck, cr]; rfl)) s45
                    · rw [hgo, show builtD (([g1, g2] : List PyData).getLastD (.str "opening")) b = none from e3, Bool.and_false]
                  · rw [decide_eq_false (show ¬ V.int (((V.str "opening" :: _).length : Nat) : Int) = V.int 3 from fun h => cl (by have := V.int.inj h; rw [List.length_cons, hxl] at this; omega))]
                    refine q0 H2 ?_ s12
                    rw [hgo, decide_eq_false (by omega), Bool.false_and]
                · rw [decide_eq_false (fun e => co (V.str.inj e))]
                  rw [if_neg co] at hgo
                  refine ⟨rfl, _, rfl, ?_⟩
                  by_cases cl : r.length = 1
                  · obtain ⟨g1, rfl⟩ := List.length_eq_one_iff.mp cl
                    cases hr with
                    | @cons v1 _ vr1 _ h1 hr1 =>
                    cases hr1
                    rw [decide_eq_true (show V.int ((([V.str z, v1] : List V).length : Nat) : Int) = V.int 2 from rfl)]
                    have h12 := dp_same s12 _ h1
                    obtain ⟨_, n', rfl, hgx⟩ := gd_tup hg
                    refine ⟨_, rfl, 1, rfl, a, _, -1, v1, rfl, rfl, hT2, rfl, _, rfl, v1, u, g1, b.D, n', m, rfl, h12, hgx g1 (by simp), dp_same s12 _ hu, hm, m64, .inr ⟨b, rfl, ok, fun w' v' H3 e3 s3 d3 => ?_, fun H3 e3 s3 => q0 H3 ?_ (s12.trans s3)⟩⟩
                    · obtain ⟨aw, uw, rfl, hTw, k0, k2⟩ := blk_parts d3
                      have go3 : goalOk (.tuple [.str z, g1]) b = goalW z w' g1 := by
                        rw [hgo, show builtD (([g1] : List PyData).getLastD (.str z)) b = some w' from e3]
                        rfl
                      refine ⟨_, rfl, z, rfl, rfl, of_decide_eq_true hz, fun va ua rv hab => ?_⟩
                      obtain ⟨x, t, hm2, rfl⟩ := hab
                      obtain rfl := rel_txt rv
                      obtain rfl := abo_of hm2
                      refine ⟨_, rfl, aw, _, 0, _, rfl, rfl, hTw, atI_nat (j := 0) k0, (by show 2 ≤ sizeLine; decide), fun p3 np3 => ?_⟩
                      have s4 := same_new (o := .tup [.str "any", .str (kindB w')]) np3
                      refine ⟨p3, _, rfl, .inr (.inl (.inl upd_same)), rfl, rfl, _, rfl, ?_⟩
                      rw [inV_two]
                      have s34 := s12.trans (s3.trans s4)
                      cases ck : (decide (aboF z = "any") || decide (aboF z = kindB w')) with
                      | false => exact q0 _ (go3.trans (by unfold goalW; rw [ck]; rfl)) s34
                      | true =>
                        refine ⟨_, rfl, rfl, _, rfl, ?_⟩
                        rw [decide_eq_false (fun e => co (V.str.inj e))]
                        exact q1 _ (go3.trans (by unfold goalW; rw [ck, decide_eq_false co]; rfl)) s34
                    · rw [hgo, show builtD (([g1] : List PyData).getLastD (.str z)) b = none from e3, Bool.and_false]
                  · rw [decide_eq_false (show ¬ V.int (((V.str z :: _).length : Nat) : Int) = V.int 2 from fun h => cl (by have := V.int.inj h; rw [List.length_cons, hxl] at this; omega))]
                    refine q0 H2 ?_ s12
                    rw [hgo, decide_eq_false (by omega), Bool.false_and]
            | _ => exact q0 H2 rfl s12
        | _ => exact q0 H1 rfl s1
    · rcases q with ⟨_, q0⟩ | ⟨b, rfl, ok, _⟩
      · exact q0 H1 s1
      · rw [blk_ok ok] at no
        cases no

end
def spLawTree31 (K : PySem.W.Frag) : Sp := fun vs H Q _ => ∃ (v : V) (n j : Nat) (rows : List (List Bool)), vs = [v, .int (j : Int)] ∧ Dp K H v (tabD n (2 * n) rows) ∧ Wf n (2 * n) rows ∧ n ≤ 8 ∧ 1 ≤ j ∧ j ≤ 8 ∧ n + j ≤ 12 ∧ ∀ v' H', Same H H' → Dp K H' v' (funD n j n (treeT n j rows)) → Q v' H'
theorem toB_front : ∀ (i k : Nat), toB (i + 1) k = (k / 2 ^ i % 2 == 1) :: toB i k
  | 0, k => by
    show [k % 2 == 1] = [k / 1 % 2 == 1]
    rw [Nat.div_one]
  | i + 1, k => by
    show toB (i + 1) (k / 2) ++ [k % 2 == 1] = _
    rw [toB_front i]
    show (k / 2 / 2 ^ i % 2 == 1) :: (toB i (k / 2) ++ [k % 2 == 1]) = (k / 2 ^ (i + 1) % 2 == 1) :: toB (i + 1) k
    rw [Nat.div_div_eq_div_mul, ← Nat.pow_succ']
    rfl
def spBitsS : Sp := fun vs H Q _ => ∃ n k : Nat, vs = [.int (n : Int), .int (k : Int)] ∧ n ≤ 20 ∧ Q (.str (sb (toB n k))) H

section
variable {P : Program} {w : World} {K : PySem.W.Frag} {mg : Str → Option Value} {base : Heap} {cs : Cs}
theorem ok_lawbitsS {f : Addr} {fd : FuncData} (D : Df K mg "_law_bits" s_law_bits ["length", "number"] f fd) (T : Txt K w mg cs) : FnOk P w K mg base CX0 1 f fd ["length", "number"] spBitsS := by
  refine D.fn.ok sc_law_bits (fun vs H Q E h => ?_) (fun cdv A outer s H vs Q E hr h => ?_)
  · obtain ⟨n, k, rfl, _⟩ := h
    rfl
  · obtain ⟨n, k, rfl, hn, q⟩ := h
    refine ⟨_, (pss_cons (ps_set (i := 2) sc_law_bits.nd rfl (.inl rfl) pe_str) (pss_cons (ps_for PassesOwn.never rfl (pi_range1 (by rfl) T.n_range (pa_cons (pv 0) pa_nil)) (pg_name (i := 3) sc_law_bits.nd rfl (.inl rfl)) (pss_one (ps_set (i := 2) sc_law_bits.nd rfl (.inl rfl) (pe_op op_add_str (pe_callTy call_str_int (by rfl) T.n_str (by decide +kernel) (pa_cons (pe_op op_sub (pe_op op_fdiv (pv 1) (pe_op op_shl pe_int (pv 3))) (pe_op op_mul (pe_op op_fdiv (pv 1) (pe_op op_shl pe_int (pv 3))) pe_int)) pa_nil)) (pv 2))))) (pss_one (ps_ret (pv 2))))), ?_⟩
    refine ⟨_, rfl, _, rfl, by omega, by omega, for_range (lo := 0) (n := n) (fun i σ H' => ∃ (y : Option V), σ = [some (.int (n : Int)), some (.int (k : Int)), some (.str (sb (toB i k))), y] ∧ i ≤ n ∧ H' = H) ?_ ?_ ?_⟩
    · exact ⟨none, rfl, Nat.zero_le _, rfl⟩
    · rintro i σ H' hi ⟨y, rfl, hin, rfl⟩
      rw [show ((0 : Int) + (i : Int)) = (i : Int) from Int.zero_add _]
      have hp : 2 ^ i ≤ 2 ^ 20 := two_pow_le (by omega)
      have hp0 : 0 < 2 ^ i := Nat.two_pow_pos i
      have e1 : (1 : Int) * 2 ^ (i : Int).toNat = ((2 ^ i : Nat) : Int) := shl_one i
      have e2 : (2 : Int) * 2 ^ (i : Int).toNat = ((2 ^ (i + 1) : Nat) : Int) := by
        rw [Int.toNat_natCast, Nat.pow_succ', Int.natCast_mul, Int.natCast_pow]
        rfl
      have hp1 : 2 ^ (i + 1) ≤ 2 ^ 21 := two_pow_le (by omega)
      have hp10 : 0 < 2 ^ (i + 1) := Nat.two_pow_pos (i + 1)
      refine ⟨_, rfl, _, rfl, _, _, rfl, rfl, ⟨by omega, by omega, by decide⟩, ?_⟩
      have ev : (k : Int) / (1 * 2 ^ (i : Int).toNat) - (k : Int) / (2 * 2 ^ (i : Int).toNat) * 2 = ((k / 2 ^ i : Nat) : Int) % 2 := by
        rw [e1, e2, ← Int.natCast_ediv, ← Int.natCast_ediv, Nat.pow_succ, ← Nat.div_div_eq_div_mul]
        omega
      have hd : ∀ {j : Nat}, j ≤ 21 → CDiv (k : Int) ((2 ^ j : Nat) : Int) := fun {j} hj => by
        have h1 : 2 ^ j ≤ 2 ^ 21 := two_pow_le hj
        have h2 : 0 < 2 ^ j := Nat.two_pow_pos j
        have h3 : ((2 ^ j : Nat) : Int) < 1073741824 := by omega
        exact ⟨by omega, h3⟩
      refine ⟨_, _, rfl, rfl, ?_, _, rfl, _, rfl, _, _, rfl, rfl, ⟨by omega, by omega, by decide⟩, _, _, rfl, rfl, ?_, _, _, rfl, rfl, .inr ⟨by decide, by decide⟩, _, _, rfl, rfl, ?_⟩
      · show CDiv _ (1 * 2 ^ (i : Int).toNat)
        rw [e1]
        exact hd (by omega)
      · show CDiv _ (2 * 2 ^ (i : Int).toNat)
        rw [e2]
        exact hd (by omega)
      dsimp only
      rw [ev]
      refine ⟨_, rfl, ?_, _, rfl, _, _, rfl, rfl, ?_, ?_⟩
      · have h2 : (((k / 2 ^ i : Nat) : Int) % 2).natAbs < 2 := by omega
        have : (((k / 2 ^ i : Nat) : Int) % 2).natAbs.log2 ≤ (((k / 2 ^ i : Nat) : Int) % 2).natAbs := Nat.log2_le_self _
        omega
      · rw [str_bit, sb_len, sb_len, toB_len, sizeLine_eq]
        show 1 + i ≤ 16777216
        omega
      · rw [str_bit, sb_cat, show [k / 2 ^ i % 2 == 1] ++ toB i k = toB (i + 1) k from (toB_front i k).symm]
        exact ⟨_, rfl, by omega, rfl⟩
    · rintro σ H' ⟨y, rfl, hin, rfl⟩
      exact ⟨_, rfl, q⟩

theorem ok_lawnum {f : Addr} {fd : FuncData} (D : Df K mg "_law_number" s_law_number ["string"] f fd) (T : Txt K w mg cs) : FnOk P w K mg base CX0 1 f fd ["string"] spNumber := by
  refine D.fn.ok sc_law_number (fun vs H Q E h => ?_) (fun cdv A outer s H vs Q E hr h => ?_)
  · obtain ⟨bs, rfl, _⟩ := h
    rfl
  · obtain ⟨bs, rfl, hl, q⟩ := h
    refine ⟨_, (pss_cons (ps_set (i := 1) sc_law_number.nd rfl (.inl rfl) pe_int) (pss_cons (ps_for PassesOwn.never rfl (pi_str (pv 0)) (pg_name (i := 2) sc_law_number.nd rfl (.inl rfl)) (pss_one (ps_set (i := 1) sc_law_number.nd rfl (.inl rfl) (pe_op op_add (pe_op op_mul pe_int (pv 1)) (pe_callTy call_int_str (by rfl) T.n_int (by decide +kernel) (pa_cons (pv 2) pa_nil)))))) (pss_one (ps_ret (pv 1))))), ?_⟩
    refine ⟨_, rfl, _, rfl, for_text (fun i σ H' => ∃ y2 : Option V, σ = [some (.str (sb bs)), some (.int ((val (bs.take i) : Nat) : Int)), y2] ∧ H' = H) ?_ ?_ ?_⟩
    · exact ⟨none, rfl, rfl⟩
    · rintro i c σ H' hc ⟨y2, rfl, rfl⟩
      obtain ⟨hi, rfl⟩ := sb_at hc
      have ei : PySem.intText? ⟨#[cB bs[i]]⟩ = some ((bit bs[i] : Nat) : Int) := by
        cases bs[i] <;> decide +kernel
      refine ⟨_, rfl, _, _, rfl, rfl, .inl ⟨by decide, by decide⟩, _, rfl, _, _, rfl, ei, (by show 1 ≤ 640; decide), _, _, rfl, rfl, some (.str ⟨#[cB bs[i]]⟩), ?_, rfl⟩
      show [_, some (V.int _), _] = _
      rw [val_take bs i hi]
      rw [show (2 : Int) * ((val (bs.take i) : Nat) : Int) + ((bit bs[i] : Nat) : Int) = ((2 * val (bs.take i) + bit bs[i] : Nat) : Int) by omega]
    · rintro σ H' ⟨y2, rfl, rfl⟩
      have es : (sb bs).cps.size = bs.length := sb_len bs
      rw [List.take_of_length_le (Nat.le_of_eq es.symm)]
      exact ⟨_, rfl, q⟩

theorem ok_lawlong31 {f : Addr} {fd : FuncData} (D : Df K mg "_law_longer" s_law_longer ["table", "k"] f fd) (T : Txt K w mg cs) (c_law_bits : Cl P w K mg base CX0 1 "_law_bits" spBitsS) (c_law_number : Cl P w K mg base CX0 1 "_law_number" spNumber) : FnOk P w K mg base CX0 2 f fd ["table", "k"] (spLawLong K) := by
  refine D.fn.ok sc_law_longer (fun vs H Q E h => ?_) (fun cdv A outer s H vs Q E hr h => ?_)
  · obtain ⟨v, n, j, rows, rfl, _⟩ := h
    rfl
  · obtain ⟨v, n, j, rows, rfl, hd, wf, j1, j2, q⟩ := h
    refine ⟨_, (pss_cons (ps_set (i := 2) sc_law_longer.nd rfl (.inl rfl) (pe_ix (ixT K) (pv 0) pe_int (fun _ _ => rfl))) (pss_cons (ps_if (PW.pt (pw_or (pt_cmpR op_ne (pe_ix (ixT K) (pv 0) pe_int (fun _ _ => rfl)) pe_str (nomark _)) (pw_or (pt_cmpR op_ne (pe_ix (ixT K) (pv 0) pe_int (fun _ _ => rfl)) (pe_op op_add (pv 2) pe_int) (nomark _)) (pw_or (pt_cmpR op_lt (pv 1) pe_int (nomark _)) (pw_or1 (pt_cmpR op_gt (pv 1) pe_int (nomark _))))))) (pss_one (ps_ret pe_non)) pss_nil) (pss_cons (ps_set (i := 3) sc_law_longer.nd rfl (.inl rfl) (pe_lst pa_nil)) (pss_cons (ps_for PassesOwn.never rfl (pi_range1 (by rfl) T.n_range (pa_cons (pe_op op_shl pe_int (pv 2)) pa_nil)) (pg_name (i := 4) sc_law_longer.nd rfl (.inl rfl)) (pss_cons (ps_set (i := 5) sc_law_longer.nd rfl (.inl rfl) (pe_cl c_law_bits hr (by first | decide | omega) (by rfl) (pa_cons (pv 2) (pa_cons (pv 4) pa_nil)))) (pss_cons (ps_set (i := 6) sc_law_longer.nd rfl (.inl rfl) pe_str) (pss_cons (ps_for PassesOwn.never rfl (pi_range1 (by rfl) T.n_range (pa_cons (pv 1) pa_nil)) (pg_name (i := 7) sc_law_longer.nd rfl (.inl rfl)) (pss_cons (ps_set (i := 8) sc_law_longer.nd rfl (.inl rfl) (pe_ix (ixT K) (pe_ix (ixT K) (pv 0) pe_int (fun _ _ => rfl)) (pe_cl c_law_number hr (by first | decide | omega) (by rfl) (pa_cons (pv 5) pa_nil)) (fun _ _ => rfl))) (pss_cons (ps_set (i := 5) sc_law_longer.nd rfl (.inl rfl) (pe_slice sl_str (pv 8) po_none (po_some (pv 2)))) (pss_one (ps_set (i := 6) sc_law_longer.nd rfl (.inl rfl) (pe_op op_add_str (pv 6) (pe_slice sl_str (pv 8) (po_some (pv 2)) po_none))))))) (pss_one (ps_expr (pe_bm PySem.F.plainAttrs_list PySem.F.slot_list_append PySem.F.type_list_append mt_append (pv 3) (pa_cons (pe_op op_add_str (pv 6) (pv 5)) pa_nil)))))))) (pss_one (ps_ret (pe_tup (pa_cons pe_str (pa_cons (pv 2) (pa_cons (pe_op op_add (pv 2) (pv 1)) (pa_cons (pe_callTy (tupOf K) (by rfl) T.n_tuple (by decide +kernel) (pa_cons (pv 3) pa_nil)) pa_nil))))))))))), ?_⟩
    obtain ⟨a, r, rfl, hT, hR⟩ := dp_tab hd
    have hn10 := wf.n2
    have hp := two_pow_le (b := 10) hn10
    refine ⟨_, rfl, a, _, 1, _, rfl, rfl, hT, rfl, ?_⟩
    refine ⟨_, rfl, a, _, 0, _, rfl, rfl, hT, at0, rfl, _, rfl, ?_⟩
    rw [decide_eq_true rfl]
    refine ⟨_, rfl, a, _, 2, _, rfl, rfl, hT, rfl, _, rfl, _, _, rfl, rfl, rfl, _, rfl, ?_⟩
    rw [decide_eq_true (show V.int ((n + 1 : Nat) : Int) = V.int ((n : Int) + 1) from congrArg V.int (by omega))]
    refine ⟨_, rfl, _, _, rfl, rfl, _, rfl, ?_⟩
    rw [decide_eq_false (show ¬ (j : Int) < 1 by omega)]
    refine ⟨_, rfl, _, _, rfl, rfl, _, rfl, ?_⟩
    rw [decide_eq_false (show ¬ (20 : Int) < (j : Int) by omega)]
    refine ⟨Nat.zero_le _, fun L nL => ?_⟩
    refine ⟨_, rfl, _, _, rfl, rfl, ⟨by omega, by omega, by decide⟩, _, rfl, ?_⟩
    rw [shl_one]
    generalize hN : 2 ^ n = N at hp ⊢
    refine ⟨by omega, by omega, for_range (lo := 0) (n := _) (fun i σ H' => ∃ y4 y5 y6 y7 y8 : Option V, σ = [some (.ref a), some (.int (j : Int)), some (.int (n : Int)), some (.ref L), y4, y5, y6, y7, y8] ∧ Same H H' ∧ H' L = some (.lst (rowV ((List.range i).map fun i => putOut rows j (toB n i))))) ?_ ?_ ?_⟩
    · exact ⟨_, _, _, _, _, rfl, same_new nL, upd_same⟩
    · rintro i σ H' hi ⟨y4, y5, y6, y7, y8, rfl, s1, e1⟩
      have hT1 := same_sqt s1 hT
      have hR1 := same_sqt s1 hR
      refine ⟨_, rfl, _, rfl, n, i, ?_, by omega, ?_⟩
      · show [V.int (n : Int), V.int (0 + (i : Int))] = _
        rw [Int.zero_add]
      refine ⟨_, rfl, _, rfl, by omega, by omega, for_range (lo := 0) (n := j) (fun k σ H2 => ∃ (t o : List Bool) (y7 y8 : Option V), σ = [some (.ref a), some (.int (j : Int)), some (.int (n : Int)), some (.ref L), some (.int (0 + (i : Int))), some (.str (sb t)), some (.str (sb o)), y7, y8] ∧ t.length = n ∧ o.length = k ∧ k ≤ j ∧ putOut rows j (toB n i) = o ++ putOut rows (j - k) t ∧ H2 = H') ?_ ?_ ?_⟩
      · exact ⟨toB n i, [], _, _, rfl, toB_len _ _, rfl, Nat.zero_le _, rfl, rfl⟩
      · rintro k σ H2 hk ⟨t, o, y7, y8, rfl, ht, ho, hik, he, rfl⟩
        obtain ⟨hv, hrow⟩ := wf.at ht
        generalize hRw : rows.getD (val t) [] = row at hrow
        obtain ⟨b, hb, hbl⟩ := last_bit hrow
        have sz : ∀ l : List Bool, l.length ≤ 1000 → (sb l).length ≤ sizeLine := fun l h => by
          rw [sb_len, sizeLine_eq]
          omega
        refine ⟨_, rfl, a, _, 3, _, rfl, rfl, hT1, rfl, _, rfl, t, rfl, by omega, r, _, _, _, rfl, rfl, hR1, atI_nat (getD_row hv), ?_⟩
        rw [hRw]
        refine ⟨_, rfl, _, rfl, _, rfl, _, rfl, sz _ (by omega), ?_⟩
        rw [cut_pre]
        refine ⟨_, rfl, _, rfl, _, rfl, _, rfl, _, rfl, sz _ (by omega), ?_⟩
        rw [cut_suf, hb]
        refine ⟨_, _, rfl, rfl, ?_, row.take n, o ++ [b], some (.int (0 + (k : Int))), some (.str (sb row)), ?_, ?_, ?_, by omega, ?_, rfl⟩
        · rw [← str_app_len, sb_cat]
          exact sz _ (by rw [List.length_append, ho]; show k + 1 ≤ _; omega)
        · rw [← sb_cat]
          rfl
        · rw [List.length_take, hrow]
          omega
        · rw [List.length_append, ho]
          rfl
        · rw [he, show j - k = (j - (k + 1)) + 1 by omega]
          show o ++ ((rows.getD (val t) []).drop ((rows.getD (val t) []).length - 1) ++ putOut rows (j - (k + 1)) (rows.getD (val t) []).dropLast) = _
          rw [hRw, hrow, show n + 1 - 1 = n from rfl, hb, List.append_assoc, List.dropLast_eq_take, hrow]
          rfl
      · rintro σ H2 ⟨t, o, y7, y8, rfl, ht, ho, hik, he, rfl⟩
        rw [Nat.sub_self] at he
        have he' : putOut rows j (toB n i) = o ++ t := he
        refine ⟨_, rfl, .inl ⟨rfl, _, .inl (.inl e1)⟩, _, rfl, _, rfl, _, _, rfl, rfl, ?_, L, _, _, rfl, rfl, e1, ?_, ?_⟩
        · rw [← str_app_len, sb_cat, sb_len, List.length_append, sizeLine_eq]
          omega
        · unfold rowV
          rw [List.length_map, List.length_map, List.length_range]
          exact Nat.lt_of_lt_of_le (show i < 10000 by omega) (by decide)
        · refine ⟨_, _, _, _, _, rfl, fun b o' e => ?_, ?_⟩
          · rw [upd_ne (ne_of_none e nL)]
            exact s1 b o' e
          · rw [upd_same, List.range_succ]
            unfold rowV
            rw [List.map_append, List.map_append, sb_cat, ← he']
            rfl
    · rintro σ H' ⟨y4, y5, y6, y7, y8, rfl, s1, e1⟩
      rw [Int.toNat_natCast, ← hN] at e1
      refine ⟨_, rfl, _, rfl, _, rfl, _, _, rfl, rfl, _, rfl, L, _, rfl, .inl ⟨.inl (.inl e1), fun t nt => ⟨(by show 4 ≤ sizeLine; decide), fun g ng => ?_⟩⟩⟩
      have s4 := s1.trans ((same_new nt).trans (same_new (o := .tup [.str "generator", .int (n : Int), .int ((n : Int) + (j : Int)), .ref t]) ng))
      refine q _ _ s4 (tab_dp (n := n) (m := n + j) (r := t) (.inl (.inl upd_same)) (.inl (.inl ?_)))
      rw [upd_ne (ne_of_none upd_same ng), upd_same]
      rfl
theorem ok_lawtree31 {f : Addr} {fd : FuncData} (D : Df K mg "_law_tree" s_law_tree ["table", "d"] f fd) (T : Txt K w mg cs) (c_law_bits : Cl P w K mg base CX0 1 "_law_bits" spBitsS) (c_law_number : Cl P w K mg base CX0 1 "_law_number" spNumber) : FnOk P w K mg base CX0 2 f fd ["table", "d"] (spLawTree31 K) := by
  refine D.fn.ok sc_law_tree (fun vs H Q E h => ?_) (fun cdv A outer s H vs Q E hr h => ?_)
  · obtain ⟨v, n, j, rows, rfl, _⟩ := h
    rfl
  · obtain ⟨v, n, j, rows, rfl, hd, wf, n8, j1, j2, nj, q⟩ := h
    refine ⟨_, (pss_cons (ps_set (i := 2) sc_law_tree.nd rfl (.inl rfl) (pe_ix (ixT K) (pv 0) pe_int (fun _ _ => rfl))) (pss_cons (ps_if (PW.pt (pw_or (pt_cmpR op_ne (pe_ix (ixT K) (pv 0) pe_int (fun _ _ => rfl)) pe_str (nomark _)) (pw_or (pt_cmpR op_ne (pe_ix (ixT K) (pv 0) pe_int (fun _ _ => rfl)) (pe_op op_mul pe_int (pv 2)) (nomark _)) (pw_or (pt_cmpR op_gt (pv 2) pe_int (nomark _)) (pw_or (pt_cmpR op_lt (pv 1) pe_int (nomark _)) (pw_or (pt_cmpR op_gt (pv 1) pe_int (nomark _)) (pw_or1 (pt_cmpR op_gt (pe_op op_add (pv 2) (pv 1)) pe_int (nomark _))))))))) (pss_one (ps_ret pe_non)) pss_nil) (pss_cons (ps_set (i := 3) sc_law_tree.nd rfl (.inl rfl) (pe_lst pa_nil)) (pss_cons (ps_for PassesOwn.never rfl (pi_range1 (by rfl) T.n_range (pa_cons (pe_op op_shl pe_int (pv 2)) pa_nil)) (pg_name (i := 4) sc_law_tree.nd rfl (.inl rfl)) (pss_cons (ps_set (i := 5) sc_law_tree.nd rfl (.inl rfl) (pe_lst pa_nil)) (pss_cons (ps_for PassesOwn.never rfl (pi_range1 (by rfl) T.n_range (pa_cons (pe_op op_shl pe_int (pv 1)) pa_nil)) (pg_name (i := 6) sc_law_tree.nd rfl (.inl rfl)) (pss_cons (ps_set (i := 7) sc_law_tree.nd rfl (.inl rfl) (pe_cl c_law_bits hr (by first | decide | omega) (by rfl) (pa_cons (pv 2) (pa_cons (pv 4) pa_nil)))) (pss_cons (ps_for PassesOwn.never rfl (pi_str (pe_cl c_law_bits hr (by first | decide | omega) (by rfl) (pa_cons (pv 1) (pa_cons (pv 6) pa_nil)))) (pg_name (i := 8) sc_law_tree.nd rfl (.inl rfl)) (pss_cons (ps_set (i := 9) sc_law_tree.nd rfl (.inl rfl) (pe_ix (ixT K) (pe_ix (ixT K) (pv 0) pe_int (fun _ _ => rfl)) (pe_cl c_law_number hr (by first | decide | omega) (by rfl) (pa_cons (pv 7) pa_nil)) (fun _ _ => rfl))) (pss_one (ps_set (i := 7) sc_law_tree.nd rfl (.inl rfl) (pe_ix (ixL K) (pe_lst (pa_cons (pe_slice sl_str (pv 9) po_none (po_some (pv 2))) (pa_cons (pe_slice sl_str (pv 9) (po_some (pv 2)) po_none) pa_nil))) (pe_callTy call_int_str (by rfl) T.n_int (by decide +kernel) (pa_cons (pv 8) pa_nil)) (fun _ _ => rfl)))))) (pss_one (ps_expr (pe_bm PySem.F.plainAttrs_list PySem.F.slot_list_append PySem.F.type_list_append mt_append (pv 5) (pa_cons (pv 7) pa_nil))))))) (pss_one (ps_expr (pe_bm PySem.F.plainAttrs_list PySem.F.slot_list_append PySem.F.type_list_append mt_append (pv 3) (pa_cons (pe_callTy (tupOf K) (by rfl) T.n_tuple (by decide +kernel) (pa_cons (pv 5) pa_nil)) pa_nil))))))) (pss_one (ps_ret (pe_tup (pa_cons pe_str (pa_cons (pv 2) (pa_cons (pv 1) (pa_cons (pv 2) (pa_cons (pe_callTy (tupOf K) (by rfl) T.n_tuple (by decide +kernel) (pa_cons (pv 3) pa_nil)) pa_nil)))))))))))), ?_⟩
    obtain ⟨a, r, rfl, hT, hR⟩ := dp_tab hd
    have hp := two_pow_le (b := 8) n8
    have hpj := two_pow_le (b := 8) j2
    refine ⟨_, rfl, a, _, 1, _, rfl, rfl, hT, rfl, ?_⟩
    refine ⟨_, rfl, a, _, 0, _, rfl, rfl, hT, at0, rfl, _, rfl, ?_⟩
    rw [decide_eq_true rfl]
    refine ⟨_, rfl, a, _, 2, _, rfl, rfl, hT, rfl, _, rfl, _, _, rfl, rfl, .inl ⟨by decide, by decide⟩, rfl, _, rfl, ?_⟩
    rw [decide_eq_true (show V.int ((2 * n : Nat) : Int) = V.int (2 * (n : Int)) from congrArg V.int (by omega))]
    refine ⟨_, rfl, _, _, rfl, rfl, _, rfl, ?_⟩
    rw [decide_eq_false (show ¬ (8 : Int) < (n : Int) by omega)]
    refine ⟨_, rfl, _, _, rfl, rfl, _, rfl, ?_⟩
    rw [decide_eq_false (show ¬ (j : Int) < 1 by omega)]
    refine ⟨_, rfl, _, _, rfl, rfl, _, rfl, ?_⟩
    rw [decide_eq_false (show ¬ (8 : Int) < (j : Int) by omega)]
    refine ⟨_, rfl, _, rfl, _, _, rfl, rfl, _, _, rfl, rfl, _, rfl, ?_⟩
    rw [decide_eq_false (show ¬ (12 : Int) < (n : Int) + (j : Int) by omega)]
    refine ⟨Nat.zero_le _, fun L nL => ?_⟩
    refine ⟨_, rfl, _, _, rfl, rfl, ⟨by omega, by omega, by decide⟩, _, rfl, ?_⟩
    rw [shl_one]
    generalize hN : 2 ^ n = N at hp ⊢
    refine ⟨by omega, by omega, for_range (lo := 0) (n := _) (fun i σ H' => ∃ y4 y5 y6 y7 y8 y9 : Option V, σ = [some (.ref a), some (.int (j : Int)), some (.int (n : Int)), some (.ref L), y4, y5, y6, y7, y8, y9] ∧ Same H H' ∧ ∃ us, H' L = some (.lst us) ∧ us.length = i ∧ DpAll K (off L H') us ((List.range i).map fun i => rowsD ((List.range (2 ^ j)).map fun k => goDown rows n (toB n i) (toB j k)))) ?_ ?_ ?_⟩
    · exact ⟨_, _, _, _, _, _, rfl, same_new nL, [], upd_same, rfl, .nil⟩
    · rintro i σ H' hi ⟨y4, y5, y6, y7, y8, y9, rfl, s1, us, e1, hul, hA⟩
      refine ⟨Nat.zero_le _, fun M nM => ?_⟩
      have nML : M ≠ L := (ne_of_none e1 nM).symm
      refine ⟨_, rfl, _, _, rfl, rfl, ⟨by omega, by omega, by decide⟩, _, rfl, ?_⟩
      rw [shl_one]
      generalize hJ : 2 ^ j = J at hpj hA ⊢
      refine ⟨by omega, by omega, for_range (lo := 0) (n := _) (fun k σ H2 => ∃ y6 y7 y8 y9 : Option V, σ = [some (.ref a), some (.int (j : Int)), some (.int (n : Int)), some (.ref L), some (.int (0 + (i : Int))), some (.ref M), y6, y7, y8, y9] ∧ Same H' H2 ∧ H2 M = some (.lst (rowV ((List.range k).map fun k => goDown rows n (toB n i) (toB j k))))) ?_ ?_ ?_⟩
      · exact ⟨_, _, _, _, rfl, same_new nM, upd_same⟩
      · rintro k σ H2 hk ⟨y6, y7, y8, y9, rfl, s2, e2⟩
        refine ⟨_, rfl, _, rfl, n, i, ?_, by omega, ?_⟩
        · show [V.int (n : Int), V.int (0 + (i : Int))] = _
          rw [Int.zero_add]
        refine ⟨_, rfl, _, rfl, j, k, ?_, by omega, ?_⟩
        · show [V.int (j : Int), V.int (0 + (k : Int))] = _
          rw [Int.zero_add]
        refine ⟨_, rfl, for_text (fun c σ H3 => ∃ (t : List Bool) (y8 y9 : Option V), σ = [some (.ref a), some (.int (j : Int)), some (.int (n : Int)), some (.ref L), some (.int (0 + (i : Int))), some (.ref M), some (.int (0 + (k : Int))), some (.str (sb t)), y8, y9] ∧ t.length = n ∧ goDown rows n (toB n i) (toB j k) = goDown rows n t ((toB j k).drop c) ∧ Same H2 H3) ?_ ?_ ?_⟩
        · exact ⟨toB n i, _, _, rfl, toB_len _ _, rfl, Same.refl _⟩
        · rintro c ch σ H3 hc ⟨t, y8, y9, rfl, ht, he, s3⟩
          obtain ⟨hci, rfl⟩ := sb_at hc
          obtain ⟨hv, hrow⟩ := wf.at ht
          rw [List.drop_eq_getElem_cons hci] at he
          have he' : goDown rows n (toB n i) (toB j k) = goDown rows n (if (toB j k)[c] then (rows.getD (val t) []).drop n else (rows.getD (val t) []).take n) ((toB j k).drop (c + 1)) := he
          generalize hRw : rows.getD (val t) [] = row at hrow he'
          generalize (toB j k)[c] = bt at he' ⊢
          have sz : ∀ l : List Bool, l.length ≤ 1000 → (sb l).length ≤ sizeLine := fun l h => by
            rw [sb_len, sizeLine_eq]
            omega
          have s13 := (s1.trans s2).trans s3
          refine ⟨_, rfl, a, _, 3, _, rfl, rfl, same_sqt s13 hT, rfl, _, rfl, t, rfl, by omega, r, _, _, _, rfl, rfl, same_sqt s13 hR, atI_nat (getD_row hv), ?_⟩
          rw [hRw]
          refine ⟨_, rfl, _, rfl, _, rfl, _, rfl, sz _ (by omega), ?_⟩
          rw [cut_pre]
          refine ⟨_, rfl, _, rfl, _, rfl, _, rfl, sz _ (by omega), ?_⟩
          rw [cut_suf]
          refine ⟨(by show 2 ≤ sizeLine; decide), fun g ng => ⟨_, rfl, ?_⟩⟩
          cases bt with
          | false =>
            refine ⟨_, _, rfl, (show PySem.intText? ⟨#[cB false]⟩ = some 0 by decide +kernel), (by show 1 ≤ 640; decide), ?_⟩
            refine ⟨g, [.str (sb (row.take n)), .str (sb (row.drop n))], 0, .str (sb (row.take n)), rfl, rfl, .inl (.inl upd_same), rfl, ?_⟩
            refine ⟨row.take n, _, _, rfl, ?_, he', s3.trans (same_new ng)⟩
            rw [List.length_take, hrow]
            omega
          | true =>
            refine ⟨_, _, rfl, (show PySem.intText? ⟨#[cB true]⟩ = some 1 by decide +kernel), (by show 1 ≤ 640; decide), ?_⟩
            refine ⟨g, [.str (sb (row.take n)), .str (sb (row.drop n))], 1, .str (sb (row.drop n)), rfl, rfl, .inl (.inl upd_same), rfl, ?_⟩
            refine ⟨row.drop n, _, _, rfl, ?_, he', s3.trans (same_new ng)⟩
            rw [List.length_drop, hrow]
            omega
        · rintro σ H3 ⟨t, y8, y9, rfl, ht, he, s3⟩
          have es : (sb (toB j k)).cps.size = (toB j k).length := sb_len _
          rw [es, List.drop_length] at he
          have he' : goDown rows n (toB n i) (toB j k) = t := he
          have e3 := s3 _ _ e2
          refine ⟨_, rfl, .inl ⟨rfl, _, .inl (.inl e3)⟩, _, rfl, M, _, _, rfl, rfl, e3, ?_, _, _, _, _, rfl, fun b o e => ?_, ?_⟩
          · rw [rowV_len, List.length_map, List.length_range]
            exact Nat.lt_of_lt_of_le (show k < 10000 by omega) (by decide)
          · rw [upd_ne (ne_of_none e nM)]
            exact s3 _ _ (s2 b o e)
          · rw [upd_same, rowV_snoc, he']
      · rintro σ H2 ⟨y6, y7, y8, y9, rfl, s2, e2⟩
        rw [Int.toNat_natCast] at e2
        have e12 := s2 _ _ e1
        refine ⟨_, rfl, .inl ⟨rfl, _, .inl (.inl e12)⟩, _, rfl, M, _, rfl, .inl ⟨.inl (.inl e2), fun t nt => ?_⟩⟩
        have ntL : t ≠ L := (ne_of_none e12 nt).symm
        refine ⟨L, us, _, rfl, rfl, by rw [upd_ne ntL.symm]; exact e12, ?_, _, _, _, _, _, _, rfl, fun b o e => ?_, us ++ [.ref t], upd_same, by rw [List.length_append, hul]; rfl, ?_⟩
        · exact Nat.lt_of_lt_of_le (show us.length < 10000 by omega) (by decide)
        · rw [upd_ne (ne_of_none e nL)]
          exact same_new nt _ _ (s2 _ _ (s1 _ _ e))
        · rw [off_upd1, List.range_succ, List.map_append]
          refine dpAll_snoc (dps_same (off_mono (s2.trans (same_new nt))) _ hA) (.tup (.inl (.inl ?_)) (dp_bits _))
          rw [off_ne ntL, upd_same]
          rfl
    · rintro σ H' ⟨y4, y5, y6, y7, y8, y9, rfl, s1, us, e1, hul, hA⟩
      rw [Int.toNat_natCast, ← hN] at hul hA
      refine ⟨_, rfl, _, rfl, _, rfl, _, rfl, L, _, rfl, .inl ⟨.inl (.inl e1), fun t nt => ⟨(by show 5 ≤ sizeLine; decide), fun g ng => ?_⟩⟩⟩
      have s6 := (same_new (o := .tup us) nt).trans (same_new (o := .tup [.str "function", .int (n : Int), .int (j : Int), .int (n : Int), .ref t]) ng)
      refine q _ _ (s1.trans s6) (fun_dp (n := n) (l := j) (m := n) (t := t) (.inl (.inl upd_same)) ?_)
      have eT : (treeT n j rows).map rowsD = (List.range (2 ^ n)).map fun i => rowsD ((List.range (2 ^ j)).map fun k => goDown rows n (toB n i) (toB j k)) := by
        unfold treeT
        rw [List.map_map]
        rfl
      unfold tabsD
      rw [eT]
      exact .tup (.inl (.inl (by rw [upd_ne (ne_of_none upd_same ng), upd_same]))) (dps_same (fun b o e => s6 _ _ (off_same L H' _ _ e)) _ hA)

end
theorem eq_named {x : Str} {k : PyData} (h : named x k = true) : k = .str x := by
  unfold named at h
  cases k with
  | str z =>
    simp only [PyData.eqv] at h
    rw [eq_of_beq h]
  | _ => simp only [PyData.eqv] at h; cases h
theorem lay_some {X Y : PyData} {b b' : Blk} (h : b.Ok) (e : lay1 (X, Y) b = some b') :
    (X = .str "longer" ∧ ∃ (n j : Nat) (rows : List (List Bool)), b = .gen n (n + 1) rows ∧ Y = .int (j : Int) ∧ Wf n (n + 1) rows ∧ 1 ≤ j ∧ j ≤ 20 ∧ b' = .gen n (n + j) (longR n rows j)) ∨
    (X = .str "tree" ∧ ∃ (n j : Nat) (rows : List (List Bool)), b = .gen n (2 * n) rows ∧ Y = .int (j : Int) ∧ Wf n (2 * n) rows ∧ n ≤ 8 ∧ 1 ≤ j ∧ j ≤ 8 ∧ n + j ≤ 12 ∧ b' = .fn n j n (treeT n j rows)) ∨
    (X = .str "counter" ∧ ∃ (n l m j : Nat) (tabs : List (List (List Bool))), b = .fn n l m tabs ∧ Y = .int (j : Int) ∧ Wff n l m tabs ∧ 1 ≤ j ∧ j ≤ 2 ^ l ∧ j * m ≤ 40 ∧ b' = .gen n (j * m) (cntR j tabs)) ∨
    (X = .str "cut" ∧ ∃ (n m j : Nat) (rows : List (List Bool)), b = .gen n m rows ∧ Y = .int (j : Int) ∧ Wf n m rows ∧ 1 ≤ j ∧ j ≤ m ∧ b' = .gen n j (rows.map fun r => r.take j)) := by
  unfold lay1 at e
  by_cases c1 : named "longer" X = true
  · rw [if_pos c1] at e
    rcases long_cases Y b h with ⟨e2, _⟩ | ⟨n, j, rows, rfl, eY, wf, j1, j2, e2⟩
    · exact absurd (e2.symm.trans e) (by simp)
    · exact .inl ⟨eq_named c1, n, j, rows, rfl, eY, wf, j1, j2, Option.some.inj (e.symm.trans e2)⟩
  rw [if_neg c1] at e
  by_cases c2 : named "tree" X = true
  · rw [if_pos c2] at e
    rcases tree_cases Y b h with ⟨e2, _⟩ | ⟨n, j, rows, rfl, eY, wf, n8, j1, j2, nj, e2⟩
    · exact absurd (e2.symm.trans e) (by simp)
    · exact .inr (.inl ⟨eq_named c2, n, j, rows, rfl, eY, wf, n8, j1, j2, nj, Option.some.inj (e.symm.trans e2)⟩)
  rw [if_neg c2] at e
  by_cases c3 : named "counter" X = true
  · rw [if_pos c3] at e
    rcases cnt_cases Y b h with ⟨e2, _⟩ | ⟨n, l, m, j, tabs, rfl, eY, wf, j1, j2, jm, e2⟩
    · exact absurd (e2.symm.trans e) (by simp)
    · exact .inr (.inr (.inl ⟨eq_named c3, n, l, m, j, tabs, rfl, eY, wf, j1, j2, jm, Option.some.inj (e.symm.trans e2)⟩))
  rw [if_neg c3] at e
  by_cases c4 : named "cut" X = true
  · rw [if_pos c4] at e
    rcases cut_cases Y b h with ⟨e2, _⟩ | ⟨n, m, j, rows, rfl, eY, wf, j1, j2, e2⟩
    · exact absurd (e2.symm.trans e) (by simp)
    · exact .inr (.inr (.inr ⟨eq_named c4, n, m, j, rows, rfl, eY, wf, j1, j2, Option.some.inj (e.symm.trans e2)⟩))
  rw [if_neg c4] at e
  cases e
def spLayer (K : PySem.W.Frag) : Sp := fun vs H Q _ => ∃ (v : V) (b b' : Blk) (z : Str) (k : Int), vs = [.str z, .int k, v] ∧ Dp K H v b.D ∧ b.Ok ∧ lay1 (.str z, .int k) b = some b' ∧ ∀ v' H', Same H H' → Dp K H' v' b'.D → Q v' H'

section
variable {P : Program} {w : World} {K : PySem.W.Frag} {mg : Str → Option Value} {base : Heap} {cs : Cs}
theorem ok_layer {f : Addr} {fd : FuncData} (D : Df K mg "_law_layer" s_law_layer ["name", "number", "table"] f fd) (T : Txt K w mg cs) (c_law_longer : Cl P w K mg base CX0 2 "_law_longer" (spLawLong K)) (c_law_tree : Cl P w K mg base CX0 2 "_law_tree" (spLawTree31 K)) : FnOk P w K mg base CX0 3 f fd ["name", "number", "table"] (spLayer K) := by
  refine D.fn.ok sc_law_layer (fun vs H Q E h => ?_) (fun cdv A outer s H vs Q E hr h => ?_)
  · obtain ⟨v, b, b', z, k, rfl, _⟩ := h
    rfl
  · obtain ⟨v, b, b', z, k, rfl, hd, ok, e, q⟩ := h
    refine ⟨_, (pss_cons (ps_if (pt_cmpR op_eq (pv 0) pe_str (nomark _)) (pss_one (ps_ret (pe_cl c_law_longer hr (by first | decide | omega) (by rfl) (pa_cons (pv 2) (pa_cons (pv 1) pa_nil))))) pss_nil) (pss_cons (ps_if (pt_cmpR op_eq (pv 0) pe_str (nomark _)) (pss_one (ps_ret (pe_cl c_law_tree hr (by first | decide | omega) (by rfl) (pa_cons (pv 2) (pa_cons (pv 1) pa_nil))))) pss_nil) (pss_cons (ps_if (pt_cmpR op_eq (pv 0) pe_str (nomark _)) (pss_cons (ps_if (PW.pt (pw_or (pt_cmpR op_ne (pe_ix (ixT K) (pv 2) pe_int (fun _ _ => rfl)) pe_str (nomark _)) (pw_or (pt_cmpR op_lt (pv 1) pe_int (nomark _)) (pw_or (pt_cmpR op_gt (pv 1) (pe_op op_shl pe_int (pe_ix (ixT K) (pv 2) pe_int (fun _ _ => rfl))) (nomark _)) (pw_or1 (pt_cmpR op_gt (pe_op op_mul (pv 1) (pe_ix (ixT K) (pv 2) pe_int (fun _ _ => rfl))) pe_int (nomark _))))))) (pss_one (ps_ret pe_non)) pss_nil) (pss_cons (ps_set (i := 3) sc_law_layer.nd rfl (.inl rfl) (pe_callTy (tupOf K) (by rfl) T.n_tuple (by decide +kernel) (pa_cons (pe_lc (own := [("row", 4)]) (g := gName 4) (tt := tYes) rfl sc_law_layer.nd (pi_tup (pe_ix (ixT K) (pv 2) pe_int (fun _ _ => rfl))) (blkOk_by (own := [("row", 4)]) (N := ["name", "number", "table", "rows", "row"]) (sc := defScope s_law_layer) (by decide +kernel)) (fun _ _ _ _ _ => (pg_name (i := 4) sc_law_layer.nd rfl (.inl rfl))) (fun _ _ _ _ _ => pts_nil) (fun _ _ _ _ _ => (pe_m1 PySem.F.slot_str_join PySem.F.type_str_join (mtJoin K) pe_str (pe_slice (slTA K) (pv 4) po_none (po_some (pv 1)))))) pa_nil))) (pss_one (ps_ret (pe_tup (pa_cons pe_str (pa_cons (pe_ix (ixT K) (pv 2) pe_int (fun _ _ => rfl)) (pa_cons (pe_op op_mul (pv 1) (pe_ix (ixT K) (pv 2) pe_int (fun _ _ => rfl))) (pa_cons (pv 3) pa_nil))))))))) pss_nil) (pss_cons (ps_if (PW.pt (pw_or (pt_cmpR op_ne (pe_ix (ixT K) (pv 2) pe_int (fun _ _ => rfl)) pe_str (nomark _)) (pw_or (pt_cmpR op_lt (pv 1) pe_int (nomark _)) (pw_or1 (pt_cmpR op_gt (pv 1) (pe_ix (ixT K) (pv 2) pe_int (fun _ _ => rfl)) (nomark _)))))) (pss_one (ps_ret pe_non)) pss_nil) (pss_one (ps_ret (pe_tup (pa_cons pe_str (pa_cons (pe_ix (ixT K) (pv 2) pe_int (fun _ _ => rfl)) (pa_cons (pv 1) (pa_cons (pe_callTy (tupOf K) (by rfl) T.n_tuple (by decide +kernel) (pa_cons (pe_lc (own := [("row", 4)]) (g := gName 4) (tt := tYes) rfl sc_law_layer.nd (pi_tup (pe_ix (ixT K) (pv 2) pe_int (fun _ _ => rfl))) (blkOk_by (own := [("row", 4)]) (N := ["name", "number", "table", "rows", "row"]) (sc := defScope s_law_layer) (by decide +kernel)) (fun _ _ _ _ _ => (pg_name (i := 4) sc_law_layer.nd rfl (.inl rfl))) (fun _ _ _ _ _ => pts_nil) (fun _ _ _ _ _ => (pe_slice sl_str (pv 4) po_none (po_some (pv 1))))) pa_nil)) pa_nil))))))))))), ?_⟩
    rcases lay_some ok e with ⟨ez, n, j, rows, rfl, ek, wf, j1, j2, rfl⟩ | ⟨ez, n, j, rows, rfl, ek, wf, n8, j1, j2, nj, rfl⟩ | ⟨ez, n, l, m, j, tabs, rfl, ek, wf, j1, j2, jm, rfl⟩ | ⟨ez, n, m, j, rows, rfl, ek, wf, j1, j2, rfl⟩
    · cases ez
      cases ek
      refine ⟨_, rfl, rfl, _, rfl, ?_⟩
      rw [decide_eq_true rfl]
      exact ⟨_, rfl, _, rfl, v, n, j, rows, rfl, hd, wf, j1, j2, fun v' H' s d => q v' H' s d⟩
    · cases ez
      cases ek
      refine ⟨_, rfl, rfl, _, rfl, ?_⟩
      refine ⟨_, rfl, rfl, _, rfl, ?_⟩
      exact ⟨_, rfl, _, rfl, v, n, j, rows, rfl, hd, wf, n8, j1, j2, nj, fun v' H' s d => q v' H' s d⟩
    · cases ez
      cases ek
      refine ⟨_, rfl, rfl, _, rfl, ?_⟩
      refine ⟨_, rfl, rfl, _, rfl, ?_⟩
      refine ⟨_, rfl, rfl, _, rfl, ?_⟩
      have hl8 := wf.l2
      have hm40 := wf.m2
      have hp := two_pow_le (b := 8) hl8
      have hj : j ≤ 256 := by omega
      have ejm : (j : Int) * (m : Int) = ((j * m : Nat) : Int) := (Int.natCast_mul j m).symm
      obtain ⟨a, t, rfl, hT, hR⟩ := dp_fun hd
      refine ⟨_, rfl, a, _, 0, _, rfl, rfl, hT, at0, rfl, _, rfl, ?_⟩
      rw [decide_eq_true rfl]
      refine ⟨_, rfl, _, _, rfl, rfl, _, rfl, ?_⟩
      rw [decide_eq_false (show ¬ (j : Int) < 1 by omega)]
      refine ⟨_, rfl, _, rfl, a, _, 2, _, rfl, rfl, hT, rfl, _, _, rfl, rfl, ⟨by omega, by omega, by decide⟩, _, _, rfl, rfl, _, rfl, ?_⟩
      rw [shl_one, decide_eq_false (show ¬ ((2 ^ l : Nat) : Int) < (j : Int) by generalize 2 ^ l = N at *; omega)]
      refine ⟨_, rfl, _, rfl, a, _, 3, _, rfl, rfl, hT, rfl, _, _, rfl, rfl, .inl ⟨by omega, by omega⟩, _, _, rfl, rfl, _, rfl, ?_⟩
      rw [decide_eq_false (show ¬ (40 : Int) < (j : Int) * (m : Int) by rw [ejm]; omega)]
      obtain ⟨us, hU, hul, hat⟩ := tabs_at hR
      have hlen := wf.len
      have hn8 := two_pow_le (b := 8) wf.n2
      refine ⟨_, rfl, a, _, 4, _, rfl, rfl, hT, rfl, t, rfl, ⟨_, hU⟩, fun Dl hD => ?_⟩
      refine lc_tup (xs := us) (fun i H' => Same H H' ∧ H' Dl = some (.lst (rowV (cntR j (tabs.take i))))) ?_ ?_ ?_ ?_
      · exact ⟨same_new hD, upd_same⟩
      · rintro i H' _ ⟨s3, _⟩
        exact same_sqt s3 hU
      · rintro i x H' hx ⟨s3, e3⟩
        have hi : i < tabs.length := by
          have := (List.getElem?_eq_some_iff.mp hx).1
          omega
        obtain ⟨r, hr', hR'⟩ := hat i hi
        have ex : x = .ref r := Option.some.inj (hx.symm.trans hr')
        subst ex
        have hrow := wf.row _ (List.getElem_mem hi)
        refine ⟨rfl, ?_⟩
        refine ⟨⟨_, rfl⟩, _, rfl, _, rfl, _, rfl, sl_any (same_sqt s3 hR') fun p2 H2 s4 t4 => ?_⟩
        rw [cut_rows] at t4
        refine ⟨"", p2, _, rfl, rfl, .inr t4, ?_, _, s4 _ _ e3, ?_, fun b o e => ?_, ?_⟩
        · rw [sum_rows (m := m) fun r hr => hrow.2 r (List.mem_of_mem_take hr), List.length_take]
          have a1 : min j (tabs[i]).length * m ≤ 256 * 40 := Nat.mul_le_mul (by omega) hm40
          show _ + _ * 0 ≤ _
          omega
        · rw [rowV_len]
          unfold cntR
          rw [List.length_map, List.length_take]
          exact Nat.lt_of_lt_of_le (show min i tabs.length < 10000 by omega) (by decide)
        · rw [upd_ne (ne_of_none e hD)]
          exact s4 _ _ (s3 b o e)
        · rw [upd_same, join_sbs, List.take_add_one, List.getElem?_eq_getElem hi]
          unfold cntR rowV
          rw [List.map_append, List.map_append]
          rfl
      · rintro H' ⟨s3, e3⟩
        rw [hul, List.take_length] at e3
        refine ⟨Dl, _, rfl, .inl ⟨.inl (.inl e3), fun u nu => ?_⟩⟩
        have s5 := s3.trans (same_new (o := .tup (rowV (cntR j tabs))) nu)
        refine ⟨_, rfl, a, _, 1, _, rfl, rfl, same_sqt s5 hT, rfl, _, rfl, _, rfl, a, _, 3, _, rfl, rfl, same_sqt s5 hT, rfl, _, _, rfl, rfl, .inl ⟨by omega, by omega⟩, _, rfl, (by show 4 ≤ sizeLine; decide), fun g ng => ?_⟩
        have s4 := s5.trans (same_new (o := .tup [.str "generator", .int (n : Int), .int ((j : Int) * (m : Int)), .ref u]) ng)
        refine q _ _ s4 (tab_dp (n := n) (m := j * m) (r := u) (.inl (.inl (by rw [upd_same]; show some (HO.tup [.str "generator", .int (n : Int), .int ((j : Int) * (m : Int)), .ref u]) = _; rw [ejm]))) (.inl (.inl ?_)))
        rw [upd_ne (ne_of_none upd_same ng), upd_same]
        rfl
    · cases ez
      cases ek
      refine ⟨_, rfl, rfl, _, rfl, ?_⟩
      refine ⟨_, rfl, rfl, _, rfl, ?_⟩
      refine ⟨_, rfl, rfl, _, rfl, ?_⟩
      have hn10 := wf.n2
      have hm40 := wf.m2
      obtain ⟨a, r, rfl, hT, hR⟩ := dp_tab hd
      refine ⟨_, rfl, a, _, 0, _, rfl, rfl, hT, at0, rfl, _, rfl, ?_⟩
      rw [decide_eq_true rfl]
      refine ⟨_, rfl, _, _, rfl, rfl, _, rfl, ?_⟩
      rw [decide_eq_false (show ¬ (j : Int) < 1 by omega)]
      refine ⟨_, rfl, _, rfl, a, _, 2, _, rfl, rfl, hT, rfl, _, _, rfl, rfl, _, rfl, ?_⟩
      rw [decide_eq_false (show ¬ (m : Int) < (j : Int) by omega)]
      refine ⟨_, rfl, a, _, 1, _, rfl, rfl, hT, rfl, _, rfl, _, rfl, a, _, 3, _, rfl, rfl, hT, rfl, r, rfl, ⟨_, hR⟩, fun Dl hD => ?_⟩
      refine lc_tup (xs := rowV rows) (fun i H' => Same H H' ∧ H' Dl = some (.lst (rowV ((rows.take i).map fun r => r.take j)))) ?_ ?_ ?_ ?_
      · exact ⟨same_new hD, upd_same⟩
      · rintro i H' _ ⟨s3, _⟩
        exact same_sqt s3 hR
      · rintro i x H' hx ⟨s3, e3⟩
        have hi : i < rows.length := by
          have := (List.getElem?_eq_some_iff.mp hx).1
          unfold rowV at this
          rw [List.length_map] at this
          exact this
        have ex : x = .str (sb rows[i]) := by
          unfold rowV at hx
          rw [List.getElem?_map, List.getElem?_eq_getElem hi] at hx
          exact (Option.some.inj hx).symm
        subst ex
        have hp := two_pow_le (b := 10) hn10
        have hl := wf.len
        have hrl := wf.row _ (List.getElem_mem hi)
        refine ⟨rfl, ?_⟩
        refine ⟨_, rfl, _, rfl, _, rfl, _, rfl, ?_, _, e3, ?_, fun b o e => ?_, ?_⟩
        · rw [sb_len, sizeLine_eq]
          omega
        · unfold rowV
          rw [List.length_map, List.length_map, List.length_take]
          exact Nat.lt_of_lt_of_le (show min i rows.length < 10000 by omega) (by decide)
        · rw [upd_ne (ne_of_none e hD)]
          exact s3 b o e
        · rw [upd_same, List.take_add_one, List.getElem?_eq_getElem hi, cut_pre]
          unfold rowV
          rw [List.map_append, List.map_append]
          rfl
      · rintro H' ⟨s3, e3⟩
        have el : (rowV rows).length = rows.length := by
          unfold rowV
          rw [List.length_map]
        rw [el, List.take_length] at e3
        refine ⟨Dl, _, rfl, .inl ⟨.inl (.inl e3), fun t nt => ⟨(by show 4 ≤ sizeLine; decide), fun g ng => ?_⟩⟩⟩
        have s4 := s3.trans ((same_new nt).trans (same_new (o := .tup [.str "generator", .int (n : Int), .int (j : Int), .ref t]) ng))
        refine q _ _ s4 (tab_dp (n := n) (m := j) (r := t) (.inl (.inl upd_same)) (.inl (.inl ?_)))
        rw [upd_ne (ne_of_none upd_same ng), upd_same]
        rfl

end
/-! ### the law's blocks and schemes -/
def BlOn (K : PySem.W.Frag) (a : Addr) (H : Hp) (v : V) (b : Blk) : Prop := Dp K (off a H) v b.D ∧ b.Ok
theorem BlOn.keep {K : PySem.W.Frag} {a : Addr} {H H' : Hp} {v : V} {b : Blk} (h : BlOn K a H v b) (k : Keep a H H') : BlOn K a H' v b := ⟨dp_same k.off _ h.1, h.2⟩
def nK : Blk → Nat
  | .gen n _ _ => n
  | .fn n _ _ _ => n
def spLBlock (K : PySem.W.Frag) : Sp := fun vs H Q _ => ∃ a d : Addr, vs = [.ref a] ∧ Hnd H a d ∧ ∀ v b H', BlOn K a H' v b → nK b ≤ 2 → Hnd H' a d → Keep a H H' → Q v H'
def spLStep (K : PySem.W.Frag) : Sp := fun vs H Q _ => ∃ (a d : Addr) (v : V) (b : Blk), vs = [.ref a, v] ∧ Hnd H a d ∧ BlOn K a H v b ∧ nK b ≤ 2 ∧ ∀ p (z : Str) (k : Int) b' H', lay1 (.str z, .int k) b = some b' → SqT K H' p [.str z, .int k] → Hnd H' a d → Keep a H H' → Q (.ref p) H'
theorem can_long {n k : Nat} {rows : List (List Bool)} (h1 : 1 ≤ k) (h2 : k ≤ 20) : lay1 (.str "longer", .int (k : Int)) (.gen n (n + 1) rows) = some (.gen n (n + k) (longR n rows k)) := by
  have hw : whole (.int (k : Int)) 1 20 = true := by
    show (decide _ && decide _) = true
    rw [decide_eq_true (by omega), decide_eq_true (by omega)]
    rfl
  unfold lay1
  rw [if_pos (by rw [named_str]; decide)]
  show (if _ then _ else _) = _
  rw [if_pos ⟨rfl, hw⟩]
  rfl
theorem can_tree {n k : Nat} {rows : List (List Bool)} (h1 : 1 ≤ k) (h2 : k ≤ 8) (n8 : n ≤ 8) (h3 : n + k ≤ 12) : lay1 (.str "tree", .int (k : Int)) (.gen n (2 * n) rows) = some (.fn n k n (treeT n k rows)) := by
  have hw : whole (.int (k : Int)) 1 8 = true := by
    show (decide _ && decide _) = true
    rw [decide_eq_true (by omega), decide_eq_true (by omega)]
    rfl
  unfold lay1
  rw [if_neg (by rw [named_str]; decide), if_pos (by rw [named_str]; decide)]
  show (if _ then _ else _) = _
  rw [if_pos ⟨rfl, n8, hw, h3⟩]
  rfl
theorem can_cnt {n l m k : Nat} {tabs : List (List (List Bool))} (h1 : 1 ≤ k) (h2 : k ≤ 2 ^ l) (h3 : k * m ≤ 40) : lay1 (.str "counter", .int (k : Int)) (.fn n l m tabs) = some (.gen n (k * m) (cntR k tabs)) := by
  have hw : whole (.int (k : Int)) 1 ((2 ^ l : Nat) : Int) = true := by
    show (decide _ && decide _) = true
    rw [decide_eq_true (by omega), decide_eq_true (by exact Int.ofNat_le.mpr h2)]
    rfl
  unfold lay1
  rw [if_neg (by rw [named_str]; decide), if_neg (by rw [named_str]; decide), if_pos (by rw [named_str]; decide)]
  show (if _ then _ else _) = _
  rw [if_pos ⟨hw, h3⟩]
  rfl
theorem can_cut {n m k : Nat} {rows : List (List Bool)} (h1 : 1 ≤ k) (h2 : k ≤ m) : lay1 (.str "cut", .int (k : Int)) (.gen n m rows) = some (.gen n k (rows.map fun r => r.take k)) := by
  have hw : whole (.int (k : Int)) 1 (m : Int) = true := by
    show (decide _ && decide _) = true
    rw [decide_eq_true (by omega), decide_eq_true (by omega)]
    rfl
  unfold lay1
  rw [if_neg (by rw [named_str]; decide), if_neg (by rw [named_str]; decide), if_neg (by rw [named_str]; decide), if_pos (by rw [named_str]; decide)]
  show (if _ then _ else _) = _
  rw [if_pos hw]
  rfl
theorem lay_nK {p : PyData × PyData} {b b' : Blk} (h : b.Ok) (e : lay1 p b = some b') : nK b' = nK b := by
  rcases lay_some (X := p.1) (Y := p.2) h e with ⟨_, n, j, rows, rfl, _, _, _, _, rfl⟩ | ⟨_, n, j, rows, rfl, _, _, _, _, _, _, rfl⟩ | ⟨_, n, l, m, j, tabs, rfl, _, _, _, _, _, rfl⟩ | ⟨_, n, m, j, rows, rfl, _, _, _, _, rfl⟩ <;> rfl
theorem most_is {l m : Nat} (m1 : 1 ≤ m) (m2 : m ≤ 40) : ∃ most : Nat, (if (40 : Int) / (m : Int) < ((2 ^ l : Nat) : Int) then (40 : Int) / (m : Int) else ((2 ^ l : Nat) : Int)) = (most : Int) ∧ 1 ≤ most ∧ most ≤ 2 ^ l ∧ most * m ≤ 40 := by
  have e : (40 : Int) / (m : Int) = ((40 / m : Nat) : Int) := rfl
  have h1 : 1 ≤ 40 / m := Nat.div_pos m2 m1
  have h2 : 40 / m * m ≤ 40 := Nat.div_mul_le_self 40 m
  have h3 : 1 ≤ 2 ^ l := Nat.pos_of_ne_zero (by simp)
  rw [e]
  by_cases c : ((40 / m : Nat) : Int) < ((2 ^ l : Nat) : Int)
  · rw [if_pos c]
    exact ⟨_, rfl, h1, by have := Int.ofNat_lt.mp c; omega, h2⟩
  · rw [if_neg c]
    exact ⟨_, rfl, h3, Nat.le_refl _, Nat.le_trans (Nat.mul_le_mul_right m (Nat.le_of_not_lt fun z => c (Int.ofNat_lt.mpr z))) h2⟩

section
variable {P : Program} {w : World} {K : PySem.W.Frag} {mg : Str → Option Value} {base : Heap} {cs : Cs}
theorem ok_lblock {f : Addr} {fd : FuncData} (D : Df K mg "_law_block" s_law_block ["hand"] f fd) (T : Txt K w mg cs) (c_law_take : Cl P w K mg base CX0 1 "_law_take" spTake) (c_law_table : Cl P w K mg base CX0 3 "_law_table" (spTable K)) (c_law_function : Cl P w K mg base CX0 3 "_law_function" (spFunction K)) : FnOk P w K mg base CX0 4 f fd ["hand"] (spLBlock K) := by
  refine D.fn.ok sc_law_block (fun vs H Q E h => ?_) (fun cdv A outer s H vs Q E hr h => ?_)
  · obtain ⟨a, d, rfl, _⟩ := h
    rfl
  · obtain ⟨a, d, rfl, hh, q⟩ := h
    refine ⟨_, (pss_cons (ps_set (i := 1) sc_law_block.nd rfl (.inl rfl) (pe_cl c_law_take hr (by first | decide | omega) (by rfl) (pa_cons (pv 0) (pa_cons pe_int pa_nil)))) (pss_cons (ps_set (i := 2) sc_law_block.nd rfl (.inl rfl) (pe_op op_add pe_int (pe_cl c_law_take hr (by first | decide | omega) (by rfl) (pa_cons (pv 0) (pa_cons pe_int pa_nil))))) (pss_cons (ps_if (pt_cmpR op_eq (pv 1) pe_int (nomark _)) (pss_one (ps_ret (pe_cl c_law_table hr (by first | decide | omega) (by rfl) (pa_cons (pv 0) (pa_cons (pv 2) (pa_cons (pe_op op_add (pv 2) pe_int) pa_nil)))))) pss_nil) (pss_cons (ps_if (pt_cmpR op_eq (pv 1) pe_int (nomark _)) (pss_one (ps_ret (pe_cl c_law_table hr (by first | decide | omega) (by rfl) (pa_cons (pv 0) (pa_cons (pv 2) (pa_cons (pe_op op_mul pe_int (pv 2)) pa_nil)))))) pss_nil) (pss_cons (ps_if (pt_cmpR op_eq (pv 1) pe_int (nomark _)) (pss_one (ps_ret (pe_cl c_law_table hr (by first | decide | omega) (by rfl) (pa_cons (pv 0) (pa_cons (pv 2) (pa_cons (pe_op op_add pe_int (pe_cl c_law_take hr (by first | decide | omega) (by rfl) (pa_cons (pv 0) (pa_cons pe_int pa_nil)))) pa_nil)))))) pss_nil) (pss_one (ps_ret (pe_cl c_law_function hr (by first | decide | omega) (by rfl) (pa_cons (pv 0) (pa_cons (pv 2) (pa_cons (pe_op op_add pe_int (pe_cl c_law_take hr (by first | decide | omega) (by rfl) (pa_cons (pv 0) (pa_cons pe_int pa_nil)))) (pa_cons (pe_op op_add pe_int (pe_cl c_law_take hr (by first | decide | omega) (by rfl) (pa_cons (pv 0) (pa_cons pe_int pa_nil)))) pa_nil)))))))))))), ?_⟩
    refine ⟨_, rfl, a, d, 5, rfl, by decide, hh, fun r1 H1 l1 u1 n1 k1 => ?_⟩
    refine ⟨_, rfl, a, d, 2, rfl, by decide, n1, fun r2 H2 l2 u2 n2 k2 => ⟨_, _, rfl, rfl, ?_⟩⟩
    obtain ⟨n, en, hn1, hn2⟩ : ∃ n : Nat, (1 : Int) + r2 = (n : Int) ∧ 1 ≤ n ∧ n ≤ 2 := ⟨(1 + r2).toNat, by omega, by omega, by omega⟩
    show gName 2 (V.int (1 + r2)) _ _ _
    rw [en]
    have k12 := k1.trans k2
    have gen : ∀ (m : Nat) v rows H', 1 ≤ m → m ≤ 5 → rows.length = 2 ^ n → (∀ r ∈ rows, r.length = m) → Dp K (off a H') v (tabD n m rows) → Hnd H' a d → Keep a H H' → Q v H' := fun m v rows H' m1 m2 h1 h2 hd hh k => q v (.gen n m rows) H' ⟨hd, ⟨hn1, by omega, m1, by omega, h1, h2⟩⟩ hn2 hh k
    refine ⟨_, rfl, rfl, _, rfl, ?_⟩
    by_cases c0 : r1 = 0
    · rw [decide_eq_true (congrArg V.int c0)]
      refine ⟨_, rfl, _, rfl, _, rfl, _, _, rfl, rfl, a, d, n, n + 1, rfl, by omega, by omega, n2, fun v rows H3 h1 h2 hd n3 k3 => gen (n + 1) v rows H3 (by omega) (by omega) h1 h2 hd n3 (k12.trans k3)⟩
    rw [decide_eq_false (fun z => c0 (V.int.inj z))]
    refine ⟨_, rfl, rfl, _, rfl, ?_⟩
    by_cases c1 : r1 = 1
    · rw [decide_eq_true (congrArg V.int c1)]
      refine ⟨_, rfl, _, rfl, _, rfl, _, _, rfl, rfl, .inl ⟨by decide, by decide⟩, a, d, n, 2 * n, ?_, by omega, by omega, n2, fun v rows H3 h1 h2 hd n3 k3 => gen (2 * n) v rows H3 (by omega) (by omega) h1 h2 hd n3 (k12.trans k3)⟩
      rw [show ((2 * n : Nat) : Int) = 2 * (n : Int) from Int.natCast_mul 2 n]
      rfl
    rw [decide_eq_false (fun z => c1 (V.int.inj z))]
    refine ⟨_, rfl, rfl, _, rfl, ?_⟩
    by_cases c2 : r1 = 2
    · rw [decide_eq_true (congrArg V.int c2)]
      refine ⟨_, rfl, _, rfl, _, rfl, a, d, 4, rfl, by decide, n2, fun r3 H3 l3 u3 n3 k3 => ⟨_, _, rfl, rfl, ?_⟩⟩
      obtain ⟨m, em, m1, m2⟩ : ∃ m : Nat, (1 : Int) + r3 = (m : Int) ∧ 1 ≤ m ∧ m ≤ 4 := ⟨(1 + r3).toNat, by omega, by omega, by omega⟩
      refine ⟨a, d, n, m, ?_, by omega, by omega, n3, fun v rows H4 h1 h2 hd n4 k4 => gen m v rows H4 (by omega) (by omega) h1 h2 hd n4 ((k12.trans k3).trans k4)⟩
      show [V.ref a, V.int (n : Int), V.int (1 + r3)] = _
      rw [em]
    rw [decide_eq_false (fun z => c2 (V.int.inj z))]
    refine ⟨_, rfl, _, rfl, _, rfl, a, d, 2, rfl, by decide, n2, fun r3 H3 l3 u3 n3 k3 => ⟨_, _, rfl, rfl, _, rfl, a, d, 3, rfl, by decide, n3, fun r4 H4 l4 u4 n4 k4 => ⟨_, _, rfl, rfl, ?_⟩⟩⟩
    obtain ⟨l, el, g1, g2⟩ : ∃ m : Nat, (1 : Int) + r3 = (m : Int) ∧ 1 ≤ m ∧ m ≤ 2 := ⟨(1 + r3).toNat, by omega, by omega, by omega⟩
    obtain ⟨m, em, m1, m2⟩ : ∃ m : Nat, (1 : Int) + r4 = (m : Int) ∧ 1 ≤ m ∧ m ≤ 3 := ⟨(1 + r4).toNat, by omega, by omega, by omega⟩
    refine ⟨a, d, n, l, m, ?_, by omega, by omega, by omega, n4, fun v tabs H5 h1 h2 hd n5 k5 => q v (.fn n l m tabs) H5 ⟨hd, ⟨hn1, by omega, g1, by omega, by omega, m1, by omega, h1, h2⟩⟩ hn2 n5 (((k12.trans k3).trans k4).trans k5)⟩
    show [V.ref a, V.int (n : Int), V.int (1 + r3), V.int (1 + r4)] = _
    rw [el, em]
theorem ok_lstep {f : Addr} {fd : FuncData} (D : Df K mg "_law_step" s_law_step ["hand", "table"] f fd) (T : Txt K w mg cs) (c_law_take : Cl P w K mg base CX0 1 "_law_take" spTake) : FnOk P w K mg base CX0 2 f fd ["hand", "table"] (spLStep K) := by
  refine D.fn.ok sc_law_step (fun vs H Q E h => ?_) (fun cdv A outer s H vs Q E hr h => ?_)
  · obtain ⟨a, d, v, b, rfl, _⟩ := h
    rfl
  · obtain ⟨a, d, v, b, rfl, hh, ⟨hb, ok⟩, n2, q⟩ := h
    refine ⟨_, (pss_cons (ps_if (pt_cmpR op_eq (pe_ix (ixT K) (pv 1) pe_int (fun _ _ => rfl)) pe_str (nomark _)) (pss_cons (ps_set (i := 2) sc_law_step.nd rfl (.inl rfl) (pe_callB (call_min2 rfl) (by rfl) T.n_min (by decide +kernel) (pa_cons (pe_op op_shl pe_int (pe_ix (ixT K) (pv 1) pe_int (fun _ _ => rfl))) (pa_cons (pe_op op_fdiv pe_int (pe_ix (ixT K) (pv 1) pe_int (fun _ _ => rfl))) pa_nil)))) (pss_cons (ps_if (PW.pt (pw_and (pt_cmpR op_gt (pe_cl c_law_take hr (by first | decide | omega) (by rfl) (pa_cons (pv 0) (pa_cons pe_int pa_nil))) pe_int (nomark _)) (pw_and1 (pt_cmpR op_gt (pv 2) pe_int (nomark _))))) (pss_one (ps_ret (pe_tup (pa_cons pe_str (pa_cons pe_int pa_nil))))) pss_nil) (pss_one (ps_ret (pe_tup (pa_cons pe_str (pa_cons (pe_op op_add pe_int (pe_cl c_law_take hr (by first | decide | omega) (by rfl) (pa_cons (pv 0) (pa_cons (pv 2) pa_nil)))) pa_nil))))))) pss_nil) (pss_cons (ps_set (i := 3) sc_law_step.nd rfl (.inl rfl) (pe_cl c_law_take hr (by first | decide | omega) (by rfl) (pa_cons (pv 0) (pa_cons pe_int pa_nil)))) (pss_cons (ps_if (PW.pt (pw_and (pt_cmpR op_eq (pe_ix (ixT K) (pv 1) pe_int (fun _ _ => rfl)) (pe_op op_add (pe_ix (ixT K) (pv 1) pe_int (fun _ _ => rfl)) pe_int) (nomark _)) (pw_and1 (pt_cmpR op_lt (pv 3) pe_int (nomark _))))) (pss_one (ps_ret (pe_tup (pa_cons pe_str (pa_cons (pe_ix (ixL K) (pe_lst (pa_cons (pe_ix (ixT K) (pv 1) pe_int (fun _ _ => rfl)) (pa_cons (pe_op op_add pe_int (pe_cl c_law_take hr (by first | decide | omega) (by rfl) (pa_cons (pv 0) (pa_cons pe_int pa_nil)))) pa_nil))) (pe_cl c_law_take hr (by first | decide | omega) (by rfl) (pa_cons (pv 0) (pa_cons pe_int pa_nil))) (fun _ _ => rfl)) pa_nil))))) pss_nil) (pss_cons (ps_if (PW.pt (pw_and (pt_cmpR op_eq (pe_ix (ixT K) (pv 1) pe_int (fun _ _ => rfl)) (pe_op op_mul pe_int (pe_ix (ixT K) (pv 1) pe_int (fun _ _ => rfl))) (nomark _)) (pw_and1 (pt_cmpR op_lt (pv 3) pe_int (nomark _))))) (pss_one (ps_ret (pe_tup (pa_cons pe_str (pa_cons (pe_op op_add pe_int (pe_cl c_law_take hr (by first | decide | omega) (by rfl) (pa_cons (pv 0) (pa_cons pe_int pa_nil)))) pa_nil))))) pss_nil) (pss_one (ps_ret (pe_tup (pa_cons pe_str (pa_cons (pe_op op_add pe_int (pe_cl c_law_take hr (by first | decide | omega) (by rfl) (pa_cons (pv 0) (pa_cons (pe_ix (ixT K) (pv 1) pe_int (fun _ _ => rfl)) pa_nil)))) pa_nil))))))))), ?_⟩
    have put : ∀ (z : Str) (ki : Int) (k : Nat) b' (H1 : Hp) p, ki = (k : Int) → lay1 (.str z, .int (k : Int)) b = some b' → Hnd H1 a d → Keep a H H1 → H1 p = none → Q (.ref p) (upd H1 p (.tup [.str z, .int ki])) := by
      rintro z _ k b' H1 p rfl e n1 k1 np
      exact q p z _ b' _ e (.inl (.inl upd_same)) (n1.new np) (k1.trans (Keep.new np))
    cases b with
    | fn n l m tabs =>
      have wf : Wff n l m tabs := ok
      have hl8 := wf.l2
      have hm40 := wf.m2
      have hm1 := wf.m1
      have hp := two_pow_le (b := 8) hl8
      have hp1 : 1 ≤ 2 ^ l := Nat.pos_of_ne_zero (by simp)
      obtain ⟨c, t, rfl, hT, hR⟩ := dp_fun hb
      have hT := sqt_on hT
      refine ⟨_, rfl, c, _, 0, _, rfl, rfl, hT, at0, rfl, _, rfl, ?_⟩
      rw [decide_eq_true rfl]
      obtain ⟨most, em, h1, h2, h3⟩ := most_is (l := l) hm1 hm40
      refine ⟨_, rfl, c, _, 2, _, rfl, rfl, hT, rfl, _, _, rfl, rfl, ⟨by omega, by omega, by decide⟩, _, rfl, c, _, 3, _, rfl, rfl, hT, rfl, _, _, rfl, rfl, ?_, _, _, rfl, ?_⟩
      · exact ⟨by omega, by omega⟩
      rw [shl_one]
      show gName 2 (V.int (if (40 : Int) / (m : Int) < ((2 ^ l : Nat) : Int) then (40 : Int) / (m : Int) else ((2 ^ l : Nat) : Int))) _ _ _
      rw [em]
      refine ⟨_, rfl, a, d, 3, rfl, by decide, hh, fun r1 H1 l1 u1 n1 k1 => ⟨_, _, rfl, rfl, _, rfl, ?_⟩⟩
      have rest : ∀ D : Ends, D.rt = Q → tRet (tTup (tCons (tC (V.str "counter")) (tCons (tOp (rI0 fun i j => V.int (i + j)) (tC (V.int 1)) (tCall spTake [] E0 (tCons (tVar 0) (tCons (tVar 2) tNil)))) tNil))) D [some (.ref a), some (.ref c), some (.int (most : Int)), none] H1 := by
        rintro D rfl
        refine ⟨_, rfl, _, rfl, a, d, (most : Int), rfl, by omega, n1, fun r2 H2 l2 u2 n2' k2 => ⟨_, _, rfl, rfl, (by show 2 ≤ sizeLine; decide), fun p np => ?_⟩⟩
        obtain ⟨k, ek, k1', k2'⟩ : ∃ k : Nat, (1 : Int) + r2 = (k : Int) ∧ 1 ≤ k ∧ k ≤ most := ⟨(1 + r2).toNat, by omega, by omega, by omega⟩
        exact put "counter" (1 + r2) k _ H2 p ek (can_cnt k1' (by omega) (Nat.le_trans (Nat.mul_le_mul_right m k2') h3)) n2' (k1.trans k2) np
      by_cases c1 : (0 : Int) < r1
      · rw [decide_eq_true c1]
        refine ⟨_, rfl, _, _, rfl, rfl, _, rfl, ?_⟩
        by_cases c2 : (1 : Int) < (most : Int)
        · rw [decide_eq_true c2]
          exact ⟨(by show 2 ≤ sizeLine; decide), fun p np => put "counter" 2 2 _ H1 p rfl (can_cnt (by decide) (by omega) (Nat.le_trans (Nat.mul_le_mul_right m (show 2 ≤ most by omega)) h3)) n1 k1 np⟩
        · rw [decide_eq_false c2]
          exact rest _ rfl
      · rw [decide_eq_false c1]
        exact rest _ rfl
    | gen n m rows =>
      have wf : Wf n m rows := ok
      have hn1 := wf.n1
      have hm1 := wf.m1
      have hm40 := wf.m2
      have n2 : n ≤ 2 := n2
      obtain ⟨c, t, rfl, hT, hR⟩ := dp_tab hb
      have hT := sqt_on hT
      have hTk : ∀ {H1 : Hp}, Keep a H H1 → SqT K H1 c [.str "generator", .int (n : Int), .int (m : Int), .ref t] := fun k => sqt_on (same_sqt k.off (sqt_off hh hT))
      refine ⟨_, rfl, c, _, 0, _, rfl, rfl, hT, at0, rfl, _, rfl, ?_⟩
      refine ⟨_, rfl, a, d, 4, rfl, by decide, hh, fun r1 H1 l1 u1 n1 k1 => ?_⟩
      have hT1 := hTk k1
      let σ1 : L2.St := [some (.ref a), some (.ref c), none, some (.int r1)]
      have cutL : ∀ D : Ends, D.rt = Q → tRet (tTup (tCons (tC (V.str "cut")) (tCons (tOp (rI0 fun i j => V.int (i + j)) (tC (V.int 1)) (tCall spTake [] E0 (tCons (tVar 0) (tCons (tOp (rIxT K) (tVar 1) (tC (V.int 2))) tNil)))) tNil))) D σ1 H1 := by
        rintro D rfl
        refine ⟨_, rfl, _, rfl, c, _, 2, _, rfl, rfl, hT1, rfl, a, d, (m : Int), rfl, by omega, n1, fun r2 H2 l2 u2 n2' k2 => ⟨_, _, rfl, rfl, (by show 2 ≤ sizeLine; decide), fun p np => ?_⟩⟩
        exact put "cut" (1 + r2) (1 + r2).toNat _ H2 p (by omega) (can_cut (by omega) (by omega)) n2' (k1.trans k2) np
      have treeL : ∀ D : Ends, D.rt = Q → tSeq (tIfS (tAnd (tTest (tOp rEq (tOp (rIxT K) (tVar 1) (tC (V.int 2))) (tOp (rI CMul fun i j => V.int (i * j)) (tC (V.int 2)) (tOp (rIxT K) (tVar 1) (tC (V.int 1)))))) (tTest (tOp (rI0 fun i j => V.bl (decide (i < j))) (tVar 3) (tC (V.int 3)))))
          (tRet (tTup (tCons (tC (V.str "tree")) (tCons (tOp (rI0 fun i j => V.int (i + j)) (tC (V.int 1)) (tCall spTake [] E0 (tCons (tVar 0) (tCons (tC (V.int 3)) tNil)))) tNil)))) tNext)
          (tRet (tTup (tCons (tC (V.str "cut")) (tCons (tOp (rI0 fun i j => V.int (i + j)) (tC (V.int 1)) (tCall spTake [] E0 (tCons (tVar 0) (tCons (tOp (rIxT K) (tVar 1) (tC (V.int 2))) tNil)))) tNil)))) D σ1 H1 := by
        intro D hD
        refine ⟨_, rfl, c, _, 2, _, rfl, rfl, hT1, rfl, _, rfl, c, _, 1, _, rfl, rfl, hT1, rfl, _, _, rfl, rfl, .inl ⟨by decide, by decide⟩, rfl, _, rfl, ?_⟩
        by_cases c1 : m = 2 * n
        · subst c1
          rw [decide_eq_true (show V.int ((2 * n : Nat) : Int) = V.int (2 * (n : Int)) from congrArg V.int (by omega))]
          refine ⟨_, rfl, _, _, rfl, rfl, _, rfl, ?_⟩
          by_cases c2 : r1 < 3
          · rw [decide_eq_true c2]
            subst hD
            refine ⟨_, rfl, a, d, 3, rfl, by decide, n1, fun r2 H2 l2 u2 n2' k2 => ⟨_, _, rfl, rfl, (by show 2 ≤ sizeLine; decide), fun p np => ?_⟩⟩
            exact put "tree" (1 + r2) (1 + r2).toNat _ H2 p (by omega) (can_tree (by omega) (by omega) (by omega) (by omega)) n2' (k1.trans k2) np
          · rw [decide_eq_false c2]
            exact cutL _ hD
        · rw [decide_eq_false (show ¬ V.int (m : Int) = V.int (2 * (n : Int)) from fun z => c1 (by have := V.int.inj z; omega))]
          exact cutL _ hD
      refine ⟨_, rfl, c, _, 2, _, rfl, rfl, hT1, rfl, _, rfl, c, _, 1, _, rfl, rfl, hT1, rfl, _, _, rfl, rfl, rfl, _, rfl, ?_⟩
      by_cases c1 : m = n + 1
      · subst c1
        rw [decide_eq_true (show V.int ((n + 1 : Nat) : Int) = V.int ((n : Int) + 1) from congrArg V.int (by omega))]
        refine ⟨_, rfl, _, _, rfl, rfl, _, rfl, ?_⟩
        by_cases c2 : r1 < 2
        · rw [decide_eq_true c2]
          refine ⟨_, rfl, c, _, 1, _, rfl, rfl, hT1, rfl, _, rfl, a, d, 4, rfl, by decide, n1, fun r2 H2 l2 u2 n2' k2 => ⟨_, _, rfl, rfl, (by show 2 ≤ sizeLine; decide), fun L nL => ?_⟩⟩
          refine ⟨_, rfl, a, d, 2, rfl, by decide, n2'.new nL, fun r3 H3 l3 u3 n3' k3 => ?_⟩
          have La := (n2'.ne nL).1
          have eL := k3 _ _ upd_same La
          have k13 := (k1.trans k2).trans ((Keep.new nL).trans k3)
          have er : r3 = 0 ∨ r3 = 1 := by omega
          rcases er with e | e <;> subst e
          · refine ⟨L, _, 0, _, rfl, rfl, .inl (.inl eL), rfl, (by show 2 ≤ sizeLine; decide), fun p np => ?_⟩
            exact put "longer" n n _ H3 p rfl (can_long (by omega) (by omega)) n3' k13 np
          · refine ⟨L, _, 1, _, rfl, rfl, .inl (.inl eL), rfl, (by show 2 ≤ sizeLine; decide), fun p np => ?_⟩
            exact put "longer" (1 + r2) (1 + r2).toNat _ H3 p (by omega) (can_long (by omega) (by omega)) n3' k13 np
        · rw [decide_eq_false c2]
          exact treeL _ rfl
      · rw [decide_eq_false (show ¬ V.int (m : Int) = V.int ((n : Int) + 1) from fun z => c1 (by have := V.int.inj z; omega))]
        exact treeL _ rfl

end
def LayN (z : Str) : Prop := z = "longer" ∨ z = "tree" ∨ z = "counter" ∨ z = "cut"
theorem LayN.okT {z : Str} (h : LayN z) : okT z := by
  rcases h with e | e | e | e <;> subst e <;> exact ⟨by decide +kernel, by decide +kernel⟩
inductive Sch : PyData → List (PyData × PyData) → Prop where
  | nil : Sch blkS []
  | cons {z : Str} {k : Int} {D : PyData} {ls : List (PyData × PyData)} (hz : LayN z) (h : Sch D ls) : Sch (.tuple [.str z, .int k, D]) (ls ++ [(.str z, .int k)])
theorem eqv_three (x y z : PyData) : PyData.eqv (.tuple [x, y, z]) blkS = false := by
  unfold blkS
  simp only [PyData.eqv, PyData.eqvAll, Bool.and_false]
theorem eqv_blk : PyData.eqv blkS blkS = true := by decide +kernel
theorem sch_lays {D : PyData} {ls : List (PyData × PyData)} (h : Sch D ls) : ∀ f, ls.length ≤ f → laysD f D = some ls := by
  induction h with
  | nil => exact fun f _ => lays_end eqv_blk
  | @cons z k D ls hz h ih =>
    intro f hf
    rw [List.length_append] at hf
    have hf : ls.length + 1 ≤ f := hf
    obtain ⟨g, rfl⟩ : ∃ g, f = g + 1 := ⟨f - 1, by omega⟩
    rw [lays_step (eqv_three _ _ _), ih g (by omega)]
    rfl
theorem sch_pl {D : PyData} {ls : List (PyData × PyData)} (h : Sch D ls) : Pl (ls.length + 1) D := by
  induction h with
  | nil =>
    refine ⟨(by show 1 ≤ 5000; decide), fun x hx => ?_⟩
    rw [List.mem_singleton.mp hx]
    exact pl_str.mpr ⟨by decide +kernel, by decide +kernel⟩
  | @cons z k D ls hz h ih =>
    rw [List.length_append]
    refine ⟨(by show 3 ≤ 5000; decide), fun x hx => ?_⟩
    rcases List.mem_cons.mp hx with e | hx
    · rw [e]
      exact pl_str.mpr hz.okT
    rcases List.mem_cons.mp hx with e | hx
    · rw [e]
      exact pl_int
    · rw [List.mem_singleton.mp hx]
      exact ih
theorem sch_gd {D : PyData} {ls : List (PyData × PyData)} (h : Sch D ls) : Gd (ls.length + 1) D := pl_gd (sch_pl h)
theorem built_snoc (q : PyData × PyData) : ∀ (ls : List (PyData × PyData)) (b : Blk), builtL (ls ++ [q]) b = (builtL ls b).bind (lay1 q)
  | [], b => by
    show (lay1 q b).bind (fun c => some c) = lay1 q b
    cases lay1 q b <;> rfl
  | p :: ls, b => by
    show (lay1 p b).bind (builtL (ls ++ [q])) = ((lay1 p b).bind (builtL ls)).bind (lay1 q)
    cases lay1 p b with
    | none => rfl
    | some c => exact built_snoc q ls c
theorem lay_name {z : Str} {Y : PyData} {b b' : Blk} (h : b.Ok) (e : lay1 (.str z, Y) b = some b') : LayN z := by
  rcases lay_some h e with ⟨ez, _⟩ | ⟨ez, _⟩ | ⟨ez, _⟩ | ⟨ez, _⟩ <;> cases ez
  · exact .inl rfl
  · exact .inr (.inl rfl)
  · exact .inr (.inr (.inl rfl))
  · exact .inr (.inr (.inr rfl))
theorem dp_setOff {K : PySem.W.Frag} {a L : Addr} {H : Hp} {ys : List V} {o : HO} {n : Nat} {v : V} {D : PyData} (e : H L = some (.lst ys)) (La : L ≠ a) (hp : Pl n D) (h : Dp K (off a H) v D) : Dp K (off a (upd H L o)) v D := by
  have h1 := dp_offL (L := L) (ys := ys) (by rw [off_ne La]; exact e) D hp h
  rw [← off_upd (o := o)] at h1
  exact dp_same (off_same L _) _ h1
def spLScheme (K : PySem.W.Frag) : Sp := fun vs H Q _ => ∃ (a d : Addr) (v : V) (b : Blk) (many : Nat), vs = [.ref a, v, .int (many : Int)] ∧ many ≤ 4 ∧ Hnd H a d ∧ BlOn K a H v b ∧ nK b ≤ 2 ∧
  ∀ p sv tv lv D ls t H', Sch D ls → ls.length ≤ 4 → builtL ls b = some t → Dp K (off a H') sv D → BlOn K a H' tv t → SqT K H' p [sv, tv, lv] → Hnd H' a d → Keep a H H' → Q (.ref p) H'
theorem new_dp {K : PySem.W.Frag} {a p : Addr} {H : Hp} {vs : List V} {ds : List PyData} (pa : p ≠ a) (e : H p = some (.tup vs)) (h : DpAll K (off a H) vs ds) : Dp K (off a H) (.ref p) (.tuple ds) := .tup (.inl (.inl (by rw [off_ne pa]; exact e))) h
theorem dp_offH {K : PySem.W.Frag} {a d : Addr} {H : Hp} {n : Nat} {v : V} {D : PyData} (hh : Hnd H a d) (hp : Pl n D) (h : Dp K H v D) : Dp K (off a H) v D := by
  obtain ⟨_, _, e, _⟩ := hh
  exact dp_offL e D hp h

section
variable {P : Program} {w : World} {K : PySem.W.Frag} {mg : Str → Option Value} {base : Heap} {cs : Cs}
theorem ok_lscheme {f : Addr} {fd : FuncData} (D : Df K mg "_law_scheme" s_law_scheme ["hand", "block", "many"] f fd) (T : Txt K w mg cs) (c_law_step : Cl P w K mg base CX0 2 "_law_step" (spLStep K)) (c_law_layer : Cl P w K mg base CX0 3 "_law_layer" (spLayer K)) : FnOk P w K mg base CX0 4 f fd ["hand", "block", "many"] (spLScheme K) := by
  refine D.fn.ok sc_law_scheme (fun vs H Q E h => ?_) (fun cdv A outer s H vs Q E hr h => ?_)
  · obtain ⟨a, d, v, b, many, rfl, _⟩ := h
    rfl
  · obtain ⟨a, d, v, b, many, rfl, hm, hh, hb, n2, q⟩ := h
    refine ⟨_, (pss_cons (ps_set (i := 3) sc_law_scheme.nd rfl (.inl rfl) (pe_tup (pa_cons pe_str pa_nil))) (pss_cons (ps_set (i := 4) sc_law_scheme.nd rfl (.inl rfl) (pv 1)) (pss_cons (ps_set (i := 5) sc_law_scheme.nd rfl (.inl rfl) (pe_lst pa_nil)) (pss_cons (ps_for PassesOwn.never rfl (pi_range1 (by rfl) T.n_range (pa_cons (pv 2) pa_nil)) (pg_name (i := 6) sc_law_scheme.nd rfl (.inl rfl)) (pss_cons (ps_asg (pe_cl c_law_step hr (by first | decide | omega) (by rfl) (pa_cons (pv 0) (pa_cons (pv 4) pa_nil))) (pg_tup (by rfl) (pgs_cons (pg_name (i := 7) sc_law_scheme.nd rfl (.inl rfl)) (pgs_cons (pg_name (i := 8) sc_law_scheme.nd rfl (.inl rfl)) pgs_nil)))) (pss_cons (ps_expr (pe_bm PySem.F.plainAttrs_list PySem.F.slot_list_append PySem.F.type_list_append mt_append (pv 5) (pa_cons (pe_tup (pa_cons (pv 7) (pa_cons (pv 8) (pa_cons (pv 4) pa_nil)))) pa_nil))) (pss_cons (ps_set (i := 3) sc_law_scheme.nd rfl (.inl rfl) (pe_tup (pa_cons (pv 7) (pa_cons (pv 8) (pa_cons (pv 3) pa_nil))))) (pss_one (ps_set (i := 4) sc_law_scheme.nd rfl (.inl rfl) (pe_cl c_law_layer hr (by first | decide | omega) (by rfl) (pa_cons (pv 7) (pa_cons (pv 8) (pa_cons (pv 4) pa_nil)))))))))) (pss_one (ps_ret (pe_tup (pa_cons (pv 3) (pa_cons (pv 4) (pa_cons (pv 5) pa_nil)))))))))), ?_⟩
    refine ⟨(by show 1 ≤ sizeLine; decide), fun p1 np1 => ?_⟩
    have n1 := hh.new (o := .tup [.str "block"]) np1
    have k1 := Keep.new (a := a) (o := .tup [.str "block"]) np1
    have d1 : Dp K (off a (upd H p1 (.tup [.str "block"]))) (.ref p1) blkS := new_dp (hh.ne np1).1 upd_same (.cons (.str _) .nil)
    show gName 3 (V.ref p1) _ (upd H p1 (.tup [.str "block"])) _
    generalize upd H p1 (.tup [.str "block"]) = H1 at *
    refine ⟨_, rfl, Nat.zero_le _, fun L nL => ?_⟩
    have nLH : H L = none := k1.free nL (n1.ne nL).1
    obtain ⟨La, Ld⟩ := n1.ne nL
    refine ⟨_, rfl, _, rfl, by omega, by omega, for_range (lo := 0) (n := many) (fun i σ H' => ∃ (sv tv : V) (us : List V) (D : PyData) (ls : List (PyData × PyData)) (t : Blk) (y6 y7 y8 : Option V), σ = [some (.ref a), some v, some (.int (many : Int)), some sv, some tv, some (.ref L), y6, y7, y8] ∧ Sch D ls ∧ ls.length = i ∧ us.length = i ∧ builtL ls b = some t ∧ Dp K (off a H') sv D ∧ BlOn K a H' tv t ∧ nK t ≤ 2 ∧ H' L = some (.lst us) ∧ Hnd H' a d ∧ Keep a H H') ?_ ?_ ?_⟩
    · exact ⟨.ref p1, v, [], blkS, [], b, none, none, none, rfl, .nil, rfl, rfl, rfl, dp_same (Keep.new nL).off _ d1, (hb.keep k1).keep (Keep.new nL), n2, upd_same, n1.new nL, k1.trans (Keep.new nL)⟩
    · rintro i σ H' hi ⟨sv, tv, us, D, ls, t, y6, y7, y8, rfl, sch, hl, hul, eb, dv, bt, nt, eL, hn, kp⟩
      refine ⟨_, rfl, _, rfl, a, d, tv, t, rfl, hn, bt, nt, fun p2 z k t' H2 e2 T2 hn2 k2 => ?_⟩
      have eL2 := k2 _ _ eL La
      refine ⟨p2, _, rfl, T2, rfl, _, _, rfl, _, _, rfl, rfl, ?_⟩
      refine ⟨_, rfl, .inl ⟨rfl, _, .inl (.inl eL2)⟩, _, rfl, _, rfl, _, rfl, (by show 3 ≤ sizeLine; decide), fun p3 np3 => ?_⟩
      have n3 := hn2.new (o := .tup [.str z, .int k, tv]) np3
      have k3 := Keep.new (a := a) (o := .tup [.str z, .int k, tv]) np3
      have eL3 := k3 _ _ eL2 La
      have k23 := k2.trans k3
      have dv3 := dp_setOff (o := .lst (us ++ [.ref p3])) eL3 La (sch_pl sch) (dp_same k23.off _ dv)
      have bt3 := dp_setOff (o := .lst (us ++ [.ref p3])) eL3 La (blk_pl bt.2) (dp_same k23.off _ bt.1)
      have n4 := n3.set (o := .lst (us ++ [.ref p3])) La Ld
      have k4 : Keep a H (upd (upd H2 p3 (.tup [.str z, .int k, tv])) L (.lst (us ++ [.ref p3]))) := (kp.trans k23).set nLH
      have eL4 : upd (upd H2 p3 (.tup [.str z, .int k, tv])) L (.lst (us ++ [.ref p3])) L = some (.lst (us ++ [.ref p3])) := upd_same
      refine ⟨L, _, _, rfl, rfl, eL3, by rw [hul, sizeLine_eq]; omega, ?_⟩
      generalize upd (upd H2 p3 (.tup [.str z, .int k, tv])) L (.lst (us ++ [.ref p3])) = H4 at *
      refine ⟨_, rfl, _, rfl, _, rfl, (by show 3 ≤ sizeLine; decide), fun p4 np4 => ?_⟩
      have k5 := Keep.new (a := a) (o := .tup [.str z, .int k, sv]) np4
      have n5 := n4.new (o := .tup [.str z, .int k, sv]) np4
      have d5 : Dp K (off a (upd H4 p4 (.tup [.str z, .int k, sv]))) (.ref p4) (.tuple [.str z, .int k, D]) := new_dp (n4.ne np4).1 upd_same (.cons (.str _) (.cons (.int _) (.cons (dp_same k5.off _ dv3) .nil)))
      have bt5 := dp_same k5.off _ bt3
      have eL5 := k5 _ _ eL4 La
      show gName 3 (V.ref p4) _ (upd H4 p4 (.tup [.str z, .int k, sv])) _
      generalize upd H4 p4 (.tup [.str z, .int k, sv]) = H5 at *
      refine ⟨_, rfl, _, rfl, _, rfl, tv, t, t', z, k, rfl, dp_same (off_same a H5) _ bt5, bt.2, e2, fun v' H6 s6 d6 => ?_⟩
      have ok' := lay_ok bt.2 e2
      have k6 := Keep.same (a := a) s6
      refine ⟨.ref p4, v', us ++ [.ref p3], _, ls ++ [(.str z, .int k)], t', _, _, _, rfl, .cons (lay_name bt.2 e2) sch, by rw [List.length_append, hl]; rfl, by rw [List.length_append, hul]; rfl, by rw [built_snoc, eb]; exact e2, dp_same k6.off _ d5, ⟨dp_offH (n5.same s6) (blk_pl ok') d6, ok'⟩, by rw [lay_nK bt.2 e2]; exact nt, s6 _ _ eL5, n5.same s6, (k4.trans k5).trans k6⟩
    · rintro σ H' ⟨sv, tv, us, D, ls, t, y6, y7, y8, rfl, sch, hl, hul, eb, dv, bt, nt, eL, hn, kp⟩
      refine ⟨_, rfl, _, rfl, _, rfl, (by show 3 ≤ sizeLine; decide), fun p np => ?_⟩
      exact q p sv tv (.ref L) D ls t _ sch (by omega) eb (dp_same (Keep.new np).off _ dv) (bt.keep (Keep.new np)) (.inl (.inl upd_same)) (hn.new np) (kp.trans (Keep.new np))

end
/-! ### goals that the law draws; what is refused -/
def DX (K : PySem.W.Frag) (a : Addr) (H : Hp) (v : V) (D : PyData) : Prop := Dp K (off a H) v D ∧ ∃ n, Gd n D
theorem DX.keep {K : PySem.W.Frag} {a : Addr} {H H' : Hp} {v : V} {D : PyData} (h : DX K a H v D) (k : Keep a H H') : DX K a H' v D := ⟨dp_same k.off _ h.1, h.2⟩
theorem DX.on {K : PySem.W.Frag} {a : Addr} {H : Hp} {v : V} {D : PyData} (h : DX K a H v D) : Dp K H v D := dp_same (off_same a H) _ h.1
theorem sch_built {D : PyData} {ls : List (PyData × PyData)} {b t : Blk} (h : Sch D ls) (hl : ls.length ≤ 7) (e : builtL ls b = some t) : builtD D b = some t := by
  unfold builtD
  rw [sch_lays h 7 hl]
  exact e
theorem goal_two {z : Str} {D : PyData} {b t : Blk} (hz : z ∈ aboK) (zo : z ≠ "opening") (e : builtD D b = some t) (k : aboF z = "any" ∨ aboF z = kindB t) : goalOk (.tuple [.str z, D]) b = true := by
  show (decide (z ∈ aboK) && (decide (([D] : List PyData).length + 1 = if z = "opening" then 3 else 2) && (match builtD (([D] : List PyData).getLastD (.str z)) b with
    | some w => goalW z w (([D] : List PyData).headD .none)
    | none => false))) = true
  rw [decide_eq_true hz, if_neg zo, show builtD (([D] : List PyData).getLastD (.str z)) b = some t from e]
  show goalW z t D = true
  unfold goalW
  rw [decide_eq_false zo]
  rcases k with k | k
  · rw [decide_eq_true k]
    rfl
  · rw [decide_eq_true k, Bool.or_true]
    rfl
theorem goal_open {D : PyData} {b : Blk} {n m : Nat} {rows : List (List Bool)} {s : List Bool} (e : builtD D b = some (.gen n m rows)) (hs : s.length = m) : goalOk (.tuple [.str "opening", .str (sb s), D]) b = true := by
  show (decide (("opening" : Str) ∈ aboK) && (decide (([.str (sb s), D] : List PyData).length + 1 = if ("opening" : Str) = "opening" then 3 else 2) && (match builtD (([.str (sb s), D] : List PyData).getLastD (.str "opening")) b with
    | some w => goalW "opening" w (([.str (sb s), D] : List PyData).headD .none)
    | none => false))) = true
  rw [decide_eq_true (show ("opening" : Str) ∈ aboK by decide +kernel), if_pos rfl, show builtD (([.str (sb s), D] : List PyData).getLastD (.str "opening")) b = some (.gen n m rows) from e]
  show goalW "opening" (.gen n m rows) (.str (sb s)) = true
  unfold goalW
  have hr := rows_ok (many := 1) (m := m) (rows := [s]) rfl (fun r hr => by rw [List.mem_singleton.mp hr]; exact hs)
  have hr' : rowsOk (.tuple [.str (sb s)]) 1 (wideB (.gen n m rows) : Int) = true := hr
  rw [hr', Bool.or_true, Bool.and_true]
  show (decide (aboF "opening" = "any") || decide (aboF "opening" = "generator")) = true
  decide +kernel
theorem new_dx {K : PySem.W.Frag} {a d p : Addr} {H : Hp} {vs : List V} {ds : List PyData} (hh : Hnd H a d) (np : H p = none) (h : DpAll K (off a H) vs ds) (hl : ds.length ≤ 100) (g : ∃ n, ∀ x ∈ ds, Gd n x) : Hnd (upd H p (.tup vs)) a d ∧ Keep a H (upd H p (.tup vs)) ∧ DX K a (upd H p (.tup vs)) (.ref p) (.tuple ds) := by
  obtain ⟨n, g⟩ := g
  have k := Keep.new (a := a) (o := .tup vs) np
  exact ⟨hh.new np, k, new_dp (hh.ne np).1 upd_same (dps_same k.off _ h), n + 1, by show ds.length ≤ 5000; omega, g⟩
theorem new_dxl {K : PySem.W.Frag} {a d p : Addr} {H : Hp} {vs : List V} {ds : List PyData} (hh : Hnd H a d) (np : H p = none) (h : DpAll K (off a H) vs ds) (hl : ds.length ≤ 100) (g : ∃ n, ∀ x ∈ ds, Gd n x) : Hnd (upd H p (.lst vs)) a d ∧ Keep a H (upd H p (.lst vs)) ∧ DX K a (upd H p (.lst vs)) (.ref p) (.list ds) := by
  obtain ⟨n, g⟩ := g
  have k := Keep.new (a := a) (o := .lst vs) np
  have e : upd H p (.lst vs) p = some (.lst vs) := upd_same
  exact ⟨hh.new np, k, .lst (.inl (.inl (by rw [off_ne (hh.ne np).1]; exact e))) (dps_same k.off _ h), n + 1, by show ds.length ≤ 5000; omega, g⟩
def spLGoal (K : PySem.W.Frag) : Sp := fun vs H Q _ => ∃ (a d : Addr) (sv tv : V) (D : PyData) (ls : List (PyData × PyData)) (b t : Blk), vs = [.ref a, sv, tv] ∧ Hnd H a d ∧ Sch D ls ∧ ls.length ≤ 7 ∧ builtL ls b = some t ∧ Dp K (off a H) sv D ∧ BlOn K a H tv t ∧
  ∀ v g H', goalOk g b = true → DX K a H' v g → Hnd H' a d → Keep a H H' → Q v H'
def spRef31 (K : PySem.W.Frag) : Sp := fun vs H Q _ => ∃ (v u : V) (D B : PyData) (n m : Nat) (goal : Bool), vs = [v, u, .bl goal] ∧ Dp K H v D ∧ Gd n D ∧ Dp K H u B ∧ Gd m B ∧ m ≤ 64 ∧
  ((blockOk B = false ∧ ∀ H', Same H H' → Q (.int 2) H') ∨ ∃ b : Blk, B = b.D ∧ b.Ok ∧ (if goal then goalOk D b = false else builtD D b = none) ∧ ∀ H', Same H H' → Q (.int 1) H')

section
variable {P : Program} {w : World} {K : PySem.W.Frag} {mg : Str → Option Value} {base : Heap} {cs : Cs}
theorem ok_lgoal {f : Addr} {fd : FuncData} (D : Df K mg "_law_goal" s_law_goal ["hand", "scheme", "table"] f fd) (T : Txt K w mg cs) (c_law_take : Cl P w K mg base CX0 1 "_law_take" spTake) (c_law_string : Cl P w K mg base CX0 2 "_law_string" spString) : FnOk P w K mg base CX0 3 f fd ["hand", "scheme", "table"] (spLGoal K) := by
  refine D.fn.ok sc_law_goal (fun vs H Q E h => ?_) (fun cdv A outer s H vs Q E hr h => ?_)
  · obtain ⟨a, d, sv, tv, D, ls, b, t, rfl, _⟩ := h
    rfl
  · obtain ⟨a, d, sv, tv, D, ls, b, t, rfl, hh, sch, hl, eb, dv, bt, q⟩ := h
    refine ⟨_, (pss_cons (ps_set (i := 3) sc_law_goal.nd rfl (.inl rfl) (pe_lst (pa_cons pe_str (pa_cons pe_str (pa_cons pe_str (pa_cons pe_str pa_nil)))))) (pss_cons (ps_if (pt_cmpR op_eq (pe_ix (ixT K) (pv 2) pe_int (fun _ _ => rfl)) pe_str (nomark _)) (pss_one (ps_set (i := 3) sc_law_goal.nd rfl (.inl rfl) (pe_lst (pa_cons pe_str (pa_cons pe_str (pa_cons pe_str (pa_cons pe_str pa_nil))))))) pss_nil) (pss_cons (ps_set (i := 4) sc_law_goal.nd rfl (.inl rfl) (pe_ix (ixL K) (pv 3) (pe_cl c_law_take hr (by first | decide | omega) (by rfl) (pa_cons (pv 0) (pa_cons pe_int pa_nil))) (fun _ _ => rfl))) (pss_cons (ps_if (pt_cmpR op_eq (pv 4) pe_str (nomark _)) (pss_one (ps_ret (pe_tup (pa_cons (pv 4) (pa_cons (pe_cl c_law_string hr (by first | decide | omega) (by rfl) (pa_cons (pv 0) (pa_cons (pe_ix (ixT K) (pv 2) pe_int (fun _ _ => rfl)) pa_nil))) (pa_cons (pv 1) pa_nil)))))) pss_nil) (pss_one (ps_ret (pe_tup (pa_cons (pv 4) (pa_cons (pv 1) pa_nil))))))))), ?_⟩
    have eD := sch_built sch hl eb
    have gD := sch_gd sch
    have two : ∀ (z : Str) (H1 : Hp) p, z ∈ aboK → z ≠ "opening" → (aboF z = "any" ∨ aboF z = kindB t) → Hnd H1 a d → Keep a H H1 → H1 p = none → Q (.ref p) (upd H1 p (.tup [.str z, sv])) := by
      intro z H1 p hz zo hk n1 k1 np
      have hz2 : okT z := by
        unfold aboK at hz
        simp only [List.mem_cons, List.not_mem_nil, or_false] at hz
        rcases hz with e | e | e | e | e | e <;> subst e <;> exact ⟨by decide +kernel, by decide +kernel⟩
      obtain ⟨n2, k2, x2⟩ := new_dx (K := K) n1 np (.cons (.str z) (.cons (dp_same k1.off _ dv) .nil)) (by show 2 ≤ 100; decide) ⟨ls.length + 1, fun x hx => by
        rcases List.mem_cons.mp hx with e | hx
        · rw [e]
          exact hz2
        · rw [List.mem_singleton.mp hx]
          exact gD⟩
      exact q _ _ _ (goal_two hz zo eD hk) x2 n2 (k1.trans k2)
    refine ⟨(by show 4 ≤ sizeLine; decide), fun L nL => ?_⟩
    have n1 := hh.new (o := .lst [.str "tell", .str "once", .str "opening", .str "next"]) nL
    have k1 := Keep.new (a := a) (o := .lst [.str "tell", .str "once", .str "opening", .str "next"]) nL
    have La := (hh.ne nL).1
    have eL : upd H L (.lst [.str "tell", .str "once", .str "opening", .str "next"]) L = some (.lst [.str "tell", .str "once", .str "opening", .str "next"]) := upd_same
    show gName 3 (V.ref L) _ (upd H L (.lst [.str "tell", .str "once", .str "opening", .str "next"])) _
    generalize upd H L (.lst [.str "tell", .str "once", .str "opening", .str "next"]) = H1 at *
    have bt1 := bt.keep k1
    cases t with
    | fn n l m tabs =>
      obtain ⟨c, r, rfl, hT, _⟩ := dp_fun bt1.1
      have hT := sqt_on hT
      refine ⟨_, rfl, c, _, 0, _, rfl, rfl, hT, at0, rfl, _, rfl, ?_⟩
      rw [decide_eq_true rfl]
      refine ⟨(by show 4 ≤ sizeLine; decide), fun M nM => ?_⟩
      have n2 := n1.new (o := .lst [.str "tell", .str "marks", .str "secrets", .str "tell"]) nM
      have k2 := Keep.new (a := a) (o := .lst [.str "tell", .str "marks", .str "secrets", .str "tell"]) nM
      have Ma := (n1.ne nM).1
      refine ⟨_, rfl, _, rfl, a, d, 4, rfl, by decide, n2, fun r1 H3 l1 u1 n3 k3 => ?_⟩
      have eM := k3 _ _ upd_same Ma
      have kk := (k1.trans k2).trans k3
      have er : r1 = 0 ∨ r1 = 1 ∨ r1 = 2 ∨ r1 = 3 := by omega
      rcases er with e | e | e | e <;> subst e
      · refine ⟨M, _, 0, _, rfl, rfl, .inl (.inl eM), rfl, _, rfl, rfl, _, rfl, ?_⟩
        exact ⟨_, rfl, _, rfl, (by show 2 ≤ sizeLine; decide), fun p np => two "tell" H3 p (by decide +kernel) (by decide +kernel) (.inl (by decide +kernel)) n3 kk np⟩
      · refine ⟨M, _, 1, _, rfl, rfl, .inl (.inl eM), rfl, _, rfl, rfl, _, rfl, ?_⟩
        exact ⟨_, rfl, _, rfl, (by show 2 ≤ sizeLine; decide), fun p np => two "marks" H3 p (by decide +kernel) (by decide +kernel) (.inr (show aboF "marks" = "function" by decide +kernel)) n3 kk np⟩
      · refine ⟨M, _, 2, _, rfl, rfl, .inl (.inl eM), rfl, _, rfl, rfl, _, rfl, ?_⟩
        exact ⟨_, rfl, _, rfl, (by show 2 ≤ sizeLine; decide), fun p np => two "secrets" H3 p (by decide +kernel) (by decide +kernel) (.inr (show aboF "secrets" = "function" by decide +kernel)) n3 kk np⟩
      · refine ⟨M, _, 3, _, rfl, rfl, .inl (.inl eM), rfl, _, rfl, rfl, _, rfl, ?_⟩
        exact ⟨_, rfl, _, rfl, (by show 2 ≤ sizeLine; decide), fun p np => two "tell" H3 p (by decide +kernel) (by decide +kernel) (.inl (by decide +kernel)) n3 kk np⟩
    | gen n m rows =>
      have wf : Wf n m rows := bt.2
      have hm40 := wf.m2
      obtain ⟨c, r, rfl, hT, _⟩ := dp_tab bt1.1
      have hT0 := hT
      have hT := sqt_on hT
      refine ⟨_, rfl, c, _, 0, _, rfl, rfl, hT, at0, rfl, _, rfl, ?_⟩
      refine ⟨_, rfl, _, rfl, a, d, 4, rfl, by decide, n1, fun r1 H3 l1 u1 n3 k3 => ?_⟩
      have eL3 := k3 _ _ eL La
      have kk := k1.trans k3
      have er : r1 = 0 ∨ r1 = 1 ∨ r1 = 2 ∨ r1 = 3 := by omega
      rcases er with e | e | e | e <;> subst e
      · refine ⟨L, _, 0, _, rfl, rfl, .inl (.inl eL3), rfl, _, rfl, rfl, _, rfl, ?_⟩
        exact ⟨_, rfl, _, rfl, (by show 2 ≤ sizeLine; decide), fun p np => two "tell" H3 p (by decide +kernel) (by decide +kernel) (.inl (by decide +kernel)) n3 kk np⟩
      · refine ⟨L, _, 1, _, rfl, rfl, .inl (.inl eL3), rfl, _, rfl, rfl, _, rfl, ?_⟩
        exact ⟨_, rfl, _, rfl, (by show 2 ≤ sizeLine; decide), fun p np => two "once" H3 p (by decide +kernel) (by decide +kernel) (.inr (show aboF "once" = "generator" by decide +kernel)) n3 kk np⟩
      · refine ⟨L, _, 2, _, rfl, rfl, .inl (.inl eL3), rfl, _, rfl, rfl, _, rfl, ?_⟩
        refine ⟨_, rfl, _, rfl, _, rfl, c, _, 2, _, rfl, rfl, sqt_on (same_sqt k3.off hT0), rfl, a, d, m, rfl, by omega, n3, fun bs H4 hbs n4 k4 => ⟨_, rfl, (by show 3 ≤ sizeLine; decide), fun p np => ?_⟩⟩
        obtain ⟨n5, k5, x5⟩ := new_dx (K := K) n4 np (.cons (.str "opening") (.cons (.str (sb bs)) (.cons (dp_same (kk.trans k4).off _ dv) .nil))) (by show 3 ≤ 100; decide) ⟨ls.length + 1, fun x hx => by
          rcases List.mem_cons.mp hx with e | hx
          · rw [e]
            exact pl_gd (pl_str.mpr ⟨by decide +kernel, by decide +kernel⟩)
          rcases List.mem_cons.mp hx with e | hx
          · rw [e]
            exact pl_gd (pl_str.mpr (okT_sb (by omega)))
          · rw [List.mem_singleton.mp hx]
            exact gD⟩
        exact q _ _ _ (goal_open eD hbs) x5 n5 ((kk.trans k4).trans k5)
      · refine ⟨L, _, 3, _, rfl, rfl, .inl (.inl eL3), rfl, _, rfl, rfl, _, rfl, ?_⟩
        exact ⟨_, rfl, _, rfl, (by show 2 ≤ sizeLine; decide), fun p np => two "next" H3 p (by decide +kernel) (by decide +kernel) (.inr (show aboF "next" = "generator" by decide +kernel)) n3 kk np⟩
theorem ok_ref31 {f : Addr} {fd : FuncData} (D : Df K mg "_law_refused" s_law_refused ["value", "block", "goal"] f fd) (T : Txt K w mg cs) (c_built : Cl P w K mg base (L2.CX P w) 8 "built" (spBuilt K cs.BadBlock cs.BadScheme)) (c_check_goal : Cl P w K mg base (L2.CX P w) 9 "check_goal" (spGoal K cs.BadBlock cs.BadScheme)) : FnOk P w K mg base CX0 10 f fd ["value", "block", "goal"] (spRef31 K) := by
  refine D.fn.ok sc_law_refused (fun vs H Q E h => ?_) (fun cdv A outer s H vs Q E hr h => ?_)
  · obtain ⟨v, u, D, B, n, m, goal, rfl, _⟩ := h
    rfl
  · obtain ⟨v, u, D, B, n, m, goal, rfl, hd, hg, hu, hm, m64, q⟩ := h
    refine ⟨_, (pss_cons (ps_try_named (Wout := fun _ _ _ _ => False) rfl rfl sc_law_refused.nd takes0 (fun W pn xe tk _ => (pss_one (ps_if (pt_val (pv 2)) (pss_one (ps_expr (pe_clX c_check_goal hr (by first | decide | omega) (by rfl) tk (pa_cons (pv 0) (pa_cons (pv 1) pa_nil))))) (pss_one (ps_expr (pe_clX c_built hr (by first | decide | omega) (by rfl) tk (pa_cons (pv 0) (pa_cons (pv 1) pa_nil)))))))) (ClaOk.cons (q := ⟨_, 3, _⟩) rfl rfl ⟨rfl, by decide, .inl T.gl_BadScheme⟩ (fun a oe cls d pn hz hf => pss_when (C := cs.BadScheme) hz fun hz => (pss_one (ps_ret (pe_op op_add pe_int (pe_op op_mul pe_int (pe_callTy call_int1 (by rfl) T.n_int (by decide +kernel) (pa_cons (pe_or (pe_not (pe_callB (call_isE T.e_BadScheme hz hf) (by rfl) T.n_isinstance (by decide +kernel) (pa_cons (pv 3) (pa_cons (pe_glob (v := .ref cs.BreakError) (by rfl) T.gl_BreakError rfl) pa_nil)))) (pe_one (pe_not (pe_callB (call_isE T.e_BadScheme hz hf) (by rfl) T.n_isinstance (by decide +kernel) (pa_cons (pv 3) (pa_cons (pe_ty "ValueError" (by rfl) T.n_ValueError (by decide +kernel)) pa_nil)))))) pa_nil))))))) (ClaOk.cons (q := ⟨_, 3, _⟩) rfl rfl ⟨rfl, by decide, .inl T.gl_BadBlock⟩ (fun a oe cls d pn hz hf => pss_when (C := cs.BadBlock) hz fun hz => (pss_one (ps_ret (pe_op op_add pe_int (pe_op op_mul pe_int (pe_callTy call_int1 (by rfl) T.n_int (by decide +kernel) (pa_cons (pe_or (pe_not (pe_callB (call_isE T.e_BadBlock hz hf) (by rfl) T.n_isinstance (by decide +kernel) (pa_cons (pv 3) (pa_cons (pe_glob (v := .ref cs.BreakError) (by rfl) T.gl_BreakError rfl) pa_nil)))) (pe_one (pe_not (pe_callB (call_isE T.e_BadBlock hz hf) (by rfl) T.n_isinstance (by decide +kernel) (pa_cons (pv 3) (pa_cons (pe_ty "ValueError" (by rfl) T.n_ValueError (by decide +kernel)) pa_nil)))))) pa_nil))))))) ClaOk.nil))) (pss_one (ps_ret pe_int))), ?_⟩
    cases goal with
    | true =>
      refine ⟨_, rfl, _, rfl, ?_⟩
      refine ⟨_, rfl, _, rfl, v, u, D, B, n, m, rfl, hd, hg, hu, hm, m64, ?_⟩
      rcases q with ⟨no, q⟩ | ⟨b, rfl, ok, no, q⟩
      · refine .inl ⟨no, fun H1 s1 => ?_⟩
        refine ⟨false, T.exm_BadBlock_BadScheme, (fun z => Bool.noConfusion z), fun _ => ⟨true, T.exm_BadBlock_BadBlock, fun _ a na => ⟨⟨rfl, rfl⟩, ?_⟩, fun q => nomatch q⟩⟩
        refine ⟨_, rfl, _, _, true, rfl, fun u hu => hu, T.kit_BadBlock_BreakError, _, rfl, _, rfl, _, rfl, _, _, true, rfl, fun u hu => hu, T.kit_BadBlock_ValueError, _, rfl, .inr ⟨_, rfl, _, _, rfl, rfl, .inl ⟨by decide, by decide⟩, _, _, rfl, rfl, ?_⟩⟩
        exact q H1 s1
      · refine .inr ⟨b, rfl, ok, fun H1 e => absurd (e.symm.trans no) (by simp), fun H1 _ s1 => ?_⟩
        refine ⟨true, T.exm_BadScheme_BadScheme, fun _ a na => ⟨⟨rfl, rfl⟩, ?_⟩, fun q => nomatch q⟩
        refine ⟨_, rfl, _, _, true, rfl, fun u hu => hu, T.kit_BadScheme_BreakError, _, rfl, _, rfl, _, rfl, _, _, true, rfl, fun u hu => hu, T.kit_BadScheme_ValueError, _, rfl, .inr ⟨_, rfl, _, _, rfl, rfl, .inl ⟨by decide, by decide⟩, _, _, rfl, rfl, ?_⟩⟩
        exact q H1 s1
    | false =>
      refine ⟨_, rfl, _, rfl, ?_⟩
      refine ⟨_, rfl, _, rfl, v, u, D, B, n, m, rfl, hd, hg, hu, hm, m64, ?_⟩
      rcases q with ⟨no, q⟩ | ⟨b, rfl, ok, no, q⟩
      · refine .inl ⟨no, fun H1 s1 => ?_⟩
        refine ⟨false, T.exm_BadBlock_BadScheme, (fun z => Bool.noConfusion z), fun _ => ⟨true, T.exm_BadBlock_BadBlock, fun _ a na => ⟨⟨rfl, rfl⟩, ?_⟩, fun q => nomatch q⟩⟩
        refine ⟨_, rfl, _, _, true, rfl, fun u hu => hu, T.kit_BadBlock_BreakError, _, rfl, _, rfl, _, rfl, _, _, true, rfl, fun u hu => hu, T.kit_BadBlock_ValueError, _, rfl, .inr ⟨_, rfl, _, _, rfl, rfl, .inl ⟨by decide, by decide⟩, _, _, rfl, rfl, ?_⟩⟩
        exact q H1 s1
      · refine .inr ⟨b, rfl, ok, fun b' v' H1 e => absurd (e.symm.trans no) (by simp), fun H1 _ s1 => ?_⟩
        refine ⟨true, T.exm_BadScheme_BadScheme, fun _ a na => ⟨⟨rfl, rfl⟩, ?_⟩, fun q => nomatch q⟩
        refine ⟨_, rfl, _, _, true, rfl, fun u hu => hu, T.kit_BadScheme_BreakError, _, rfl, _, rfl, _, rfl, _, _, true, rfl, fun u hu => hu, T.kit_BadScheme_ValueError, _, rfl, .inr ⟨_, rfl, _, _, rfl, rfl, .inl ⟨by decide, by decide⟩, _, _, rfl, rfl, ?_⟩⟩
        exact q H1 s1

end
/-! ### what is no scheme -/
theorem gS {x : Str} (h : okT x := by exact ⟨by decide +kernel, by decide +kernel⟩) : ∃ n, Gd n (.str x) := ⟨0, pl_gd (pl_str.mpr h)⟩
theorem gI {i : Int} : ∃ n, Gd n (.int i) := ⟨0, pl_gd pl_int⟩
theorem gB {b : Bool} : ∃ n, Gd n (.bool b) := ⟨0, trivial⟩
theorem gO : ∃ n, Gd n .none := ⟨0, trivial⟩
theorem gN : ∃ n, ∀ x ∈ ([] : List PyData), Gd n x := ⟨0, fun _ h => nomatch h⟩
theorem gC {d : PyData} {ds : List PyData} (h : ∃ n, Gd n d) (g : ∃ n, ∀ x ∈ ds, Gd n x) : ∃ n, ∀ x ∈ d :: ds, Gd n x := by
  obtain ⟨n, h⟩ := h
  obtain ⟨m, g⟩ := g
  refine ⟨max n m, fun x hx => ?_⟩
  rcases List.mem_cons.mp hx with e | hx
  · rw [e]
    exact gd_le h (Nat.le_max_left n m)
  · exact gd_le (g x hx) (Nat.le_max_right n m)
def WX (P : PyData → Prop) (K : PySem.W.Frag) (a : Addr) (H : Hp) (v : V) : Prop := ∃ D, DX K a H v D ∧ P D
theorem WX.keep {P : PyData → Prop} {K : PySem.W.Frag} {a : Addr} {H H' : Hp} {v : V} (h : WX P K a H v) (k : Keep a H H') : WX P K a H' v := by
  obtain ⟨D, h1, h2⟩ := h
  exact ⟨D, h1.keep k, h2⟩
theorem wx_keep {P : PyData → Prop} {K : PySem.W.Frag} {a : Addr} {H H' : Hp} {vs : List V} (h : ∀ x ∈ vs, WX P K a H x) (k : Keep a H H') : ∀ x ∈ vs, WX P K a H' x := fun x hx => (h x hx).keep k
theorem av0 {P : V → Prop} : ∀ x ∈ ([] : List V), P x := fun _ h => nomatch h
theorem av {P : V → Prop} {a : V} {l : List V} (h1 : P a) (h : ∀ x ∈ l, P x) : ∀ x ∈ a :: l, P x := by
  intro x hx
  rcases List.mem_cons.mp hx with e | hx
  · rw [e]
    exact h1
  · exact h x hx
theorem av_app {P : V → Prop} {l m : List V} (h1 : ∀ x ∈ l, P x) (h : ∀ x ∈ m, P x) : ∀ x ∈ l ++ m, P x := by
  intro x hx
  rcases List.mem_append.mp hx with e | hx
  · exact h1 x e
  · exact h x hx
/-- no scheme for any block -/
def BadS (D : PyData) : Prop := ∀ f, f ≤ 7 → ∀ b : Blk, b.Ok → (laysD f D).bind (fun ls => builtL ls b) = none
theorem bad_built {D : PyData} {b : Blk} (h : BadS D) (ok : b.Ok) : builtD D b = none := h 7 (Nat.le_refl _) b ok
theorem bad_no {D : PyData} (h : PyData.eqv D blkS = false) (n : ∀ x y z, D ≠ .tuple [x, y, z]) : BadS D := fun f _ b _ => by
  rw [lays_no h n]
  rfl
theorem bad_layer {x y z : PyData} {f : Nat} {b : Blk} (h : ∀ ls, laysD f z = some ls → (builtL ls b).bind (lay1 (x, y)) = none) : (laysD (f + 1) (.tuple [x, y, z])).bind (fun ls => builtL ls b) = none := by
  rw [lays_step (eqv_three _ _ _)]
  cases e : laysD f z with
  | none => rfl
  | some ls =>
    show builtL (ls ++ [(x, y)]) b = none
    rw [built_snoc]
    exact h ls e
theorem bad_in {x y z : PyData} (h : BadS z) : BadS (.tuple [x, y, z]) := fun f hf b ok => by
  cases f with
  | zero =>
    rw [lays_zero (eqv_three _ _ _)]
    rfl
  | succ f =>
    refine bad_layer fun ls e => ?_
    have := h f (by omega) b ok
    rw [e] at this
    rw [show builtL ls b = none from this]
    rfl
theorem bad_num {x y z : PyData} (h : ∀ c : Blk, c.Ok → lay1 (x, y) c = none) : BadS (.tuple [x, y, z]) := fun f hf b ok => by
  cases f with
  | zero =>
    rw [lays_zero (eqv_three _ _ _)]
    rfl
  | succ f =>
    refine bad_layer fun ls e => ?_
    cases e2 : builtL ls b with
    | none => rfl
    | some c => exact h c (built_ok ok e2)
theorem no_long {Y : PyData} {c : Blk} (ok : c.Ok) (h : whole Y 1 20 = false) : lay1 (.str "longer", Y) c = none := by
  cases e : lay1 (.str "longer", Y) c with
  | none => rfl
  | some c' =>
    rcases lay_some ok e with ⟨_, n, j, rows, _, rfl, _, j1, j2, _⟩ | ⟨z, _⟩ | ⟨z, _⟩ | ⟨z, _⟩
    · rw [show whole (.int (j : Int)) 1 20 = true by show (decide _ && decide _) = true; rw [decide_eq_true (by omega), decide_eq_true (by omega)]; rfl] at h
      cases h
    all_goals exact absurd (PyData.str.inj z) (by decide +kernel)
theorem no_tree {Y : PyData} {c : Blk} (ok : c.Ok) (h : whole Y 1 8 = false) : lay1 (.str "tree", Y) c = none := by
  cases e : lay1 (.str "tree", Y) c with
  | none => rfl
  | some c' =>
    rcases lay_some ok e with ⟨z, _⟩ | ⟨_, n, j, rows, _, rfl, _, _, j1, j2, _, _⟩ | ⟨z, _⟩ | ⟨z, _⟩
    · exact absurd (PyData.str.inj z) (by decide +kernel)
    · rw [show whole (.int (j : Int)) 1 8 = true by show (decide _ && decide _) = true; rw [decide_eq_true (by omega), decide_eq_true (by omega)]; rfl] at h
      cases h
    all_goals exact absurd (PyData.str.inj z) (by decide +kernel)
theorem no_cnt {Y : PyData} {c : Blk} (ok : c.Ok) (h : ∀ l, l ≤ 8 → whole Y 1 ((2 ^ l : Nat) : Int) = false) : lay1 (.str "counter", Y) c = none := by
  cases e : lay1 (.str "counter", Y) c with
  | none => rfl
  | some c' =>
    rcases lay_some ok e with ⟨z, _⟩ | ⟨z, _⟩ | ⟨_, n, l, m, j, tabs, _, rfl, wf, j1, j2, _, _⟩ | ⟨z, _⟩
    · exact absurd (PyData.str.inj z) (by decide +kernel)
    · exact absurd (PyData.str.inj z) (by decide +kernel)
    · have := h l wf.l2
      rw [show whole (.int (j : Int)) 1 ((2 ^ l : Nat) : Int) = true by show (decide _ && decide _) = true; rw [decide_eq_true (by omega), decide_eq_true (Int.ofNat_le.mpr j2)]; rfl] at this
      cases this
    · exact absurd (PyData.str.inj z) (by decide +kernel)
theorem no_cut {Y : PyData} {c : Blk} (ok : c.Ok) (h : ∀ m : Nat, m ≤ 40 → whole Y 1 (m : Int) = false) : lay1 (.str "cut", Y) c = none := by
  cases e : lay1 (.str "cut", Y) c with
  | none => rfl
  | some c' =>
    rcases lay_some ok e with ⟨z, _⟩ | ⟨z, _⟩ | ⟨z, _⟩ | ⟨_, n, m, j, rows, _, rfl, wf, j1, j2, _⟩
    · exact absurd (PyData.str.inj z) (by decide +kernel)
    · exact absurd (PyData.str.inj z) (by decide +kernel)
    · exact absurd (PyData.str.inj z) (by decide +kernel)
    · have := h m wf.m2
      rw [show whole (.int (j : Int)) 1 (m : Int) = true by show (decide _ && decide _) = true; rw [decide_eq_true (by omega), decide_eq_true (by omega)]; rfl] at this
      cases this
theorem no_name {z : Str} {Y : PyData} {c : Blk} (h1 : z ≠ "longer") (h2 : z ≠ "tree") (h3 : z ≠ "counter") (h4 : z ≠ "cut") : lay1 (.str z, Y) c = none := by
  unfold lay1
  rw [if_neg (by rw [named_str]; simpa using h1), if_neg (by rw [named_str]; simpa using h2), if_neg (by rw [named_str]; simpa using h3), if_neg (by rw [named_str]; simpa using h4)]
theorem whole_low {i hi : Int} (h : i < 1) : whole (.int i) 1 hi = false := by
  show (decide _ && decide _) = false
  rw [decide_eq_false (by omega)]
  rfl
theorem whole_high {i hi : Int} (h : hi < i) : whole (.int i) 1 hi = false := by
  show (decide _ && decide _) = false
  rw [decide_eq_false (show ¬ i ≤ hi by omega), Bool.and_false]
theorem sch_tup {D : PyData} {ls : List (PyData × PyData)} (h : Sch D ls) : ∃ xs, D = .tuple xs ∧ xs.length ≤ 3 := by
  cases h with
  | nil => exact ⟨_, rfl, by decide⟩
  | cons _ _ => exact ⟨_, rfl, Nat.le_refl 3⟩
theorem eqv_one {D : PyData} {ls : List (PyData × PyData)} (h : Sch D ls) : PyData.eqv (.tuple [D]) blkS = false := by
  obtain ⟨xs, rfl, _⟩ := sch_tup h
  unfold blkS
  simp only [PyData.eqv, PyData.eqvAll, Bool.false_and]
def spBent31 (K : PySem.W.Frag) (j : Nat) : Sp := fun vs H Q _ => ∃ (a d : Addr) (sv : V) (D : PyData) (ls : List (PyData × PyData)), vs = [.ref a, sv] ∧ Hnd H a d ∧ Sch D ls ∧ ls.length ≤ j ∧ Dp K (off a H) sv D ∧
  ∀ v D' H', BadS D' → DX K a H' v D' → Hnd H' a d → Keep a H H' → Q v H'
def spBent31B (K : PySem.W.Frag) (j : Nat) : Sp := fun vs H Q E => 1 ≤ j ∧ spBent31 K (j - 1) vs H Q E

section
variable {P : Program} {w : World} {K : PySem.W.Frag} {mg : Str → Option Value} {base : Heap} {cs : Cs}
theorem bent_step31 {f : Addr} {fd : FuncData} (D : Df K mg "_law_bent" s_law_bent ["hand", "scheme"] f fd) (T : Txt K w mg cs) (j : Nat) (c_law_take : Cl P w K mg base CX0 1 "_law_take" spTake) (c_law_bent : Cl P w K mg base CX0 (j + 1) "_law_bent" (spBent31B K j)) : FnOk P w K mg base CX0 (j + 2) f fd ["hand", "scheme"] (spBent31 K j) := by
  refine D.fn.ok sc_law_bent (fun vs H Q E h => ?_) (fun cdv A outer s H vs Q E hr h => ?_)
  · obtain ⟨a, d, sv, D, ls, rfl, _⟩ := h
    rfl
  · obtain ⟨a, d, sv, D, ls, rfl, hh, sch, hl, dv, q⟩ := h
    refine ⟨_, (C8.pss_cut (ps_if (PW.pt (pw_and (pt_cmpR op_eq (pe_callB (lenS K) (by rfl) T.n_len (by decide +kernel) (pa_cons (pv 1) pa_nil)) pe_int (nomark _)) (pw_and (pt_cmpR op_gt (pe_cl c_law_take hr (by first | decide | omega) (by rfl) (pa_cons (pv 0) (pa_cons pe_int pa_nil))) pe_int (nomark _)) (pw_and1 (pt_cmpR (op_neF K hr.units) (pe_ix (ixT K) (pv 1) pe_int (fun _ _ => rfl)) (pe_tup (pa_cons pe_str pa_nil)) (nomark _)))))) (pss_one (ps_ret (pe_tup (pa_cons (pe_ix (ixT K) (pv 1) pe_int (fun _ _ => rfl)) (pa_cons (pe_ix (ixT K) (pv 1) pe_int (fun _ _ => rfl)) (pa_cons (pe_cl c_law_bent hr (by first | decide | omega) (by rfl) (pa_cons (pv 0) (pa_cons (pe_ix (ixT K) (pv 1) pe_int (fun _ _ => rfl)) pa_nil))) pa_nil)))))) pss_nil) (pss_cons (ps_set (i := 2) sc_law_bent.nd rfl (.inl rfl) (pe_lst (pa_cons (pe_tup pa_nil) (pa_cons (pe_tup (pa_cons pe_str (pa_cons pe_int pa_nil))) (pa_cons (pe_lst (pa_cons pe_str pa_nil)) (pa_cons pe_str (pa_cons (pe_tup (pa_cons pe_str pa_nil)) (pa_cons pe_non (pa_cons pe_int (pa_cons (pe_tup (pa_cons (pv 1) pa_nil)) (pa_cons (pe_callTy (listOf K) (by rfl) T.n_list (by decide +kernel) (pa_cons (pv 1) pa_nil)) (pa_cons pe_bl pa_nil)))))))))))) (pss_cons (ps_set (i := 2) sc_law_bent.nd rfl (.inl rfl) (pe_op op_cat (pv 2) (pe_lst (pa_cons (pe_tup (pa_cons pe_str (pa_cons pe_int pa_nil))) (pa_cons (pe_tup (pa_cons pe_str (pa_cons (pv 1) (pa_cons pe_int pa_nil)))) (pa_cons (pe_tup (pa_cons pe_str (pa_cons pe_int (pa_cons (pv 1) (pa_cons (pv 1) pa_nil))))) (pa_cons (pe_tup (pa_cons pe_str (pa_cons pe_int (pa_cons (pe_lst (pa_cons (pv 1) pa_nil)) pa_nil)))) pa_nil))))))) (pss_cons (ps_set (i := 2) sc_law_bent.nd rfl (.inl rfl) (pe_op op_cat (pv 2) (pe_lst (pa_cons (pe_tup (pa_cons pe_str (pa_cons pe_bl (pa_cons (pv 1) pa_nil)))) (pa_cons (pe_tup (pa_cons pe_str (pa_cons pe_str (pa_cons (pv 1) pa_nil)))) (pa_cons (pe_tup (pa_cons pe_str (pa_cons pe_int (pa_cons (pv 1) pa_nil)))) (pa_cons (pe_tup (pa_cons pe_str (pa_cons pe_int (pa_cons (pv 1) pa_nil)))) pa_nil))))))) (pss_cons (ps_set (i := 2) sc_law_bent.nd rfl (.inl rfl) (pe_op op_cat (pv 2) (pe_lst (pa_cons (pe_tup (pa_cons pe_str (pa_cons pe_int (pa_cons (pv 1) pa_nil)))) (pa_cons (pe_tup (pa_cons pe_str (pa_cons pe_int (pa_cons (pv 1) pa_nil)))) (pa_cons (pe_tup (pa_cons pe_str (pa_cons pe_int (pa_cons (pv 1) pa_nil)))) (pa_cons (pe_tup (pa_cons pe_str (pa_cons pe_int (pa_cons (pv 1) pa_nil)))) pa_nil))))))) (pss_cons (ps_set (i := 2) sc_law_bent.nd rfl (.inl rfl) (pe_op op_cat (pv 2) (pe_lst (pa_cons (pe_tup (pa_cons pe_str (pa_cons pe_int (pa_cons (pv 1) pa_nil)))) (pa_cons (pe_tup (pa_cons pe_str (pa_cons pe_int (pa_cons (pv 1) pa_nil)))) (pa_cons (pe_tup (pa_cons pe_str (pa_cons pe_int (pa_cons (pv 1) pa_nil)))) (pa_cons (pe_tup (pa_cons pe_str (pa_cons (pe_un un_neg pe_int) (pa_cons (pv 1) pa_nil)))) pa_nil))))))) (pss_one (ps_ret (pe_ix (ixL K) (pv 2) (pe_cl c_law_take hr (by first | decide | omega) (by rfl) (pa_cons (pv 0) (pa_cons (pe_callB (lenS K) (by rfl) T.n_len (by decide +kernel) (pa_cons (pv 2) pa_nil)) pa_nil))) (fun _ _ => rfl)))))))))), ?_⟩
    have gD : ∃ n, Gd n D := ⟨_, sch_gd sch⟩
    obtain ⟨sa, su, sx, rfl, rfl, sT, sA, gA, sx3⟩ : ∃ sa su sx, sv = .ref sa ∧ D = .tuple sx ∧ SqT K (off a H) sa su ∧ DpAll K (off a H) su sx ∧ (∃ n, ∀ x ∈ sx, Gd n x) ∧ sx.length ≤ 3 := by
      obtain ⟨xs, rfl, h3⟩ := sch_tup sch
      obtain ⟨n, g⟩ := gD
      obtain ⟨_, n', rfl, hx⟩ := gd_tup g
      cases dv with
      | tup hT hA => exact ⟨_, _, _, rfl, rfl, hT, hA, ⟨n', hx⟩, h3⟩
    have sul := dp_all_len sA
    have sT0 := sqt_on sT
    refine ⟨fun σ H1 => σ = [some (.ref a), some (.ref sa), none] ∧ Hnd H1 a d ∧ Keep a H H1, ?_, ?_⟩
    · refine ⟨_, rfl, sa, su, rfl, .inr sT0, rfl, _, rfl, ?_⟩
      by_cases c3 : su.length = 3
      · rw [decide_eq_true (show V.int ((su.length : Nat) : Int) = V.int 3 by rw [c3]; rfl)]
        refine ⟨_, rfl, a, d, 3, rfl, by decide, hh, fun r H1 l1 u1 n1 k1 => ⟨_, _, rfl, rfl, _, rfl, ?_⟩⟩
        by_cases c0 : (0 : Int) < r
        · rw [decide_eq_true c0]
          obtain ⟨z, k, D', ls', hz, sch', rfl, rfl⟩ : ∃ z k D' ls', LayN z ∧ Sch D' ls' ∧ sx = [.str z, .int k, D'] ∧ ls = ls' ++ [(.str z, .int k)] := by
            generalize hD : (PyData.tuple sx) = DD at sch
            cases sch with
            | nil =>
              injection hD with e
              rw [e] at sul
              rw [sul] at c3
              cases c3
            | @cons z k D' ls' hz h =>
              injection hD with e
              exact ⟨z, k, D', ls', hz, h, e, rfl⟩
          obtain ⟨v', rfl, dv'⟩ : ∃ v', su = [.str z, .int k, v'] ∧ Dp K (off a H) v' D' := by
            cases sA with
            | cons h0 h =>
              cases h0
              cases h with
              | cons h1 h =>
                cases h1
                cases h with
                | cons h2 h =>
                  cases h
                  exact ⟨_, rfl, h2⟩
          have hT1 := sqt_on (same_sqt k1.off sT)
          refine ⟨_, rfl, sa, _, 2, v', rfl, rfl, hT1, rfl, (by show 1 ≤ sizeLine; decide), fun p np => ?_⟩
          have k2 := Keep.new (a := a) (o := .tup [.str "block"]) np
          have n2 := n1.new (o := .tup [.str "block"]) np
          have hB : Dp K (upd H1 p (.tup [.str "block"])) (.ref p) blkS := .tup (.inl (.inl upd_same)) (.cons (.str _) .nil)
          have k12 := k1.trans k2
          generalize upd H1 p (.tup [.str "block"]) = H2 at *
          refine ⟨D', blkS, dp_same (off_same a H2) _ (dp_same k12.off _ dv'), hB, gd_lay (sch_gd sch'), by decide +kernel, by decide +kernel, _, rfl, ?_⟩
          cases ce : PyData.eqv D' blkS with
          | true => exact ⟨rfl, n2, k12⟩
          | false =>
            have hT2 := sqt_on (same_sqt k12.off sT)
            rw [List.length_append] at hl
            have hl : ls'.length + 1 ≤ j := hl
            refine ⟨_, rfl, sa, _, 0, _, rfl, rfl, hT2, at0, _, rfl, sa, _, 1, _, rfl, rfl, hT2, rfl, _, rfl, _, rfl, sa, _, 2, v', rfl, rfl, hT2, rfl, by omega, a, d, v', D', ls', rfl, n2, sch', by omega, dp_same k12.off _ dv', fun v9 D9 H9 bad x9 n9 k9 => ⟨(by show 3 ≤ sizeLine; decide), fun p9 np9 => ?_⟩⟩
            obtain ⟨n10, k10, x10⟩ := new_dx (K := K) n9 np9 (.cons (.str z) (.cons (.int k) (.cons x9.1 .nil))) (by show 3 ≤ 100; decide) (gC (gS hz.okT) (gC gI (gC x9.2 gN)))
            exact q _ _ _ (bad_in bad) x10 n10 ((k12.trans k9).trans k10)
        · rw [decide_eq_false c0]
          exact ⟨rfl, n1, k1⟩
      · rw [decide_eq_false (show ¬ V.int ((su.length : Nat) : Int) = V.int 3 from fun z => c3 (by have := V.int.inj z; omega))]
        exact ⟨rfl, hh, Keep.refl a H⟩
    · rintro σ H1 ⟨rfl, n1, k1⟩
      refine ⟨(by show 0 ≤ sizeLine; exact Nat.zero_le _), fun p101 np101 => ?_⟩
      obtain ⟨n101, k101, x101⟩ := new_dx (K := K) n1 np101 .nil (by show 0 ≤ 100; decide) gN
      generalize upd H1 p101 (.tup []) = G101 at n101 k101 x101 ⊢
      have t101 := k1.trans k101
      have wA0 : WX BadS K a G101 (.ref p101) := ⟨_, x101, (bad_no (by unfold blkS; simp only [PyData.eqv, PyData.eqvAll, Bool.and_false, Bool.false_and]) (fun _ _ _ e => by cases e))⟩
      refine ⟨(by show 2 ≤ sizeLine; decide), fun p102 np102 => ?_⟩
      obtain ⟨n102, k102, x102⟩ := new_dx (K := K) n101 np102 (.cons (.str _) (.cons (.int _) .nil)) (by show 2 ≤ 100; decide) (gC (gS (x := "block")) (gC gI gN))
      generalize upd G101 p102 (.tup [.str "block", .int (1)]) = G102 at n102 k102 x102 ⊢
      have t102 := t101.trans k102
      have wA0 := wA0.keep k102
      have wA1 : WX BadS K a G102 (.ref p102) := ⟨_, x102, (bad_no (by unfold blkS; simp only [PyData.eqv, PyData.eqvAll, Bool.and_false, Bool.false_and]) (fun _ _ _ e => by cases e))⟩
      refine ⟨(by show 1 ≤ sizeLine; decide), fun p103 np103 => ?_⟩
      obtain ⟨n103, k103, x103⟩ := new_dxl (K := K) n102 np103 (.cons (.str _) .nil) (by show 1 ≤ 100; decide) (gC (gS (x := "block")) gN)
      generalize upd G102 p103 (.lst [.str "block"]) = G103 at n103 k103 x103 ⊢
      have t103 := t102.trans k103
      have wA0 := wA0.keep k103
      have wA1 := wA1.keep k103
      have wA2 : WX BadS K a G103 (.ref p103) := ⟨_, x103, (bad_no (by unfold blkS; simp only [PyData.eqv, PyData.eqvAll, Bool.and_false, Bool.false_and]) (fun _ _ _ e => by cases e))⟩
      have wA3 : WX BadS K a G103 (.str "block") := ⟨_, ⟨(.str _), (gS (x := "block"))⟩, (bad_no (by unfold blkS; simp only [PyData.eqv, PyData.eqvAll, Bool.and_false, Bool.false_and]) (fun _ _ _ e => by cases e))⟩
      refine ⟨(by show 1 ≤ sizeLine; decide), fun p104 np104 => ?_⟩
      obtain ⟨n104, k104, x104⟩ := new_dx (K := K) n103 np104 (.cons (.str _) .nil) (by show 1 ≤ 100; decide) (gC (gS (x := "blocks")) gN)
      generalize upd G103 p104 (.tup [.str "blocks"]) = G104 at n104 k104 x104 ⊢
      have t104 := t103.trans k104
      have wA0 := wA0.keep k104
      have wA1 := wA1.keep k104
      have wA2 := wA2.keep k104
      have wA3 := wA3.keep k104
      have wA4 : WX BadS K a G104 (.ref p104) := ⟨_, x104, (bad_no (by decide +kernel) (fun _ _ _ e => by cases e))⟩
      have wA5 : WX BadS K a G104 (.non) := ⟨_, ⟨.non, gO⟩, (bad_no (by unfold blkS; simp only [PyData.eqv, PyData.eqvAll, Bool.and_false, Bool.false_and]) (fun _ _ _ e => by cases e))⟩
      have wA6 : WX BadS K a G104 (.int (1)) := ⟨_, ⟨(.int _), gI⟩, (bad_no (by unfold blkS; simp only [PyData.eqv, PyData.eqvAll, Bool.and_false, Bool.false_and]) (fun _ _ _ e => by cases e))⟩
      refine ⟨_, rfl, (by show 1 ≤ sizeLine; decide), fun p105 np105 => ?_⟩
      obtain ⟨n105, k105, x105⟩ := new_dx (K := K) n104 np105 (.cons (dp_same t104.off _ dv) .nil) (by show 1 ≤ 100; decide) (gC gD gN)
      generalize upd G104 p105 (.tup [.ref sa]) = G105 at n105 k105 x105 ⊢
      have t105 := t104.trans k105
      have wA0 := wA0.keep k105
      have wA1 := wA1.keep k105
      have wA2 := wA2.keep k105
      have wA3 := wA3.keep k105
      have wA4 := wA4.keep k105
      have wA5 := wA5.keep k105
      have wA6 := wA6.keep k105
      have wA7 : WX BadS K a G105 (.ref p105) := ⟨_, x105, (bad_no (eqv_one sch) (fun _ _ _ e => by cases e))⟩
      refine ⟨_, rfl, sa, su, rfl, .inr (sqt_on (same_sqt t105.off sT)), fun p106 np106 => ?_⟩
      obtain ⟨n106, k106, x106⟩ := new_dxl (K := K) n105 np106 (dps_same t105.off _ sA) (by omega) gA
      generalize upd G105 p106 (.lst su) = G106 at n106 k106 x106 ⊢
      have t106 := t105.trans k106
      have wA0 := wA0.keep k106
      have wA1 := wA1.keep k106
      have wA2 := wA2.keep k106
      have wA3 := wA3.keep k106
      have wA4 := wA4.keep k106
      have wA5 := wA5.keep k106
      have wA6 := wA6.keep k106
      have wA7 := wA7.keep k106
      have wA8 : WX BadS K a G106 (.ref p106) := ⟨_, x106, (bad_no (by unfold blkS; simp only [PyData.eqv, PyData.eqvAll, Bool.and_false, Bool.false_and]) (fun _ _ _ e => by cases e))⟩
      have wA9 : WX BadS K a G106 (.bl true) := ⟨_, ⟨(.bl _), gB⟩, (bad_no (by unfold blkS; simp only [PyData.eqv, PyData.eqvAll, Bool.and_false, Bool.false_and]) (fun _ _ _ e => by cases e))⟩
      have wsA : ∀ x ∈ ([.ref p101, .ref p102, .ref p103, .str "block", .ref p104, .non, .int (1), .ref p105, .ref p106, .bl true] : List V), WX BadS K a G106 x := (av wA0 (av wA1 (av wA2 (av wA3 (av wA4 (av wA5 (av wA6 (av wA7 (av wA8 (av wA9 av0))))))))))
      clear wA0 wA1 wA2 wA3 wA4 wA5 wA6 wA7 wA8 wA9
      refine ⟨(by show 10 ≤ sizeLine; decide), fun p107 np107 => ?_⟩
      have n107 := n106.new (o := .lst [.ref p101, .ref p102, .ref p103, .str "block", .ref p104, .non, .int (1), .ref p105, .ref p106, .bl true]) np107
      have k107 := Keep.new (a := a) (o := .lst [.ref p101, .ref p102, .ref p103, .str "block", .ref p104, .non, .int (1), .ref p105, .ref p106, .bl true]) np107
      have q107 := (n106.ne np107).1
      have eA : upd G106 p107 (.lst [.ref p101, .ref p102, .ref p103, .str "block", .ref p104, .non, .int (1), .ref p105, .ref p106, .bl true]) p107 = some (.lst [.ref p101, .ref p102, .ref p103, .str "block", .ref p104, .non, .int (1), .ref p105, .ref p106, .bl true]) := upd_same
      generalize upd G106 p107 (.lst [.ref p101, .ref p102, .ref p103, .str "block", .ref p104, .non, .int (1), .ref p105, .ref p106, .bl true]) = G107 at n107 k107 eA ⊢
      have t107 := t106.trans k107
      have wsA := wx_keep wsA k107
      refine ⟨_, rfl, (by show 2 ≤ sizeLine; decide), fun p108 np108 => ?_⟩
      obtain ⟨n108, k108, x108⟩ := new_dx (K := K) n107 np108 (.cons (.str _) (.cons (.int _) .nil)) (by show 2 ≤ 100; decide) (gC (gS (x := "longer")) (gC gI gN))
      generalize upd G107 p108 (.tup [.str "longer", .int (1)]) = G108 at n108 k108 x108 ⊢
      have t108 := t107.trans k108
      have wsA := wx_keep wsA k108
      have eA := k108 _ _ eA q107
      have wB0 : WX BadS K a G108 (.ref p108) := ⟨_, x108, (bad_no (by unfold blkS; simp only [PyData.eqv, PyData.eqvAll, Bool.and_false, Bool.false_and]) (fun _ _ _ e => by cases e))⟩
      refine ⟨_, rfl, (by show 3 ≤ sizeLine; decide), fun p109 np109 => ?_⟩
      obtain ⟨n109, k109, x109⟩ := new_dx (K := K) n108 np109 (.cons (.str _) (.cons (dp_same t108.off _ dv) (.cons (.int _) .nil))) (by show 3 ≤ 100; decide) (gC (gS (x := "cut")) (gC gD (gC gI gN)))
      generalize upd G108 p109 (.tup [.str "cut", .ref sa, .int (1)]) = G109 at n109 k109 x109 ⊢
      have t109 := t108.trans k109
      have wsA := wx_keep wsA k109
      have eA := k109 _ _ eA q107
      have wB0 := wB0.keep k109
      have wB1 : WX BadS K a G109 (.ref p109) := ⟨_, x109, (bad_in (bad_no (by unfold blkS; simp only [PyData.eqv, PyData.eqvAll, Bool.and_false, Bool.false_and]) (fun _ _ _ e => by cases e)))⟩
      refine ⟨_, rfl, _, rfl, (by show 4 ≤ sizeLine; decide), fun p110 np110 => ?_⟩
      obtain ⟨n110, k110, x110⟩ := new_dx (K := K) n109 np110 (.cons (.str _) (.cons (.int _) (.cons (dp_same t109.off _ dv) (.cons (dp_same t109.off _ dv) .nil)))) (by show 4 ≤ 100; decide) (gC (gS (x := "tree")) (gC gI (gC gD (gC gD gN))))
      generalize upd G109 p110 (.tup [.str "tree", .int (1), .ref sa, .ref sa]) = G110 at n110 k110 x110 ⊢
      have t110 := t109.trans k110
      have wsA := wx_keep wsA k110
      have eA := k110 _ _ eA q107
      have wB0 := wB0.keep k110
      have wB1 := wB1.keep k110
      have wB2 : WX BadS K a G110 (.ref p110) := ⟨_, x110, (bad_no (by unfold blkS; simp only [PyData.eqv, PyData.eqvAll, Bool.and_false, Bool.false_and]) (fun _ _ _ e => by cases e))⟩
      refine ⟨_, rfl, (by show 1 ≤ sizeLine; decide), fun p111 np111 => ?_⟩
      obtain ⟨n111, k111, x111⟩ := new_dxl (K := K) n110 np111 (.cons (dp_same t110.off _ dv) .nil) (by show 1 ≤ 100; decide) (gC gD gN)
      generalize upd G110 p111 (.lst [.ref sa]) = G111 at n111 k111 x111 ⊢
      have t111 := t110.trans k111
      have wsA := wx_keep wsA k111
      have eA := k111 _ _ eA q107
      have wB0 := wB0.keep k111
      have wB1 := wB1.keep k111
      have wB2 := wB2.keep k111
      refine ⟨(by show 3 ≤ sizeLine; decide), fun p112 np112 => ?_⟩
      obtain ⟨n112, k112, x112⟩ := new_dx (K := K) n111 np112 (.cons (.str _) (.cons (.int _) (.cons x111.1 .nil))) (by show 3 ≤ 100; decide) (gC (gS (x := "cut")) (gC gI (gC x111.2 gN)))
      generalize upd G111 p112 (.tup [.str "cut", .int (1), .ref p111]) = G112 at n112 k112 x112 ⊢
      have t112 := t111.trans k112
      have wsA := wx_keep wsA k112
      have eA := k112 _ _ eA q107
      have wB0 := wB0.keep k112
      have wB1 := wB1.keep k112
      have wB2 := wB2.keep k112
      have wB3 : WX BadS K a G112 (.ref p112) := ⟨_, x112, (bad_in (bad_no (by unfold blkS; simp only [PyData.eqv, PyData.eqvAll, Bool.and_false, Bool.false_and]) (fun _ _ _ e => by cases e)))⟩
      have wsB : ∀ x ∈ ([.ref p108, .ref p109, .ref p110, .ref p112] : List V), WX BadS K a G112 x := (av wB0 (av wB1 (av wB2 (av wB3 av0))))
      clear wB0 wB1 wB2 wB3
      refine ⟨(by show 4 ≤ sizeLine; decide), fun p113 np113 => ?_⟩
      have n113 := n112.new (o := .lst [.ref p108, .ref p109, .ref p110, .ref p112]) np113
      have k113 := Keep.new (a := a) (o := .lst [.ref p108, .ref p109, .ref p110, .ref p112]) np113
      have q113 := (n112.ne np113).1
      have eB : upd G112 p113 (.lst [.ref p108, .ref p109, .ref p110, .ref p112]) p113 = some (.lst [.ref p108, .ref p109, .ref p110, .ref p112]) := upd_same
      generalize upd G112 p113 (.lst [.ref p108, .ref p109, .ref p110, .ref p112]) = G113 at n113 k113 eB ⊢
      have t113 := t112.trans k113
      have wsA := wx_keep wsA k113
      have eA := k113 _ _ eA q107
      have wsB := wx_keep wsB k113
      refine ⟨p107, p113, _, _, rfl, rfl, eA, eB, (by show 14 ≤ sizeLine; decide), fun p114 np114 => ?_⟩
      have wsBc : ∀ x ∈ ([.ref p101, .ref p102, .ref p103, .str "block", .ref p104, .non, .int (1), .ref p105, .ref p106, .bl true, .ref p108, .ref p109, .ref p110, .ref p112] : List V), WX BadS K a G113 x := av_app (l := [.ref p101, .ref p102, .ref p103, .str "block", .ref p104, .non, .int (1), .ref p105, .ref p106, .bl true]) (m := [.ref p108, .ref p109, .ref p110, .ref p112]) wsA wsB
      have n114 := n113.new (o := .lst [.ref p101, .ref p102, .ref p103, .str "block", .ref p104, .non, .int (1), .ref p105, .ref p106, .bl true, .ref p108, .ref p109, .ref p110, .ref p112]) np114
      have k114 := Keep.new (a := a) (o := .lst [.ref p101, .ref p102, .ref p103, .str "block", .ref p104, .non, .int (1), .ref p105, .ref p106, .bl true, .ref p108, .ref p109, .ref p110, .ref p112]) np114
      have q114 := (n113.ne np114).1
      have eBc : upd G113 p114 (.lst [.ref p101, .ref p102, .ref p103, .str "block", .ref p104, .non, .int (1), .ref p105, .ref p106, .bl true, .ref p108, .ref p109, .ref p110, .ref p112]) p114 = some (.lst [.ref p101, .ref p102, .ref p103, .str "block", .ref p104, .non, .int (1), .ref p105, .ref p106, .bl true, .ref p108, .ref p109, .ref p110, .ref p112]) := upd_same
      change gName 2 (V.ref p114) _ (upd G113 p114 (.lst [.ref p101, .ref p102, .ref p103, .str "block", .ref p104, .non, .int (1), .ref p105, .ref p106, .bl true, .ref p108, .ref p109, .ref p110, .ref p112])) _
      generalize upd G113 p114 (.lst [.ref p101, .ref p102, .ref p103, .str "block", .ref p104, .non, .int (1), .ref p105, .ref p106, .bl true, .ref p108, .ref p109, .ref p110, .ref p112]) = G114 at n114 k114 eBc ⊢
      have t114 := t113.trans k114
      have wsBc := wx_keep wsBc k114
      clear wsA eA wsB eB
      refine ⟨_, rfl, _, rfl, (by show 3 ≤ sizeLine; decide), fun p115 np115 => ?_⟩
      obtain ⟨n115, k115, x115⟩ := new_dx (K := K) n114 np115 (.cons (.str _) (.cons (.bl _) (.cons (dp_same t114.off _ dv) .nil))) (by show 3 ≤ 100; decide) (gC (gS (x := "cut")) (gC gB (gC gD gN)))
      generalize upd G114 p115 (.tup [.str "cut", .bl true, .ref sa]) = G115 at n115 k115 x115 ⊢
      have t115 := t114.trans k115
      have wsBc := wx_keep wsBc k115
      have eBc := k115 _ _ eBc q114
      have wC0 : WX BadS K a G115 (.ref p115) := ⟨_, x115, (bad_num fun c hc => no_cut hc (fun _ _ => rfl))⟩
      refine ⟨_, rfl, (by show 3 ≤ sizeLine; decide), fun p116 np116 => ?_⟩
      obtain ⟨n116, k116, x116⟩ := new_dx (K := K) n115 np116 (.cons (.str _) (.cons (.str _) (.cons (dp_same t115.off _ dv) .nil))) (by show 3 ≤ 100; decide) (gC (gS (x := "cut")) (gC (gS (x := "1")) (gC gD gN)))
      generalize upd G115 p116 (.tup [.str "cut", .str "1", .ref sa]) = G116 at n116 k116 x116 ⊢
      have t116 := t115.trans k116
      have wsBc := wx_keep wsBc k116
      have eBc := k116 _ _ eBc q114
      have wC0 := wC0.keep k116
      have wC1 : WX BadS K a G116 (.ref p116) := ⟨_, x116, (bad_num fun c hc => no_cut hc (fun _ _ => rfl))⟩
      refine ⟨_, rfl, (by show 3 ≤ sizeLine; decide), fun p117 np117 => ?_⟩
      obtain ⟨n117, k117, x117⟩ := new_dx (K := K) n116 np117 (.cons (.str _) (.cons (.int _) (.cons (dp_same t116.off _ dv) .nil))) (by show 3 ≤ 100; decide) (gC (gS (x := "cut")) (gC gI (gC gD gN)))
      generalize upd G116 p117 (.tup [.str "cut", .int (0), .ref sa]) = G117 at n117 k117 x117 ⊢
      have t117 := t116.trans k117
      have wsBc := wx_keep wsBc k117
      have eBc := k117 _ _ eBc q114
      have wC0 := wC0.keep k117
      have wC1 := wC1.keep k117
      have wC2 : WX BadS K a G117 (.ref p117) := ⟨_, x117, (bad_num fun c hc => no_cut hc (fun _ _ => whole_low (by decide)))⟩
      refine ⟨_, rfl, (by show 3 ≤ sizeLine; decide), fun p118 np118 => ?_⟩
      obtain ⟨n118, k118, x118⟩ := new_dx (K := K) n117 np118 (.cons (.str _) (.cons (.int _) (.cons (dp_same t117.off _ dv) .nil))) (by show 3 ≤ 100; decide) (gC (gS (x := "longer")) (gC gI (gC gD gN)))
      generalize upd G117 p118 (.tup [.str "longer", .int (21), .ref sa]) = G118 at n118 k118 x118 ⊢
      have t118 := t117.trans k118
      have wsBc := wx_keep wsBc k118
      have eBc := k118 _ _ eBc q114
      have wC0 := wC0.keep k118
      have wC1 := wC1.keep k118
      have wC2 := wC2.keep k118
      have wC3 : WX BadS K a G118 (.ref p118) := ⟨_, x118, (bad_num fun c hc => no_long hc (by decide))⟩
      have wsC : ∀ x ∈ ([.ref p115, .ref p116, .ref p117, .ref p118] : List V), WX BadS K a G118 x := (av wC0 (av wC1 (av wC2 (av wC3 av0))))
      clear wC0 wC1 wC2 wC3
      refine ⟨(by show 4 ≤ sizeLine; decide), fun p119 np119 => ?_⟩
      have n119 := n118.new (o := .lst [.ref p115, .ref p116, .ref p117, .ref p118]) np119
      have k119 := Keep.new (a := a) (o := .lst [.ref p115, .ref p116, .ref p117, .ref p118]) np119
      have q119 := (n118.ne np119).1
      have eC : upd G118 p119 (.lst [.ref p115, .ref p116, .ref p117, .ref p118]) p119 = some (.lst [.ref p115, .ref p116, .ref p117, .ref p118]) := upd_same
      generalize upd G118 p119 (.lst [.ref p115, .ref p116, .ref p117, .ref p118]) = G119 at n119 k119 eC ⊢
      have t119 := t118.trans k119
      have wsBc := wx_keep wsBc k119
      have eBc := k119 _ _ eBc q114
      have wsC := wx_keep wsC k119
      refine ⟨p114, p119, _, _, rfl, rfl, eBc, eC, (by show 18 ≤ sizeLine; decide), fun p120 np120 => ?_⟩
      have wsCc : ∀ x ∈ ([.ref p101, .ref p102, .ref p103, .str "block", .ref p104, .non, .int (1), .ref p105, .ref p106, .bl true, .ref p108, .ref p109, .ref p110, .ref p112, .ref p115, .ref p116, .ref p117, .ref p118] : List V), WX BadS K a G119 x := av_app (l := [.ref p101, .ref p102, .ref p103, .str "block", .ref p104, .non, .int (1), .ref p105, .ref p106, .bl true, .ref p108, .ref p109, .ref p110, .ref p112]) (m := [.ref p115, .ref p116, .ref p117, .ref p118]) wsBc wsC
      have n120 := n119.new (o := .lst [.ref p101, .ref p102, .ref p103, .str "block", .ref p104, .non, .int (1), .ref p105, .ref p106, .bl true, .ref p108, .ref p109, .ref p110, .ref p112, .ref p115, .ref p116, .ref p117, .ref p118]) np120
      have k120 := Keep.new (a := a) (o := .lst [.ref p101, .ref p102, .ref p103, .str "block", .ref p104, .non, .int (1), .ref p105, .ref p106, .bl true, .ref p108, .ref p109, .ref p110, .ref p112, .ref p115, .ref p116, .ref p117, .ref p118]) np120
      have q120 := (n119.ne np120).1
      have eCc : upd G119 p120 (.lst [.ref p101, .ref p102, .ref p103, .str "block", .ref p104, .non, .int (1), .ref p105, .ref p106, .bl true, .ref p108, .ref p109, .ref p110, .ref p112, .ref p115, .ref p116, .ref p117, .ref p118]) p120 = some (.lst [.ref p101, .ref p102, .ref p103, .str "block", .ref p104, .non, .int (1), .ref p105, .ref p106, .bl true, .ref p108, .ref p109, .ref p110, .ref p112, .ref p115, .ref p116, .ref p117, .ref p118]) := upd_same
      change gName 2 (V.ref p120) _ (upd G119 p120 (.lst [.ref p101, .ref p102, .ref p103, .str "block", .ref p104, .non, .int (1), .ref p105, .ref p106, .bl true, .ref p108, .ref p109, .ref p110, .ref p112, .ref p115, .ref p116, .ref p117, .ref p118])) _
      generalize upd G119 p120 (.lst [.ref p101, .ref p102, .ref p103, .str "block", .ref p104, .non, .int (1), .ref p105, .ref p106, .bl true, .ref p108, .ref p109, .ref p110, .ref p112, .ref p115, .ref p116, .ref p117, .ref p118]) = G120 at n120 k120 eCc ⊢
      have t120 := t119.trans k120
      have wsCc := wx_keep wsCc k120
      clear wsBc eBc wsC eC
      refine ⟨_, rfl, _, rfl, (by show 3 ≤ sizeLine; decide), fun p121 np121 => ?_⟩
      obtain ⟨n121, k121, x121⟩ := new_dx (K := K) n120 np121 (.cons (.str _) (.cons (.int _) (.cons (dp_same t120.off _ dv) .nil))) (by show 3 ≤ 100; decide) (gC (gS (x := "longer")) (gC gI (gC gD gN)))
      generalize upd G120 p121 (.tup [.str "longer", .int (0), .ref sa]) = G121 at n121 k121 x121 ⊢
      have t121 := t120.trans k121
      have wsCc := wx_keep wsCc k121
      have eCc := k121 _ _ eCc q120
      have wD0 : WX BadS K a G121 (.ref p121) := ⟨_, x121, (bad_num fun c hc => no_long hc (by decide))⟩
      refine ⟨_, rfl, (by show 3 ≤ sizeLine; decide), fun p122 np122 => ?_⟩
      obtain ⟨n122, k122, x122⟩ := new_dx (K := K) n121 np122 (.cons (.str _) (.cons (.int _) (.cons (dp_same t121.off _ dv) .nil))) (by show 3 ≤ 100; decide) (gC (gS (x := "tree")) (gC gI (gC gD gN)))
      generalize upd G121 p122 (.tup [.str "tree", .int (9), .ref sa]) = G122 at n122 k122 x122 ⊢
      have t122 := t121.trans k122
      have wsCc := wx_keep wsCc k122
      have eCc := k122 _ _ eCc q120
      have wD0 := wD0.keep k122
      have wD1 : WX BadS K a G122 (.ref p122) := ⟨_, x122, (bad_num fun c hc => no_tree hc (by decide))⟩
      refine ⟨_, rfl, (by show 3 ≤ sizeLine; decide), fun p123 np123 => ?_⟩
      obtain ⟨n123, k123, x123⟩ := new_dx (K := K) n122 np123 (.cons (.str _) (.cons (.int _) (.cons (dp_same t122.off _ dv) .nil))) (by show 3 ≤ 100; decide) (gC (gS (x := "counter")) (gC gI (gC gD gN)))
      generalize upd G122 p123 (.tup [.str "counter", .int (0), .ref sa]) = G123 at n123 k123 x123 ⊢
      have t123 := t122.trans k123
      have wsCc := wx_keep wsCc k123
      have eCc := k123 _ _ eCc q120
      have wD0 := wD0.keep k123
      have wD1 := wD1.keep k123
      have wD2 : WX BadS K a G123 (.ref p123) := ⟨_, x123, (bad_num fun c hc => no_cnt hc (fun _ _ => whole_low (by decide)))⟩
      refine ⟨_, rfl, (by show 3 ≤ sizeLine; decide), fun p124 np124 => ?_⟩
      obtain ⟨n124, k124, x124⟩ := new_dx (K := K) n123 np124 (.cons (.str _) (.cons (.int _) (.cons (dp_same t123.off _ dv) .nil))) (by show 3 ≤ 100; decide) (gC (gS (x := "counter")) (gC gI (gC gD gN)))
      generalize upd G123 p124 (.tup [.str "counter", .int (257), .ref sa]) = G124 at n124 k124 x124 ⊢
      have t124 := t123.trans k124
      have wsCc := wx_keep wsCc k124
      have eCc := k124 _ _ eCc q120
      have wD0 := wD0.keep k124
      have wD1 := wD1.keep k124
      have wD2 := wD2.keep k124
      have wD3 : WX BadS K a G124 (.ref p124) := ⟨_, x124, (bad_num fun c hc => no_cnt hc (fun l hl => whole_high (by have := two_pow_le (b := 8) hl; omega)))⟩
      have wsD : ∀ x ∈ ([.ref p121, .ref p122, .ref p123, .ref p124] : List V), WX BadS K a G124 x := (av wD0 (av wD1 (av wD2 (av wD3 av0))))
      clear wD0 wD1 wD2 wD3
      refine ⟨(by show 4 ≤ sizeLine; decide), fun p125 np125 => ?_⟩
      have n125 := n124.new (o := .lst [.ref p121, .ref p122, .ref p123, .ref p124]) np125
      have k125 := Keep.new (a := a) (o := .lst [.ref p121, .ref p122, .ref p123, .ref p124]) np125
      have q125 := (n124.ne np125).1
      have eD : upd G124 p125 (.lst [.ref p121, .ref p122, .ref p123, .ref p124]) p125 = some (.lst [.ref p121, .ref p122, .ref p123, .ref p124]) := upd_same
      generalize upd G124 p125 (.lst [.ref p121, .ref p122, .ref p123, .ref p124]) = G125 at n125 k125 eD ⊢
      have t125 := t124.trans k125
      have wsCc := wx_keep wsCc k125
      have eCc := k125 _ _ eCc q120
      have wsD := wx_keep wsD k125
      refine ⟨p120, p125, _, _, rfl, rfl, eCc, eD, (by show 22 ≤ sizeLine; decide), fun p126 np126 => ?_⟩
      have wsDc : ∀ x ∈ ([.ref p101, .ref p102, .ref p103, .str "block", .ref p104, .non, .int (1), .ref p105, .ref p106, .bl true, .ref p108, .ref p109, .ref p110, .ref p112, .ref p115, .ref p116, .ref p117, .ref p118, .ref p121, .ref p122, .ref p123, .ref p124] : List V), WX BadS K a G125 x := av_app (l := [.ref p101, .ref p102, .ref p103, .str "block", .ref p104, .non, .int (1), .ref p105, .ref p106, .bl true, .ref p108, .ref p109, .ref p110, .ref p112, .ref p115, .ref p116, .ref p117, .ref p118]) (m := [.ref p121, .ref p122, .ref p123, .ref p124]) wsCc wsD
      have n126 := n125.new (o := .lst [.ref p101, .ref p102, .ref p103, .str "block", .ref p104, .non, .int (1), .ref p105, .ref p106, .bl true, .ref p108, .ref p109, .ref p110, .ref p112, .ref p115, .ref p116, .ref p117, .ref p118, .ref p121, .ref p122, .ref p123, .ref p124]) np126
      have k126 := Keep.new (a := a) (o := .lst [.ref p101, .ref p102, .ref p103, .str "block", .ref p104, .non, .int (1), .ref p105, .ref p106, .bl true, .ref p108, .ref p109, .ref p110, .ref p112, .ref p115, .ref p116, .ref p117, .ref p118, .ref p121, .ref p122, .ref p123, .ref p124]) np126
      have q126 := (n125.ne np126).1
      have eDc : upd G125 p126 (.lst [.ref p101, .ref p102, .ref p103, .str "block", .ref p104, .non, .int (1), .ref p105, .ref p106, .bl true, .ref p108, .ref p109, .ref p110, .ref p112, .ref p115, .ref p116, .ref p117, .ref p118, .ref p121, .ref p122, .ref p123, .ref p124]) p126 = some (.lst [.ref p101, .ref p102, .ref p103, .str "block", .ref p104, .non, .int (1), .ref p105, .ref p106, .bl true, .ref p108, .ref p109, .ref p110, .ref p112, .ref p115, .ref p116, .ref p117, .ref p118, .ref p121, .ref p122, .ref p123, .ref p124]) := upd_same
      change gName 2 (V.ref p126) _ (upd G125 p126 (.lst [.ref p101, .ref p102, .ref p103, .str "block", .ref p104, .non, .int (1), .ref p105, .ref p106, .bl true, .ref p108, .ref p109, .ref p110, .ref p112, .ref p115, .ref p116, .ref p117, .ref p118, .ref p121, .ref p122, .ref p123, .ref p124])) _
      generalize upd G125 p126 (.lst [.ref p101, .ref p102, .ref p103, .str "block", .ref p104, .non, .int (1), .ref p105, .ref p106, .bl true, .ref p108, .ref p109, .ref p110, .ref p112, .ref p115, .ref p116, .ref p117, .ref p118, .ref p121, .ref p122, .ref p123, .ref p124]) = G126 at n126 k126 eDc ⊢
      have t126 := t125.trans k126
      have wsDc := wx_keep wsDc k126
      clear wsCc eCc wsD eD
      refine ⟨_, rfl, _, rfl, (by show 3 ≤ sizeLine; decide), fun p127 np127 => ?_⟩
      obtain ⟨n127, k127, x127⟩ := new_dx (K := K) n126 np127 (.cons (.str _) (.cons (.int _) (.cons (dp_same t126.off _ dv) .nil))) (by show 3 ≤ 100; decide) (gC (gS (x := "cut")) (gC gI (gC gD gN)))
      generalize upd G126 p127 (.tup [.str "cut", .int (41), .ref sa]) = G127 at n127 k127 x127 ⊢
      have t127 := t126.trans k127
      have wsDc := wx_keep wsDc k127
      have eDc := k127 _ _ eDc q126
      have wE0 : WX BadS K a G127 (.ref p127) := ⟨_, x127, (bad_num fun c hc => no_cut hc (fun m hm => whole_high (by omega)))⟩
      refine ⟨_, rfl, (by show 3 ≤ sizeLine; decide), fun p128 np128 => ?_⟩
      obtain ⟨n128, k128, x128⟩ := new_dx (K := K) n127 np128 (.cons (.str _) (.cons (.int _) (.cons (dp_same t127.off _ dv) .nil))) (by show 3 ≤ 100; decide) (gC (gS (x := "tree")) (gC gI (gC gD gN)))
      generalize upd G127 p128 (.tup [.str "tree", .int (0), .ref sa]) = G128 at n128 k128 x128 ⊢
      have t128 := t127.trans k128
      have wsDc := wx_keep wsDc k128
      have eDc := k128 _ _ eDc q126
      have wE0 := wE0.keep k128
      have wE1 : WX BadS K a G128 (.ref p128) := ⟨_, x128, (bad_num fun c hc => no_tree hc (by decide))⟩
      refine ⟨_, rfl, (by show 3 ≤ sizeLine; decide), fun p129 np129 => ?_⟩
      obtain ⟨n129, k129, x129⟩ := new_dx (K := K) n128 np129 (.cons (.str _) (.cons (.int _) (.cons (dp_same t128.off _ dv) .nil))) (by show 3 ≤ 100; decide) (gC (gS (x := "cuts")) (gC gI (gC gD gN)))
      generalize upd G128 p129 (.tup [.str "cuts", .int (1), .ref sa]) = G129 at n129 k129 x129 ⊢
      have t129 := t128.trans k129
      have wsDc := wx_keep wsDc k129
      have eDc := k129 _ _ eDc q126
      have wE0 := wE0.keep k129
      have wE1 := wE1.keep k129
      have wE2 : WX BadS K a G129 (.ref p129) := ⟨_, x129, (bad_num fun c _ => no_name (by decide +kernel) (by decide +kernel) (by decide +kernel) (by decide +kernel))⟩
      refine ⟨1, rfl, _, rfl, (by show 3 ≤ sizeLine; decide), fun p130 np130 => ?_⟩
      obtain ⟨n130, k130, x130⟩ := new_dx (K := K) n129 np130 (.cons (.str _) (.cons (.int _) (.cons (dp_same t129.off _ dv) .nil))) (by show 3 ≤ 100; decide) (gC (gS (x := "cut")) (gC gI (gC gD gN)))
      generalize upd G129 p130 (.tup [.str "cut", .int (-1), .ref sa]) = G130 at n130 k130 x130 ⊢
      have t130 := t129.trans k130
      have wsDc := wx_keep wsDc k130
      have eDc := k130 _ _ eDc q126
      have wE0 := wE0.keep k130
      have wE1 := wE1.keep k130
      have wE2 := wE2.keep k130
      have wE3 : WX BadS K a G130 (.ref p130) := ⟨_, x130, (bad_num fun c hc => no_cut hc (fun _ _ => whole_low (by decide)))⟩
      have wsE : ∀ x ∈ ([.ref p127, .ref p128, .ref p129, .ref p130] : List V), WX BadS K a G130 x := (av wE0 (av wE1 (av wE2 (av wE3 av0))))
      clear wE0 wE1 wE2 wE3
      refine ⟨(by show 4 ≤ sizeLine; decide), fun p131 np131 => ?_⟩
      have n131 := n130.new (o := .lst [.ref p127, .ref p128, .ref p129, .ref p130]) np131
      have k131 := Keep.new (a := a) (o := .lst [.ref p127, .ref p128, .ref p129, .ref p130]) np131
      have q131 := (n130.ne np131).1
      have eE : upd G130 p131 (.lst [.ref p127, .ref p128, .ref p129, .ref p130]) p131 = some (.lst [.ref p127, .ref p128, .ref p129, .ref p130]) := upd_same
      generalize upd G130 p131 (.lst [.ref p127, .ref p128, .ref p129, .ref p130]) = G131 at n131 k131 eE ⊢
      have t131 := t130.trans k131
      have wsDc := wx_keep wsDc k131
      have eDc := k131 _ _ eDc q126
      have wsE := wx_keep wsE k131
      refine ⟨p126, p131, _, _, rfl, rfl, eDc, eE, (by show 26 ≤ sizeLine; decide), fun p132 np132 => ?_⟩
      have wsEc : ∀ x ∈ ([.ref p101, .ref p102, .ref p103, .str "block", .ref p104, .non, .int (1), .ref p105, .ref p106, .bl true, .ref p108, .ref p109, .ref p110, .ref p112, .ref p115, .ref p116, .ref p117, .ref p118, .ref p121, .ref p122, .ref p123, .ref p124, .ref p127, .ref p128, .ref p129, .ref p130] : List V), WX BadS K a G131 x := av_app (l := [.ref p101, .ref p102, .ref p103, .str "block", .ref p104, .non, .int (1), .ref p105, .ref p106, .bl true, .ref p108, .ref p109, .ref p110, .ref p112, .ref p115, .ref p116, .ref p117, .ref p118, .ref p121, .ref p122, .ref p123, .ref p124]) (m := [.ref p127, .ref p128, .ref p129, .ref p130]) wsDc wsE
      have n132 := n131.new (o := .lst [.ref p101, .ref p102, .ref p103, .str "block", .ref p104, .non, .int (1), .ref p105, .ref p106, .bl true, .ref p108, .ref p109, .ref p110, .ref p112, .ref p115, .ref p116, .ref p117, .ref p118, .ref p121, .ref p122, .ref p123, .ref p124, .ref p127, .ref p128, .ref p129, .ref p130]) np132
      have k132 := Keep.new (a := a) (o := .lst [.ref p101, .ref p102, .ref p103, .str "block", .ref p104, .non, .int (1), .ref p105, .ref p106, .bl true, .ref p108, .ref p109, .ref p110, .ref p112, .ref p115, .ref p116, .ref p117, .ref p118, .ref p121, .ref p122, .ref p123, .ref p124, .ref p127, .ref p128, .ref p129, .ref p130]) np132
      have q132 := (n131.ne np132).1
      have eEc : upd G131 p132 (.lst [.ref p101, .ref p102, .ref p103, .str "block", .ref p104, .non, .int (1), .ref p105, .ref p106, .bl true, .ref p108, .ref p109, .ref p110, .ref p112, .ref p115, .ref p116, .ref p117, .ref p118, .ref p121, .ref p122, .ref p123, .ref p124, .ref p127, .ref p128, .ref p129, .ref p130]) p132 = some (.lst [.ref p101, .ref p102, .ref p103, .str "block", .ref p104, .non, .int (1), .ref p105, .ref p106, .bl true, .ref p108, .ref p109, .ref p110, .ref p112, .ref p115, .ref p116, .ref p117, .ref p118, .ref p121, .ref p122, .ref p123, .ref p124, .ref p127, .ref p128, .ref p129, .ref p130]) := upd_same
      change gName 2 (V.ref p132) _ (upd G131 p132 (.lst [.ref p101, .ref p102, .ref p103, .str "block", .ref p104, .non, .int (1), .ref p105, .ref p106, .bl true, .ref p108, .ref p109, .ref p110, .ref p112, .ref p115, .ref p116, .ref p117, .ref p118, .ref p121, .ref p122, .ref p123, .ref p124, .ref p127, .ref p128, .ref p129, .ref p130])) _
      generalize upd G131 p132 (.lst [.ref p101, .ref p102, .ref p103, .str "block", .ref p104, .non, .int (1), .ref p105, .ref p106, .bl true, .ref p108, .ref p109, .ref p110, .ref p112, .ref p115, .ref p116, .ref p117, .ref p118, .ref p121, .ref p122, .ref p123, .ref p124, .ref p127, .ref p128, .ref p129, .ref p130]) = G132 at n132 k132 eEc ⊢
      have t132 := t131.trans k132
      have wsEc := wx_keep wsEc k132
      clear wsDc eDc wsE eE
      refine ⟨_, rfl, _, rfl, _, rfl, p132, _, rfl, .inl (.inl (.inl eEc)), a, d, 26, rfl, by decide, n132, fun r H9 l9 u9 n9 k9 => ?_⟩
      obtain ⟨x, hat, hmem⟩ := atI_mem (xs := [.ref p101, .ref p102, .ref p103, .str "block", .ref p104, .non, .int (1), .ref p105, .ref p106, .bl true, .ref p108, .ref p109, .ref p110, .ref p112, .ref p115, .ref p116, .ref p117, .ref p118, .ref p121, .ref p122, .ref p123, .ref p124, .ref p127, .ref p128, .ref p129, .ref p130]) l9 (show r < 26 from u9)
      obtain ⟨D9, x9, bad9⟩ := wsEc x hmem
      exact ⟨p132, _, r, x, rfl, rfl, .inl (.inl (k9 _ _ eEc q132)), hat, q x D9 H9 bad9 (x9.keep k9) n9 (t132.trans k9)⟩
theorem no_bent31 {f : Addr} {fd : FuncData} (k : Nat) : FnOk P w K mg base CX0 k f fd ["hand", "scheme"] (spBent31B K 0) :=
  ⟨fun _ _ _ _ h => absurd h.1 (by decide), fun _ _ _ _ _ _ _ _ _ _ _ _ _ h => absurd h.1 (by decide)⟩
theorem ok_bent31 {f : Addr} {fd : FuncData} (D : Df K mg "_law_bent" s_law_bent ["hand", "scheme"] f fd) (T : Txt K w mg cs) (c_law_take : Cl P w K mg base CX0 1 "_law_take" spTake) : ∀ j : Nat, FnOk P w K mg base CX0 (j + 2) f fd ["hand", "scheme"] (spBent31 K j)
  | 0 => bent_step31 D T 0 c_law_take (D.cl (no_bent31 _))
  | j + 1 => bent_step31 D T (j + 1) c_law_take (D.cl ((ok_bent31 D T c_law_take j).imp fun _ _ _ _ h => h.2))

end
/-! ### a layer that does not fit -/
theorem unfit_no {D x y : PyData} {ls : List (PyData × PyData)} {b t : Blk} (sch : Sch D ls) (hl : ls.length ≤ 6) (e : builtL ls b = some t) (h : lay1 (x, y) t = none) : builtD (.tuple [x, y, D]) b = none := by
  unfold builtD
  refine bad_layer (f := 6) fun ls' e' => ?_
  rw [sch_lays sch 6 hl] at e'
  cases e'
  rw [e]
  exact h
theorem fn_only {z : Str} {Y : PyData} {n l m : Nat} {tabs : List (List (List Bool))} (ok : (Blk.fn n l m tabs).Ok) (h : z ≠ "counter") : lay1 (.str z, Y) (.fn n l m tabs) = none := by
  cases e : lay1 (.str z, Y) (.fn n l m tabs) with
  | none => rfl
  | some c' =>
    rcases lay_some ok e with ⟨_, _, _, _, q, _⟩ | ⟨_, _, _, _, q, _⟩ | ⟨q, _⟩ | ⟨_, _, _, _, _, q, _⟩
    · cases q
    · cases q
    · exact absurd (PyData.str.inj q) h
    · cases q
theorem fn_cnt {k : Int} {n l m : Nat} {tabs : List (List (List Bool))} (ok : (Blk.fn n l m tabs).Ok) (h : ((2 ^ l : Nat) : Int) < k) : lay1 (.str "counter", .int k) (.fn n l m tabs) = none := by
  cases e : lay1 (.str "counter", .int k) (.fn n l m tabs) with
  | none => rfl
  | some c' =>
    rcases lay_some ok e with ⟨_, _, _, _, q, _⟩ | ⟨_, _, _, _, q, _⟩ | ⟨_, _, _, _, j, _, q, q2, _, _, j2, _⟩ | ⟨_, _, _, _, _, q, _⟩
    · cases q
    · cases q
    · cases q
      cases q2
      exact absurd (Int.ofNat_le.mpr j2) (by omega)
    · cases q
theorem fn_wide {k : Nat} {n l m : Nat} {tabs : List (List (List Bool))} (ok : (Blk.fn n l m tabs).Ok) (h : 40 < k * m) : lay1 (.str "counter", .int (k : Int)) (.fn n l m tabs) = none := by
  cases e : lay1 (.str "counter", .int (k : Int)) (.fn n l m tabs) with
  | none => rfl
  | some c' =>
    rcases lay_some ok e with ⟨_, _, _, _, q, _⟩ | ⟨_, _, _, _, q, _⟩ | ⟨_, _, _, _, j, _, q, q2, _, _, _, j3, _⟩ | ⟨_, _, _, _, _, q, _⟩
    · cases q
    · cases q
    · cases q
      have q3 : k = j := Int.ofNat.inj (PyData.int.inj q2)
      subst q3
      omega
    · cases q
theorem gen_cnt {Y : PyData} {n m : Nat} {rows : List (List Bool)} (ok : (Blk.gen n m rows).Ok) : lay1 (.str "counter", Y) (.gen n m rows) = none := by
  cases e : lay1 (.str "counter", Y) (.gen n m rows) with
  | none => rfl
  | some c' =>
    rcases lay_some ok e with ⟨q, _⟩ | ⟨q, _⟩ | ⟨_, _, _, _, _, _, q, _⟩ | ⟨q, _⟩
    · exact absurd (PyData.str.inj q) (by decide +kernel)
    · exact absurd (PyData.str.inj q) (by decide +kernel)
    · cases q
    · exact absurd (PyData.str.inj q) (by decide +kernel)
theorem gen_cut {k : Int} {n m : Nat} {rows : List (List Bool)} (ok : (Blk.gen n m rows).Ok) (h : (m : Int) < k) : lay1 (.str "cut", .int k) (.gen n m rows) = none := by
  cases e : lay1 (.str "cut", .int k) (.gen n m rows) with
  | none => rfl
  | some c' =>
    rcases lay_some ok e with ⟨q, _⟩ | ⟨q, _⟩ | ⟨q, _⟩ | ⟨_, _, _, j, _, q, q2, _, _, j2, _⟩
    · exact absurd (PyData.str.inj q) (by decide +kernel)
    · exact absurd (PyData.str.inj q) (by decide +kernel)
    · exact absurd (PyData.str.inj q) (by decide +kernel)
    · cases q
      cases q2
      omega
theorem gen_long {Y : PyData} {n m : Nat} {rows : List (List Bool)} (ok : (Blk.gen n m rows).Ok) (h : m ≠ n + 1) : lay1 (.str "longer", Y) (.gen n m rows) = none := by
  cases e : lay1 (.str "longer", Y) (.gen n m rows) with
  | none => rfl
  | some c' =>
    rcases lay_some ok e with ⟨_, _, _, _, q, _⟩ | ⟨q, _⟩ | ⟨q, _⟩ | ⟨q, _⟩
    · cases q
      exact absurd rfl h
    all_goals exact absurd (PyData.str.inj q) (by decide +kernel)
theorem gen_tree {Y : PyData} {n m : Nat} {rows : List (List Bool)} (ok : (Blk.gen n m rows).Ok) (h : m ≠ 2 * n) : lay1 (.str "tree", Y) (.gen n m rows) = none := by
  cases e : lay1 (.str "tree", Y) (.gen n m rows) with
  | none => rfl
  | some c' =>
    rcases lay_some ok e with ⟨q, _⟩ | ⟨_, _, _, _, q, _⟩ | ⟨q, _⟩ | ⟨q, _⟩
    · exact absurd (PyData.str.inj q) (by decide +kernel)
    · cases q
      exact absurd rfl h
    all_goals exact absurd (PyData.str.inj q) (by decide +kernel)
theorem tree_deep {n : Nat} {rows : List (List Bool)} (ok : (Blk.gen n (2 * n) rows).Ok) (h : 12 < n + 8) : lay1 (.str "tree", .int 8) (.gen n (2 * n) rows) = none := by
  cases e : lay1 (.str "tree", .int 8) (.gen n (2 * n) rows) with
  | none => rfl
  | some c' =>
    rcases lay_some ok e with ⟨q, _⟩ | ⟨_, _, j, _, q, q2, _, _, _, _, nj, _⟩ | ⟨q, _⟩ | ⟨q, _⟩
    · exact absurd (PyData.str.inj q) (by decide +kernel)
    · cases q
      have q3 : (8 : Int) = (j : Int) := PyData.int.inj q2
      omega
    all_goals exact absurd (PyData.str.inj q) (by decide +kernel)
def NoB (b : Blk) (D : PyData) : Prop := builtD D b = none
def spUnfit (K : PySem.W.Frag) : Sp := fun vs H Q _ => ∃ (a d : Addr) (sv tv : V) (D : PyData) (ls : List (PyData × PyData)) (b t : Blk), vs = [.ref a, sv, tv] ∧ Hnd H a d ∧ Sch D ls ∧ ls.length ≤ 6 ∧ builtL ls b = some t ∧ Dp K (off a H) sv D ∧ BlOn K a H tv t ∧
  ∀ v D' H', builtD D' b = none → DX K a H' v D' → Hnd H' a d → Keep a H H' → Q v H'

section
variable {P : Program} {w : World} {K : PySem.W.Frag} {mg : Str → Option Value} {base : Heap} {cs : Cs}
theorem ok_unfit {f : Addr} {fd : FuncData} (D : Df K mg "_law_unfit" s_law_unfit ["hand", "scheme", "table"] f fd) (T : Txt K w mg cs) (c_law_take : Cl P w K mg base CX0 1 "_law_take" spTake) : FnOk P w K mg base CX0 2 f fd ["hand", "scheme", "table"] (spUnfit K) := by
  refine D.fn.ok sc_law_unfit (fun vs H Q E h => ?_) (fun cdv A outer s H vs Q E hr h => ?_)
  · obtain ⟨a, d, sv, tv, D, ls, b, t, rfl, _⟩ := h
    rfl
  · obtain ⟨a, d, sv, tv, D, ls, b, t, rfl, hh, sch, hl, eb, dv, ⟨bt, ok⟩, q⟩ := h
    refine ⟨_, (pss_cons (ps_if (pt_cmpR op_eq (pe_ix (ixT K) (pv 2) pe_int (fun _ _ => rfl)) pe_str (nomark _)) (pss_cons (ps_asg (pe_slice (slTA K) (pv 2) (po_some pe_int) (po_some pe_int)) (pg_tup (by rfl) (pgs_cons (pg_name (i := 3) sc_law_unfit.nd rfl (.inl rfl)) (pgs_cons (pg_name (i := 4) sc_law_unfit.nd rfl (.inl rfl)) pgs_nil)))) (pss_cons (ps_set (i := 5) sc_law_unfit.nd rfl (.inl rfl) (pe_lst (pa_cons (pe_tup (pa_cons pe_str (pa_cons pe_int (pa_cons (pv 1) pa_nil)))) (pa_cons (pe_tup (pa_cons pe_str (pa_cons pe_int (pa_cons (pv 1) pa_nil)))) (pa_cons (pe_tup (pa_cons pe_str (pa_cons pe_int (pa_cons (pv 1) pa_nil)))) (pa_cons (pe_tup (pa_cons pe_str (pa_cons (pe_op op_add (pe_op op_shl pe_int (pv 3)) pe_int) (pa_cons (pv 1) pa_nil)))) pa_nil)))))) (pss_one (ps_ret (pe_ix (ixL K) (pv 5) (pe_cl c_law_take hr (by first | decide | omega) (by rfl) (pa_cons (pv 0) (pa_cons pe_int pa_nil))) (fun _ _ => rfl)))))) pss_nil) (pss_cons (ps_asg (pe_slice (slTA K) (pv 2) (po_some pe_int) (po_some pe_int)) (pg_tup (by rfl) (pgs_cons (pg_name (i := 6) sc_law_unfit.nd rfl (.inl rfl)) (pgs_cons (pg_name (i := 4) sc_law_unfit.nd rfl (.inl rfl)) pgs_nil)))) (pss_cons (ps_set (i := 5) sc_law_unfit.nd rfl (.inl rfl) (pe_lst (pa_cons (pe_tup (pa_cons pe_str (pa_cons pe_int (pa_cons (pv 1) pa_nil)))) (pa_cons (pe_tup (pa_cons pe_str (pa_cons pe_int (pa_cons (pv 1) pa_nil)))) (pa_cons (pe_tup (pa_cons pe_str (pa_cons (pe_op op_add (pv 4) pe_int) (pa_cons (pv 1) pa_nil)))) (pa_cons (pe_tup (pa_cons pe_str (pa_cons (pe_op op_add (pv 4) pe_int) (pa_cons (pv 1) pa_nil)))) pa_nil)))))) (C8.pss_cut (ps_if (pt_cmpR op_ne (pv 4) (pe_op op_add (pv 6) pe_int) (nomark _)) (pss_one (ps_set (i := 5) sc_law_unfit.nd rfl (.inl rfl) (pe_op op_cat (pv 5) (pe_lst (pa_cons (pe_tup (pa_cons pe_str (pa_cons pe_int (pa_cons (pv 1) pa_nil)))) (pa_cons (pe_tup (pa_cons pe_str (pa_cons pe_int (pa_cons (pv 1) pa_nil)))) pa_nil)))))) pss_nil) (C8.pss_cut (ps_if (pt_cmpR op_ne (pv 4) (pe_op op_mul pe_int (pv 6)) (nomark _)) (pss_one (ps_set (i := 5) sc_law_unfit.nd rfl (.inl rfl) (pe_op op_cat (pv 5) (pe_lst (pa_cons (pe_tup (pa_cons pe_str (pa_cons pe_int (pa_cons (pv 1) pa_nil)))) (pa_cons (pe_tup (pa_cons pe_str (pa_cons pe_int (pa_cons (pv 1) pa_nil)))) pa_nil)))))) pss_nil) (pss_one (ps_ret (pe_ix (ixL K) (pv 5) (pe_cl c_law_take hr (by first | decide | omega) (by rfl) (pa_cons (pv 0) (pa_cons (pe_callB (lenS K) (by rfl) T.n_len (by decide +kernel) (pa_cons (pv 5) pa_nil)) pa_nil))) (fun _ _ => rfl))))))))), ?_⟩
    have gD : ∃ n, Gd n D := ⟨_, sch_gd sch⟩
    cases t with
    | fn n l m tabs =>
      have wf : Wff n l m tabs := ok
      have hl8 := wf.l2
      obtain ⟨c, r, rfl, hT, _⟩ := dp_fun bt
      have hT := sqt_on hT
      refine ⟨_, rfl, c, _, 0, _, rfl, rfl, hT, at0, rfl, _, rfl, ?_⟩
      rw [decide_eq_true rfl]
      refine ⟨_, rfl, _, rfl, _, rfl, sl_any hT fun p H1 s1 t1 => ?_⟩
      have t1' : SqT K H1 p [.int (l : Int), .int (m : Int)] := t1
      have n1 := hh.same s1
      have k1 : Keep a H H1 := Keep.same s1
      refine ⟨p, _, rfl, t1', rfl, _, _, rfl, _, _, rfl, rfl, ?_⟩
      refine ⟨_, rfl, (by show 3 ≤ sizeLine; decide), fun p101 np101 => ?_⟩
      obtain ⟨n101, k101, x101⟩ := new_dx (K := K) n1 np101 (.cons (.str _) (.cons (.int _) (.cons (dp_same k1.off _ dv) .nil))) (by show 3 ≤ 100; decide) (gC (gS (x := "cut")) (gC gI (gC gD gN)))
      generalize upd H1 p101 (.tup [.str "cut", .int (1), sv]) = G101 at n101 k101 x101 ⊢
      have t101 := k1.trans k101
      have wA0 : WX (NoB b) K a G101 (.ref p101) := ⟨_, x101, (unfit_no sch hl eb (fn_only ok (by decide +kernel)))⟩
      refine ⟨_, rfl, (by show 3 ≤ sizeLine; decide), fun p102 np102 => ?_⟩
      obtain ⟨n102, k102, x102⟩ := new_dx (K := K) n101 np102 (.cons (.str _) (.cons (.int _) (.cons (dp_same t101.off _ dv) .nil))) (by show 3 ≤ 100; decide) (gC (gS (x := "longer")) (gC gI (gC gD gN)))
      generalize upd G101 p102 (.tup [.str "longer", .int (1), sv]) = G102 at n102 k102 x102 ⊢
      have t102 := t101.trans k102
      have wA0 := wA0.keep k102
      have wA1 : WX (NoB b) K a G102 (.ref p102) := ⟨_, x102, (unfit_no sch hl eb (fn_only ok (by decide +kernel)))⟩
      refine ⟨_, rfl, (by show 3 ≤ sizeLine; decide), fun p103 np103 => ?_⟩
      obtain ⟨n103, k103, x103⟩ := new_dx (K := K) n102 np103 (.cons (.str _) (.cons (.int _) (.cons (dp_same t102.off _ dv) .nil))) (by show 3 ≤ 100; decide) (gC (gS (x := "tree")) (gC gI (gC gD gN)))
      generalize upd G102 p103 (.tup [.str "tree", .int (1), sv]) = G103 at n103 k103 x103 ⊢
      have t103 := t102.trans k103
      have wA0 := wA0.keep k103
      have wA1 := wA1.keep k103
      have wA2 : WX (NoB b) K a G103 (.ref p103) := ⟨_, x103, (unfit_no sch hl eb (fn_only ok (by decide +kernel)))⟩
      refine ⟨_, rfl, _, _, rfl, rfl, ⟨by omega, by omega, by decide⟩, _, _, rfl, rfl, _, rfl, (by show 3 ≤ sizeLine; decide), fun p104 np104 => ?_⟩
      obtain ⟨n104, k104, x104⟩ := new_dx (K := K) n103 np104 (.cons (.str _) (.cons (.int _) (.cons (dp_same t103.off _ dv) .nil))) (by show 3 ≤ 100; decide) (gC (gS (x := "counter")) (gC gI (gC gD gN)))
      generalize upd G103 p104 (.tup [.str "counter", .int ((1 : Int) * 2 ^ ((l : Int)).toNat + 1), sv]) = G104 at n104 k104 x104 ⊢
      have t104 := t103.trans k104
      have wA0 := wA0.keep k104
      have wA1 := wA1.keep k104
      have wA2 := wA2.keep k104
      have wA3 : WX (NoB b) K a G104 (.ref p104) := ⟨_, x104, (unfit_no sch hl eb (fn_cnt ok (by rw [shl_one]; omega)))⟩
      have wsA : ∀ x ∈ ([.ref p101, .ref p102, .ref p103, .ref p104] : List V), WX (NoB b) K a G104 x := (av wA0 (av wA1 (av wA2 (av wA3 av0))))
      clear wA0 wA1 wA2 wA3
      refine ⟨(by show 4 ≤ sizeLine; decide), fun p105 np105 => ?_⟩
      have n105 := n104.new (o := .lst [.ref p101, .ref p102, .ref p103, .ref p104]) np105
      have k105 := Keep.new (a := a) (o := .lst [.ref p101, .ref p102, .ref p103, .ref p104]) np105
      have q105 := (n104.ne np105).1
      have eA : upd G104 p105 (.lst [.ref p101, .ref p102, .ref p103, .ref p104]) p105 = some (.lst [.ref p101, .ref p102, .ref p103, .ref p104]) := upd_same
      generalize upd G104 p105 (.lst [.ref p101, .ref p102, .ref p103, .ref p104]) = G105 at n105 k105 eA ⊢
      have t105 := t104.trans k105
      have wsA := wx_keep wsA k105
      refine ⟨_, rfl, _, rfl, a, d, 4, rfl, by decide, n105, fun r H9 l9 u9 n9 k9 => ?_⟩
      obtain ⟨x, hat, hmem⟩ := atI_mem (xs := [.ref p101, .ref p102, .ref p103, .ref p104]) l9 (show r < 4 from u9)
      obtain ⟨D9, x9, bad9⟩ := wsA x hmem
      exact ⟨p105, _, r, x, rfl, rfl, .inl (.inl (k9 _ _ eA q105)), hat, q x D9 H9 bad9 (x9.keep k9) n9 (t105.trans k9)⟩
    | gen n m rows =>
      have wf : Wf n m rows := ok
      have hm40 := wf.m2
      have hn10 := wf.n2
      obtain ⟨c, r, rfl, hT, _⟩ := dp_tab bt
      have hT := sqt_on hT
      refine ⟨_, rfl, c, _, 0, _, rfl, rfl, hT, at0, rfl, _, rfl, ?_⟩
      refine ⟨_, rfl, _, rfl, _, rfl, sl_any hT fun p H1 s1 t1 => ?_⟩
      have t1' : SqT K H1 p [.int (n : Int), .int (m : Int)] := t1
      have n1 := hh.same s1
      have k1 : Keep a H H1 := Keep.same s1
      refine ⟨p, _, rfl, t1', rfl, _, _, rfl, _, _, rfl, rfl, ?_⟩
      refine ⟨_, rfl, (by show 3 ≤ sizeLine; decide), fun p101 np101 => ?_⟩
      obtain ⟨n101, k101, x101⟩ := new_dx (K := K) n1 np101 (.cons (.str _) (.cons (.int _) (.cons (dp_same k1.off _ dv) .nil))) (by show 3 ≤ 100; decide) (gC (gS (x := "counter")) (gC gI (gC gD gN)))
      generalize upd H1 p101 (.tup [.str "counter", .int (1), sv]) = G101 at n101 k101 x101 ⊢
      have t101 := k1.trans k101
      have wA0 : WX (NoB b) K a G101 (.ref p101) := ⟨_, x101, (unfit_no sch hl eb (gen_cnt ok))⟩
      refine ⟨_, rfl, (by show 3 ≤ sizeLine; decide), fun p102 np102 => ?_⟩
      obtain ⟨n102, k102, x102⟩ := new_dx (K := K) n101 np102 (.cons (.str _) (.cons (.int _) (.cons (dp_same t101.off _ dv) .nil))) (by show 3 ≤ 100; decide) (gC (gS (x := "counter")) (gC gI (gC gD gN)))
      generalize upd G101 p102 (.tup [.str "counter", .int (2), sv]) = G102 at n102 k102 x102 ⊢
      have t102 := t101.trans k102
      have wA0 := wA0.keep k102
      have wA1 : WX (NoB b) K a G102 (.ref p102) := ⟨_, x102, (unfit_no sch hl eb (gen_cnt ok))⟩
      refine ⟨_, rfl, _, _, rfl, rfl, _, rfl, (by show 3 ≤ sizeLine; decide), fun p103 np103 => ?_⟩
      obtain ⟨n103, k103, x103⟩ := new_dx (K := K) n102 np103 (.cons (.str _) (.cons (.int _) (.cons (dp_same t102.off _ dv) .nil))) (by show 3 ≤ 100; decide) (gC (gS (x := "cut")) (gC gI (gC gD gN)))
      generalize upd G102 p103 (.tup [.str "cut", .int ((m : Int) + 1), sv]) = G103 at n103 k103 x103 ⊢
      have t103 := t102.trans k103
      have wA0 := wA0.keep k103
      have wA1 := wA1.keep k103
      have wA2 : WX (NoB b) K a G103 (.ref p103) := ⟨_, x103, (unfit_no sch hl eb (gen_cut ok (by omega)))⟩
      refine ⟨_, rfl, _, _, rfl, rfl, _, rfl, (by show 3 ≤ sizeLine; decide), fun p104 np104 => ?_⟩
      obtain ⟨n104, k104, x104⟩ := new_dx (K := K) n103 np104 (.cons (.str _) (.cons (.int _) (.cons (dp_same t103.off _ dv) .nil))) (by show 3 ≤ 100; decide) (gC (gS (x := "cut")) (gC gI (gC gD gN)))
      generalize upd G103 p104 (.tup [.str "cut", .int ((m : Int) + 1), sv]) = G104 at n104 k104 x104 ⊢
      have t104 := t103.trans k104
      have wA0 := wA0.keep k104
      have wA1 := wA1.keep k104
      have wA2 := wA2.keep k104
      have wA3 : WX (NoB b) K a G104 (.ref p104) := ⟨_, x104, (unfit_no sch hl eb (gen_cut ok (by omega)))⟩
      have wsA : ∀ x ∈ ([.ref p101, .ref p102, .ref p103, .ref p104] : List V), WX (NoB b) K a G104 x := (av wA0 (av wA1 (av wA2 (av wA3 av0))))
      clear wA0 wA1 wA2 wA3
      refine ⟨(by show 4 ≤ sizeLine; decide), fun p105 np105 => ?_⟩
      have n105 := n104.new (o := .lst [.ref p101, .ref p102, .ref p103, .ref p104]) np105
      have k105 := Keep.new (a := a) (o := .lst [.ref p101, .ref p102, .ref p103, .ref p104]) np105
      have q105 := (n104.ne np105).1
      have eA : upd G104 p105 (.lst [.ref p101, .ref p102, .ref p103, .ref p104]) p105 = some (.lst [.ref p101, .ref p102, .ref p103, .ref p104]) := upd_same
      generalize upd G104 p105 (.lst [.ref p101, .ref p102, .ref p103, .ref p104]) = G105 at n105 k105 eA ⊢
      have t105 := t104.trans k105
      have wsA := wx_keep wsA k105
      refine ⟨fun σ H2 => ∃ (L : Addr) (vs : List V), σ = [some (.ref a), some sv, some (.ref c), none, some (.int (m : Int)), some (.ref L), some (.int (n : Int))] ∧ H2 L = some (.lst vs) ∧ 1 ≤ vs.length ∧ vs.length ≤ 6 ∧ (∀ x ∈ vs, WX (NoB b) K a H2 x) ∧ L ≠ a ∧ Hnd H2 a d ∧ Keep a H H2, ?_, ?_⟩
      · refine ⟨_, rfl, _, rfl, _, _, rfl, rfl, rfl, _, rfl, ?_⟩
        generalize hvs : ([.ref p101, .ref p102, .ref p103, .ref p104] : List V) = vs at *
        have hvl : vs.length = 4 := by rw [← hvs]; rfl
        have h1 : 1 ≤ vs.length := by omega
        have ws := wsA
        have eL := eA
        have La := q105
        have n2 := n105
        have k2 := t105
        generalize G105 = H2 at *
        generalize hL : p105 = L at *
        by_cases c1 : m = n + 1
        · rw [decide_eq_true (show V.int (m : Int) = V.int ((n : Int) + 1) from congrArg V.int (by omega))]
          exact ⟨L, vs, rfl, eL, h1, by omega, ws, La, n2, k2⟩
        rw [decide_eq_false (show ¬ V.int (m : Int) = V.int ((n : Int) + 1) from fun z => c1 (by have := V.int.inj z; omega))]
        refine ⟨_, rfl, _, rfl, (by show 3 ≤ sizeLine; decide), fun p201 np201 => ?_⟩
        obtain ⟨n201, k201, x201⟩ := new_dx (K := K) n2 np201 (.cons (.str _) (.cons (.int _) (.cons (dp_same k2.off _ dv) .nil))) (by show 3 ≤ 100; decide) (gC (gS (x := "longer")) (gC gI (gC gD gN)))
        generalize upd H2 p201 (.tup [.str "longer", .int (1), sv]) = G201 at n201 k201 x201 ⊢
        have t201 := k2.trans k201
        have ws := wx_keep ws k201
        have eL := k201 _ _ eL La
        have wB0 : WX (NoB b) K a G201 (.ref p201) := ⟨_, x201, (unfit_no sch hl eb (gen_long ok c1))⟩
        refine ⟨_, rfl, (by show 3 ≤ sizeLine; decide), fun p202 np202 => ?_⟩
        obtain ⟨n202, k202, x202⟩ := new_dx (K := K) n201 np202 (.cons (.str _) (.cons (.int _) (.cons (dp_same t201.off _ dv) .nil))) (by show 3 ≤ 100; decide) (gC (gS (x := "longer")) (gC gI (gC gD gN)))
        generalize upd G201 p202 (.tup [.str "longer", .int (2), sv]) = G202 at n202 k202 x202 ⊢
        have t202 := t201.trans k202
        have ws := wx_keep ws k202
        have eL := k202 _ _ eL La
        have wB0 := wB0.keep k202
        have wB1 : WX (NoB b) K a G202 (.ref p202) := ⟨_, x202, (unfit_no sch hl eb (gen_long ok c1))⟩
        have wsB : ∀ x ∈ ([.ref p201, .ref p202] : List V), WX (NoB b) K a G202 x := (av wB0 (av wB1 av0))
        clear wB0 wB1
        refine ⟨(by show 2 ≤ sizeLine; decide), fun p203 np203 => ?_⟩
        have n203 := n202.new (o := .lst [.ref p201, .ref p202]) np203
        have k203 := Keep.new (a := a) (o := .lst [.ref p201, .ref p202]) np203
        have q203 := (n202.ne np203).1
        have eB : upd G202 p203 (.lst [.ref p201, .ref p202]) p203 = some (.lst [.ref p201, .ref p202]) := upd_same
        generalize upd G202 p203 (.lst [.ref p201, .ref p202]) = G203 at n203 k203 eB ⊢
        have t203 := t202.trans k203
        have ws := wx_keep ws k203
        have eL := k203 _ _ eL La
        have wsB := wx_keep wsB k203
        refine ⟨L, p203, _, _, rfl, rfl, eL, eB, by show vs.length + 2 ≤ sizeLine; rw [sizeLine_eq]; omega, fun p np => ?_⟩
        have wsC := wx_keep (av_app (l := vs) (m := [.ref p201, .ref p202]) ws wsB) (Keep.new (a := a) (o := .lst (vs ++ [.ref p201, .ref p202])) np)
        exact ⟨p, vs ++ [.ref p201, .ref p202], rfl, upd_same, by rw [List.length_append]; exact Nat.le_trans h1 (Nat.le_add_right _ _), by rw [List.length_append]; show vs.length + 2 ≤ 6; omega, wsC, (n203.ne np).1, n203.new np, t203.trans (Keep.new np)⟩
      rintro σ H2 ⟨L, vs, rfl, eL, h1, h2, ws, La, n2, k2⟩
      refine ⟨fun σ H2 => ∃ (L : Addr) (vs : List V), σ = [some (.ref a), some sv, some (.ref c), none, some (.int (m : Int)), some (.ref L), some (.int (n : Int))] ∧ H2 L = some (.lst vs) ∧ 1 ≤ vs.length ∧ vs.length ≤ 8 ∧ (∀ x ∈ vs, WX (NoB b) K a H2 x) ∧ L ≠ a ∧ Hnd H2 a d ∧ Keep a H H2, ?_, ?_⟩
      · refine ⟨_, rfl, _, rfl, _, _, rfl, rfl, .inl ⟨by decide, by decide⟩, rfl, _, rfl, ?_⟩
        by_cases c2 : m = 2 * n
        · rw [decide_eq_true (show V.int (m : Int) = V.int (2 * (n : Int)) from congrArg V.int (by omega))]
          exact ⟨L, vs, rfl, eL, h1, by omega, ws, La, n2, k2⟩
        rw [decide_eq_false (show ¬ V.int (m : Int) = V.int (2 * (n : Int)) from fun z => c2 (by have := V.int.inj z; omega))]
        refine ⟨_, rfl, _, rfl, (by show 3 ≤ sizeLine; decide), fun p201 np201 => ?_⟩
        obtain ⟨n201, k201, x201⟩ := new_dx (K := K) n2 np201 (.cons (.str _) (.cons (.int _) (.cons (dp_same k2.off _ dv) .nil))) (by show 3 ≤ 100; decide) (gC (gS (x := "tree")) (gC gI (gC gD gN)))
        generalize upd H2 p201 (.tup [.str "tree", .int (1), sv]) = G201 at n201 k201 x201 ⊢
        have t201 := k2.trans k201
        have ws := wx_keep ws k201
        have eL := k201 _ _ eL La
        have wC0 : WX (NoB b) K a G201 (.ref p201) := ⟨_, x201, (unfit_no sch hl eb (gen_tree ok c2))⟩
        refine ⟨_, rfl, (by show 3 ≤ sizeLine; decide), fun p202 np202 => ?_⟩
        obtain ⟨n202, k202, x202⟩ := new_dx (K := K) n201 np202 (.cons (.str _) (.cons (.int _) (.cons (dp_same t201.off _ dv) .nil))) (by show 3 ≤ 100; decide) (gC (gS (x := "tree")) (gC gI (gC gD gN)))
        generalize upd G201 p202 (.tup [.str "tree", .int (2), sv]) = G202 at n202 k202 x202 ⊢
        have t202 := t201.trans k202
        have ws := wx_keep ws k202
        have eL := k202 _ _ eL La
        have wC0 := wC0.keep k202
        have wC1 : WX (NoB b) K a G202 (.ref p202) := ⟨_, x202, (unfit_no sch hl eb (gen_tree ok c2))⟩
        have wsC : ∀ x ∈ ([.ref p201, .ref p202] : List V), WX (NoB b) K a G202 x := (av wC0 (av wC1 av0))
        clear wC0 wC1
        refine ⟨(by show 2 ≤ sizeLine; decide), fun p203 np203 => ?_⟩
        have n203 := n202.new (o := .lst [.ref p201, .ref p202]) np203
        have k203 := Keep.new (a := a) (o := .lst [.ref p201, .ref p202]) np203
        have q203 := (n202.ne np203).1
        have eC : upd G202 p203 (.lst [.ref p201, .ref p202]) p203 = some (.lst [.ref p201, .ref p202]) := upd_same
        generalize upd G202 p203 (.lst [.ref p201, .ref p202]) = G203 at n203 k203 eC ⊢
        have t203 := t202.trans k203
        have ws := wx_keep ws k203
        have eL := k203 _ _ eL La
        have wsC := wx_keep wsC k203
        refine ⟨L, p203, _, _, rfl, rfl, eL, eC, by show vs.length + 2 ≤ sizeLine; rw [sizeLine_eq]; omega, fun p np => ?_⟩
        have wsC := wx_keep (av_app (l := vs) (m := [.ref p201, .ref p202]) ws wsC) (Keep.new (a := a) (o := .lst (vs ++ [.ref p201, .ref p202])) np)
        exact ⟨p, vs ++ [.ref p201, .ref p202], rfl, upd_same, by rw [List.length_append]; exact Nat.le_trans h1 (Nat.le_add_right _ _), by rw [List.length_append]; show vs.length + 2 ≤ 8; omega, wsC, (n203.ne np).1, n203.new np, t203.trans (Keep.new np)⟩
      rintro σ H2 ⟨L, vs, rfl, eL, h1, h2, ws, La, n2, k2⟩
      refine ⟨_, rfl, _, rfl, _, rfl, L, vs, rfl, .inl (.inl (.inl eL)), a, d, (vs.length : Int), rfl, by omega, n2, fun r H9 l9 u9 n9 k9 => ?_⟩
      obtain ⟨x, hat, hmem⟩ := atI_mem (xs := vs) l9 u9
      obtain ⟨D9, x9, bad9⟩ := ws x hmem
      exact ⟨L, _, r, x, rfl, rfl, .inl (.inl (k9 _ _ eL La)), hat, q x D9 H9 bad9 (x9.keep k9) n9 (k2.trans k9)⟩

end
/-! ### what is no goal -/
def NoG (b : Blk) (g : PyData) : Prop := goalOk g b = false
theorem goal_name {z : Str} {r : List PyData} {b : Blk} (h : z ∉ aboK) : goalOk (.tuple (.str z :: r)) b = false := by
  show (decide (z ∈ aboK) && _) = false
  rw [decide_eq_false h]
  rfl
theorem goal_len {z : Str} {r : List PyData} {b : Blk} (h : ¬ r.length + 1 = if z = "opening" then 3 else 2) : goalOk (.tuple (.str z :: r)) b = false := by
  show (decide (z ∈ aboK) && (decide (r.length + 1 = if z = "opening" then 3 else 2) && _)) = false
  rw [decide_eq_false h, Bool.false_and, Bool.and_false]
theorem goal_eq {z : Str} {r : List PyData} {b : Blk} {D : PyData} (hl : r.getLastD (.str z) = D) : goalOk (.tuple (.str z :: r)) b = (decide (z ∈ aboK) && (decide (r.length + 1 = if z = "opening" then 3 else 2) && (match builtD D b with
    | some w => goalW z w (r.headD .none)
    | none => false))) := by
  rw [← hl]
  rfl
theorem goal_bad {z : Str} {r : List PyData} {b : Blk} {D : PyData} (hl : r.getLastD (.str z) = D) (h : builtD D b = none) : goalOk (.tuple (.str z :: r)) b = false := by
  rw [goal_eq hl, h]
  show (_ && (_ && false)) = false
  rw [Bool.and_false, Bool.and_false]
theorem goal_kind {z : Str} {r : List PyData} {b t : Blk} {D : PyData} (hl : r.getLastD (.str z) = D) (h : builtD D b = some t) (h1 : aboF z ≠ "any") (h2 : aboF z ≠ kindB t) : goalOk (.tuple (.str z :: r)) b = false := by
  rw [goal_eq hl, h]
  show (_ && (_ && goalW z t (r.headD .none))) = false
  unfold goalW
  rw [decide_eq_false h1, decide_eq_false h2]
  show (_ && (_ && (false && _))) = false
  rw [Bool.false_and, Bool.and_false, Bool.and_false]
theorem goal_row {y : PyData} {b : Blk} {D : PyData} {n m : Nat} {rows : List (List Bool)} (h : builtD D b = some (.gen n m rows)) (h1 : rowsOk (.tuple [y]) 1 (m : Int) = false) : goalOk (.tuple [.str "opening", y, D]) b = false := by
  have hw : goalW "opening" (.gen n m rows) y = false := by
    unfold goalW
    rw [show rowsOk (.tuple [y]) 1 (wideB (.gen n m rows) : Int) = false from h1, decide_eq_true (show ("opening" : Str) = "opening" from rfl), Bool.not_true, Bool.or_false, Bool.and_false]
  rw [goal_eq (z := "opening") (r := [y, D]) (D := D) rfl, h]
  show (decide (("opening" : Str) ∈ aboK) && (decide (([y, D] : List PyData).length + 1 = if ("opening" : Str) = "opening" then 3 else 2) && goalW "opening" (.gen n m rows) y)) = false
  rw [hw, Bool.and_false, Bool.and_false]
theorem goal_sch {D : PyData} {ls : List (PyData × PyData)} {b : Blk} (h : Sch D ls) : goalOk D b = false := by
  cases h with
  | nil => exact goal_name (by decide +kernel)
  | cons hz _ =>
    refine goal_name ?_
    rcases hz with e | e | e | e <;> subst e <;> decide +kernel
theorem row_one {y : PyData} {m : Int} (h : bitRow m y = false) : rowsOk (.tuple [y]) 1 m = false := by
  show (decide ((([y] : List PyData).length : Int) = (1 : Int)) && (bitRow m y && true)) = false
  rw [h, Bool.false_and, Bool.and_false]
theorem rep_one (c : Nat) : ∀ n : Nat, (List.replicate n [c]).flatten = List.replicate n c
  | 0 => rfl
  | n + 1 => by
    rw [List.replicate_succ, List.flatten_cons, rep_one c n]
    rfl
theorem okT_S {l : List Nat} (h : ∀ c ∈ l, c < 128) (hl : l.length ≤ 5000) : okT (SX.S l) := by
  refine ⟨?_, by rw [SX.S_len]; exact hl⟩
  unfold PySem.PyData.strOk
  rw [← Array.all_toList, List.all_eq_true]
  intro c hc
  have := h c hc
  simp only [Bool.and_eq_true, Bool.or_eq_true, decide_eq_true_eq, Bool.not_eq_true'] at *
  first | omega | (refine decide_eq_true ?_; omega) | (constructor <;> first | omega | simp; omega)
theorem okT_rep {c k : Nat} (hc : c < 128) (hk : k ≤ 5000) : okT (SX.S (List.replicate k [c]).flatten) := by
  rw [rep_one]
  exact okT_S (fun x hx => by rw [(List.mem_replicate.mp hx).2]; exact hc) (by rw [List.length_replicate]; exact hk)
theorem row_short {c k : Nat} {m : Int} (h : (k : Int) ≠ m) : bitRow m (.str (SX.S (List.replicate k [c]).flatten)) = false := by
  rw [rep_one]
  show (decide _ && _) = false
  rw [SX.S_len, List.length_replicate, decide_eq_false h]
  rfl
theorem row_sign {k : Nat} {m : Int} (hk : 1 ≤ k) : bitRow m (.str (SX.S (List.replicate k [50]).flatten)) = false := by
  rw [rep_one]
  show (decide _ && (List.replicate k 50).all _) = false
  rw [Bool.and_eq_false_iff]
  refine .inr ?_
  obtain ⟨j, rfl⟩ : ∃ j, k = j + 1 := ⟨k - 1, by omega⟩
  rfl
theorem dps_repl {K : PySem.W.Frag} {H : Hp} {v : V} {x : PyData} (h : Dp K H v x) : ∀ k : Nat, DpAll K H (List.replicate k v) (List.replicate k x)
  | 0 => .nil
  | k + 1 => .cons h (dps_repl h k)
theorem gR {m : Nat} (h : m ≤ 100) : ∃ n, Gd n (.tuple (List.replicate m (.str "0"))) := by
  refine ⟨1, by rw [List.length_replicate]; omega, fun x hx => ?_⟩
  rw [(List.mem_replicate.mp hx).2]
  exact pl_gd (pl_str.mpr ⟨by decide +kernel, by decide +kernel⟩)
def spNoGoal (K : PySem.W.Frag) : Sp := fun vs H Q _ => ∃ (a d : Addr) (sv tv : V) (D : PyData) (ls : List (PyData × PyData)) (b t : Blk), vs = [.ref a, sv, tv] ∧ Hnd H a d ∧ Sch D ls ∧ ls.length ≤ 6 ∧ b.Ok ∧ builtL ls b = some t ∧ Dp K (off a H) sv D ∧ BlOn K a H tv t ∧
  ∀ v g H', goalOk g b = false → DX K a H' v g → Hnd H' a d → Keep a H H' → Q v H'

section
variable {P : Program} {w : World} {K : PySem.W.Frag} {mg : Str → Option Value} {base : Heap} {cs : Cs}
theorem ok_nogoal {f : Addr} {fd : FuncData} (D : Df K mg "_law_no_goal" s_law_no_goal ["hand", "scheme", "table"] f fd) (T : Txt K w mg cs) (c_law_take : Cl P w K mg base CX0 1 "_law_take" spTake) (c_law_bent : Cl P w K mg base CX0 8 "_law_bent" (spBent31 K 6)) : FnOk P w K mg base CX0 9 f fd ["hand", "scheme", "table"] (spNoGoal K) := by
  refine D.fn.ok sc_law_no_goal (fun vs H Q E h => ?_) (fun cdv A outer s H vs Q E hr h => ?_)
  · obtain ⟨a, d, sv, tv, D, ls, b, t, rfl, _⟩ := h
    rfl
  · obtain ⟨a, d, sv, tv, D, ls, b, t, rfl, hh, sch, hl, bOk, eb, dv, ⟨bt, ok⟩, q⟩ := h
    refine ⟨_, (pss_cons (ps_set (i := 3) sc_law_no_goal.nd rfl (.inl rfl) (pe_lst (pa_cons (pe_tup (pa_cons pe_str pa_nil)) (pa_cons (pe_tup (pa_cons pe_str (pa_cons (pv 1) (pa_cons pe_int pa_nil)))) (pa_cons (pe_lst (pa_cons pe_str (pa_cons (pv 1) pa_nil))) (pa_cons (pe_tup (pa_cons pe_str (pa_cons (pv 1) pa_nil))) (pa_cons (pv 1) (pa_cons pe_non (pa_cons pe_str (pa_cons (pe_tup pa_nil) pa_nil)))))))))) (pss_cons (ps_set (i := 3) sc_law_no_goal.nd rfl (.inl rfl) (pe_op op_cat (pv 3) (pe_lst (pa_cons (pe_tup (pa_cons pe_str (pa_cons (pv 1) pa_nil))) (pa_cons (pe_tup (pa_cons pe_str (pa_cons (pe_cl c_law_bent hr (by first | decide | omega) (by rfl) (pa_cons (pv 0) (pa_cons (pv 1) pa_nil))) pa_nil))) (pa_cons (pe_tup (pa_cons pe_str (pa_cons (pe_lst (pa_cons (pv 1) pa_nil)) pa_nil))) (pa_cons (pe_tup (pa_cons pe_str (pa_cons pe_str (pa_cons (pv 1) pa_nil)))) pa_nil))))))) (pss_cons (ps_set (i := 3) sc_law_no_goal.nd rfl (.inl rfl) (pe_op op_cat (pv 3) (pe_lst (pa_cons (pe_tup (pa_cons (pe_tup (pa_cons pe_str (pa_cons (pv 1) pa_nil))) pa_nil)) (pa_cons pe_bl pa_nil))))) (C8.pss_cut (ps_if (pt_cmpR op_eq (pe_ix (ixT K) (pv 2) pe_int (fun _ _ => rfl)) pe_str (nomark _)) (pss_one (ps_set (i := 3) sc_law_no_goal.nd rfl (.inl rfl) (pe_op op_cat (pv 3) (pe_lst (pa_cons (pe_tup (pa_cons pe_str (pa_cons (pv 1) pa_nil))) (pa_cons (pe_tup (pa_cons pe_str (pa_cons (pv 1) pa_nil))) (pa_cons (pe_tup (pa_cons pe_str (pa_cons (pe_op op_repS pe_str (pe_ix (ixT K) (pv 2) pe_int (fun _ _ => rfl))) (pa_cons (pv 1) pa_nil)))) (pa_cons (pe_tup (pa_cons pe_str (pa_cons pe_str (pa_cons (pv 1) pa_nil)))) pa_nil)))))))) (pss_cons (ps_set (i := 3) sc_law_no_goal.nd rfl (.inl rfl) (pe_op op_cat (pv 3) (pe_lst (pa_cons (pe_tup (pa_cons pe_str (pa_cons (pv 1) pa_nil))) (pa_cons (pe_tup (pa_cons pe_str (pa_cons (pv 1) pa_nil))) (pa_cons (pe_tup (pa_cons pe_str (pa_cons (pe_op op_repS pe_str (pe_op op_add (pe_ix (ixT K) (pv 2) pe_int (fun _ _ => rfl)) pe_int)) (pa_cons (pv 1) pa_nil)))) pa_nil)))))) (pss_cons (ps_set (i := 3) sc_law_no_goal.nd rfl (.inl rfl) (pe_op op_cat (pv 3) (pe_lst (pa_cons (pe_tup (pa_cons pe_str (pa_cons (pe_op op_repS pe_str (pe_op op_sub (pe_ix (ixT K) (pv 2) pe_int (fun _ _ => rfl)) pe_int)) (pa_cons (pv 1) pa_nil)))) (pa_cons (pe_tup (pa_cons pe_str (pa_cons (pe_op op_repS pe_str (pe_ix (ixT K) (pv 2) pe_int (fun _ _ => rfl))) (pa_cons (pv 1) pa_nil)))) pa_nil))))) (pss_one (ps_set (i := 3) sc_law_no_goal.nd rfl (.inl rfl) (pe_op op_cat (pv 3) (pe_lst (pa_cons (pe_tup (pa_cons pe_str (pa_cons pe_int (pa_cons (pv 1) pa_nil)))) (pa_cons (pe_tup (pa_cons pe_str (pa_cons pe_non (pa_cons (pv 1) pa_nil)))) (pa_cons (pe_tup (pa_cons pe_str (pa_cons (pe_op (op_rep1 K) (pe_tup (pa_cons pe_str pa_nil)) (pe_ix (ixT K) (pv 2) pe_int (fun _ _ => rfl))) (pa_cons (pv 1) pa_nil)))) pa_nil)))))))))) (pss_one (ps_ret (pe_ix (ixL K) (pv 3) (pe_cl c_law_take hr (by first | decide | omega) (by rfl) (pa_cons (pv 0) (pa_cons (pe_callB (lenS K) (by rfl) T.n_len (by decide +kernel) (pa_cons (pv 3) pa_nil)) pa_nil))) (fun _ _ => rfl)))))))), ?_⟩
    have gD : ∃ n, Gd n D := ⟨_, sch_gd sch⟩
    have eD := sch_built sch (by omega) eb
    have s0 : V.str "0" = .str (SX.S [48]) := by rw [show ("0" : Str) = SX.S [48] by decide +kernel]
    have s2 : V.str "2" = .str (SX.S [50]) := by rw [show ("2" : Str) = SX.S [50] by decide +kernel]
    refine ⟨(by show 1 ≤ sizeLine; decide), fun p101 np101 => ?_⟩
    obtain ⟨n101, k101, x101⟩ := new_dx (K := K) hh np101 (.cons (.str _) .nil) (by show 1 ≤ 100; decide) (gC (gS (x := "tell")) gN)
    generalize upd H p101 (.tup [.str "tell"]) = G101 at n101 k101 x101 ⊢
    have t101 := (Keep.refl a H).trans k101
    have wA00 : WX (NoG b) K a G101 (.ref p101) := ⟨_, x101, (goal_len (by decide +kernel))⟩
    refine ⟨_, rfl, (by show 3 ≤ sizeLine; decide), fun p102 np102 => ?_⟩
    obtain ⟨n102, k102, x102⟩ := new_dx (K := K) n101 np102 (.cons (.str _) (.cons (dp_same t101.off _ dv) (.cons (.int _) .nil))) (by show 3 ≤ 100; decide) (gC (gS (x := "tell")) (gC gD (gC gI gN)))
    generalize upd G101 p102 (.tup [.str "tell", sv, .int (1)]) = G102 at n102 k102 x102 ⊢
    have t102 := t101.trans k102
    have wA00 := wA00.keep k102
    have wA01 : WX (NoG b) K a G102 (.ref p102) := ⟨_, x102, (goal_len (z := "tell") (r := [D, .int 1]) (by show ¬ 2 + 1 = if ("tell" : Str) = "opening" then 3 else 2; decide +kernel))⟩
    refine ⟨_, rfl, (by show 2 ≤ sizeLine; decide), fun p103 np103 => ?_⟩
    obtain ⟨n103, k103, x103⟩ := new_dxl (K := K) n102 np103 (.cons (.str _) (.cons (dp_same t102.off _ dv) .nil)) (by show 2 ≤ 100; decide) (gC (gS (x := "tell")) (gC gD gN))
    generalize upd G102 p103 (.lst [.str "tell", sv]) = G103 at n103 k103 x103 ⊢
    have t103 := t102.trans k103
    have wA00 := wA00.keep k103
    have wA01 := wA01.keep k103
    have wA02 : WX (NoG b) K a G103 (.ref p103) := ⟨_, x103, rfl⟩
    refine ⟨_, rfl, (by show 2 ≤ sizeLine; decide), fun p104 np104 => ?_⟩
    obtain ⟨n104, k104, x104⟩ := new_dx (K := K) n103 np104 (.cons (.str _) (.cons (dp_same t103.off _ dv) .nil)) (by show 2 ≤ 100; decide) (gC (gS (x := "inverse")) (gC gD gN))
    generalize upd G103 p104 (.tup [.str "inverse", sv]) = G104 at n104 k104 x104 ⊢
    have t104 := t103.trans k104
    have wA00 := wA00.keep k104
    have wA01 := wA01.keep k104
    have wA02 := wA02.keep k104
    have wA03 : WX (NoG b) K a G104 (.ref p104) := ⟨_, x104, (goal_name (by decide +kernel))⟩
    have wA04 : WX (NoG b) K a G104 (sv) := ⟨_, ⟨dp_same t104.off _ dv, gD⟩, (goal_sch sch)⟩
    have wA05 : WX (NoG b) K a G104 (.non) := ⟨_, ⟨.non, gO⟩, rfl⟩
    have wA06 : WX (NoG b) K a G104 (.str "tell") := ⟨_, ⟨(.str _), (gS (x := "tell"))⟩, rfl⟩
    refine ⟨_, rfl, (by show 0 ≤ sizeLine; exact Nat.zero_le _), fun p105 np105 => ?_⟩
    obtain ⟨n105, k105, x105⟩ := new_dx (K := K) n104 np105 .nil (by show 0 ≤ 100; decide) gN
    generalize upd G104 p105 (.tup []) = G105 at n105 k105 x105 ⊢
    have t105 := t104.trans k105
    have wA00 := wA00.keep k105
    have wA01 := wA01.keep k105
    have wA02 := wA02.keep k105
    have wA03 := wA03.keep k105
    have wA04 := wA04.keep k105
    have wA05 := wA05.keep k105
    have wA06 := wA06.keep k105
    have wA07 : WX (NoG b) K a G105 (.ref p105) := ⟨_, x105, rfl⟩
    have wsA0 : ∀ x ∈ ([.ref p101, .ref p102, .ref p103, .ref p104, sv, .non, .str "tell", .ref p105] : List V), WX (NoG b) K a G105 x := (av wA00 (av wA01 (av wA02 (av wA03 (av wA04 (av wA05 (av wA06 (av wA07 av0))))))))
    clear wA00 wA01 wA02 wA03 wA04 wA05 wA06 wA07
    refine ⟨(by show 8 ≤ sizeLine; decide), fun p106 np106 => ?_⟩
    have n106 := n105.new (o := .lst [.ref p101, .ref p102, .ref p103, .ref p104, sv, .non, .str "tell", .ref p105]) np106
    have k106 := Keep.new (a := a) (o := .lst [.ref p101, .ref p102, .ref p103, .ref p104, sv, .non, .str "tell", .ref p105]) np106
    have q106 := (n105.ne np106).1
    have eA0 : upd G105 p106 (.lst [.ref p101, .ref p102, .ref p103, .ref p104, sv, .non, .str "tell", .ref p105]) p106 = some (.lst [.ref p101, .ref p102, .ref p103, .ref p104, sv, .non, .str "tell", .ref p105]) := upd_same
    generalize upd G105 p106 (.lst [.ref p101, .ref p102, .ref p103, .ref p104, sv, .non, .str "tell", .ref p105]) = G106 at n106 k106 eA0 ⊢
    have t106 := t105.trans k106
    have wsA0 := wx_keep wsA0 k106
    change gName 3 (V.ref p106) _ G106 _
    have hv1 : ([.ref p101, .ref p102, .ref p103, .ref p104, sv, .non, .str "tell", .ref p105] : List V).length = 8 := rfl
    generalize ([.ref p101, .ref p102, .ref p103, .ref p104, sv, .non, .str "tell", .ref p105] : List V) = vs1 at wsA0 eA0 hv1
    have ws1 := wsA0
    have eL1 := eA0
    have La1 := q106
    clear wsA0 eA0
    generalize p106 = L1 at *
    refine ⟨_, rfl, _, rfl, (by show 2 ≤ sizeLine; decide), fun p107 np107 => ?_⟩
    obtain ⟨n107, k107, x107⟩ := new_dx (K := K) n106 np107 (.cons (.str _) (.cons (dp_same t106.off _ dv) .nil)) (by show 2 ≤ 100; decide) (gC (gS (x := "opening")) (gC gD gN))
    generalize upd G106 p107 (.tup [.str "opening", sv]) = G107 at n107 k107 x107 ⊢
    have t107 := t106.trans k107
    have ws1 := wx_keep ws1 k107
    have eL1 := k107 _ _ eL1 La1
    have wA10 : WX (NoG b) K a G107 (.ref p107) := ⟨_, x107, (goal_len (z := "opening") (r := [D]) (by show ¬ 1 + 1 = if ("opening" : Str) = "opening" then 3 else 2; decide +kernel))⟩
    refine ⟨_, rfl, _, rfl, a, d, sv, D, ls, rfl, n107, sch, hl, dp_same t107.off _ dv, fun bv BD G70 bad7 x70 n70 k70 => ?_⟩
    have t70 := t107.trans k70
    have ws1 := wx_keep ws1 k70
    have eL1 := k70 _ _ eL1 La1
    have wA10 := wA10.keep k70
    refine ⟨(by show 2 ≤ sizeLine; decide), fun p108 np108 => ?_⟩
    obtain ⟨n108, k108, x108⟩ := new_dx (K := K) n70 np108 (.cons (.str _) (.cons x70.1 .nil)) (by show 2 ≤ 100; decide) (gC (gS (x := "tell")) (gC x70.2 gN))
    generalize upd G70 p108 (.tup [.str "tell", bv]) = G108 at n108 k108 x108 ⊢
    have t108 := t70.trans k108
    have ws1 := wx_keep ws1 k108
    have eL1 := k108 _ _ eL1 La1
    have wA10 := wA10.keep k108
    have wA11 : WX (NoG b) K a G108 (.ref p108) := ⟨_, x108, (goal_bad (D := BD) rfl (bad_built bad7 bOk))⟩
    refine ⟨_, rfl, (by show 1 ≤ sizeLine; decide), fun p109 np109 => ?_⟩
    obtain ⟨n109, k109, x109⟩ := new_dxl (K := K) n108 np109 (.cons (dp_same t108.off _ dv) .nil) (by show 1 ≤ 100; decide) (gC gD gN)
    generalize upd G108 p109 (.lst [sv]) = G109 at n109 k109 x109 ⊢
    have t109 := t108.trans k109
    have ws1 := wx_keep ws1 k109
    have eL1 := k109 _ _ eL1 La1
    have wA10 := wA10.keep k109
    have wA11 := wA11.keep k109
    refine ⟨(by show 2 ≤ sizeLine; decide), fun p110 np110 => ?_⟩
    obtain ⟨n110, k110, x110⟩ := new_dx (K := K) n109 np110 (.cons (.str _) (.cons x109.1 .nil)) (by show 2 ≤ 100; decide) (gC (gS (x := "next")) (gC x109.2 gN))
    generalize upd G109 p110 (.tup [.str "next", .ref p109]) = G110 at n110 k110 x110 ⊢
    have t110 := t109.trans k110
    have ws1 := wx_keep ws1 k110
    have eL1 := k110 _ _ eL1 La1
    have wA10 := wA10.keep k110
    have wA11 := wA11.keep k110
    have wA12 : WX (NoG b) K a G110 (.ref p110) := ⟨_, x110, (goal_bad (D := .list [D]) rfl (bad_built (bad_no (by unfold blkS; simp only [PyData.eqv, PyData.eqvAll, Bool.and_false, Bool.false_and]) (fun _ _ _ e => by cases e)) bOk))⟩
    refine ⟨_, rfl, (by show 3 ≤ sizeLine; decide), fun p111 np111 => ?_⟩
    obtain ⟨n111, k111, x111⟩ := new_dx (K := K) n110 np111 (.cons (.str _) (.cons (.str _) (.cons (dp_same t110.off _ dv) .nil))) (by show 3 ≤ 100; decide) (gC (gS (x := "tell")) (gC (gS (x := "")) (gC gD gN)))
    generalize upd G110 p111 (.tup [.str "tell", .str "", sv]) = G111 at n111 k111 x111 ⊢
    have t111 := t110.trans k111
    have ws1 := wx_keep ws1 k111
    have eL1 := k111 _ _ eL1 La1
    have wA10 := wA10.keep k111
    have wA11 := wA11.keep k111
    have wA12 := wA12.keep k111
    have wA13 : WX (NoG b) K a G111 (.ref p111) := ⟨_, x111, (goal_len (z := "tell") (r := [.str "", D]) (by show ¬ 2 + 1 = if ("tell" : Str) = "opening" then 3 else 2; decide +kernel))⟩
    have wsA1 : ∀ x ∈ ([.ref p107, .ref p108, .ref p110, .ref p111] : List V), WX (NoG b) K a G111 x := (av wA10 (av wA11 (av wA12 (av wA13 av0))))
    clear wA10 wA11 wA12 wA13
    refine ⟨(by show 4 ≤ sizeLine; decide), fun p112 np112 => ?_⟩
    have n112 := n111.new (o := .lst [.ref p107, .ref p108, .ref p110, .ref p111]) np112
    have k112 := Keep.new (a := a) (o := .lst [.ref p107, .ref p108, .ref p110, .ref p111]) np112
    have q112 := (n111.ne np112).1
    have eA1 : upd G111 p112 (.lst [.ref p107, .ref p108, .ref p110, .ref p111]) p112 = some (.lst [.ref p107, .ref p108, .ref p110, .ref p111]) := upd_same
    generalize upd G111 p112 (.lst [.ref p107, .ref p108, .ref p110, .ref p111]) = G112 at n112 k112 eA1 ⊢
    have t112 := t111.trans k112
    have ws1 := wx_keep ws1 k112
    have eL1 := k112 _ _ eL1 La1
    have wsA1 := wx_keep wsA1 k112
    refine ⟨L1, p112, _, _, rfl, rfl, eL1, eA1, by show vs1.length + 4 ≤ sizeLine; rw [sizeLine_eq]; omega, fun p113 np113 => ?_⟩
    have n113 := n112.new (o := .lst (vs1 ++ ([.ref p107, .ref p108, .ref p110, .ref p111] : List V))) np113
    have k113 := Keep.new (a := a) (o := .lst (vs1 ++ ([.ref p107, .ref p108, .ref p110, .ref p111] : List V))) np113
    have t113 := t112.trans k113
    have q113 := (n112.ne np113).1
    have w113 := wx_keep (av_app (l := vs1) (m := ([.ref p107, .ref p108, .ref p110, .ref p111] : List V)) ws1 wsA1) k113
    have e113 : upd G112 p113 (.lst (vs1 ++ ([.ref p107, .ref p108, .ref p110, .ref p111] : List V))) p113 = some (.lst (vs1 ++ ([.ref p107, .ref p108, .ref p110, .ref p111] : List V))) := upd_same
    have h113 : (vs1 ++ ([.ref p107, .ref p108, .ref p110, .ref p111] : List V)).length = 12 := by rw [List.length_append, hv1]; rfl
    change gName 3 (V.ref p113) _ (upd G112 p113 (.lst (vs1 ++ ([.ref p107, .ref p108, .ref p110, .ref p111] : List V)))) _
    generalize (vs1 ++ ([.ref p107, .ref p108, .ref p110, .ref p111] : List V)) = vs2 at *
    generalize upd G112 p113 (.lst vs2) = G113 at *
    have ws2 := w113
    have eL2 := e113
    have La2 := q113
    have hv2 := h113
    clear w113 e113 h113 ws1 eL1 wsA1 eA1
    generalize p113 = L2 at *
    refine ⟨_, rfl, _, rfl, (by show 2 ≤ sizeLine; decide), fun p114 np114 => ?_⟩
    obtain ⟨n114, k114, x114⟩ := new_dx (K := K) n113 np114 (.cons (.str _) (.cons (dp_same t113.off _ dv) .nil)) (by show 2 ≤ 100; decide) (gC (gS (x := "tell")) (gC gD gN))
    generalize upd G113 p114 (.tup [.str "tell", sv]) = G114 at n114 k114 x114 ⊢
    have t114 := t113.trans k114
    have ws2 := wx_keep ws2 k114
    have eL2 := k114 _ _ eL2 La2
    refine ⟨(by show 1 ≤ sizeLine; decide), fun p115 np115 => ?_⟩
    obtain ⟨n115, k115, x115⟩ := new_dx (K := K) n114 np115 (.cons x114.1 .nil) (by show 1 ≤ 100; decide) (gC x114.2 gN)
    generalize upd G114 p115 (.tup [.ref p114]) = G115 at n115 k115 x115 ⊢
    have t115 := t114.trans k115
    have ws2 := wx_keep ws2 k115
    have eL2 := k115 _ _ eL2 La2
    have wA20 : WX (NoG b) K a G115 (.ref p115) := ⟨_, x115, rfl⟩
    have wA21 : WX (NoG b) K a G115 (.bl true) := ⟨_, ⟨(.bl _), gB⟩, rfl⟩
    have wsA2 : ∀ x ∈ ([.ref p115, .bl true] : List V), WX (NoG b) K a G115 x := (av wA20 (av wA21 av0))
    clear wA20 wA21
    refine ⟨(by show 2 ≤ sizeLine; decide), fun p116 np116 => ?_⟩
    have n116 := n115.new (o := .lst [.ref p115, .bl true]) np116
    have k116 := Keep.new (a := a) (o := .lst [.ref p115, .bl true]) np116
    have q116 := (n115.ne np116).1
    have eA2 : upd G115 p116 (.lst [.ref p115, .bl true]) p116 = some (.lst [.ref p115, .bl true]) := upd_same
    generalize upd G115 p116 (.lst [.ref p115, .bl true]) = G116 at n116 k116 eA2 ⊢
    have t116 := t115.trans k116
    have ws2 := wx_keep ws2 k116
    have eL2 := k116 _ _ eL2 La2
    have wsA2 := wx_keep wsA2 k116
    refine ⟨L2, p116, _, _, rfl, rfl, eL2, eA2, by show vs2.length + 2 ≤ sizeLine; rw [sizeLine_eq]; omega, fun p117 np117 => ?_⟩
    have n117 := n116.new (o := .lst (vs2 ++ ([.ref p115, .bl true] : List V))) np117
    have k117 := Keep.new (a := a) (o := .lst (vs2 ++ ([.ref p115, .bl true] : List V))) np117
    have t117 := t116.trans k117
    have q117 := (n116.ne np117).1
    have w117 := wx_keep (av_app (l := vs2) (m := ([.ref p115, .bl true] : List V)) ws2 wsA2) k117
    have e117 : upd G116 p117 (.lst (vs2 ++ ([.ref p115, .bl true] : List V))) p117 = some (.lst (vs2 ++ ([.ref p115, .bl true] : List V))) := upd_same
    have h117 : (vs2 ++ ([.ref p115, .bl true] : List V)).length = 14 := by rw [List.length_append, hv2]; rfl
    change gName 3 (V.ref p117) _ (upd G116 p117 (.lst (vs2 ++ ([.ref p115, .bl true] : List V)))) _
    generalize (vs2 ++ ([.ref p115, .bl true] : List V)) = vs3 at *
    generalize upd G116 p117 (.lst vs3) = G117 at *
    have ws3 := w117
    have eL3 := e117
    have La3 := q117
    have hv3 := h117
    clear w117 e117 h117 ws2 eL2 wsA2 eA2
    generalize p117 = L3 at *
    refine ⟨fun σ H2 => ∃ (L : Addr) (vs : List V), σ = [some (.ref a), some sv, some tv, some (.ref L)] ∧ H2 L = some (.lst vs) ∧ 1 ≤ vs.length ∧ vs.length ≤ 30 ∧ (∀ x ∈ vs, WX (NoG b) K a H2 x) ∧ L ≠ a ∧ Hnd H2 a d ∧ Keep a H H2, ?_, ?_⟩
    · have n2 := n117
      have k2 := t117
      generalize G117 = H2 at *
      generalize L3 = L1 at *
      have hv1 := hv3
      have ws1 := ws3
      have eL1 := eL3
      have La1 := La3
      generalize vs3 = vs1 at *
      have bt2 := dp_same k2.off _ bt
      cases t with
      | fn n l m tabs =>
        have wf : Wff n l m tabs := ok
        have hm40 := wf.m2
        obtain ⟨c, r, rfl, hT0, _⟩ := dp_fun bt
        obtain ⟨c', r', ec, hT2, _⟩ := dp_fun bt2
        cases ec
        refine ⟨_, rfl, c, _, 0, _, rfl, rfl, sqt_on hT2, at0, rfl, _, rfl, ?_⟩
        rw [decide_eq_true rfl]
        refine ⟨_, rfl, _, rfl, (by show 2 ≤ sizeLine; decide), fun p201 np201 => ?_⟩
        obtain ⟨n201, k201, x201⟩ := new_dx (K := K) n2 np201 (.cons (.str _) (.cons (dp_same k2.off _ dv) .nil)) (by show 2 ≤ 100; decide) (gC (gS (x := "once")) (gC gD gN))
        generalize upd H2 p201 (.tup [.str "once", sv]) = G201 at n201 k201 x201 ⊢
        have t201 := k2.trans k201
        have ws1 := wx_keep ws1 k201
        have eL1 := k201 _ _ eL1 La1
        have wA10 : WX (NoG b) K a G201 (.ref p201) := ⟨_, x201, (goal_kind (D := D) rfl eD (by decide +kernel) (by show aboF "once" ≠ "function"; decide +kernel))⟩
        refine ⟨_, rfl, (by show 2 ≤ sizeLine; decide), fun p202 np202 => ?_⟩
        obtain ⟨n202, k202, x202⟩ := new_dx (K := K) n201 np202 (.cons (.str _) (.cons (dp_same t201.off _ dv) .nil)) (by show 2 ≤ 100; decide) (gC (gS (x := "next")) (gC gD gN))
        generalize upd G201 p202 (.tup [.str "next", sv]) = G202 at n202 k202 x202 ⊢
        have t202 := t201.trans k202
        have ws1 := wx_keep ws1 k202
        have eL1 := k202 _ _ eL1 La1
        have wA10 := wA10.keep k202
        have wA11 : WX (NoG b) K a G202 (.ref p202) := ⟨_, x202, (goal_kind (D := D) rfl eD (by decide +kernel) (by show aboF "next" ≠ "function"; decide +kernel))⟩
        refine ⟨_, rfl, c, _, 3, _, rfl, rfl, sqt_on (same_sqt t202.off hT0), rfl, [48], _, s0, rfl, ⟨by omega, by show 1 * ((m : Int)).toNat ≤ 16777216; omega, by omega⟩, _, rfl, (by show 3 ≤ sizeLine; decide), fun p203 np203 => ?_⟩
        obtain ⟨n203, k203, x203⟩ := new_dx (K := K) n202 np203 (.cons (.str _) (.cons (.str _) (.cons (dp_same t202.off _ dv) .nil))) (by show 3 ≤ 100; decide) (gC (gS (x := "opening")) (gC (gS (okT_rep (c := 48) (k := ((m : Int)).toNat) (by decide) (by omega))) (gC gD gN)))
        generalize upd G202 p203 (.tup [.str "opening", .str (SX.S (List.replicate ((m : Int)).toNat [48]).flatten), sv]) = G203 at n203 k203 x203 ⊢
        have t203 := t202.trans k203
        have ws1 := wx_keep ws1 k203
        have eL1 := k203 _ _ eL1 La1
        have wA10 := wA10.keep k203
        have wA11 := wA11.keep k203
        have wA12 : WX (NoG b) K a G203 (.ref p203) := ⟨_, x203, (goal_kind (D := D) rfl eD (by decide +kernel) (by show aboF "opening" ≠ "function"; decide +kernel))⟩
        refine ⟨_, rfl, (by show 3 ≤ sizeLine; decide), fun p204 np204 => ?_⟩
        obtain ⟨n204, k204, x204⟩ := new_dx (K := K) n203 np204 (.cons (.str _) (.cons (.str _) (.cons (dp_same t203.off _ dv) .nil))) (by show 3 ≤ 100; decide) (gC (gS (x := "opening")) (gC (gS (x := "")) (gC gD gN)))
        generalize upd G203 p204 (.tup [.str "opening", .str "", sv]) = G204 at n204 k204 x204 ⊢
        have t204 := t203.trans k204
        have ws1 := wx_keep ws1 k204
        have eL1 := k204 _ _ eL1 La1
        have wA10 := wA10.keep k204
        have wA11 := wA11.keep k204
        have wA12 := wA12.keep k204
        have wA13 : WX (NoG b) K a G204 (.ref p204) := ⟨_, x204, (goal_kind (D := D) rfl eD (by decide +kernel) (by show aboF "opening" ≠ "function"; decide +kernel))⟩
        have wsA1 : ∀ x ∈ ([.ref p201, .ref p202, .ref p203, .ref p204] : List V), WX (NoG b) K a G204 x := (av wA10 (av wA11 (av wA12 (av wA13 av0))))
        clear wA10 wA11 wA12 wA13
        refine ⟨(by show 4 ≤ sizeLine; decide), fun p205 np205 => ?_⟩
        have n205 := n204.new (o := .lst [.ref p201, .ref p202, .ref p203, .ref p204]) np205
        have k205 := Keep.new (a := a) (o := .lst [.ref p201, .ref p202, .ref p203, .ref p204]) np205
        have q205 := (n204.ne np205).1
        have eA1 : upd G204 p205 (.lst [.ref p201, .ref p202, .ref p203, .ref p204]) p205 = some (.lst [.ref p201, .ref p202, .ref p203, .ref p204]) := upd_same
        generalize upd G204 p205 (.lst [.ref p201, .ref p202, .ref p203, .ref p204]) = G205 at n205 k205 eA1 ⊢
        have t205 := t204.trans k205
        have ws1 := wx_keep ws1 k205
        have eL1 := k205 _ _ eL1 La1
        have wsA1 := wx_keep wsA1 k205
        refine ⟨L1, p205, _, _, rfl, rfl, eL1, eA1, by show vs1.length + 4 ≤ sizeLine; rw [sizeLine_eq]; omega, fun p206 np206 => ?_⟩
        have n206 := n205.new (o := .lst (vs1 ++ ([.ref p201, .ref p202, .ref p203, .ref p204] : List V))) np206
        have k206 := Keep.new (a := a) (o := .lst (vs1 ++ ([.ref p201, .ref p202, .ref p203, .ref p204] : List V))) np206
        have t206 := t205.trans k206
        have q206 := (n205.ne np206).1
        have w206 := wx_keep (av_app (l := vs1) (m := ([.ref p201, .ref p202, .ref p203, .ref p204] : List V)) ws1 wsA1) k206
        have e206 : upd G205 p206 (.lst (vs1 ++ ([.ref p201, .ref p202, .ref p203, .ref p204] : List V))) p206 = some (.lst (vs1 ++ ([.ref p201, .ref p202, .ref p203, .ref p204] : List V))) := upd_same
        have h206 : (vs1 ++ ([.ref p201, .ref p202, .ref p203, .ref p204] : List V)).length = 18 := by rw [List.length_append, hv1]; rfl
        refine ⟨p206, vs1 ++ ([.ref p201, .ref p202, .ref p203, .ref p204] : List V), rfl, e206, by omega, by omega, w206, q206, n206, t206⟩
      | gen n m rows =>
        have wf : Wf n m rows := ok
        have hm40 := wf.m2
        have hm1 := wf.m1
        obtain ⟨c, r, rfl, hT0, _⟩ := dp_tab bt
        obtain ⟨c', r', ec, hT2, _⟩ := dp_tab bt2
        cases ec
        refine ⟨_, rfl, c, _, 0, _, rfl, rfl, sqt_on hT2, at0, rfl, _, rfl, ?_⟩
        refine ⟨_, rfl, _, rfl, (by show 2 ≤ sizeLine; decide), fun p301 np301 => ?_⟩
        obtain ⟨n301, k301, x301⟩ := new_dx (K := K) n2 np301 (.cons (.str _) (.cons (dp_same k2.off _ dv) .nil)) (by show 2 ≤ 100; decide) (gC (gS (x := "marks")) (gC gD gN))
        generalize upd H2 p301 (.tup [.str "marks", sv]) = G301 at n301 k301 x301 ⊢
        have t301 := k2.trans k301
        have ws1 := wx_keep ws1 k301
        have eL1 := k301 _ _ eL1 La1
        have wA10 : WX (NoG b) K a G301 (.ref p301) := ⟨_, x301, (goal_kind (D := D) rfl eD (by decide +kernel) (by show aboF "marks" ≠ "generator"; decide +kernel))⟩
        refine ⟨_, rfl, (by show 2 ≤ sizeLine; decide), fun p302 np302 => ?_⟩
        obtain ⟨n302, k302, x302⟩ := new_dx (K := K) n301 np302 (.cons (.str _) (.cons (dp_same t301.off _ dv) .nil)) (by show 2 ≤ 100; decide) (gC (gS (x := "secrets")) (gC gD gN))
        generalize upd G301 p302 (.tup [.str "secrets", sv]) = G302 at n302 k302 x302 ⊢
        have t302 := t301.trans k302
        have ws1 := wx_keep ws1 k302
        have eL1 := k302 _ _ eL1 La1
        have wA10 := wA10.keep k302
        have wA11 : WX (NoG b) K a G302 (.ref p302) := ⟨_, x302, (goal_kind (D := D) rfl eD (by decide +kernel) (by show aboF "secrets" ≠ "generator"; decide +kernel))⟩
        refine ⟨_, rfl, c, _, 2, _, rfl, rfl, sqt_on (same_sqt t302.off hT0), rfl, _, _, rfl, rfl, [48], _, s0, rfl, ⟨by omega, by show 1 * (((m : Int) + 1)).toNat ≤ 16777216; omega, by omega⟩, _, rfl, (by show 3 ≤ sizeLine; decide), fun p303 np303 => ?_⟩
        obtain ⟨n303, k303, x303⟩ := new_dx (K := K) n302 np303 (.cons (.str _) (.cons (.str _) (.cons (dp_same t302.off _ dv) .nil))) (by show 3 ≤ 100; decide) (gC (gS (x := "opening")) (gC (gS (okT_rep (c := 48) (k := (((m : Int) + 1)).toNat) (by decide) (by omega))) (gC gD gN)))
        generalize upd G302 p303 (.tup [.str "opening", .str (SX.S (List.replicate (((m : Int) + 1)).toNat [48]).flatten), sv]) = G303 at n303 k303 x303 ⊢
        have t303 := t302.trans k303
        have ws1 := wx_keep ws1 k303
        have eL1 := k303 _ _ eL1 La1
        have wA10 := wA10.keep k303
        have wA11 := wA11.keep k303
        have wA12 : WX (NoG b) K a G303 (.ref p303) := ⟨_, x303, (goal_row eD (row_one (row_short (by omega))))⟩
        have wsA1 : ∀ x ∈ ([.ref p301, .ref p302, .ref p303] : List V), WX (NoG b) K a G303 x := (av wA10 (av wA11 (av wA12 av0)))
        clear wA10 wA11 wA12
        refine ⟨(by show 3 ≤ sizeLine; decide), fun p304 np304 => ?_⟩
        have n304 := n303.new (o := .lst [.ref p301, .ref p302, .ref p303]) np304
        have k304 := Keep.new (a := a) (o := .lst [.ref p301, .ref p302, .ref p303]) np304
        have q304 := (n303.ne np304).1
        have eA1 : upd G303 p304 (.lst [.ref p301, .ref p302, .ref p303]) p304 = some (.lst [.ref p301, .ref p302, .ref p303]) := upd_same
        generalize upd G303 p304 (.lst [.ref p301, .ref p302, .ref p303]) = G304 at n304 k304 eA1 ⊢
        have t304 := t303.trans k304
        have ws1 := wx_keep ws1 k304
        have eL1 := k304 _ _ eL1 La1
        have wsA1 := wx_keep wsA1 k304
        refine ⟨L1, p304, _, _, rfl, rfl, eL1, eA1, by show vs1.length + 3 ≤ sizeLine; rw [sizeLine_eq]; omega, fun p305 np305 => ?_⟩
        have n305 := n304.new (o := .lst (vs1 ++ ([.ref p301, .ref p302, .ref p303] : List V))) np305
        have k305 := Keep.new (a := a) (o := .lst (vs1 ++ ([.ref p301, .ref p302, .ref p303] : List V))) np305
        have t305 := t304.trans k305
        have q305 := (n304.ne np305).1
        have w305 := wx_keep (av_app (l := vs1) (m := ([.ref p301, .ref p302, .ref p303] : List V)) ws1 wsA1) k305
        have e305 : upd G304 p305 (.lst (vs1 ++ ([.ref p301, .ref p302, .ref p303] : List V))) p305 = some (.lst (vs1 ++ ([.ref p301, .ref p302, .ref p303] : List V))) := upd_same
        have h305 : (vs1 ++ ([.ref p301, .ref p302, .ref p303] : List V)).length = 17 := by rw [List.length_append, hv1]; rfl
        change gName 3 (V.ref p305) _ (upd G304 p305 (.lst (vs1 ++ ([.ref p301, .ref p302, .ref p303] : List V)))) _
        generalize (vs1 ++ ([.ref p301, .ref p302, .ref p303] : List V)) = vs2 at *
        generalize upd G304 p305 (.lst vs2) = G305 at *
        have ws2 := w305
        have eL2 := e305
        have La2 := q305
        have hv2 := h305
        clear w305 e305 h305 ws1 eL1 wsA1 eA1
        generalize p305 = L2 at *
        refine ⟨_, rfl, _, rfl, c, _, 2, _, rfl, rfl, sqt_on (same_sqt t305.off hT0), rfl, _, _, rfl, rfl, [48], _, s0, rfl, ⟨by omega, by show 1 * (((m : Int) - 1)).toNat ≤ 16777216; omega, by omega⟩, _, rfl, (by show 3 ≤ sizeLine; decide), fun p306 np306 => ?_⟩
        obtain ⟨n306, k306, x306⟩ := new_dx (K := K) n305 np306 (.cons (.str _) (.cons (.str _) (.cons (dp_same t305.off _ dv) .nil))) (by show 3 ≤ 100; decide) (gC (gS (x := "opening")) (gC (gS (okT_rep (c := 48) (k := (((m : Int) - 1)).toNat) (by decide) (by omega))) (gC gD gN)))
        generalize upd G305 p306 (.tup [.str "opening", .str (SX.S (List.replicate (((m : Int) - 1)).toNat [48]).flatten), sv]) = G306 at n306 k306 x306 ⊢
        have t306 := t305.trans k306
        have ws2 := wx_keep ws2 k306
        have eL2 := k306 _ _ eL2 La2
        have wA20 : WX (NoG b) K a G306 (.ref p306) := ⟨_, x306, (goal_row eD (row_one (row_short (by omega))))⟩
        refine ⟨_, rfl, c, _, 2, _, rfl, rfl, sqt_on (same_sqt t306.off hT0), rfl, [50], _, s2, rfl, ⟨by omega, by show 1 * (((m : Int))).toNat ≤ 16777216; omega, by omega⟩, _, rfl, (by show 3 ≤ sizeLine; decide), fun p307 np307 => ?_⟩
        obtain ⟨n307, k307, x307⟩ := new_dx (K := K) n306 np307 (.cons (.str _) (.cons (.str _) (.cons (dp_same t306.off _ dv) .nil))) (by show 3 ≤ 100; decide) (gC (gS (x := "opening")) (gC (gS (okT_rep (c := 50) (k := (((m : Int))).toNat) (by decide) (by omega))) (gC gD gN)))
        generalize upd G306 p307 (.tup [.str "opening", .str (SX.S (List.replicate (((m : Int))).toNat [50]).flatten), sv]) = G307 at n307 k307 x307 ⊢
        have t307 := t306.trans k307
        have ws2 := wx_keep ws2 k307
        have eL2 := k307 _ _ eL2 La2
        have wA20 := wA20.keep k307
        have wA21 : WX (NoG b) K a G307 (.ref p307) := ⟨_, x307, (goal_row eD (row_one (row_sign (by omega))))⟩
        have wsA2 : ∀ x ∈ ([.ref p306, .ref p307] : List V), WX (NoG b) K a G307 x := (av wA20 (av wA21 av0))
        clear wA20 wA21
        refine ⟨(by show 2 ≤ sizeLine; decide), fun p308 np308 => ?_⟩
        have n308 := n307.new (o := .lst [.ref p306, .ref p307]) np308
        have k308 := Keep.new (a := a) (o := .lst [.ref p306, .ref p307]) np308
        have q308 := (n307.ne np308).1
        have eA2 : upd G307 p308 (.lst [.ref p306, .ref p307]) p308 = some (.lst [.ref p306, .ref p307]) := upd_same
        generalize upd G307 p308 (.lst [.ref p306, .ref p307]) = G308 at n308 k308 eA2 ⊢
        have t308 := t307.trans k308
        have ws2 := wx_keep ws2 k308
        have eL2 := k308 _ _ eL2 La2
        have wsA2 := wx_keep wsA2 k308
        refine ⟨L2, p308, _, _, rfl, rfl, eL2, eA2, by show vs2.length + 2 ≤ sizeLine; rw [sizeLine_eq]; omega, fun p309 np309 => ?_⟩
        have n309 := n308.new (o := .lst (vs2 ++ ([.ref p306, .ref p307] : List V))) np309
        have k309 := Keep.new (a := a) (o := .lst (vs2 ++ ([.ref p306, .ref p307] : List V))) np309
        have t309 := t308.trans k309
        have q309 := (n308.ne np309).1
        have w309 := wx_keep (av_app (l := vs2) (m := ([.ref p306, .ref p307] : List V)) ws2 wsA2) k309
        have e309 : upd G308 p309 (.lst (vs2 ++ ([.ref p306, .ref p307] : List V))) p309 = some (.lst (vs2 ++ ([.ref p306, .ref p307] : List V))) := upd_same
        have h309 : (vs2 ++ ([.ref p306, .ref p307] : List V)).length = 19 := by rw [List.length_append, hv2]; rfl
        change gName 3 (V.ref p309) _ (upd G308 p309 (.lst (vs2 ++ ([.ref p306, .ref p307] : List V)))) _
        generalize (vs2 ++ ([.ref p306, .ref p307] : List V)) = vs3 at *
        generalize upd G308 p309 (.lst vs3) = G309 at *
        have ws3 := w309
        have eL3 := e309
        have La3 := q309
        have hv3 := h309
        clear w309 e309 h309 ws2 eL2 wsA2 eA2
        generalize p309 = L3 at *
        refine ⟨_, rfl, _, rfl, (by show 3 ≤ sizeLine; decide), fun p310 np310 => ?_⟩
        obtain ⟨n310, k310, x310⟩ := new_dx (K := K) n309 np310 (.cons (.str _) (.cons (.int _) (.cons (dp_same t309.off _ dv) .nil))) (by show 3 ≤ 100; decide) (gC (gS (x := "opening")) (gC gI (gC gD gN)))
        generalize upd G309 p310 (.tup [.str "opening", .int (0), sv]) = G310 at n310 k310 x310 ⊢
        have t310 := t309.trans k310
        have ws3 := wx_keep ws3 k310
        have eL3 := k310 _ _ eL3 La3
        have wA30 : WX (NoG b) K a G310 (.ref p310) := ⟨_, x310, (goal_row eD (row_one (rfl)))⟩
        refine ⟨_, rfl, (by show 3 ≤ sizeLine; decide), fun p311 np311 => ?_⟩
        obtain ⟨n311, k311, x311⟩ := new_dx (K := K) n310 np311 (.cons (.str _) (.cons .non (.cons (dp_same t310.off _ dv) .nil))) (by show 3 ≤ 100; decide) (gC (gS (x := "opening")) (gC gO (gC gD gN)))
        generalize upd G310 p311 (.tup [.str "opening", .non, sv]) = G311 at n311 k311 x311 ⊢
        have t311 := t310.trans k311
        have ws3 := wx_keep ws3 k311
        have eL3 := k311 _ _ eL3 La3
        have wA30 := wA30.keep k311
        have wA31 : WX (NoG b) K a G311 (.ref p311) := ⟨_, x311, (goal_row eD (row_one (rfl)))⟩
        refine ⟨(by show 1 ≤ sizeLine; decide), fun p312 np312 => ?_⟩
        obtain ⟨n312, k312, x312⟩ := new_dx (K := K) n311 np312 (.cons (.str _) .nil) (by show 1 ≤ 100; decide) (gC (gS (x := "0")) gN)
        generalize upd G311 p312 (.tup [.str "0"]) = G312 at n312 k312 x312 ⊢
        have t312 := t311.trans k312
        have ws3 := wx_keep ws3 k312
        have eL3 := k312 _ _ eL3 La3
        have wA30 := wA30.keep k312
        have wA31 := wA31.keep k312
        obtain ⟨us313, hT313, hU313⟩ : ∃ us, SqT K G312 p312 us ∧ us = [.str "0"] := by
          cases x312.1 with
          | tup hT hA =>
            cases hA with
            | cons h hn =>
              cases h
              cases hn
              exact ⟨_, sqt_on hT, rfl⟩
        subst hU313
        refine ⟨_, rfl, c, _, 2, _, rfl, rfl, sqt_on (same_sqt t312.off hT0), rfl, p312, _, _, rfl, rfl, hT313, by omega, by omega, fun p313 G313 s313 T313 => ?_⟩
        have n313 := n312.same s313
        have k313 : Keep a G312 G313 := Keep.same s313
        have t313 := t312.trans k313
        have ws3 := wx_keep ws3 k313
        have eL3 := k313 _ _ eL3 La3
        have wA30 := wA30.keep k313
        have wA31 := wA31.keep k313
        have z313 : Dp K (off a G313) (.ref p313) (.tuple (List.replicate ((m : Int)).toNat (.str "0"))) := .tup (sqt_off n313 T313) (dps_repl (.str _) _)
        refine ⟨_, rfl, (by show 3 ≤ sizeLine; decide), fun p314 np314 => ?_⟩
        obtain ⟨n314, k314, x314⟩ := new_dx (K := K) n313 np314 (.cons (.str _) (.cons z313 (.cons (dp_same t313.off _ dv) .nil))) (by show 3 ≤ 100; decide) (gC (gS (x := "opening")) (gC (gR (m := ((m : Int)).toNat) (by omega)) (gC gD gN)))
        generalize upd G313 p314 (.tup [.str "opening", .ref p313, sv]) = G314 at n314 k314 x314 ⊢
        have t314 := t313.trans k314
        have ws3 := wx_keep ws3 k314
        have eL3 := k314 _ _ eL3 La3
        have wA30 := wA30.keep k314
        have wA31 := wA31.keep k314
        have wA32 : WX (NoG b) K a G314 (.ref p314) := ⟨_, x314, (goal_row eD (row_one (rfl)))⟩
        have wsA3 : ∀ x ∈ ([.ref p310, .ref p311, .ref p314] : List V), WX (NoG b) K a G314 x := (av wA30 (av wA31 (av wA32 av0)))
        clear wA30 wA31 wA32
        refine ⟨(by show 3 ≤ sizeLine; decide), fun p315 np315 => ?_⟩
        have n315 := n314.new (o := .lst [.ref p310, .ref p311, .ref p314]) np315
        have k315 := Keep.new (a := a) (o := .lst [.ref p310, .ref p311, .ref p314]) np315
        have q315 := (n314.ne np315).1
        have eA3 : upd G314 p315 (.lst [.ref p310, .ref p311, .ref p314]) p315 = some (.lst [.ref p310, .ref p311, .ref p314]) := upd_same
        generalize upd G314 p315 (.lst [.ref p310, .ref p311, .ref p314]) = G315 at n315 k315 eA3 ⊢
        have t315 := t314.trans k315
        have ws3 := wx_keep ws3 k315
        have eL3 := k315 _ _ eL3 La3
        have wsA3 := wx_keep wsA3 k315
        refine ⟨L3, p315, _, _, rfl, rfl, eL3, eA3, by show vs3.length + 3 ≤ sizeLine; rw [sizeLine_eq]; omega, fun p316 np316 => ?_⟩
        have n316 := n315.new (o := .lst (vs3 ++ ([.ref p310, .ref p311, .ref p314] : List V))) np316
        have k316 := Keep.new (a := a) (o := .lst (vs3 ++ ([.ref p310, .ref p311, .ref p314] : List V))) np316
        have t316 := t315.trans k316
        have q316 := (n315.ne np316).1
        have w316 := wx_keep (av_app (l := vs3) (m := ([.ref p310, .ref p311, .ref p314] : List V)) ws3 wsA3) k316
        have e316 : upd G315 p316 (.lst (vs3 ++ ([.ref p310, .ref p311, .ref p314] : List V))) p316 = some (.lst (vs3 ++ ([.ref p310, .ref p311, .ref p314] : List V))) := upd_same
        have h316 : (vs3 ++ ([.ref p310, .ref p311, .ref p314] : List V)).length = 22 := by rw [List.length_append, hv3]; rfl
        refine ⟨p316, vs3 ++ ([.ref p310, .ref p311, .ref p314] : List V), rfl, e316, by omega, by omega, w316, q316, n316, t316⟩
    · rintro σ H2 ⟨L, vs, rfl, eL, h1, h2, ws, La, n2, k2⟩
      refine ⟨_, rfl, _, rfl, _, rfl, L, vs, rfl, .inl (.inl (.inl eL)), a, d, (vs.length : Int), rfl, by omega, n2, fun r H9 l9 u9 n9 k9 => ?_⟩
      obtain ⟨x, hat, hmem⟩ := atI_mem (xs := vs) l9 u9
      obtain ⟨D9, x9, bad9⟩ := ws x hmem
      exact ⟨L, _, r, x, rfl, rfl, .inl (.inl (k9 _ _ eL La)), hat, q x D9 H9 bad9 (x9.keep k9) n9 (k2.trans k9)⟩

end
theorem blk_eqv {b : Blk} (h : b.Ok) : PyData.eqv b.D b.D = true := PySem.SeqAt.eqv_refl _ (gd_lay (blk_gd h))
theorem blk_dep {b : Blk} (h : b.Ok) : b.D.depth ≤ 8 := Nat.le_trans (gd_facts (blk_gd h)).2 (by decide)
def spEdges31 (K : PySem.W.Frag) : Sp := fun vs H Q _ => ∃ a d : Addr, vs = [.ref a] ∧ Hnd H a d ∧ ∀ H', Hnd H' a d → Keep a H H' → Q (.bl true) H'
/-- built of a scheme that fits, then the same of the law's own making -/
theorem built_ok1 {K : PySem.W.Frag} {CB CS : Addr} {H : Hp} {Q : VK} {E : XK} {v u : V} {D : PyData} {n : Nat} {b t : Blk} (hv : Dp K H v D) (hg : Gd n D) (hu : Dp K H u b.D) (ok : b.Ok) (e : builtD D b = some t) (q : ∀ v' H', Same H H' → Dp K H' v' t.D → Q v' H') : spBuilt K CB CS [v, u] H Q E :=
  ⟨v, u, D, b.D, n, 3, rfl, hv, hg, hu, blk_gd ok, by decide, .inr ⟨b, rfl, ok, fun b' v' H' e' s d => by rw [e] at e'; cases e'; exact q v' H' s d, fun H' e' _ => by rw [e] at e'; cases e'⟩⟩
theorem goal_ok1 {K : PySem.W.Frag} {CB CS : Addr} {H : Hp} {Q : VK} {E : XK} {v u : V} {g : PyData} {n : Nat} {b : Blk} (hv : Dp K H v g) (hg : Gd n g) (hu : Dp K H u b.D) (ok : b.Ok) (e : goalOk g b = true) (q : ∀ H', Same H H' → Q .non H') : spGoal K CB CS [v, u] H Q E :=
  ⟨v, u, g, b.D, n, 3, rfl, hv, hg, hu, blk_gd ok, by decide, .inr ⟨b, rfl, ok, fun H' _ s => q H' s, fun H' e' _ => by rw [e] at e'; cases e'⟩⟩
theorem ref_b {K : PySem.W.Frag} {H : Hp} {Q : VK} {E : XK} {v u : V} {D : PyData} {b : Blk} (hv : ∃ n, Dp K H v D ∧ Gd n D) (hu : Dp K H u b.D) (ok : b.Ok) (e : builtD D b = none) (q : ∀ H', Same H H' → Q (.int 1) H') : spRef31 K [v, u, .bl false] H Q E := by
  obtain ⟨n, hv, hg⟩ := hv
  exact ⟨v, u, D, b.D, n, 3, false, rfl, hv, hg, hu, blk_gd ok, by decide, .inr ⟨b, rfl, ok, e, q⟩⟩
theorem ref_g {K : PySem.W.Frag} {H : Hp} {Q : VK} {E : XK} {v u : V} {D : PyData} {b : Blk} (hv : ∃ n, Dp K H v D ∧ Gd n D) (hu : Dp K H u b.D) (ok : b.Ok) (e : goalOk D b = false) (q : ∀ H', Same H H' → Q (.int 1) H') : spRef31 K [v, u, .bl true] H Q E := by
  obtain ⟨n, hv, hg⟩ := hv
  exact ⟨v, u, D, b.D, n, 3, true, rfl, hv, hg, hu, blk_gd ok, by decide, .inr ⟨b, rfl, ok, e, q⟩⟩
theorem ref_w {K : PySem.W.Frag} {H : Hp} {Q : VK} {E : XK} {v u : V} {D B : PyData} {m : Nat} {goal : Bool} (hv : ∃ n, Dp K H v D ∧ Gd n D) (hu : Dp K H u B) (gB : Gd m B) (m64 : m ≤ 64) (e : blockOk B = false) (q : ∀ H', Same H H' → Q (.int 2) H') : spRef31 K [v, u, .bl goal] H Q E := by
  obtain ⟨n, hv, hg⟩ := hv
  exact ⟨v, u, D, B, n, m, goal, rfl, hv, hg, hu, gB, m64, .inl ⟨e, q⟩⟩
theorem DX.at {K : PySem.W.Frag} {a : Addr} {H : Hp} {v : V} {D : PyData} (h : DX K a H v D) : ∃ n, Dp K H v D ∧ Gd n D := by
  obtain ⟨n, g⟩ := h.2
  exact ⟨n, h.on, g⟩

section
variable {P : Program} {w : World} {K : PySem.W.Frag} {mg : Str → Option Value} {base : Heap} {cs : Cs}
theorem ok_edges31 {f : Addr} {fd : FuncData} (D : Df K mg "_law_edges" s_law_edges ["hand"] f fd) (T : Txt K w mg cs) (c_law_take : Cl P w K mg base CX0 1 "_law_take" spTake) (c_law_string : Cl P w K mg base CX0 2 "_law_string" spString) (c_law_table : Cl P w K mg base CX0 3 "_law_table" (spTable K)) (c_law_layer : Cl P w K mg base CX0 3 "_law_layer" (spLayer K))
    (c_built : Cl P w K mg base (L2.CX P w) 8 "built" (spBuilt K cs.BadBlock cs.BadScheme)) (c_check_goal : Cl P w K mg base (L2.CX P w) 9 "check_goal" (spGoal K cs.BadBlock cs.BadScheme)) (c_law_refused : Cl P w K mg base CX0 10 "_law_refused" (spRef31 K)) : FnOk P w K mg base CX0 11 f fd ["hand"] (spEdges31 K) := by
  refine D.fn.ok sc_law_edges (fun vs H Q E h => ?_) (fun cdv A outer s H vs Q E hr h => ?_)
  · obtain ⟨a, d, rfl, _⟩ := h
    rfl
  · obtain ⟨a, d, rfl, hh, q⟩ := h
    refine ⟨_, (pss_cons (ps_set (i := 1) sc_law_edges.nd rfl (.inl rfl) (pe_cl c_law_table hr (by first | decide | omega) (by rfl) (pa_cons (pv 0) (pa_cons pe_int (pa_cons pe_int pa_nil))))) (pss_cons (ps_set (i := 2) sc_law_edges.nd rfl (.inl rfl) (pe_ix (ixL K) (pe_lst (pa_cons pe_int (pa_cons pe_int pa_nil))) (pe_cl c_law_take hr (by first | decide | omega) (by rfl) (pa_cons (pv 0) (pa_cons pe_int pa_nil))) (fun _ _ => rfl))) (pss_cons (ps_set (i := 3) sc_law_edges.nd rfl (.inl rfl) (pe_ix (ixL K) (pe_lst (pa_cons pe_str (pa_cons pe_str pa_nil))) (pe_callTy call_int1 (by rfl) T.n_int (by decide +kernel) (pa_cons (pe_cmpR op_eq (pv 2) pe_int (nomark _)) pa_nil)) (fun _ _ => rfl))) (pss_cons (ps_set (i := 4) sc_law_edges.nd rfl (.inl rfl) (pe_tup (pa_cons (pv 3) (pa_cons (pv 2) (pa_cons (pe_tup (pa_cons pe_str pa_nil)) pa_nil))))) (pss_cons (ps_if (PW.pt (pw_or (pt_cmpR (op_neF K hr.units) (pe_clX c_built hr (by first | decide | omega) (by rfl) takes0 (pa_cons (pv 4) (pa_cons (pv 1) pa_nil))) (pe_cl c_law_layer hr (by first | decide | omega) (by rfl) (pa_cons (pv 3) (pa_cons (pv 2) (pa_cons (pv 1) pa_nil)))) (nomark _)) (pw_or1 (pt_cmpR op_notN (pe_clX c_check_goal hr (by first | decide | omega) (by rfl) takes0 (pa_cons (pe_tup (pa_cons pe_str (pa_cons (pv 4) pa_nil))) (pa_cons (pv 1) pa_nil))) pe_non (nomark _))))) (pss_one (ps_ret pe_bl)) pss_nil) (pss_cons (ps_set (i := 5) sc_law_edges.nd rfl (.inl rfl) (pe_tup (pa_cons pe_str (pa_cons pe_int (pa_cons pe_int (pa_cons pe_int (pa_cons (pe_tup (pa_cons (pe_tup (pa_cons (pe_cl c_law_string hr (by first | decide | omega) (by rfl) (pa_cons (pv 0) (pa_cons pe_int pa_nil))) (pa_cons (pe_op op_repS pe_str pe_int) pa_nil))) (pa_cons (pe_tup (pa_cons (pe_op op_repS pe_str pe_int) (pa_cons (pe_op op_add_str (pe_op op_repS pe_str pe_int) pe_str) pa_nil))) pa_nil))) pa_nil))))))) (pss_cons (ps_if (pt_cmpR (op_neF K hr.units) (pe_clX c_built hr (by first | decide | omega) (by rfl) takes0 (pa_cons (pe_tup (pa_cons pe_str (pa_cons pe_int (pa_cons (pe_tup (pa_cons pe_str pa_nil)) pa_nil)))) (pa_cons (pv 5) pa_nil))) (pe_cl c_law_layer hr (by first | decide | omega) (by rfl) (pa_cons pe_str (pa_cons pe_int (pa_cons (pv 5) pa_nil)))) (nomark _)) (pss_one (ps_ret pe_bl)) pss_nil) (pss_cons (ps_if (pt_cmpR op_ne (pe_cl c_law_refused hr (by first | decide | omega) (by rfl) (pa_cons (pe_tup (pa_cons pe_str (pa_cons pe_int (pa_cons (pe_tup (pa_cons pe_str pa_nil)) pa_nil)))) (pa_cons (pv 5) (pa_cons pe_bl pa_nil)))) pe_int (nomark _)) (pss_one (ps_ret pe_bl)) pss_nil) (pss_cons (ps_set (i := 6) sc_law_edges.nd rfl (.inl rfl) (pe_tup (pa_cons pe_str (pa_cons pe_int (pa_cons pe_int (pa_cons (pe_op (op_rep1 K) (pe_tup (pa_cons (pe_op op_add_str (pe_op op_repS pe_str pe_int) pe_str) pa_nil)) pe_int) pa_nil)))))) (pss_one (ps_ret (pe_cmpR op_eq (pe_cl c_law_refused hr (by first | decide | omega) (by rfl) (pa_cons (pe_tup (pa_cons pe_str (pa_cons pe_int (pa_cons (pe_tup (pa_cons pe_str pa_nil)) pa_nil)))) (pa_cons (pv 6) (pa_cons pe_bl pa_nil)))) pe_int (nomark _))))))))))))), ?_⟩
    refine ⟨_, rfl, a, d, 1, 2, rfl, by decide, by decide, hh, fun u rows H1 hl hr1 du n1 k1 => ?_⟩
    have ok1 : (Blk.gen 1 2 rows).Ok := ⟨by decide, by decide, by decide, by decide, hl, hr1⟩
    refine ⟨(by show 2 ≤ sizeLine; decide), fun L nL => ?_⟩
    refine ⟨_, rfl, a, d, 2, rfl, by decide, n1.new nL, fun r H2 l2 u2 n2 k2 => ?_⟩
    have eL := k2 _ _ upd_same (n1.ne nL).1
    have k12 := (Keep.new nL).trans k2
    -- the two schemes
    obtain ⟨num, z, t, hat, hz, hsec, lay⟩ : ∃ (num : Nat) (z : Str) (t : Blk), atI [V.int 20, V.int 8] r = some (.int (num : Int)) ∧ atI [V.str "longer", V.str "tree"] (if decide (V.int (num : Int) = V.int 8) = true then 1 else 0) = some (.str z) ∧ LayN z ∧ lay1 (.str z, .int (num : Int)) (.gen 1 2 rows) = some t := by
      have er : r = 0 ∨ r = 1 := by omega
      rcases er with e | e <;> subst e
      · exact ⟨20, "longer", _, rfl, (by rw [decide_eq_false (show ¬ V.int ((20 : Nat) : Int) = V.int 8 from fun h => by have := V.int.inj h; omega)]; rfl), .inl rfl, can_long (n := 1) (k := 20) (by decide) (by decide)⟩
      · exact ⟨8, "tree", _, rfl, (by rw [decide_eq_true (show V.int ((8 : Nat) : Int) = V.int 8 from rfl)]; rfl), .inr (.inl rfl), can_tree (n := 1) (k := 8) (by decide) (by decide) (by decide) (by decide)⟩
    refine ⟨L, _, r, _, rfl, rfl, .inl (.inl eL), hat, ?_⟩
    have du2 := dp_same k12.off _ du
    have k2' := k1.trans k12
    clear eL k12 nL l2 u2 hat du k1 k2 n1
    refine ⟨(by show 2 ≤ sizeLine; decide), fun M nM => ⟨_, rfl, rfl, ?_⟩⟩
    refine .inr ⟨_, rfl, M, _, _, _, rfl, rfl, .inl (.inl upd_same), hz, ?_⟩
    have n3 := n2.new (o := .lst [.str "longer", .str "tree"]) nM
    have k3 := k2'.trans (Keep.new (o := .lst [.str "longer", .str "tree"]) nM)
    have du3 := dp_same (Keep.new (a := a) (o := .lst [.str "longer", .str "tree"]) nM).off _ du2
    generalize upd H2 M (.lst [.str "longer", .str "tree"]) = H3 at *
    clear n2 k2' du2 nM hz
    refine ⟨_, rfl, _, rfl, (by show 1 ≤ sizeLine; decide), fun p1 np1 => ?_⟩
    obtain ⟨n4, k4, x4⟩ := new_dx (K := K) n3 np1 (.cons (.str "block") .nil) (by show 1 ≤ 100; decide) (gC (gS (x := "block")) gN)
    generalize upd H3 p1 (.tup [.str "block"]) = H4 at n4 k4 x4 ⊢
    refine ⟨(by show 3 ≤ sizeLine; decide), fun p2 np2 => ?_⟩
    obtain ⟨n5, k5, x5⟩ := new_dx (K := K) n4 np2 (.cons (.str z) (.cons (.int (num : Int)) (.cons x4.1 .nil))) (by show 3 ≤ 100; decide) (gC (gS hsec.okT) (gC gI (gC x4.2 gN)))
    show gName 4 (V.ref p2) _ (upd H4 p2 (.tup [.str z, .int (num : Int), .ref p1])) _
    generalize upd H4 p2 (.tup [.str z, .int (num : Int), .ref p1]) = H5 at n5 k5 x5 ⊢
    have sch : Sch (.tuple [.str z, .int (num : Int), blkS]) ([] ++ [(.str z, .int (num : Int))]) := .cons hsec .nil
    have eb : builtL ([] ++ [(PyData.str z, PyData.int (num : Int))]) (.gen 1 2 rows) = some t := by
      rw [built_snoc]
      exact lay
    have eD := sch_built sch (by show 1 ≤ 7; decide) eb
    have okt := lay_ok ok1 lay
    have du5 : Dp K (off a H5) u (Blk.gen 1 2 rows).D := dp_same (k4.trans k5).off _ du3
    have k6 := (k3.trans k4).trans k5
    obtain ⟨g5, dx5, gx5⟩ := x5.at
    clear x4 np1 np2 n3 n4 k3 k4 k5 du3
    refine ⟨_, rfl, _, rfl, built_ok1 dx5 gx5 (dp_same (off_same a H5) _ du5) ok1 eD fun v6 H6 s6 d6 => ?_⟩
    refine ⟨_, rfl, _, rfl, _, rfl, u, .gen 1 2 rows, t, z, (num : Int), rfl, dp_same s6 _ (dp_same (off_same a H5) _ du5), ok1, lay, fun v7 H7 s7 d7 => ?_⟩
    refine ⟨t.D, t.D, dp_same s7 _ d6, d7, gd_lay (blk_gd okt), gd_lay (blk_gd okt), blk_dep okt, _, rfl, ?_⟩
    rw [blk_eqv okt]
    have s67 := s6.trans s7
    have n7 := n5.same s67
    have k7 : Keep a H H7 := k6.trans (Keep.same s67)
    have x7 := x5.keep (Keep.same s67)
    have du7 := dp_same (Keep.same (a := a) s67).off _ du5
    clear d6 d7 s6 s7 s67 dx5 gx5 x5 du5 n5 k6
    refine ⟨_, rfl, (by show 2 ≤ sizeLine; decide), fun p3 np3 => ?_⟩
    obtain ⟨n8, k8, x8⟩ := new_dx (K := K) n7 np3 (.cons (.str "tell") (.cons x7.1 .nil)) (by show 2 ≤ 100; decide) (gC (gS (x := "tell")) (gC x7.2 gN))
    generalize upd H7 p3 (.tup [.str "tell", .ref p2]) = H8 at n8 k8 x8 ⊢
    obtain ⟨g8, dx8, gx8⟩ := x8.at
    have go8 := goal_two (z := "tell") (by decide +kernel) (by decide +kernel) eD (.inl (by decide +kernel))
    have du8 := dp_same (off_same a H8) _ (dp_same k8.off _ du7)
    refine ⟨_, rfl, _, u, _, (Blk.gen 1 2 rows).D, g8, 3, rfl, dx8, gx8, du8, blk_gd ok1, by decide, .inr ⟨_, rfl, ok1, fun H9 _ s9 => ?_, fun H' e' _ => absurd (go8.symm.trans e') (by decide)⟩⟩
    refine ⟨rfl, _, rfl, ?_⟩
    rw [decide_eq_true rfl]
    have n9 := n8.same s9
    have k9 : Keep a H H9 := (k7.trans k8).trans (Keep.same s9)
    clear x7 x8 dx8 gx8 du7 n7 n8 k7 k8 s9 np3 eD eb sch okt lay hsec
    -- a wide function
    have s0 : V.str "0" = .str (SX.S [48]) := by rw [show ("0" : Str) = SX.S [48] by decide +kernel]
    have s1 : V.str "1" = .str (SX.S [49]) := by rw [show ("1" : Str) = SX.S [49] by decide +kernel]
    have s01 : V.str "01" = .str (SX.S [48, 49]) := by rw [show ("01" : Str) = SX.S [48, 49] by decide +kernel]
    obtain ⟨r0, e0, h0⟩ : ∃ r : List Bool, SX.S (List.replicate ((21 : Int)).toNat [48]).flatten = sb r ∧ r.length = 21 := ⟨List.replicate 21 false, by decide +kernel, rfl⟩
    obtain ⟨r1, e1, h1⟩ : ∃ r : List Bool, SX.S (List.replicate ((21 : Int)).toNat [49]).flatten = sb r ∧ r.length = 21 := ⟨List.replicate 21 true, by decide +kernel, rfl⟩
    obtain ⟨r2, e2, h2⟩ : ∃ r : List Bool, SX.S (List.replicate ((10 : Int)).toNat [48, 49]).flatten ++ "1" = sb r ∧ r.length = 21 := ⟨(List.replicate 10 [false, true]).flatten ++ [true], by decide +kernel, by decide⟩
    refine ⟨_, rfl, a, d, 21, rfl, by decide, n9, fun bs HA hb nA kA => ⟨[48], 21, s0, rfl, ⟨by decide, by decide, by decide⟩, ?_⟩⟩
    rw [e0]
    refine ⟨(by show 2 ≤ sizeLine; decide), fun p4 np4 => ?_⟩
    obtain ⟨nB, kB, x4⟩ := new_dx (K := K) nA np4 (.cons (.str (sb bs)) (.cons (.str (sb r0)) .nil)) (by show 2 ≤ 100; decide) (gC (gS (okT_sb (by omega))) (gC (gS (okT_sb (by omega))) gN))
    generalize upd HA p4 (.tup [.str (sb bs), .str (sb r0)]) = HB at nB kB x4 ⊢
    refine ⟨[49], 21, s1, rfl, ⟨by decide, by decide, by decide⟩, ?_⟩
    rw [e1]
    refine ⟨[48, 49], 10, s01, rfl, ⟨by decide, by decide, by decide⟩, _, _, rfl, rfl, by decide +kernel, ?_⟩
    rw [e2]
    refine ⟨(by show 2 ≤ sizeLine; decide), fun p5 np5 => ?_⟩
    obtain ⟨nC, kC, x5⟩ := new_dx (K := K) nB np5 (.cons (.str (sb r1)) (.cons (.str (sb r2)) .nil)) (by show 2 ≤ 100; decide) (gC (gS (okT_sb (by omega))) (gC (gS (okT_sb (by omega))) gN))
    generalize upd HB p5 (.tup [.str (sb r1), .str (sb r2)]) = HC at nC kC x5 ⊢
    have x4 := x4.keep kC
    refine ⟨(by show 2 ≤ sizeLine; decide), fun p6 np6 => ?_⟩
    obtain ⟨nD, kD, x6⟩ := new_dx (K := K) nC np6 (.cons x4.1 (.cons x5.1 .nil)) (by show 2 ≤ 100; decide) (gC x4.2 (gC x5.2 gN))
    generalize upd HC p6 (.tup [.ref p4, .ref p5]) = HD at nD kD x6 ⊢
    refine ⟨(by show 5 ≤ sizeLine; decide), fun p7 np7 => ?_⟩
    obtain ⟨nE, kE, x7⟩ := new_dx (K := K) nD np7 (.cons (.str "function") (.cons (.int 1) (.cons (.int 1) (.cons (.int 21) (.cons x6.1 .nil))))) (by show 5 ≤ 100; decide) (gC (gS (x := "function")) (gC gI (gC gI (gC gI (gC x6.2 gN)))))
    show gName 5 (V.ref p7) _ (upd HD p7 (.tup [.str "function", .int 1, .int 1, .int 21, .ref p6])) _
    generalize upd HD p7 (.tup [.str "function", .int 1, .int 1, .int 21, .ref p6]) = HE at nE kE x7 ⊢
    have kE' := ((((k9.trans kA).trans kB).trans kC).trans kD).trans kE
    have wok : (Blk.fn 1 1 21 [[bs, r0], [r1, r2]]).Ok := ⟨by decide, by decide, by decide, by decide, by decide, by decide, by decide, rfl, fun rows hr => by
      rcases List.mem_cons.mp hr with e | hr
      · rw [e]
        refine ⟨rfl, fun r hr => ?_⟩
        rcases List.mem_cons.mp hr with e | hr
        · rw [e]
          exact hb
        · rw [List.mem_singleton.mp hr]
          exact h0
      · rw [List.mem_singleton.mp hr]
        refine ⟨rfl, fun r hr => ?_⟩
        rcases List.mem_cons.mp hr with e | hr
        · rw [e]
          exact h1
        · rw [List.mem_singleton.mp hr]
          exact h2⟩
    have dw : Dp K (off a HE) (.ref p7) (Blk.fn 1 1 21 [[bs, r0], [r1, r2]]).D := x7.1
    clear kA kB kC kD kE nA nB nC nD x4 x5 x6 x7 np4 np5 np6 np7 e0 e1 e2 s0 s1 s01 k9 n9
    obtain ⟨tw, lw⟩ : ∃ tw, lay1 (.str "counter", .int ((1 : Nat) : Int)) (Blk.fn 1 1 21 [[bs, r0], [r1, r2]]) = some tw := ⟨_, can_cnt (by decide) (by decide) (by decide)⟩
    have lw2 : lay1 (.str "counter", .int ((2 : Nat) : Int)) (Blk.fn 1 1 21 [[bs, r0], [r1, r2]]) = none := fn_wide wok (by decide)
    generalize hW : Blk.fn 1 1 21 [[bs, r0], [r1, r2]] = W at *
    clear h0 h1 h2 hb hW
    refine ⟨(by show 1 ≤ sizeLine; decide), fun q1 nq1 => ?_⟩
    obtain ⟨m1, j1, y1⟩ := new_dx (K := K) nE nq1 (.cons (.str "block") .nil) (by show 1 ≤ 100; decide) (gC (gS (x := "block")) gN)
    generalize upd HE q1 (.tup [.str "block"]) = J1 at m1 j1 y1 ⊢
    refine ⟨(by show 3 ≤ sizeLine; decide), fun q2 nq2 => ?_⟩
    obtain ⟨m2, j2, y2⟩ := new_dx (K := K) m1 nq2 (.cons (.str "counter") (.cons (.int 1) (.cons y1.1 .nil))) (by show 3 ≤ 100; decide) (gC (gS (x := "counter")) (gC gI (gC y1.2 gN)))
    generalize upd J1 q2 (.tup [.str "counter", .int 1, .ref q1]) = J2 at m2 j2 y2 ⊢
    have k2 := (kE'.trans j1).trans j2
    have dw2 := dp_same (j1.trans j2).off _ dw
    obtain ⟨g2, dy2, gy2⟩ := y2.at
    have okw := lay_ok wok lw
    have eW : builtD (.tuple [.str "counter", .int ((1 : Nat) : Int), blkS]) W = some tw := by
      refine sch_built (ls := [] ++ [(PyData.str "counter", PyData.int ((1 : Nat) : Int))]) (.cons (.inr (.inr (.inl rfl))) .nil) (by show 1 ≤ 7; decide) ?_
      rw [built_snoc]
      exact lw
    have dwF := dp_same (off_same a J2) _ dw2
    refine ⟨_, rfl, _, .ref p7, _, W.D, g2, 3, rfl, dy2, gy2, dwF, blk_gd wok, by decide, .inr ⟨W, rfl, wok, fun b' v6 J3 e6 s6 d6 => ?_, fun J3 e6 _ => absurd (eW.symm.trans e6) (by simp)⟩⟩
    obtain rfl : tw = b' := Option.some.inj (eW.symm.trans e6)
    refine ⟨_, rfl, .ref p7, W, tw, "counter", 1, rfl, dp_same s6 _ dwF, wok, lw, fun v7 J4 s7 d7 => ?_⟩
    refine ⟨tw.D, tw.D, dp_same s7 _ d6, d7, gd_lay (blk_gd okw), gd_lay (blk_gd okw), blk_dep okw, _, rfl, ?_⟩
    rw [blk_eqv okw]
    have s67 := s6.trans s7
    have m4 := m2.same s67
    have k4 : Keep a H J4 := k2.trans (Keep.same s67)
    have dw4 := dp_same (Keep.same (a := a) s67).off _ dw2
    clear m1 j1 y1 m2 j2 y2 k2 dw2 dy2 gy2 dwF d6 d7 s6 s7 s67 nq1 nq2 e6 eW okw lw kE' dw nE
    refine ⟨(by show 1 ≤ sizeLine; decide), fun q1 nq1 => ?_⟩
    obtain ⟨m1, j1, y1⟩ := new_dx (K := K) m4 nq1 (.cons (.str "block") .nil) (by show 1 ≤ 100; decide) (gC (gS (x := "block")) gN)
    generalize upd J4 q1 (.tup [.str "block"]) = J1 at m1 j1 y1 ⊢
    refine ⟨(by show 3 ≤ sizeLine; decide), fun q2 nq2 => ?_⟩
    obtain ⟨m2, j2, y2⟩ := new_dx (K := K) m1 nq2 (.cons (.str "counter") (.cons (.int 2) (.cons y1.1 .nil))) (by show 3 ≤ 100; decide) (gC (gS (x := "counter")) (gC gI (gC y1.2 gN)))
    generalize upd J1 q2 (.tup [.str "counter", .int 2, .ref q1]) = J2 at m2 j2 y2 ⊢
    have k2 := (k4.trans j1).trans j2
    have dw2 := dp_same (j1.trans j2).off _ dw4
    have nW : builtD (.tuple [.str "counter", .int ((2 : Nat) : Int), blkS]) W = none := unfit_no .nil (by show 0 ≤ 6; decide) rfl lw2
    obtain ⟨gb, db, gdb⟩ := y2.at
    refine ⟨_, rfl, _, _, _, W.D, gb, 3, false, rfl, db, gdb, dp_same (off_same a J2) _ dw2, blk_gd wok, by decide, .inr ⟨W, rfl, wok, nW, fun J5 s5 => ?_⟩⟩
    refine ⟨rfl, _, rfl, ?_⟩
    rw [decide_eq_true rfl]
    have m5 := m2.same s5
    have k5 : Keep a H J5 := k2.trans (Keep.same s5)
    clear m1 j1 y1 m2 j2 y2 k2 dw2 dw4 m4 k4 nq1 nq2 s5 nW lw2 wok
    -- a long generator
    obtain ⟨r3, e3, h3⟩ : ∃ r : List Bool, SX.S (List.replicate ((2 : Int)).toNat [48, 49, 49, 48]).flatten ++ "01" = sb r ∧ r.length = 10 := ⟨[false, true, true, false, false, true, true, false, false, true], by decide +kernel, rfl⟩
    have s3 : V.str "0110" = .str (SX.S [48, 49, 49, 48]) := by rw [show ("0110" : Str) = SX.S [48, 49, 49, 48] by decide +kernel]
    refine ⟨[48, 49, 49, 48], 2, s3, rfl, ⟨by decide, by decide, by decide⟩, _, _, rfl, rfl, by decide +kernel, ?_⟩
    rw [e3]
    refine ⟨(by show 1 ≤ sizeLine; decide), fun q3 nq3 => ?_⟩
    have m6 := m5.new (o := .tup [.str (sb r3)]) nq3
    have k6 := k5.trans (Keep.new (a := a) (o := .tup [.str (sb r3)]) nq3)
    have t6 : SqT K (upd J5 q3 (.tup [.str (sb r3)])) q3 [.str (sb r3)] := .inl (.inl upd_same)
    generalize upd J5 q3 (.tup [.str (sb r3)]) = J6 at m6 k6 t6 ⊢
    refine ⟨q3, 32, _, rfl, rfl, t6, by decide, by decide, fun q4 J7 s7 t7 => ⟨(by show 4 ≤ sizeLine; decide), fun q5 nq5 => ?_⟩⟩
    have m7 := m6.same s7
    have k7 : Keep a H J7 := k6.trans (Keep.same s7)
    have t8 := same_sqt (same_new (o := .tup [.str "generator", .int 5, .int 10, .ref q4]) nq5) t7
    have m8 := m7.new (o := .tup [.str "generator", .int 5, .int 10, .ref q4]) nq5
    have k8 := k7.trans (Keep.new (a := a) (o := .tup [.str "generator", .int 5, .int 10, .ref q4]) nq5)
    have lok : (Blk.gen 5 (2 * 5) (List.replicate 32 r3)).Ok := ⟨by decide, by decide, by decide, by decide, (show (List.replicate 32 r3).length = 2 ^ 5 from List.length_replicate ..), fun r hr => by rw [(List.mem_replicate.mp hr).2]; exact h3⟩
    have dl : Dp K (upd J7 q5 (.tup [.str "generator", .int 5, .int 10, .ref q4])) (.ref q5) (Blk.gen 5 (2 * 5) (List.replicate 32 r3)).D := by
      refine tab_dp (n := 5) (m := 10) (r := q4) (.inl (.inl upd_same)) ?_
      rw [List.map_replicate]
      exact t8
    show gName 6 (V.ref q5) _ (upd J7 q5 (.tup [.str "generator", .int 5, .int 10, .ref q4])) _
    generalize upd J7 q5 (.tup [.str "generator", .int 5, .int 10, .ref q4]) = J8 at m8 k8 dl ⊢
    clear t8 m7 k7 t7 s7 m6 k6 t6 m5 k5 nq5 nq3 e3 s3
    refine ⟨(by show 1 ≤ sizeLine; decide), fun q1 nq1 => ?_⟩
    obtain ⟨m1, j1, y1⟩ := new_dx (K := K) m8 nq1 (.cons (.str "block") .nil) (by show 1 ≤ 100; decide) (gC (gS (x := "block")) gN)
    have dl1 := dp_same (same_new (o := .tup [.str "block"]) nq1) _ dl
    generalize upd J8 q1 (.tup [.str "block"]) = J1 at m1 j1 y1 dl1 ⊢
    refine ⟨(by show 3 ≤ sizeLine; decide), fun q2 nq2 => ?_⟩
    obtain ⟨m2, j2, y2⟩ := new_dx (K := K) m1 nq2 (.cons (.str "tree") (.cons (.int 8) (.cons y1.1 .nil))) (by show 3 ≤ 100; decide) (gC (gS (x := "tree")) (gC gI (gC y1.2 gN)))
    have dl2 := dp_same (same_new (o := .tup [.str "tree", .int 8, .ref q1]) nq2) _ dl1
    generalize upd J1 q2 (.tup [.str "tree", .int 8, .ref q1]) = J2 at m2 j2 y2 dl2 ⊢
    have nL : builtD (.tuple [.str "tree", .int 8, blkS]) (Blk.gen 5 (2 * 5) (List.replicate 32 r3)) = none := unfit_no .nil (by show 0 ≤ 6; decide) rfl (tree_deep lok (by decide))
    obtain ⟨gb, db, gdb⟩ := y2.at
    refine ⟨_, rfl, _, _, _, _, gb, 3, false, rfl, db, gdb, dl2, blk_gd lok, by decide, .inr ⟨_, rfl, lok, nL, fun J9 s9 => ?_⟩⟩
    refine ⟨rfl, ?_⟩
    rw [decide_eq_true rfl]
    exact q J9 (m2.same s9) (((k8.trans j1).trans j2).trans (Keep.same s9))

end
/-! ### the law's last steps -/
theorem take_self {n m : Nat} {rows : List (List Bool)} (h : Wf n m rows) : (rows.map fun r => r.take m) = rows := by
  refine (List.map_congr_left (g := id) fun r hr => ?_).trans (List.map_id rows)
  show r.take m = r
  rw [← h.row r hr, List.take_length]
theorem cut_self {n m : Nat} {rows : List (List Bool)} (h : Wf n m rows) : lay1 (.str "cut", .int (m : Int)) (.gen n m rows) = some (.gen n m rows) := by
  have e := can_cut (n := n) (rows := rows) h.m1 (Nat.le_refl m)
  rw [take_self h] at e
  exact e
theorem sch_over {D : PyData} {ls : List (PyData × PyData)} (h : Sch D ls) : ∀ f, f < ls.length → laysD f D = none := by
  induction h with
  | nil => exact fun f hf => absurd hf (Nat.not_lt_zero _)
  | @cons z k D ls hz h ih =>
    intro f hf
    rw [List.length_append] at hf
    have hf : f < ls.length + 1 := hf
    cases f with
    | zero => exact lays_zero (eqv_three _ _ _)
    | succ f =>
      rw [lays_step (eqv_three _ _ _), ih f (by omega)]
      rfl
theorem over_none {D : PyData} {ls : List (PyData × PyData)} {b : Blk} (h : Sch D ls) (hl : 7 < ls.length) : builtD D b = none := by
  unfold builtD
  rw [sch_over h 7 hl]
  rfl
theorem blk_tup {K : PySem.W.Frag} {H : Hp} {v : V} {b : Blk} (h : Dp K H v b.D) : ∃ p us ds, v = .ref p ∧ b.D = .tuple ds ∧ SqT K H p us ∧ DpAll K H us ds ∧ ds.length ≤ 5 ∧ 4 ≤ ds.length := by
  cases b with
  | gen n m rows =>
    generalize hD : (Blk.gen n m rows).D = D at h
    cases h with
    | tup hT hA => exact ⟨_, _, _, rfl, rfl, hT, hA, by cases hD; (show 4 ≤ 5; decide), by cases hD; (show 4 ≤ 4; decide)⟩
    | _ => cases hD
  | fn n l m tabs =>
    generalize hD : (Blk.fn n l m tabs).D = D at h
    cases h with
    | tup hT hA => exact ⟨_, _, _, rfl, rfl, hT, hA, by cases hD; (show 5 ≤ 5; decide), by cases hD; (show 4 ≤ 5; decide)⟩
    | _ => cases hD
/-- what is no block -/
def NoBlk (D : PyData) : Prop := blockOk D = false
theorem no_few {xs : List PyData} (h4 : xs.length ≠ 4) (h5 : xs.length ≠ 5) : blockOk (.tuple xs) = false := by
  show (genOk (.tuple xs) || funOk (.tuple xs)) = false
  have a1 : genOk (.tuple xs) = false := by
    unfold genOk
    split
    · rename_i e
      cases e
      exact absurd rfl h4
    · rfl
  have a2 : funOk (.tuple xs) = false := by
    unfold funOk
    split
    · rename_i e
      cases e
      exact absurd rfl h5
    · rfl
  rw [a1, a2]
  rfl
/-- what the law carries along -/
structure Car (K : PySem.W.Frag) (b d : Addr) (G : Hp) (bv : V) (B : Blk) (sv : V) (SD : PyData) (tv : V) (t : Blk) (gv : V) (g : PyData) (cv : V) (C : PyData) : Prop where
  n : Hnd G b d
  bl : BlOn K b G bv B
  sc : Dp K (off b G) sv SD
  tb : BlOn K b G tv t
  go : DX K b G gv g
  be : DX K b G cv C
theorem Car.keep {K : PySem.W.Frag} {b d : Addr} {G G' : Hp} {bv sv tv gv cv : V} {B t : Blk} {SD g C : PyData} (c : Car K b d G bv B sv SD tv t gv g cv C) (n : Hnd G' b d) (k : Keep b G G') : Car K b d G' bv B sv SD tv t gv g cv C :=
  ⟨n, c.bl.keep k, dp_same k.off _ c.sc, c.tb.keep k, c.go.keep k, c.be.keep k⟩
theorem Car.same {K : PySem.W.Frag} {b d : Addr} {G G' : Hp} {bv sv tv gv cv : V} {B t : Blk} {SD g C : PyData} (c : Car K b d G bv B sv SD tv t gv g cv C) (s : Same G G') : Car K b d G' bv B sv SD tv t gv g cv C :=
  c.keep (c.n.same s) (Keep.same s)
theorem Car.at {K : PySem.W.Frag} {b d : Addr} {G : Hp} {bv sv tv gv cv : V} {B t : Blk} {SD g C : PyData} (c : Car K b d G bv B sv SD tv t gv g cv C) : Dp K G bv B.D := dp_same (off_same b G) _ c.bl.1
/-- a goal to tell apart over a value -/
theorem new_tell {K : PySem.W.Frag} {a d p : Addr} {H : Hp} {v : V} {D : PyData} (hh : Hnd H a d) (np : H p = none) (h : DX K a H v D) : Hnd (upd H p (.tup [.str "tell", v])) a d ∧ Keep a H (upd H p (.tup [.str "tell", v])) ∧ DX K a (upd H p (.tup [.str "tell", v])) (.ref p) (.tuple [.str "tell", D]) :=
  new_dx hh np (.cons (.str _) (.cons h.1 .nil)) (by show 2 ≤ 100; decide) (gC (gS (x := "tell")) (gC h.2 gN))
theorem tell_bad {D : PyData} {b : Blk} (h : builtD D b = none) : goalOk (.tuple [.str "tell", D]) b = false := goal_bad (z := "tell") (r := [D]) (D := D) rfl h
theorem cut3 {us : List V} (h : 3 ≤ us.length) : cutV us none (some 3) = us.take 3 := by
  unfold cutV
  rw [show (some (3 : Int)) = some ((3 : Nat) : Int) from rfl, HT.sIx_nat, HT.sIx_none, Nat.min_eq_left h]
  rfl
def NB (D : PyData) : Prop := blockOk D = false ∧ Gd 10 D
theorem dps_take3 {K : PySem.W.Frag} {H : Hp} {vs : List V} {ds : List PyData} (h : DpAll K H vs ds) : DpAll K H (vs.take 3) (ds.take 3) := dps_take 3 h

section
variable {P : Program} {w : World} {K : PySem.W.Frag} {mg : Str → Option Value} {base : Heap} {cs : Cs}
theorem ok_whole31 {f : Addr} {fd : FuncData} (D : Df K mg "_law_whole" s_law_whole ["script"] f fd) (T : Txt K w mg cs) (c_law_draws : Cl P w K mg base CX0 1 "_law_draws" (spDraws K)) (c_law_take : Cl P w K mg base CX0 1 "_law_take" spTake) (c_law_block : Cl P w K mg base CX0 4 "_law_block" (spLBlock K)) (c_law_scheme : Cl P w K mg base CX0 4 "_law_scheme" (spLScheme K))
    (c_built : Cl P w K mg base (L2.CX P w) 8 "built" (spBuilt K cs.BadBlock cs.BadScheme)) (k_built : Ck P w K mg base (L2.CX P w) 8 0 "built" ["block", "scheme"] (fun _ zs => zs.reverse) (spBuilt K cs.BadBlock cs.BadScheme)) (c_check_goal : Cl P w K mg base (L2.CX P w) 9 "check_goal" (spGoal K cs.BadBlock cs.BadScheme)) (k_check_goal : Ck P w K mg base (L2.CX P w) 9 0 "check_goal" ["block", "goal"] (fun _ zs => zs.reverse) (spGoal K cs.BadBlock cs.BadScheme))
    (c_law_goal : Cl P w K mg base CX0 3 "_law_goal" (spLGoal K)) (c_law_bent : Cl P w K mg base CX0 8 "_law_bent" (spBent31 K 6)) (c_law_refused : Cl P w K mg base CX0 10 "_law_refused" (spRef31 K)) (c_law_unfit : Cl P w K mg base CX0 2 "_law_unfit" (spUnfit K)) (c_law_no_goal : Cl P w K mg base CX0 9 "_law_no_goal" (spNoGoal K)) (c_law_edges : Cl P w K mg base CX0 11 "_law_edges" (spEdges31 K)) :
    FnOk P w K mg base CX0 12 f fd ["script"] (spLaw K) := by
  refine D.fn.ok sc_law_whole (fun vs H Q E h => ?_) (fun cdv A outer s H vs Q E hr h => ?_)
  · obtain ⟨a, ns, rfl, _⟩ := h
    rfl
  · obtain ⟨a, ns, rfl, hS, hlen, q⟩ := h
    refine ⟨_, (pss_cons (ps_set (i := 1) sc_law_whole.nd rfl (.inl rfl) (pe_lst (pa_cons (pe_cl c_law_draws hr (by first | decide | omega) (by rfl) (pa_cons (pv 0) (pa_cons pe_int pa_nil))) (pa_cons pe_int pa_nil)))) (pss_cons (ps_set (i := 2) sc_law_whole.nd rfl (.inl rfl) (pe_cl c_law_block hr (by first | decide | omega) (by rfl) (pa_cons (pv 1) pa_nil))) (pss_cons (ps_asg (pe_cl c_law_scheme hr (by first | decide | omega) (by rfl) (pa_cons (pv 1) (pa_cons (pv 2) (pa_cons (pe_cl c_law_take hr (by first | decide | omega) (by rfl) (pa_cons (pv 1) (pa_cons pe_int pa_nil))) pa_nil)))) (pg_tup (by rfl) (pgs_cons (pg_name (i := 3) sc_law_whole.nd rfl (.inl rfl)) (pgs_cons (pg_name (i := 4) sc_law_whole.nd rfl (.inl rfl)) (pgs_cons (pg_name (i := 5) sc_law_whole.nd rfl (.inl rfl)) pgs_nil))))) (pss_cons (ps_if (PW.pt (pw_or (pt_cmpR (op_neF K hr.units) (pe_clX c_built hr (by first | decide | omega) (by rfl) takes0 (pa_cons (pv 3) (pa_cons (pv 2) pa_nil))) (pv 4) (nomark _)) (pw_or1 (pt_cmpR (op_neF K hr.units) (pe_ckX0 k_built hr (by first | decide | omega) (by rfl) (pk_cons (pv 2) (pk_cons (pv 3) pk_nil))) (pv 4) (nomark _))))) (pss_one (ps_ret pe_bl)) pss_nil) (pss_cons (ps_set (i := 6) sc_law_whole.nd rfl (.inl rfl) (pe_cl c_law_goal hr (by first | decide | omega) (by rfl) (pa_cons (pv 1) (pa_cons (pv 3) (pa_cons (pv 4) pa_nil))))) (pss_cons (ps_if (PW.pt (pw_or (pt_cmpR op_notN (pe_clX c_check_goal hr (by first | decide | omega) (by rfl) takes0 (pa_cons (pv 6) (pa_cons (pv 2) pa_nil))) pe_non (nomark _)) (pw_or1 (pt_cmpR op_notN (pe_ckX0 k_check_goal hr (by first | decide | omega) (by rfl) (pk_cons (pv 2) (pk_cons (pv 6) pk_nil))) pe_non (nomark _))))) (pss_one (ps_ret pe_bl)) pss_nil) (pss_cons (ps_set (i := 7) sc_law_whole.nd rfl (.inl rfl) (pe_cl c_law_bent hr (by first | decide | omega) (by rfl) (pa_cons (pv 1) (pa_cons (pv 3) pa_nil)))) (pss_cons (ps_if (PW.pt (pw_or (pt_cmpR op_ne (pe_cl c_law_refused hr (by first | decide | omega) (by rfl) (pa_cons (pv 7) (pa_cons (pv 2) (pa_cons pe_bl pa_nil)))) pe_int (nomark _)) (pw_or1 (pt_cmpR op_ne (pe_cl c_law_refused hr (by first | decide | omega) (by rfl) (pa_cons (pe_tup (pa_cons pe_str (pa_cons (pv 7) pa_nil))) (pa_cons (pv 2) (pa_cons pe_bl pa_nil)))) pe_int (nomark _))))) (pss_one (ps_ret pe_bl)) pss_nil) (pss_cons (ps_for PassesOwn.never rfl (pi_range1 (by rfl) T.n_range (pa_cons pe_int pa_nil)) (pg_name (i := 8) sc_law_whole.nd rfl (.inl rfl)) (pss_cons (ps_set (i := 9) sc_law_whole.nd rfl (.inl rfl) (pe_cl c_law_unfit hr (by first | decide | omega) (by rfl) (pa_cons (pv 1) (pa_cons (pv 3) (pa_cons (pv 4) pa_nil))))) (pss_cons (ps_if (PW.pt (pw_or (pt_cmpR op_ne (pe_cl c_law_refused hr (by first | decide | omega) (by rfl) (pa_cons (pv 9) (pa_cons (pv 2) (pa_cons pe_bl pa_nil)))) pe_int (nomark _)) (pw_or1 (pt_cmpR op_ne (pe_cl c_law_refused hr (by first | decide | omega) (by rfl) (pa_cons (pe_tup (pa_cons pe_str (pa_cons (pv 9) pa_nil))) (pa_cons (pv 2) (pa_cons pe_bl pa_nil)))) pe_int (nomark _))))) (pss_one (ps_ret pe_bl)) pss_nil) (pss_one (ps_if (pt_cmpR op_ne (pe_cl c_law_refused hr (by first | decide | omega) (by rfl) (pa_cons (pe_cl c_law_no_goal hr (by first | decide | omega) (by rfl) (pa_cons (pv 1) (pa_cons (pv 3) (pa_cons (pv 4) pa_nil)))) (pa_cons (pv 2) (pa_cons pe_bl pa_nil)))) pe_int (nomark _)) (pss_one (ps_ret pe_bl)) pss_nil))))) (pss_cons (ps_set (i := 10) sc_law_whole.nd rfl (.inl rfl) (pe_tup (pa_cons pe_str pa_nil))) (C8.pss_cut (ps_if (pt_cmpR op_eq (pe_ix (ixT K) (pv 2) pe_int (fun _ _ => rfl)) pe_str (nomark _)) (pss_cons (ps_for PassesOwn.never rfl (pi_range1 (by rfl) T.n_range (pa_cons pe_int pa_nil)) (pg_name (i := 8) sc_law_whole.nd rfl (.inl rfl)) (pss_one (ps_set (i := 10) sc_law_whole.nd rfl (.inl rfl) (pe_tup (pa_cons pe_str (pa_cons (pe_ix (ixT K) (pv 2) pe_int (fun _ _ => rfl)) (pa_cons (pv 10) pa_nil))))))) (pss_cons (ps_set (i := 11) sc_law_whole.nd rfl (.inl rfl) (pe_tup (pa_cons pe_str (pa_cons (pe_ix (ixT K) (pv 2) pe_int (fun _ _ => rfl)) (pa_cons (pv 10) pa_nil))))) (pss_cons (ps_if (PW.pt (pw_or (pt_cmpR (op_neF K hr.units) (pe_clX c_built hr (by first | decide | omega) (by rfl) takes0 (pa_cons (pv 10) (pa_cons (pv 2) pa_nil))) (pv 2) (nomark _)) (pw_or1 (pt_cmpR op_ne (pe_cl c_law_refused hr (by first | decide | omega) (by rfl) (pa_cons (pv 11) (pa_cons (pv 2) (pa_cons pe_bl pa_nil)))) pe_int (nomark _))))) (pss_one (ps_ret pe_bl)) pss_nil) (pss_one (ps_if (PW.pt (pw_or (pt_cmpR op_notN (pe_clX c_check_goal hr (by first | decide | omega) (by rfl) takes0 (pa_cons (pe_tup (pa_cons pe_str (pa_cons (pv 10) pa_nil))) (pa_cons (pv 2) pa_nil))) pe_non (nomark _)) (pw_or1 (pt_cmpR op_ne (pe_cl c_law_refused hr (by first | decide | omega) (by rfl) (pa_cons (pe_tup (pa_cons pe_str (pa_cons (pv 11) pa_nil))) (pa_cons (pv 2) (pa_cons pe_bl pa_nil)))) pe_int (nomark _))))) (pss_one (ps_ret pe_bl)) pss_nil))))) pss_nil) (pss_cons (ps_if (pt_not (pt_val (pe_cl c_law_edges hr (by first | decide | omega) (by rfl) (pa_cons (pv 1) pa_nil)))) (pss_one (ps_ret pe_bl)) pss_nil) (pss_cons (ps_set (i := 12) sc_law_whole.nd rfl (.inl rfl) (pe_ix (ixL K) (pe_lst (pa_cons pe_non (pa_cons (pe_callTy (listOf K) (by rfl) T.n_list (by decide +kernel) (pa_cons (pv 2) pa_nil)) (pa_cons (pe_slice (slTA K) (pv 2) po_none (po_some pe_int)) (pa_cons (pe_tup (pa_cons (pv 2) pa_nil)) (pa_cons (pe_tup (pa_cons pe_str (pa_cons pe_int (pa_cons pe_int (pa_cons (pe_tup (pa_cons pe_str pa_nil)) pa_nil))))) (pa_cons pe_int pa_nil))))))) (pe_cl c_law_take hr (by first | decide | omega) (by rfl) (pa_cons (pv 1) (pa_cons pe_int pa_nil))) (fun _ _ => rfl))) (pss_cons (ps_if (PW.pt (pw_or (pt_cmpR op_ne (pe_cl c_law_refused hr (by first | decide | omega) (by rfl) (pa_cons (pv 3) (pa_cons (pv 12) (pa_cons pe_bl pa_nil)))) pe_int (nomark _)) (pw_or1 (pt_cmpR op_ne (pe_cl c_law_refused hr (by first | decide | omega) (by rfl) (pa_cons (pv 7) (pa_cons (pv 12) (pa_cons pe_bl pa_nil)))) pe_int (nomark _))))) (pss_one (ps_ret pe_bl)) pss_nil) (pss_one (ps_ret (pe_and (pe_cmpR op_eq (pe_cl c_law_refused hr (by first | decide | omega) (by rfl) (pa_cons (pv 6) (pa_cons (pv 12) (pa_cons pe_bl pa_nil)))) pe_int (nomark _)) (pe_one (pe_cmpR op_eq (pe_cl c_law_refused hr (by first | decide | omega) (by rfl) (pa_cons pe_non (pa_cons (pv 12) (pa_cons pe_bl pa_nil)))) pe_int (nomark _)))))))))))))))))))), ?_⟩
    refine ⟨_, rfl, a, ns, 400, rfl, hS, hlen, by omega, fun d ds H1 nd s1 ed hd0 => ⟨(by show 2 ≤ sizeLine; decide), fun b nb => ?_⟩⟩
    have hn1 : Hnd (upd H1 b (.lst [.ref d, .int 0])) b d := ⟨ds, 0, upd_same, by rw [upd_ne (ne_of_none ed nb)]; exact ed, hd0, ne_of_none ed nb⟩
    generalize upd H1 b (.lst [.ref d, .int 0]) = H2 at hn1
    clear nb ed nd s1 hd0
    have qT : ∀ H', Q (.bl true) H' := q
    clear q
    refine ⟨_, rfl, b, d, rfl, hn1, fun bv B H3 bo nb2 n3 k3 => ?_⟩
    clear k3 hn1
    refine ⟨_, rfl, _, rfl, _, rfl, b, d, 5, rfl, by decide, n3, fun r H4 l4 u4 n4 k4 => ?_⟩
    obtain ⟨many, rfl, hm⟩ : ∃ n : Nat, r = (n : Int) ∧ n ≤ 4 := ⟨r.toNat, by omega, by omega⟩
    have bo := bo.keep k4
    clear l4 u4 k4 n3
    refine ⟨b, d, bv, B, many, rfl, hm, n4, bo, nb2, fun p sv tv lv SD ls t H5 sch hl eb dv bt T5 n5 k5 => ?_⟩
    have bo := bo.keep k5
    have eD := sch_built sch (by omega) eb
    have gD : ∃ n, Gd n SD := ⟨_, sch_gd sch⟩
    clear k5 n4 hm
    have onB : ∀ {G : Hp}, BlOn K b G bv B → Dp K G bv B.D := fun h => dp_same (off_same b _) _ h.1
    obtain ⟨gn, gD'⟩ := gD
    have gb3 := blk_gd bo.2
    have okt := bt.2
    refine ⟨p, _, rfl, T5, rfl, _, _, rfl, _, _, rfl, _, _, rfl, rfl, ?_⟩
    refine ⟨_, rfl, _, rfl, sv, bv, SD, B.D, gn, 3, rfl, dp_same (off_same b H5) _ dv, gD', onB bo, gb3, by decide, .inr ⟨B, rfl, bo.2, fun b' v6 H6 e6 s6 d6 => ?_, fun H6 e6 _ => absurd (eD.symm.trans e6) (by simp)⟩⟩
    obtain rfl : t = b' := Option.some.inj (eD.symm.trans e6)
    have k6 := Keep.same (a := b) s6
    have bt6 := bt.keep k6
    refine ⟨_, rfl, t.D, t.D, d6, dp_same (off_same b H6) _ bt6.1, gd_lay (blk_gd okt), gd_lay (blk_gd okt), blk_dep okt, _, rfl, ?_⟩
    rw [blk_eqv okt]
    have bo6 := bo.keep k6
    have dv6 := dp_same k6.off _ dv
    have n6 := n5.same s6
    clear bt bo dv n5 k6 s6 d6 e6 T5
    refine ⟨_, rfl, _, rfl, rfl, rfl, sv, bv, SD, B.D, gn, 3, rfl, dp_same (off_same b H6) _ dv6, gD', onB bo6, gb3, by decide, .inr ⟨B, rfl, bo6.2, fun b' v7 H7 e7 s7 d7 => ?_, fun H7 e7 _ => absurd (eD.symm.trans e7) (by simp)⟩⟩
    obtain rfl : t = b' := Option.some.inj (eD.symm.trans e7)
    have k7 := Keep.same (a := b) s7
    have bt7 := bt6.keep k7
    refine ⟨_, rfl, t.D, t.D, d7, dp_same (off_same b H7) _ bt7.1, gd_lay (blk_gd okt), gd_lay (blk_gd okt), blk_dep okt, _, rfl, ?_⟩
    rw [blk_eqv okt]
    have bo7 := bo6.keep k7
    have dv7 := dp_same k7.off _ dv6
    have n7 := n6.same s7
    clear bt6 bo6 dv6 n6 k7 s7 d7 e7
    -- the goal
    refine ⟨_, rfl, _, rfl, _, rfl, b, d, sv, tv, SD, ls, B, t, rfl, n7, sch, by omega, eb, dv7, bt7, fun gv g H8 go xg n8 k8 => ?_⟩
    have bo8 := bo7.keep k8
    have dv8 := dp_same k8.off _ dv7
    have bt8 := bt7.keep k8
    clear bo7 dv7 bt7 n7 k8
    obtain ⟨g8, dg8, gg8⟩ := xg.at
    refine ⟨_, rfl, _, rfl, gv, bv, g, B.D, g8, 3, rfl, dg8, gg8, onB bo8, gb3, by decide, .inr ⟨B, rfl, bo8.2, fun H9 _ s9 => ?_, fun H9 e9 _ => absurd (go.symm.trans e9) (by decide)⟩⟩
    refine ⟨rfl, _, rfl, ?_⟩
    rw [decide_eq_true rfl]
    have dg9 := dp_same s9 _ dg8
    have k9 := Keep.same (a := b) s9
    have bo9 := bo8.keep k9
    refine ⟨_, rfl, _, rfl, rfl, rfl, gv, bv, g, B.D, g8, 3, rfl, dg9, gg8, onB bo9, gb3, by decide, .inr ⟨B, rfl, bo9.2, fun HA _ sA => ?_, fun H9 e9 _ => absurd (go.symm.trans e9) (by decide)⟩⟩
    refine ⟨rfl, _, rfl, ?_⟩
    rw [decide_eq_true rfl]
    have kA := k9.trans (Keep.same (a := b) sA)
    have boA := bo8.keep kA
    have dvA := dp_same kA.off _ dv8
    have btA := bt8.keep kA
    have xgA := xg.keep kA
    have nA := (n8.same s9).same sA
    clear bo8 dv8 bt8 xg n8 bo9 dg8 dg9 kA k9 s9 sA
    -- a bent scheme
    refine ⟨_, rfl, _, rfl, b, d, sv, SD, ls, rfl, nA, sch, by omega, dvA, fun cv C HB bad xb nB kB => ?_⟩
    have car : Car K b d HB bv B sv SD tv t gv g cv C := ⟨nB, boA.keep kB, dp_same kB.off _ dvA, btA.keep kB, xgA.keep kB, xb⟩
    have bOk := car.bl.2
    clear boA dvA btA xgA xb nB kB nA
    obtain ⟨cn, dc, gc⟩ := car.be.at
    refine ⟨_, rfl, _, rfl, cv, bv, C, B.D, cn, 3, false, rfl, dc, gc, car.at, gb3, by decide, .inr ⟨B, rfl, bOk, bad_built bad bOk, fun HC sC => ?_⟩⟩
    refine ⟨rfl, _, rfl, ?_⟩
    rw [decide_eq_true rfl]
    have car := car.same sC
    clear dc gc sC
    refine ⟨_, rfl, (by show 2 ≤ sizeLine; decide), fun p1 np1 => ?_⟩
    obtain ⟨nD, kD, x1⟩ := new_tell car.n np1 car.be
    have car := car.keep nD kD
    generalize upd HC p1 (.tup [.str "tell", cv]) = HD at nD kD x1 car ⊢
    obtain ⟨cn, dc, gc⟩ := x1.at
    refine ⟨_, rfl, .ref p1, bv, _, B.D, cn, 3, true, rfl, dc, gc, car.at, gb3, by decide, .inr ⟨B, rfl, bOk, tell_bad (bad_built bad bOk), fun HE sE => ?_⟩⟩
    refine ⟨rfl, _, rfl, ?_⟩
    rw [decide_eq_true rfl]
    have car := car.same sE
    clear dc gc sE x1 nD kD
    -- what does not fit
    refine ⟨_, rfl, by decide, by decide, for_range (lo := 0) (n := 3) (fun i σ G => ∃ y8 y9 : Option V, σ = [some (.ref a), some (.ref b), some bv, some sv, some tv, some lv, some gv, some cv, y8, y9, none, none, none] ∧ Car K b d G bv B sv SD tv t gv g cv C) ?_ ?_ ?_⟩
    · exact ⟨none, none, rfl, car⟩
    · rintro i σ G hi ⟨y8, y9, rfl, car⟩
      refine ⟨_, rfl, _, rfl, _, rfl, b, d, sv, tv, SD, ls, B, t, rfl, car.n, sch, by omega, eb, car.sc, car.tb, fun uv U G1 bu xu n1 k1 => ?_⟩
      have car := car.keep n1 k1
      clear n1 k1
      obtain ⟨un, du, gu⟩ := xu.at
      refine ⟨_, rfl, _, rfl, uv, bv, U, B.D, un, 3, false, rfl, du, gu, car.at, gb3, by decide, .inr ⟨B, rfl, bOk, bu, fun G2 s2 => ?_⟩⟩
      refine ⟨rfl, _, rfl, ?_⟩
      rw [decide_eq_true rfl]
      have car := car.same s2
      have xu := xu.keep (Keep.same (a := b) s2)
      clear du gu s2
      refine ⟨_, rfl, (by show 2 ≤ sizeLine; decide), fun p1 np1 => ?_⟩
      obtain ⟨nD, kD, x1⟩ := new_tell car.n np1 xu
      have car := car.keep nD kD
      generalize upd G2 p1 (.tup [.str "tell", uv]) = G3 at nD kD x1 car ⊢
      obtain ⟨un, du, gu⟩ := x1.at
      refine ⟨_, rfl, .ref p1, bv, _, B.D, un, 3, true, rfl, du, gu, car.at, gb3, by decide, .inr ⟨B, rfl, bOk, tell_bad bu, fun G4 s4 => ?_⟩⟩
      refine ⟨rfl, _, rfl, ?_⟩
      rw [decide_eq_true rfl]
      have car := car.same s4
      clear du gu s4 x1 nD kD xu
      refine ⟨_, rfl, _, rfl, _, rfl, b, d, sv, tv, SD, ls, B, t, rfl, car.n, sch, by omega, bOk, eb, car.sc, car.tb, fun ov O G5 bo xo n5 k5 => ?_⟩
      have car := car.keep n5 k5
      clear n5 k5
      obtain ⟨on, do', go'⟩ := xo.at
      refine ⟨_, rfl, ov, bv, O, B.D, on, 3, true, rfl, do', go', car.at, gb3, by decide, .inr ⟨B, rfl, bOk, bo, fun G6 s6 => ?_⟩⟩
      refine ⟨rfl, _, rfl, ?_⟩
      rw [decide_eq_true rfl]
      exact ⟨_, _, rfl, car.same s6⟩
    rintro σ G ⟨y8, y9, rfl, car⟩
    refine ⟨(by show 1 ≤ sizeLine; decide), fun p2 np2 => ?_⟩
    obtain ⟨n2, k2, x2⟩ := new_dx (K := K) car.n np2 (.cons (.str "block") .nil) (by show 1 ≤ 100; decide) (gC (gS (x := "block")) gN)
    have car := car.keep n2 k2
    show gName 10 (V.ref p2) _ (upd G p2 (.tup [.str "block"])) _
    generalize upd G p2 (.tup [.str "block"]) = G1 at n2 k2 x2 car ⊢
    refine ⟨fun σ G => ∃ y8 y10 y11 : Option V, σ = [some (.ref a), some (.ref b), some bv, some sv, some tv, some lv, some gv, some cv, y8, y9, y10, y11, none] ∧ Car K b d G bv B sv SD tv t gv g cv C, ?_, ?_⟩
    · cases B with
      | fn n l m tabs =>
        obtain ⟨c, r, rfl, hT, _⟩ := dp_fun car.at
        refine ⟨_, rfl, c, _, 0, _, rfl, rfl, hT, at0, rfl, _, rfl, ?_⟩
        exact ⟨_, _, _, rfl, car⟩
      | gen n m rows =>
        have wf : Wf n m rows := bOk
        obtain ⟨c, r, rfl, hT, _⟩ := dp_tab car.at
        have cT : ∀ {G : Hp}, Car K b d G (.ref c) (Blk.gen n m rows) sv SD tv t gv g cv C → ∃ r, SqT K G c [.str "generator", .int (n : Int), .int (m : Int), .ref r] := fun q => by
          obtain ⟨c', r', e, h, _⟩ := dp_tab q.at
          cases e
          exact ⟨r', h⟩
        refine ⟨_, rfl, c, _, 0, _, rfl, rfl, hT, at0, rfl, _, rfl, ?_⟩
        rw [decide_eq_true rfl]
        refine ⟨_, rfl, by decide, by decide, for_range (lo := 0) (n := 7) (fun i σ G => ∃ (v : V) (D : PyData) (ls : List (PyData × PyData)) (y8 : Option V), σ = [some (.ref a), some (.ref b), some (.ref c), some sv, some tv, some lv, some gv, some cv, y8, y9, some v, none, none] ∧ Sch D ls ∧ ls.length = i ∧ builtL ls (.gen n m rows) = some (.gen n m rows) ∧ DX K b G v D ∧ Car K b d G (.ref c) (.gen n m rows) sv SD tv t gv g cv C) ?_ ?_ ?_⟩
        · exact ⟨_, _, [], _, rfl, .nil, rfl, rfl, x2, car⟩
        · rintro i σ G hi ⟨v, D, ls, y8, rfl, sch2, hl2, eb2, xv, car⟩
          obtain ⟨r2, hT2⟩ := cT car
          refine ⟨_, rfl, c, _, 2, _, rfl, rfl, hT2, rfl, _, rfl, (by show 3 ≤ sizeLine; decide), fun p3 np3 => ?_⟩
          obtain ⟨n3, k3, x3⟩ := new_dx (K := K) car.n np3 (.cons (.str "cut") (.cons (.int (m : Int)) (.cons xv.1 .nil))) (by show 3 ≤ 100; decide) (gC (gS (x := "cut")) (gC gI (gC xv.2 gN)))
          exact ⟨_, _, _, _, rfl, .cons (.inr (.inr (.inr rfl))) sch2, by rw [List.length_append, hl2]; rfl, by rw [built_snoc, eb2]; exact cut_self wf, x3, car.keep n3 k3⟩
        rintro σ G ⟨v, D, ls2, y8, rfl, sch2, hl2, eb2, xv, car⟩
        obtain ⟨r2, hT2⟩ := cT car
        refine ⟨_, rfl, c, _, 2, _, rfl, rfl, hT2, rfl, _, rfl, (by show 3 ≤ sizeLine; decide), fun p3 np3 => ?_⟩
        obtain ⟨n3, k3, x3⟩ := new_dx (K := K) car.n np3 (.cons (.str "cut") (.cons (.int (m : Int)) (.cons xv.1 .nil))) (by show 3 ≤ 100; decide) (gC (gS (x := "cut")) (gC gI (gC xv.2 gN)))
        have sch3 : Sch (.tuple [.str "cut", .int (m : Int), D]) (ls2 ++ [(.str "cut", .int (m : Int))]) := .cons (.inr (.inr (.inr rfl))) sch2
        have over : builtD (.tuple [.str "cut", .int (m : Int), D]) (.gen n m rows) = none := over_none sch3 (by rw [List.length_append, hl2]; show 7 < 7 + 1; decide)
        have car := car.keep n3 k3
        have xv := xv.keep k3
        show gName 11 (V.ref p3) _ (upd G p3 (.tup [.str "cut", .int (m : Int), v])) _
        generalize upd G p3 (.tup [.str "cut", .int (m : Int), v]) = G3 at n3 k3 x3 car xv ⊢
        have e7 := sch_built sch2 (by omega) eb2
        obtain ⟨vn, dv3, gv3⟩ := xv.at
        refine ⟨_, rfl, _, rfl, v, .ref c, D, _, vn, 3, rfl, dv3, gv3, car.at, gb3, by decide, .inr ⟨.gen n m rows, rfl, bOk, fun b' v6 G4 e6 s4 d6 => ?_, fun _ e6 _ => absurd (e7.symm.trans e6) (by simp)⟩⟩
        obtain rfl : Blk.gen n m rows = b' := Option.some.inj (e7.symm.trans e6)
        have car := car.same s4
        have xv := xv.keep (Keep.same (a := b) s4)
        have x3 := x3.keep (Keep.same (a := b) s4)
        refine ⟨_, rfl, _, _, d6, car.at, gd_lay gb3, gd_lay gb3, blk_dep bOk, _, rfl, ?_⟩
        rw [blk_eqv bOk]
        clear dv3 gv3 s4 d6 e6 n3 k3
        obtain ⟨un, du, gu⟩ := x3.at
        refine ⟨_, rfl, _, rfl, .ref p3, .ref c, _, _, un, 3, false, rfl, du, gu, car.at, gb3, by decide, .inr ⟨.gen n m rows, rfl, bOk, over, fun G5 s5 => ?_⟩⟩
        refine ⟨rfl, _, rfl, ?_⟩
        rw [decide_eq_true rfl]
        have car := car.same s5
        have xv := xv.keep (Keep.same (a := b) s5)
        have x3 := x3.keep (Keep.same (a := b) s5)
        clear du gu s5
        refine ⟨_, rfl, (by show 2 ≤ sizeLine; decide), fun p4 np4 => ?_⟩
        obtain ⟨n4, k4, x4⟩ := new_dx (K := K) car.n np4 (.cons (.str "next") (.cons xv.1 .nil)) (by show 2 ≤ 100; decide) (gC (gS (x := "next")) (gC xv.2 gN))
        have car := car.keep n4 k4
        have x3 := x3.keep k4
        generalize upd G5 p4 (.tup [.str "next", v]) = G6 at n4 k4 x4 car x3 ⊢
        obtain ⟨un, du, gu⟩ := x4.at
        have gk : goalOk (.tuple [.str "next", D]) (.gen n m rows) = true := goal_two (by decide +kernel) (by decide +kernel) e7 (.inr (show aboF "next" = "generator" by decide +kernel))
        refine ⟨_, rfl, .ref p4, .ref c, _, _, un, 3, rfl, du, gu, car.at, gb3, by decide, .inr ⟨.gen n m rows, rfl, bOk, fun G7 _ s7 => ?_, fun _ e9 _ => absurd (gk.symm.trans e9) (by decide)⟩⟩
        refine ⟨rfl, _, rfl, ?_⟩
        rw [decide_eq_true rfl]
        have car := car.same s7
        have x3 := x3.keep (Keep.same (a := b) s7)
        clear du gu s7 x4 n4 k4
        refine ⟨_, rfl, (by show 2 ≤ sizeLine; decide), fun p5 np5 => ?_⟩
        obtain ⟨n5, k5, x5⟩ := new_dx (K := K) car.n np5 (.cons (.str "next") (.cons x3.1 .nil)) (by show 2 ≤ 100; decide) (gC (gS (x := "next")) (gC x3.2 gN))
        have car := car.keep n5 k5
        generalize upd G7 p5 (.tup [.str "next", .ref p3]) = G8 at n5 k5 x5 car ⊢
        obtain ⟨un, du, gu⟩ := x5.at
        refine ⟨_, rfl, .ref p5, .ref c, _, _, un, 3, true, rfl, du, gu, car.at, gb3, by decide, .inr ⟨.gen n m rows, rfl, bOk, goal_bad (z := "next") (r := [_]) rfl over, fun G9 s9 => ?_⟩⟩
        refine ⟨rfl, _, rfl, ?_⟩
        rw [decide_eq_true rfl]
        exact ⟨_, _, _, rfl, car.same s9⟩
    rintro σ G ⟨y8, y10, y11, rfl, car⟩
    clear n2 k2 x2 np2
    refine ⟨_, rfl, b, d, rfl, car.n, fun G1 n1 k1 => ⟨_, rfl, ?_⟩⟩
    have car := car.keep n1 k1
    clear n1 k1
    obtain ⟨p, us, bd, rfl, eB, hT, hA, l5, l4⟩ := blk_tup car.bl.1
    have gbd : ∀ x ∈ bd, Gd 2 x := by
      have := gb3
      rw [eB] at this
      exact this.2
    have lus := dp_all_len hA
    have hT1 := sqt_on hT
    refine ⟨_, rfl, p, us, rfl, .inr hT1, fun p1 np1 => ?_⟩
    obtain ⟨n1, k1, x1⟩ := new_dxl (K := K) car.n np1 hA (by omega) ⟨2, gbd⟩
    have car := car.keep n1 k1
    have w1 : WX NB K b (upd G1 p1 (.lst us)) (.ref p1) := ⟨_, x1, rfl, ⟨by omega, fun x hx => gd_le (gbd x hx) (by decide)⟩⟩
    have hT2 := same_sqt k1.off hT
    have hA2 := dps_same k1.off _ hA
    generalize upd G1 p1 (.lst us) = G2 at n1 k1 x1 car w1 hT2 hA2 ⊢
    clear x1 hT1 hT hA n1 k1
    refine ⟨_, rfl, _, rfl, sl_any (sqt_on hT2) fun p2 G3 s3 t3 => ?_⟩
    rw [cut3 (by omega)] at t3
    have car := car.same s3
    have k3 := Keep.same (a := b) s3
    have w1 := w1.keep k3
    have w2 : WX NB K b G3 (.ref p2) := ⟨_, ⟨.tup (sqt_off car.n t3) (dps_take3 (dps_same k3.off _ hA2)), ⟨3, by rw [List.length_take]; omega, fun x hx => gbd x (List.mem_of_mem_take hx)⟩⟩, no_few (by rw [List.length_take]; omega) (by rw [List.length_take]; omega), ⟨by rw [List.length_take]; omega, fun x hx => gd_le (gbd x (List.mem_of_mem_take hx)) (by decide)⟩⟩
    clear s3 t3 k3 hT2 hA2 lus
    refine ⟨_, rfl, (by show 1 ≤ sizeLine; decide), fun p3 np3 => ?_⟩
    obtain ⟨n3, k3, x3⟩ := new_dx (K := K) car.n np3 (.cons car.bl.1 .nil) (by show 1 ≤ 100; decide) (gC ⟨3, gb3⟩ gN)
    have car := car.keep n3 k3
    have w1 := w1.keep k3
    have w2 := w2.keep k3
    have w3 : WX NB K b (upd G3 p3 (.tup [.ref p])) (.ref p3) := ⟨_, x3, no_few (by show 1 ≠ 4; decide) (by show 1 ≠ 5; decide), ⟨(by show 1 ≤ 5000; decide), fun x hx => by
      rw [List.mem_singleton.mp hx]
      exact gd_le gb3 (by decide)⟩⟩
    generalize upd G3 p3 (.tup [.ref p]) = G4 at n3 k3 x3 car w1 w2 w3 ⊢
    clear x3 n3 k3
    refine ⟨(by show 1 ≤ sizeLine; decide), fun p4 np4 => ?_⟩
    obtain ⟨n4, k4, x4⟩ := new_dx (K := K) car.n np4 (.cons (.str "0") .nil) (by show 1 ≤ 100; decide) (gC (gS (x := "0")) gN)
    have car := car.keep n4 k4
    have w1 := w1.keep k4
    have w2 := w2.keep k4
    have w3 := w3.keep k4
    generalize upd G4 p4 (.tup [.str "0"]) = G5 at n4 k4 x4 car w1 w2 w3 ⊢
    refine ⟨(by show 4 ≤ sizeLine; decide), fun p5 np5 => ?_⟩
    obtain ⟨n5, k5, x5⟩ := new_dx (K := K) car.n np5 (.cons (.str "generator") (.cons (.int 0) (.cons (.int 1) (.cons x4.1 .nil)))) (by show 4 ≤ 100; decide) (gC (gS (x := "generator")) (gC gI (gC gI (gC x4.2 gN))))
    have car := car.keep n5 k5
    have w1 := w1.keep k5
    have w2 := w2.keep k5
    have w3 := w3.keep k5
    have gw : ∀ (n : Nat) (z : Str), okT z → Gd n (.str z) := fun n z h => gd_le (n := 0) (pl_gd (pl_str.mpr h)) (Nat.zero_le n)
    have w4 : WX NB K b (upd G5 p5 (.tup [.str "generator", .int 0, .int 1, .ref p4])) (.ref p5) := ⟨_, x5, (by decide +kernel), ⟨(by show 4 ≤ 5000; decide), fun x hx => by
      rcases List.mem_cons.mp hx with e | hx
      · rw [e]
        exact gw 9 _ ⟨by decide +kernel, by decide +kernel⟩
      rcases List.mem_cons.mp hx with e | hx
      · rw [e]
        trivial
      rcases List.mem_cons.mp hx with e | hx
      · rw [e]
        trivial
      · rw [List.mem_singleton.mp hx]
        exact ⟨(by show 1 ≤ 5000; decide), fun y hy => by
          rw [List.mem_singleton.mp hy]
          exact gw 8 _ ⟨by decide +kernel, by decide +kernel⟩⟩⟩⟩
    generalize upd G5 p5 (.tup [.str "generator", .int 0, .int 1, .ref p4]) = G6 at n5 k5 x5 car w1 w2 w3 w4 ⊢
    clear x5 x4 n5 k5 n4 k4
    have w0 : WX NB K b G6 .non := ⟨_, ⟨.non, gO⟩, rfl, trivial⟩
    have w5 : WX NB K b G6 (.int 5) := ⟨_, ⟨.int _, gI⟩, rfl, trivial⟩
    have ws : ∀ x ∈ ([.non, .ref p1, .ref p2, .ref p3, .ref p5, .int 5] : List V), WX NB K b G6 x := av w0 (av w1 (av w2 (av w3 (av w4 (av w5 av0)))))
    clear w0 w1 w2 w3 w4 w5
    refine ⟨(by show 6 ≤ sizeLine; decide), fun L nL => ?_⟩
    have kL := Keep.new (a := b) (o := .lst [.non, .ref p1, .ref p2, .ref p3, .ref p5, .int 5]) nL
    have nL' := car.n.new (o := .lst [.non, .ref p1, .ref p2, .ref p3, .ref p5, .int 5]) nL
    have Lb := (car.n.ne nL).1
    refine ⟨_, rfl, b, d, 6, rfl, by decide, nL', fun r9 G8 l9 u9 n9 k9 => ?_⟩
    have eL := k9 _ _ upd_same Lb
    have car := (car.keep nL' kL).keep n9 k9
    have ws := wx_keep (wx_keep ws kL) k9
    obtain ⟨x, hat, hmem⟩ := atI_mem (xs := [V.non, .ref p1, .ref p2, .ref p3, .ref p5, .int 5]) l9 (show r9 < 6 from u9)
    obtain ⟨X, xx, nb, gX⟩ := ws x hmem
    refine ⟨L, _, r9, x, rfl, rfl, .inl (.inl eL), hat, ?_⟩
    clear kL nL' eL ws hat hmem k9 n9 np1 np3 np4 np5 nL
    -- no block: refused
    refine ⟨_, rfl, _, rfl, sv, x, SD, X, gn, 10, false, rfl, dp_same (off_same b _) _ car.sc, gD', xx.on, gX, by decide, .inl ⟨nb, fun J1 j1 => ?_⟩⟩
    refine ⟨rfl, _, rfl, ?_⟩
    rw [decide_eq_true rfl]
    have car := car.same j1
    have xx := xx.keep (Keep.same (a := b) j1)
    obtain ⟨cn, dc, gc⟩ := car.be.at
    refine ⟨_, rfl, _, rfl, cv, x, C, X, cn, 10, false, rfl, dc, gc, xx.on, gX, by decide, .inl ⟨nb, fun J2 j2 => ?_⟩⟩
    refine ⟨rfl, _, rfl, ?_⟩
    rw [decide_eq_true rfl]
    have car := car.same j2
    have xx := xx.keep (Keep.same (a := b) j2)
    obtain ⟨vn, dv, gv'⟩ := car.go.at
    refine ⟨_, rfl, _, rfl, gv, x, g, X, vn, 10, true, rfl, dv, gv', xx.on, gX, by decide, .inl ⟨nb, fun J3 j3 => ?_⟩⟩
    refine ⟨rfl, _, rfl, ?_⟩
    rw [decide_eq_true rfl]
    have xx := xx.keep (Keep.same (a := b) j3)
    refine ⟨_, rfl, .non, x, .none, X, 0, 10, true, rfl, .non, trivial, xx.on, gX, by decide, .inl ⟨nb, fun J4 j4 => ⟨rfl, ?_⟩⟩⟩
    rw [decide_eq_true rfl]
    exact qT J4
theorem ok_law31 {f : Addr} {fd : FuncData} (F : Fun K "law" "law" s_law f fd) (T : Txt K w mg cs) (c_law_whole : Cl P w K mg base CX0 12 "_law_whole" (spLaw K)) : FnOk P w K mg base CX0 13 f fd ["script"] (spLaw K) := by
  refine F.ok sc_law (fun vs H Q E h => ?_) (fun cdv A outer s H vs Q E hr h => ?_)
  · obtain ⟨a, ns, rfl, _⟩ := h
    rfl
  · obtain ⟨a, ns, rfl, hS, hlen, q⟩ := h
    refine ⟨_, (pss_one (ps_try_many (Wout := fun _ _ _ _ => False) rfl rfl takes0 (fun W pn xe tk _ => (pss_one (ps_ret (pe_cl c_law_whole hr (by first | decide | omega) (by rfl) (pa_cons (pv 0) pa_nil))))) (HdsOk.cons ⟨rfl, by decide, .inl T.gl_BreakError⟩ (fun a oe cls d pn hz hf => (pss_one (ps_ret pe_bl))) HdsOk.nil))), ?_⟩
    exact ⟨_, rfl, a, ns, rfl, hS, hlen, q⟩

theorem kb2 {x qual : Str} {st : Stmt} {f : Addr} {fd : FuncData} {ps ks : List Str} (F : Fun K x qual st f fd)
    (h : ∀ (kV doc pm : Value) (an : Option Addr) (cdv ct : Value) (us ws : List Value), us.length = 0 → ws.length = ks.length → bindArgs (PySem.W.fnOf x qual (defArgs st) (defBody st) (defScope st) .none kV doc pm an cdv ct) ⟨us, ks.zip ws⟩ = pure (ps.zip ws.reverse)) :
    KBn K fd ps 0 ks (fun _ ws => ws.reverse) (fun _ zs => zs.reverse) := Fun.kb F 0 h (fun _ r => Vals.rev r)
theorem mk_law {f1 f2 f3 f4 f5 f6 f7 f8 f9 f10 f11 f12 f13 f14 f15 f16 f17 f18 f19 f20 f21 f22 f23 f24 f25 f26 f27 f28 f29 f30 f31 f32 f33 f34 f35 f36 f37 f38 f39 f40 f41 f : Addr} {d1 d2 d3 d4 d5 d6 d7 d8 d9 d10 d11 d12 d13 d14 d15 d16 d17 d18 d19 d20 d21 d22 d23 d24 d25 d26 d27 d28 d29 d30 d31 d32 d33 d34 d35 d36 d37 d38 d39 d40 d41 fd : FuncData} (T : Txt K w mg cs)
    (D_bits : Df K mg "bits" s_bits ["length", "number"] f1 d1)
    (D_all_bits : Df K mg "all_bits" s_all_bits ["length"] f2 d2)
    (D_number_of : Df K mg "number_of" s_number_of ["string"] f3 d3)
    (D_is_whole : Df K mg "is_whole" s_is_whole ["value", "low", "high"] f4 d4)
    (D_are_rows : Df K mg "are_rows" s_are_rows ["value", "many", "m"] f5 d5)
    (D_is_generator : Df K mg "is_generator" s_is_generator ["value"] f6 d6)
    (D_is_function : Df K mg "is_function" s_is_function ["value"] f7 d7)
    (D_check_block : Df K mg "check_block" s_check_block ["block"] f8 d8)
    (D_generator_parts : Df K mg "generator_parts" s_generator_parts ["block"] f9 d9)
    (D_function_parts : Df K mg "function_parts" s_function_parts ["block"] f10 d10)
    (D_put_out : Df K mg "put_out" s_put_out ["rows", "state", "k"] f11 d11)
    (D_longer : Df K mg "longer" s_longer ["block", "k"] f12 d12)
    (D_go_down : Df K mg "go_down" s_go_down ["rows", "label", "path"] f13 d13)
    (D_tree : Df K mg "tree" s_tree ["block", "d"] f14 d14)
    (D_counter : Df K mg "counter" s_counter ["block", "c"] f15 d15)
    (D_cut : Df K mg "cut" s_cut ["block", "b"] f16 d16)
    (D_layers_of : Df K mg "layers_of" s_layers_of ["scheme"] f17 d17)
    (D_with_layer : Df K mg "with_layer" s_with_layer ["name", "number", "block"] f18 d18)
    (D_tables_of : Df K mg "tables_of" s_tables_of ["layers", "block"] f19 d19)
    (D_built : Df K mg "built" s_built ["scheme", "block"] f20 d20)
    (D_check_goal : Df K mg "check_goal" s_check_goal ["goal", "block"] f21 d21)
    (D__law_draws : Df K mg "_law_draws" s_law_draws ["script", "many"] f22 d22)
    (D__law_take : Df K mg "_law_take" s_law_take ["hand", "many"] f23 d23)
    (D__law_string : Df K mg "_law_string" s_law_string ["hand", "length"] f24 d24)
    (D__law_table : Df K mg "_law_table" s_law_table ["hand", "n", "m"] f25 d25)
    (D__law_function : Df K mg "_law_function" s_law_function ["hand", "n", "l", "m"] f26 d26)
    (D__law_bits : Df K mg "_law_bits" s_law_bits ["length", "number"] f27 d27)
    (D__law_number : Df K mg "_law_number" s_law_number ["string"] f28 d28)
    (D__law_longer : Df K mg "_law_longer" s_law_longer ["table", "k"] f29 d29)
    (D__law_tree : Df K mg "_law_tree" s_law_tree ["table", "d"] f30 d30)
    (D__law_layer : Df K mg "_law_layer" s_law_layer ["name", "number", "table"] f31 d31)
    (D__law_block : Df K mg "_law_block" s_law_block ["hand"] f32 d32)
    (D__law_step : Df K mg "_law_step" s_law_step ["hand", "table"] f33 d33)
    (D__law_scheme : Df K mg "_law_scheme" s_law_scheme ["hand", "block", "many"] f34 d34)
    (D__law_goal : Df K mg "_law_goal" s_law_goal ["hand", "scheme", "table"] f35 d35)
    (D__law_refused : Df K mg "_law_refused" s_law_refused ["value", "block", "goal"] f36 d36)
    (D__law_bent : Df K mg "_law_bent" s_law_bent ["hand", "scheme"] f37 d37)
    (D__law_unfit : Df K mg "_law_unfit" s_law_unfit ["hand", "scheme", "table"] f38 d38)
    (D__law_no_goal : Df K mg "_law_no_goal" s_law_no_goal ["hand", "scheme", "table"] f39 d39)
    (D__law_edges : Df K mg "_law_edges" s_law_edges ["hand"] f40 d40)
    (D__law_whole : Df K mg "_law_whole" s_law_whole ["script"] f41 d41)
    (F : Fun K "law" "law" s_law f fd) : FnOk P w K mg base CX0 top_level f fd ["script"] (spLaw K) := by
  have c_take : Cl P w K mg base CX0 1 "_law_take" spTake := D__law_take.cl (ok_take D__law_take T)
  have c_string : Cl P w K mg base CX0 2 "_law_string" spString := D__law_string.cl (ok_string D__law_string T c_take)
  have c_table : Cl P w K mg base CX0 3 "_law_table" (spTable K) := D__law_table.cl (ok_table D__law_table T c_string)
  have c_bits : Cl P w K mg base CX0 1 "bits" spBits := D_bits.cl (ok_bits D_bits T)
  have c_number : Cl P w K mg base CX0 1 "number_of" spNumber := D_number_of.cl (ok_number D_number_of T)
  have c_whole : Cl P w K mg base CX0 1 "is_whole" (spWhole K) := D_is_whole.cl (ok_whole D_is_whole T)
  have c_rows : Cl P w K mg base CX0 1 "are_rows" (spRows K) := D_are_rows.cl (ok_rows D_are_rows T)
  have c_check : Cl P w K mg base (L2.CX P w) 3 "check_block" (spCheck K cs.BadBlock) := D_check_block.cl (ok_check D_check_block T (D_is_generator.cl (ok_gen D_is_generator T c_whole c_rows)) (D_is_function.cl (ok_fun D_is_function T c_whole c_rows)))
  have c_all : Cl P w K mg base CX0 2 "all_bits" (spAll K) := D_all_bits.cl (ok_all D_all_bits T c_bits)
  have c_parts : Cl P w K mg base (L2.CX P w) 4 "generator_parts" (spParts K cs.BadBlock cs.BadScheme) := D_generator_parts.cl (ok_parts D_generator_parts T c_check)
  have c_fparts : Cl P w K mg base (L2.CX P w) 4 "function_parts" (spFParts K cs.BadBlock cs.BadScheme) := D_function_parts.cl (ok_fparts D_function_parts T c_check)
  have c_put : Cl P w K mg base CX0 2 "put_out" (spPut K) := D_put_out.cl (ok_put D_put_out T c_number)
  have c_go : Cl P w K mg base CX0 2 "go_down" (spGo K) := D_go_down.cl (ok_go D_go_down T c_number)
  have c_longer : Cl P w K mg base (L2.CX P w) 5 "longer" (spLongA K cs.BadBlock cs.BadScheme) := D_longer.cl (ok_longerA D_longer T c_parts c_whole c_all c_put)
  have c_tree : Cl P w K mg base (L2.CX P w) 5 "tree" (spTreeA K cs.BadBlock cs.BadScheme) := D_tree.cl (ok_treeA D_tree T c_parts c_whole c_all c_go)
  have c_counter : Cl P w K mg base (L2.CX P w) 5 "counter" (spCntA K cs.BadBlock cs.BadScheme) := D_counter.cl (ok_counterA D_counter T c_fparts c_whole)
  have c_cut : Cl P w K mg base (L2.CX P w) 5 "cut" (spCutA K cs.BadBlock cs.BadScheme) := D_cut.cl (ok_cutA D_cut T c_parts c_whole)
  have c_with : Cl P w K mg base (L2.CX P w) 6 "with_layer" (spWith K cs.BadScheme) := D_with_layer.cl (ok_with D_with_layer T c_longer c_tree c_counter c_cut)
  have o_built := ok_built (P := P) (w := w) (base := base) D_built T c_check (D_layers_of.cl (ok_layers D_layers_of T)) (D_tables_of.cl (ok_tables D_tables_of T c_with))
  have c_built : Cl P w K mg base (L2.CX P w) 8 "built" (spBuilt K cs.BadBlock cs.BadScheme) := D_built.cl o_built
  have k_built : Ck P w K mg base (L2.CX P w) 8 0 "built" ["block", "scheme"] (fun _ zs => zs.reverse) (spBuilt K cs.BadBlock cs.BadScheme) := ⟨_, _, _, _, o_built, D_built.gl, D_built.fn.kp, kb2 D_built.fn (fun _ _ _ _ _ _ us ws hu hw => match us, ws, hu, hw with | [], [_, _], _, _ => rfl)⟩
  have o_goal := ok_goal (P := P) (w := w) (base := base) D_check_goal T c_check c_built c_rows
  have c_goal : Cl P w K mg base (L2.CX P w) 9 "check_goal" (spGoal K cs.BadBlock cs.BadScheme) := D_check_goal.cl o_goal
  have k_goal : Ck P w K mg base (L2.CX P w) 9 0 "check_goal" ["block", "goal"] (fun _ zs => zs.reverse) (spGoal K cs.BadBlock cs.BadScheme) := ⟨_, _, _, _, o_goal, D_check_goal.gl, D_check_goal.fn.kp, kb2 D_check_goal.fn (fun _ _ _ _ _ _ us ws hu hw => match us, ws, hu, hw with | [], [_, _], _, _ => rfl)⟩
  have c_lbits : Cl P w K mg base CX0 1 "_law_bits" spBitsS := D__law_bits.cl (ok_lawbitsS D__law_bits T)
  have c_lnum : Cl P w K mg base CX0 1 "_law_number" spNumber := D__law_number.cl (ok_lawnum D__law_number T)
  have c_layer : Cl P w K mg base CX0 3 "_law_layer" (spLayer K) := D__law_layer.cl (ok_layer D__law_layer T (D__law_longer.cl (ok_lawlong31 D__law_longer T c_lbits c_lnum)) (D__law_tree.cl (ok_lawtree31 D__law_tree T c_lbits c_lnum)))
  have c_scheme : Cl P w K mg base CX0 4 "_law_scheme" (spLScheme K) := D__law_scheme.cl (ok_lscheme D__law_scheme T (D__law_step.cl (ok_lstep D__law_step T c_take)) c_layer)
  have c_bent : Cl P w K mg base CX0 8 "_law_bent" (spBent31 K 6) := D__law_bent.cl (ok_bent31 D__law_bent T c_take 6)
  have c_ref : Cl P w K mg base CX0 10 "_law_refused" (spRef31 K) := D__law_refused.cl (ok_ref31 D__law_refused T c_built c_goal)
  exact ok_law31 F T (D__law_whole.cl (ok_whole31 D__law_whole T (D__law_draws.cl (ok_draws D__law_draws T)) c_take (D__law_block.cl (ok_lblock D__law_block T c_take c_table (D__law_function.cl (ok_function D__law_function T c_string)))) c_scheme c_built k_built c_goal k_goal
    (D__law_goal.cl (ok_lgoal D__law_goal T c_take c_string)) c_bent c_ref (D__law_unfit.cl (ok_unfit D__law_unfit T c_take)) (D__law_no_goal.cl (ok_nogoal D__law_no_goal T c_take c_bent)) (D__law_edges.cl (ok_edges31 D__law_edges T c_take c_string c_table c_layer c_built c_goal c_ref))))
end
theorem all_mk {l : PySem.W.OpenLaw} {w : World} {K : PySem.W.Frag} {h : Heap} {mg : Str → Option Value} {fa f1 f2 f3 f4 f5 f6 f7 f8 f9 f10 f11 f12 f13 f14 f15 f16 f17 f18 f19 f20 f21 f22 f23 f24 f25 f26 f27 f28 f29 f30 f31 f32 f33 f34 f35 f36 f37 f38 f39 f40 f41 f42 : Addr} (X : K.In h) (G : h.Ns mainGlobals mg) (hfa : mg "law" = some (.ref fa))
    {od1 an1 od2 an2 od3 an3 od4 an4 od5 an5 od6 an6 od7 an7 od8 an8 od9 an9 od10 an10 od11 an11 od12 an12 od13 an13 od14 an14 od15 an15 od16 an16 od17 an17 od18 an18 od19 an19 od20 an20 od21 an21 od22 an22 od23 an23 od24 an24 od25 an25 od26 an26 od27 an27 od28 an28 od29 an29 od30 an30 od31 an31 od32 an32 od33 an33 od34 an34 od35 an35 od36 an36 od37 an37 od38 an38 od39 an39 od40 an40 od41 an41 od42 an42 : Option Addr} {sl1 sl2 sl3 sl4 sl5 sl6 sl7 sl8 sl9 sl10 sl11 sl12 sl13 sl14 sl15 sl16 sl17 sl18 sl19 sl20 sl21 sl22 sl23 sl24 sl25 sl26 sl27 sl28 sl29 sl30 sl31 sl32 sl33 sl34 sl35 sl36 sl37 sl38 sl39 sl40 sl41 sl42 : Array (Option Value)} {oc1 kV1 dc1 pm1 cd1 ct1 oc2 kV2 dc2 pm2 cd2 ct2 oc3 kV3 dc3 pm3 cd3 ct3 oc4 kV4 dc4 pm4 cd4 ct4 oc5 kV5 dc5 pm5 cd5 ct5 oc6 kV6 dc6 pm6 cd6 ct6 oc7 kV7 dc7 pm7 cd7 ct7 oc8 kV8 dc8 pm8 cd8 ct8 oc9 kV9 dc9 pm9 cd9 ct9 oc10 kV10 dc10 pm10 cd10 ct10 oc11 kV11 dc11 pm11 cd11 ct11 oc12 kV12 dc12 pm12 cd12 ct12 oc13 kV13 dc13 pm13 cd13 ct13 oc14 kV14 dc14 pm14 cd14 ct14 oc15 kV15 dc15 pm15 cd15 ct15 oc16 kV16 dc16 pm16 cd16 ct16 oc17 kV17 dc17 pm17 cd17 ct17 oc18 kV18 dc18 pm18 cd18 ct18 oc19 kV19 dc19 pm19 cd19 ct19 oc20 kV20 dc20 pm20 cd20 ct20 oc21 kV21 dc21 pm21 cd21 ct21 oc22 kV22 dc22 pm22 cd22 ct22 oc23 kV23 dc23 pm23 cd23 ct23 oc24 kV24 dc24 pm24 cd24 ct24 oc25 kV25 dc25 pm25 cd25 ct25 oc26 kV26 dc26 pm26 cd26 ct26 oc27 kV27 dc27 pm27 cd27 ct27 oc28 kV28 dc28 pm28 cd28 ct28 oc29 kV29 dc29 pm29 cd29 ct29 oc30 kV30 dc30 pm30 cd30 ct30 oc31 kV31 dc31 pm31 cd31 ct31 oc32 kV32 dc32 pm32 cd32 ct32 oc33 kV33 dc33 pm33 cd33 ct33 oc34 kV34 dc34 pm34 cd34 ct34 oc35 kV35 dc35 pm35 cd35 ct35 oc36 kV36 dc36 pm36 cd36 ct36 oc37 kV37 dc37 pm37 cd37 ct37 oc38 kV38 dc38 pm38 cd38 ct38 oc39 kV39 dc39 pm39 cd39 ct39 oc40 kV40 dc40 pm40 cd40 ct40 oc41 kV41 dc41 pm41 cd41 ct41 oc42 kV42 dc42 pm42 cd42 ct42 : Value}
    (a1 : PySem.W.nsIn K mainGlobals "bits" = some (some (.ref f1))) (l1 : K.lookup f1 = some ⟨oc1, od1, .func (PySem.W.fnOf "bits" "bits" (defArgs s_bits) (defBody s_bits) (defScope s_bits) .none kV1 dc1 pm1 an1 cd1 ct1), sl1⟩) (c1 : PySem.W.codeIn K cd1 "bits" = true) (k1 : PySem.W.keepIn K (.ref f1) = true)
    (a2 : PySem.W.nsIn K mainGlobals "all_bits" = some (some (.ref f2))) (l2 : K.lookup f2 = some ⟨oc2, od2, .func (PySem.W.fnOf "all_bits" "all_bits" (defArgs s_all_bits) (defBody s_all_bits) (defScope s_all_bits) .none kV2 dc2 pm2 an2 cd2 ct2), sl2⟩) (c2 : PySem.W.codeIn K cd2 "all_bits" = true) (k2 : PySem.W.keepIn K (.ref f2) = true)
    (a3 : PySem.W.nsIn K mainGlobals "number_of" = some (some (.ref f3))) (l3 : K.lookup f3 = some ⟨oc3, od3, .func (PySem.W.fnOf "number_of" "number_of" (defArgs s_number_of) (defBody s_number_of) (defScope s_number_of) .none kV3 dc3 pm3 an3 cd3 ct3), sl3⟩) (c3 : PySem.W.codeIn K cd3 "number_of" = true) (k3 : PySem.W.keepIn K (.ref f3) = true)
    (a4 : PySem.W.nsIn K mainGlobals "is_whole" = some (some (.ref f4))) (l4 : K.lookup f4 = some ⟨oc4, od4, .func (PySem.W.fnOf "is_whole" "is_whole" (defArgs s_is_whole) (defBody s_is_whole) (defScope s_is_whole) .none kV4 dc4 pm4 an4 cd4 ct4), sl4⟩) (c4 : PySem.W.codeIn K cd4 "is_whole" = true) (k4 : PySem.W.keepIn K (.ref f4) = true)
    (a5 : PySem.W.nsIn K mainGlobals "are_rows" = some (some (.ref f5))) (l5 : K.lookup f5 = some ⟨oc5, od5, .func (PySem.W.fnOf "are_rows" "are_rows" (defArgs s_are_rows) (defBody s_are_rows) (defScope s_are_rows) .none kV5 dc5 pm5 an5 cd5 ct5), sl5⟩) (c5 : PySem.W.codeIn K cd5 "are_rows" = true) (k5 : PySem.W.keepIn K (.ref f5) = true)
    (a6 : PySem.W.nsIn K mainGlobals "is_generator" = some (some (.ref f6))) (l6 : K.lookup f6 = some ⟨oc6, od6, .func (PySem.W.fnOf "is_generator" "is_generator" (defArgs s_is_generator) (defBody s_is_generator) (defScope s_is_generator) .none kV6 dc6 pm6 an6 cd6 ct6), sl6⟩) (c6 : PySem.W.codeIn K cd6 "is_generator" = true) (k6 : PySem.W.keepIn K (.ref f6) = true)
    (a7 : PySem.W.nsIn K mainGlobals "is_function" = some (some (.ref f7))) (l7 : K.lookup f7 = some ⟨oc7, od7, .func (PySem.W.fnOf "is_function" "is_function" (defArgs s_is_function) (defBody s_is_function) (defScope s_is_function) .none kV7 dc7 pm7 an7 cd7 ct7), sl7⟩) (c7 : PySem.W.codeIn K cd7 "is_function" = true) (k7 : PySem.W.keepIn K (.ref f7) = true)
    (a8 : PySem.W.nsIn K mainGlobals "check_block" = some (some (.ref f8))) (l8 : K.lookup f8 = some ⟨oc8, od8, .func (PySem.W.fnOf "check_block" "check_block" (defArgs s_check_block) (defBody s_check_block) (defScope s_check_block) .none kV8 dc8 pm8 an8 cd8 ct8), sl8⟩) (c8 : PySem.W.codeIn K cd8 "check_block" = true) (k8 : PySem.W.keepIn K (.ref f8) = true)
    (a9 : PySem.W.nsIn K mainGlobals "generator_parts" = some (some (.ref f9))) (l9 : K.lookup f9 = some ⟨oc9, od9, .func (PySem.W.fnOf "generator_parts" "generator_parts" (defArgs s_generator_parts) (defBody s_generator_parts) (defScope s_generator_parts) .none kV9 dc9 pm9 an9 cd9 ct9), sl9⟩) (c9 : PySem.W.codeIn K cd9 "generator_parts" = true) (k9 : PySem.W.keepIn K (.ref f9) = true)
    (a10 : PySem.W.nsIn K mainGlobals "function_parts" = some (some (.ref f10))) (l10 : K.lookup f10 = some ⟨oc10, od10, .func (PySem.W.fnOf "function_parts" "function_parts" (defArgs s_function_parts) (defBody s_function_parts) (defScope s_function_parts) .none kV10 dc10 pm10 an10 cd10 ct10), sl10⟩) (c10 : PySem.W.codeIn K cd10 "function_parts" = true) (k10 : PySem.W.keepIn K (.ref f10) = true)
    (a11 : PySem.W.nsIn K mainGlobals "put_out" = some (some (.ref f11))) (l11 : K.lookup f11 = some ⟨oc11, od11, .func (PySem.W.fnOf "put_out" "put_out" (defArgs s_put_out) (defBody s_put_out) (defScope s_put_out) .none kV11 dc11 pm11 an11 cd11 ct11), sl11⟩) (c11 : PySem.W.codeIn K cd11 "put_out" = true) (k11 : PySem.W.keepIn K (.ref f11) = true)
    (a12 : PySem.W.nsIn K mainGlobals "longer" = some (some (.ref f12))) (l12 : K.lookup f12 = some ⟨oc12, od12, .func (PySem.W.fnOf "longer" "longer" (defArgs s_longer) (defBody s_longer) (defScope s_longer) .none kV12 dc12 pm12 an12 cd12 ct12), sl12⟩) (c12 : PySem.W.codeIn K cd12 "longer" = true) (k12 : PySem.W.keepIn K (.ref f12) = true)
    (a13 : PySem.W.nsIn K mainGlobals "go_down" = some (some (.ref f13))) (l13 : K.lookup f13 = some ⟨oc13, od13, .func (PySem.W.fnOf "go_down" "go_down" (defArgs s_go_down) (defBody s_go_down) (defScope s_go_down) .none kV13 dc13 pm13 an13 cd13 ct13), sl13⟩) (c13 : PySem.W.codeIn K cd13 "go_down" = true) (k13 : PySem.W.keepIn K (.ref f13) = true)
    (a14 : PySem.W.nsIn K mainGlobals "tree" = some (some (.ref f14))) (l14 : K.lookup f14 = some ⟨oc14, od14, .func (PySem.W.fnOf "tree" "tree" (defArgs s_tree) (defBody s_tree) (defScope s_tree) .none kV14 dc14 pm14 an14 cd14 ct14), sl14⟩) (c14 : PySem.W.codeIn K cd14 "tree" = true) (k14 : PySem.W.keepIn K (.ref f14) = true)
    (a15 : PySem.W.nsIn K mainGlobals "counter" = some (some (.ref f15))) (l15 : K.lookup f15 = some ⟨oc15, od15, .func (PySem.W.fnOf "counter" "counter" (defArgs s_counter) (defBody s_counter) (defScope s_counter) .none kV15 dc15 pm15 an15 cd15 ct15), sl15⟩) (c15 : PySem.W.codeIn K cd15 "counter" = true) (k15 : PySem.W.keepIn K (.ref f15) = true)
    (a16 : PySem.W.nsIn K mainGlobals "cut" = some (some (.ref f16))) (l16 : K.lookup f16 = some ⟨oc16, od16, .func (PySem.W.fnOf "cut" "cut" (defArgs s_cut) (defBody s_cut) (defScope s_cut) .none kV16 dc16 pm16 an16 cd16 ct16), sl16⟩) (c16 : PySem.W.codeIn K cd16 "cut" = true) (k16 : PySem.W.keepIn K (.ref f16) = true)
    (a17 : PySem.W.nsIn K mainGlobals "layers_of" = some (some (.ref f17))) (l17 : K.lookup f17 = some ⟨oc17, od17, .func (PySem.W.fnOf "layers_of" "layers_of" (defArgs s_layers_of) (defBody s_layers_of) (defScope s_layers_of) .none kV17 dc17 pm17 an17 cd17 ct17), sl17⟩) (c17 : PySem.W.codeIn K cd17 "layers_of" = true) (k17 : PySem.W.keepIn K (.ref f17) = true)
    (a18 : PySem.W.nsIn K mainGlobals "with_layer" = some (some (.ref f18))) (l18 : K.lookup f18 = some ⟨oc18, od18, .func (PySem.W.fnOf "with_layer" "with_layer" (defArgs s_with_layer) (defBody s_with_layer) (defScope s_with_layer) .none kV18 dc18 pm18 an18 cd18 ct18), sl18⟩) (c18 : PySem.W.codeIn K cd18 "with_layer" = true) (k18 : PySem.W.keepIn K (.ref f18) = true)
    (a19 : PySem.W.nsIn K mainGlobals "tables_of" = some (some (.ref f19))) (l19 : K.lookup f19 = some ⟨oc19, od19, .func (PySem.W.fnOf "tables_of" "tables_of" (defArgs s_tables_of) (defBody s_tables_of) (defScope s_tables_of) .none kV19 dc19 pm19 an19 cd19 ct19), sl19⟩) (c19 : PySem.W.codeIn K cd19 "tables_of" = true) (k19 : PySem.W.keepIn K (.ref f19) = true)
    (a20 : PySem.W.nsIn K mainGlobals "built" = some (some (.ref f20))) (l20 : K.lookup f20 = some ⟨oc20, od20, .func (PySem.W.fnOf "built" "built" (defArgs s_built) (defBody s_built) (defScope s_built) .none kV20 dc20 pm20 an20 cd20 ct20), sl20⟩) (c20 : PySem.W.codeIn K cd20 "built" = true) (k20 : PySem.W.keepIn K (.ref f20) = true)
    (a21 : PySem.W.nsIn K mainGlobals "check_goal" = some (some (.ref f21))) (l21 : K.lookup f21 = some ⟨oc21, od21, .func (PySem.W.fnOf "check_goal" "check_goal" (defArgs s_check_goal) (defBody s_check_goal) (defScope s_check_goal) .none kV21 dc21 pm21 an21 cd21 ct21), sl21⟩) (c21 : PySem.W.codeIn K cd21 "check_goal" = true) (k21 : PySem.W.keepIn K (.ref f21) = true)
    (a22 : PySem.W.nsIn K mainGlobals "_law_draws" = some (some (.ref f22))) (l22 : K.lookup f22 = some ⟨oc22, od22, .func (PySem.W.fnOf "_law_draws" "_law_draws" (defArgs s_law_draws) (defBody s_law_draws) (defScope s_law_draws) .none kV22 dc22 pm22 an22 cd22 ct22), sl22⟩) (c22 : PySem.W.codeIn K cd22 "_law_draws" = true) (k22 : PySem.W.keepIn K (.ref f22) = true)
    (a23 : PySem.W.nsIn K mainGlobals "_law_take" = some (some (.ref f23))) (l23 : K.lookup f23 = some ⟨oc23, od23, .func (PySem.W.fnOf "_law_take" "_law_take" (defArgs s_law_take) (defBody s_law_take) (defScope s_law_take) .none kV23 dc23 pm23 an23 cd23 ct23), sl23⟩) (c23 : PySem.W.codeIn K cd23 "_law_take" = true) (k23 : PySem.W.keepIn K (.ref f23) = true)
    (a24 : PySem.W.nsIn K mainGlobals "_law_string" = some (some (.ref f24))) (l24 : K.lookup f24 = some ⟨oc24, od24, .func (PySem.W.fnOf "_law_string" "_law_string" (defArgs s_law_string) (defBody s_law_string) (defScope s_law_string) .none kV24 dc24 pm24 an24 cd24 ct24), sl24⟩) (c24 : PySem.W.codeIn K cd24 "_law_string" = true) (k24 : PySem.W.keepIn K (.ref f24) = true)
    (a25 : PySem.W.nsIn K mainGlobals "_law_table" = some (some (.ref f25))) (l25 : K.lookup f25 = some ⟨oc25, od25, .func (PySem.W.fnOf "_law_table" "_law_table" (defArgs s_law_table) (defBody s_law_table) (defScope s_law_table) .none kV25 dc25 pm25 an25 cd25 ct25), sl25⟩) (c25 : PySem.W.codeIn K cd25 "_law_table" = true) (k25 : PySem.W.keepIn K (.ref f25) = true)
    (a26 : PySem.W.nsIn K mainGlobals "_law_function" = some (some (.ref f26))) (l26 : K.lookup f26 = some ⟨oc26, od26, .func (PySem.W.fnOf "_law_function" "_law_function" (defArgs s_law_function) (defBody s_law_function) (defScope s_law_function) .none kV26 dc26 pm26 an26 cd26 ct26), sl26⟩) (c26 : PySem.W.codeIn K cd26 "_law_function" = true) (k26 : PySem.W.keepIn K (.ref f26) = true)
    (a27 : PySem.W.nsIn K mainGlobals "_law_bits" = some (some (.ref f27))) (l27 : K.lookup f27 = some ⟨oc27, od27, .func (PySem.W.fnOf "_law_bits" "_law_bits" (defArgs s_law_bits) (defBody s_law_bits) (defScope s_law_bits) .none kV27 dc27 pm27 an27 cd27 ct27), sl27⟩) (c27 : PySem.W.codeIn K cd27 "_law_bits" = true) (k27 : PySem.W.keepIn K (.ref f27) = true)
    (a28 : PySem.W.nsIn K mainGlobals "_law_number" = some (some (.ref f28))) (l28 : K.lookup f28 = some ⟨oc28, od28, .func (PySem.W.fnOf "_law_number" "_law_number" (defArgs s_law_number) (defBody s_law_number) (defScope s_law_number) .none kV28 dc28 pm28 an28 cd28 ct28), sl28⟩) (c28 : PySem.W.codeIn K cd28 "_law_number" = true) (k28 : PySem.W.keepIn K (.ref f28) = true)
    (a29 : PySem.W.nsIn K mainGlobals "_law_longer" = some (some (.ref f29))) (l29 : K.lookup f29 = some ⟨oc29, od29, .func (PySem.W.fnOf "_law_longer" "_law_longer" (defArgs s_law_longer) (defBody s_law_longer) (defScope s_law_longer) .none kV29 dc29 pm29 an29 cd29 ct29), sl29⟩) (c29 : PySem.W.codeIn K cd29 "_law_longer" = true) (k29 : PySem.W.keepIn K (.ref f29) = true)
    (a30 : PySem.W.nsIn K mainGlobals "_law_tree" = some (some (.ref f30))) (l30 : K.lookup f30 = some ⟨oc30, od30, .func (PySem.W.fnOf "_law_tree" "_law_tree" (defArgs s_law_tree) (defBody s_law_tree) (defScope s_law_tree) .none kV30 dc30 pm30 an30 cd30 ct30), sl30⟩) (c30 : PySem.W.codeIn K cd30 "_law_tree" = true) (k30 : PySem.W.keepIn K (.ref f30) = true)
    (a31 : PySem.W.nsIn K mainGlobals "_law_layer" = some (some (.ref f31))) (l31 : K.lookup f31 = some ⟨oc31, od31, .func (PySem.W.fnOf "_law_layer" "_law_layer" (defArgs s_law_layer) (defBody s_law_layer) (defScope s_law_layer) .none kV31 dc31 pm31 an31 cd31 ct31), sl31⟩) (c31 : PySem.W.codeIn K cd31 "_law_layer" = true) (k31 : PySem.W.keepIn K (.ref f31) = true)
    (a32 : PySem.W.nsIn K mainGlobals "_law_block" = some (some (.ref f32))) (l32 : K.lookup f32 = some ⟨oc32, od32, .func (PySem.W.fnOf "_law_block" "_law_block" (defArgs s_law_block) (defBody s_law_block) (defScope s_law_block) .none kV32 dc32 pm32 an32 cd32 ct32), sl32⟩) (c32 : PySem.W.codeIn K cd32 "_law_block" = true) (k32 : PySem.W.keepIn K (.ref f32) = true)
    (a33 : PySem.W.nsIn K mainGlobals "_law_step" = some (some (.ref f33))) (l33 : K.lookup f33 = some ⟨oc33, od33, .func (PySem.W.fnOf "_law_step" "_law_step" (defArgs s_law_step) (defBody s_law_step) (defScope s_law_step) .none kV33 dc33 pm33 an33 cd33 ct33), sl33⟩) (c33 : PySem.W.codeIn K cd33 "_law_step" = true) (k33 : PySem.W.keepIn K (.ref f33) = true)
    (a34 : PySem.W.nsIn K mainGlobals "_law_scheme" = some (some (.ref f34))) (l34 : K.lookup f34 = some ⟨oc34, od34, .func (PySem.W.fnOf "_law_scheme" "_law_scheme" (defArgs s_law_scheme) (defBody s_law_scheme) (defScope s_law_scheme) .none kV34 dc34 pm34 an34 cd34 ct34), sl34⟩) (c34 : PySem.W.codeIn K cd34 "_law_scheme" = true) (k34 : PySem.W.keepIn K (.ref f34) = true)
    (a35 : PySem.W.nsIn K mainGlobals "_law_goal" = some (some (.ref f35))) (l35 : K.lookup f35 = some ⟨oc35, od35, .func (PySem.W.fnOf "_law_goal" "_law_goal" (defArgs s_law_goal) (defBody s_law_goal) (defScope s_law_goal) .none kV35 dc35 pm35 an35 cd35 ct35), sl35⟩) (c35 : PySem.W.codeIn K cd35 "_law_goal" = true) (k35 : PySem.W.keepIn K (.ref f35) = true)
    (a36 : PySem.W.nsIn K mainGlobals "_law_refused" = some (some (.ref f36))) (l36 : K.lookup f36 = some ⟨oc36, od36, .func (PySem.W.fnOf "_law_refused" "_law_refused" (defArgs s_law_refused) (defBody s_law_refused) (defScope s_law_refused) .none kV36 dc36 pm36 an36 cd36 ct36), sl36⟩) (c36 : PySem.W.codeIn K cd36 "_law_refused" = true) (k36 : PySem.W.keepIn K (.ref f36) = true)
    (a37 : PySem.W.nsIn K mainGlobals "_law_bent" = some (some (.ref f37))) (l37 : K.lookup f37 = some ⟨oc37, od37, .func (PySem.W.fnOf "_law_bent" "_law_bent" (defArgs s_law_bent) (defBody s_law_bent) (defScope s_law_bent) .none kV37 dc37 pm37 an37 cd37 ct37), sl37⟩) (c37 : PySem.W.codeIn K cd37 "_law_bent" = true) (k37 : PySem.W.keepIn K (.ref f37) = true)
    (a38 : PySem.W.nsIn K mainGlobals "_law_unfit" = some (some (.ref f38))) (l38 : K.lookup f38 = some ⟨oc38, od38, .func (PySem.W.fnOf "_law_unfit" "_law_unfit" (defArgs s_law_unfit) (defBody s_law_unfit) (defScope s_law_unfit) .none kV38 dc38 pm38 an38 cd38 ct38), sl38⟩) (c38 : PySem.W.codeIn K cd38 "_law_unfit" = true) (k38 : PySem.W.keepIn K (.ref f38) = true)
    (a39 : PySem.W.nsIn K mainGlobals "_law_no_goal" = some (some (.ref f39))) (l39 : K.lookup f39 = some ⟨oc39, od39, .func (PySem.W.fnOf "_law_no_goal" "_law_no_goal" (defArgs s_law_no_goal) (defBody s_law_no_goal) (defScope s_law_no_goal) .none kV39 dc39 pm39 an39 cd39 ct39), sl39⟩) (c39 : PySem.W.codeIn K cd39 "_law_no_goal" = true) (k39 : PySem.W.keepIn K (.ref f39) = true)
    (a40 : PySem.W.nsIn K mainGlobals "_law_edges" = some (some (.ref f40))) (l40 : K.lookup f40 = some ⟨oc40, od40, .func (PySem.W.fnOf "_law_edges" "_law_edges" (defArgs s_law_edges) (defBody s_law_edges) (defScope s_law_edges) .none kV40 dc40 pm40 an40 cd40 ct40), sl40⟩) (c40 : PySem.W.codeIn K cd40 "_law_edges" = true) (k40 : PySem.W.keepIn K (.ref f40) = true)
    (a41 : PySem.W.nsIn K mainGlobals "_law_whole" = some (some (.ref f41))) (l41 : K.lookup f41 = some ⟨oc41, od41, .func (PySem.W.fnOf "_law_whole" "_law_whole" (defArgs s_law_whole) (defBody s_law_whole) (defScope s_law_whole) .none kV41 dc41 pm41 an41 cd41 ct41), sl41⟩) (c41 : PySem.W.codeIn K cd41 "_law_whole" = true) (k41 : PySem.W.keepIn K (.ref f41) = true)
    (a42 : PySem.W.nsIn K mainGlobals "law" = some (some (.ref f42))) (l42 : K.lookup f42 = some ⟨oc42, od42, .func (PySem.W.fnOf "law" "law" (defArgs s_law) (defBody s_law) (defScope s_law) .none kV42 dc42 pm42 an42 cd42 ct42), sl42⟩) (c42 : PySem.W.codeIn K cd42 "law" = true) (k42 : PySem.W.keepIn K (.ref f42) = true)
    (z1 : PySem.W.nsIn K mainGlobals "ValueError" = some none)
    (z2 : PySem.W.nsIn K mainGlobals "abs" = some none)
    (z3 : PySem.W.nsIn K mainGlobals "all" = some none)
    (z4 : PySem.W.nsIn K mainGlobals "bool" = some none)
    (z5 : PySem.W.nsIn K mainGlobals "int" = some none)
    (z6 : PySem.W.nsIn K mainGlobals "isinstance" = some none)
    (z7 : PySem.W.nsIn K mainGlobals "len" = some none)
    (z8 : PySem.W.nsIn K mainGlobals "list" = some none)
    (z9 : PySem.W.nsIn K mainGlobals "min" = some none)
    (z10 : PySem.W.nsIn K mainGlobals "range" = some none)
    (z11 : PySem.W.nsIn K mainGlobals "str" = some none)
    (z12 : PySem.W.nsIn K mainGlobals "tuple" = some none)
    {tk1 : Tok} (y1 : PySem.W.nsIn K mainGlobals "DEEPEST" = some (some (.int 8 tk1)))
    {tk2 : Tok} (y2 : PySem.W.nsIn K mainGlobals "MOST_BITS" = some (some (.int 40 tk2)))
    {CBadBlock CBadScheme CBreakError : Addr}
    {CABOUT : Addr} {esABOUT : Array DictEntry} {nnABOUT : Nat}
    {hABOUT0 hABOUT1 hABOUT2 hABOUT3 hABOUT4 hABOUT5 : Int} {tkABOUT0 tvABOUT0 tkABOUT1 tvABOUT1 tkABOUT2 tvABOUT2 tkABOUT3 tvABOUT3 tkABOUT4 tvABOUT4 tkABOUT5 tvABOUT5 : Tok}
    (gBadBlock : PySem.W.nsIn K mainGlobals "BadBlock" = some (some (.ref CBadBlock)))
    (gBadScheme : PySem.W.nsIn K mainGlobals "BadScheme" = some (some (.ref CBadScheme)))
    (gBreakError : PySem.W.nsIn K mainGlobals "BreakError" = some (some (.ref CBreakError)))
    (xBadBlock : PySem.W.excIn K CBadBlock [.type "ValueError", .type "Exception", .type "BaseException", .type "object"] "ValueError.__new__" = true)
    (kBadBlock : PySem.W.keepIn K (.ref CBadBlock) = true)
    (bBadBlock : PySem.W.subIn K (.ref CBadBlock) (.type "BaseException") = some true)
    (tBadBlock : PySem.W.typeIn K (.ref CBadBlock) = some (.type "type"))
    (uBadBlock : PySem.W.findIn K (.ref CBadBlock) "__getattribute__" = some (some (.builtin "BaseException.__getattribute__")))
    (vBadBlock : PySem.W.findIn K (.ref CBadBlock) "__getattr__" = some none)
    (hBadBlock : PySem.W.hasDictIn K CBadBlock = true)
    (wBadBlock : PySem.W.findIn K (.ref CBadBlock) "__class__" = some (some (.builtin "object.__class__")))
    (mBadBlock : PySem.W.mroIn K CBadBlock (.type "object") = some true)
    (eBadBlockBadBlock : PySem.W.exmOne K (.ref CBadBlock) (.ref CBadBlock) = some true)
    (kBadBlockBreakError : PySem.W.kitOne K (.ref CBadBlock) (.ref CBreakError) = some true)
    (kBadBlockValueError : PySem.W.kitOne K (.ref CBadBlock) (.type "ValueError") = some true)
    (eBadBlockBadScheme : PySem.W.exmOne K (.ref CBadBlock) (.ref CBadScheme) = some false)
    (xBadScheme : PySem.W.excIn K CBadScheme [.type "ValueError", .type "Exception", .type "BaseException", .type "object"] "ValueError.__new__" = true)
    (kBadScheme : PySem.W.keepIn K (.ref CBadScheme) = true)
    (bBadScheme : PySem.W.subIn K (.ref CBadScheme) (.type "BaseException") = some true)
    (tBadScheme : PySem.W.typeIn K (.ref CBadScheme) = some (.type "type"))
    (uBadScheme : PySem.W.findIn K (.ref CBadScheme) "__getattribute__" = some (some (.builtin "BaseException.__getattribute__")))
    (vBadScheme : PySem.W.findIn K (.ref CBadScheme) "__getattr__" = some none)
    (hBadScheme : PySem.W.hasDictIn K CBadScheme = true)
    (wBadScheme : PySem.W.findIn K (.ref CBadScheme) "__class__" = some (some (.builtin "object.__class__")))
    (mBadScheme : PySem.W.mroIn K CBadScheme (.type "object") = some true)
    (eBadSchemeBadBlock : PySem.W.exmOne K (.ref CBadScheme) (.ref CBadBlock) = some false)
    (eBadSchemeBadScheme : PySem.W.exmOne K (.ref CBadScheme) (.ref CBadScheme) = some true)
    (kBadSchemeBreakError : PySem.W.kitOne K (.ref CBadScheme) (.ref CBreakError) = some true)
    (kBadSchemeValueError : PySem.W.kitOne K (.ref CBadScheme) (.type "ValueError") = some true)
    (sp1 : PySem.W.specialIn K (.builtin "object.__class__") "__get__" = some (some (.builtin "getset_descriptor.__get__")))
    (tk1 : PySem.W.takesIn K (.builtin "object.__class__") = some true)
    (gABOUT : PySem.W.nsIn K mainGlobals "ABOUT" = some (some (.ref CABOUT)))
    (lABOUT : K.lookup CABOUT = some ⟨.type "dict", none, .dict esABOUT nnABOUT, #[]⟩)
    (qABOUT : PySem.W.KeysLit w.params esABOUT.toList)
    (loABOUT : (CABOUT == sysModules) = false)
    (rABOUT : esABOUT.toList = [⟨hABOUT0, .str "tell" tkABOUT0, .str "any" tvABOUT0⟩, ⟨hABOUT1, .str "marks" tkABOUT1, .str "function" tvABOUT1⟩, ⟨hABOUT2, .str "secrets" tkABOUT2, .str "function" tvABOUT2⟩, ⟨hABOUT3, .str "once" tkABOUT3, .str "generator" tvABOUT3⟩, ⟨hABOUT4, .str "opening" tkABOUT4, .str "generator" tvABOUT4⟩, ⟨hABOUT5, .str "next" tkABOUT5, .str "generator" tvABOUT5⟩]) :
    ∃ fd : FuncData, (∀ (s : Shared) (v : Value), BindsTo s fd ⟨[v], []⟩ [("script", v)]) ∧ ∀ base : Heap, K.In base → base.Ns mainGlobals mg → FnOk l.prog w K mg base CX0 top_level fa fd ["script"] (spLaw K) := by
  have e := hfa.symm.trans (PySem.W.mg_of X G a42)
  cases e
  have T : Txt K w mg ⟨CBadBlock, CBadScheme, CBreakError, CABOUT⟩ := { n_ValueError := PySem.W.mg_none_of X G z1, n_abs := PySem.W.mg_none_of X G z2, n_all := PySem.W.mg_none_of X G z3, n_bool := PySem.W.mg_none_of X G z4, n_int := PySem.W.mg_none_of X G z5, n_isinstance := PySem.W.mg_none_of X G z6, n_len := PySem.W.mg_none_of X G z7, n_list := PySem.W.mg_none_of X G z8, n_min := PySem.W.mg_none_of X G z9, n_range := PySem.W.mg_none_of X G z10, n_str := PySem.W.mg_none_of X G z11, n_tuple := PySem.W.mg_none_of X G z12, g_DEEPEST := ⟨_, PySem.W.mg_of X G y1, ⟨_, rfl⟩⟩, g_MOST_BITS := ⟨_, PySem.W.mg_of X G y2, ⟨_, rfl⟩⟩, gl_BadBlock := PySem.W.mg_of X G gBadBlock, gl_BadScheme := PySem.W.mg_of X G gBadScheme, gl_BreakError := PySem.W.mg_of X G gBreakError, gl_ABOUT := PySem.W.mg_of X G gABOUT, dk_ABOUT := ⟨⟨_, _, ⟨lABOUT, qABOUT, loABOUT⟩, (by rw [rABOUT]; exact .cons rfl ⟨_, _, by simp, rfl⟩ (.cons rfl ⟨_, _, by simp, rfl⟩ (.cons rfl ⟨_, _, by simp, rfl⟩ (.cons rfl ⟨_, _, by simp, rfl⟩ (.cons rfl ⟨_, _, by simp, rfl⟩ (.cons rfl ⟨_, _, by simp, rfl⟩ (.nil)))))))⟩, txt_has⟩, x_BadBlock := ⟨xBadBlock, PySem.W.mg_of X G gBadBlock, kBadBlock, bBadBlock, tBadBlock⟩, e_BadBlock := ⟨uBadBlock, vBadBlock, bBadBlock, hBadBlock, wBadBlock, sp1, tk1, mBadBlock⟩, exm_BadBlock_BadBlock := eBadBlockBadBlock, kit_BadBlock_BreakError := kBadBlockBreakError, kit_BadBlock_ValueError := kBadBlockValueError, exm_BadBlock_BadScheme := eBadBlockBadScheme, x_BadScheme := ⟨xBadScheme, PySem.W.mg_of X G gBadScheme, kBadScheme, bBadScheme, tBadScheme⟩, e_BadScheme := ⟨uBadScheme, vBadScheme, bBadScheme, hBadScheme, wBadScheme, sp1, tk1, mBadScheme⟩, exm_BadScheme_BadBlock := eBadSchemeBadBlock, exm_BadScheme_BadScheme := eBadSchemeBadScheme, kit_BadScheme_BreakError := kBadSchemeBreakError, kit_BadScheme_ValueError := kBadSchemeValueError }
  have F1 := fun_mk (st := s_bits) l1 c1 k1
  have b1 := F1.binds (ps := ["length", "number"]) fun _ _ _ _ _ _ us hl => match us, hl with | [_, _], _ => rfl
  have F2 := fun_mk (st := s_all_bits) l2 c2 k2
  have b2 := F2.binds (ps := ["length"]) fun _ _ _ _ _ _ us hl => match us, hl with | [_], _ => rfl
  have F3 := fun_mk (st := s_number_of) l3 c3 k3
  have b3 := F3.binds (ps := ["string"]) fun _ _ _ _ _ _ us hl => match us, hl with | [_], _ => rfl
  have F4 := fun_mk (st := s_is_whole) l4 c4 k4
  have b4 := F4.binds (ps := ["value", "low", "high"]) fun _ _ _ _ _ _ us hl => match us, hl with | [_, _, _], _ => rfl
  have F5 := fun_mk (st := s_are_rows) l5 c5 k5
  have b5 := F5.binds (ps := ["value", "many", "m"]) fun _ _ _ _ _ _ us hl => match us, hl with | [_, _, _], _ => rfl
  have F6 := fun_mk (st := s_is_generator) l6 c6 k6
  have b6 := F6.binds (ps := ["value"]) fun _ _ _ _ _ _ us hl => match us, hl with | [_], _ => rfl
  have F7 := fun_mk (st := s_is_function) l7 c7 k7
  have b7 := F7.binds (ps := ["value"]) fun _ _ _ _ _ _ us hl => match us, hl with | [_], _ => rfl
  have F8 := fun_mk (st := s_check_block) l8 c8 k8
  have b8 := F8.binds (ps := ["block"]) fun _ _ _ _ _ _ us hl => match us, hl with | [_], _ => rfl
  have F9 := fun_mk (st := s_generator_parts) l9 c9 k9
  have b9 := F9.binds (ps := ["block"]) fun _ _ _ _ _ _ us hl => match us, hl with | [_], _ => rfl
  have F10 := fun_mk (st := s_function_parts) l10 c10 k10
  have b10 := F10.binds (ps := ["block"]) fun _ _ _ _ _ _ us hl => match us, hl with | [_], _ => rfl
  have F11 := fun_mk (st := s_put_out) l11 c11 k11
  have b11 := F11.binds (ps := ["rows", "state", "k"]) fun _ _ _ _ _ _ us hl => match us, hl with | [_, _, _], _ => rfl
  have F12 := fun_mk (st := s_longer) l12 c12 k12
  have b12 := F12.binds (ps := ["block", "k"]) fun _ _ _ _ _ _ us hl => match us, hl with | [_, _], _ => rfl
  have F13 := fun_mk (st := s_go_down) l13 c13 k13
  have b13 := F13.binds (ps := ["rows", "label", "path"]) fun _ _ _ _ _ _ us hl => match us, hl with | [_, _, _], _ => rfl
  have F14 := fun_mk (st := s_tree) l14 c14 k14
  have b14 := F14.binds (ps := ["block", "d"]) fun _ _ _ _ _ _ us hl => match us, hl with | [_, _], _ => rfl
  have F15 := fun_mk (st := s_counter) l15 c15 k15
  have b15 := F15.binds (ps := ["block", "c"]) fun _ _ _ _ _ _ us hl => match us, hl with | [_, _], _ => rfl
  have F16 := fun_mk (st := s_cut) l16 c16 k16
  have b16 := F16.binds (ps := ["block", "b"]) fun _ _ _ _ _ _ us hl => match us, hl with | [_, _], _ => rfl
  have F17 := fun_mk (st := s_layers_of) l17 c17 k17
  have b17 := F17.binds (ps := ["scheme"]) fun _ _ _ _ _ _ us hl => match us, hl with | [_], _ => rfl
  have F18 := fun_mk (st := s_with_layer) l18 c18 k18
  have b18 := F18.binds (ps := ["name", "number", "block"]) fun _ _ _ _ _ _ us hl => match us, hl with | [_, _, _], _ => rfl
  have F19 := fun_mk (st := s_tables_of) l19 c19 k19
  have b19 := F19.binds (ps := ["layers", "block"]) fun _ _ _ _ _ _ us hl => match us, hl with | [_, _], _ => rfl
  have F20 := fun_mk (st := s_built) l20 c20 k20
  have b20 := F20.binds (ps := ["scheme", "block"]) fun _ _ _ _ _ _ us hl => match us, hl with | [_, _], _ => rfl
  have F21 := fun_mk (st := s_check_goal) l21 c21 k21
  have b21 := F21.binds (ps := ["goal", "block"]) fun _ _ _ _ _ _ us hl => match us, hl with | [_, _], _ => rfl
  have F22 := fun_mk (st := s_law_draws) l22 c22 k22
  have b22 := F22.binds (ps := ["script", "many"]) fun _ _ _ _ _ _ us hl => match us, hl with | [_, _], _ => rfl
  have F23 := fun_mk (st := s_law_take) l23 c23 k23
  have b23 := F23.binds (ps := ["hand", "many"]) fun _ _ _ _ _ _ us hl => match us, hl with | [_, _], _ => rfl
  have F24 := fun_mk (st := s_law_string) l24 c24 k24
  have b24 := F24.binds (ps := ["hand", "length"]) fun _ _ _ _ _ _ us hl => match us, hl with | [_, _], _ => rfl
  have F25 := fun_mk (st := s_law_table) l25 c25 k25
  have b25 := F25.binds (ps := ["hand", "n", "m"]) fun _ _ _ _ _ _ us hl => match us, hl with | [_, _, _], _ => rfl
  have F26 := fun_mk (st := s_law_function) l26 c26 k26
  have b26 := F26.binds (ps := ["hand", "n", "l", "m"]) fun _ _ _ _ _ _ us hl => match us, hl with | [_, _, _, _], _ => rfl
  have F27 := fun_mk (st := s_law_bits) l27 c27 k27
  have b27 := F27.binds (ps := ["length", "number"]) fun _ _ _ _ _ _ us hl => match us, hl with | [_, _], _ => rfl
  have F28 := fun_mk (st := s_law_number) l28 c28 k28
  have b28 := F28.binds (ps := ["string"]) fun _ _ _ _ _ _ us hl => match us, hl with | [_], _ => rfl
  have F29 := fun_mk (st := s_law_longer) l29 c29 k29
  have b29 := F29.binds (ps := ["table", "k"]) fun _ _ _ _ _ _ us hl => match us, hl with | [_, _], _ => rfl
  have F30 := fun_mk (st := s_law_tree) l30 c30 k30
  have b30 := F30.binds (ps := ["table", "d"]) fun _ _ _ _ _ _ us hl => match us, hl with | [_, _], _ => rfl
  have F31 := fun_mk (st := s_law_layer) l31 c31 k31
  have b31 := F31.binds (ps := ["name", "number", "table"]) fun _ _ _ _ _ _ us hl => match us, hl with | [_, _, _], _ => rfl
  have F32 := fun_mk (st := s_law_block) l32 c32 k32
  have b32 := F32.binds (ps := ["hand"]) fun _ _ _ _ _ _ us hl => match us, hl with | [_], _ => rfl
  have F33 := fun_mk (st := s_law_step) l33 c33 k33
  have b33 := F33.binds (ps := ["hand", "table"]) fun _ _ _ _ _ _ us hl => match us, hl with | [_, _], _ => rfl
  have F34 := fun_mk (st := s_law_scheme) l34 c34 k34
  have b34 := F34.binds (ps := ["hand", "block", "many"]) fun _ _ _ _ _ _ us hl => match us, hl with | [_, _, _], _ => rfl
  have F35 := fun_mk (st := s_law_goal) l35 c35 k35
  have b35 := F35.binds (ps := ["hand", "scheme", "table"]) fun _ _ _ _ _ _ us hl => match us, hl with | [_, _, _], _ => rfl
  have F36 := fun_mk (st := s_law_refused) l36 c36 k36
  have b36 := F36.binds (ps := ["value", "block", "goal"]) fun _ _ _ _ _ _ us hl => match us, hl with | [_, _, _], _ => rfl
  have F37 := fun_mk (st := s_law_bent) l37 c37 k37
  have b37 := F37.binds (ps := ["hand", "scheme"]) fun _ _ _ _ _ _ us hl => match us, hl with | [_, _], _ => rfl
  have F38 := fun_mk (st := s_law_unfit) l38 c38 k38
  have b38 := F38.binds (ps := ["hand", "scheme", "table"]) fun _ _ _ _ _ _ us hl => match us, hl with | [_, _, _], _ => rfl
  have F39 := fun_mk (st := s_law_no_goal) l39 c39 k39
  have b39 := F39.binds (ps := ["hand", "scheme", "table"]) fun _ _ _ _ _ _ us hl => match us, hl with | [_, _, _], _ => rfl
  have F40 := fun_mk (st := s_law_edges) l40 c40 k40
  have b40 := F40.binds (ps := ["hand"]) fun _ _ _ _ _ _ us hl => match us, hl with | [_], _ => rfl
  have F41 := fun_mk (st := s_law_whole) l41 c41 k41
  have b41 := F41.binds (ps := ["script"]) fun _ _ _ _ _ _ us hl => match us, hl with | [_], _ => rfl
  have F42 := fun_mk (st := s_law) l42 c42 k42
  have b42 := F42.binds (ps := ["script"]) fun _ _ _ _ _ _ us hl => match us, hl with | [_], _ => rfl
  refine ⟨PySem.W.fnOf "law" "law" (defArgs s_law) (defBody s_law) (defScope s_law) .none kV42 dc42 pm42 an42 cd42 ct42, fun s v => .of_eq rfl, fun base _ _ => ?_⟩
  exact mk_law T ⟨F1, b1, PySem.W.mg_of X G a1⟩ ⟨F2, b2, PySem.W.mg_of X G a2⟩ ⟨F3, b3, PySem.W.mg_of X G a3⟩ ⟨F4, b4, PySem.W.mg_of X G a4⟩ ⟨F5, b5, PySem.W.mg_of X G a5⟩ ⟨F6, b6, PySem.W.mg_of X G a6⟩ ⟨F7, b7, PySem.W.mg_of X G a7⟩ ⟨F8, b8, PySem.W.mg_of X G a8⟩ ⟨F9, b9, PySem.W.mg_of X G a9⟩ ⟨F10, b10, PySem.W.mg_of X G a10⟩ ⟨F11, b11, PySem.W.mg_of X G a11⟩ ⟨F12, b12, PySem.W.mg_of X G a12⟩ ⟨F13, b13, PySem.W.mg_of X G a13⟩ ⟨F14, b14, PySem.W.mg_of X G a14⟩ ⟨F15, b15, PySem.W.mg_of X G a15⟩ ⟨F16, b16, PySem.W.mg_of X G a16⟩ ⟨F17, b17, PySem.W.mg_of X G a17⟩ ⟨F18, b18, PySem.W.mg_of X G a18⟩ ⟨F19, b19, PySem.W.mg_of X G a19⟩ ⟨F20, b20, PySem.W.mg_of X G a20⟩ ⟨F21, b21, PySem.W.mg_of X G a21⟩ ⟨F22, b22, PySem.W.mg_of X G a22⟩ ⟨F23, b23, PySem.W.mg_of X G a23⟩ ⟨F24, b24, PySem.W.mg_of X G a24⟩ ⟨F25, b25, PySem.W.mg_of X G a25⟩ ⟨F26, b26, PySem.W.mg_of X G a26⟩ ⟨F27, b27, PySem.W.mg_of X G a27⟩ ⟨F28, b28, PySem.W.mg_of X G a28⟩ ⟨F29, b29, PySem.W.mg_of X G a29⟩ ⟨F30, b30, PySem.W.mg_of X G a30⟩ ⟨F31, b31, PySem.W.mg_of X G a31⟩ ⟨F32, b32, PySem.W.mg_of X G a32⟩ ⟨F33, b33, PySem.W.mg_of X G a33⟩ ⟨F34, b34, PySem.W.mg_of X G a34⟩ ⟨F35, b35, PySem.W.mg_of X G a35⟩ ⟨F36, b36, PySem.W.mg_of X G a36⟩ ⟨F37, b37, PySem.W.mg_of X G a37⟩ ⟨F38, b38, PySem.W.mg_of X G a38⟩ ⟨F39, b39, PySem.W.mg_of X G a39⟩ ⟨F40, b40, PySem.W.mg_of X G a40⟩ ⟨F41, b41, PySem.W.mg_of X G a41⟩ F42
end My
open PySem PySem.W PyProof.Rows
set_option maxRecDepth 100000 in
set_option maxHeartbeats 0 in
theorem PySem.Challenge.cw_breakback_k31_built_and_fitting_goals_holds : PySem.Challenge.rw_breakback_k31_built_and_fitting_goals.Holds := by
  w_on; o_law; k_head; (case hw => w_witness2)
  k_fill
  refine L2.walk_of (l := PySem.Challenge.rw_breakback_k31_built_and_fitting_goals) (n := 63) (k := My.top_level) (x := "script") (CX := fun _ => L2.CX0) (sp := fun w => My.spLaw _) rfl (by decide) rfl ⟨rfl, by decide, by decide⟩ (fun w h Y => PySem.W.kIn_of Y) ?F (fun _ _ a ns hl _ hS => ⟨a, ns, rfl, hS, hl, fun _ => rfl⟩) (fun _ _ _ _ _ h => h)
  case F =>
    intro w mg fa h KX G hmg
    refine' My.all_mk KX G hmg ?a1 ?l1 ?c1 ?k1 ?a2 ?l2 ?c2 ?k2 ?a3 ?l3 ?c3 ?k3 ?a4 ?l4 ?c4 ?k4 ?a5 ?l5 ?c5 ?k5 ?a6 ?l6 ?c6 ?k6 ?a7 ?l7 ?c7 ?k7 ?a8 ?l8 ?c8 ?k8 ?a9 ?l9 ?c9 ?k9 ?a10 ?l10 ?c10 ?k10 ?a11 ?l11 ?c11 ?k11 ?a12 ?l12 ?c12 ?k12 ?a13 ?l13 ?c13 ?k13 ?a14 ?l14 ?c14 ?k14 ?a15 ?l15 ?c15 ?k15 ?a16 ?l16 ?c16 ?k16 ?a17 ?l17 ?c17 ?k17 ?a18 ?l18 ?c18 ?k18 ?a19 ?l19 ?c19 ?k19 ?a20 ?l20 ?c20 ?k20 ?a21 ?l21 ?c21 ?k21 ?a22 ?l22 ?c22 ?k22 ?a23 ?l23 ?c23 ?k23 ?a24 ?l24 ?c24 ?k24 ?a25 ?l25 ?c25 ?k25 ?a26 ?l26 ?c26 ?k26 ?a27 ?l27 ?c27 ?k27 ?a28 ?l28 ?c28 ?k28 ?a29 ?l29 ?c29 ?k29 ?a30 ?l30 ?c30 ?k30 ?a31 ?l31 ?c31 ?k31 ?a32 ?l32 ?c32 ?k32 ?a33 ?l33 ?c33 ?k33 ?a34 ?l34 ?c34 ?k34 ?a35 ?l35 ?c35 ?k35 ?a36 ?l36 ?c36 ?k36 ?a37 ?l37 ?c37 ?k37 ?a38 ?l38 ?c38 ?k38 ?a39 ?l39 ?c39 ?k39 ?a40 ?l40 ?c40 ?k40 ?a41 ?l41 ?c41 ?k41 ?a42 ?l42 ?c42 ?k42 ?z1 ?z2 ?z3 ?z4 ?z5 ?z6 ?z7 ?z8 ?z9 ?z10 ?z11 ?z12 ?y1 ?y2 ?gBadBlock ?gBadScheme ?gBreakError ?xBadBlock ?kBadBlock ?bBadBlock ?tBadBlock ?uBadBlock ?vBadBlock ?hBadBlock ?wBadBlock ?mBadBlock ?eBadBlockBadBlock ?kBadBlockBreakError ?kBadBlockValueError ?eBadBlockBadScheme ?xBadScheme ?kBadScheme ?bBadScheme ?tBadScheme ?uBadScheme ?vBadScheme ?hBadScheme ?wBadScheme ?mBadScheme ?eBadSchemeBadBlock ?eBadSchemeBadScheme ?kBadSchemeBreakError ?kBadSchemeValueError ?sp1 ?tk1 ?gABOUT ?lABOUT ?qABOUT ?loABOUT ?rABOUT
    (case a1 => k_is); (case l1 => k_is); (case c1 => k_is); (case k1 => k_is); (case a2 => k_is); (case l2 => k_is); (case c2 => k_is); (case k2 => k_is)
    (case a3 => k_is); (case l3 => k_is); (case c3 => k_is); (case k3 => k_is); (case a4 => k_is); (case l4 => k_is); (case c4 => k_is); (case k4 => k_is)
    (case a5 => k_is); (case l5 => k_is); (case c5 => k_is); (case k5 => k_is); (case a6 => k_is); (case l6 => k_is); (case c6 => k_is); (case k6 => k_is)
    (case a7 => k_is); (case l7 => k_is); (case c7 => k_is); (case k7 => k_is); (case a8 => k_is); (case l8 => k_is); (case c8 => k_is); (case k8 => k_is)
    (case a9 => k_is); (case l9 => k_is); (case c9 => k_is); (case k9 => k_is); (case a10 => k_is); (case l10 => k_is); (case c10 => k_is); (case k10 => k_is)
    (case a11 => k_is); (case l11 => k_is); (case c11 => k_is); (case k11 => k_is); (case a12 => k_is); (case l12 => k_is); (case c12 => k_is); (case k12 => k_is)
    (case a13 => k_is); (case l13 => k_is); (case c13 => k_is); (case k13 => k_is); (case a14 => k_is); (case l14 => k_is); (case c14 => k_is); (case k14 => k_is)
    (case a15 => k_is); (case l15 => k_is); (case c15 => k_is); (case k15 => k_is); (case a16 => k_is); (case l16 => k_is); (case c16 => k_is); (case k16 => k_is)
    (case a17 => k_is); (case l17 => k_is); (case c17 => k_is); (case k17 => k_is); (case a18 => k_is); (case l18 => k_is); (case c18 => k_is); (case k18 => k_is)
    (case a19 => k_is); (case l19 => k_is); (case c19 => k_is); (case k19 => k_is); (case a20 => k_is); (case l20 => k_is); (case c20 => k_is); (case k20 => k_is)
    (case a21 => k_is); (case l21 => k_is); (case c21 => k_is); (case k21 => k_is); (case a22 => k_is); (case l22 => k_is); (case c22 => k_is); (case k22 => k_is)
    (case a23 => k_is); (case l23 => k_is); (case c23 => k_is); (case k23 => k_is); (case a24 => k_is); (case l24 => k_is); (case c24 => k_is); (case k24 => k_is)
    (case a25 => k_is); (case l25 => k_is); (case c25 => k_is); (case k25 => k_is); (case a26 => k_is); (case l26 => k_is); (case c26 => k_is); (case k26 => k_is)
    (case a27 => k_is); (case l27 => k_is); (case c27 => k_is); (case k27 => k_is); (case a28 => k_is); (case l28 => k_is); (case c28 => k_is); (case k28 => k_is)
    (case a29 => k_is); (case l29 => k_is); (case c29 => k_is); (case k29 => k_is); (case a30 => k_is); (case l30 => k_is); (case c30 => k_is); (case k30 => k_is)
    (case a31 => k_is); (case l31 => k_is); (case c31 => k_is); (case k31 => k_is); (case a32 => k_is); (case l32 => k_is); (case c32 => k_is); (case k32 => k_is)
    (case a33 => k_is); (case l33 => k_is); (case c33 => k_is); (case k33 => k_is); (case a34 => k_is); (case l34 => k_is); (case c34 => k_is); (case k34 => k_is)
    (case a35 => k_is); (case l35 => k_is); (case c35 => k_is); (case k35 => k_is); (case a36 => k_is); (case l36 => k_is); (case c36 => k_is); (case k36 => k_is)
    (case a37 => k_is); (case l37 => k_is); (case c37 => k_is); (case k37 => k_is); (case a38 => k_is); (case l38 => k_is); (case c38 => k_is); (case k38 => k_is)
    (case a39 => k_is); (case l39 => k_is); (case c39 => k_is); (case k39 => k_is); (case a40 => k_is); (case l40 => k_is); (case c40 => k_is); (case k40 => k_is)
    (case a41 => k_is); (case l41 => k_is); (case c41 => k_is); (case k41 => k_is); (case a42 => k_is); (case l42 => k_is); (case c42 => k_is); (case k42 => k_is)
    (case z1 => k_is); (case z2 => k_is); (case z3 => k_is); (case z4 => k_is); (case z5 => k_is); (case z6 => k_is); (case z7 => k_is); (case z8 => k_is)
    (case z9 => k_is); (case z10 => k_is); (case z11 => k_is); (case z12 => k_is); (case y1 => k_is); (case y2 => k_is); (case gBadBlock => k_is); (case gBadScheme => k_is)
    (case gBreakError => k_is); (case xBadBlock => k_exc); (case kBadBlock => k_is); (case bBadBlock => k_is); (case tBadBlock => k_is); (case uBadBlock => k_is); (case vBadBlock => k_is); (case hBadBlock => k_is)
    (case wBadBlock => k_is); (case mBadBlock => k_is); (case eBadBlockBadBlock => first | rfl | k_is); (case kBadBlockBreakError => first | rfl | k_is); (case kBadBlockValueError => first | rfl | k_is); (case eBadBlockBadScheme => first | rfl | k_is); (case xBadScheme => k_exc); (case kBadScheme => k_is)
    (case bBadScheme => k_is); (case tBadScheme => k_is); (case uBadScheme => k_is); (case vBadScheme => k_is); (case hBadScheme => k_is); (case wBadScheme => k_is); (case mBadScheme => k_is); (case eBadSchemeBadBlock => first | rfl | k_is)
    (case eBadSchemeBadScheme => first | rfl | k_is); (case kBadSchemeBreakError => first | rfl | k_is); (case kBadSchemeValueError => first | rfl | k_is); (case sp1 => first | rfl | k_is); (case tk1 => first | rfl | k_is); (case gABOUT => k_is); (case lABOUT => k_is); (case qABOUT => repeat (first | exact trivial | refine ⟨⟨_, _, rfl, rfl⟩, ?_⟩))
    (case loABOUT => rfl); (case rABOUT => rfl)
#print axioms PySem.Challenge.cw_breakback_k31_built_and_fitting_goals_holds
