
import PyProof.Rows.All
import Wide.All
import OpenK.AllK
import Wide.FinOn
import HandS.ForMost
import HandS.Codes
import HandS.StrMore
import HandS.Defaults
import HandS.IntHex
import HandS.IsInst
import HandS.TupAny
import HandS.TupMul
import PyProof.FString3
import PyProof.Rows.StrIntSpec
import PyProof.StrOps2
import KE.IntText
import KE.KIntText
import KE.IntTextLaws
import HandS.Exc
import HandS.ExcOwn
import HandS.TryOnly
import HandS.TryMany
import HandS.ExcIs
import HandS.WordsExc
import HandS.ForExc

import HandS.Zip
import HandS.Walk
import HandS.CallLocal
import HandS.More
import PySem.Challenge.RW_breakback_k08_the_most_asks
set_option Elab.async false
set_option linter.all false
set_option maxRecDepth 100000
set_option maxHeartbeats 4000000
namespace My
open PySem PySem.Spec PyProof.Rows L2
theorem snocInd {α : Type} {P : List α → Prop} (h0 : P []) (h1 : ∀ l a, P l → P (l ++ [a])) (l : List α) : P l := by
  have h : ∀ (n : Nat) (l : List α), l.length = n → P l := by
    intro n
    induction n with
    | zero =>
      intro l e
      rw [List.eq_nil_of_length_eq_zero e]
      exact h0
    | succ n ih =>
      intro l e
      have hn : l ≠ [] := fun z => by
        rw [z] at e
        cases e
      rw [← List.dropLast_concat_getLast hn]
      exact h1 _ _ (ih _ (by rw [List.length_dropLast, e]; rfl))
  exact h _ l rfl
/-! ### strings of bits -/
def cB (b : Bool) : Nat := if b then 49 else 48
def sb (bs : List Bool) : Str := SX.S (bs.map cB)
def toB : Nat → Nat → List Bool
  | 0, _ => []
  | n + 1, k => toB n (k / 2) ++ [k % 2 == 1]
def bit (b : Bool) : Nat := if b then 1 else 0
def val (bs : List Bool) : Nat := bs.foldl (fun a b => 2 * a + bit b) 0
theorem toB_len : ∀ n k, (toB n k).length = n
  | 0, _ => rfl
  | n + 1, k => by
    show (toB n (k / 2) ++ [k % 2 == 1]).length = n + 1
    rw [List.length_append, toB_len n]
    rfl
theorem sb_len (bs : List Bool) : (sb bs).length = bs.length := by
  unfold sb
  rw [SX.S_len, List.length_map]
theorem cB_inj {a b : Bool} (h : cB a = cB b) : a = b := by
  cases a <;> cases b <;> first | rfl | (exact absurd h (by decide))
theorem map_cB_inj : ∀ {l m : List Bool}, l.map cB = m.map cB → l = m
  | [], [], _ => rfl
  | [], _ :: _, h => by simp at h
  | _ :: _, [], h => by simp at h
  | a :: l, b :: m, h => by
    rw [List.map_cons, List.map_cons] at h
    injection h with h1 h2
    rw [cB_inj h1, map_cB_inj h2]
theorem sb_inj {l m : List Bool} (h : sb l = sb m) : l = m := map_cB_inj (SX.S_inj h)
theorem sb_cat (l m : List Bool) : sb l ++ sb m = sb (l ++ m) := by
  unfold sb
  rw [SX.S_cat, List.map_append]
theorem val_snoc (l : List Bool) (b : Bool) : val (l ++ [b]) = 2 * val l + bit b := by
  unfold val
  rw [List.foldl_append]
  rfl
theorem bit_lt (b : Bool) : bit b < 2 := by cases b <;> decide
theorem toB_val (bs : List Bool) : toB bs.length (val bs) = bs := by
  induction bs using snocInd with
  | h0 => rfl
  | h1 l b ih =>
    rw [List.length_append, val_snoc]
    show toB (l.length + 1) _ = _
    show toB l.length ((2 * val l + bit b) / 2) ++ [(2 * val l + bit b) % 2 == 1] = l ++ [b]
    have h := bit_lt b
    rw [show (2 * val l + bit b) / 2 = val l by omega, ih, show (2 * val l + bit b) % 2 = bit b by omega]
    cases b <;> rfl
theorem val_lt (bs : List Bool) : val bs < 2 ^ bs.length := by
  induction bs using snocInd with
  | h0 => exact Nat.one_pos
  | h1 l b ih =>
    rw [List.length_append, val_snoc]
    show _ < 2 ^ (l.length + 1)
    have h := bit_lt b
    rw [Nat.pow_succ]
    omega
theorem val_toB : ∀ (n k : Nat), k < 2 ^ n → val (toB n k) = k
  | 0, k, h => by
    have e : k = 0 := by
      have : k < 1 := h
      omega
    subst e
    rfl
  | n + 1, k, h => by
    show val (toB n (k / 2) ++ [k % 2 == 1]) = k
    rw [Nat.pow_succ] at h
    rw [val_snoc, val_toB n (k / 2) (by omega)]
    have e : bit (k % 2 == 1) = k % 2 := by
      rcases Nat.mod_two_eq_zero_or_one k with z | z <;> rw [z] <;> rfl
    rw [e]
    omega
theorem toB_zero (n : Nat) : toB n 0 = List.replicate n false := by
  induction n with
  | zero => rfl
  | succ n ih =>
    show toB n 0 ++ [false] = _
    rw [ih, List.replicate_succ']
/-! ### two strings place by place -/
theorem toB_xor : ∀ (n a b : Nat), toB n (a ^^^ b) = List.zipWith (fun x y => x != y) (toB n a) (toB n b)
  | 0, _, _ => rfl
  | n + 1, a, b => by
    show toB n ((a ^^^ b) / 2) ++ [(a ^^^ b) % 2 == 1] = List.zipWith (fun x y => x != y) (toB n (a / 2) ++ [a % 2 == 1]) (toB n (b / 2) ++ [b % 2 == 1])
    rw [List.zipWith_append (by rw [toB_len, toB_len]), Nat.xor_div_two, toB_xor n]
    congr 1
    have e : (a ^^^ b) % 2 = (a % 2) ^^^ (b % 2) := by
      have h := Nat.xor_mod_two_pow (a := a) (b := b) (n := 1)
      rw [Nat.pow_one] at h
      exact h
    rw [e]
    rcases Nat.mod_two_eq_zero_or_one a with z | z <;> rcases Nat.mod_two_eq_zero_or_one b with y | y <;> rw [z, y] <;> rfl
theorem toB_and : ∀ (n a b : Nat), toB n (a &&& b) = List.zipWith (fun x y => x && y) (toB n a) (toB n b)
  | 0, _, _ => rfl
  | n + 1, a, b => by
    show toB n ((a &&& b) / 2) ++ [(a &&& b) % 2 == 1] = List.zipWith (fun x y => x && y) (toB n (a / 2) ++ [a % 2 == 1]) (toB n (b / 2) ++ [b % 2 == 1])
    rw [List.zipWith_append (by rw [toB_len, toB_len]), Nat.and_div_two, toB_and n]
    congr 1
    have e : (a &&& b) % 2 = (a % 2) * (b % 2) := by
      have h := Nat.and_mod_two_pow (a := a) (b := b) (n := 1)
      rw [Nat.pow_one] at h
      rw [h]
      rcases Nat.mod_two_eq_zero_or_one a with z | z <;> rcases Nat.mod_two_eq_zero_or_one b with y | y <;> rw [z, y] <;> rfl
    rw [e]
    rcases Nat.mod_two_eq_zero_or_one a with z | z <;> rcases Nat.mod_two_eq_zero_or_one b with y | y <;> rw [z, y] <;> rfl
/-! ### the digits that Python writes -/
def dig (k : Nat) : List Nat := (Nat.toDigits 2 k).map Char.toNat
theorem dig_lt {k : Nat} (h : k < 2) : dig k = [cB (k == 1)] := by
  unfold dig
  rw [Nat.toDigits_of_lt_base h]
  have : k = 0 ∨ k = 1 := by omega
  rcases this with e | e <;> subst e <;> rfl
theorem dig_ge {k : Nat} (h : 2 ≤ k) : dig k = dig (k / 2) ++ [cB (k % 2 == 1)] := by
  unfold dig
  rw [Nat.toDigits_of_base_le (by decide) h, List.map_append]
  congr 1
  rcases Nat.mod_two_eq_zero_or_one k with z | z <;> rw [z] <;> rfl
theorem dig_toB : ∀ (n k : Nat), k < 2 ^ (n + 1) → ∃ p, (toB (n + 1) k).map cB = List.replicate p 48 ++ dig k
  | 0, k, h => by
    have hk : k < 2 := h
    refine ⟨0, ?_⟩
    rw [dig_lt hk]
    show [cB (k % 2 == 1)] = [cB (k == 1)]
    rw [Nat.mod_eq_of_lt hk]
  | n + 1, k, h => by
    show ∃ p, (toB (n + 1) (k / 2) ++ [k % 2 == 1]).map cB = _
    rw [List.map_append]
    by_cases hk : k < 2
    · refine ⟨n + 1, ?_⟩
      rw [dig_lt hk, show k / 2 = 0 by omega, toB_zero, List.map_replicate, Nat.mod_eq_of_lt hk]
      rfl
    · have h' : k < 2 ^ (n + 1) * 2 := by
        rw [← Nat.pow_succ]
        exact h
      obtain ⟨p, e⟩ := dig_toB n (k / 2) (by omega)
      refine ⟨p, ?_⟩
      rw [e, dig_ge (k := k) (by omega), List.append_assoc]
      rfl
theorem dig_len_pos (k : Nat) : 0 < (dig k).length := by
  unfold dig
  rw [List.length_map]
  exact Nat.length_toDigits_pos
theorem dig_head (k : Nat) : ∃ c r, dig k = c :: r ∧ (c = 48 ∨ c = 49) := by
  induction k using Nat.strongRecOn with
  | _ k ih =>
    by_cases hk : k < 2
    · rw [dig_lt hk]
      exact ⟨_, _, rfl, by cases (k == 1) <;> decide⟩
    · obtain ⟨c, r, e, h⟩ := ih (k / 2) (by omega)
      rw [dig_ge (by omega), e]
      exact ⟨c, r ++ [_], rfl, h⟩
theorem zfill_dig (n k : Nat) (h : k < 2 ^ (n + 1)) : Txt.zfill (SX.S (dig k)) ((n + 1 : Nat) : Int) = sb (toB (n + 1) k) := by
  obtain ⟨p, e⟩ := dig_toB n k h
  have hl : n + 1 = p + (dig k).length := by
    have := congrArg List.length e
    rw [List.length_map, toB_len, List.length_append, List.length_replicate] at this
    exact this
  unfold sb
  rw [e]
  unfold Txt.zfill
  rw [SX.S_len]
  by_cases hp : p = 0
  · subst hp
    rw [if_pos (by omega)]
    rfl
  · rw [if_neg (by omega)]
    obtain ⟨c, r, ed, hc⟩ := dig_head k
    have hm : ((n + 1 : Nat) : Int).toNat - (dig k).length = p := by omega
    rw [hm]
    unfold zfilled
    rw [ed]
    rcases hc with rfl | rfl
    · show Builtin.Str.padded _ p 0 48 = _
      refine TL.ext_tl ?_
      simp [Builtin.Str.padded, TL.tl, SX.S]
    · show Builtin.Str.padded _ p 0 48 = _
      refine TL.ext_tl ?_
      simp [Builtin.Str.padded, TL.tl, SX.S]
section
open Builtin Builtin.Str Builtin.Int Builtin.Float
theorem ite_n {c : Prop} [Decidable c] {X Y : Prop} (hc : ¬ c) (h : Y) : if c then X else Y := by
  rw [if_neg hc]
  exact h
theorem ite_y {c : Prop} [Decidable c] {X Y : Prop} (hc : c) (h : X) : if c then X else Y := by
  rw [if_pos hc]
  exact h
/-- the text of the bits of n, as the format "b" makes it -/
theorem field_b (l : List Nat) (hl : l ≠ []) : intField' { fill := 32, align := 62, type := some 98 } false [] l [] 4 = ⟨l.toArray⟩ := by
  unfold intField'
  have h0 : l.isEmpty = false := by
    cases l with
    | nil => exact absurd rfl hl
    | cons a r => rfl
  simp [h0]
theorem wp_eq {α : Type} {M : Model} {A : Around} {t t' : Sem α} {Q : α → Shared → Prop} {E : Value → Shared → Prop} {s : Shared} (e : t = t') (h : wpAny M A t' Q E s) : wpAny M A t Q E s := by
  rw [e]
  exact h
set_option maxHeartbeats 1000000 in
theorem gives_fmtB {spec : PySem.Str} (n : Nat) (t u : Tok) (hz : (Nat.toDigits 2 n).length ≤ sizeLine)
    (hp : parseFormatSpec spec.cps.toList "int" 62 = .ok { fill := 32, align := 62, type := some 98 }) (hne : (spec.length == 0) = false)
    (hasc : ((spec.cps.toList.drop 1).any (· ≥ 128) || (spec.cps.getD 0 0 ≥ 128 && !([60, 62, 61, 94] : List Nat).contains (spec.cps.getD 1 0))) = false) :
    Gives («int.__format__» ⟨[.int (n : Int) t, .str spec u], []⟩) (.str ⟨((Nat.toDigits 2 n).map Char.toNat).toArray⟩) := by
  intro prog w A R s hq
  unfold Builtin.«int.__format__»
  simp only [selfAndOne, noKeywords, Int.intOfSelf, asInt?, asStr?, List.isEmpty_nil, if_true, pure_bind, bind_pure, bind_assoc, hne, hasc, Bool.false_eq_true, if_false,
    show (Value.str spec u == Value.none) = false from rfl]
  refine wpAny_bind (wpAny_typeNameOf (T := "str") (typeIs_str _ _ _) (by decide) fun _ => ?_)
  refine wpAny_bind (wpAny_typeNameOfCut_int ?_)
  simp only [hp, Option.getD_some]
  refine wpAny_ite (ite_y (by decide) ?_)
  refine wp_eq (t' := retStr (intField' { fill := 32, align := 62, type := some 98 } (decide ((n : Int) < 0)) [] ((Nat.toDigits 2 n).map fun c => (if (98 : Nat) == 88 then c.toUpper else c).toNat) [] 4)) (by kernel_rfl) ?_
  rw [show decide ((n : Int) < 0) = false from decide_eq_false (by omega), field_b _ (by
    have := Nat.length_toDigits_pos (b := 2) (n := n)
    intro z
    rw [List.map_eq_nil_iff] at z
    rw [z] at this
    exact absurd this (by decide))]
  refine wpAny_bind (wpAny_mkStr (wpAny_pure hq.2) ?_)
  show (List.toArray _).size ≤ _
  rw [List.size_toArray, List.length_map]
  exact hz
end
/-! ### a text times an int -/
theorem foldl_app (x : Array Nat) : ∀ (n : Nat) (acc : Array Nat), ((List.replicate n x).foldl (· ++ ·) acc).toList = acc.toList ++ (List.replicate n x.toList).flatten
  | 0, acc => by simp
  | n + 1, acc => by
    rw [List.replicate_succ, List.foldl_cons, foldl_app x n, List.replicate_succ, List.flatten_cons, Array.toList_append, List.append_assoc]
def rRepS : R2 := fun x y H Q => ∃ (l : List Nat) (k : Int), x = .str (SX.S l) ∧ y = .int k ∧ (0 ≤ k ∧ l.length * k.toNat ≤ 16777216 ∧ k ≤ 16777216) ∧ Q (.str (SX.S (List.replicate k.toNat l).flatten)) H
theorem op_repS {X : Cx} : OpR X (binaryOp .Mult) rRepS := by
  intro pins s σ H x y v u Q I rx ry h
  obtain ⟨l, k, rfl, rfl, ⟨h0, hz, hk⟩, q⟩ := h
  obtain ⟨t, rfl⟩ := rx
  obtain ⟨t', rfl⟩ := ry
  have hs : sizeLine = 16777216 := sizeLine_eq
  refine PySem.P.mul_str ?_ (fun h1 _ => ?_) (fun _ _ => ?_) ?_
  · rw [decide_eq_false (by omega), decide_eq_false (by omega)]
    rfl
  · rw [SX.S_len]
    have hp : 0 < k := by omega
    have : (l.length : Int) * k ≤ 16777216 := by
      have e : ((l.length * k.toNat : Nat) : Int) = (l.length : Int) * k := by
        rw [Int.natCast_mul, Int.toNat_of_nonneg h0]
      omega
    have := (Int.le_ediv_iff_mul_le hp (a := (l.length : Int)) (b := 2 ^ 63 - 1)).mpr (by omega)
    omega
  · rw [SX.S_len]
    unfold Builtin.Str.tooLong
    rw [sizeLine_eq]
    exact decide_eq_false (by omega)
  · by_cases h1 : k < 1
    · rw [if_pos h1]
      have e : k = 0 := by omega
      subst e
      exact ⟨by decide, .str (SX.S []), H, I.tok _, ⟨_, rfl⟩, q⟩
    · rw [if_neg h1]
      by_cases h2 : (k == 1 || (SX.S l).length == 0) = true
      · rw [if_pos h2]
        have e : (List.replicate k.toNat l).flatten = l := by
          rw [Bool.or_eq_true, beq_iff_eq, beq_iff_eq, SX.S_len] at h2
          rcases h2 with e | e
          · subst e
            simp
          · rw [List.eq_nil_of_length_eq_zero e]
            simp
        rw [e] at q
        exact ⟨.str (SX.S l), H, I, ⟨t, rfl⟩, q⟩
      · rw [if_neg h2]
        have e : (⟨(List.replicate k.toNat (SX.S l).cps).foldl (· ++ ·) #[]⟩ : Str) = SX.S (List.replicate k.toNat l).flatten := by
          refine TL.ext_tl ?_
          show (List.foldl (· ++ ·) (#[] : Array Nat) (List.replicate k.toNat l.toArray)).toList = _
          rw [foldl_app]
          rfl
        rw [e]
        refine ⟨?_, .str _, H, I.tok _, ⟨_, rfl⟩, q⟩
        rw [SX.S_len, List.length_flatten, List.map_replicate, List.sum_replicate_nat, hs]
        rw [Nat.mul_comm]
        exact hz
/-! ### f(k = v, ..): keywords alone -/
theorem pe_callN0 {X : Cx} {CX : CXT} {k : Nat} {f : Addr} {fd : FuncData} {ps ks : List Str} {sp : Sp} {E : XK} {x : Str} {p pos : Pos} {kws : List Keyword} {tk : TA} {g : List Value → List Value → List Value} {gV : List V → List V → List V}
    (F : FnOk X.prog X.w X.K X.mg X.base CX k f fd ps sp) (hr : Room k X.A) (hg : Gl X x) (hm : X.mg x = some (.ref f)) (hk : PySem.W.keepIn X.K (.ref f) = true) (hb : KBn X.K fd ps 0 ks g gV) (hx : Passes CX X E)
    (hkw : PK X kws tk) (hall : (backToKw pos (keywordEach kws X.env)).all (·.1.isSome) = true := by rfl) (hks : (backToKw pos (keywordEach kws X.env)).filterMap (·.1) = ks := by rfl)
    (hdb : (x == ("__debug__" : Str)) = false := by decide)
    (hpl : ((backTo pos (starEach [] X.env)).any (·.1) || (backToKw pos (keywordEach kws X.env)).any (·.1.isNone)) = false := by rfl) :
    PE X (.Call (.Name x p) [] kws pos) (tCallN 0 ks.length sp gV E tNil tk) := by
  refine ⟨fun pins s σ H Q I h => ?_⟩
  refine wpAny_Call_Name_kw (ld_glob I hg hm ?_ hdb)
  refine PySem.W.callWith_KW0 (h₀ := X.base) I.ok.mod.kin hk hall ?_ hpl
  refine thn (hkw.run pos pins s σ H _ I h) fun ws s2 ⟨zs, H2, I2, rz, l1, l2, q2⟩ => ⟨I2.kIn, ?_⟩
  rw [hks]
  exact run_fnN (us := []) (vs := []) F hr hb hx I2 .nil rz rfl l2 q2
/-! ### int(t, 2) -/
namespace Two
open PySem.NumText PySem.Calls
def Bin (c : Nat) : Prop := c = 48 ∨ c = 49
def num (l : List Nat) : Nat := l.foldl (fun a c => a * 2 + (c - 48)) 0
theorem Bin.plain {c : Nat} (h : Bin c) : c ≠ 95 ∧ c ≠ 0 ∧ c < 128 ∧ 33 ≤ c ∧ c ≠ 32 ∧ c ≠ 43 ∧ c ≠ 45 := by
  rcases h with e | e <;> subst e <;> decide
theorem one {ds : Array Nat} {b : Bool} {c : Nat} (h : Bin c) : PySem.NumText.step 2 (ds, b) c = some (ds.push (c - 48), true) := by
  rcases h with e | e <;> subst e <;> rfl
theorem more : ∀ (cs : List Nat) (ds : Array Nat), (∀ c ∈ cs, Bin c) → cs.foldlM (PySem.NumText.step 2) (ds, true) = some ((ds.toList ++ cs.map (· - 48)).toArray, true)
  | [], ds, _ => by simp
  | c :: cs, ds, h => by
    rw [List.foldlM_cons, one (h c (List.mem_cons_self ..))]
    refine (more cs (ds.push (c - 48)) fun d hd => h d (List.mem_cons_of_mem _ hd)).trans ?_
    simp
theorem all {cs : List Nat} (h : ∀ c ∈ cs, Bin c) (hne : cs ≠ []) : digits? 2 cs = some (cs.map (· - 48)).toArray := by
  cases cs with
  | nil => exact absurd rfl hne
  | cons c cs =>
    have e : List.foldlM (PySem.NumText.step 2) ((#[] : Array Nat), false) (c :: cs) = some (((c :: cs).map (· - 48)).toArray, true) := by
      rw [List.foldlM_cons, one (h c (List.mem_cons_self ..))]
      refine (more cs (#[].push (c - 48)) fun d hd => h d (List.mem_cons_of_mem _ hd)).trans ?_
      simp
    unfold digits?
    rw [e]
    rfl
theorem worth (l : List Nat) : (l.map (· - 48)).toArray.foldl (fun acc d => acc * 2 + d) 0 = num l := by
  rw [← Array.foldl_toList]
  unfold num
  rw [List.foldl_map]
theorem noBlank {cs : List Nat} (h : ∀ c ∈ cs, Bin c) : cs.dropWhile blank = cs := by
  cases cs with
  | nil => rfl
  | cons c cs =>
    have := (h c (List.mem_cons_self ..)).plain
    exact dropWhile_of (by omega)
theorem noSign {cs : List Nat} (h : ∀ c ∈ cs, Bin c) : sign cs = (false, cs) := by
  cases cs with
  | nil => rfl
  | cons c cs =>
    have := (h c (List.mem_cons_self ..)).plain
    exact sign_of (by omega) (by omega)
theorem noPre {cs : List Nat} (h : ∀ c ∈ cs, Bin c) : based 2 cs = (2, false, cs) := by
  match cs, h with
  | [], _ => rfl
  | [a], h =>
    rcases h a (List.mem_cons_self ..) with e | e <;> subst e <;> rfl
  | a :: c :: r, h =>
    rcases h a (List.mem_cons_self ..) with e | e <;> subst e <;>
      rcases h c (List.mem_cons_of_mem _ (List.mem_cons_self ..)) with e | e <;> subst e <;> rfl
theorem read {cs : List Nat} (h : ∀ c ∈ cs, Bin c) (hne : cs ≠ []) : (int_private% "readNumeral") 0 2 cs = (int_private% "Numeral.value") ((num cs : Nat) : Int) := by
  have hb : based 2 cs = (2, false, cs) := noPre h
  have hr : ∀ c ∈ cs.reverse, Bin c := fun c hc => h c (List.mem_reverse.mp hc)
  rw [readNumeral_eq 0 2 cs, noBlank h, noSign h]
  show judge 0 false (based 2 cs).1 (based 2 cs).2.1 (digits? (based 2 cs).1 (((based 2 cs).2.2.reverse.dropWhile blank).reverse)) = _
  rw [hb]
  show judge 0 false 2 false (digits? 2 ((cs.reverse.dropWhile blank).reverse)) = _
  rw [noBlank hr, List.reverse_reverse, all h hne]
  show (int_private% "Numeral.value") (((cs.map (· - 48)).toArray.foldl (fun acc d => acc * 2 + d) 0 : Nat) : Int) = _
  rw [worth]
theorem seen {x : Str} (h : ∀ c ∈ x.cps.toList, Bin c) : numTextOf x = x.cps.toList ∧ numSeenOf x = x.cps.toList := by
  have e1 : numTextOf x = x.cps.toList := if_pos (by
    rw [← Array.all_toList, List.all_eq_true]
    exact fun c hc => decide_eq_true (h c hc).plain.2.2.1)
  refine ⟨e1, ?_⟩
  show List.takeWhile _ (numTextOf x) = _
  rw [e1]
  exact takeWhile_all fun c hc => bne_iff_ne.mpr (h c hc).plain.2.1
set_option maxHeartbeats 4000000 in
theorem gives {x : PySem.Str} {u t : Tok} (hl : x.length ≤ 640) (h : ∀ c ∈ x.cps.toList, Bin c) (hne : x.cps.toList ≠ []) :
    Gives (Builtin.«int.__new__» ⟨[.type "int", .str x u, .int 2 t], []⟩) (.int ((num x.cps.toList : Nat) : Int)) :=
  .of_wp fun M A E s Q hQ => by
    obtain ⟨hp, g, d, tk, os⟩ := s
    have f1 := F.conv_sub_int
    have f2 := F.madeHere_int
    have f6 : typeOf (.str x u) = pure (.type "str") := rfl
    obtain ⟨e1, e2⟩ := seen h
    have hk : Hx.Hid ((numSeenOf x).length ≤ 640 ∧ (int_private% "readNumeral") 0 2 (numSeenOf x) = (int_private% "Numeral.value") ((num x.cps.toList : Nat) : Int) ∧ ((numSeenOf x).length == (numTextOf x).length) = true) := by
      refine ⟨?_, ?_, ?_⟩
      · rw [e2, Array.length_toList]
        exact hl
      · rw [e2]
        exact read h hne
      · rw [e1, e2]
        exact beq_self_eq_true _
    clear e1 e2 hl hne h
    repeat (any_goals (first
      | assumption
      | ((with_reducible show wpAny _ _ ((int_private% "intFromText") _ _ _) _ _ _); refine Hx.wp_textB hk.out.1 hk.out.2.1 hk.out.2.2 ?_)
      | wp_step))
    all_goals (try exact ⟨_, rfl, hQ⟩)
end Two
def rIntBin : List V → Hp → VK → Prop := fun xs H Q => ∃ l : List Nat, xs = [.str (SX.S l), .int 2] ∧ (l ≠ [] ∧ l.length ≤ 640 ∧ ∀ c ∈ l, Two.Bin c) ∧ Q (.int ((Two.num l : Nat) : Int)) H
theorem call_int_bin {X : Cx} : CallR X (.type "int") rIntBin := by
  intro pins s σ H xs us Q I r h
  obtain ⟨l, rfl, ⟨hne, hl, hx⟩, q⟩ := h
  obtain ⟨u, w', rfl, ⟨t1, rfl⟩, ⟨t2, rfl⟩⟩ := vals2 r
  exact callType_new F.called_int F.newNe_int (Hx.typeCall_int_2 _ _) (Hx.newCall_int_2 _ _) (fun obj => F.initArgs_range_2 obj _ _) F.entry_int_new
    (Two.gives (x := SX.S l) (u := t1) (t := t2) (by rw [SX.S_len]; exact hl) hx hne).meets (show (Made.int ((Two.num l : Nat) : Int)).post _ s from ⟨rfl, .int ((Two.num l : Nat) : Int), H, I.tok _, ⟨_, rfl⟩, q⟩)
/-! ### f"{n:b}" -/
def tFmtB (te : TE) : TE := fun σ H Q => te σ H fun x H1 => ∃ n : Nat, x = .int (n : Int) ∧ (dig n).length ≤ 16777216 ∧ Q (.str (SX.S (dig n))) H1
theorem spec_b : Builtin.Float.parseFormatSpec (Str.ofString "b").cps.toList "int" 62 = .ok { fill := 32, align := 62, type := some 98 } := by kernel_rfl
theorem pe_fmtB {X : Cx} {e : Expr} {te : TE} {j : Nat} {p1 p2 p3 p4 : Pos} (he : PE X e te) : PE X (.JoinedStr [.FormattedValue e (-1) (some (.JoinedStr [.Constant (.str "b") j p1] p2)) p3] p4) (tFmtB te) := by
  refine ⟨fun pins s σ H Q I h => ?_⟩
  refine wpAny_JoinedStr_one (wpAny_FormattedValue_spec (thn (he.run pins s σ H _ I h) fun v s1 hv => ?_))
  obtain ⟨x, H1, I1, r1, n, rfl, hz, q⟩ := hv
  obtain ⟨t, rfl⟩ := r1
  refine wpAny_JoinedStr_one (thn ((pe_str (X := X) (x := "b") (j := j) (pos := p1)).run pins s1 σ H1 (fun v H2 => v = .str "b" ∧ H2 = H1) I1 ⟨rfl, rfl⟩) fun v s2 hv => ?_)
  obtain ⟨x, H2, I2, r2, rfl, rfl⟩ := hv
  obtain ⟨t2, rfl⟩ := r2
  have hd : (Nat.toDigits 2 n).length ≤ sizeLine := by
    have h := hz
    unfold dig at h
    rw [List.length_map] at h
    rw [sizeLine_eq]
    exact h
  refine ⟨_, t2, rfl, wpAny_formatField_spec (by decide) (fun s' => typeIs_int s' _ t) F.slot_int_format F.entry_int_format F.args_int_format_2 (fun u => gives_fmtB n t u hd spec_b (by decide) (by decide)) ⟨.str (SX.S (dig n)), _, I2.tok _, ⟨_, rfl⟩, q⟩ (by decide) ?_⟩
  show (List.toArray _).size ≤ _
  rw [List.size_toArray, List.length_map]
  exact hd
/-! ### a def under its name, with its promise -/
structure Df (K : PySem.W.Frag) (mg : Str → Option Value) (x : Str) (st : Stmt) (ps : List Str) (f : Addr) (fd : FuncData) : Prop where
  fn : Fun K x x st f fd
  bi : Binds K fd ps []
  gl : mg x = some (.ref f)
structure Cl (P : Program) (w : World) (K : PySem.W.Frag) (mg : Str → Option Value) (base : Heap) (CX : CXT) (k : Nat) (x : Str) (sp : Sp) : Prop where
  ex : ∃ (f : Addr) (fd : FuncData) (ps : List Str), FnOk P w K mg base CX k f fd ps sp ∧ mg x = some (.ref f) ∧ PySem.W.keepIn K (.ref f) = true ∧ Binds K fd ps []
structure Ck (P : Program) (w : World) (K : PySem.W.Frag) (mg : Str → Option Value) (base : Heap) (CX : CXT) (k n : Nat) (x : Str) (ks : List Str) (gV : List V → List V → List V) (sp : Sp) : Prop where
  ex : ∃ (f : Addr) (fd : FuncData) (ps : List Str) (g : List Value → List Value → List Value), FnOk P w K mg base CX k f fd ps sp ∧ mg x = some (.ref f) ∧ PySem.W.keepIn K (.ref f) = true ∧ KBn K fd ps n ks g gV
section
variable {P : Program} {w : World} {K : PySem.W.Frag} {mg : Str → Option Value} {base : Heap} {CX : CXT} {k j : Nat} {x : Str} {sp : Sp}
theorem Df.cl {st : Stmt} {ps : List Str} {f : Addr} {fd : FuncData} (D : Df K mg x st ps f fd) (h : FnOk P w K mg base CX k f fd ps sp) : Cl P w K mg base CX k x sp := ⟨f, fd, ps, h, D.gl, D.fn.kp, D.bi⟩
theorem pe_cl {X : Cx} {p pos : Pos} {e : Expr} {es : List Expr} {t : TA} (c : Cl X.prog X.w X.K X.mg X.base CX0 k x sp) (hr : Room j X.A) (hk : k ≤ j) (hg : Gl X x) (ha : PA X (e :: es) t)
    (hdb : (x == ("__debug__" : Str)) = false := by decide) (he : starEach (e :: es) X.env = (false, eval e X.env) :: starEach es X.env := by rfl) (hpl : (backTo pos (starEach es X.env)).any (·.1) = false := by rfl) :
    PE X (.Call (.Name x p) (e :: es) [] pos) (tCall sp [] E0 t) := by
  obtain ⟨f, fd, ps, F, hm, kp, b⟩ := c.ex
  exact pe_call F (hr.mono hk) hg hm kp b .nil pass0 ha hdb he hpl
theorem pe_ck0 {X : Cx} {p pos : Pos} {kws : List Keyword} {tk : TA} {ks : List Str} {gV : List V → List V → List V} (c : Ck X.prog X.w X.K X.mg X.base CX0 k 0 x ks gV sp) (hr : Room j X.A) (hk : k ≤ j) (hg : Gl X x) (hkw : PK X kws tk)
    (hall : (backToKw pos (keywordEach kws X.env)).all (·.1.isSome) = true := by rfl) (hks : (backToKw pos (keywordEach kws X.env)).filterMap (·.1) = ks := by rfl)
    (hdb : (x == ("__debug__" : Str)) = false := by decide)
    (hpl : ((backTo pos (starEach [] X.env)).any (·.1) || (backToKw pos (keywordEach kws X.env)).any (·.1.isNone)) = false := by rfl) :
    PE X (.Call (.Name x p) [] kws pos) (tCallN 0 ks.length sp gV E0 tNil tk) := by
  obtain ⟨f, fd, ps, g, F, hm, kp, b⟩ := c.ex
  exact pe_callN0 F (hr.mono hk) hg hm kp b pass0 hkw hall hks hdb hpl
end
/-! ### rules that speak of the written part, K named (a comprehension's block asks it so) -/
section
variable {X : Cx}
theorem ixL (K : PySem.W.Frag) (h : X.K = K := by rfl) : IxR X (rIxL K) := by
  subst h
  exact ix_list
theorem ixT (K : PySem.W.Frag) (h : X.K = K := by rfl) : IxR X (rIxT K) := by
  subst h
  exact ix_tup
def rLenS (K : PySem.W.Frag) : List V → Hp → VK → Prop := fun xs H Q => ∃ p ys, xs = [.ref p] ∧ (SqL K H p ys ∨ SqT K H p ys) ∧ Q (.int (ys.length : Nat)) H
theorem lenS (K : PySem.W.Frag) (h : X.K = K := by rfl) : CallR X (.builtin "len") (rLenS K) := by
  subst h
  exact call_len_seq
def rListOf (K : PySem.W.Frag) : List V → Hp → VK → Prop := fun xs H Q => ∃ p ys, xs = [.ref p] ∧ (SqL K H p ys ∨ SqT K H p ys) ∧ ∀ l, H l = none → Q (.ref l) (upd H l (.lst ys))
theorem listOf (K : PySem.W.Frag) (h : X.K = K := by rfl) : CallR X (.type "list") (rListOf K) := by
  subst h
  exact call_list_of
def rTupOf (K : PySem.W.Frag) : List V → Hp → VK → Prop := fun xs H Q => ∃ p ys, xs = [.ref p] ∧ ((SqL K H p ys ∧ ∀ l, H l = none → Q (.ref l) (upd H l (.tup ys))) ∨ (SqT K H p ys ∧ Q (.ref p) H))
theorem tupOf (K : PySem.W.Frag) (h : X.K = K := by rfl) : CallR X (.type "tuple") (rTupOf K) := by
  subst h
  exact call_tuple_of
theorem crSum (K : PySem.W.Frag) (hc : X.calm = true) (h : X.K = K := by rfl) : CallR X (.builtin "sum") (rSum K) := by
  subst h
  exact cr_sum hc
theorem crAll (K : PySem.W.Frag) (hc : X.calm = true) (h : X.K = K := by rfl) : CallR X (.builtin "all") (rAll K) := by
  subst h
  exact cr_all hc
theorem isiK (K : PySem.W.Frag) (h : X.K = K := by rfl) : CallR X (.builtin "isinstance") (rIsi K) := by
  subst h
  exact call_isi
theorem opCatA (K : PySem.W.Frag) (h : X.K = K := by rfl) : OpR X (binaryOp .Add) (rCatA K) := by
  subst h
  exact op_catA
theorem slL (K : PySem.W.Frag) (h : X.K = K := by rfl) : SlR X (rSlL K) := by
  subst h
  exact sl_list
def rJoin (K : PySem.W.Frag) : V → List V → Hp → VK → Prop := fun x xs H Q => ∃ (a : Str) (p : Addr) (ys : List Str), x = .str a ∧ xs = [.ref p] ∧ (SqL K H p (ys.map V.str) ∨ SqT K H p (ys.map V.str)) ∧ (ys.map (·.length)).sum + ys.length * a.length ≤ 16777216 ∧ Q (.str (Txt.join a ys)) H
theorem mtJoin (K : PySem.W.Frag) (h : X.K = K := by rfl) : MtR X "str.join" (rJoin K) := by
  subst h
  exact mt_join
theorem slTA (K : PySem.W.Frag) (h : X.K = K := by rfl) : SlR X (rSlA K) := by
  subst h
  exact sl_tupA
/-- a built-in class as a value -/
theorem pe_ty {x : Str} {pos : Pos} (t : String) (hg : Gl X x) (hm : X.mg x = none) (hv : bootBuiltins x = some (.type t)) (hn : x ≠ "__name__" := by decide +kernel) (hd : (x == ("__debug__" : Str)) = false := by decide +kernel) : PE X (.Name x pos) (tC (.ty t)) := pe_bltn hg hm hv rfl hn hd
end

theorem Vals.rev : ∀ {xs : List V} {us : List Value}, Vals xs us → Vals xs.reverse us.reverse
  | _, _, .nil => .nil
  | _, _, .cons r t => by
    rw [List.reverse_cons, List.reverse_cons]
    exact Vals.append (Vals.rev t) (.cons r .nil)
theorem Fun.kb {K : PySem.W.Frag} {x qual : Str} {st : Stmt} {f : Addr} {fd : FuncData} {ps ks : List Str} {g : List Value → List Value → List Value} {gV : List V → List V → List V} (F : Fun K x qual st f fd) (n : Nat)
    (h : ∀ (kV doc pm : Value) (an : Option Addr) (cdv ct : Value) (us ws : List Value), us.length = n → ws.length = ks.length → bindArgs (PySem.W.fnOf x qual (defArgs st) (defBody st) (defScope st) .none kV doc pm an cdv ct) ⟨us, ks.zip ws⟩ = pure (ps.zip (g us ws)))
    (hrel : ∀ {vs : List V} {us : List Value} {zs : List V} {ws : List Value}, Vals vs us → Vals zs ws → Vals (gV vs zs) (g us ws)) : KBn K fd ps n ks g gV := by
  obtain ⟨oc, od, kV, doc, pm, an, cdv, ct, osl, rfl, lk, hcd⟩ := F.ex
  exact ⟨fun s us ws _ l1 l2 => .of_eq (h kV doc pm an cdv ct us ws l1 l2), hrel⟩

/-! ### own errors -/
structure Exn (K : PySem.W.Frag) (mg : Str → Option Value) (x : Str) (C : Addr) : Prop where
  inn : PySem.W.excIn K C [.type "ValueError", .type "Exception", .type "BaseException", .type "object"] "ValueError.__new__" = true
  gl : mg x = some (.ref C)
  kp : PySem.W.keepIn K (.ref C) = true
  ba : PySem.W.subIn K (.ref C) (.type "BaseException") = some true
  ty : PySem.W.typeIn K (.ref C) = some (.type "type")
section
variable {X : Cx} {C : Addr} {x m : Str} {j k i : Nat} {p p2 pos pos2 : Pos} {W : WX} {sp : Sp} {e : Expr} {es : List Expr} {t : TA}
theorem ps_raiseE (e : Exn X.K X.mg x C) (hc : X.calm = true) (tk : Takes X W) (hg : Gl X x) (hdb : (x == ("__debug__" : Str)) = false := by decide) :
    PS X (.Raise (some (.Call (.Name x p) [.Constant (.str m) j p2] [] pos)) none pos2) (fun _ σ H => W (.ref C) none σ H) :=
  ps_raise hc tk (pmk_own PySem.F.excBase_ValueError e.inn e.gl e.kp (raises_own e.ba e.ty) hg hdb)
theorem pe_clX (c : Cl X.prog X.w X.K X.mg X.base (L2.CX X.prog X.w) k x sp) (hr : Room i X.A) (hk : k ≤ i) (hg : Gl X x) (tk : Takes X W) (ha : PA X (e :: es) t)
    (hdb : (x == ("__debug__" : Str)) = false := by decide) (he : starEach (e :: es) X.env = (false, eval e X.env) :: starEach es X.env := by rfl) (hpl : (backTo pos (starEach es X.env)).any (·.1) = false := by rfl) :
    PE X (.Call (.Name x p) (e :: es) [] pos) (tCallS sp (WE W) t) := by
  obtain ⟨f, fd, ps, F, hm, kp, b⟩ := c.ex
  exact pe_callS F (hr.mono hk) hg hm kp b (fun σ => passAt tk σ) ha hdb he hpl
end

/-! ### data: what a value is, to any depth -/
theorem dp_all_len {K : PySem.W.Frag} {H : Hp} : ∀ {vs : List V} {ds : List PyData}, DpAll K H vs ds → vs.length = ds.length
  | _, _, .nil => rfl
  | _, _, .cons _ t => congrArg Nat.succ (dp_all_len t)
theorem dp_all_get {K : PySem.W.Frag} {H : Hp} : ∀ {vs : List V} {ds : List PyData} {i : Nat} {v : V}, DpAll K H vs ds → vs[i]? = some v → ∃ d, ds[i]? = some d ∧ Dp K H v d
  | _, _, _, _, .nil, h => by simp at h
  | _, _, 0, v, .cons h t, e => by
    have e' := Option.some.inj e
    subst e'
    exact ⟨_, rfl, h⟩
  | _, _, i + 1, v, .cons h t, e => dp_all_get (i := i) t e
theorem same_sqt {K : PySem.W.Frag} {H H' : Hp} {a : Addr} {xs : List V} (e : Same H H') (h : SqT K H a xs) : SqT K H' a xs := by
  rcases h with (h | ⟨o, h⟩) | h
  · exact .inl (.inl (e _ _ h))
  · exact .inl (.inr ⟨o, e _ _ h⟩)
  · exact .inr h
mutual
theorem dp_same {K : PySem.W.Frag} {H H' : Hp} (e : Same H H') : ∀ (d : PyData) {v : V}, Dp K H v d → Dp K H' v d
  | .none, _, .non => .non
  | .bool _, _, .bl b => .bl b
  | .int _, _, .int i => .int i
  | .str _, _, .str x => .str x
  | .list ds, _, .lst hs ha => .lst (e.seq hs) (dps_same e ds ha)
  | .tuple ds, _, .tup hs ha => .tup (same_sqt e hs) (dps_same e ds ha)
  | .dict _, _, h => by cases h
theorem dps_same {K : PySem.W.Frag} {H H' : Hp} (e : Same H H') : ∀ (ds : List PyData) {vs : List V}, DpAll K H vs ds → DpAll K H' vs ds
  | [], _, .nil => .nil
  | d :: ds, _, .cons h t => .cons (dp_same e d h) (dps_same e ds t)
end
def okT (x : Str) : Prop := PySem.PyData.strOk x = true ∧ x.length ≤ 5000
/-- plain data of so many levels at most, nothing large -/
def Gd : Nat → PyData → Prop
  | 0, d => match d with
    | .none => True
    | .bool _ => True
    | .int _ => True
    | .str x => okT x
    | _ => False
  | n + 1, d => match d with
    | .none => True
    | .bool _ => True
    | .int _ => True
    | .str x => okT x
    | .list xs => xs.length ≤ 5000 ∧ ∀ x ∈ xs, Gd n x
    | .tuple xs => xs.length ≤ 5000 ∧ ∀ x ∈ xs, Gd n x
    | .dict _ => False
theorem gd_str {n : Nat} {x : Str} (h : Gd n (.str x)) : okT x := by
  cases n with
  | zero => exact h
  | succ n => exact h
theorem gd_tup {n : Nat} {xs : List PyData} (h : Gd n (.tuple xs)) : xs.length ≤ 5000 ∧ ∃ m, n = m + 1 ∧ ∀ x ∈ xs, Gd m x := by
  cases n with
  | zero => exact h.elim
  | succ n => exact ⟨h.1, n, rfl, h.2⟩
theorem gd_lst {n : Nat} {xs : List PyData} (h : Gd n (.list xs)) : xs.length ≤ 5000 ∧ ∃ m, n = m + 1 ∧ ∀ x ∈ xs, Gd m x := by
  cases n with
  | zero => exact h.elim
  | succ n => exact ⟨h.1, n, rfl, h.2⟩
theorem gd_up : ∀ {n : Nat} {d : PyData}, Gd n d → Gd (n + 1) d
  | 0, .none, h => h
  | 0, .bool _, h => h
  | 0, .int _, h => h
  | 0, .str _, h => h
  | n + 1, .none, h => h
  | n + 1, .bool _, h => h
  | n + 1, .int _, h => h
  | n + 1, .str _, h => h
  | n + 1, .list xs, h => ⟨h.1, fun x hx => gd_up (h.2 x hx)⟩
  | n + 1, .tuple xs, h => ⟨h.1, fun x hx => gd_up (h.2 x hx)⟩
theorem gd_le {n m : Nat} {d : PyData} (h : Gd n d) (hm : n ≤ m) : Gd m d := by
  induction hm with
  | refl => exact h
  | step _ ih => exact gd_up ih
theorem depthAll_le {n : Nat} : ∀ {xs : List PyData}, (∀ x ∈ xs, x.depth ≤ n) → PyData.depthAll xs ≤ n
  | [], _ => by
    unfold PyData.depthAll
    exact Nat.zero_le _
  | x :: xs, h => by
    unfold PyData.depthAll
    exact Nat.max_le.mpr ⟨h x List.mem_cons_self, depthAll_le fun y hy => h y (List.mem_cons_of_mem _ hy)⟩
theorem layAll_of : ∀ {xs : List PyData}, (∀ x ∈ xs, x.canLay0 = true) → PyData.canLayAll0 xs = true
  | [], _ => by
    unfold PyData.canLayAll0
    rfl
  | x :: xs, h => by
    unfold PyData.canLayAll0
    rw [h x List.mem_cons_self, layAll_of fun y hy => h y (List.mem_cons_of_mem _ hy)]
    rfl
theorem gd_facts : ∀ {n : Nat} {d : PyData}, Gd n d → d.canLay0 = true ∧ d.depth ≤ n
  | 0, .none, h => ⟨by unfold PyData.canLay0; rfl, by unfold PyData.depth; omega⟩
  | 0, .bool _, h => ⟨by unfold PyData.canLay0; rfl, by unfold PyData.depth; omega⟩
  | 0, .int _, h => ⟨by unfold PyData.canLay0; rfl, by unfold PyData.depth; omega⟩
  | 0, .str _, h => ⟨by unfold PyData.canLay0; exact h.1, by unfold PyData.depth; omega⟩
  | n + 1, .none, h => ⟨by unfold PyData.canLay0; rfl, by unfold PyData.depth; omega⟩
  | n + 1, .bool _, h => ⟨by unfold PyData.canLay0; rfl, by unfold PyData.depth; omega⟩
  | n + 1, .int _, h => ⟨by unfold PyData.canLay0; rfl, by unfold PyData.depth; omega⟩
  | n + 1, .str _, h => ⟨by unfold PyData.canLay0; exact h.1, by unfold PyData.depth; omega⟩
  | n + 1, .list xs, h => ⟨by unfold PyData.canLay0; exact layAll_of fun x hx => (gd_facts (h.2 x hx)).1, by
      unfold PyData.depth
      have := depthAll_le fun x hx => (gd_facts (h.2 x hx)).2
      omega⟩
  | n + 1, .tuple xs, h => ⟨by unfold PyData.canLay0; exact layAll_of fun x hx => (gd_facts (h.2 x hx)).1, by
      unfold PyData.depth
      have := depthAll_le fun x hx => (gd_facts (h.2 x hx)).2
      omega⟩
theorem gd_shaped {n : Nat} {d : PyData} (h : Gd n d) (hn : n ≤ 64) : SeqAt.shaped d = true := by
  obtain ⟨h1, h2⟩ := gd_facts h
  unfold SeqAt.shaped
  rw [h1, decide_eq_true (Nat.le_trans h2 hn)]
  rfl
/-! ### types -/
def tyN : PyData → String
  | .none => "NoneType"
  | .bool _ => "bool"
  | .int _ => "int"
  | .str _ => "str"
  | .list _ => "list"
  | .tuple _ => "tuple"
  | .dict _ => "dict"
theorem dp_ty {K : PySem.W.Frag} {H : Hp} {v : V} : ∀ {d : PyData}, Dp K H v d → TyX K H v (.type (tyN d))
  | _, .non => .base .non
  | _, .bl b => .base (.bl b)
  | _, .int i => .base (.int i)
  | _, .str x => .base (.str x)
  | _, .lst hs _ => by
    rcases hs with (h | ⟨o, h⟩) | ⟨o, _, _, h, hc, _⟩
    · exact .base (.lst h)
    · exact .base (.frz h)
    · exact .kList h hc
  | _, .tup hs _ => by
    rcases hs with (h | ⟨o, h⟩) | ⟨o, _, _, h, hc, _⟩
    · exact .base (.tup h)
    · exact .fTuple h
    · exact .kTuple h hc
def isInt : PyData → Bool
  | .int _ => true
  | .bool _ => true
  | _ => false
def isBool : PyData → Bool
  | .bool _ => true
  | _ => false
def isStr : PyData → Bool
  | .str _ => true
  | _ => false
def isTup : PyData → Bool
  | .tuple _ => true
  | _ => false
theorem kit_int {K : PySem.W.Frag} (d : PyData) : PySem.W.kitOne K (.type (tyN d)) (.type "int") = some (isInt d) := by
  cases d with
  | none => exact kit_ty (show kitB "NoneType" "int" = some false by decide +kernel)
  | bool _ => exact kit_ty (show kitB "bool" "int" = some true by decide +kernel)
  | int _ => exact kit_ty (show kitB "int" "int" = some true by decide +kernel)
  | str _ => exact kit_ty (show kitB "str" "int" = some false by decide +kernel)
  | list _ => exact kit_ty (show kitB "list" "int" = some false by decide +kernel)
  | tuple _ => exact kit_ty (show kitB "tuple" "int" = some false by decide +kernel)
  | dict _ => exact kit_ty (show kitB "dict" "int" = some false by decide +kernel)
theorem kit_bool {K : PySem.W.Frag} (d : PyData) : PySem.W.kitOne K (.type (tyN d)) (.type "bool") = some (isBool d) := by
  cases d with
  | none => exact kit_ty (show kitB "NoneType" "bool" = some false by decide +kernel)
  | bool _ => exact kit_ty (show kitB "bool" "bool" = some true by decide +kernel)
  | int _ => exact kit_ty (show kitB "int" "bool" = some false by decide +kernel)
  | str _ => exact kit_ty (show kitB "str" "bool" = some false by decide +kernel)
  | list _ => exact kit_ty (show kitB "list" "bool" = some false by decide +kernel)
  | tuple _ => exact kit_ty (show kitB "tuple" "bool" = some false by decide +kernel)
  | dict _ => exact kit_ty (show kitB "dict" "bool" = some false by decide +kernel)
theorem kit_str {K : PySem.W.Frag} (d : PyData) : PySem.W.kitOne K (.type (tyN d)) (.type "str") = some (isStr d) := by
  cases d with
  | none => exact kit_ty (show kitB "NoneType" "str" = some false by decide +kernel)
  | bool _ => exact kit_ty (show kitB "bool" "str" = some false by decide +kernel)
  | int _ => exact kit_ty (show kitB "int" "str" = some false by decide +kernel)
  | str _ => exact kit_ty (show kitB "str" "str" = some true by decide +kernel)
  | list _ => exact kit_ty (show kitB "list" "str" = some false by decide +kernel)
  | tuple _ => exact kit_ty (show kitB "tuple" "str" = some false by decide +kernel)
  | dict _ => exact kit_ty (show kitB "dict" "str" = some false by decide +kernel)
theorem kit_tup {K : PySem.W.Frag} (d : PyData) : PySem.W.kitOne K (.type (tyN d)) (.type "tuple") = some (isTup d) := by
  cases d with
  | none => exact kit_ty (show kitB "NoneType" "tuple" = some false by decide +kernel)
  | bool _ => exact kit_ty (show kitB "bool" "tuple" = some false by decide +kernel)
  | int _ => exact kit_ty (show kitB "int" "tuple" = some false by decide +kernel)
  | str _ => exact kit_ty (show kitB "str" "tuple" = some false by decide +kernel)
  | list _ => exact kit_ty (show kitB "list" "tuple" = some false by decide +kernel)
  | tuple _ => exact kit_ty (show kitB "tuple" "tuple" = some true by decide +kernel)
  | dict _ => exact kit_ty (show kitB "dict" "tuple" = some false by decide +kernel)
/-! ### what a block is -/
def whole : PyData → Int → Int → Bool
  | .int i, lo, hi => decide (lo ≤ i) && decide (i ≤ hi)
  | _, _, _ => false
def strLen (m : Int) : PyData → Bool
  | .str x => decide ((x.length : Int) = m)
  | _ => false
def bitRow (m : Int) : PyData → Bool
  | .str x => decide ((x.length : Int) = m) && x.cps.toList.all (fun c => c == 48 || c == 49)
  | _ => false
def rowsOk : PyData → Int → Int → Bool
  | .tuple xs, many, m => decide ((xs.length : Int) = many) && xs.all (bitRow m)
  | _, _, _ => false
def named (x : Str) (d : PyData) : Bool := PyData.eqv d (.str x)
def genRows : PyData → PyData → PyData → Bool
  | .int n, .int m, r => rowsOk r (1 * 2 ^ n.toNat) m
  | _, _, _ => false
def genOk : PyData → Bool
  | .tuple [k, n, m, r] => named "generator" k && whole n 1 10 && whole m 1 40 && genRows n m r
  | _ => false
def sumLe : PyData → PyData → Bool
  | .int n, .int l => decide (n + l ≤ 12)
  | _, _ => false
def funTabs : PyData → PyData → PyData → PyData → Bool
  | .int n, .int l, .int m, .tuple ts => decide ((ts.length : Int) = 1 * 2 ^ n.toNat) && ts.all (fun r => rowsOk r (1 * 2 ^ l.toNat) m)
  | _, _, _, _ => false
def funOk : PyData → Bool
  | .tuple [k, n, l, m, t] => named "function" k && whole n 1 8 && whole l 1 8 && sumLe n l && whole m 1 40 && funTabs n l m t
  | _ => false
theorem gen_no {xs : List PyData} (h : ¬ xs.length = 4) : genOk (.tuple xs) = false := by
  unfold genOk
  split
  · rename_i e
    cases e
    exact absurd rfl h
  · rfl
theorem fun_no {xs : List PyData} (h : ¬ xs.length = 5) : funOk (.tuple xs) = false := by
  unfold funOk
  split
  · rename_i e
    cases e
    exact absurd rfl h
  · rfl
def blockOk (d : PyData) : Bool := genOk d || funOk d
/-! ### strip of 0 and 1 -/
theorem strip_all (x : Str) : decide (V.str (Txt.stripChars x "01") = V.str "") = x.cps.toList.all (fun c => c == 48 || c == 49) := by
  have goes : ∀ c : Nat, (("01" : Str).cps.contains c) = (c == 48 || c == 49) := fun c => by
    show (#[48, 49] : Array Nat).contains c = _
    by_cases h1 : c = 48
    · subst h1
      simp
    · by_cases h2 : c = 49
      · subst h2
        simp
      · simp [h1, h2]
  have hn : x.cps.toList.length = x.length := by simp [Str.length]
  have key : Txt.stripChars x "01" = "" ↔ ∀ k, k < x.length → (("01" : Str).cps.contains (x.cps.getD k 0)) = true := by
    unfold Txt.stripChars
    rw [stripBy_eq]
    obtain ⟨a1, a2, a3⟩ := lo_facts ("01" : Str).cps.contains x
    obtain ⟨b1, b2, b3, _⟩ := hi_facts ("01" : Str).cps.contains x _ a1
    generalize stripLo ("01" : Str).cps.contains true x = lo at a1 a2 a3 b1 b2 b3
    generalize stripHi ("01" : Str).cps.contains true x lo = hi at b1 b2 b3
    have hl : (Builtin.Str.strSub x lo hi).cps.toList = (x.cps.toList.drop lo).take (hi - lo) := PySem.StrLaws.strSub_toList x lo hi
    constructor
    · intro e k hk
      have h0 : (x.cps.toList.drop lo).take (hi - lo) = [] := by
        rw [← hl, e]
        rfl
      have h1 := congrArg List.length h0
      rw [List.length_take, List.length_drop, hn] at h1
      have h2 : min (hi - lo) (x.length - lo) = 0 := h1
      by_cases hk' : k < lo
      · exact a2 k hk'
      · exact b3 k (by omega) hk
    · intro h
      have e : lo = x.length := by
        rcases a3 with z | z
        · exact z
        · by_cases c : lo < x.length
          · rw [h lo c] at z
            cases z
          · omega
      refine TL.ext_tl ?_
      show (Builtin.Str.strSub x lo hi).cps.toList = []
      rw [hl, List.drop_eq_nil_of_le (by omega)]
      exact List.take_nil
  have e2 : (∀ k, k < x.length → (("01" : Str).cps.contains (x.cps.getD k 0)) = true) ↔ x.cps.toList.all (fun c => c == 48 || c == 49) = true := by
    rw [List.all_eq_true]
    constructor
    · intro h c hc
      obtain ⟨k, hk, e⟩ := List.getElem_of_mem hc
      have := h k (by omega)
      rw [← getD_list, List.getD_eq_getElem?_getD, List.getElem?_eq_getElem hk] at this
      rw [← goes c, ← e]
      exact this
    · intro h k hk
      rw [← getD_list, List.getD_eq_getElem?_getD, List.getElem?_eq_getElem (by omega)]
      rw [goes]
      exact h _ (List.getElem_mem _)
  by_cases c : Txt.stripChars x "01" = ""
  · rw [c, decide_eq_true rfl]
    exact (e2.mp (key.mp c)).symm
  · rw [decide_eq_false fun z => c (V.str.inj z)]
    cases hq : x.cps.toList.all (fun c => c == 48 || c == 49)
    · rfl
    · exact absurd (key.mpr (e2.mpr hq)) c
/-! ### what the law makes -/
def rowsD (rows : List (List Bool)) : PyData := .tuple (rows.map fun r => .str (sb r))
def tabD (n m : Nat) (rows : List (List Bool)) : PyData := .tuple [.str "generator", .int (n : Int), .int (m : Int), rowsD rows]
def funD (n l m : Nat) (tabs : List (List (List Bool))) : PyData := .tuple [.str "function", .int (n : Int), .int (l : Int), .int (m : Int), .tuple (tabs.map rowsD)]
theorem dp_bits {K : PySem.W.Frag} {H : Hp} : ∀ rows : List (List Bool), DpAll K H (rows.map fun r => V.str (sb r)) (rows.map fun r => PyData.str (sb r))
  | [] => .nil
  | r :: rows => .cons (.str _) (dp_bits rows)
theorem dpAll_snoc {K : PySem.W.Frag} {H : Hp} {v : V} {d : PyData} : ∀ {vs : List V} {ds : List PyData}, DpAll K H vs ds → Dp K H v d → DpAll K H (vs ++ [v]) (ds ++ [d])
  | _, _, .nil, h => .cons h .nil
  | _, _, .cons h t, h' => .cons h (dpAll_snoc t h')

/-! ### the promises -/
/-- the hand: a list of the draws' list and the number of the next draw -/
def Hnd (H : Hp) (a d : Addr) : Prop := ∃ (ds : List Int) (i : Nat), H a = some (.lst [.ref d, .int (i : Int)]) ∧ H d = some (.lst (ds.map V.int)) ∧ (∀ x ∈ ds, 0 ≤ x) ∧ d ≠ a
/-- all but the hand is as it was -/
def Keep (a : Addr) (H H' : Hp) : Prop := ∀ b o, H b = some o → b ≠ a → H' b = some o
theorem Keep.trans {a : Addr} {H H1 H2 : Hp} (h : Keep a H H1) (h' : Keep a H1 H2) : Keep a H H2 := fun b o e n => h' b o (h b o e n) n
theorem Keep.refl (a : Addr) (H : Hp) : Keep a H H := fun _ _ e _ => e
theorem Keep.new {a p : Addr} {H : Hp} {o : HO} (np : H p = none) : Keep a H (upd H p o) := fun b u e _ => by
  rw [upd_ne (ne_of_none e np)]
  exact e
theorem same_new {H : Hp} {p : Addr} {o : HO} (h : H p = none) : Same H (upd H p o) := fun b x e => by
  rw [upd_ne (ne_of_none e h)]
  exact e
theorem Hnd.same {H H' : Hp} {a d : Addr} (h : Hnd H a d) (s : Same H H') : Hnd H' a d := by
  obtain ⟨ds, i, h1, h2, h3, h4⟩ := h
  exact ⟨ds, i, s _ _ h1, s _ _ h2, h3, h4⟩
theorem Hnd.new {H : Hp} {a d p : Addr} {o : HO} (h : Hnd H a d) (np : H p = none) : Hnd (upd H p o) a d := h.same (same_new np)
theorem Hnd.some {H : Hp} {a d : Addr} (h : Hnd H a d) : ∃ o, H a = some o := by
  obtain ⟨ds, i, h1, _⟩ := h
  exact ⟨_, h1⟩
/-- what is new is neither the hand nor the draws -/
theorem Hnd.ne {H : Hp} {a d p : Addr} (h : Hnd H a d) (np : H p = none) : p ≠ a ∧ p ≠ d := by
  obtain ⟨ds, i, h1, h2, _⟩ := h
  exact ⟨(ne_of_none h1 np).symm, (ne_of_none h2 np).symm⟩
/-- an object beside the hand may change -/
theorem Hnd.set {H : Hp} {a d p : Addr} {o : HO} (h : Hnd H a d) (pa : p ≠ a) (pd : p ≠ d) : Hnd (upd H p o) a d := by
  obtain ⟨ds, i, h1, h2, h3, h4⟩ := h
  exact ⟨ds, i, by rw [upd_ne pa.symm]; exact h1, by rw [upd_ne pd.symm]; exact h2, h3, h4⟩
theorem Keep.same {a : Addr} {H H' : Hp} (s : Same H H') : Keep a H H' := fun b o e _ => s b o e
def spDraws (K : PySem.W.Frag) : Sp := fun vs H Q _ => ∃ (a : Addr) (ns : List Int) (many : Nat), vs = [.ref a, .int (many : Int)] ∧ SqL K H a (ns.map V.int) ∧ ns.length ≤ 63 ∧ many ≤ 5000 ∧
  ∀ (p : Addr) (ds : List Int) (H' : Hp), H p = none → Same H H' → H' p = some (.lst (ds.map V.int)) → (∀ x ∈ ds, (0 : Int) ≤ x) → Q (.ref p) H'
def spTake : Sp := fun vs H Q _ => ∃ (a d : Addr) (many : Int), vs = [.ref a, .int many] ∧ 0 < many ∧ Hnd H a d ∧ ∀ r H', 0 ≤ r → r < many → Hnd H' a d → Keep a H H' → Q (.int r) H'
def spString : Sp := fun vs H Q _ => ∃ (a d : Addr) (n : Nat), vs = [.ref a, .int (n : Int)] ∧ n ≤ 5000 ∧ Hnd H a d ∧ ∀ bs H', bs.length = n → Hnd H' a d → Keep a H H' → Q (.str (sb bs)) H'
def spBits : Sp := fun vs H Q _ => ∃ n k : Nat, vs = [.int (n : Int), .int (k : Int)] ∧ n ≤ 5000 ∧ k < 2 ^ n ∧ Q (.str (sb (toB n k))) H
def spNumber : Sp := fun vs H Q _ => ∃ bs : List Bool, vs = [.str (sb bs)] ∧ bs.length ≤ 640 ∧ Q (.int ((val bs : Nat) : Int)) H
def spXor : Sp := fun vs H Q _ => ∃ l m : List Bool, vs = [.str (sb l), .str (sb m)] ∧ l.length = m.length ∧ l.length ≤ 640 ∧ Q (.str (sb (List.zipWith (fun x y => x != y) l m))) H
def spParity : Sp := fun vs H Q _ => ∃ l m : List Bool, vs = [.str (sb l), .str (sb m)] ∧ l.length = m.length ∧ l.length ≤ 640 ∧ Q (.int ((((List.zipWith (fun x y => x && y) l m).count true : Nat) : Int) % 2)) H
def spIsS : Sp := fun vs H Q _ => ∃ x y : Str, vs = [.str x, .str y] ∧ Q (.bl (decide (x = y))) H
def spIsN : Sp := fun vs H Q _ => ∃ x y : Int, vs = [.int x, .int y] ∧ Q (.bl (decide (x = y))) H
def spPair : Sp := fun vs H Q _ => ∃ l m : List Bool, vs = [.str (sb l), .str (sb m)] ∧ l.length = m.length ∧ l.length ≤ 640 ∧ ∀ H', Same H H' → Q (.bl true) H'
def spLaw (K : PySem.W.Frag) : Sp := fun vs H Q _ => ∃ (a : Addr) (ns : List Int), vs = [.ref a] ∧ SqL K H a (ns.map V.int) ∧ ns.length ≤ 63 ∧ ∀ H', Q (.bl true) H'
/-- what was made anew may change: nothing that was there is it -/
theorem Keep.set {a p : Addr} {H H' : Hp} {o : HO} (h : Keep a H H') (np : H p = none) : Keep a H (upd H' p o) := fun b u e n => by
  rw [upd_ne (ne_of_none e np)]
  exact h b u e n
theorem Keep.free {a p : Addr} {H H' : Hp} (h : Keep a H H') (np : H' p = none) (pa : p ≠ a) : H p = none := by
  cases e : H p with
  | none => rfl
  | some o =>
    have := h p o e pa
    rw [np] at this
    cases this
/-- the heap without the hand: what data stand on -/
def off (a : Addr) (H : Hp) : Hp := fun b => if b = a then none else H b
theorem off_ne {a b : Addr} {H : Hp} (h : b ≠ a) : off a H b = H b := if_neg h
theorem off_same (a : Addr) (H : Hp) : Same (off a H) H := fun b o e => by
  unfold off at e
  by_cases h : b = a
  · rw [if_pos h] at e
    cases e
  · rw [if_neg h] at e
    exact e
theorem Keep.off {a : Addr} {H H' : Hp} (k : Keep a H H') : Same (off a H) (off a H') := fun b o e => by
  unfold My.off at e ⊢
  by_cases h : b = a
  · rw [if_pos h] at e
    cases e
  · rw [if_neg h] at e ⊢
    exact k b o e h

def spWhole (K : PySem.W.Frag) : Sp := fun vs H Q _ => ∃ (v : V) (d : PyData) (lo hi : Int), vs = [v, .int lo, .int hi] ∧ Dp K H v d ∧ Q (.bl (whole d lo hi)) H
def spRows (K : PySem.W.Frag) : Sp := fun vs H Q _ => ∃ (v : V) (d : PyData) (n : Nat) (many m : Int), vs = [v, .int many, .int m] ∧ Dp K H v d ∧ Gd n d ∧ many ≤ 4096 ∧ m ≤ 40 ∧ ∀ H', Same H H' → Q (.bl (rowsOk d many m)) H'
def spGen (K : PySem.W.Frag) : Sp := fun vs H Q _ => ∃ (v : V) (d : PyData) (n : Nat), vs = [v] ∧ Dp K H v d ∧ Gd n d ∧ n ≤ 64 ∧ ∀ H', Same H H' → Q (.bl (genOk d)) H'
def spFun (K : PySem.W.Frag) : Sp := fun vs H Q _ => ∃ (v : V) (d : PyData) (n : Nat), vs = [v] ∧ Dp K H v d ∧ Gd n d ∧ n ≤ 64 ∧ ∀ H', Same H H' → Q (.bl (funOk d)) H'
def spCheck (K : PySem.W.Frag) (C : Addr) : Sp := fun vs H Q E => ∃ (v : V) (d : PyData) (n : Nat), vs = [v] ∧ Dp K H v d ∧ Gd n d ∧ n ≤ 64 ∧ ∀ H', Same H H' → (blockOk d = true → Q .non H') ∧ (blockOk d = false → E (.ref C) none H')

theorem for_text {x : Str} {g : TG} {tb : TS} {D : Ends} {σ : L2.St} {H : Hp} (Pv : Nat → L2.St → Hp → Prop) (h0 : Pv 0 σ H)
    (hs : ∀ i c σ H, x.cps[i]? = some c → Pv i σ H → g (.str ⟨#[c]⟩) σ H fun σ2 H2 => tb { D with nx := Pv (i + 1), ct := Pv (i + 1), bk := D.nx } σ2 H2) (hd : ∀ σ H, Pv x.cps.size σ H → D.nx σ H) :
    ∃ W : Nat → Nat → L2.St → Hp → Prop, (∃ m, W 0 m σ H) ∧ ∀ i m σ H, W i m σ H →
      ((Its x).stop i H ∧ D.nx σ H) ∨ ((Its x).go i H ∧ ∃ N : L2.St → Hp → Prop, (∀ σ' H', N σ' H' → ∃ m', m' < m ∧ W (i + 1) m' σ' H') ∧ ∀ y H', (Its x).yld i H y H' → g y σ H' fun σ2 H2 => tb { D with nx := N, ct := N, bk := D.nx } σ2 H2) := by
  refine ⟨fun i m σ H => m = x.cps.size - i ∧ i ≤ x.cps.size ∧ Pv i σ H, ⟨x.cps.size, by omega, Nat.zero_le _, h0⟩, ?_⟩
  rintro i m σ H ⟨rfl, hi, p⟩
  by_cases c : i < x.cps.size
  · refine .inr ⟨c, Pv (i + 1), fun σ' H' p' => ⟨x.cps.size - (i + 1), by omega, rfl, c, p'⟩, ?_⟩
    rintro y H' ⟨rfl, k, hk, rfl⟩
    exact hs i k σ _ hk p
  · have e : i = x.cps.size := by omega
    subst e
    exact .inl ⟨Nat.le_refl _, hd σ H p⟩

theorem ix_nat (n d i : Nat) : HT.sIx n d (some (i : Int)) = min i n := by
  unfold HT.sIx
  show (if (i : Int) < 0 then _ else min (i : Int).toNat n) = _
  rw [if_neg (by omega)]
  rfl
theorem sb_drop_take (l : List Bool) (a b : Nat) : (⟨(((sb l).cps.toList.drop a).take b).toArray⟩ : Str) = sb ((l.drop a).take b) := by
  unfold sb
  rw [List.map_take, List.map_drop]
theorem cut_pre {l : List Bool} {i : Nat} : cutS (sb l) none (some (i : Int)) = sb (l.take i) := by
  unfold cutS
  rw [sb_drop_take, ix_nat, HT.sIx_none, sb_len, List.drop_zero, Nat.sub_zero]
  congr 1
  by_cases h : i ≤ l.length
  · rw [Nat.min_eq_left h]
  · rw [List.take_of_length_le (by omega), List.take_of_length_le (by omega)]
theorem cut_suf {l : List Bool} {i : Nat} : cutS (sb l) (some (i : Int)) none = sb (l.drop i) := by
  unfold cutS
  rw [sb_drop_take, ix_nat, HT.sIx_none, sb_len, List.take_of_length_le (by rw [List.length_drop]; omega)]
  congr 1
  by_cases h : i ≤ l.length
  · rw [Nat.min_eq_left h]
  · rw [Nat.min_eq_right (by omega), List.drop_length, List.drop_of_length_le (by omega)]
theorem cut_one {l : List Bool} {i : Nat} : cutS (sb l) (some (i : Int)) (some ((i : Int) + 1)) = sb ((l.drop i).take 1) := by
  unfold cutS
  rw [show ((i : Int) + 1) = ((i + 1 : Nat) : Int) by omega, sb_drop_take, ix_nat, ix_nat, sb_len]
  congr 1
  by_cases h : i + 1 ≤ l.length
  · rw [Nat.min_eq_left h, Nat.min_eq_left (by omega)]
    congr 1
    omega
  · by_cases h' : i = l.length
    · subst h'
      rw [Nat.min_self, List.drop_length]
      simp
    · rw [Nat.min_eq_right (show l.length ≤ i by omega), List.drop_length, List.drop_eq_nil_of_le (show l.length ≤ i by omega)]
      simp
theorem rep_bits (b : Bool) (n : Nat) : SX.S (List.replicate n [cB b]).flatten = sb (List.replicate n b) := by
  unfold sb
  congr 1
  induction n with
  | zero => rfl
  | succ n ih =>
    rw [List.replicate_succ, List.flatten_cons, ih]
    rfl
theorem val_take (l : List Bool) (i : Nat) (h : i < l.length) : val (l.take (i + 1)) = 2 * val (l.take i) + bit l[i] := by
  rw [List.take_add_one, List.getElem?_eq_getElem h]
  exact val_snoc _ _
theorem val_zeros (n : Nat) : val (List.replicate n false) = 0 := by
  induction n with
  | zero => rfl
  | succ n ih =>
    rw [List.replicate_succ', val_snoc, ih]
    rfl
theorem sb_at {l : List Bool} {i c : Nat} (h : (sb l).cps[i]? = some c) : ∃ h : i < l.length, c = cB l[i] := by
  have e : (l.map cB)[i]? = some c := by
    rw [← h]
    show _ = ((l.map cB).toArray)[i]?
    simp
  rw [List.getElem?_map] at e
  obtain ⟨b, hb, rfl⟩ := Option.map_eq_some_iff.mp e
  obtain ⟨hi, rfl⟩ := List.getElem?_eq_some_iff.mp hb
  exact ⟨hi, rfl⟩

theorem name_ne {d : PyData} {x : Str} : (!PyData.eqv d (.str x)) = !named x d := rfl
theorem whole_int {d : PyData} {lo hi : Int} (h : whole d lo hi = true) : ∃ i, d = .int i ∧ lo ≤ i ∧ i ≤ hi := by
  cases d with
  | int i =>
    have h' : (decide (lo ≤ i) && decide (i ≤ hi)) = true := h
    rw [Bool.and_eq_true, decide_eq_true_eq, decide_eq_true_eq] at h'
    exact ⟨i, rfl, h'⟩
  | _ => cases h
theorem gen_eq {k n m r : PyData} : genOk (.tuple [k, n, m, r]) = (named "generator" k && whole n 1 10 && whole m 1 40 && genRows n m r) := rfl
theorem fun_eq {k n l m t : PyData} : funOk (.tuple [k, n, l, m, t]) = (named "function" k && whole n 1 8 && whole l 1 8 && sumLe n l && whole m 1 40 && funTabs n l m t) := rfl
theorem pow_le {n : Int} {b : Nat} (h0 : 1 ≤ n) (h : n ≤ (b : Int)) : (1 : Int) * 2 ^ n.toNat ≤ ((2 ^ b : Nat) : Int) := by
  have h1 : (2 : Nat) ^ n.toNat ≤ 2 ^ b := Nat.pow_le_pow_right (by decide) (by omega)
  have h2 : ((2 ^ n.toNat : Nat) : Int) ≤ ((2 ^ b : Nat) : Int) := Int.ofNat_le.mpr h1
  rw [Int.natCast_pow] at h2
  rw [Int.one_mul]
  exact h2
theorem dp4 {K : PySem.W.Frag} {H : Hp} {ws : List V} {xs : List PyData} (h : DpAll K H ws xs) (c : ws.length = 4) : ∃ v0 v1 v2 v3 d0 d1 d2 d3, ws = [v0, v1, v2, v3] ∧ xs = [d0, d1, d2, d3] ∧ Dp K H v0 d0 ∧ Dp K H v1 d1 ∧ Dp K H v2 d2 ∧ Dp K H v3 d3 := by
  match xs, ws, c, h with
  | _, [v0, v1, v2, v3], _, .cons h0 (.cons h1 (.cons h2 (.cons h3 .nil))) => exact ⟨_, _, _, _, _, _, _, _, rfl, rfl, h0, h1, h2, h3⟩
theorem dp5 {K : PySem.W.Frag} {H : Hp} {ws : List V} {xs : List PyData} (h : DpAll K H ws xs) (c : ws.length = 5) : ∃ v0 v1 v2 v3 v4 d0 d1 d2 d3 d4, ws = [v0, v1, v2, v3, v4] ∧ xs = [d0, d1, d2, d3, d4] ∧ Dp K H v0 d0 ∧ Dp K H v1 d1 ∧ Dp K H v2 d2 ∧ Dp K H v3 d3 ∧ Dp K H v4 d4 := by
  match xs, ws, c, h with
  | _, [v0, v1, v2, v3, v4], _, .cons h0 (.cons h1 (.cons h2 (.cons h3 (.cons h4 .nil)))) => exact ⟨_, _, _, _, _, _, _, _, _, _, rfl, rfl, h0, h1, h2, h3, h4⟩
theorem join_all : ∀ ys : List Str, (Txt.join "" ys).cps.toList = (ys.map (·.cps.toList)).flatten := by
  intro ys
  have j : ∀ ps : List (List Nat), TL.joinL [] ps = ps.flatten := by
    intro ps
    induction ps with
    | nil => rfl
    | cons x r ih =>
      cases r with
      | nil => exact (List.append_nil x).symm
      | cons y r =>
        show x ++ ([] ++ TL.joinL [] (y :: r)) = x ++ (y :: r).flatten
        rw [ih, List.nil_append]
  have e : ys = (ys.map (·.cps.toList)).map SX.S := by
    rw [List.map_map]
    exact (List.map_id'' (fun x => SX.S_tl x) ys).symm
  have h := SX.join_S [] (ys.map (·.cps.toList))
  rw [← e, j] at h
  exact congrArg (fun z : Str => z.cps.toList) h

def spTable (K : PySem.W.Frag) : Sp := fun vs H Q _ => ∃ (a d : Addr) (n m : Nat), vs = [.ref a, .int (n : Int), .int (m : Int)] ∧ n ≤ 8 ∧ m ≤ 200 ∧ Hnd H a d ∧
  ∀ v rows H', rows.length = 2 ^ n → (∀ r ∈ rows, r.length = m) → Dp K (off a H') v (tabD n m rows) → Hnd H' a d → Keep a H H' → Q v H'
def spFunction (K : PySem.W.Frag) : Sp := fun vs H Q _ => ∃ (a d : Addr) (n l m : Nat), vs = [.ref a, .int (n : Int), .int (l : Int), .int (m : Int)] ∧ n ≤ 8 ∧ l ≤ 8 ∧ m ≤ 200 ∧ Hnd H a d ∧
  ∀ v tabs H', tabs.length = 2 ^ n → (∀ rows ∈ tabs, rows.length = 2 ^ l ∧ ∀ r ∈ rows, r.length = m) → Dp K (off a H') v (funD n l m tabs) → Hnd H' a d → Keep a H H' → Q v H'

/-! ### data of a size -/
def okS (s : Nat) (x : Str) : Prop := PySem.PyData.strOk x = true ∧ x.length ≤ s
def Gz (s : Nat) : Nat → PyData → Prop
  | 0, d => match d with
    | .none => True
    | .bool _ => True
    | .int i => i.natAbs < 10 ^ s
    | .str x => okS s x
    | _ => False
  | n + 1, d => match d with
    | .none => True
    | .bool _ => True
    | .int i => i.natAbs < 10 ^ s
    | .str x => okS s x
    | .list xs => xs.length ≤ s ∧ ∀ x ∈ xs, Gz s n x
    | .tuple xs => xs.length ≤ s ∧ ∀ x ∈ xs, Gz s n x
    | .dict _ => False
theorem gz_str {s n : Nat} {x : Str} : Gz s n (.str x) ↔ okS s x := by
  cases n <;> exact Iff.rfl
theorem gz_int {s n : Nat} {i : Int} : Gz s n (.int i) ↔ i.natAbs < 10 ^ s := by
  cases n <;> exact Iff.rfl
theorem gz_bool {s n : Nat} {b : Bool} : Gz s n (.bool b) := by
  cases n <;> trivial
theorem gz_none {s n : Nat} : Gz s n .none := by
  cases n <;> trivial
theorem gz_tup {s n : Nat} {xs : List PyData} (h : Gz s n (.tuple xs)) : xs.length ≤ s ∧ ∃ m, n = m + 1 ∧ ∀ x ∈ xs, Gz s m x := by
  cases n with
  | zero => exact h.elim
  | succ n => exact ⟨h.1, n, rfl, h.2⟩
theorem gz_gd {s : Nat} (hs : s ≤ 5000) : ∀ {n : Nat} {d : PyData}, Gz s n d → Gd n d
  | 0, .none, h => h
  | 0, .bool _, h => h
  | 0, .int _, h => trivial
  | 0, .str _, h => ⟨h.1, Nat.le_trans h.2 hs⟩
  | n + 1, .none, h => h
  | n + 1, .bool _, h => h
  | n + 1, .int _, h => trivial
  | n + 1, .str _, h => ⟨h.1, Nat.le_trans h.2 hs⟩
  | n + 1, .list xs, h => ⟨Nat.le_trans h.1 hs, fun x hx => gz_gd hs (h.2 x hx)⟩
  | n + 1, .tuple xs, h => ⟨Nat.le_trans h.1 hs, fun x hx => gz_gd hs (h.2 x hx)⟩
theorem gz_up {s t : Nat} (hs : s ≤ t) : ∀ {n m : Nat} {d : PyData}, n ≤ m → Gz s n d → Gz t m d
  | n, m, .none, _, h => gz_none
  | n, m, .bool _, _, h => gz_bool
  | n, m, .int _, _, h => gz_int.mpr (Nat.lt_of_lt_of_le (gz_int.mp h) (Nat.pow_le_pow_right (by decide) hs))
  | n, m, .str _, _, h => gz_str.mpr ⟨(gz_str.mp h).1, Nat.le_trans (gz_str.mp h).2 hs⟩
  | 0, m, .list _, _, h => h.elim
  | 0, m, .tuple _, _, h => h.elim
  | 0, m, .dict _, _, h => h.elim
  | n + 1, m, .dict _, _, h => h.elim
  | n + 1, m + 1, .list xs, hm, h => ⟨Nat.le_trans h.1 hs, fun x hx => gz_up hs (Nat.le_of_succ_le_succ hm) (h.2 x hx)⟩
  | n + 1, m + 1, .tuple xs, hm, h => ⟨Nat.le_trans h.1 hs, fun x hx => gz_up hs (Nat.le_of_succ_le_succ hm) (h.2 x hx)⟩
theorem sqt_off {K : PySem.W.Frag} {H : Hp} {a d p : Addr} {xs : List V} (h : Hnd H a d) (s : SqT K H p xs) : SqT K (off a H) p xs := by
  obtain ⟨ds, i, h1, _⟩ := h
  rcases s with (s | ⟨o, s⟩) | s
  · refine .inl (.inl ?_)
    rw [off_ne fun e => ?_]
    · exact s
    · rw [e, h1] at s
      cases s
  · refine .inl (.inr ⟨o, ?_⟩)
    rw [off_ne fun e => ?_]
    · exact s
    · rw [e, h1] at s
      cases s
  · exact .inr s
theorem sqt_on {K : PySem.W.Frag} {H : Hp} {a p : Addr} {xs : List V} (s : SqT K (off a H) p xs) : SqT K H p xs := same_sqt (off_same a H) s
theorem sql_on {K : PySem.W.Frag} {H : Hp} {a p : Addr} {xs : List V} (s : SqL K (off a H) p xs) : SqL K H p xs := (off_same a H).seq s
/-- a value of data of a size, beside the hand -/
def Ok (K : PySem.W.Frag) (a : Addr) (H : Hp) (s n : Nat) (v : V) : Prop := ∃ D, Dp K (off a H) v D ∧ Gz s n D
theorem Ok.same {K : PySem.W.Frag} {a : Addr} {H H' : Hp} {s n : Nat} {v : V} (h : Ok K a H s n v) (e : Same (off a H) (off a H')) : Ok K a H' s n v := by
  obtain ⟨D, h1, h2⟩ := h
  exact ⟨D, dp_same e D h1, h2⟩
theorem Ok.keep {K : PySem.W.Frag} {a : Addr} {H H' : Hp} {s n : Nat} {v : V} (h : Ok K a H s n v) (e : Keep a H H') : Ok K a H' s n v := h.same e.off
theorem Ok.up {K : PySem.W.Frag} {a : Addr} {H : Hp} {s n t m : Nat} {v : V} (h : Ok K a H s n v) (hs : s ≤ t) (hm : n ≤ m) : Ok K a H t m v := by
  obtain ⟨D, h1, h2⟩ := h
  exact ⟨D, h1, gz_up hs hm h2⟩
theorem same_off {a : Addr} {H H' : Hp} (s : Same H H') : Same (off a H) (off a H') := (Keep.same (a := a) s).off
theorem cutV_all {xs : List V} {lo hi : Option Int} (h1 : HT.sIx xs.length 0 lo = 0) (h2 : HT.sIx xs.length xs.length hi = xs.length) : cutV xs lo hi = xs := by
  unfold cutV
  rw [h1, h2]
  simp
theorem sl_any {K : PySem.W.Frag} {H : Hp} {Q : VK} {lo hi : Option Int} {a : Addr} {xs : List V} (hT : SqT K H a xs) (q : ∀ p H', Same H H' → SqT K H' p (cutV xs lo hi) → Q (.ref p) H') : rSlA K (.ref a) lo hi H Q := by
  refine ⟨a, xs, rfl, hT, fun hw => ?_, fun hw p np => ?_⟩
  · exact q a H (Same.refl H) (by rw [cutV_all hw.1 hw.2]; exact hT)
  · exact q p _ (same_new np) (.inl (.inl upd_same))
theorem sl_anyN {K : PySem.W.Frag} {σ : L2.St} {H : Hp} {Q : VK} {l : Option Int} {a : Addr} {xs : List V} (hT : SqT K H a xs) (q : ∀ p H', Same H H' → SqT K H' p (cutV xs l none) → Q (.ref p) H') : tNoPart σ H fun u H3 => rSlA K (.ref a) l u H3 Q := sl_any hT q
theorem cat_any {K : PySem.W.Frag} {H : Hp} {Q : VK} {a b : Addr} {xs ys : List V} (ha : SqT K H a xs) (hb : SqT K H b ys) (hz : xs.length + ys.length ≤ sizeLine) (q : ∀ p H', Same H H' → SqT K H' p (xs ++ ys) → Q (.ref p) H') : rCatA K (.ref a) (.ref b) H Q := by
  refine ⟨a, b, xs, ys, rfl, rfl, ha, hb, hz, fun e => ?_, fun e1 e2 => ?_, fun e1 e2 p np => ?_⟩
  · subst e
    exact q b H (Same.refl H) hb
  · subst e2
    exact q a H (Same.refl H) (by rw [List.append_nil]; exact ha)
  · exact q p _ (same_new np) (.inl (.inl upd_same))
theorem dps_drop {K : PySem.W.Frag} {H : Hp} : ∀ (i : Nat) {vs : List V} {ds : List PyData}, DpAll K H vs ds → DpAll K H (vs.drop i) (ds.drop i)
  | 0, _, _, h => h
  | i + 1, _, _, .nil => .nil
  | i + 1, _, _, .cons _ t => dps_drop i t
theorem dps_take {K : PySem.W.Frag} {H : Hp} : ∀ (i : Nat) {vs : List V} {ds : List PyData}, DpAll K H vs ds → DpAll K H (vs.take i) (ds.take i)
  | 0, _, _, h => .nil
  | i + 1, _, _, .nil => .nil
  | i + 1, _, _, .cons h t => .cons h (dps_take i t)
theorem dps_app {K : PySem.W.Frag} {H : Hp} : ∀ {vs ws : List V} {ds es : List PyData}, DpAll K H vs ds → DpAll K H ws es → DpAll K H (vs ++ ws) (ds ++ es)
  | _, _, _, _, .nil, h => h
  | _, _, _, _, .cons h t, h' => .cons h (dps_app t h')
/-- the values of a row, all of a size -/
def Oks (K : PySem.W.Frag) (a : Addr) (H : Hp) (s n : Nat) (vs : List V) : Prop := ∃ ds, DpAll K (off a H) vs ds ∧ ∀ d ∈ ds, Gz s n d
theorem Oks.keep {K : PySem.W.Frag} {a : Addr} {H H' : Hp} {s n : Nat} {vs : List V} (h : Oks K a H s n vs) (e : Keep a H H') : Oks K a H' s n vs := by
  obtain ⟨D, h1, h2⟩ := h
  exact ⟨D, dps_same e.off D h1, h2⟩
theorem Oks.up {K : PySem.W.Frag} {a : Addr} {H : Hp} {s n t m : Nat} {vs : List V} (h : Oks K a H s n vs) (hs : s ≤ t) (hm : n ≤ m) : Oks K a H t m vs := by
  obtain ⟨D, h1, h2⟩ := h
  exact ⟨D, h1, fun d hd => gz_up hs hm (h2 d hd)⟩
theorem Oks.app {K : PySem.W.Frag} {a : Addr} {H : Hp} {s n : Nat} {vs ws : List V} (h : Oks K a H s n vs) (h' : Oks K a H s n ws) : Oks K a H s n (vs ++ ws) := by
  obtain ⟨D, h1, h2⟩ := h
  obtain ⟨E, h3, h4⟩ := h'
  refine ⟨D ++ E, dps_app h1 h3, fun d hd => ?_⟩
  rcases List.mem_append.mp hd with z | z
  · exact h2 d z
  · exact h4 d z
theorem Oks.cut {K : PySem.W.Frag} {a : Addr} {H : Hp} {s n : Nat} {vs : List V} (lo hi : Option Int) (h : Oks K a H s n vs) : Oks K a H s n (cutV vs lo hi) := by
  obtain ⟨D, h1, h2⟩ := h
  exact ⟨(D.drop _).take _, dps_take _ (dps_drop _ h1), fun d hd => h2 d (List.mem_of_mem_drop (List.mem_of_mem_take hd))⟩
theorem Oks.one {K : PySem.W.Frag} {a : Addr} {H : Hp} {s n : Nat} {v : V} (h : Ok K a H s n v) : Oks K a H s n [v] := by
  obtain ⟨D, h1, h2⟩ := h
  refine ⟨[D], .cons h1 .nil, fun d hd => ?_⟩
  rw [List.mem_singleton.mp hd]
  exact h2
theorem Oks.get {K : PySem.W.Frag} {a : Addr} {H : Hp} {s n i : Nat} {v : V} {vs : List V} (h : Oks K a H s n vs) (e : vs[i]? = some v) : Ok K a H s n v := by
  obtain ⟨D, h1, h2⟩ := h
  obtain ⟨d, hd, h3⟩ := dp_all_get h1 e
  exact ⟨d, h3, h2 d (List.mem_of_getElem? hd)⟩
theorem Ok.tup {K : PySem.W.Frag} {a d p : Addr} {H : Hp} {s n : Nat} {vs : List V} (hh : Hnd H a d) (hT : SqT K H p vs) (h : Oks K a H s n vs) (hl : vs.length ≤ s) : Ok K a H s (n + 1) (.ref p) := by
  obtain ⟨D, h1, h2⟩ := h
  exact ⟨.tuple D, .tup (sqt_off hh hT) h1, by rw [← dp_all_len h1]; exact hl, h2⟩
theorem Ok.lst {K : PySem.W.Frag} {a p : Addr} {H : Hp} {s n : Nat} {vs : List V} (pa : p ≠ a) (hL : H p = some (.lst vs)) (h : Oks K a H s n vs) (hl : vs.length ≤ s) : Ok K a H s (n + 1) (.ref p) := by
  obtain ⟨D, h1, h2⟩ := h
  exact ⟨.list D, .lst (.inl (.inl (by rw [off_ne pa]; exact hL))) h1, by rw [← dp_all_len h1]; exact hl, h2⟩
theorem Ok.str {K : PySem.W.Frag} {a : Addr} {H : Hp} {s n : Nat} {x : Str} (h : okS s x) : Ok K a H s n (.str x) := ⟨.str x, .str x, gz_str.mpr h⟩
theorem Ok.int {K : PySem.W.Frag} {a : Addr} {H : Hp} {s n : Nat} {i : Int} (h : i.natAbs < 10 ^ s) : Ok K a H s n (.int i) := ⟨.int i, .int i, gz_int.mpr h⟩
theorem Ok.bl {K : PySem.W.Frag} {a : Addr} {H : Hp} {s n : Nat} {b : Bool} : Ok K a H s n (.bl b) := ⟨.bool b, .bl b, gz_bool⟩
theorem Ok.non {K : PySem.W.Frag} {a : Addr} {H : Hp} {s n : Nat} : Ok K a H s n .non := ⟨.none, .non, gz_none⟩
/-! ### signs -/
theorem strOk_iff {x : Str} : PySem.PyData.strOk x = true ↔ ∀ c ∈ x.cps.toList, c < 1114112 := by
  unfold PySem.PyData.strOk
  rw [← Array.all_toList, List.all_eq_true]
  constructor
  · intro h c hc
    exact of_decide_eq_true (h c hc)
  · intro h c hc
    exact decide_eq_true (h c hc)
theorem strOk_app {x y : Str} (hx : PySem.PyData.strOk x = true) (hy : PySem.PyData.strOk y = true) : PySem.PyData.strOk (x ++ y) = true := by
  rw [strOk_iff] at hx hy ⊢
  intro c hc
  have e : (x ++ y).cps.toList = x.cps.toList ++ y.cps.toList := by
    show (x.cps ++ y.cps).toList = _
    simp
  rw [e] at hc
  rcases List.mem_append.mp hc with z | z
  · exact hx c z
  · exact hy c z
theorem strOk_cut {x : Str} {lo hi : Option Int} (hx : PySem.PyData.strOk x = true) : PySem.PyData.strOk (cutS x lo hi) = true := by
  rw [strOk_iff] at hx ⊢
  intro c hc
  exact hx c (List.mem_of_mem_drop (List.mem_of_mem_take hc))
theorem str_app_len (x y : Str) : (x ++ y).length = x.length + y.length := by
  show (x.cps ++ y.cps).size = _
  rw [Array.size_append]
  rfl
theorem cutS_len {x : Str} {lo hi : Option Int} : (cutS x lo hi).length = min (HT.sIx x.length x.length hi - HT.sIx x.length 0 lo) (x.length - HT.sIx x.length 0 lo) := by
  show (List.toArray _).size = _
  rw [List.size_toArray, List.length_take, List.length_drop]
  rfl
theorem cutV_len {x : List V} {lo hi : Option Int} : (cutV x lo hi).length = min (HT.sIx x.length x.length hi - HT.sIx x.length 0 lo) (x.length - HT.sIx x.length 0 lo) := by
  unfold cutV
  rw [List.length_take, List.length_drop]
theorem okS_int {s : Nat} {i : Int} (h : i.natAbs < 10 ^ s) (hs : 0 < s) : okS (s + 1) (Str.ofString (toString i)) := by
  refine ⟨?_, ?_⟩
  · rw [strOk_iff, Str.ofString_eq_toList]
    intro c hc
    obtain ⟨k, _, e⟩ := List.mem_map.mp hc
    rw [← e]
    have := k.valid
    rcases this with h | ⟨_, h⟩
    · show k.val.toNat < _
      have h' : k.val.toNat < 55296 := h
      omega
    · exact h
  · rw [PySem.ofString_length]
    exact int_text_length_le10 hs h
theorem atI_mem {xs : List V} {i : Int} (h0 : 0 ≤ i) (h1 : i < (xs.length : Int)) : ∃ x, atI xs i = some x ∧ x ∈ xs := by
  obtain ⟨k, rfl⟩ : ∃ k : Nat, i = (k : Int) := ⟨i.toNat, by omega⟩
  have hk : k < xs.length := by omega
  exact ⟨xs[k], atI_nat (List.getElem?_eq_getElem hk), List.getElem_mem hk⟩
theorem okS_mono {s t : Nat} {x : Str} (h : okS s x) (e : s ≤ t) : okS t x := ⟨h.1, Nat.le_trans h.2 e⟩
theorem okS_app {s t : Nat} {x y : Str} (hx : okS s x) (hy : okS t y) : okS (s + t) (x ++ y) := ⟨strOk_app hx.1 hy.1, by
  rw [str_app_len]
  have h1 := hx.2
  have h2 := hy.2
  omega⟩
theorem sIx_n (n d k : Nat) : HT.sIx n d (some (k : Int)) = min k n := HT.sIx_nat n d k
theorem okS_pre {s k : Nat} {x : Str} (hx : okS s x) (hk : k ≤ x.length) : okS k (cutS x none (some (k : Int))) := ⟨strOk_cut hx.1, by
  rw [cutS_len, sIx_n, HT.sIx_none]
  omega⟩
theorem okS_suf {s k : Nat} {x : Str} (hx : okS s x) : okS (x.length - k) (cutS x (some (k : Int)) none) := ⟨strOk_cut hx.1, by
  rw [cutS_len, sIx_n, HT.sIx_none]
  omega⟩
theorem Oks.nil {K : PySem.W.Frag} {a : Addr} {H : Hp} {s n : Nat} : Oks K a H s n [] := ⟨[], .nil, fun d hd => nomatch hd⟩
theorem Oks.cons {K : PySem.W.Frag} {a : Addr} {H : Hp} {s n : Nat} {v : V} {vs : List V} (h : Ok K a H s n v) (h' : Oks K a H s n vs) : Oks K a H s n (v :: vs) := (Oks.one h).app h'
theorem Oks.rep {K : PySem.W.Frag} {a : Addr} {H : Hp} {s n : Nat} {v : V} (h : Ok K a H s n v) : ∀ k : Nat, Oks K a H s n (List.replicate k v)
  | 0 => .nil
  | k + 1 => by
    rw [List.replicate_succ]
    exact .cons h (Oks.rep h k)
theorem Ok.small {K : PySem.W.Frag} {a : Addr} {H : Hp} {s n : Nat} {i : Int} (h : i.natAbs < 100) (hs : 2 ≤ s) : Ok K a H s n (.int i) := .int (Nat.lt_of_lt_of_le (show i.natAbs < 10 ^ 2 from h) (Nat.pow_le_pow_right (by decide) hs))
theorem shl_one (n : Nat) : (1 : Int) * 2 ^ ((n : Nat) : Int).toNat = ((2 ^ n : Nat) : Int) := by
  rw [Int.one_mul, Int.toNat_natCast, Int.natCast_pow]
  rfl
theorem two_pow_le {n b : Nat} (h : n ≤ b) : 2 ^ n ≤ 2 ^ b := Nat.pow_le_pow_right (by decide) h
theorem at0 {v : V} {ws : List V} : atI (v :: ws) 0 = some v := atI_nat (j := 0) rfl
theorem all4 {P : PyData → Prop} {a b c d : PyData} (h1 : P a) (h2 : P b) (h3 : P c) (h4 : P d) : ∀ x ∈ [a, b, c, d], P x := by
  intro x hx
  rcases List.mem_cons.mp hx with e | hx
  · exact e ▸ h1
  rcases List.mem_cons.mp hx with e | hx
  · exact e ▸ h2
  rcases List.mem_cons.mp hx with e | hx
  · exact e ▸ h3
  rcases List.mem_cons.mp hx with e | hx
  · exact e ▸ h4
  exact nomatch hx
theorem off_upd {R : Addr} {H : Hp} {o : HO} (a : Addr) : off R (off a (upd H R o)) = off R (off a H) := by
  funext b
  unfold off
  by_cases h : b = R
  · rw [if_pos h, if_pos h]
  · rw [if_neg h, if_neg h]
    by_cases h' : b = a
    · rw [if_pos h', if_pos h']
    · rw [if_neg h', if_neg h', upd_ne h]
theorem off_mono {R : Addr} {H H' : Hp} (s : Same H H') : Same (off R H) (off R H') := fun b o e => by
  unfold off at e ⊢
  by_cases h : b = R
  · rw [if_pos h] at e
    cases e
  · rw [if_neg h] at e ⊢
    exact s b o e

theorem dp_sbs {K : PySem.W.Frag} {H : Hp} : ∀ {vs : List V} {rows : List (List Bool)}, DpAll K H vs (rows.map fun r => PyData.str (sb r)) → vs = rows.map fun r => V.str (sb r)
  | _, [], .nil => rfl
  | _, _ :: _, .cons (.str _) t => by rw [List.map_cons, dp_sbs t]
/-! ### generators, as the document tells them -/
structure Wf (n m : Nat) (rows : List (List Bool)) : Prop where
  n1 : 1 ≤ n
  n2 : n ≤ 10
  m1 : 1 ≤ m
  m2 : m ≤ 40
  len : rows.length = 2 ^ n
  row : ∀ r ∈ rows, r.length = m
theorem bitRow_sb {m : Nat} {r : List Bool} (h : r.length = m) : bitRow (m : Int) (.str (sb r)) = true := by
  show (decide (((sb r).length : Int) = (m : Int)) && (sb r).cps.toList.all _) = true
  rw [sb_len, h, decide_eq_true rfl, Bool.true_and, List.all_eq_true]
  intro c hc
  have e : (sb r).cps.toList = r.map cB := by
    show ((r.map cB).toArray).toList = _
    simp
  rw [e] at hc
  obtain ⟨b, _, rfl⟩ := List.mem_map.mp hc
  cases b <;> rfl
theorem sb_bitRow {m : Int} {d : PyData} (h : bitRow m d = true) : ∃ r : List Bool, d = .str (sb r) ∧ (r.length : Int) = m := by
  cases d with
  | str x =>
    have h' : (decide ((x.length : Int) = m) && x.cps.toList.all (fun c => c == 48 || c == 49)) = true := h
    obtain ⟨h1, h2⟩ := Bool.and_eq_true_iff.mp h'
    have key : ∀ l : List Nat, l.all (fun c => c == 48 || c == 49) = true → ∃ r : List Bool, l = r.map cB := by
      intro l
      induction l with
      | nil => exact fun _ => ⟨[], rfl⟩
      | cons c l ih =>
        intro hl
        rw [List.all_cons, Bool.and_eq_true] at hl
        obtain ⟨r, e⟩ := ih hl.2
        rcases Bool.or_eq_true_iff.mp hl.1 with z | z
        · exact ⟨false :: r, by rw [e, beq_iff_eq.mp z]; rfl⟩
        · exact ⟨true :: r, by rw [e, beq_iff_eq.mp z]; rfl⟩
    obtain ⟨r, e⟩ := key _ h2
    have ex : x = sb r := TL.ext_tl (by
      show x.cps.toList = ((r.map cB).toArray).toList
      rw [e])
    refine ⟨r, by rw [ex], ?_⟩
    have := of_decide_eq_true h1
    rw [ex, sb_len] at this
    exact this
  | _ => cases h
theorem rows_ok {many m : Nat} {rows : List (List Bool)} (h1 : rows.length = many) (h2 : ∀ r ∈ rows, r.length = m) : rowsOk (rowsD rows) (many : Int) (m : Int) = true := by
  show (decide (((rows.map fun r => PyData.str (sb r)).length : Int) = (many : Int)) && (rows.map fun r => PyData.str (sb r)).all (bitRow (m : Int))) = true
  rw [List.length_map, h1, decide_eq_true rfl, Bool.true_and, List.all_eq_true]
  intro x hx
  obtain ⟨r, hr, rfl⟩ := List.mem_map.mp hx
  exact bitRow_sb (h2 r hr)
theorem ok_rowsD {many m : Int} {d : PyData} (h : rowsOk d many m = true) : ∃ rows : List (List Bool), d = rowsD rows ∧ (rows.length : Int) = many ∧ ∀ r ∈ rows, (r.length : Int) = m := by
  cases d with
  | tuple xs =>
    have h' : (decide ((xs.length : Int) = many) && xs.all (bitRow m)) = true := h
    obtain ⟨h1, h2⟩ := Bool.and_eq_true_iff.mp h'
    have key : ∀ l : List PyData, l.all (bitRow m) = true → ∃ rows : List (List Bool), l = rows.map (fun r => .str (sb r)) ∧ ∀ r ∈ rows, (r.length : Int) = m := by
      intro l
      induction l with
      | nil => exact fun _ => ⟨[], rfl, fun r hr => nomatch hr⟩
      | cons c l ih =>
        intro hl
        rw [List.all_cons, Bool.and_eq_true] at hl
        obtain ⟨rows, e, hr⟩ := ih hl.2
        obtain ⟨r, er, hl'⟩ := sb_bitRow hl.1
        refine ⟨r :: rows, by rw [e, er]; rfl, fun x hx => ?_⟩
        rcases List.mem_cons.mp hx with z | z
        · rw [z]
          exact hl'
        · exact hr x z
    obtain ⟨rows, e, hr⟩ := key _ h2
    refine ⟨rows, by rw [e]; rfl, ?_, hr⟩
    have := of_decide_eq_true h1
    rw [e, List.length_map] at this
    exact this
  | _ => cases h
theorem wf_gen {n m : Nat} {rows : List (List Bool)} (h : Wf n m rows) : genOk (tabD n m rows) = true := by
  have e1 : whole (.int (n : Int)) 1 10 = true := by
    show (decide _ && decide _) = true
    rw [decide_eq_true (show (1 : Int) ≤ (n : Int) by have := h.n1; omega), decide_eq_true (show (n : Int) ≤ 10 by have := h.n2; omega)]
    rfl
  have e2 : whole (.int (m : Int)) 1 40 = true := by
    show (decide _ && decide _) = true
    rw [decide_eq_true (show (1 : Int) ≤ (m : Int) by have := h.m1; omega), decide_eq_true (show (m : Int) ≤ 40 by have := h.m2; omega)]
    rfl
  have e3 : genRows (.int (n : Int)) (.int (m : Int)) (rowsD rows) = true := by
    show rowsOk (rowsD rows) (1 * 2 ^ (n : Int).toNat) (m : Int) = true
    rw [shl_one]
    exact rows_ok h.len h.row
  show genOk (.tuple [.str "generator", .int (n : Int), .int (m : Int), rowsD rows]) = true
  rw [gen_eq, e1, e2, e3]
  decide +kernel
theorem named_iff {x : Str} {d : PyData} (h : named x d = true) : d = .str x := by
  cases d with
  | str y =>
    have h' : (y == x) = true := h
    rw [beq_iff_eq.mp h']
  | _ => cases h
theorem gen_wf {d : PyData} (h : genOk d = true) : ∃ (n m : Nat) (rows : List (List Bool)), d = tabD n m rows ∧ Wf n m rows := by
  unfold genOk at h
  split at h
  · rename_i k n m r
    obtain ⟨g3, h4⟩ := Bool.and_eq_true_iff.mp h
    obtain ⟨g2, h3⟩ := Bool.and_eq_true_iff.mp g3
    obtain ⟨h1, h2⟩ := Bool.and_eq_true_iff.mp g2
    obtain ⟨n, rfl, n1, n2⟩ := whole_int h2
    obtain ⟨m, rfl, m1, m2⟩ := whole_int h3
    obtain ⟨n, rfl⟩ : ∃ k : Nat, n = (k : Int) := ⟨n.toNat, by omega⟩
    obtain ⟨m, rfl⟩ : ∃ k : Nat, m = (k : Int) := ⟨m.toNat, by omega⟩
    have h4' : rowsOk r (1 * 2 ^ (n : Int).toNat) (m : Int) = true := h4
    rw [shl_one] at h4'
    obtain ⟨rows, rfl, hl, hr⟩ := ok_rowsD h4'
    refine ⟨n, m, rows, by rw [named_iff h1]; rfl, by omega, by omega, by omega, by omega, by omega, fun r hr' => by have := hr r hr'; omega⟩
  · cases h
theorem fun_no_gen {d : PyData} (h : funOk d = true) : genOk d = false ∧ ∃ ds, d = .tuple (.str "function" :: ds) := by
  unfold funOk at h
  split at h
  · rename_i k n l m t
    have h1 : named "function" k = true := by
      obtain ⟨h, _⟩ := Bool.and_eq_true_iff.mp h
      obtain ⟨h, _⟩ := Bool.and_eq_true_iff.mp h
      obtain ⟨h, _⟩ := Bool.and_eq_true_iff.mp h
      obtain ⟨h, _⟩ := Bool.and_eq_true_iff.mp h
      exact (Bool.and_eq_true_iff.mp h).1
    have e := named_iff h1
    subst e
    exact ⟨gen_no (by show ¬ 5 = 4; decide), _, rfl⟩
  · cases h
theorem wf_block {n m : Nat} {rows : List (List Bool)} (h : Wf n m rows) : blockOk (tabD n m rows) = true := by
  unfold blockOk
  rw [wf_gen h]
  rfl
/-- data of tuples, texts and numbers alone -/
def Pl : Nat → PyData → Prop
  | 0, d => match d with
    | .int _ => True
    | .str x => okT x
    | _ => False
  | n + 1, d => match d with
    | .int _ => True
    | .str x => okT x
    | .tuple xs => xs.length ≤ 5000 ∧ ∀ x ∈ xs, Pl n x
    | _ => False
theorem pl_str {n : Nat} {x : Str} : Pl n (.str x) ↔ okT x := by cases n <;> exact Iff.rfl
theorem pl_int {n : Nat} {i : Int} : Pl n (.int i) := by cases n <;> trivial
theorem pl_tup {n : Nat} {xs : List PyData} (h : Pl n (.tuple xs)) : xs.length ≤ 5000 ∧ ∃ m, n = m + 1 ∧ ∀ x ∈ xs, Pl m x := by
  cases n with
  | zero => exact h.elim
  | succ n => exact ⟨h.1, n, rfl, h.2⟩
theorem pl_gd : ∀ {n : Nat} {d : PyData}, Pl n d → Gd n d
  | 0, .int _, _ => trivial
  | 0, .str _, h => h
  | n + 1, .int _, _ => trivial
  | n + 1, .str _, h => h
  | n + 1, .tuple xs, h => ⟨h.1, fun x hx => pl_gd (h.2 x hx)⟩
theorem dp_offs {K : PySem.W.Frag} {a d : Addr} {H : Hp} (hh : Hnd H a d) : ∀ {n : Nat} {D : PyData} {v : V}, Pl n D → Dp K H v D → Dp K (off a H) v D
  | 0, .int _, _, _, .int i => .int i
  | 0, .str _, _, _, .str x => .str x
  | n + 1, .int _, _, _, .int i => .int i
  | n + 1, .str _, _, _, .str x => .str x
  | n + 1, .tuple xs, _, h, .tup hT hA => .tup (sqt_off hh hT) (go h.2 hA)
where go {n : Nat} : ∀ {xs : List PyData} {vs : List V}, (∀ x ∈ xs, Pl n x) → DpAll K H vs xs → DpAll K (off a H) vs xs
  | [], _, _, .nil => .nil
  | x :: xs, _, h, .cons hv t => .cons (dp_offs hh (h x List.mem_cons_self) hv) (go (fun y hy => h y (List.mem_cons_of_mem _ hy)) t)
theorem okT_sb {r : List Bool} (h : r.length ≤ 5000) : okT (sb r) := by
  refine ⟨?_, by rw [sb_len]; exact h⟩
  unfold PySem.PyData.strOk
  rw [← Array.all_toList, List.all_eq_true]
  intro c hc
  have e : (sb r).cps.toList = r.map cB := by
    show ((r.map cB).toArray).toList = _
    simp
  rw [e] at hc
  obtain ⟨b, _, rfl⟩ := List.mem_map.mp hc
  cases b <;> decide
theorem pl_tab {n m : Nat} {rows : List (List Bool)} (h1 : rows.length ≤ 5000) (h2 : ∀ r ∈ rows, r.length ≤ 5000) : Pl 2 (tabD n m rows) := by
  refine ⟨by show 4 ≤ 5000; decide, fun x hx => ?_⟩
  rcases List.mem_cons.mp hx with e | hx
  · rw [e]
    exact pl_str.mpr ⟨by decide +kernel, by decide +kernel⟩
  rcases List.mem_cons.mp hx with e | hx
  · rw [e]
    exact pl_int
  rcases List.mem_cons.mp hx with e | hx
  · rw [e]
    exact pl_int
  rcases List.mem_cons.mp hx with e | hx
  · rw [e]
    refine ⟨by rw [List.length_map]; exact h1, fun y hy => ?_⟩
    obtain ⟨r, hr, rfl⟩ := List.mem_map.mp hy
    exact pl_str.mpr (okT_sb (h2 r hr))
  exact nomatch hx
theorem Wf.pl {n m : Nat} {rows : List (List Bool)} (h : Wf n m rows) : Pl 2 (tabD n m rows) := by
  have h2 := two_pow_le (b := 10) h.n2
  have h1 := h.len
  exact pl_tab (by omega) fun r hr => by
    have := h.row r hr
    have := h.m2
    omega
/-- where a generator stands -/
theorem dp_tab {K : PySem.W.Frag} {H : Hp} {v : V} {n m : Nat} {rows : List (List Bool)} (h : Dp K H v (tabD n m rows)) : ∃ a r, v = .ref a ∧ SqT K H a [.str "generator", .int (n : Int), .int (m : Int), .ref r] ∧ SqT K H r (rows.map fun r => V.str (sb r)) := by
  cases h with
  | @tup a ws _ hT hA =>
    cases hA with
    | cons h0 hA =>
      cases hA with
      | cons h1 hA =>
        cases hA with
        | cons h2 hA =>
          cases hA with
          | cons h3 hA =>
            cases hA
            cases h0
            cases h1
            cases h2
            cases h3 with
            | @tup r us _ hR hU => exact ⟨a, r, rfl, hT, by rw [← dp_sbs hU]; exact hR⟩
theorem tab_dp {K : PySem.W.Frag} {H : Hp} {a r : Addr} {n m : Nat} {rows : List (List Bool)} (h1 : SqT K H a [.str "generator", .int (n : Int), .int (m : Int), .ref r]) (h2 : SqT K H r (rows.map fun r => V.str (sb r))) : Dp K H (.ref a) (tabD n m rows) :=
  .tup h1 (.cons (.str _) (.cons (.int _) (.cons (.int _) (.cons (.tup h2 (dp_bits rows)) .nil))))

/-! ### data compared with a text or an empty tuple, of any depth -/
def rEqF (K : PySem.W.Frag) : R2 := fun x y H Q => ∃ d e, Dp K H x d ∧ Dp K H y e ∧ d.canLay0 = true ∧ e.canLay0 = true ∧ e.depth ≤ 8 ∧ Q (.bl (PyData.eqv d e)) H
def rNeF (K : PySem.W.Frag) : R2 := fun x y H Q => ∃ d e, Dp K H x d ∧ Dp K H y e ∧ d.canLay0 = true ∧ e.canLay0 = true ∧ e.depth ≤ 8 ∧ Q (.bl (!PyData.eqv d e)) H
/-- a dict that the module's top has written: its keys, and what each holds -/
inductive KeysAre (R : Str → Value → Prop) : List DictEntry → List Str → Prop where
  | nil : KeysAre R [] []
  | cons {e : DictEntry} {k : Str} {t : Tok} {es : List DictEntry} {ks : List Str} (h : e.key = .str k t) (r : R k e.val) (q : KeysAre R es ks) : KeysAre R (e :: es) (k :: ks)
/-- the values of a dict: what is told of each can be said of a value of the proof's own -/
def HasV (R : Str → Value → Prop) : Prop := ∀ z u, R z u → ∃ v, RelV v u
structure DictK (K : PySem.W.Frag) (w : World) (d : Addr) (ks : List Str) (R : Str → Value → Prop) : Prop where
  ex : ∃ es n, KDict K w d es n ∧ KeysAre R es.toList ks
  has : HasV R
theorem keys_isStr {k z : Str} {t : Tok} : (Value.str k t).isStr z = decide (k = z) := by
  show (k == z) = _
  by_cases h : k = z
  · rw [decide_eq_true h, h]
    exact beq_self_eq_true z
  · rw [decide_eq_false h]
    exact beq_eq_false_iff_ne.mpr h
theorem keys_no {R : Str → Value → Prop} {z : Str} : ∀ {es : List DictEntry} {ks : List Str}, KeysAre R es ks → z ∉ ks → es.find? (·.key.isStr z) = none ∧ es.any (·.refKey) = false
  | _, _, .nil, _ => ⟨rfl, rfl⟩
  | _, _, .cons (e := e) (k := k) h r q, hz => by
    obtain ⟨h1, h2⟩ := keys_no q fun m => hz (List.mem_cons_of_mem _ m)
    have hk : e.key.isStr z = false := by
      rw [h, keys_isStr]
      exact decide_eq_false fun m => hz (m ▸ List.mem_cons_self)
    have hr : e.refKey = false := by
      unfold DictEntry.refKey
      rw [h]
    exact ⟨by rw [List.find?_cons, hk]; exact h1, by rw [List.any_cons, hr, h2]; rfl⟩
theorem keys_yes {R : Str → Value → Prop} {z : Str} : ∀ {es : List DictEntry} {ks : List Str}, KeysAre R es ks → z ∈ ks → ∃ e, es.find? (·.key.isStr z) = some e ∧ R z e.val
  | _, _, .cons (e := e) (k := k) h r q, hz => by
    by_cases hk : k = z
    · refine ⟨e, ?_, hk ▸ r⟩
      rw [List.find?_cons, h, keys_isStr, decide_eq_true hk]
    · rcases List.mem_cons.mp hz with m | m
      · exact absurd m.symm hk
      · obtain ⟨e', h1, h2⟩ := keys_yes q m
        refine ⟨e', ?_, h2⟩
        rw [List.find?_cons, h, keys_isStr, decide_eq_false hk]
        exact h1
theorem nsIn_no {K : PySem.W.Frag} {w : World} {d : Addr} {es : Array DictEntry} {n : Nat} {R : Str → Value → Prop} {ks : List Str} {z : Str} (D : KDict K w d es n) (q : KeysAre R es.toList ks) (hz : z ∉ ks) : PySem.W.nsIn K d z = some none := by
  obtain ⟨h1, h2⟩ := keys_no q hz
  unfold PySem.W.nsIn
  rw [D.at_]
  dsimp only
  rw [h1]
  dsimp only
  rw [h2]
  rfl
theorem nsIn_yes {K : PySem.W.Frag} {w : World} {d : Addr} {es : Array DictEntry} {n : Nat} {R : Str → Value → Prop} {ks : List Str} {z : Str} (D : KDict K w d es n) (q : KeysAre R es.toList ks) (hz : z ∈ ks) : ∃ u, PySem.W.nsIn K d z = some (some u) ∧ R z u := by
  obtain ⟨e, h1, h2⟩ := keys_yes q hz
  refine ⟨e.val, ?_, h2⟩
  unfold PySem.W.nsIn
  rw [D.at_]
  dsimp only
  rw [h1]
def rInDk (d : Addr) (ks : List Str) : R2 := fun x y H Q => ∃ z : Str, x = .str z ∧ y = .ref d ∧ Q (.bl (decide (z ∈ ks))) H
def rIxDk (d : Addr) (ks : List Str) (R : Str → Value → Prop) : R2 := fun x y H Q => ∃ z : Str, x = .ref d ∧ y = .str z ∧ z ∈ ks ∧ ∀ v u, RelV v u → R z u → Q v H
section
variable {X : Cx}
theorem op_eqF (K : PySem.W.Frag) (hu : X.A.units + 64 < cLine) (h : X.K = K := by rfl) : OpR X (compareOp .Eq) (rEqF K) := by
  subst h
  intro pins s σ H x y v u Q I rx ry h
  obtain ⟨d, e, hd, he, sd, se, hdep, q⟩ := h
  obtain ⟨as, r1⟩ := Dp.reads I d x v hd rx
  obtain ⟨bs, r2⟩ := Dp.reads I e y u he ry
  exact SeqAt.compareEq_reads r1 r2 sd se (by have := Nat.min_le_right d.depth e.depth; omega) ⟨.bl _, H, I, rfl, q⟩
theorem op_neF (K : PySem.W.Frag) (hu : X.A.units + 64 < cLine) (h : X.K = K := by rfl) : OpR X (compareOp .NotEq) (rNeF K) := by
  subst h
  intro pins s σ H x y v u Q I rx ry h
  obtain ⟨d, e, hd, he, sd, se, hdep, q⟩ := h
  obtain ⟨as, r1⟩ := Dp.reads I d x v hd rx
  obtain ⟨bs, r2⟩ := Dp.reads I e y u he ry
  exact SeqAt.compareNe_reads r1 r2 sd se (by have := Nat.min_le_right d.depth e.depth; omega) ⟨.bl _, H, I, rfl, q⟩
theorem in_dk {d : Addr} {ks : List Str} {R : Str → Value → Prop} (D : DictK X.K X.w d ks R) : OpR X (compareOp .In) (rInDk d ks) := by
  obtain ⟨es, n, kd, ka⟩ := D.ex
  intro pins s σ H x y v u Q I rx ry h
  obtain ⟨z, rfl, rfl, q⟩ := h
  by_cases hz : z ∈ ks
  · obtain ⟨u', e, _⟩ := nsIn_yes kd ka hz
    rw [decide_eq_true hz] at q
    exact op_in_kd kd pins s σ H _ _ v u Q I rx ry ⟨z, some u', rfl, rfl, e, q⟩
  · rw [decide_eq_false hz] at q
    exact op_in_kd kd pins s σ H _ _ v u Q I rx ry ⟨z, none, rfl, rfl, nsIn_no kd ka hz, q⟩
theorem ix_dk {d : Addr} {ks : List Str} {R : Str → Value → Prop} (D : DictK X.K X.w d ks R) : IxR X (rIxDk d ks R) := by
  have hv := D.has
  obtain ⟨es, n, kd, ka⟩ := D.ex
  intro value slice pins s σ H x y v u Q I rx ry h hs
  obtain ⟨z, rfl, rfl, hz, q⟩ := h
  obtain ⟨u', e, r⟩ := nsIn_yes kd ka hz
  obtain ⟨v', rv⟩ := hv z u' r
  exact ix_kdict value slice pins s σ H _ _ v u Q I rx ry ⟨d, z, v', rfl, rfl, ⟨es, n, u', kd.at_, kd.lit, e, rv⟩, q v' u' rv r⟩ hs
/-- a local name that holds one of several defs -/
def tCallH (i : Nat) (R : Addr → Sp → Prop) (t : TA) : TE := fun σ H Q => ∃ f sp, σ[i]? = some (some (.ref f)) ∧ R f sp ∧ t σ H fun vs H1 => sp vs H1 Q (fun _ _ _ => False)
theorem pe_callH {k j i : Nat} {R : Addr → Sp → Prop} {x : Str} {p pos : Pos} {e : Expr} {es : List Expr} {t : TA} (A : ∀ f sp, R f sp → Held X.prog X.w X.K X.mg X.base k f sp) (hr : Room j X.A) (hk : k ≤ j) (hN : X.N[i]? = some x) (hv : Vis X.env.scope x) (ha : PA X (e :: es) t)
    (hdb : (x == ("__debug__" : Str)) = false := by decide) (hcd : (x == ("__classdict__" : Str)) = false := by decide)
    (he : starEach (e :: es) X.env = (false, eval e X.env) :: starEach es X.env := by rfl) (hpl : (backTo pos (starEach es X.env)).any (·.1) = false := by rfl) : PE X (.Call (.Name x p) (e :: es) [] pos) (tCallH i R t) :=
  ⟨fun pins s σ H Q I h => by
    obtain ⟨f, sp, h1, h2, h3⟩ := h
    exact (pe_callA (S := fun f' => if f' = f then some sp else none) (fun f' sp' q => by
      by_cases z : f' = f
      · rw [if_pos z] at q
        rw [z, ← Option.some.inj q]
        exact A f sp h2
      · rw [if_neg z] at q
        cases q) (hr.mono hk) hN hv ha hdb hcd he hpl).run pins s σ H Q I ⟨f, sp, h1, if_pos rfl, h3⟩⟩
end
theorem walk_zipT {K : PySem.W.Frag} {a b : Addr} {xs ys : List V} {n : Nat} (hx : xs.length = n) (hy : ys.length = n) : Walk (RZ.ItzT K a b) n (fun H => SqT K H a xs ∧ SqT K H b ys) (YPair (fun i => xs[i]?) (fun i => ys[i]?)) where
  goes := fun i _ hi q => ⟨xs, ys, xs[i]'(by omega), ys[i]'(by omega), q.1, q.2, List.getElem?_eq_getElem _, List.getElem?_eq_getElem _⟩
  stops := fun _ q => ⟨xs, ys, q.1, q.2, .inl (by omega)⟩
  yields := fun i H v H' _ q y => by
    obtain ⟨T, x, z, h1, h2, h3, h4, h5⟩ := y
    exact ⟨T, x, z, h1, h2, h3, h4 xs q.1, h5 ys q.2⟩
/-! ### facts of data -/
theorem gd_lay {n : Nat} {d : PyData} (h : Gd n d) : d.canLay0 = true := (gd_facts h).1
theorem named_str {x z : Str} : named x (.str z) = decide (z = x) := by
  show (PyData.eqv (.str z) (.str x)) = _
  simp only [PyData.eqv]
  by_cases h : z = x
  · rw [decide_eq_true h, h]
    exact beq_self_eq_true x
  · rw [decide_eq_false h]
    exact beq_eq_false_iff_ne.mpr h
theorem eqv_nil {xs : List PyData} : PyData.eqv (.tuple xs) (.tuple []) = xs.isEmpty := by
  cases xs <;> simp [PyData.eqv, PyData.eqvAll]
theorem str_lay (x : Str) (h : PySem.PyData.strOk x = true := by decide +kernel) : PyData.canLay0 (.str x) = true := by
  unfold PyData.canLay0
  exact h
theorem str_dep (x : Str) : PyData.depth (.str x) ≤ 8 := by
  unfold PyData.depth
  omega
theorem nil_lay : PyData.canLay0 (.tuple []) = true := by decide +kernel
theorem nil_dep : PyData.depth (.tuple []) ≤ 8 := by decide +kernel

/-! ### what a breaker is -/
def numL : List (Str × List (Int × Int)) := [("marks", [(1, 40), (1, 40)]), ("secrets", [(1, 40), (1, 40)]), ("once", [(1, 40)]), ("counter", [(1, 40), (1, 256), (1, 40)]), ("cut", [(1, 40)]), ("next", [(1, 40)]), ("guess", [(1, 40)]), ("bit", []), ("hard", [(1, 10)])]
def numK : List Str := ["marks", "secrets", "once", "counter", "cut", "next", "guess", "bit", "hard"]
def fitK : List Str := ["longer", "tree", "opening", "onetime"]
def numOf (z : Str) : List (Int × Int) := ((numL.find? fun p => decide (p.1 = z)).map (·.2)).getD []
def madeZ (z : Str) : Bool := decide (z ∈ numK) || decide (z ∈ fitK)
def madeD : PyData → Bool
  | .tuple (.str z :: _) => madeZ z
  | _ => false
def numsOk : List PyData → List (Int × Int) → Bool
  | [], [] => true
  | d :: ds, b :: bs => whole d b.1 b.2 && numsOk ds bs
  | _, _ => false
def pairD (b : Int × Int) : PyData := .tuple [.int b.1, .int b.2]
def pairsD (bs : List (Int × Int)) : PyData := .tuple (bs.map pairD)
def genNext : PyData → Bool
  | .tuple [_, .int n, .int m, _] => decide (m = n + 1)
  | _ => false
def genTwice (d q : PyData) : PyData → Bool
  | .tuple [_, .int n, .int m, _] => decide (m = 2 * n) && (decide (n ≤ 8) && (whole d 1 (if 12 - n < 8 then 12 - n else 8) && whole q 1 1000))
  | _ => false
def fitLonger : List PyData → Bool
  | [g, k] => genOk g && (genNext g && whole k 1 20)
  | _ => false
def fitTree : List PyData → Bool
  | [g, d, q] => genOk g && genTwice d q g
  | _ => false
def fitOpening : List PyData → Bool
  | [.str x] => decide ((1 : Int) ≤ (x.length : Int)) && (decide ((x.length : Int) ≤ 40) && rowsOk (.tuple [.str x]) 1 (x.length : Int))
  | _ => false
def fitOnetime : List PyData → Bool
  | [f, l] => genOk f && whole l 1 4
  | _ => false
def fitZ (z : Str) (own : List PyData) : Bool :=
  if z ∈ numK then numsOk own (numOf z) else if z = "longer" then fitLonger own else if z = "tree" then fitTree own else if z = "opening" then fitOpening own else fitOnetime own
def fitsD : PyData → Bool
  | .tuple (.str z :: r) => fitZ z r.dropLast
  | _ => false
def lastD : PyData → PyData
  | .tuple xs => xs.getLastD .none
  | _ => .none
def headIs (x : Str) : PyData → Bool
  | .tuple (k :: _) => named x k
  | _ => false
def partOk : PyData → Bool
  | .str x => decide (x = "0") || decide (x = "1")
  | d => whole d 0 9999
def partsOk : PyData → Bool
  | .tuple xs => xs.all partOk
  | _ => false
def sayOk : List PyData → Bool
  | [p] => partsOk p
  | _ => false
def tossOk : List PyData → Bool
  | [.tuple xs] => decide ((1 : Int) ≤ (xs.length : Int)) && decide ((xs.length : Int) ≤ 64)
  | _ => false
def lookOk : List PyData → Bool
  | [n, _, _] => whole n 0 9999
  | _ => false
def askOk : List PyData → Bool
  | [p, _] => partsOk p
  | _ => false
def looksOk : PyData → Bool
  | .tuple (k :: r) => if named "say" k then sayOk r else if named "toss" k then tossOk r else if named "look" k then lookOk r else named "ask" k && askOk r
  | _ => false
def kidsD : PyData → List PyData
  | .tuple (k :: r) => if named "toss" k then (match r with
    | .tuple xs :: _ => xs
    | _ => []) else r.drop 1
  | _ => []
def okN : Nat → PyData → Bool
  | 0, _ => false
  | n + 1, d => looksOk d && (kidsD d).all (okN n)
def szN : Nat → PyData → Nat
  | 0, _ => 1
  | n + 1, d => 1 + ((kidsD d).map (szN n)).sum
def plainOk (d : PyData) : Bool := okN 60 d && decide (szN 60 d ≤ 2001)
def chk : Nat → PyData → Bool
  | n, d => if madeD d then (match n with
    | 0 => false
    | m + 1 => fitsD d && (!(headIs "onetime" d && madeD (lastD d)) && chk m (lastD d))) else plainOk d
def brOk (d : PyData) : Bool := chk 20 d
/-! ### promises -/
def spD (K : PySem.W.Frag) (g : PyData → Bool) : Sp := fun vs H Q _ => ∃ (v : V) (d : PyData) (n : Nat), vs = [v] ∧ Dp K H v d ∧ Gd n d ∧ ∀ H', Same H H' → Q (.bl (g d)) H'
def spOwn (K : PySem.W.Frag) (g : List PyData → Bool) : Sp := fun vs H Q _ => ∃ (v : V) (ds : List PyData) (n : Nat), vs = [v] ∧ Dp K H v (.tuple ds) ∧ Gd n (.tuple ds) ∧ ∀ H', Same H H' → Q (.bl (g ds)) H'
def spNums (K : PySem.W.Frag) : Sp := fun vs H Q _ => ∃ (v y : V) (ds : List PyData) (bs : List (Int × Int)) (n : Nat), vs = [v, y] ∧ Dp K H v (.tuple ds) ∧ Gd n (.tuple ds) ∧ Dp K H y (pairsD bs) ∧ bs.length ≤ 100 ∧ ∀ H', Same H H' → Q (.bl (numsOk ds bs)) H'
def spKids (K : PySem.W.Frag) : Sp := fun vs H Q _ => ∃ (v : V) (d : PyData) (n : Nat) (G : Hp), vs = [v] ∧ Same G H ∧ Dp K G v d ∧ Gd n d ∧ looksOk d = true ∧ ∀ a us H', Same H H' → SqT K H' a us → DpAll K G us (kidsD d) → Q (.ref a) H'
def spCheckB (K : PySem.W.Frag) (C : Addr) : Sp := fun vs H Q E => ∃ (v : V) (d : PyData) (n : Nat), vs = [v] ∧ Dp K H v d ∧ Gd n d ∧ ∀ H', Same H H' → (brOk d = true → Q .non H') ∧ (brOk d = false → E (.ref C) none H')
/-- what the dicts of the made breakers hold -/
def numR (K : PySem.W.Frag) : Str → Value → Prop := fun z u => ∃ a, u = .ref a ∧ ∀ H, Dp K H (.ref a) (pairsD (numOf z))
def fitR (mg : Str → Option Value) : Str → Value → Prop := fun z u => ∃ f, u = .ref f ∧ ((z = "longer" ∧ mg "fits_longer" = some (.ref f)) ∨ (z = "tree" ∧ mg "fits_tree" = some (.ref f)) ∨ (z = "opening" ∧ mg "fits_opening" = some (.ref f)) ∨ (z = "onetime" ∧ mg "fits_onetime" = some (.ref f)))

def topS (i : Nat) : Stmt := PySem.Challenge.pw_breakback_k08_the_most_asks.main.body.getD i (.Pass ⟨0, 0, 0, 0⟩)
abbrev s_is_whole : Stmt := topS 5
abbrev s_are_rows : Stmt := topS 6
abbrev s_is_generator : Stmt := topS 7
abbrev s_are_numbers : Stmt := topS 15
abbrev s_fits_longer : Stmt := topS 16
abbrev s_fits_tree : Stmt := topS 17
abbrev s_fits_opening : Stmt := topS 18
abbrev s_fits_onetime : Stmt := topS 19
abbrev s_is_made : Stmt := topS 21
abbrev s_fits_kind : Stmt := topS 22
abbrev s_is_part : Stmt := topS 23
abbrev s_are_parts : Stmt := topS 24
abbrev s_looks_plain : Stmt := topS 25
abbrev s_directly_within : Stmt := topS 26
abbrev s_is_plain_breaker : Stmt := topS 27
abbrev s_check_breaker : Stmt := topS 28
abbrev s_plain_asks : Stmt := topS 29
abbrev s_most_asks : Stmt := topS 30
abbrev s_law_draws : Stmt := topS 32
abbrev s_law_take : Stmt := topS 33
abbrev s_law_string : Stmt := topS 34
abbrev s_law_table : Stmt := topS 35
abbrev s_law_parts : Stmt := topS 36
abbrev s_law_breaker : Stmt := topS 37
abbrev s_law_made : Stmt := topS 38
abbrev s_law_most : Stmt := topS 39
abbrev s_law_is_right : Stmt := topS 40
abbrev s_law : Stmt := topS 41
theorem sc_is_whole : FnScope ["value", "low", "high"] ["value", "low", "high"] (defScope s_is_whole) := ⟨rfl, rfl, rfl, by decide +kernel, rfl, by decide +kernel, by decide +kernel⟩
theorem sc_are_rows : FnScope ["value", "many", "m", "row"] ["value", "many", "m"] (defScope s_are_rows) := ⟨rfl, rfl, rfl, by decide +kernel, rfl, by decide +kernel, by decide +kernel⟩
theorem sc_is_generator : FnScope ["value", "kind", "n", "m", "rows"] ["value"] (defScope s_is_generator) := ⟨rfl, rfl, rfl, by decide +kernel, rfl, by decide +kernel, by decide +kernel⟩
theorem sc_are_numbers : FnScope ["own", "bounds", "value", "low", "high"] ["own", "bounds"] (defScope s_are_numbers) := ⟨rfl, rfl, rfl, by decide +kernel, rfl, by decide +kernel, by decide +kernel⟩
theorem sc_fits_longer : FnScope ["own", "n", "m"] ["own"] (defScope s_fits_longer) := ⟨rfl, rfl, rfl, by decide +kernel, rfl, by decide +kernel, by decide +kernel⟩
theorem sc_fits_tree : FnScope ["own", "n", "m"] ["own"] (defScope s_fits_tree) := ⟨rfl, rfl, rfl, by decide +kernel, rfl, by decide +kernel, by decide +kernel⟩
theorem sc_fits_opening : FnScope ["own"] ["own"] (defScope s_fits_opening) := ⟨rfl, rfl, rfl, by decide +kernel, rfl, by decide +kernel, by decide +kernel⟩
theorem sc_fits_onetime : FnScope ["own"] ["own"] (defScope s_fits_onetime) := ⟨rfl, rfl, rfl, by decide +kernel, rfl, by decide +kernel, by decide +kernel⟩
theorem sc_is_made : FnScope ["value"] ["value"] (defScope s_is_made) := ⟨rfl, rfl, rfl, by decide +kernel, rfl, by decide +kernel, by decide +kernel⟩
theorem sc_fits_kind : FnScope ["made", "kind", "own", "fits"] ["made"] (defScope s_fits_kind) := ⟨rfl, rfl, rfl, by decide +kernel, rfl, by decide +kernel, by decide +kernel⟩
theorem sc_is_part : FnScope ["value"] ["value"] (defScope s_is_part) := ⟨rfl, rfl, rfl, by decide +kernel, rfl, by decide +kernel, by decide +kernel⟩
theorem sc_are_parts : FnScope ["value", "part"] ["value"] (defScope s_are_parts) := ⟨rfl, rfl, rfl, by decide +kernel, rfl, by decide +kernel, by decide +kernel⟩
theorem sc_looks_plain : FnScope ["value", "kind", "many"] ["value"] (defScope s_looks_plain) := ⟨rfl, rfl, rfl, by decide +kernel, rfl, by decide +kernel, by decide +kernel⟩
theorem sc_directly_within : FnScope ["plain"] ["plain"] (defScope s_directly_within) := ⟨rfl, rfl, rfl, by decide +kernel, rfl, by decide +kernel, by decide +kernel⟩
theorem sc_is_plain_breaker : FnScope ["value", "waiting", "many", "part", "depth", "inner"] ["value"] (defScope s_is_plain_breaker) := ⟨rfl, rfl, rfl, by decide +kernel, rfl, by decide +kernel, by decide +kernel⟩
theorem sc_check_breaker : FnScope ["breaker", "inner", "depth"] ["breaker"] (defScope s_check_breaker) := ⟨rfl, rfl, rfl, by decide +kernel, rfl, by decide +kernel, by decide +kernel⟩
theorem sc_plain_asks : FnScope ["breaker", "most", "waiting", "part", "asks", "inner"] ["breaker"] (defScope s_plain_asks) := ⟨rfl, rfl, rfl, by decide +kernel, rfl, by decide +kernel, by decide +kernel⟩
theorem sc_most_asks : FnScope ["breaker", "own", "inner"] ["breaker"] (defScope s_most_asks) := ⟨rfl, rfl, rfl, by decide +kernel, rfl, by decide +kernel, by decide +kernel⟩
theorem sc_law_draws : FnScope ["script", "many", "rests", "draws", "k", "cell", "at", "mixed"] ["script", "many"] (defScope s_law_draws) := ⟨rfl, rfl, rfl, by decide +kernel, rfl, by decide +kernel, by decide +kernel⟩
theorem sc_law_take : FnScope ["hand", "many", "at", "draws"] ["hand", "many"] (defScope s_law_take) := ⟨rfl, rfl, rfl, by decide +kernel, rfl, by decide +kernel, by decide +kernel⟩
theorem sc_law_string : FnScope ["hand", "length", "k"] ["hand", "length"] (defScope s_law_string) := ⟨rfl, rfl, rfl, by decide +kernel, rfl, by decide +kernel, by decide +kernel⟩
theorem sc_law_table : FnScope ["hand", "n", "m", "rows", "k"] ["hand", "n", "m"] (defScope s_law_table) := ⟨rfl, rfl, rfl, by decide +kernel, rfl, by decide +kernel, by decide +kernel⟩
theorem sc_law_parts : FnScope ["hand", "length", "found", "k", "kind"] ["hand", "length"] (defScope s_law_parts) := ⟨rfl, rfl, rfl, by decide +kernel, rfl, by decide +kernel, by decide +kernel⟩
theorem sc_law_breaker : FnScope ["hand", "depth", "asks", "length", "said", "kind", "size", "first", "many", "k"] ["hand", "depth", "asks", "length", "said"] (defScope s_law_breaker) := ⟨rfl, rfl, rfl, by decide +kernel, rfl, by decide +kernel, by decide +kernel⟩
theorem sc_law_made : FnScope ["hand", "inner", "kind", "n", "some"] ["hand", "inner"] (defScope s_law_made) := ⟨rfl, rfl, rfl, by decide +kernel, rfl, by decide +kernel, by decide +kernel⟩
theorem sc_law_most : FnScope ["breaker", "kind", "one"] ["breaker"] (defScope s_law_most) := ⟨rfl, rfl, rfl, by decide +kernel, rfl, by decide +kernel, by decide +kernel⟩
theorem sc_law_is_right : FnScope ["breaker", "found"] ["breaker"] (defScope s_law_is_right) := ⟨rfl, rfl, rfl, by decide +kernel, rfl, by decide +kernel, by decide +kernel⟩
theorem sc_law : FnScope ["script", "hand", "plain", "breaker", "k", "chain", "bad"] ["script"] (defScope s_law) := ⟨rfl, rfl, rfl, by decide +kernel, rfl, by decide +kernel, by decide +kernel⟩
structure Cs where
  BreakError : Addr
  BadBreaker : Addr
  NUMBERS : Addr
  FITTING : Addr
structure Txt (K : PySem.W.Frag) (w : World) (mg : Str → Option Value) (cs : Cs) : Prop where
  gl_BreakError : mg "BreakError" = some (.ref cs.BreakError)
  gl_BadBreaker : mg "BadBreaker" = some (.ref cs.BadBreaker)
  gl_NUMBERS : mg "NUMBERS" = some (.ref cs.NUMBERS)
  gl_FITTING : mg "FITTING" = some (.ref cs.FITTING)
  dk_NUMBERS : DictK K w cs.NUMBERS numK (numR K)
  dk_FITTING : DictK K w cs.FITTING fitK (fitR mg)
  x_BadBreaker : Exn K mg "BadBreaker" cs.BadBreaker
  e_BadBreaker : ExcC K cs.BadBreaker
  exm_BadBreaker_BadBreaker : PySem.W.exmOne K (.ref cs.BadBreaker) (.ref cs.BadBreaker) = some true
  n_abs : mg "abs" = none
  n_all : mg "all" = none
  n_bool : mg "bool" = none
  n_int : mg "int" = none
  n_isinstance : mg "isinstance" = none
  n_len : mg "len" = none
  n_max : mg "max" = none
  n_min : mg "min" = none
  n_range : mg "range" = none
  n_str : mg "str" = none
  n_tuple : mg "tuple" = none
  n_zip : mg "zip" = none
  g_DEEPEST_MADE : ∃ u, mg "DEEPEST_MADE" = some u ∧ RelV (.int 20) u
  g_DEEPEST_PLAIN : ∃ u, mg "DEEPEST_PLAIN" = some u ∧ RelV (.int 60) u
  g_LAST_BIT : ∃ u, mg "LAST_BIT" = some u ∧ RelV (.int 9999) u
  g_MOST_BITS : ∃ u, mg "MOST_BITS" = some u ∧ RelV (.int 40) u
  g_MOST_TOSSED : ∃ u, mg "MOST_TOSSED" = some u ∧ RelV (.int 64) u
  g_MOST_WITHIN : ∃ u, mg "MOST_WITHIN" = some u ∧ RelV (.int 2000) u
theorem nums_len : ∀ {ds : List PyData} {bs : List (Int × Int)}, ds.length ≠ bs.length → numsOk ds bs = false
  | [], [], h => absurd rfl h
  | [], _ :: _, _ => rfl
  | _ :: _, [], _ => rfl
  | d :: ds, b :: bs, h => by
    show (whole d b.1 b.2 && numsOk ds bs) = false
    rw [nums_len fun e => h (congrArg Nat.succ e), Bool.and_false]
theorem dp2 {K : PySem.W.Frag} {H : Hp} {ws : List V} {xs : List PyData} (h : DpAll K H ws xs) (c : ws.length = 2) : ∃ v0 v1 d0 d1, ws = [v0, v1] ∧ xs = [d0, d1] ∧ Dp K H v0 d0 ∧ Dp K H v1 d1 := by
  match xs, ws, c, h with
  | _, [v0, v1], _, .cons h0 (.cons h1 .nil) => exact ⟨_, _, _, _, rfl, rfl, h0, h1⟩
theorem dp1 {K : PySem.W.Frag} {H : Hp} {ws : List V} {xs : List PyData} (h : DpAll K H ws xs) (c : ws.length = 1) : ∃ v0 d0, ws = [v0] ∧ xs = [d0] ∧ Dp K H v0 d0 := by
  match xs, ws, c, h with
  | _, [v0], _, .cons h0 .nil => exact ⟨_, _, rfl, rfl, h0⟩
theorem dp3 {K : PySem.W.Frag} {H : Hp} {ws : List V} {xs : List PyData} (h : DpAll K H ws xs) (c : ws.length = 3) : ∃ v0 v1 v2 d0 d1 d2, ws = [v0, v1, v2] ∧ xs = [d0, d1, d2] ∧ Dp K H v0 d0 ∧ Dp K H v1 d1 ∧ Dp K H v2 d2 := by
  match xs, ws, c, h with
  | _, [v0, v1, v2], _, .cons h0 (.cons h1 (.cons h2 .nil)) => exact ⟨_, _, _, _, _, _, rfl, rfl, h0, h1, h2⟩
theorem dp_cons {K : PySem.W.Frag} {H : Hp} {ws : List V} {x : PyData} {xs : List PyData} (h : DpAll K H ws (x :: xs)) : ∃ v vs, ws = v :: vs ∧ Dp K H v x ∧ DpAll K H vs xs := by
  match ws, h with
  | _, .cons h0 t => exact ⟨_, _, rfl, h0, t⟩
theorem dps_last {K : PySem.W.Frag} {H : Hp} {vs : List V} {ds : List PyData} (h : DpAll K H vs ds) : DpAll K H vs.dropLast ds.dropLast := by
  rw [List.dropLast_eq_take, List.dropLast_eq_take, dp_all_len h]
  exact dps_take _ h
theorem gds_drop {n : Nat} {xs : List PyData} (h : ∀ x ∈ xs, Gd n x) (k : Nat) : ∀ x ∈ xs.drop k, Gd n x := fun x hx => h x (List.mem_of_mem_drop hx)
theorem gds_last {n : Nat} {xs : List PyData} (h : ∀ x ∈ xs, Gd n x) : ∀ x ∈ xs.dropLast, Gd n x := fun x hx => h x (List.mem_of_mem_take (List.dropLast_eq_take ▸ hx))
theorem slA_any {K : PySem.W.Frag} {H : Hp} {a : Addr} {xs : List V} {lo hi : Option Int} {Q : VK} (hT : SqT K H a xs) (k : ∀ p H', Same H H' → SqT K H' p (cutV xs lo hi) → Q (.ref p) H') : rSlA K (.ref a) lo hi H Q := by
  refine ⟨a, xs, rfl, hT, fun h => k a H (Same.refl H) ?_, fun _ p np => k p _ (same_new np) (.inl (.inl upd_same))⟩
  unfold cutV
  rw [h.1, h.2, List.drop_zero, Nat.sub_zero, List.take_length]
  exact hT
theorem cut_mid {v : V} {vs : List V} : cutV (v :: vs) (some 1) (some (-1)) = vs.dropLast := by
  unfold cutV
  have e1 : HT.sIx (v :: vs).length 0 (some 1) = 1 := by
    rw [show (some (1 : Int)) = some ((1 : Nat) : Int) from rfl, HT.sIx_nat, List.length_cons]
    omega
  have e2 : HT.sIx (v :: vs).length (v :: vs).length (some (-1)) = vs.length := by
    show (if (-1 : Int) < 0 then ((-1 : Int) + ((v :: vs).length : Int)).toNat else min (-1 : Int).toNat (v :: vs).length) = _
    rw [if_pos (by decide), List.length_cons]
    omega
  rw [e1, e2, List.dropLast_eq_take]
  rfl
theorem cut_two {v : V} {vs : List V} : cutV (v :: vs) (some 2) none = vs.drop 1 := by
  unfold cutV
  rw [show (some (2 : Int)) = some ((2 : Nat) : Int) from rfl, HT.sIx_nat, HT.sIx_none]
  cases vs with
  | nil => rfl
  | cons x r =>
    rw [List.length_cons, List.length_cons, show min 2 (r.length + 1 + 1) = 2 by omega, show r.length + 1 + 1 - 2 = r.length by omega]
    show r.take r.length = _
    rw [List.take_length]
    rfl
theorem gen_parts {g : PyData} (h : genOk g = true) : ∃ (k r : PyData) (n m : Int), g = .tuple [k, .int n, .int m, r] ∧ 1 ≤ n ∧ n ≤ 10 ∧ 1 ≤ m ∧ m ≤ 40 := by
  unfold genOk at h
  split at h
  · rename_i k n m r
    simp only [Bool.and_eq_true] at h
    obtain ⟨n', rfl, a1, a2⟩ := whole_int h.1.1.2
    obtain ⟨m', rfl, b1, b2⟩ := whole_int h.1.2
    exact ⟨k, r, n', m', rfl, a1, a2, b1, b2⟩
  · cases h
theorem fitLonger_no {ds : List PyData} (h : ds.length ≠ 2) : fitLonger ds = false := by
  unfold fitLonger
  split
  · exact absurd rfl h
  · rfl
theorem fitTree_no {ds : List PyData} (h : ds.length ≠ 3) : fitTree ds = false := by
  unfold fitTree
  split
  · exact absurd rfl h
  · rfl
theorem fitOnetime_no {ds : List PyData} (h : ds.length ≠ 2) : fitOnetime ds = false := by
  unfold fitOnetime
  split
  · exact absurd rfl h
  · rfl
theorem fitOpening_no {ds : List PyData} (h : ds.length ≠ 1) : fitOpening ds = false := by
  unfold fitOpening
  split
  · exact absurd rfl h
  · rfl
theorem at_last {v : V} : ∀ {vs : List V}, vs ≠ [] → vs.getLastD v = v' → atI vs (-1) = some v'
  | vs, h, e => by
    have e2 := List.dropLast_concat_getLast h
    rw [← e2, atI_last]
    rw [← e, List.getLastD_eq_getLast?, List.getLast?_eq_some_getLast h]
    rfl

theorem named_eq {x : Str} {d : PyData} (h : named x d = true) : d = .str x := by
  cases d with
  | str z =>
    rw [named_str] at h
    rw [of_decide_eq_true h]
  | none => exact absurd h (by unfold named; simp [PyData.eqv])
  | bool b => exact absurd h (by unfold named; simp [PyData.eqv])
  | int b => exact absurd h (by unfold named; simp [PyData.eqv])
  | list b => exact absurd h (by unfold named; simp [PyData.eqv])
  | tuple b => exact absurd h (by unfold named; simp [PyData.eqv])
  | dict b => exact absurd h (by unfold named; simp [PyData.eqv])
theorem looks_eq {k : PyData} {r : List PyData} : looksOk (.tuple (k :: r)) = if named "say" k then sayOk r else if named "toss" k then tossOk r else if named "look" k then lookOk r else named "ask" k && askOk r := rfl
theorem sayOk_no {r : List PyData} (h : r.length ≠ 1) : sayOk r = false := by
  unfold sayOk
  split
  · exact absurd rfl h
  · rfl
theorem tossOk_no {r : List PyData} (h : r.length ≠ 1) : tossOk r = false := by
  unfold tossOk
  split
  · exact absurd rfl h
  · rfl
theorem lookOk_no {r : List PyData} (h : r.length ≠ 3) : lookOk r = false := by
  unfold lookOk
  split
  · exact absurd rfl h
  · rfl
theorem askOk_no {r : List PyData} (h : r.length ≠ 2) : askOk r = false := by
  unfold askOk
  split
  · exact absurd rfl h
  · rfl
theorem toss_kids {r : List PyData} (h : tossOk r = true) : ∃ xs, r = [.tuple xs] ∧ 1 ≤ xs.length ∧ xs.length ≤ 64 := by
  unfold tossOk at h
  split at h
  · rename_i xs
    rw [Bool.and_eq_true, decide_eq_true_eq, decide_eq_true_eq] at h
    exact ⟨xs, rfl, by omega, by omega⟩
  · cases h
theorem kids_toss {k : PyData} {xs : List PyData} (h : named "toss" k = true) : kidsD (.tuple [k, .tuple xs]) = xs := by
  show (if named "toss" k then xs else _) = xs
  rw [if_pos h]
theorem kids_other {k : PyData} {r : List PyData} (h : named "toss" k = false) : kidsD (.tuple (k :: r)) = r.drop 1 := by
  show (if named "toss" k then _ else r.drop 1) = r.drop 1
  rw [if_neg (by rw [h]; decide)]
theorem kids_gd {n : Nat} {d x : PyData} (h : Gd n d) (hx : x ∈ kidsD d) : Gd n x := by
  unfold kidsD at hx
  split at hx
  · rename_i k r
    obtain ⟨hl, n', rfl, hg⟩ := gd_tup h
    split at hx
    · split at hx
      · rename_i xs _
        have h1 := hg (.tuple xs) (List.mem_cons_of_mem _ List.mem_cons_self)
        obtain ⟨_, m, rfl, h2⟩ := gd_tup h1
        exact gd_le (h2 x hx) (by omega)
      · cases hx
    · exact gd_up (hg x (List.mem_cons_of_mem _ (List.mem_of_mem_drop hx)))
  · cases hx
theorem kids_len {n : Nat} {d : PyData} (h : Gd n d) : (kidsD d).length ≤ 5000 := by
  unfold kidsD
  split
  · rename_i k r
    obtain ⟨hl, n', rfl, hg⟩ := gd_tup h
    split
    · split
      · rename_i xs _
        have h1 := hg (.tuple xs) (List.mem_cons_of_mem _ List.mem_cons_self)
        exact (gd_tup h1).1
      · exact Nat.zero_le _
    · rw [List.length_drop]
      rw [List.length_cons] at hl
      omega
  · exact Nat.zero_le _
theorem sz_pos (n : Nat) (d : PyData) : 1 ≤ szN n d := by
  cases n with
  | zero => exact Nat.le_refl 1
  | succ n =>
    show 1 ≤ 1 + _
    omega
/-! ### the pile of a walk through a breaker: address, value, data, how deep -/
abbrev Ent : Type := Addr × V × PyData × Nat
def good (xs : List Ent) (many : Nat) : Bool := xs.all (fun x => okN (61 - x.2.2.2) x.2.2.1) && decide (many + (xs.map fun x => szN (61 - x.2.2.2) x.2.2.1).sum ≤ 2001)
theorem good_nil {many : Nat} (h : many ≤ 2001) : good [] many = true := by
  show (true && decide (many + 0 ≤ 2001)) = true
  rw [Bool.true_and, decide_eq_true (by omega)]
theorem good_many {xs : List Ent} {x : Ent} {many : Nat} (h : 2001 < many + 1) : good (xs ++ [x]) many = false := by
  unfold good
  rw [List.map_append, List.sum_append]
  have := sz_pos (61 - x.2.2.2) x.2.2.1
  rw [decide_eq_false (show ¬ many + ((xs.map fun x => szN (61 - x.2.2.2) x.2.2.1).sum + ([x].map fun x => szN (61 - x.2.2.2) x.2.2.1).sum) ≤ 2001 by
    rw [List.map_cons, List.sum_cons]
    omega), Bool.and_false]
theorem good_bad {xs : List Ent} {x : Ent} {many : Nat} (h : okN (61 - x.2.2.2) x.2.2.1 = false) : good (xs ++ [x]) many = false := by
  unfold good
  rw [List.all_append, List.all_cons, h, Bool.false_and, Bool.and_false, Bool.false_and]
theorem okN_deep {k : Nat} {d : PyData} (h : 60 < k) : okN (61 - k) d = false := by
  rw [show 61 - k = 0 by omega]
  rfl
theorem okN_looks {k : Nat} {d : PyData} (h : looksOk d = false) : okN k d = false := by
  cases k with
  | zero => rfl
  | succ k =>
    show (looksOk d && _) = false
    rw [h, Bool.false_and]
theorem good_step {xs es : List Ent} {x : Ent} {many : Nat} (hk : x.2.2.2 ≤ 60) (hl : looksOk x.2.2.1 = true) (he : es.map (fun e => e.2.2) = (kidsD x.2.2.1).map fun d => (d, x.2.2.2 + 1)) :
    good (xs ++ [x]) many = good (xs ++ es) (many + 1) := by
  unfold good
  obtain ⟨p, v, d, k⟩ := x
  dsimp only at hk hl he
  have hn : 61 - k = (60 - k) + 1 := by omega
  have e1 : es.all (fun e => okN (61 - e.2.2.2) e.2.2.1) = (kidsD d).all (okN (60 - k)) := by
    have h1 : es.all (fun e => okN (61 - e.2.2.2) e.2.2.1) = (es.map (fun e => e.2.2)).all (fun e => okN (61 - e.2) e.1) := by
      rw [List.all_map]
      rfl
    rw [h1, he, List.all_map]
    have h2 : 61 - (k + 1) = 60 - k := by omega
    show (kidsD d).all (fun d => okN (61 - (k + 1)) d) = _
    rw [h2]
  have e2 : (es.map (fun e => szN (61 - e.2.2.2) e.2.2.1)).sum = ((kidsD d).map (szN (60 - k))).sum := by
    have h1 : es.map (fun e => szN (61 - e.2.2.2) e.2.2.1) = (es.map (fun e => e.2.2)).map (fun e => szN (61 - e.2) e.1) := by
      rw [List.map_map]
      rfl
    rw [h1, he, List.map_map]
    have h2 : 61 - (k + 1) = 60 - k := by omega
    show ((kidsD d).map (fun d => szN (61 - (k + 1)) d)).sum = _
    rw [h2]
  rw [List.all_append, List.all_append, List.map_append, List.map_append, List.sum_append, List.sum_append, e1, e2]
  have e3 : [(p, v, d, k)].all (fun x => okN (61 - x.2.2.2) x.2.2.1) = (kidsD d).all (okN (60 - k)) := by
    show (okN (61 - k) d && true) = _
    rw [Bool.and_true, hn]
    show (looksOk d && _) = _
    rw [hl, Bool.true_and]
  have e4 : ([(p, v, d, k)].map (fun x => szN (61 - x.2.2.2) x.2.2.1)).sum = 1 + ((kidsD d).map (szN (60 - k))).sum := by
    show szN (61 - k) d + 0 = _
    rw [hn]
    rfl
  rw [e3, e4]
  congr 1
  apply decide_eq_decide.mpr
  omega

theorem made_parts {d : PyData} (h : madeD d = true) : ∃ z r, d = .tuple (.str z :: r) ∧ madeZ z = true := by
  unfold madeD at h
  split at h
  · rename_i z r
    exact ⟨z, r, rfl, h⟩
  · cases h
theorem chk_plain {n : Nat} {d : PyData} (h : madeD d = false) : chk n d = plainOk d := by
  unfold chk
  rw [if_neg (by rw [h]; decide)]
theorem chk_zero {d : PyData} (h : madeD d = true) : chk 0 d = false := by
  unfold chk
  rw [if_pos h]
theorem chk_succ {n : Nat} {d : PyData} (h : madeD d = true) : chk (n + 1) d = (fitsD d && (!(headIs "onetime" d && madeD (lastD d)) && chk n (lastD d))) := by
  rw [chk]
  rw [if_pos h]
theorem dps_at_last {K : PySem.W.Frag} {H : Hp} {ws : List V} {xs : List PyData} (h : DpAll K H ws xs) (hne : ws ≠ []) : ∃ vl, atI ws (-1) = some vl ∧ Dp K H vl (lastD (.tuple xs)) ∧ lastD (.tuple xs) ∈ xs := by
  have hl : 0 < ws.length := List.length_pos_iff.mpr hne
  have e1 : ws[ws.length - 1]? = some (ws[ws.length - 1]'(by omega)) := List.getElem?_eq_getElem _
  obtain ⟨d, h1, h2⟩ := dp_all_get h e1
  have e2 : lastD (.tuple xs) = d := by
    show xs.getLastD .none = d
    rw [List.getLastD_eq_getLast?, List.getLast?_eq_getElem?, ← dp_all_len h, h1]
    rfl
  refine ⟨_, ?_, e2 ▸ h2, e2 ▸ List.mem_of_getElem? h1⟩
  unfold atI ixN
  rw [if_neg (by decide), if_pos (by omega)]
  show ws[((-1 : Int) + (ws.length : Int)).toNat]? = _
  rw [show ((-1 : Int) + (ws.length : Int)).toNat = ws.length - 1 by omega]
  exact e1

/-! ### the most asks -/
def askB (d : PyData) : Nat := if headIs "ask" d then 1 else 0
def paN : Nat → PyData → Nat
  | 0, _ => 0
  | n + 1, d => askB d + ((kidsD d).map (paN n)).foldl max 0
def item (i : Nat) : PyData → PyData
  | .tuple xs => xs.getD i .none
  | _ => .none
def intOf : PyData → Int
  | .int i => i
  | _ => 0
/-- how the program counts, so many made ones allowed -/
def progM : Nat → PyData → Int
  | 0, d => if headIs "counter" d then intOf (item 2 d) else if madeD d then 0 else (paN 60 d : Int)
  | n + 1, d => if headIs "marks" d then 1 + progM n (lastD d) else if headIs "secrets" d then progM n (lastD d) else if headIs "counter" d then intOf (item 2 d) else if madeD d then 0 else (paN 60 d : Int)
theorem fold_max (l : List Nat) : ∀ m a : Nat, l.foldl max (max m a) = max (l.foldl max m) a := by
  induction l with
  | nil => intro m a; rfl
  | cons x l ih =>
    intro m a
    rw [List.foldl_cons, List.foldl_cons, show max (max m a) x = max (max m x) a by omega, ih]
theorem fold_add (a : Nat) (l : List Nat) : ∀ b : Nat, a + l.foldl max b = (l.map (a + ·)).foldl max (a + b) := by
  induction l with
  | nil => intro b; rfl
  | cons x l ih =>
    intro b
    rw [List.foldl_cons, List.map_cons, List.foldl_cons, ih, show a + max b x = max (a + b) (a + x) by omega]
theorem fold_pop (most a : Nat) (ys ks : List Nat) : (ys ++ [a + ks.foldl max 0]).foldl max most = (ys ++ ks.map (a + ·)).foldl max (max most a) := by
  rw [List.foldl_append, List.foldl_append, fold_max, List.foldl_cons, List.foldl_nil, fold_add, Nat.add_zero]
  rw [show max (ys.foldl max most) a = max a (ys.foldl max most) by omega, fold_max]
  omega
abbrev Ent2 : Type := Addr × V × PyData × Nat × Nat
def valE (x : Ent2) : Nat := x.2.2.2.1 + paN (61 - x.2.2.2.2) x.2.2.1
def szE (xs : List Ent2) : Nat := (xs.map fun x => szN (61 - x.2.2.2.2) x.2.2.1).sum
theorem szE_app (xs ys : List Ent2) : szE (xs ++ ys) = szE xs + szE ys := by
  unfold szE
  rw [List.map_append, List.sum_append]
theorem szE_len : ∀ xs : List Ent2, xs.length ≤ szE xs
  | [] => Nat.le_refl 0
  | x :: xs => by
    have h1 := szE_len xs
    have h2 := sz_pos (61 - x.2.2.2.2) x.2.2.1
    show xs.length + 1 ≤ szN (61 - x.2.2.2.2) x.2.2.1 + szE xs
    omega
theorem ents_vals {es : List Ent2} {ds : List PyData} {a k : Nat} (h : es.map (fun e => e.2.2) = ds.map fun d => (d, a, k + 1)) : es.map valE = (ds.map (paN (60 - k))).map (a + ·) ∧ szE es = (ds.map (szN (60 - k))).sum := by
  constructor
  · have h1 : es.map valE = (es.map (fun e => e.2.2)).map (fun e => e.2.1 + paN (61 - e.2.2) e.1) := by
      rw [List.map_map]
      rfl
    rw [h1, h, List.map_map, List.map_map]
    have h2 : 61 - (k + 1) = 60 - k := by omega
    show ds.map (fun d => a + paN (61 - (k + 1)) d) = _
    rw [h2]
    rfl
  · unfold szE
    have h1 : es.map (fun x => szN (61 - x.2.2.2.2) x.2.2.1) = (es.map (fun e => e.2.2)).map (fun e => szN (61 - e.2.2) e.1) := by
      rw [List.map_map]
      rfl
    rw [h1, h, List.map_map]
    have h2 : 61 - (k + 1) = 60 - k := by omega
    show (ds.map (fun d => szN (61 - (k + 1)) d)).sum = _
    rw [h2]
theorem okN_kids {k : Nat} {d : PyData} (hk : k ≤ 60) (h : okN (61 - k) d = true) : looksOk d = true ∧ ∀ e ∈ kidsD d, okN (60 - k) e = true := by
  rw [show 61 - k = (60 - k) + 1 by omega] at h
  have h' : (looksOk d && (kidsD d).all (okN (60 - k))) = true := h
  rw [Bool.and_eq_true, List.all_eq_true] at h'
  exact h'
theorem okN_pos {n : Nat} {d : PyData} (h : okN n d = true) : 1 ≤ n := by
  cases n with
  | zero => cases h
  | succ n => omega
theorem looks_head {d : PyData} (h : looksOk d = true) : ∃ k r, d = .tuple (k :: r) := by
  unfold looksOk at h
  split at h
  · exact ⟨_, _, rfl⟩
  · cases h

theorem chk_head {n : Nat} {d : PyData} (h : chk n d = true) : ∃ z r, d = .tuple (.str z :: r) := by
  cases c : madeD d with
  | true =>
    obtain ⟨z, r, rfl, _⟩ := made_parts c
    exact ⟨z, r, rfl⟩
  | false =>
    rw [chk_plain c] at h
    unfold plainOk at h
    rw [Bool.and_eq_true] at h
    have h1 : (looksOk d && _) = true := h.1
    rw [Bool.and_eq_true] at h1
    obtain ⟨k, r, rfl⟩ := looks_head h1.1
    have h2 := h1.1
    rw [looks_eq] at h2
    cases c1 : named "say" k with
    | true => exact ⟨_, r, by rw [named_eq c1]⟩
    | false =>
      rw [c1, if_neg (by decide)] at h2
      cases c2 : named "toss" k with
      | true => exact ⟨_, r, by rw [named_eq c2]⟩
      | false =>
        rw [c2, if_neg (by decide)] at h2
        cases c3 : named "look" k with
        | true => exact ⟨_, r, by rw [named_eq c3]⟩
        | false =>
          rw [c3, if_neg (by decide), Bool.and_eq_true] at h2
          exact ⟨_, r, by rw [named_eq h2.1]⟩
theorem head_str {x z : Str} {r : List PyData} : headIs x (.tuple (.str z :: r)) = decide (z = x) := named_str
/-- one step of the count, at a name -/
theorem progM_marks {n : Nat} {r : List PyData} : progM (n + 1) (.tuple (.str "marks" :: r)) = 1 + progM n (lastD (.tuple (.str "marks" :: r))) := by
  rw [progM, head_str, decide_eq_true rfl, if_pos rfl]
theorem progM_secrets {n : Nat} {r : List PyData} : progM (n + 1) (.tuple (.str "secrets" :: r)) = progM n (lastD (.tuple (.str "secrets" :: r))) := by
  rw [progM, head_str, head_str, decide_eq_false (by decide), decide_eq_true rfl, if_neg (by decide), if_pos rfl]
theorem progM_other {n : Nat} {z : Str} {r : List PyData} (h1 : z ≠ "marks") (h2 : z ≠ "secrets") : progM n (.tuple (.str z :: r)) = if z = "counter" then intOf (item 2 (.tuple (.str z :: r))) else if madeD (.tuple (.str z :: r)) then 0 else (paN 60 (.tuple (.str z :: r)) : Int) := by
  cases n with
  | zero =>
    rw [progM, head_str]
    by_cases c : z = "counter"
    · rw [decide_eq_true c, if_pos c, if_pos rfl]
    · rw [decide_eq_false c, if_neg c, if_neg (by decide)]
  | succ n =>
    rw [progM, head_str, head_str, head_str, decide_eq_false h1, decide_eq_false h2, if_neg (by decide), if_neg (by decide)]
    by_cases c : z = "counter"
    · rw [decide_eq_true c, if_pos c, if_pos rfl]
    · rw [decide_eq_false c, if_neg c, if_neg (by decide)]
theorem made_num {z : Str} {r : List PyData} (h : z ∈ numK) : madeD (.tuple (.str z :: r)) = true := by
  show (decide (z ∈ numK) || decide (z ∈ fitK)) = true
  rw [decide_eq_true h, Bool.true_or]
theorem chk_made {n : Nat} {z : Str} {r : List PyData} (hz : madeD (.tuple (.str z :: r)) = true) (h : chk n (.tuple (.str z :: r)) = true) : ∃ m, n = m + 1 ∧ fitZ z r.dropLast = true ∧ chk m (lastD (.tuple (.str z :: r))) = true := by
  cases n with
  | zero =>
    rw [chk_zero hz] at h
    cases h
  | succ m =>
    rw [chk_succ hz, Bool.and_eq_true, Bool.and_eq_true] at h
    exact ⟨m, rfl, h.1, h.2.2⟩
theorem counter_parts {r : List PyData} (h : fitZ "counter" r.dropLast = true) : ∃ l c m x, r = [.int l, .int c, .int m, x] ∧ 1 ≤ c ∧ c ≤ 256 := by
  have h' : numsOk r.dropLast [(1, 40), (1, 256), (1, 40)] = true := h
  have hl : r.dropLast.length = 3 := by
    by_cases c : r.dropLast.length = [((1 : Int), (40 : Int)), (1, 256), (1, 40)].length
    · exact c
    · rw [nums_len c] at h'
      cases h'
  rw [List.length_dropLast] at hl
  match r, hl with
  | [a, b, c, x], _ =>
    have h2 : (whole a 1 40 && (whole b 1 256 && (whole c 1 40 && true))) = true := h'
    simp only [Bool.and_eq_true] at h2
    obtain ⟨l, rfl, _⟩ := whole_int h2.1
    obtain ⟨c', rfl, c1, c2⟩ := whole_int h2.2.1
    obtain ⟨m, rfl, _⟩ := whole_int h2.2.2.1
    exact ⟨l, c', m, x, rfl, c1, c2⟩

def bsz : Nat → Nat
  | 0 => 0
  | n + 1 => 1 + 3 * bsz n
/-- a plain breaker, so deep and so large at most, on a heap -/
def PG (K : PySem.W.Frag) (G : Hp) (j : Nat) (v : V) : Prop := ∃ D, Dp K G v D ∧ Pl (3 * j) D ∧ okN j D = true ∧ szN j D ≤ bsz j
def PB (K : PySem.W.Frag) (a : Addr) (H : Hp) (j : Nat) (v : V) : Prop := PG K (off a H) j v
theorem PG.same {K : PySem.W.Frag} {G G' : Hp} {j : Nat} {v : V} (h : PG K G j v) (k : Same G G') : PG K G' j v := by
  obtain ⟨D, h1, h2⟩ := h
  exact ⟨D, dp_same k D h1, h2⟩
theorem PB.keep {K : PySem.W.Frag} {a : Addr} {H H' : Hp} {j : Nat} {v : V} (h : PB K a H j v) (k : Keep a H H') : PB K a H' j v := PG.same h k.off
theorem pg_all {K : PySem.W.Frag} {G : Hp} {j : Nat} : ∀ {ws : List V}, (∀ v ∈ ws, PG K G j v) → ∃ ds, DpAll K G ws ds ∧ ∀ x ∈ ds, Pl (3 * j) x ∧ okN j x = true ∧ szN j x ≤ bsz j
  | [], _ => ⟨[], .nil, fun x hx => (nomatch hx)⟩
  | v :: ws, h => by
    obtain ⟨D, h1, h2⟩ := h v List.mem_cons_self
    obtain ⟨ds, g1, g2⟩ := pg_all fun x hx => h x (List.mem_cons_of_mem _ hx)
    refine ⟨D :: ds, .cons h1 g1, fun x hx => ?_⟩
    rcases List.mem_cons.mp hx with e | hx
    · exact e ▸ h2
    · exact g2 x hx
theorem sqt_offL {K : PySem.W.Frag} {L p : Addr} {H : Hp} {xs ys : List V} (e : H L = some (.lst ys)) (s : SqT K H p xs) : SqT K (off L H) p xs := by
  rcases s with (h | ⟨o, h⟩) | h
  · have hp : p ≠ L := fun z => by
      rw [z, e] at h
      cases h
    exact .inl (.inl (by rw [off_ne hp]; exact h))
  · have hp : p ≠ L := fun z => by
      rw [z, e] at h
      cases h
    exact .inl (.inr ⟨o, by rw [off_ne hp]; exact h⟩)
  · exact .inr h
mutual
theorem dp_offL {K : PySem.W.Frag} {L : Addr} {H : Hp} {ys : List V} (e : H L = some (.lst ys)) : ∀ (D : PyData) {n : Nat} {v : V}, Pl n D → Dp K H v D → Dp K (off L H) v D
  | .int _, _, _, _, .int i => .int i
  | .str _, _, _, _, .str x => .str x
  | .tuple xs, _, _, h, .tup hs ha => .tup (sqt_offL e hs) (dps_offL e xs (by
      obtain ⟨_, m, _, hx⟩ := pl_tup h
      exact fun x hx' => ⟨m, hx x hx'⟩) ha)
  | .none, n, _, h, _ => by cases n <;> exact h.elim
  | .bool _, n, _, h, _ => by cases n <;> exact h.elim
  | .list _, n, _, h, _ => by cases n <;> exact h.elim
  | .dict _, n, _, h, _ => by cases n <;> exact h.elim
theorem dps_offL {K : PySem.W.Frag} {L : Addr} {H : Hp} {ys : List V} (e : H L = some (.lst ys)) : ∀ (ds : List PyData) {vs : List V}, (∀ x ∈ ds, ∃ n, Pl n x) → DpAll K H vs ds → DpAll K (off L H) vs ds
  | [], _, _, .nil => .nil
  | d :: ds, _, h, .cons h1 t => by
    obtain ⟨n, hn⟩ := h d List.mem_cons_self
    exact .cons (dp_offL e d hn h1) (dps_offL e ds (fun x hx => h x (List.mem_cons_of_mem _ hx)) t)
end
theorem PG.offL {K : PySem.W.Frag} {G : Hp} {L : Addr} {ys : List V} {j : Nat} {v : V} (h : PG K G j v) (e : G L = some (.lst ys)) : PG K (off L G) j v := by
  obtain ⟨D, h1, h2, h3⟩ := h
  exact ⟨D, dp_offL e D h2 h1, h2, h3⟩
theorem pl_up : ∀ {n : Nat} {d : PyData}, Pl n d → Pl (n + 1) d
  | 0, .int _, h => h
  | 0, .str _, h => h
  | n + 1, .int _, h => h
  | n + 1, .str _, h => h
  | n + 1, .tuple xs, h => ⟨h.1, fun x hx => pl_up (h.2 x hx)⟩
theorem pl_le {n m : Nat} {d : PyData} (h : Pl n d) (hm : n ≤ m) : Pl m d := by
  induction hm with
  | refl => exact h
  | step _ ih => exact pl_up ih
def spParts8 (K : PySem.W.Frag) : Sp := fun vs H Q _ => ∃ (a d : Addr) (len : Nat), vs = [.ref a, .int (len : Int)] ∧ len ≤ 100 ∧ Hnd H a d ∧ ∀ (p : Addr) (ds : List V × List PyData) (H' : Hp), DpAll K (fun _ => none) ds.1 ds.2 → H' p = some (.tup ds.1) → p ≠ a → (∀ x ∈ ds.2, partOk x = true ∧ Pl 0 x) → ds.2.length ≤ 100 → Hnd H' a d → Keep a H H' → Q (.ref p) H'
def spBr (K : PySem.W.Frag) (j : Nat) : Sp := fun vs H Q _ => ∃ (a d : Addr) (dep asks len said : Nat), vs = [.ref a, .int (dep : Int), .int (asks : Int), .int (len : Int), .int (said : Int)] ∧ dep ≤ j ∧ len ≤ 90 ∧ said ≤ 90 ∧ Hnd H a d ∧ ∀ v H', PB K a H' (dep + 1) v → Hnd H' a d → Keep a H H' → Q v H'
def spBrB (K : PySem.W.Frag) (j : Nat) : Sp := fun vs H Q E => 1 ≤ j ∧ spBr K (j - 1) vs H Q E
theorem dps_none {K : PySem.W.Frag} {H : Hp} {vs : List V} {ds : List PyData} (h : DpAll K (fun _ => none) vs ds) : DpAll K H vs ds := dps_same (fun _ _ e => by cases e) ds h
theorem dp_new {K : PySem.W.Frag} {a p : Addr} {H : Hp} {vs : List V} {ds : List PyData} (pa : p ≠ a) (e : H p = some (.tup vs)) (h : DpAll K (off a H) vs ds) : Dp K (off a H) (.ref p) (.tuple ds) := .tup (.inl (.inl (by rw [off_ne pa]; exact e))) h
theorem parts_all {ds : List PyData} (h : ∀ x ∈ ds, partOk x = true ∧ Pl 0 x) : partsOk (.tuple ds) = true := by
  show ds.all partOk = true
  rw [List.all_eq_true]
  exact fun x hx => (h x hx).1
theorem gd_any {n : Nat} {d : PyData} (h : Gd 0 d) : Gd n d := gd_le h (Nat.zero_le _)
theorem pl_parts {ds : List PyData} {n : Nat} (h : ∀ x ∈ ds, partOk x = true ∧ Pl 0 x) (hl : ds.length ≤ 100) : Pl (n + 1) (.tuple ds) := ⟨by omega, fun x hx => pl_le (h x hx).2 (Nat.zero_le _)⟩
theorem pl_word {x : Str} (h : PySem.PyData.strOk x = true := by decide +kernel) (h2 : x.length ≤ 5000 := by decide +kernel) {n : Nat} : Pl n (.str x) := pl_str.mpr ⟨h, h2⟩
theorem kids_say {r : List PyData} : kidsD (.tuple (.str "say" :: r)) = r.drop 1 := kids_other (by rw [named_str]; decide)
theorem kids_look {r : List PyData} : kidsD (.tuple (.str "look" :: r)) = r.drop 1 := kids_other (by rw [named_str]; decide)
theorem kids_ask {r : List PyData} : kidsD (.tuple (.str "ask" :: r)) = r.drop 1 := kids_other (by rw [named_str]; decide)
theorem looks_say {r : List PyData} : looksOk (.tuple (.str "say" :: r)) = sayOk r := by
  rw [looks_eq, named_str, if_pos (by decide)]
theorem looks_toss {r : List PyData} : looksOk (.tuple (.str "toss" :: r)) = tossOk r := by
  rw [looks_eq, named_str, named_str, if_neg (by decide), if_pos (by decide)]
theorem looks_look {r : List PyData} : looksOk (.tuple (.str "look" :: r)) = lookOk r := by
  rw [looks_eq, named_str, named_str, named_str, if_neg (by decide), if_neg (by decide), if_pos (by decide)]
theorem looks_ask {r : List PyData} : looksOk (.tuple (.str "ask" :: r)) = askOk r := by
  rw [looks_eq, named_str, named_str, named_str, named_str, if_neg (by decide), if_neg (by decide), if_neg (by decide), decide_eq_true rfl, Bool.true_and]
theorem ok_say {j : Nat} {ds : List PyData} (h : partsOk (.tuple ds) = true) : okN (j + 1) (.tuple [.str "say", .tuple ds]) = true ∧ szN (j + 1) (.tuple [.str "say", .tuple ds]) = 1 := by
  constructor
  · show (looksOk _ && (kidsD _).all _) = true
    rw [looks_say, kids_say, show sayOk [.tuple ds] = partsOk (.tuple ds) from rfl, h]
    rfl
  · show 1 + _ = 1
    rw [kids_say]
    rfl
theorem ok_look {j : Nat} {i : Int} {x y : PyData} (h0 : 0 ≤ i) (h1 : i ≤ 9999) (hx : okN j x = true) (hy : okN j y = true) : okN (j + 1) (.tuple [.str "look", .int i, x, y]) = true ∧ szN (j + 1) (.tuple [.str "look", .int i, x, y]) = 1 + (szN j x + szN j y) := by
  constructor
  · show (looksOk _ && (kidsD _).all _) = true
    rw [looks_look, kids_look, show lookOk [.int i, x, y] = (decide (0 ≤ i) && decide (i ≤ 9999)) from rfl, decide_eq_true h0, decide_eq_true h1]
    show (okN j x && (okN j y && true)) = true
    rw [hx, hy]
    rfl
  · show 1 + _ = _
    rw [kids_look]
    show 1 + (szN j x + (szN j y + 0)) = _
    omega
theorem ok_askD {j : Nat} {ds : List PyData} {x : PyData} (h : partsOk (.tuple ds) = true) (hx : okN j x = true) : okN (j + 1) (.tuple [.str "ask", .tuple ds, x]) = true ∧ szN (j + 1) (.tuple [.str "ask", .tuple ds, x]) = 1 + szN j x := by
  constructor
  · show (looksOk _ && (kidsD _).all _) = true
    rw [looks_ask, kids_ask, show askOk [.tuple ds, x] = partsOk (.tuple ds) from rfl, h]
    show (okN j x && true) = true
    rw [hx]
    rfl
  · show 1 + _ = _
    rw [kids_ask]
    show 1 + (szN j x + 0) = _
    omega
theorem ok_toss {j : Nat} {xs : List PyData} (h1 : 1 ≤ xs.length) (h2 : xs.length ≤ 64) (hx : ∀ x ∈ xs, okN j x = true) : okN (j + 1) (.tuple [.str "toss", .tuple xs]) = true ∧ szN (j + 1) (.tuple [.str "toss", .tuple xs]) = 1 + (xs.map (szN j)).sum := by
  have hn : named "toss" (.str "toss") = true := by rw [named_str]; decide
  constructor
  · show (looksOk _ && (kidsD _).all _) = true
    rw [looks_toss, kids_toss hn, show tossOk [.tuple xs] = (decide ((1 : Int) ≤ (xs.length : Int)) && decide ((xs.length : Int) ≤ 64)) from rfl, decide_eq_true (by omega), decide_eq_true (by omega), List.all_eq_true.mpr hx]
    rfl
  · show 1 + _ = _
    rw [kids_toss hn]
theorem sum_le {α : Type} {f : α → Nat} {m : Nat} : ∀ {l : List α}, (∀ x ∈ l, f x ≤ m) → (l.map f).sum ≤ l.length * m
  | [], _ => Nat.zero_le _
  | x :: l, h => by
    rw [List.map_cons, List.sum_cons, List.length_cons, Nat.succ_mul]
    have h1 := h x List.mem_cons_self
    have h2 := sum_le fun y hy => h y (List.mem_cons_of_mem x hy)
    omega

def spMd (K : PySem.W.Frag) : Sp := fun vs H Q _ => ∃ (a d : Addr) (v : V) (D : PyData) (n m : Nat), vs = [.ref a, v] ∧ Dp K (off a H) v D ∧ Pl n D ∧ chk m D = true ∧ Hnd H a d ∧
  ∀ v' D' H', Dp K (off a H') v' D' → Pl (n + 3) D' → chk (m + 1) D' = true → Hnd H' a d → Keep a H H' → Q v' H'
theorem chk_of {z : Str} {own : List PyData} {D : PyData} {m : Nat} (hz : madeZ z = true) (hf : fitZ z own = true) (ho : z = "onetime" → madeD D = false) (hc : chk m D = true) : chk (m + 1) (.tuple (.str z :: (own ++ [D]))) = true := by
  have hm : madeD (.tuple (.str z :: (own ++ [D]))) = true := hz
  have e1 : fitsD (.tuple (.str z :: (own ++ [D]))) = fitZ z own := by
    show fitZ z (own ++ [D]).dropLast = _
    rw [List.dropLast_concat]
  have e2 : lastD (.tuple (.str z :: (own ++ [D]))) = D := by
    show (.str z :: (own ++ [D])).getLastD .none = D
    rw [List.getLastD_eq_getLast?, ← List.cons_append, List.getLast?_concat]
    rfl
  rw [chk_succ hm, e1, e2, hf, hc, head_str]
  by_cases h : z = "onetime"
  · rw [ho h]
    simp
  · rw [decide_eq_false h]
    rfl
theorem chk_mono {d : PyData} : ∀ {n : Nat}, chk n d = true → chk (n + 1) d = true := by
  intro n
  induction n generalizing d with
  | zero =>
    intro h
    cases c : madeD d with
    | true =>
      rw [chk_zero c] at h
      cases h
    | false =>
      rw [chk_plain c] at h ⊢
      exact h
  | succ n ih =>
    intro h
    cases c : madeD d with
    | true =>
      rw [chk_succ c, Bool.and_eq_true, Bool.and_eq_true] at h ⊢
      exact ⟨h.1, h.2.1, ih h.2.2⟩
    | false =>
      rw [chk_plain c] at h ⊢
      exact h
theorem chk_le {n m : Nat} {d : PyData} (h : chk n d = true) (hm : n ≤ m) : chk m d = true := by
  induction hm with
  | refl => exact h
  | step _ ih => exact chk_mono ih
theorem whole_in {i lo hi : Int} (h1 : lo ≤ i) (h2 : i ≤ hi) : whole (.int i) lo hi = true := by
  show (decide (lo ≤ i) && decide (i ≤ hi)) = true
  rw [decide_eq_true h1, decide_eq_true h2]
  rfl
theorem fit_one {z : Str} {i : Int} {hi : Int} (hz : z ∈ numK) (hn : numOf z = [(1, hi)]) (h1 : 1 ≤ i) (h2 : i ≤ hi) : fitZ z [.int i] = true := by
  unfold fitZ
  rw [if_pos hz, hn]
  show (whole (.int i) 1 hi && true) = true
  rw [whole_in h1 h2]
  rfl
theorem fit_two {z : Str} {i j : Int} {hi hj : Int} (hz : z ∈ numK) (hn : numOf z = [(1, hi), (1, hj)]) (h1 : 1 ≤ i) (h2 : i ≤ hi) (h3 : 1 ≤ j) (h4 : j ≤ hj) : fitZ z [.int i, .int j] = true := by
  unfold fitZ
  rw [if_pos hz, hn]
  show (whole (.int i) 1 hi && (whole (.int j) 1 hj && true)) = true
  rw [whole_in h1 h2, whole_in h3 h4]
  rfl
theorem fit_counter {i j k : Int} (h1 : 1 ≤ i) (h2 : i ≤ 40) (h3 : 1 ≤ j) (h4 : j ≤ 256) (h5 : 1 ≤ k) (h6 : k ≤ 40) : fitZ "counter" [.int i, .int j, .int k] = true := by
  show (whole (.int i) 1 40 && (whole (.int j) 1 256 && (whole (.int k) 1 40 && true))) = true
  rw [whole_in h1 h2, whole_in h3 h4, whole_in h5 h6]
  rfl
theorem fit_longer {n : Nat} {rows : List (List Bool)} {k : Int} (h : Wf n (n + 1) rows) (h1 : 1 ≤ k) (h2 : k ≤ 20) : fitZ "longer" [tabD n (n + 1) rows, .int k] = true := by
  show (genOk (tabD n (n + 1) rows) && (decide (((n + 1 : Nat) : Int) = (n : Int) + 1) && whole (.int k) 1 20)) = true
  rw [wf_gen h, whole_in h1 h2, decide_eq_true (by omega)]
  rfl
theorem fit_tree {n : Nat} {rows : List (List Bool)} {k q : Int} (h : Wf n (2 * n) rows) (hn : n ≤ 4) (h1 : 1 ≤ k) (h2 : k ≤ 8) (h3 : 1 ≤ q) (h4 : q ≤ 1000) : fitZ "tree" [tabD n (2 * n) rows, .int k, .int q] = true := by
  show (genOk (tabD n (2 * n) rows) && (decide (((2 * n : Nat) : Int) = 2 * (n : Int)) && (decide ((n : Int) ≤ 8) && (whole (.int k) 1 (if 12 - (n : Int) < 8 then 12 - (n : Int) else 8) && whole (.int q) 1 1000)))) = true
  rw [wf_gen h, if_neg (by omega), whole_in h1 h2, whole_in h3 h4, decide_eq_true (by omega), decide_eq_true (by omega)]
  rfl
theorem fit_onetime {n m : Nat} {rows : List (List Bool)} {k : Int} (h : Wf n m rows) (h1 : 1 ≤ k) (h2 : k ≤ 4) : fitZ "onetime" [tabD n m rows, .int k] = true := by
  show (genOk (tabD n m rows) && whole (.int k) 1 4) = true
  rw [wf_gen h, whole_in h1 h2]
  rfl
theorem fit_opening {bs : List Bool} (h1 : 1 ≤ bs.length) (h2 : bs.length ≤ 40) : fitZ "opening" [.str (sb bs)] = true := by
  show (decide ((1 : Int) ≤ ((sb bs).length : Int)) && (decide (((sb bs).length : Int) ≤ 40) && (decide ((([PyData.str (sb bs)].length : Nat) : Int) = 1) && ([PyData.str (sb bs)].all (bitRow ((sb bs).length : Int)))))) = true
  rw [sb_len, decide_eq_true (by omega), decide_eq_true (by omega), decide_eq_true (show (([PyData.str (sb bs)].length : Nat) : Int) = 1 from rfl)]
  show (bitRow (bs.length : Int) (.str (sb bs)) && true) = true
  rw [bitRow_sb rfl]
  rfl

def wfM : Nat → PyData → Prop
  | 0, _ => False
  | j + 1, d => okN (j + 1) d = true ∨ ∃ z r, d = .tuple (.str z :: r) ∧ madeZ z = true ∧ fitZ z r.dropLast = true ∧ wfM j (lastD d)
def mV : Nat → PyData → Int
  | 0, _ => 0
  | j + 1, d => if madeD d then (if headIs "marks" d then 1 + mV j (lastD d) else if headIs "secrets" d then mV j (lastD d) else if headIs "counter" d then intOf (item 2 d) else 0) else (paN (j + 1) d : Int)
theorem okN_parts {n : Nat} {d : PyData} (h : okN (n + 1) d = true) : looksOk d = true ∧ ∀ e ∈ kidsD d, okN n e = true := by
  have h' : (looksOk d && (kidsD d).all (okN n)) = true := h
  rw [Bool.and_eq_true, List.all_eq_true] at h'
  exact h'
theorem looks_names {d : PyData} (h : looksOk d = true) : ∃ z r, d = .tuple (.str z :: r) ∧ (z = "say" ∨ z = "toss" ∨ z = "look" ∨ z = "ask") := by
  obtain ⟨k, r, rfl⟩ := looks_head h
  rw [looks_eq] at h
  cases c1 : named "say" k with
  | true => exact ⟨_, r, by rw [named_eq c1], .inl rfl⟩
  | false =>
    rw [c1, if_neg (by decide)] at h
    cases c2 : named "toss" k with
    | true => exact ⟨_, r, by rw [named_eq c2], .inr (.inl rfl)⟩
    | false =>
      rw [c2, if_neg (by decide)] at h
      cases c3 : named "look" k with
      | true => exact ⟨_, r, by rw [named_eq c3], .inr (.inr (.inl rfl))⟩
      | false =>
        rw [c3, if_neg (by decide), Bool.and_eq_true] at h
        exact ⟨_, r, by rw [named_eq h.1], .inr (.inr (.inr rfl))⟩
theorem looks_plainD {d : PyData} (h : looksOk d = true) : madeD d = false := by
  obtain ⟨z, r, rfl, hz⟩ := looks_names h
  show madeZ z = false
  rcases hz with rfl | rfl | rfl | rfl <;> decide
theorem okN_plainD {n : Nat} {d : PyData} (h : okN n d = true) : madeD d = false := by
  cases n with
  | zero => cases h
  | succ n => exact looks_plainD (okN_parts h).1
theorem mV_plain {n : Nat} {d : PyData} (h : okN n d = true) : mV n d = (paN n d : Int) := by
  cases n with
  | zero => cases h
  | succ n =>
    rw [mV, if_neg (by rw [okN_plainD h]; decide)]
theorem ok_stable : ∀ {n : Nat} {d : PyData}, okN n d = true → okN (n + 1) d = true ∧ paN (n + 1) d = paN n d := by
  intro n
  induction n with
  | zero =>
    intro d h
    cases h
  | succ n ih =>
    intro d h
    obtain ⟨h1, h2⟩ := okN_parts h
    constructor
    · show (looksOk d && (kidsD d).all (okN (n + 1))) = true
      rw [h1, List.all_eq_true.mpr fun e he => (ih (h2 e he)).1]
      rfl
    · show askB d + ((kidsD d).map (paN (n + 1))).foldl max 0 = askB d + ((kidsD d).map (paN n)).foldl max 0
      rw [List.map_congr_left fun e he => (ih (h2 e he)).2]
theorem ok_stableN {n : Nat} {d : PyData} (h : okN n d = true) : ∀ k : Nat, okN (n + k) d = true ∧ paN (n + k) d = paN n d
  | 0 => ⟨h, rfl⟩
  | k + 1 => by
    obtain ⟨h1, h2⟩ := ok_stableN h k
    obtain ⟨h3, h4⟩ := ok_stable h1
    exact ⟨h3, h4.trans h2⟩
theorem chk_most : ∀ {n : Nat} {d : PyData}, chk n d = true → wfM (60 + n) d ∧ mV (60 + n) d = progM n d := by
  intro n
  have plain : ∀ (n : Nat) (d : PyData), madeD d = false → chk n d = true → wfM (60 + n) d ∧ mV (60 + n) d = progM n d := by
    intro n d c h
    rw [chk_plain c] at h
    unfold plainOk at h
    rw [Bool.and_eq_true] at h
    obtain ⟨h1, h2⟩ := ok_stableN h.1 n
    obtain ⟨z, r, rfl, hz⟩ := looks_names (okN_parts (n := 59) h.1).1
    refine ⟨?_, ?_⟩
    · rw [show 60 + n = (59 + n) + 1 by omega] at h1 ⊢
      exact .inl h1
    · rw [mV_plain h1, h2, progM_other (by rcases hz with rfl | rfl | rfl | rfl <;> decide) (by rcases hz with rfl | rfl | rfl | rfl <;> decide), if_neg (by rcases hz with rfl | rfl | rfl | rfl <;> decide), if_neg (by rw [c]; decide)]
  induction n with
  | zero =>
    intro d h
    cases c : madeD d with
    | true =>
      rw [chk_zero c] at h
      cases h
    | false => exact plain 0 d c h
  | succ n ih =>
    intro d h
    cases c : madeD d with
    | false => exact plain (n + 1) d c h
    | true =>
      obtain ⟨z, r, rfl, hz⟩ := made_parts c
      obtain ⟨m, em, hf, hc⟩ := chk_made c h
      have em' : n = m := by omega
      subst em'
      obtain ⟨i1, i2⟩ := ih hc
      refine ⟨.inr ⟨z, r, rfl, hz, hf, i1⟩, ?_⟩
      show mV ((60 + n) + 1) _ = _
      rw [mV, if_pos c, head_str, head_str, head_str, i2]
      by_cases c1 : z = "marks"
      · subst c1
        rw [if_pos (decide_eq_true rfl), progM_marks]
      · rw [if_neg (by rw [decide_eq_false c1]; decide)]
        by_cases c2 : z = "secrets"
        · subst c2
          rw [if_pos (decide_eq_true rfl), progM_secrets]
        · rw [if_neg (by rw [decide_eq_false c2]; decide), progM_other c1 c2]
          by_cases c3 : z = "counter"
          · rw [if_pos (decide_eq_true c3), if_pos c3]
          · rw [if_neg (by rw [decide_eq_false c3]; decide), if_neg c3, if_pos c]
theorem two_parts {r : List PyData} {a b : Int × Int} (h : numsOk r.dropLast [a, b] = true) : ∃ x y z, r = [x, y, z] := by
  have hl : r.dropLast.length = 2 := by
    by_cases c : r.dropLast.length = [a, b].length
    · exact c
    · rw [nums_len c] at h
      cases h
  rw [List.length_dropLast] at hl
  match r, hl with
  | [x, y, z], _ => exact ⟨x, y, z, rfl⟩
theorem max_is {l : List Nat} {m : Int} (h1 : m ∈ l.map (fun n : Nat => (n : Int))) (h2 : ∀ y ∈ l.map (fun n : Nat => (n : Int)), y ≤ m) : m = (l.foldl max 0 : Nat) := by
  have key : ∀ (l : List Nat) (b k : Nat), b ≤ k → (∀ y ∈ l, y ≤ k) → (b = k ∨ k ∈ l) → l.foldl max b = k := by
    intro l
    induction l with
    | nil =>
      intro b k h0 h1 h2
      rcases h2 with h | h
      · exact h
      · cases h
    | cons x l ih =>
      intro b k h0 h1 h2
      rw [List.foldl_cons]
      have hx := h1 x List.mem_cons_self
      refine ih _ _ (by omega) (fun y hy => h1 y (List.mem_cons_of_mem _ hy)) ?_
      rcases h2 with h | h
      · exact .inl (by omega)
      · rcases List.mem_cons.mp h with e | h
        · exact .inl (by omega)
        · exact .inr h
  obtain ⟨k, hk, rfl⟩ := List.mem_map.mp h1
  rw [key l 0 k (Nat.zero_le _) (fun y hy => by have := h2 y (List.mem_map.mpr ⟨y, hy, rfl⟩); omega) (.inr hk)]
def spLM (K : PySem.W.Frag) (j : Nat) : Sp := fun vs H Q _ => ∃ (v : V) (d : PyData) (n : Nat), vs = [v] ∧ Dp K H v d ∧ Gd n d ∧ wfM j d ∧ ∀ H', Same H H' → Q (.int (mV j d)) H'

def spIR (K : PySem.W.Frag) : Sp := fun vs H Q _ => ∃ (v : V) (d : PyData) (n : Nat), vs = [v] ∧ Dp K H v d ∧ Gd n d ∧ brOk d = true ∧ ∀ H', Same H H' → Q (.bl true) H'
theorem sz_stable : ∀ {n : Nat} {d : PyData}, okN n d = true → szN (n + 1) d = szN n d := by
  intro n
  induction n with
  | zero =>
    intro d h
    cases h
  | succ n ih =>
    intro d h
    obtain ⟨h1, h2⟩ := okN_parts h
    show 1 + ((kidsD d).map (szN (n + 1))).sum = 1 + ((kidsD d).map (szN n)).sum
    rw [List.map_congr_left fun e he => ih (h2 e he)]
theorem sz_stableN {n : Nat} {d : PyData} (h : okN n d = true) : ∀ k : Nat, szN (n + k) d = szN n d
  | 0 => rfl
  | k + 1 => (sz_stable (ok_stableN h k).1).trans (sz_stableN h k)
theorem plain_of {j : Nat} {d : PyData} (h : okN j d = true) (hj : j ≤ 60) (hs : szN j d ≤ 2001) : plainOk d = true := by
  obtain ⟨k, e⟩ : ∃ k, 60 = j + k := ⟨60 - j, by omega⟩
  unfold plainOk
  rw [e, (ok_stableN h k).1, sz_stableN h k, decide_eq_true hs]
  rfl
theorem chk_ofplain {j n : Nat} {d : PyData} (h : okN j d = true) (hj : j ≤ 60) (hs : szN j d ≤ 2001) : chk n d = true := by
  rw [chk_plain (okN_plainD h)]
  exact plain_of h hj hs
theorem bsz6 {j : Nat} (h : j ≤ 6) : bsz j ≤ 364 := by
  have : j = 0 ∨ j = 1 ∨ j = 2 ∨ j = 3 ∨ j = 4 ∨ j = 5 ∨ j = 6 := by omega
  rcases this with e | e | e | e | e | e | e <;> subst e <;> decide
theorem marks_of {m : Nat} {i j : Int} {D : PyData} (h : chk m D = true) (h1 : 1 ≤ i) (h2 : i ≤ 40) (h3 : 1 ≤ j) (h4 : j ≤ 40) : chk (m + 1) (.tuple [.str "marks", .int i, .int j, D]) = true :=
  chk_of (own := [.int i, .int j]) (by decide) (fit_two (by decide) rfl h1 h2 h3 h4) (fun z => absurd z (by decide)) h
theorem secrets_of {m : Nat} {i j : Int} {D : PyData} (h : chk m D = true) (h1 : 1 ≤ i) (h2 : i ≤ 40) (h3 : 1 ≤ j) (h4 : j ≤ 40) : chk (m + 1) (.tuple [.str "secrets", .int i, .int j, D]) = true :=
  chk_of (own := [.int i, .int j]) (by decide) (fit_two (by decide) rfl h1 h2 h3 h4) (fun z => absurd z (by decide)) h
theorem pl4 {n : Nat} {z : Str} {i j : Int} {D : PyData} (hz : okT z) (h : Pl n D) : Pl (n + 1) (.tuple [.str z, .int i, .int j, D]) := by
  refine ⟨(by show 4 ≤ 5000; decide), fun x hx => ?_⟩
  rcases List.mem_cons.mp hx with e | hx
  · exact e ▸ pl_str.mpr hz
  rcases List.mem_cons.mp hx with e | hx
  · exact e ▸ pl_int
  rcases List.mem_cons.mp hx with e | hx
  · exact e ▸ pl_int
  · rw [List.mem_singleton.mp hx]
    exact h
theorem bad_no {D : PyData} : (∀ x ∈ ([.none, .tuple [], .tuple [.str "ask", .tuple [.int 0]], .tuple [.str "say", .list [.int 0]], .tuple [.str "marks", .int 1, .int 0, D], .int 7, .str "say", .tuple [.str "toss", .tuple []],
    .tuple [.str "look", .int 0, .tuple [.str "say", .tuple []], .tuple [.str "say", .tuple [.str "2"]]]] : List PyData), brOk x = false) := by
  have hp : ∀ x : PyData, madeD x = false → looksOk x = false → brOk x = false := fun x h1 h2 => by
    unfold brOk
    rw [chk_plain h1]
    unfold plainOk
    rw [okN_looks h2]
    rfl
  intro x hx
  rcases List.mem_cons.mp hx with e | hx
  · rw [e]; exact hp _ rfl rfl
  rcases List.mem_cons.mp hx with e | hx
  · rw [e]; exact hp _ rfl rfl
  rcases List.mem_cons.mp hx with e | hx
  · rw [e]; exact hp _ (by show madeZ "ask" = false; decide) (by rw [looks_ask]; rfl)
  rcases List.mem_cons.mp hx with e | hx
  · rw [e]; exact hp _ (by show madeZ "say" = false; decide) (by rw [looks_say]; rfl)
  rcases List.mem_cons.mp hx with e | hx
  · rw [e]
    unfold brOk
    rw [chk_succ (show madeD _ = true from (by show madeZ "marks" = true; decide))]
    have : fitsD (.tuple [.str "marks", .int 1, .int 0, D]) = false := by
      show (whole (.int 1) 1 40 && (whole (.int 0) 1 40 && true)) = false
      decide
    rw [this, Bool.false_and]
  rcases List.mem_cons.mp hx with e | hx
  · rw [e]; exact hp _ rfl rfl
  rcases List.mem_cons.mp hx with e | hx
  · rw [e]; exact hp _ rfl rfl
  rcases List.mem_cons.mp hx with e | hx
  · rw [e]; exact hp _ (by show madeZ "toss" = false; decide) (by rw [looks_toss]; rfl)
  rw [List.mem_singleton.mp hx]
  have hs : okN 59 (.tuple [.str "say", .tuple [.str "2"]]) = false := okN_looks (by rw [looks_say]; decide)
  unfold brOk
  rw [chk_plain (show madeD _ = false from (by show madeZ "look" = false; decide))]
  unfold plainOk
  have : okN 60 (.tuple [.str "look", .int 0, .tuple [.str "say", .tuple []], .tuple [.str "say", .tuple [.str "2"]]]) = false := by
    show (looksOk _ && (kidsD _).all (okN 59)) = false
    rw [kids_look]
    show (_ && (okN 59 _ && (okN 59 (.tuple [.str "say", .tuple [.str "2"]]) && true))) = false
    rw [hs]
    simp
  rw [this, Bool.false_and]
/-- a new tuple: the hand, what stood, what it is -/
theorem mkT {K : PySem.W.Frag} {a d p : Addr} {H : Hp} {vs : List V} {ds : List PyData} (hh : Hnd H a d) (np : H p = none) (h : DpAll K (off a H) vs ds) :
    Hnd (upd H p (.tup vs)) a d ∧ Keep a H (upd H p (.tup vs)) ∧ Dp K (off a (upd H p (.tup vs))) (.ref p) (.tuple ds) :=
  ⟨hh.new np, Keep.new np, dp_new (hh.ne np).1 upd_same (dps_same (Keep.new (a := a) np).off _ h)⟩
theorem mkLs {a d p : Addr} {H : Hp} {vs : List V} (hh : Hnd H a d) (np : H p = none) : Hnd (upd H p (.lst vs)) a d ∧ Keep a H (upd H p (.lst vs)) ∧ upd H p (.lst vs) p = some (.lst vs) ∧ p ≠ a := ⟨hh.new np, Keep.new np, upd_same, (hh.ne np).1⟩

/-! ### the dicts of the made breakers, read off the written part -/
def intB (u : Value) (i : Int) : Bool := match u with
  | .int j _ => decide (j = i)
  | _ => false
def tupB2 (K : PySem.W.Frag) (u : Value) (b : Int × Int) : Bool := match u with
  | .ref a => (match K.lookup a with
    | some ⟨.type c, _, .seq its _, _⟩ => decide (c = "tuple") && (match its.toList with
      | [x, y] => intB x b.1 && intB y b.2
      | _ => false)
    | _ => false)
  | _ => false
def allB (K : PySem.W.Frag) : List Value → List (Int × Int) → Bool
  | [], [] => true
  | u :: us, b :: bs => tupB2 K u b && allB K us bs
  | _, _ => false
def tupPB (K : PySem.W.Frag) (u : Value) (bs : List (Int × Int)) : Bool := match u with
  | .ref a => (match K.lookup a with
    | some ⟨.type c, _, .seq its _, _⟩ => decide (c = "tuple") && (decide (its.toList.length ≤ 100) && allB K its.toList bs)
    | _ => false)
  | _ => false
def numB (K : PySem.W.Frag) : List DictEntry → List Str → Bool
  | [], [] => true
  | e :: es, k :: ks => (match e.key with
    | .str x _ => decide (x = k)
    | _ => false) && (tupPB K e.val (numOf k) && numB K es ks)
  | _, _ => false
theorem intB_ok {u : Value} {i : Int} (h : intB u i = true) : RelV (.int i) u := by
  unfold intB at h
  split at h
  · rename_i j t
    rw [of_decide_eq_true h]
    exact ⟨_, rfl⟩
  · cases h
theorem tupB2_ok {K : PySem.W.Frag} {u : Value} {b : Int × Int} (h : tupB2 K u b = true) : ∃ a, u = .ref a ∧ ∀ H, Dp K H (.ref a) (pairD b) := by
  unfold tupB2 at h
  split at h
  · rename_i a
    refine ⟨a, rfl, ?_⟩
    split at h
    · rename_i c dd its n sl e
      rw [Bool.and_eq_true, decide_eq_true_eq] at h
      obtain ⟨rfl, h⟩ := h
      split at h
      · rename_i x y e2
        rw [Bool.and_eq_true] at h
        have hs : its.size ≤ sizeLine := by
          rw [← Array.length_toList, e2]
          show 2 ≤ sizeLine
          decide
        exact fun H => .tup (.inr ⟨_, its, n, e, rfl, rfl, hs, by rw [e2]; exact .cons (intB_ok h.1) (.cons (intB_ok h.2) .nil)⟩) (.cons (.int _) (.cons (.int _) .nil))
      · cases h
    · cases h
  · cases h
theorem allB_ok {K : PySem.W.Frag} : ∀ {us : List Value} {bs : List (Int × Int)}, allB K us bs = true → ∃ vs : List V, Vals vs us ∧ ∀ H, DpAll K H vs (bs.map pairD)
  | [], [], _ => ⟨[], .nil, fun _ => .nil⟩
  | [], _ :: _, h => by cases h
  | _ :: _, [], h => by cases h
  | u :: us, b :: bs, h => by
    have h' : (tupB2 K u b && allB K us bs) = true := h
    rw [Bool.and_eq_true] at h'
    obtain ⟨a, rfl, h1⟩ := tupB2_ok h'.1
    obtain ⟨vs, h2, h3⟩ := allB_ok h'.2
    exact ⟨.ref a :: vs, .cons rfl h2, fun H => .cons (h1 H) (h3 H)⟩
theorem tupPB_ok {K : PySem.W.Frag} {u : Value} {bs : List (Int × Int)} (h : tupPB K u bs = true) : ∃ a, u = .ref a ∧ ∀ H, Dp K H (.ref a) (pairsD bs) := by
  unfold tupPB at h
  split at h
  · rename_i a
    refine ⟨a, rfl, ?_⟩
    split at h
    · rename_i c dd its n sl e
      rw [Bool.and_eq_true, Bool.and_eq_true, decide_eq_true_eq, decide_eq_true_eq] at h
      obtain ⟨rfl, hl, h⟩ := h
      obtain ⟨vs, h2, h3⟩ := allB_ok h
      have hs : its.size ≤ sizeLine := by
        rw [← Array.length_toList, sizeLine_eq]
        omega
      exact fun H => .tup (.inr ⟨_, its, n, e, rfl, rfl, hs, h2⟩) (h3 H)
    · cases h
  · cases h
theorem numB_ok {K : PySem.W.Frag} : ∀ {es : List DictEntry} {ks : List Str}, numB K es ks = true → KeysAre (numR K) es ks
  | [], [], _ => .nil
  | [], _ :: _, h => by cases h
  | _ :: _, [], h => by cases h
  | e :: es, k :: ks, h => by
    have h' : ((match e.key with
      | .str x _ => decide (x = k)
      | _ => false) && (tupPB K e.val (numOf k) && numB K es ks)) = true := h
    rw [Bool.and_eq_true, Bool.and_eq_true] at h'
    obtain ⟨h1, h2, h3⟩ := h'
    obtain ⟨a, ea, ha⟩ := tupPB_ok h2
    split at h1
    · rename_i x t ek
      rw [of_decide_eq_true h1] at ek
      exact .cons ek ⟨a, ea, ha⟩ (numB_ok h3)
    · cases h1
theorem fitB_ok {mg : Str → Option Value} {h1 h2 h3 h4 : Int} {t1 t2 t3 t4 : Tok} {f1 f2 f3 f4 : Addr} {es : Array DictEntry} (e : es.toList = [⟨h1, .str "longer" t1, .ref f1⟩, ⟨h2, .str "tree" t2, .ref f2⟩, ⟨h3, .str "opening" t3, .ref f3⟩, ⟨h4, .str "onetime" t4, .ref f4⟩])
    (m1 : mg "fits_longer" = some (.ref f1)) (m2 : mg "fits_tree" = some (.ref f2)) (m3 : mg "fits_opening" = some (.ref f3)) (m4 : mg "fits_onetime" = some (.ref f4)) : KeysAre (fitR mg) es.toList fitK := by
  rw [e]
  exact .cons rfl ⟨f1, rfl, .inl ⟨rfl, m1⟩⟩ (.cons rfl ⟨f2, rfl, .inr (.inl ⟨rfl, m2⟩)⟩ (.cons rfl ⟨f3, rfl, .inr (.inr (.inl ⟨rfl, m3⟩))⟩ (.cons rfl ⟨f4, rfl, .inr (.inr (.inr ⟨rfl, m4⟩))⟩ .nil)))

def top_level : Nat := 83
section
variable {P : Program} {w : World} {K : PySem.W.Frag} {mg : Str → Option Value} {base : Heap} {cs : Cs}
theorem ok_whole {f : Addr} {fd : FuncData} (D : Df K mg "is_whole" s_is_whole ["value", "low", "high"] f fd) (T : Txt K w mg cs) : FnOk P w K mg base CX0 1 f fd ["value", "low", "high"] (spWhole K) := by
  refine D.fn.ok sc_is_whole (fun vs H Q E h => ?_) (fun cdv A outer s H vs Q E hr h => ?_)
  · obtain ⟨v, d, lo, hi, rfl, _⟩ := h
    rfl
  · obtain ⟨v, d, lo, hi, rfl, hd, q⟩ := h
    refine ⟨_, (pss_one (ps_ret (pe_and (pe_callB (isiK K) (by rfl) T.n_isinstance (by decide +kernel) (pa_cons (pv 0) (pa_cons (pe_ty "int" (by rfl) T.n_int (by decide +kernel)) pa_nil))) (pe_and (pe_not (pe_callB (isiK K) (by rfl) T.n_isinstance (by decide +kernel) (pa_cons (pv 0) (pa_cons (pe_ty "bool" (by rfl) T.n_bool (by decide +kernel)) pa_nil)))) (pe_one (pe_chain op_le op_le (pv 1) (pv 0) (pv 2))))))), ?_⟩
    refine ⟨_, rfl, _, _, _, _, _, rfl, .ty "int", dp_ty hd, kit_int d, _, rfl, ?_⟩
    cases d with
    | int i =>
      cases hd
      refine ⟨_, rfl, _, _, _, _, false, rfl, .ty "bool", .base (.int i), kit_ty (by decide +kernel), _, rfl, _, rfl, ?_⟩
      refine ⟨_, rfl, _, rfl, _, _, rfl, rfl, _, rfl, ?_⟩
      by_cases c : lo ≤ i
      · rw [decide_eq_true c]
        refine ⟨_, rfl, _, _, rfl, rfl, ?_⟩
        have e : whole (.int i) lo hi = decide (i ≤ hi) := by
          show (decide (lo ≤ i) && decide (i ≤ hi)) = _
          rw [decide_eq_true c, Bool.true_and]
        rw [e] at q
        exact q
      · rw [decide_eq_false c]
        have e : whole (.int i) lo hi = false := by
          show (decide (lo ≤ i) && decide (i ≤ hi)) = _
          rw [decide_eq_false c, Bool.false_and]
        rw [e] at q
        exact q
    | bool b =>
      cases hd
      exact ⟨_, rfl, _, _, _, _, true, rfl, .ty "bool", .base (.bl b), kit_ty (by decide +kernel), _, rfl, _, rfl, q⟩
    | none => exact q
    | str x => exact q
    | list xs => exact q
    | tuple xs => exact q
    | dict xs => exact q
theorem all_rows {m : Int} {xs : List PyData} (h : xs.all (strLen m) = true) : ∃ ys : List Str, xs = ys.map PyData.str ∧ ∀ y ∈ ys, (y.length : Int) = m := by
  induction xs with
  | nil => exact ⟨[], rfl, fun y hy => (nomatch hy)⟩
  | cons x xs ih =>
    rw [List.all_cons, Bool.and_eq_true] at h
    obtain ⟨ys, e, hy⟩ := ih h.2
    cases x with
    | str z =>
      refine ⟨z :: ys, by rw [e]; rfl, fun y hy' => ?_⟩
      rcases List.mem_cons.mp hy' with r | r
      · subst r
        exact of_decide_eq_true h.1
      · exact hy y r
    | _ => cases h.1
theorem dp_strs {K : PySem.W.Frag} {H : Hp} : ∀ {vs : List V} {ys : List Str}, DpAll K H vs (ys.map PyData.str) → vs = ys.map V.str
  | _, [], .nil => rfl
  | _, y :: ys, .cons (.str _) t => by rw [List.map_cons, dp_strs t]
theorem sum_len {m : Nat} : ∀ {ys : List Str}, (∀ y ∈ ys, (y.length : Int) = (m : Int)) → (ys.map (·.length)).sum = ys.length * m
  | [], _ => by simp
  | y :: ys, h => by
    have h1 := h y List.mem_cons_self
    rw [List.map_cons, List.sum_cons, sum_len fun z hz => h z (List.mem_cons_of_mem _ hz), List.length_cons, Nat.succ_mul]
    omega
theorem all_bits {m : Int} {ys : List Str} (h : ∀ y ∈ ys, (y.length : Int) = m) : (ys.map PyData.str).all (bitRow m) = (Txt.join "" ys).cps.toList.all (fun c => c == 48 || c == 49) := by
  rw [join_all]
  induction ys with
  | nil => rfl
  | cons y ys ih =>
    rw [List.map_cons, List.all_cons, ih fun z hz => h z (List.mem_cons_of_mem _ hz), List.map_cons, List.flatten_cons, List.all_append]
    congr 1
    show (decide ((y.length : Int) = m) && _) = _
    rw [decide_eq_true (h y List.mem_cons_self), Bool.true_and]
theorem not_all {m : Int} {xs : List PyData} (h : xs.all (strLen m) = false) : xs.all (bitRow m) = false := by
  rw [Bool.eq_false_iff] at h ⊢
  intro z
  refine h ?_
  rw [List.all_eq_true] at z ⊢
  intro x hx
  have := z x hx
  cases x with
  | str y =>
    have h2 : (decide ((y.length : Int) = m) && y.cps.toList.all (fun c => c == 48 || c == 49)) = true := this
    exact (Bool.and_eq_true_iff.mp h2).1
  | _ => cases this
theorem ok_rows {f : Addr} {fd : FuncData} (D : Df K mg "are_rows" s_are_rows ["value", "many", "m"] f fd) (T : Txt K w mg cs) : FnOk P w K mg base CX0 1 f fd ["value", "many", "m"] (spRows K) := by
  refine D.fn.ok sc_are_rows (fun vs H Q E h => ?_) (fun cdv A outer s H vs Q E hr h => ?_)
  · obtain ⟨v, d, n, many, m, rfl, _⟩ := h
    rfl
  · obtain ⟨v, d, n, many, m, rfl, hd, hg, hmany, hm, q⟩ := h
    refine ⟨_, (pss_cons (ps_if (PW.pt (pw_or (pt_not (pt_val (pe_callB (isiK K) (by rfl) T.n_isinstance (by decide +kernel) (pa_cons (pv 0) (pa_cons (pe_ty "tuple" (by rfl) T.n_tuple (by decide +kernel)) pa_nil))))) (pw_or1 (pt_cmpR op_ne (pe_callB (lenS K) (by rfl) T.n_len (by decide +kernel) (pa_cons (pv 0) pa_nil)) (pv 1) (nomark _))))) (pss_one (ps_ret pe_bl)) pss_nil) (pss_cons (ps_if (pt_not (pt_val (pe_callB (crAll K rfl) (by rfl) T.n_all (by decide +kernel) (pa_cons (pe_lc (own := [("row", 3)]) (g := gName 3) (tt := tYes) rfl sc_are_rows.nd (pi_tup (pv 0)) (blkOk_by (own := [("row", 3)]) (N := ["value", "many", "m", "row"]) (sc := defScope s_are_rows) (by decide +kernel)) (fun _ _ _ _ _ => (pg_name (i := 3) sc_are_rows.nd rfl (.inl rfl))) (fun _ _ _ _ _ => pts_nil) (fun _ _ _ _ _ => (pe_and (pe_callB (isiK K) (by rfl) T.n_isinstance (by decide +kernel) (pa_cons (pv 3) (pa_cons (pe_ty "str" (by rfl) T.n_str (by decide +kernel)) pa_nil))) (pe_one (pe_cmpR op_eq (pe_callB call_len_str (by rfl) T.n_len (by decide +kernel) (pa_cons (pv 3) pa_nil)) (pv 2) (nomark _)))))) pa_nil)))) (pss_one (ps_ret pe_bl)) pss_nil) (pss_one (ps_ret (pe_cmpR op_eq (pe_m1 PySem.F.slot_str_strip PySem.F.type_str_strip mt_stripChars (pe_m1 PySem.F.slot_str_join PySem.F.type_str_join (mtJoin K) pe_str (pv 0)) pe_str) pe_str (nomark _)))))), ?_⟩
    refine ⟨_, rfl, _, _, _, _, _, rfl, .ty "tuple", dp_ty hd, kit_tup d, _, rfl, ?_⟩
    cases d with
    | tuple xs =>
      cases hd with
      | @tup a ws _ hT hA =>
        obtain ⟨hl, n', rfl, hx⟩ := gd_tup hg
        have hwl := dp_all_len hA
        refine ⟨_, rfl, a, ws, rfl, .inr hT, _, rfl, rfl, _, rfl, ?_⟩
        by_cases c : (ws.length : Int) = many
        · rw [decide_eq_true (show V.int (ws.length : Int) = V.int many by rw [c])]
          -- all([isinstance(row, str) and len(row) == m for row in value])
          refine ⟨_, rfl, a, rfl, ⟨_, hT⟩, fun Dl hD => ?_⟩
          refine lc_tup (xs := ws) (fun i H' => Same H H' ∧ H' Dl = some (.lst ((xs.take i).map fun x => V.bl (strLen m x)))) ?_ ?_ ?_ ?_
          · exact ⟨same_new hD, upd_same⟩
          · rintro i H' _ ⟨s1, _⟩
            exact same_sqt s1 hT
          · rintro i x H' hxi ⟨s1, e1⟩
            obtain ⟨d, hdi, hdx⟩ := dp_all_get hA hxi
            have hdx' := dp_same s1 d hdx
            have hgd := hx d (List.mem_of_getElem? hdi)
            have hi : i < xs.length := (List.getElem?_eq_some_iff.mp hdi).1
            have fin : ∀ b : Bool, strLen m d = b → ∃ acc, H' Dl = some (.lst acc) ∧ acc.length < sizeLine ∧ (Same H (upd H' Dl (.lst (acc ++ [.bl b]))) ∧ upd H' Dl (.lst (acc ++ [.bl b])) Dl = some (.lst ((xs.take (i + 1)).map fun x => V.bl (strLen m x)))) := by
              intro b hb
              refine ⟨_, e1, ?_, fun p o e => ?_, ?_⟩
              · rw [List.length_map, List.length_take]
                exact Nat.lt_of_lt_of_le (show min i xs.length < 10000 by omega) (by decide)
              · rw [upd_ne (ne_of_none e hD)]
                exact s1 p o e
              · rw [upd_same, List.take_add_one, hdi, List.map_append]
                show _ = some (HO.lst (_ ++ [V.bl (strLen m d)]))
                rw [hb]
            refine ⟨rfl, ?_⟩
            refine ⟨_, rfl, _, _, _, _, _, rfl, .ty "str", dp_ty hdx', kit_str d, _, rfl, ?_⟩
            cases d with
            | str z =>
              cases hdx'
              have hz := (gd_str hgd).2
              refine ⟨_, rfl, z, rfl, ?_, _, rfl, rfl, ?_⟩
              · rw [sizeLine_eq]
                omega
              · refine fin _ ?_
                show decide ((z.length : Int) = m) = decide (V.int (z.length : Int) = V.int m)
                by_cases c : (z.length : Int) = m
                · rw [decide_eq_true c, decide_eq_true (congrArg V.int c)]
                · rw [decide_eq_false c, decide_eq_false fun z => c (V.int.inj z)]
            | none => exact fin false rfl
            | bool b => exact fin false rfl
            | int b => exact fin false rfl
            | list b => exact fin false rfl
            | tuple b => exact fin false rfl
            | dict b => exact fin false rfl
          · rintro H' ⟨s1, e1⟩
            have et : (xs.take ws.length).map (fun x => V.bl (strLen m x)) = ((xs.map (strLen m)).map V.bl) := by
              rw [List.take_of_length_le (by omega), List.map_map]
              rfl
            rw [et] at e1
            refine ⟨Dl, _, rfl, .inl (.inl e1), _, rfl, ?_⟩
            have ea : (xs.map (strLen m)).all id = xs.all (strLen m) := by
              rw [List.all_map]
              rfl
            rw [ea]
            cases hc : xs.all (strLen m) with
            | false =>
              have e : rowsOk (.tuple xs) many m = false := by
                show (decide _ && xs.all (bitRow m)) = false
                rw [not_all hc, Bool.and_false]
              have q' := q H' s1
              rw [e] at q'
              exact q'
            | true =>
              obtain ⟨ys, rfl, hy⟩ := all_rows hc
              have ew := dp_strs hA
              subst ew
              have hm0 : ∃ k : Nat, ys = [] ∨ m = (k : Int) := by
                cases ys with
                | nil => exact ⟨0, .inl rfl⟩
                | cons y ys => exact ⟨y.length, .inr (hy y List.mem_cons_self).symm⟩
              have hsum : (ys.map (·.length)).sum ≤ 4096 * 40 := by
                obtain ⟨k, rfl | rfl⟩ := hm0
                · simp
                · rw [sum_len hy]
                  have h1 : ys.length ≤ 4096 := by
                    rw [List.length_map] at c
                    omega
                  have h2 : k ≤ 40 := by omega
                  exact Nat.mul_le_mul h1 h2
              refine ⟨⟨_, rfl⟩, _, rfl, "", a, ys, rfl, rfl, .inr (same_sqt s1 hT), ?_, ⟨_, rfl⟩, _, _, rfl, rfl, ?_, rfl, ?_⟩
              · show _ + _ * 0 ≤ _
                omega
              · have hj : (Txt.join "" ys).length = (ys.map (·.length)).sum := by
                  show (Txt.join "" ys).cps.size = _
                  rw [← Array.length_toList, join_all, List.length_flatten, List.map_map]
                  congr 1
                rw [hj, sizeLine_eq]
                omega
              · rw [strip_all, ← all_bits hy]
                have e : rowsOk (.tuple (ys.map PyData.str)) many m = (ys.map PyData.str).all (bitRow m) := by
                  show (decide (((ys.map PyData.str).length : Int) = many) && _) = _
                  rw [decide_eq_true (by rw [List.length_map] at c ⊢; exact c), Bool.true_and]
                have q' := q H' s1
                rw [e] at q'
                exact q'
        · rw [decide_eq_false (show ¬ V.int (ws.length : Int) = V.int many from fun z => c (V.int.inj z))]
          have e : rowsOk (.tuple xs) many m = false := by
            show (decide ((xs.length : Int) = many) && _) = false
            rw [decide_eq_false (by rw [← hwl]; exact c), Bool.false_and]
          have q' := q H (Same.refl H)
          rw [e] at q'
          exact q'
    | bool b => exact q H (Same.refl H)
    | none => exact q H (Same.refl H)
    | int x => exact q H (Same.refl H)
    | str x => exact q H (Same.refl H)
    | list xs => exact q H (Same.refl H)
    | dict xs => exact q H (Same.refl H)

theorem ok_gen {f : Addr} {fd : FuncData} (D : Df K mg "is_generator" s_is_generator ["value"] f fd) (T : Txt K w mg cs) (c_is_whole : Cl P w K mg base CX0 1 "is_whole" (spWhole K)) (c_are_rows : Cl P w K mg base CX0 1 "are_rows" (spRows K)) : FnOk P w K mg base CX0 2 f fd ["value"] (spD K genOk) := by
  refine D.fn.ok sc_is_generator (fun vs H Q E h => ?_) (fun cdv A outer s H vs Q E hr h => ?_)
  · obtain ⟨v, d, n, rfl, _⟩ := h
    rfl
  · obtain ⟨v, d, n, rfl, hd, hg, q⟩ := h
    refine ⟨_, (pss_cons (ps_if (PW.pt (pw_or (pt_not (pt_val (pe_callB (isiK K) (by rfl) T.n_isinstance (by decide +kernel) (pa_cons (pv 0) (pa_cons (pe_ty "tuple" (by rfl) T.n_tuple (by decide +kernel)) pa_nil))))) (pw_or1 (pt_cmpR op_ne (pe_callB (lenS K) (by rfl) T.n_len (by decide +kernel) (pa_cons (pv 0) pa_nil)) pe_int (nomark _))))) (pss_one (ps_ret pe_bl)) pss_nil) (pss_cons (ps_asg (pv 0) (pg_tup (by rfl) (pgs_cons (pg_name (i := 1) sc_is_generator.nd rfl (.inl rfl)) (pgs_cons (pg_name (i := 2) sc_is_generator.nd rfl (.inl rfl)) (pgs_cons (pg_name (i := 3) sc_is_generator.nd rfl (.inl rfl)) (pgs_cons (pg_name (i := 4) sc_is_generator.nd rfl (.inl rfl)) pgs_nil)))))) (pss_cons (ps_if (PW.pt (pw_or (pt_cmpR (op_neF K hr.units) (pv 1) pe_str (nomark _)) (pw_or (pt_not (pt_val (pe_cl c_is_whole hr (by first | decide | omega) (by rfl) (pa_cons (pv 2) (pa_cons pe_int (pa_cons pe_int pa_nil)))))) (pw_or1 (pt_not (pt_val (pe_cl c_is_whole hr (by first | decide | omega) (by rfl) (pa_cons (pv 3) (pa_cons pe_int (pa_cons (C8.pe_gc (by rfl) T.g_MOST_BITS) pa_nil)))))))))) (pss_one (ps_ret pe_bl)) pss_nil) (pss_one (ps_ret (pe_cl c_are_rows hr (by first | decide | omega) (by rfl) (pa_cons (pv 4) (pa_cons (pe_op op_shl pe_int (pv 2)) (pa_cons (pv 3) pa_nil))))))))), ?_⟩
    refine ⟨_, rfl, _, _, _, _, _, rfl, .ty "tuple", dp_ty hd, kit_tup d, _, rfl, ?_⟩
    cases d with
    | tuple xs =>
      cases hd with
      | @tup a ws _ hT hA =>
        obtain ⟨hl, n', rfl, hx⟩ := gd_tup hg
        have hwl := dp_all_len hA
        refine ⟨_, rfl, a, ws, rfl, .inr hT, rfl, _, rfl, ?_⟩
        by_cases c : ws.length = 4
        · obtain ⟨v0, v1, v2, v3, k, n, m, r, rfl, rfl, h0, h1, h2, h3⟩ := dp4 hA c
          rw [decide_eq_true (show V.int (([v0, v1, v2, v3].length : Nat) : Int) = V.int 4 from rfl)]
          refine ⟨_, rfl, a, _, rfl, hT, rfl, _, _, rfl, _, _, rfl, _, _, rfl, _, _, rfl, rfl, ?_⟩
          have g0 := hx k List.mem_cons_self
          have g3 := hx r (List.mem_cons_of_mem _ (List.mem_cons_of_mem _ (List.mem_cons_of_mem _ List.mem_cons_self)))
          rw [gen_eq] at q
          -- kind != 'generator'
          refine ⟨_, rfl, k, .str "generator", h0, .str _, gd_lay g0, str_lay _, str_dep _, _, rfl, ?_⟩
          rw [name_ne]
          cases ck : named "generator" k with
          | false =>
            rw [ck] at q
            exact q H (Same.refl H)
          | true =>
            rw [ck] at q
            refine ⟨_, rfl, v1, n, 1, 10, rfl, h1, _, rfl, ?_⟩
            cases cn : whole n 1 10 with
            | false =>
              rw [cn] at q
              exact q H (Same.refl H)
            | true =>
              rw [cn] at q
              refine ⟨_, rfl, v2, m, 1, 40, rfl, h2, _, rfl, ?_⟩
              cases cm : whole m 1 40 with
              | false =>
                rw [cm] at q
                exact q H (Same.refl H)
              | true =>
                rw [cm] at q
                obtain ⟨n, rfl, n1, n2⟩ := whole_int cn
                obtain ⟨m, rfl, m1, m2⟩ := whole_int cm
                cases h1
                cases h2
                refine ⟨_, rfl, _, rfl, _, _, rfl, rfl, ⟨by omega, by omega, by decide⟩, _, rfl, v3, r, _, _, _, rfl, h3, g3, ?_, m2, fun H' s' => q H' s'⟩
                exact Int.le_trans (pow_le (b := 10) n1 n2) (by decide)
        · have hne : ((ws.length : Nat) : Int) ≠ 4 := by omega
          rw [decide_eq_false (show ¬ V.int (ws.length : Int) = V.int 4 from fun z => hne (V.int.inj z))]
          have e := gen_no (xs := xs) (by omega)
          have q' := q H (Same.refl H)
          rw [e] at q'
          exact q'
    | bool b => exact q H (Same.refl H)
    | none => exact q H (Same.refl H)
    | int x => exact q H (Same.refl H)
    | str x => exact q H (Same.refl H)
    | list xs => exact q H (Same.refl H)
    | dict xs => exact q H (Same.refl H)

def numsZip (ds : List PyData) (bs : List (Int × Int)) : List Bool := List.zipWith (fun d b => whole d b.1 b.2) ds bs
theorem nums_zip : ∀ {ds : List PyData} {bs : List (Int × Int)}, ds.length = bs.length → numsOk ds bs = (numsZip ds bs).all id
  | [], [], _ => rfl
  | [], _ :: _, h => by cases h
  | _ :: _, [], h => by cases h
  | d :: ds, b :: bs, h => by
    show (whole d b.1 b.2 && numsOk ds bs) = (whole d b.1 b.2 && (numsZip ds bs).all id)
    rw [nums_zip (Nat.succ.inj h)]
theorem pairs_at {K : PySem.W.Frag} {H : Hp} {vs : List V} {bs : List (Int × Int)} {i : Nat} {v : V} (h : DpAll K H vs (bs.map pairD)) (e : vs[i]? = some v) : ∃ b a, bs[i]? = some b ∧ v = .ref a ∧ SqT K H a [.int b.1, .int b.2] := by
  obtain ⟨d, h1, h2⟩ := dp_all_get h e
  rw [List.getElem?_map] at h1
  cases hb : bs[i]? with
  | none =>
    rw [hb] at h1
    cases h1
  | some b =>
    rw [hb] at h1
    have h3 := Option.some.inj h1
    subst h3
    cases h2 with
    | tup hs ha =>
      cases ha with
      | cons h4 h5 =>
        cases h5 with
        | cons h6 h7 =>
          cases h7
          cases h4
          cases h6
          exact ⟨b, _, rfl, rfl, hs⟩
theorem ok_numbers {f : Addr} {fd : FuncData} (D : Df K mg "are_numbers" s_are_numbers ["own", "bounds"] f fd) (T : Txt K w mg cs) (c_is_whole : Cl P w K mg base CX0 1 "is_whole" (spWhole K)) : FnOk P w K mg base CX0 2 f fd ["own", "bounds"] (spNums K) := by
  refine D.fn.ok sc_are_numbers (fun vs H Q E h => ?_) (fun cdv A outer s H vs Q E hr h => ?_)
  · obtain ⟨v, y, ds, bs, n, rfl, _⟩ := h
    rfl
  · obtain ⟨v, y, ds, bs, n, rfl, hv, hg, hy, hbl, q⟩ := h
    refine ⟨_, (pss_cons (ps_if (pt_cmpR op_ne (pe_callB (lenS K) (by rfl) T.n_len (by decide +kernel) (pa_cons (pv 0) pa_nil)) (pe_callB (lenS K) (by rfl) T.n_len (by decide +kernel) (pa_cons (pv 1) pa_nil)) (nomark _)) (pss_one (ps_ret pe_bl)) pss_nil) (pss_one (ps_ret (pe_callB (crAll K rfl) (by rfl) T.n_all (by decide +kernel) (pa_cons (pe_lc (own := [("value", 2), ("low", 3), ("high", 4)]) (g := (gTup K 2 (gCons (gName 2) (gCons (gTup K 2 (gCons (gName 3) (gCons (gName 4) gNil))) gNil)))) (tt := tYes) rfl sc_are_numbers.nd (RZ.pi_zipA (by rfl) T.n_zip (pa_cons (pv 0) (pa_cons (pv 1) pa_nil))) (blkOk_by (own := [("value", 2), ("low", 3), ("high", 4)]) (N := ["own", "bounds", "value", "low", "high"]) (sc := defScope s_are_numbers) (by decide +kernel)) (fun _ _ _ _ _ => (pg_tup (by rfl) (pgs_cons (pg_name (i := 2) sc_are_numbers.nd rfl (.inl rfl)) (pgs_cons (pg_tup (by rfl) (pgs_cons (pg_name (i := 3) sc_are_numbers.nd rfl (.inl rfl)) (pgs_cons (pg_name (i := 4) sc_are_numbers.nd rfl (.inl rfl)) pgs_nil))) pgs_nil)))) (fun _ _ _ _ _ => pts_nil) (fun _ _ _ _ _ => (pe_cl c_is_whole hr (by first | decide | omega) (by rfl) (pa_cons (pv 2) (pa_cons (pv 3) (pa_cons (pv 4) pa_nil)))))) pa_nil))))), ?_⟩
    cases hv with
    | @tup a ws _ hT hA =>
    cases hy with
    | @tup b zs _ hS hB =>
    obtain ⟨hl, n', rfl, hx⟩ := gd_tup hg
    have hwl := dp_all_len hA
    have hzl := dp_all_len hB
    rw [List.length_map] at hzl
    refine ⟨_, rfl, a, ws, rfl, .inr hT, _, rfl, b, zs, rfl, .inr hS, rfl, _, rfl, ?_⟩
    by_cases c : ws.length = zs.length
    · rw [decide_eq_true (show V.int ((ws.length : Nat) : Int) = V.int ((zs.length : Nat) : Int) from congrArg V.int (by omega))]
      refine ⟨_, rfl, _, rfl, a, b, ws, zs, rfl, .inr ⟨hT, hS, fun Dl hD => ?_⟩⟩
      refine lc_it (walk_zipT (n := ws.length) rfl c.symm) (fun i H' => Same H H' ∧ H' Dl = some (.lst (((numsZip ds bs).take i).map V.bl))) ?_ ?_ ?_ ?_
      · exact ⟨same_new hD, upd_same⟩
      · rintro i H' _ ⟨s1, _⟩
        exact ⟨same_sqt s1 hT, same_sqt s1 hS⟩
      · rintro i x H' H2 hi ⟨s1, e1⟩ ⟨t, x1, x2, rfl, nt, rfl, hx1, hx2⟩
        have s2 := s1.trans (same_new (o := .tup [x1, x2]) nt)
        obtain ⟨d, hdi, hdx⟩ := dp_all_get hA hx1
        obtain ⟨bb, pa, hbi, rfl, hpa⟩ := pairs_at hB hx2
        refine ⟨t, [x1, .ref pa], rfl, .inl (.inl upd_same), rfl, x1, _, rfl, .ref pa, _, rfl, ?_⟩
        refine ⟨pa, _, rfl, same_sqt s2 hpa, rfl, _, _, rfl, _, _, rfl, rfl, rfl, rfl, ?_⟩
        refine ⟨_, rfl, _, rfl, _, rfl, x1, d, bb.1, bb.2, rfl, dp_same s2 d hdx, ?_⟩
        have e2 : upd H' t (.tup [x1, .ref pa]) Dl = some (.lst (((numsZip ds bs).take i).map V.bl)) := by
          rw [upd_ne (ne_of_none e1 nt)]
          exact e1
        refine ⟨_, e2, ?_, fun p o e => ?_, ?_⟩
        · rw [List.length_map, List.length_take]
          exact Nat.lt_of_lt_of_le (show min i (numsZip ds bs).length < 10000 by omega) (by decide)
        · rw [upd_ne (ne_of_none e hD)]
          exact s2 p o e
        · rw [upd_same, List.take_add_one]
          have ez : (numsZip ds bs)[i]? = some (whole d bb.1 bb.2) := by
            unfold numsZip
            rw [List.getElem?_zipWith, hdi, hbi]
          rw [ez, List.map_append]
          rfl
      · rintro H' ⟨s1, e1⟩
        have hzn : (numsZip ds bs).length = ws.length := by
          unfold numsZip
          rw [List.length_zipWith]
          omega
        rw [List.take_of_length_le (by omega)] at e1
        refine ⟨Dl, _, rfl, .inl (.inl e1), ?_⟩
        rw [← nums_zip (by omega)]
        exact q H' s1
    · rw [decide_eq_false (show ¬ V.int ((ws.length : Nat) : Int) = V.int ((zs.length : Nat) : Int) from fun z => c (by have := V.int.inj z; omega))]
      have q' := q H (Same.refl H)
      rw [nums_len (by omega)] at q'
      exact q'

theorem ok_longerF {f : Addr} {fd : FuncData} (D : Df K mg "fits_longer" s_fits_longer ["own"] f fd) (T : Txt K w mg cs) (c_is_whole : Cl P w K mg base CX0 1 "is_whole" (spWhole K)) (c_is_generator : Cl P w K mg base CX0 2 "is_generator" (spD K genOk)) : FnOk P w K mg base CX0 3 f fd ["own"] (spOwn K fitLonger) := by
  refine D.fn.ok sc_fits_longer (fun vs H Q E h => ?_) (fun cdv A outer s H vs Q E hr h => ?_)
  · obtain ⟨v, ds, n, rfl, _⟩ := h
    rfl
  · obtain ⟨v, ds, n, rfl, hv, hg, q⟩ := h
    refine ⟨_, (pss_cons (ps_if (PW.pt (pw_or (pt_cmpR op_ne (pe_callB (lenS K) (by rfl) T.n_len (by decide +kernel) (pa_cons (pv 0) pa_nil)) pe_int (nomark _)) (pw_or1 (pt_not (pt_val (pe_cl c_is_generator hr (by first | decide | omega) (by rfl) (pa_cons (pe_ix (ixT K) (pv 0) pe_int (fun _ _ => rfl)) pa_nil))))))) (pss_one (ps_ret pe_bl)) pss_nil) (pss_cons (ps_asg (pe_slice (slTA K) (pe_ix (ixT K) (pv 0) pe_int (fun _ _ => rfl)) (po_some pe_int) (po_some pe_int)) (pg_tup (by rfl) (pgs_cons (pg_name (i := 1) sc_fits_longer.nd rfl (.inl rfl)) (pgs_cons (pg_name (i := 2) sc_fits_longer.nd rfl (.inl rfl)) pgs_nil)))) (pss_one (ps_ret (pe_and (pe_cmpR op_eq (pv 2) (pe_op op_add (pv 1) pe_int) (nomark _)) (pe_one (pe_cl c_is_whole hr (by first | decide | omega) (by rfl) (pa_cons (pe_ix (ixT K) (pv 0) pe_int (fun _ _ => rfl)) (pa_cons pe_int (pa_cons pe_int pa_nil)))))))))), ?_⟩
    cases hv with
    | @tup a ws _ hT hA =>
    obtain ⟨hl, n', rfl, hx⟩ := gd_tup hg
    have hwl := dp_all_len hA
    refine ⟨_, rfl, a, ws, rfl, .inr hT, rfl, _, rfl, ?_⟩
    by_cases c : ws.length = 2
    · obtain ⟨vg, vk, g, k, rfl, rfl, h0, h1⟩ := dp2 hA c
      have g0 := hx g List.mem_cons_self
      rw [decide_eq_true (show V.int (([vg, vk].length : Nat) : Int) = V.int 2 from rfl)]
      refine ⟨_, rfl, a, _, 0, vg, rfl, rfl, hT, rfl, vg, g, n', rfl, h0, g0, fun H1 s1 => ⟨_, rfl, ?_⟩⟩
      have ef : fitLonger [g, k] = (genOk g && (genNext g && whole k 1 20)) := rfl
      cases eg : genOk g with
      | false =>
        rw [ef, eg] at q
        exact q H1 s1
      | true =>
        obtain ⟨kk, r, n, m, rfl, b1, b2, b3, b4⟩ := gen_parts eg
        rw [ef, eg] at q
        cases h0 with
        | @tup ga gs _ gT gA =>
        obtain ⟨v0, v1, v2, v3, d0, d1, d2, d3, rfl, e4, p0, p1, p2, p3⟩ := dp4 gA (dp_all_len gA)
        cases e4
        cases p1
        cases p2
        refine ⟨_, rfl, a, _, 0, .ref ga, rfl, rfl, same_sqt s1 hT, rfl, 1, rfl, 3, rfl, slA_any (same_sqt s1 gT) fun p H2 s2 hc => ?_⟩
        have s12 := s1.trans s2
        refine ⟨p, [.int n, .int m], rfl, hc, rfl, _, _, rfl, _, _, rfl, rfl, ?_⟩
        refine ⟨_, rfl, _, rfl, _, _, rfl, rfl, rfl, _, rfl, ?_⟩
        have q' := fun H' (s' : Same H2 H') => q H' (s12.trans s')
        by_cases cm : m = n + 1
        · rw [decide_eq_true (congrArg V.int cm)]
          refine ⟨_, rfl, a, _, 1, vk, rfl, rfl, same_sqt s12 hT, rfl, vk, k, 1, 20, rfl, dp_same s12 k h1, ?_⟩
          have := q' H2 (Same.refl H2)
          rw [show genNext (.tuple [kk, .int n, .int m, r]) = decide (m = n + 1) from rfl, decide_eq_true cm] at this
          exact this
        · rw [decide_eq_false (fun z => cm (V.int.inj z))]
          have := q' H2 (Same.refl H2)
          rw [show genNext (.tuple [kk, .int n, .int m, r]) = decide (m = n + 1) from rfl, decide_eq_false cm] at this
          exact this
    · have hne : ((ws.length : Nat) : Int) ≠ 2 := by omega
      rw [decide_eq_false (show ¬ V.int (ws.length : Int) = V.int 2 from fun z => hne (V.int.inj z))]
      have q' := q H (Same.refl H)
      rw [fitLonger_no (by omega)] at q'
      exact q'
theorem ok_treeF {f : Addr} {fd : FuncData} (D : Df K mg "fits_tree" s_fits_tree ["own"] f fd) (T : Txt K w mg cs) (c_is_whole : Cl P w K mg base CX0 1 "is_whole" (spWhole K)) (c_is_generator : Cl P w K mg base CX0 2 "is_generator" (spD K genOk)) : FnOk P w K mg base CX0 3 f fd ["own"] (spOwn K fitTree) := by
  refine D.fn.ok sc_fits_tree (fun vs H Q E h => ?_) (fun cdv A outer s H vs Q E hr h => ?_)
  · obtain ⟨v, ds, n, rfl, _⟩ := h
    rfl
  · obtain ⟨v, ds, n, rfl, hv, hg, q⟩ := h
    refine ⟨_, (pss_cons (ps_if (PW.pt (pw_or (pt_cmpR op_ne (pe_callB (lenS K) (by rfl) T.n_len (by decide +kernel) (pa_cons (pv 0) pa_nil)) pe_int (nomark _)) (pw_or1 (pt_not (pt_val (pe_cl c_is_generator hr (by first | decide | omega) (by rfl) (pa_cons (pe_ix (ixT K) (pv 0) pe_int (fun _ _ => rfl)) pa_nil))))))) (pss_one (ps_ret pe_bl)) pss_nil) (pss_cons (ps_asg (pe_slice (slTA K) (pe_ix (ixT K) (pv 0) pe_int (fun _ _ => rfl)) (po_some pe_int) (po_some pe_int)) (pg_tup (by rfl) (pgs_cons (pg_name (i := 1) sc_fits_tree.nd rfl (.inl rfl)) (pgs_cons (pg_name (i := 2) sc_fits_tree.nd rfl (.inl rfl)) pgs_nil)))) (pss_one (ps_ret (pe_and (pe_cmpR op_eq (pv 2) (pe_op op_mul pe_int (pv 1)) (nomark _)) (pe_and (pe_cmpR op_le (pv 1) pe_int (nomark _)) (pe_and (pe_cl c_is_whole hr (by first | decide | omega) (by rfl) (pa_cons (pe_ix (ixT K) (pv 0) pe_int (fun _ _ => rfl)) (pa_cons pe_int (pa_cons (pe_callB (call_min2 rfl) (by rfl) T.n_min (by decide +kernel) (pa_cons pe_int (pa_cons (pe_op op_sub pe_int (pv 1)) pa_nil))) pa_nil)))) (pe_one (pe_cl c_is_whole hr (by first | decide | omega) (by rfl) (pa_cons (pe_ix (ixT K) (pv 0) pe_int (fun _ _ => rfl)) (pa_cons pe_int (pa_cons pe_int pa_nil)))))))))))), ?_⟩
    cases hv with
    | @tup a ws _ hT hA =>
    obtain ⟨hl, n', rfl, hx⟩ := gd_tup hg
    have hwl := dp_all_len hA
    refine ⟨_, rfl, a, ws, rfl, .inr hT, rfl, _, rfl, ?_⟩
    by_cases c : ws.length = 3
    · obtain ⟨vg, vd, vq, g, dd, dq, rfl, rfl, h0, h1, h2⟩ := dp3 hA c
      have g0 := hx g List.mem_cons_self
      rw [decide_eq_true (show V.int (([vg, vd, vq].length : Nat) : Int) = V.int 3 from rfl)]
      refine ⟨_, rfl, a, _, 0, vg, rfl, rfl, hT, rfl, vg, g, n', rfl, h0, g0, fun H1 s1 => ⟨_, rfl, ?_⟩⟩
      have ef : fitTree [g, dd, dq] = (genOk g && genTwice dd dq g) := rfl
      cases eg : genOk g with
      | false =>
        rw [ef, eg] at q
        exact q H1 s1
      | true =>
        obtain ⟨kk, r, n, m, rfl, b1, b2, b3, b4⟩ := gen_parts eg
        rw [ef, eg] at q
        cases h0 with
        | @tup ga gs _ gT gA =>
        obtain ⟨v0, v1, v2, v3, d0, d1, d2, d3, rfl, e4, p0, p1, p2, p3⟩ := dp4 gA (dp_all_len gA)
        cases e4
        cases p1
        cases p2
        refine ⟨_, rfl, a, _, 0, .ref ga, rfl, rfl, same_sqt s1 hT, rfl, 1, rfl, 3, rfl, slA_any (same_sqt s1 gT) fun p H2 s2 hc => ?_⟩
        have s12 := s1.trans s2
        refine ⟨p, [.int n, .int m], rfl, hc, rfl, _, _, rfl, _, _, rfl, rfl, ?_⟩
        have q' := q H2 s12
        rw [show genTwice dd dq (.tuple [kk, .int n, .int m, r]) = (decide (m = 2 * n) && (decide (n ≤ 8) && (whole dd 1 (if 12 - n < 8 then 12 - n else 8) && whole dq 1 1000))) from rfl] at q'
        refine ⟨_, rfl, _, rfl, _, _, rfl, rfl, .inl ⟨by decide, by decide⟩, rfl, _, rfl, ?_⟩
        by_cases cm : m = 2 * n
        · rw [decide_eq_true (congrArg V.int cm)]
          rw [decide_eq_true cm] at q'
          refine ⟨_, rfl, _, _, rfl, rfl, _, rfl, ?_⟩
          by_cases cn : n ≤ 8
          · rw [decide_eq_true cn] at q' ⊢
            refine ⟨_, rfl, a, _, 1, vd, rfl, rfl, same_sqt s12 hT, rfl, _, rfl, _, _, rfl, rfl, _, _, rfl, vd, dd, 1, _, rfl, dp_same s12 dd h1, _, rfl, ?_⟩
            cases cw : whole dd 1 (if 12 - n < 8 then 12 - n else 8) with
            | false =>
              rw [cw] at q'
              exact q'
            | true =>
              rw [cw] at q'
              exact ⟨_, rfl, a, _, 2, vq, rfl, rfl, same_sqt s12 hT, rfl, vq, dq, 1, 1000, rfl, dp_same s12 dq h2, q'⟩
          · rw [decide_eq_false cn] at q' ⊢
            exact q'
        · rw [decide_eq_false (fun z => cm (V.int.inj z))]
          rw [decide_eq_false cm] at q'
          exact q'
    · have hne : ((ws.length : Nat) : Int) ≠ 3 := by omega
      rw [decide_eq_false (show ¬ V.int (ws.length : Int) = V.int 3 from fun z => hne (V.int.inj z))]
      have q' := q H (Same.refl H)
      rw [fitTree_no (by omega)] at q'
      exact q'
theorem ok_onetimeF {f : Addr} {fd : FuncData} (D : Df K mg "fits_onetime" s_fits_onetime ["own"] f fd) (T : Txt K w mg cs) (c_is_whole : Cl P w K mg base CX0 1 "is_whole" (spWhole K)) (c_is_generator : Cl P w K mg base CX0 2 "is_generator" (spD K genOk)) : FnOk P w K mg base CX0 3 f fd ["own"] (spOwn K fitOnetime) := by
  refine D.fn.ok sc_fits_onetime (fun vs H Q E h => ?_) (fun cdv A outer s H vs Q E hr h => ?_)
  · obtain ⟨v, ds, n, rfl, _⟩ := h
    rfl
  · obtain ⟨v, ds, n, rfl, hv, hg, q⟩ := h
    refine ⟨_, (pss_one (ps_ret (pe_and (pe_cmpR op_eq (pe_callB (lenS K) (by rfl) T.n_len (by decide +kernel) (pa_cons (pv 0) pa_nil)) pe_int (nomark _)) (pe_and (pe_cl c_is_generator hr (by first | decide | omega) (by rfl) (pa_cons (pe_ix (ixT K) (pv 0) pe_int (fun _ _ => rfl)) pa_nil)) (pe_one (pe_cl c_is_whole hr (by first | decide | omega) (by rfl) (pa_cons (pe_ix (ixT K) (pv 0) pe_int (fun _ _ => rfl)) (pa_cons pe_int (pa_cons pe_int pa_nil))))))))), ?_⟩
    cases hv with
    | @tup a ws _ hT hA =>
    obtain ⟨hl, n', rfl, hx⟩ := gd_tup hg
    have hwl := dp_all_len hA
    refine ⟨_, rfl, a, ws, rfl, .inr hT, rfl, _, rfl, ?_⟩
    by_cases c : ws.length = 2
    · obtain ⟨vg, vk, g, k, rfl, rfl, h0, h1⟩ := dp2 hA c
      have g0 := hx g List.mem_cons_self
      rw [decide_eq_true (show V.int (([vg, vk].length : Nat) : Int) = V.int 2 from rfl)]
      refine ⟨_, rfl, a, _, 0, vg, rfl, rfl, hT, rfl, vg, g, n', rfl, h0, g0, fun H1 s1 => ⟨_, rfl, ?_⟩⟩
      have ef : fitOnetime [g, k] = (genOk g && whole k 1 4) := rfl
      cases eg : genOk g with
      | false =>
        rw [ef, eg] at q
        exact q H1 s1
      | true =>
        rw [ef, eg] at q
        exact ⟨_, rfl, a, _, 1, vk, rfl, rfl, same_sqt s1 hT, rfl, vk, k, 1, 4, rfl, dp_same s1 k h1, q H1 s1⟩
    · have hne : ((ws.length : Nat) : Int) ≠ 2 := by omega
      rw [decide_eq_false (show ¬ V.int (ws.length : Int) = V.int 2 from fun z => hne (V.int.inj z))]
      have q' := q H (Same.refl H)
      rw [fitOnetime_no (by omega)] at q'
      exact q'
theorem ok_openingF {f : Addr} {fd : FuncData} (D : Df K mg "fits_opening" s_fits_opening ["own"] f fd) (T : Txt K w mg cs) (c_are_rows : Cl P w K mg base CX0 1 "are_rows" (spRows K)) : FnOk P w K mg base CX0 3 f fd ["own"] (spOwn K fitOpening) := by
  refine D.fn.ok sc_fits_opening (fun vs H Q E h => ?_) (fun cdv A outer s H vs Q E hr h => ?_)
  · obtain ⟨v, ds, n, rfl, _⟩ := h
    rfl
  · obtain ⟨v, ds, n, rfl, hv, hg, q⟩ := h
    refine ⟨_, (pss_cons (ps_if (PW.pt (pw_or (pt_cmpR op_ne (pe_callB (lenS K) (by rfl) T.n_len (by decide +kernel) (pa_cons (pv 0) pa_nil)) pe_int (nomark _)) (pw_or1 (pt_not (pt_val (pe_callB (isiK K) (by rfl) T.n_isinstance (by decide +kernel) (pa_cons (pe_ix (ixT K) (pv 0) pe_int (fun _ _ => rfl)) (pa_cons (pe_ty "str" (by rfl) T.n_str (by decide +kernel)) pa_nil)))))))) (pss_one (ps_ret pe_bl)) pss_nil) (pss_one (ps_ret (pe_and (pe_chain op_le op_le pe_int (pe_callB call_len_str (by rfl) T.n_len (by decide +kernel) (pa_cons (pe_ix (ixT K) (pv 0) pe_int (fun _ _ => rfl)) pa_nil)) (C8.pe_gc (by rfl) T.g_MOST_BITS)) (pe_one (pe_cl c_are_rows hr (by first | decide | omega) (by rfl) (pa_cons (pv 0) (pa_cons pe_int (pa_cons (pe_callB call_len_str (by rfl) T.n_len (by decide +kernel) (pa_cons (pe_ix (ixT K) (pv 0) pe_int (fun _ _ => rfl)) pa_nil)) pa_nil))))))))), ?_⟩
    have hv0 := hv
    cases hv with
    | @tup a ws _ hT hA =>
    obtain ⟨hl, n', rfl, hx⟩ := gd_tup hg
    have hwl := dp_all_len hA
    refine ⟨_, rfl, a, ws, rfl, .inr hT, rfl, _, rfl, ?_⟩
    by_cases c : ws.length = 1
    · obtain ⟨vx, x, rfl, rfl, h0⟩ := dp1 hA c
      have g0 := hx x List.mem_cons_self
      rw [decide_eq_true (show V.int (([vx].length : Nat) : Int) = V.int 1 from rfl)]
      refine ⟨_, rfl, a, _, 0, vx, rfl, rfl, hT, rfl, _, _, _, _, _, rfl, .ty "str", dp_ty h0, kit_str x, _, rfl, ?_⟩
      have q0 := q H (Same.refl H)
      cases x with
      | str z =>
        cases h0
        have hz := (gd_str g0).2
        refine ⟨_, rfl, a, _, 0, .str z, rfl, rfl, hT, rfl, z, rfl, by rw [sizeLine_eq]; omega, _, _, rfl, rfl, _, rfl, ?_⟩
        have ef : fitOpening [.str z] = (decide ((1 : Int) ≤ (z.length : Int)) && (decide ((z.length : Int) ≤ 40) && rowsOk (.tuple [.str z]) 1 (z.length : Int))) := rfl
        rw [ef] at q0 q
        by_cases c1 : (1 : Int) ≤ (z.length : Int)
        · rw [decide_eq_true c1] at q0 q ⊢
          refine ⟨_, _, rfl, rfl, _, rfl, ?_⟩
          by_cases c2 : (z.length : Int) ≤ 40
          · rw [decide_eq_true c2] at q0 q ⊢
            exact ⟨_, rfl, _, rfl, a, _, 0, .str z, rfl, rfl, hT, rfl, z, rfl, by rw [sizeLine_eq]; omega, _, _, _, _, _, rfl, hv0, hg, by decide, c2, q⟩
          · rw [decide_eq_false c2] at q0 ⊢
            exact q0
        · rw [decide_eq_false c1] at q0 ⊢
          exact ⟨_, rfl, q0⟩
      | none => exact q0
      | bool b => exact q0
      | int b => exact q0
      | tuple b => exact q0
      | list b => exact q0
      | dict b => exact q0
    · have hne : ((ws.length : Nat) : Int) ≠ 1 := by omega
      rw [decide_eq_false (show ¬ V.int (ws.length : Int) = V.int 1 from fun z => hne (V.int.inj z))]
      have q' := q H (Same.refl H)
      rw [fitOpening_no (by omega)] at q'
      exact q'

theorem at_zero {v : V} {vs : List V} : atI (v :: vs) 0 = some v := atI_nat (j := 0) rfl
theorem dp_nil {K : PySem.W.Frag} {H : Hp} {p : Addr} (e : H p = some (.tup [])) : Dp K H (.ref p) (.tuple []) := .tup (.inl (.inl e)) .nil
theorem ok_made {f : Addr} {fd : FuncData} (D : Df K mg "is_made" s_is_made ["value"] f fd) (T : Txt K w mg cs) : FnOk P w K mg base CX0 1 f fd ["value"] (spD K madeD) := by
  refine D.fn.ok sc_is_made (fun vs H Q E h => ?_) (fun cdv A outer s H vs Q E hr h => ?_)
  · obtain ⟨v, d, n, rfl, _⟩ := h
    rfl
  · obtain ⟨v, d, n, rfl, hd, hg, q⟩ := h
    refine ⟨_, (pss_cons (ps_if (PW.pt (pw_or (pt_not (pt_val (pe_callB (isiK K) (by rfl) T.n_isinstance (by decide +kernel) (pa_cons (pv 0) (pa_cons (pe_ty "tuple" (by rfl) T.n_tuple (by decide +kernel)) pa_nil))))) (pw_or (pt_cmpR (op_eqF K hr.units) (pv 0) (pe_tup pa_nil) (nomark _)) (pw_or1 (pt_not (pt_val (pe_callB (isiK K) (by rfl) T.n_isinstance (by decide +kernel) (pa_cons (pe_ix (ixT K) (pv 0) pe_int (fun _ _ => rfl)) (pa_cons (pe_ty "str" (by rfl) T.n_str (by decide +kernel)) pa_nil))))))))) (pss_one (ps_ret pe_bl)) pss_nil) (pss_one (ps_ret (pe_or (pe_cmpR (in_dk T.dk_NUMBERS) (pe_ix (ixT K) (pv 0) pe_int (fun _ _ => rfl)) (pe_glob (v := .ref cs.NUMBERS) (by rfl) T.gl_NUMBERS rfl) (by rfl)) (pe_one (pe_cmpR (in_dk T.dk_FITTING) (pe_ix (ixT K) (pv 0) pe_int (fun _ _ => rfl)) (pe_glob (v := .ref cs.FITTING) (by rfl) T.gl_FITTING rfl) (by rfl))))))), ?_⟩
    refine ⟨_, rfl, _, _, _, _, _, rfl, .ty "tuple", dp_ty hd, kit_tup d, _, rfl, ?_⟩
    have q0 := q H (Same.refl H)
    cases d with
    | tuple xs =>
      refine ⟨_, rfl, (by show 0 ≤ sizeLine; exact Nat.zero_le _), fun p np => ?_⟩
      have s1 := same_new (o := .tup []) np
      refine ⟨_, _, dp_same s1 _ hd, dp_nil upd_same, gd_lay hg, nil_lay, nil_dep, _, rfl, ?_⟩
      generalize upd H p (.tup []) = H1 at s1
      have q1 := q H1 s1
      rw [eqv_nil]
      cases hd with
      | @tup a ws _ hT hA =>
      replace hT := same_sqt s1 hT
      cases xs with
      | nil => exact q1
      | cons x xs =>
        obtain ⟨v0, vs, rfl, h0, _⟩ := dp_cons hA
        replace h0 := dp_same s1 x h0
        refine ⟨_, rfl, a, _, 0, v0, rfl, rfl, hT, at_zero, _, _, _, _, _, rfl, .ty "str", dp_ty h0, kit_str x, _, rfl, ?_⟩
        cases x with
        | str z =>
          cases h0
          refine ⟨_, rfl, a, _, 0, .str z, rfl, rfl, hT, at_zero, z, rfl, rfl, _, rfl, ?_⟩
          replace q1 : Q (.bl (decide (z ∈ numK) || decide (z ∈ fitK))) H1 := q1
          cases c : decide (z ∈ numK) with
          | true =>
            rw [c] at q1
            exact q1
          | false =>
            rw [c] at q1
            exact ⟨_, rfl, a, _, 0, .str z, rfl, rfl, hT, at_zero, z, rfl, rfl, q1⟩
        | none => exact q1
        | bool b => exact q1
        | int b => exact q1
        | tuple b => exact q1
        | list b => exact q1
        | dict b => exact q1
    | none => exact q0
    | bool b => exact q0
    | int b => exact q0
    | str b => exact q0
    | list b => exact q0
    | dict b => exact q0
theorem num_has {K : PySem.W.Frag} : HasV (numR K) := fun z u ⟨a, e, _⟩ => ⟨.ref a, e⟩
theorem fit_has {mg : Str → Option Value} : HasV (fitR mg) := fun z u ⟨f, e, _⟩ => ⟨.ref f, e⟩
/-- which of the four fits is meant by a name -/
def fitF (mg : Str → Option Value) (K : PySem.W.Frag) (f : Addr) (sp : Sp) : Prop := (mg "fits_longer" = some (.ref f) ∧ sp = spOwn K fitLonger) ∨ (mg "fits_tree" = some (.ref f) ∧ sp = spOwn K fitTree) ∨ (mg "fits_opening" = some (.ref f) ∧ sp = spOwn K fitOpening) ∨ (mg "fits_onetime" = some (.ref f) ∧ sp = spOwn K fitOnetime)
theorem held_of {k : Nat} {x : Str} {sp : Sp} {f : Addr} (c : Cl P w K mg base CX0 k x sp) (e : mg x = some (.ref f)) : Held P w K mg base k f sp := by
  obtain ⟨g, fd, ps, F, hm, kp, b⟩ := c.ex
  have := Option.some.inj (hm.symm.trans e)
  cases this
  exact ⟨fd, ps, F, kp, b⟩
theorem num_len (z : Str) : (numOf z).length ≤ 100 := by
  have h : ∀ p ∈ numL, p.2.length ≤ 100 := by decide
  unfold numOf
  cases e : numL.find? (fun p => decide (p.1 = z)) with
  | none => exact Nat.zero_le _
  | some p => exact h p (List.mem_of_find?_eq_some e)
def spKind (K : PySem.W.Frag) : Sp := fun vs H Q _ => ∃ (v : V) (z : Str) (r : List PyData) (n : Nat), vs = [v] ∧ Dp K H v (.tuple (.str z :: r)) ∧ Gd n (.tuple (.str z :: r)) ∧ madeZ z = true ∧ ∀ H', Same H H' → Q (.bl (fitZ z r.dropLast)) H'
theorem ok_kind {f : Addr} {fd : FuncData} (D : Df K mg "fits_kind" s_fits_kind ["made"] f fd) (T : Txt K w mg cs) (c_are_numbers : Cl P w K mg base CX0 2 "are_numbers" (spNums K))
    (A_fits : ∀ f sp, fitF mg K f sp → Held P w K mg base 3 f sp) : FnOk P w K mg base CX0 4 f fd ["made"] (spKind K) := by
  refine D.fn.ok sc_fits_kind (fun vs H Q E h => ?_) (fun cdv A outer s H vs Q E hr h => ?_)
  · obtain ⟨v, z, r, n, rfl, _⟩ := h
    rfl
  · obtain ⟨v, z, r, n, rfl, hd, hg, hz, q⟩ := h
    refine ⟨_, (pss_cons (ps_par (i := 1) (j := 2) (by rfl) sc_fits_kind.nd rfl rfl (by decide) rfl rfl (pa_cons (pe_ix (ixT K) (pv 0) pe_int (fun _ _ => rfl)) (pa_cons (pe_slice (slTA K) (pv 0) (po_some pe_int) (po_some (pe_un un_neg pe_int))) pa_nil)) (by rfl)) (pss_cons (ps_if (pt_cmpR (in_dk T.dk_NUMBERS) (pv 1) (pe_glob (v := .ref cs.NUMBERS) (by rfl) T.gl_NUMBERS rfl) (by rfl)) (pss_one (ps_ret (pe_cl c_are_numbers hr (by first | decide | omega) (by rfl) (pa_cons (pv 2) (pa_cons (pe_ix (ix_dk T.dk_NUMBERS) (pe_glob (v := .ref cs.NUMBERS) (by rfl) T.gl_NUMBERS rfl) (pv 1) (fun _ _ => rfl)) pa_nil))))) pss_nil) (pss_cons (ps_set (i := 3) sc_fits_kind.nd rfl (.inl rfl) (pe_ix (ix_dk T.dk_FITTING) (pe_glob (v := .ref cs.FITTING) (by rfl) T.gl_FITTING rfl) (pv 1) (fun _ _ => rfl))) (pss_one (ps_ret (pe_callH (i := 3) A_fits hr (by first | decide | omega) (by rfl) (.inl rfl) (pa_cons (pv 2) pa_nil))))))), ?_⟩
    cases hd with
    | @tup a ws _ hT hA =>
    obtain ⟨v0, vs, rfl, h0, hA'⟩ := dp_cons hA
    cases h0
    obtain ⟨hl, n', rfl, hx⟩ := gd_tup hg
    have gl := gds_last fun x h => hx x (List.mem_cons_of_mem _ h)
    refine ⟨_, rfl, a, _, 0, .str z, rfl, rfl, hT, at_zero, _, rfl, 1, rfl, 1, rfl, -1, rfl, slA_any hT fun p H1 s1 hp => ⟨_, _, rfl, ?_⟩⟩
    rw [cut_mid] at hp
    have hown : Dp K H1 (.ref p) (.tuple r.dropLast) := .tup hp (dps_same s1 _ (dps_last hA'))
    have gown : Gd (n' + 1) (.tuple r.dropLast) := ⟨by
      rw [List.length_dropLast]
      rw [List.length_cons] at hl
      omega, gl⟩
    refine ⟨_, rfl, z, rfl, rfl, _, rfl, ?_⟩
    by_cases cn : z ∈ numK
    · rw [decide_eq_true cn]
      refine ⟨_, rfl, _, rfl, z, rfl, rfl, cn, fun u uu ru hu => ?_⟩
      obtain ⟨b, rfl, hb⟩ := hu
      have eu : u = .ref b := by
        cases u <;> first | (cases ru; rfl) | (obtain ⟨_, k⟩ := ru; cases k) | (cases ru)
      subst eu
      refine ⟨_, _, _, numOf z, _, rfl, hown, gown, hb H1, num_len z, fun H2 s2 => ?_⟩
      have q' := q H2 (s1.trans s2)
      unfold fitZ at q'
      rw [if_pos cn] at q'
      exact q'
    · rw [decide_eq_false cn]
      have hf : z ∈ fitK := by
        unfold madeZ at hz
        rw [decide_eq_false cn, Bool.false_or] at hz
        exact of_decide_eq_true hz
      refine ⟨_, rfl, z, rfl, rfl, hf, fun u uu ru hu => ?_⟩
      obtain ⟨g, rfl, hgz⟩ := hu
      have eu : u = .ref g := by
        cases u <;> first | (cases ru; rfl) | (obtain ⟨_, k⟩ := ru; cases k) | (cases ru)
      subst eu
      have q' := fun H2 (s2 : Same H1 H2) => q H2 (s1.trans s2)
      unfold fitZ at q'
      rcases hgz with ⟨rfl, e⟩ | ⟨rfl, e⟩ | ⟨rfl, e⟩ | ⟨rfl, e⟩
      · exact ⟨g, _, rfl, .inl ⟨e, rfl⟩, _, rfl, _, _, _, rfl, hown, gown, q'⟩
      · exact ⟨g, _, rfl, .inr (.inl ⟨e, rfl⟩), _, rfl, _, _, _, rfl, hown, gown, q'⟩
      · exact ⟨g, _, rfl, .inr (.inr (.inl ⟨e, rfl⟩)), _, rfl, _, _, _, rfl, hown, gown, q'⟩
      · exact ⟨g, _, rfl, .inr (.inr (.inr ⟨e, rfl⟩)), _, rfl, _, _, _, rfl, hown, gown, q'⟩
theorem ok_part {f : Addr} {fd : FuncData} (D : Df K mg "is_part" s_is_part ["value"] f fd) (T : Txt K w mg cs) (c_is_whole : Cl P w K mg base CX0 1 "is_whole" (spWhole K)) : FnOk P w K mg base CX0 2 f fd ["value"] (spD K partOk) := by
  refine D.fn.ok sc_is_part (fun vs H Q E h => ?_) (fun cdv A outer s H vs Q E hr h => ?_)
  · obtain ⟨v, d, n, rfl, _⟩ := h
    rfl
  · obtain ⟨v, d, n, rfl, hd, hg, q⟩ := h
    refine ⟨_, (pss_cons (ps_if (pt_val (pe_callB (isiK K) (by rfl) T.n_isinstance (by decide +kernel) (pa_cons (pv 0) (pa_cons (pe_ty "str" (by rfl) T.n_str (by decide +kernel)) pa_nil)))) (pss_one (ps_ret (pe_cmpR op_in_seq (pv 0) (pe_tup (pa_cons pe_str (pa_cons pe_str pa_nil))) (by rfl)))) pss_nil) (pss_one (ps_ret (pe_cl c_is_whole hr (by first | decide | omega) (by rfl) (pa_cons (pv 0) (pa_cons pe_int (pa_cons (C8.pe_gc (by rfl) T.g_LAST_BIT) pa_nil))))))), ?_⟩
    refine ⟨_, rfl, _, _, _, _, _, rfl, .ty "str", dp_ty hd, kit_str d, _, rfl, ?_⟩
    have q0 := q H (Same.refl H)
    have other : partOk d = whole d 0 9999 → isStr d = false → Q (.bl (whole d 0 9999)) H := fun e _ => e ▸ q0
    cases d with
    | str z =>
      cases hd
      refine ⟨_, rfl, (by show 2 ≤ sizeLine; decide), fun p np => ⟨p, _, rfl, .inr (.inl (.inl upd_same)), rfl, rfl, ?_⟩⟩
      have e : inV (.str z) [.str "0", .str "1"] = partOk (.str z) := by
        show ((eqV (.str "0") (.str z) || (eqV (.str "1") (.str z) || false)) : Bool) = (decide (z = "0") || decide (z = "1"))
        rw [Bool.or_false]
        have ee : ∀ y : Str, eqV (.str y) (.str z) = decide (z = y) := fun y => by
          show (y == z) = _
          by_cases h : z = y
          · rw [decide_eq_true h, h]
            exact beq_self_eq_true y
          · rw [decide_eq_false h]
            exact beq_eq_false_iff_ne.mpr fun k => h k.symm
        rw [ee, ee]
      have q' := q _ (same_new (o := .tup [.str "0", .str "1"]) np)
      rw [← e] at q'
      exact q'
    | none => exact ⟨_, rfl, _, _, 0, 9999, rfl, hd, other rfl rfl⟩
    | bool b => exact ⟨_, rfl, _, _, 0, 9999, rfl, hd, other rfl rfl⟩
    | int b => exact ⟨_, rfl, _, _, 0, 9999, rfl, hd, other rfl rfl⟩
    | tuple b => exact ⟨_, rfl, _, _, 0, 9999, rfl, hd, other rfl rfl⟩
    | list b => exact ⟨_, rfl, _, _, 0, 9999, rfl, hd, other rfl rfl⟩
    | dict b => exact ⟨_, rfl, _, _, 0, 9999, rfl, hd, other rfl rfl⟩
theorem ok_parts {f : Addr} {fd : FuncData} (D : Df K mg "are_parts" s_are_parts ["value"] f fd) (T : Txt K w mg cs) (c_is_part : Cl P w K mg base CX0 2 "is_part" (spD K partOk)) : FnOk P w K mg base CX0 3 f fd ["value"] (spD K partsOk) := by
  refine D.fn.ok sc_are_parts (fun vs H Q E h => ?_) (fun cdv A outer s H vs Q E hr h => ?_)
  · obtain ⟨v, d, n, rfl, _⟩ := h
    rfl
  · obtain ⟨v, d, n, rfl, hd, hg, q⟩ := h
    refine ⟨_, (pss_one (ps_ret (pe_and (pe_callB (isiK K) (by rfl) T.n_isinstance (by decide +kernel) (pa_cons (pv 0) (pa_cons (pe_ty "tuple" (by rfl) T.n_tuple (by decide +kernel)) pa_nil))) (pe_one (pe_callB (crAll K rfl) (by rfl) T.n_all (by decide +kernel) (pa_cons (pe_lc (own := [("part", 1)]) (g := gName 1) (tt := tYes) rfl sc_are_parts.nd (pi_tup (pv 0)) (blkOk_by (own := [("part", 1)]) (N := ["value", "part"]) (sc := defScope s_are_parts) (by decide +kernel)) (fun _ _ _ _ _ => (pg_name (i := 1) sc_are_parts.nd rfl (.inl rfl))) (fun _ _ _ _ _ => pts_nil) (fun _ _ _ _ _ => (pe_cl c_is_part hr (by first | decide | omega) (by rfl) (pa_cons (pv 1) pa_nil)))) pa_nil)))))), ?_⟩
    refine ⟨_, rfl, _, _, _, _, _, rfl, .ty "tuple", dp_ty hd, kit_tup d, _, rfl, ?_⟩
    have q0 := q H (Same.refl H)
    cases d with
    | tuple xs =>
      cases hd with
      | @tup a ws _ hT hA =>
      obtain ⟨hl, n', rfl, hx⟩ := gd_tup hg
      have hwl := dp_all_len hA
      refine ⟨_, rfl, a, rfl, ⟨_, hT⟩, fun Dl hD => ?_⟩
      refine lc_tup (xs := ws) (fun i H' => Same H H' ∧ H' Dl = some (.lst ((xs.take i).map fun x => V.bl (partOk x)))) ?_ ?_ ?_ ?_
      · exact ⟨same_new hD, upd_same⟩
      · rintro i H' _ ⟨s1, _⟩
        exact same_sqt s1 hT
      · rintro i x H' hxi ⟨s1, e1⟩
        obtain ⟨d, hdi, hdx⟩ := dp_all_get hA hxi
        have hi : i < xs.length := (List.getElem?_eq_some_iff.mp hdi).1
        refine ⟨rfl, ?_⟩
        refine ⟨_, rfl, x, d, _, rfl, dp_same s1 d hdx, hx d (List.mem_of_getElem? hdi), fun H2 s2 => ?_⟩
        refine ⟨_, s2 _ _ e1, ?_, fun p o e => ?_, ?_⟩
        · rw [List.length_map, List.length_take]
          exact Nat.lt_of_lt_of_le (show min i xs.length < 10000 by omega) (by decide)
        · rw [upd_ne (ne_of_none e hD)]
          exact s2 _ _ (s1 p o e)
        · rw [upd_same, List.take_add_one, hdi, List.map_append]
          rfl
      · rintro H' ⟨s1, e1⟩
        rw [List.take_of_length_le (by omega)] at e1
        have em : (xs.map fun x => V.bl (partOk x)) = (xs.map partOk).map V.bl := by
          rw [List.map_map]
          rfl
        rw [em] at e1
        refine ⟨Dl, _, rfl, .inl (.inl e1), ?_⟩
        have ea : (xs.map partOk).all id = partsOk (.tuple xs) := by
          rw [List.all_map]
          rfl
        rw [ea]
        exact q H' s1
    | none => exact q0
    | bool b => exact q0
    | int b => exact q0
    | str b => exact q0
    | list b => exact q0
    | dict b => exact q0

theorem ok_looks {f : Addr} {fd : FuncData} (D : Df K mg "looks_plain" s_looks_plain ["value"] f fd) (T : Txt K w mg cs) (c_is_whole : Cl P w K mg base CX0 1 "is_whole" (spWhole K)) (c_are_parts : Cl P w K mg base CX0 3 "are_parts" (spD K partsOk)) : FnOk P w K mg base CX0 4 f fd ["value"] (spD K looksOk) := by
  refine D.fn.ok sc_looks_plain (fun vs H Q E h => ?_) (fun cdv A outer s H vs Q E hr h => ?_)
  · obtain ⟨v, d, n, rfl, _⟩ := h
    rfl
  · obtain ⟨v, d, n, rfl, hd, hg, q⟩ := h
    refine ⟨_, (pss_cons (ps_if (PW.pt (pw_or (pt_not (pt_val (pe_callB (isiK K) (by rfl) T.n_isinstance (by decide +kernel) (pa_cons (pv 0) (pa_cons (pe_ty "tuple" (by rfl) T.n_tuple (by decide +kernel)) pa_nil))))) (pw_or1 (pt_cmpR (op_eqF K hr.units) (pv 0) (pe_tup pa_nil) (nomark _))))) (pss_one (ps_ret pe_bl)) pss_nil) (pss_cons (ps_par (i := 1) (j := 2) (by rfl) sc_looks_plain.nd rfl rfl (by decide) rfl rfl (pa_cons (pe_ix (ixT K) (pv 0) pe_int (fun _ _ => rfl)) (pa_cons (pe_callB (lenS K) (by rfl) T.n_len (by decide +kernel) (pa_cons (pv 0) pa_nil)) pa_nil)) (by rfl)) (pss_cons (ps_if (pt_cmpR (op_eqF K hr.units) (pv 1) pe_str (nomark _)) (pss_one (ps_ret (pe_and (pe_cmpR op_eq (pv 2) pe_int (nomark _)) (pe_one (pe_cl c_are_parts hr (by first | decide | omega) (by rfl) (pa_cons (pe_ix (ixT K) (pv 0) pe_int (fun _ _ => rfl)) pa_nil)))))) pss_nil) (pss_cons (ps_if (pt_cmpR (op_eqF K hr.units) (pv 1) pe_str (nomark _)) (pss_one (ps_ret (pe_and (pe_cmpR op_eq (pv 2) pe_int (nomark _)) (pe_and (pe_callB (isiK K) (by rfl) T.n_isinstance (by decide +kernel) (pa_cons (pe_ix (ixT K) (pv 0) pe_int (fun _ _ => rfl)) (pa_cons (pe_ty "tuple" (by rfl) T.n_tuple (by decide +kernel)) pa_nil))) (pe_one (pe_chain op_le op_le pe_int (pe_callB (lenS K) (by rfl) T.n_len (by decide +kernel) (pa_cons (pe_ix (ixT K) (pv 0) pe_int (fun _ _ => rfl)) pa_nil)) (C8.pe_gc (by rfl) T.g_MOST_TOSSED))))))) pss_nil) (pss_cons (ps_if (pt_cmpR (op_eqF K hr.units) (pv 1) pe_str (nomark _)) (pss_one (ps_ret (pe_and (pe_cmpR op_eq (pv 2) pe_int (nomark _)) (pe_one (pe_cl c_is_whole hr (by first | decide | omega) (by rfl) (pa_cons (pe_ix (ixT K) (pv 0) pe_int (fun _ _ => rfl)) (pa_cons pe_int (pa_cons (C8.pe_gc (by rfl) T.g_LAST_BIT) pa_nil)))))))) pss_nil) (pss_one (ps_ret (pe_and (pe_cmpR (op_eqF K hr.units) (pv 1) pe_str (nomark _)) (pe_and (pe_cmpR op_eq (pv 2) pe_int (nomark _)) (pe_one (pe_cl c_are_parts hr (by first | decide | omega) (by rfl) (pa_cons (pe_ix (ixT K) (pv 0) pe_int (fun _ _ => rfl)) pa_nil)))))))))))), ?_⟩
    refine ⟨_, rfl, _, _, _, _, _, rfl, .ty "tuple", dp_ty hd, kit_tup d, _, rfl, ?_⟩
    have q0 := q H (Same.refl H)
    cases d with
    | tuple xs =>
      refine ⟨_, rfl, (by show 0 ≤ sizeLine; exact Nat.zero_le _), fun p np => ?_⟩
      have s1 := same_new (o := .tup []) np
      refine ⟨_, _, dp_same s1 _ hd, dp_nil upd_same, gd_lay hg, nil_lay, nil_dep, _, rfl, ?_⟩
      generalize upd H p (.tup []) = H1 at s1
      replace q := fun H' (s' : Same H1 H') => q H' (s1.trans s')
      have q1 := q H1 (Same.refl H1)
      rw [eqv_nil]
      cases hd with
      | @tup a ws _ hT hA =>
      replace hT := same_sqt s1 hT
      replace hA := dps_same s1 _ hA
      obtain ⟨hl, n', rfl, hx⟩ := gd_tup hg
      cases xs with
      | nil => exact q1
      | cons k r =>
        obtain ⟨v0, vr, rfl, h0, hr'⟩ := dp_cons hA
        have g0 := hx k List.mem_cons_self
        have hwl := dp_all_len hr'
        refine ⟨_, rfl, a, _, 0, v0, rfl, rfl, hT, at_zero, _, rfl, a, _, rfl, .inr hT, _, _, rfl, ?_⟩
        rw [looks_eq] at q1
        simp only [looks_eq] at q
        have lay := gd_lay g0
        refine ⟨_, rfl, k, .str "say", h0, .str _, lay, str_lay _, str_dep _, _, rfl, ?_⟩
        show if named "say" k = true then _ else _
        cases c1 : named "say" k with
        | true =>
          rw [c1] at q1
          simp only [c1] at q
          refine ⟨_, rfl, rfl, _, rfl, ?_⟩
          by_cases c : vr.length = 1
          · obtain ⟨vp, p1, rfl, rfl, hp⟩ := dp1 hr' c
            rw [decide_eq_true (show V.int (([v0, vp].length : Nat) : Int) = V.int 2 from rfl)]
            exact ⟨_, rfl, a, _, 1, vp, rfl, rfl, hT, rfl, vp, p1, _, rfl, hp, hx p1 (List.mem_cons_of_mem _ List.mem_cons_self), q⟩
          · have hne : (((v0 :: vr).length : Nat) : Int) ≠ 2 := by
              rw [List.length_cons]
              omega
            rw [decide_eq_false (show ¬ V.int (((v0 :: vr).length : Nat) : Int) = V.int 2 from fun z => hne (V.int.inj z))]
            rw [if_pos rfl, sayOk_no (by omega)] at q1
            exact q1
        | false =>
          rw [c1] at q1
          simp only [c1] at q
          rw [if_neg (by decide)] at q1
          refine ⟨_, rfl, k, .str "toss", h0, .str _, lay, str_lay _, str_dep _, _, rfl, ?_⟩
          show if named "toss" k = true then _ else _
          cases c2 : named "toss" k with
          | true =>
            rw [c2, if_pos rfl] at q1
            refine ⟨_, rfl, rfl, _, rfl, ?_⟩
            by_cases c : vr.length = 1
            · obtain ⟨vp, p1, rfl, rfl, hp⟩ := dp1 hr' c
              rw [decide_eq_true (show V.int (([v0, vp].length : Nat) : Int) = V.int 2 from rfl)]
              refine ⟨_, rfl, a, _, 1, vp, rfl, rfl, hT, rfl, _, _, _, _, _, rfl, .ty "tuple", dp_ty hp, kit_tup p1, _, rfl, ?_⟩
              cases p1 with
              | tuple ys =>
                cases hp with
                | @tup b ks _ bT bA =>
                have hyl := dp_all_len bA
                refine ⟨_, rfl, a, _, 1, .ref b, rfl, rfl, hT, rfl, b, ks, rfl, .inr bT, _, _, rfl, rfl, _, rfl, ?_⟩
                have e2 : tossOk [.tuple ys] = (decide ((1 : Int) ≤ ((ks.length : Nat) : Int)) && decide (((ks.length : Nat) : Int) ≤ 64)) := by
                  rw [hyl]
                  rfl
                rw [e2] at q1
                by_cases d1 : (1 : Int) ≤ ((ks.length : Nat) : Int)
                · rw [decide_eq_true d1] at q1 ⊢
                  refine ⟨_, _, rfl, rfl, ?_⟩
                  exact q1
                · rw [decide_eq_false d1] at q1 ⊢
                  exact q1
              | none => exact q1
              | bool b => exact q1
              | int b => exact q1
              | str b => exact q1
              | list b => exact q1
              | dict b => exact q1
            · have hne : (((v0 :: vr).length : Nat) : Int) ≠ 2 := by
                rw [List.length_cons]
                omega
              rw [decide_eq_false (show ¬ V.int (((v0 :: vr).length : Nat) : Int) = V.int 2 from fun z => hne (V.int.inj z))]
              rw [tossOk_no (by omega)] at q1
              exact q1
          | false =>
            rw [c2, if_neg (by decide)] at q1
            simp only [c2] at q
            refine ⟨_, rfl, k, .str "look", h0, .str _, lay, str_lay _, str_dep _, _, rfl, ?_⟩
            show if named "look" k = true then _ else _
            cases c3 : named "look" k with
            | true =>
              rw [c3, if_pos rfl] at q1
              refine ⟨_, rfl, rfl, _, rfl, ?_⟩
              by_cases c : vr.length = 3
              · obtain ⟨vn, vx, vy, dn, dx, dy, rfl, rfl, hn, _, _⟩ := dp3 hr' c
                rw [decide_eq_true (show V.int (([v0, vn, vx, vy].length : Nat) : Int) = V.int 4 from rfl)]
                exact ⟨_, rfl, a, _, 1, vn, rfl, rfl, hT, rfl, vn, dn, 0, 9999, rfl, hn, q1⟩
              · have hne : (((v0 :: vr).length : Nat) : Int) ≠ 4 := by
                  rw [List.length_cons]
                  omega
                rw [decide_eq_false (show ¬ V.int (((v0 :: vr).length : Nat) : Int) = V.int 4 from fun z => hne (V.int.inj z))]
                rw [lookOk_no (by omega)] at q1
                exact q1
            | false =>
              rw [c3, if_neg (by decide)] at q1
              simp only [c3] at q
              refine ⟨_, rfl, k, .str "ask", h0, .str _, lay, str_lay _, str_dep _, ?_⟩
              show ∃ c, V.bl (named "ask" k) = _ ∧ _
              cases c4 : named "ask" k with
              | false =>
                rw [c4] at q1
                exact ⟨_, rfl, q1⟩
              | true =>
                rw [c4, Bool.true_and] at q1
                simp only [c4, Bool.true_and] at q
                refine ⟨_, rfl, _, rfl, rfl, _, rfl, ?_⟩
                by_cases c : vr.length = 2
                · obtain ⟨vp, vx, p1, dx, rfl, rfl, hp, _⟩ := dp2 hr' c
                  rw [decide_eq_true (show V.int (([v0, vp, vx].length : Nat) : Int) = V.int 3 from rfl)]
                  exact ⟨_, rfl, a, _, 1, vp, rfl, rfl, hT, rfl, vp, p1, _, rfl, hp, hx p1 (List.mem_cons_of_mem _ List.mem_cons_self), q⟩
                · have hne : (((v0 :: vr).length : Nat) : Int) ≠ 3 := by
                    rw [List.length_cons]
                    omega
                  rw [decide_eq_false (show ¬ V.int (((v0 :: vr).length : Nat) : Int) = V.int 3 from fun z => hne (V.int.inj z))]
                  rw [askOk_no (by omega)] at q1
                  exact q1
    | none => exact q0
    | bool b => exact q0
    | int b => exact q0
    | str b => exact q0
    | list b => exact q0
    | dict b => exact q0
theorem ok_kids {f : Addr} {fd : FuncData} (D : Df K mg "directly_within" s_directly_within ["plain"] f fd) (T : Txt K w mg cs) : FnOk P w K mg base CX0 1 f fd ["plain"] (spKids K) := by
  refine D.fn.ok sc_directly_within (fun vs H Q E h => ?_) (fun cdv A outer s H vs Q E hr h => ?_)
  · obtain ⟨v, d, n, G, rfl, _⟩ := h
    rfl
  · obtain ⟨v, d, n, G, rfl, sG, hd, hg, hk, q⟩ := h
    refine ⟨_, (pss_one (ps_ret (pe_ifExp (pt_cmpR (op_eqF K hr.units) (pe_ix (ixT K) (pv 0) pe_int (fun _ _ => rfl)) pe_str (nomark _)) (pe_ix (ixT K) (pv 0) pe_int (fun _ _ => rfl)) (pe_slice (slTA K) (pv 0) (po_some pe_int) po_none)))), ?_⟩
    cases d with
    | tuple xs =>
      cases xs with
      | nil => cases hk
      | cons k r =>
        cases hd with
        | @tup a ws _ hT hA =>
        obtain ⟨hl, n', rfl, hx⟩ := gd_tup hg
        obtain ⟨v0, vr, rfl, h0, hr'⟩ := dp_cons hA
        replace hT := same_sqt sG hT
        refine ⟨_, rfl, a, _, 0, v0, rfl, rfl, hT, at_zero, k, .str "toss", dp_same sG k h0, .str _, gd_lay (hx k List.mem_cons_self), str_lay _, str_dep _, _, rfl, ?_⟩
        show if named "toss" k = true then _ else _
        cases c : named "toss" k with
        | true =>
          have ek := named_eq c
          rw [looks_eq, c, ek, named_str, decide_eq_false (by decide), if_neg (by decide), if_pos rfl] at hk
          obtain ⟨ys, rfl, _, _⟩ := toss_kids hk
          rw [kids_toss c] at q
          obtain ⟨v1, vs1, rfl, h1, h2⟩ := dp_cons hr'
          cases h2
          cases h1 with
          | @tup b us _ bT bA =>
          exact ⟨_, rfl, a, _, 1, .ref b, rfl, rfl, hT, rfl, q b us H (Same.refl H) (same_sqt sG bT) bA⟩
        | false =>
          rw [kids_other c] at q
          refine ⟨_, rfl, 2, rfl, slA_any hT fun p H1 s1 hp => ?_⟩
          rw [cut_two] at hp
          exact q p _ H1 s1 hp (dps_drop 1 hr')
    | none => cases hk
    | bool b => cases hk
    | int b => cases hk
    | str b => cases hk
    | list b => cases hk
    | dict b => cases hk

theorem last_get {α : Type} (xs : List α) (v : α) : (xs ++ [v])[(xs ++ [v]).length - 1]? = some v := by
  rw [List.length_append, List.length_singleton, Nat.add_sub_cancel, List.getElem?_append_right (Nat.le_refl _), Nat.sub_self]
  rfl
theorem snoc_cases {α : Type} (l : List α) : l = [] ∨ ∃ ys x, l = ys ++ [x] := by
  by_cases h : l = []
  · exact .inl h
  · exact .inr ⟨l.dropLast, l.getLast h, (List.dropLast_concat_getLast h).symm⟩
/-- the pile in the heap -/
structure Pile (K : PySem.W.Frag) (H H' : Hp) (W : Addr) (n : Nat) (xs : List Ent) : Prop where
  lst : H' W = some (.lst (xs.map fun x => V.ref x.1))
  ent : ∀ x ∈ xs, H' x.1 = some (.tup [x.2.1, .int (x.2.2.2 : Int)]) ∧ Dp K H x.2.1 x.2.2.1 ∧ Gd n x.2.2.1
theorem ok_plainB {f : Addr} {fd : FuncData} (D : Df K mg "is_plain_breaker" s_is_plain_breaker ["value"] f fd) (T : Txt K w mg cs) (c_looks_plain : Cl P w K mg base CX0 4 "looks_plain" (spD K looksOk)) (c_directly_within : Cl P w K mg base CX0 1 "directly_within" (spKids K)) : FnOk P w K mg base CX0 5 f fd ["value"] (spD K plainOk) := by
  refine D.fn.ok sc_is_plain_breaker (fun vs H Q E h => ?_) (fun cdv A outer s H vs Q E hr h => ?_)
  · obtain ⟨v, d, n, rfl, _⟩ := h
    rfl
  · obtain ⟨v, d, n, rfl, hd, hg, q⟩ := h
    refine ⟨_, (pss_cons (ps_set (i := 1) sc_is_plain_breaker.nd rfl (.inl rfl) (pe_lst (pa_cons (pe_tup (pa_cons (pv 0) (pa_cons pe_int pa_nil))) pa_nil))) (pss_cons (ps_set (i := 2) sc_is_plain_breaker.nd rfl (.inl rfl) pe_int) (pss_cons (ps_while PassesOwn.never (pt_truth (pv 1) (by intro _; rfl)) (pss_cons (ps_asg (pe_bm0 PySem.F.plainAttrs_list PySem.F.slot_list_pop PySem.F.type_list_pop mt_pop (pv 1)) (pg_tup (by rfl) (pgs_cons (pg_name (i := 3) sc_is_plain_breaker.nd rfl (.inl rfl)) (pgs_cons (pg_name (i := 4) sc_is_plain_breaker.nd rfl (.inr rfl)) pgs_nil)))) (pss_cons (ps_aug (i := 2) sc_is_plain_breaker.nd rfl (.inl rfl) pe_int ip_add) (pss_cons (ps_if (PW.pt (pw_or (pt_cmpR op_gt (pv 2) (pe_op op_add (C8.pe_gc (by rfl) T.g_MOST_WITHIN) pe_int) (nomark _)) (pw_or (pt_cmpR op_gt (pv 4) (C8.pe_gc (by rfl) T.g_DEEPEST_PLAIN) (nomark _)) (pw_or1 (pt_not (pt_val (pe_cl c_looks_plain hr (by first | decide | omega) (by rfl) (pa_cons (pv 3) pa_nil)))))))) (pss_one (ps_ret pe_bl)) pss_nil) (pss_one (ps_expr (pe_bm PySem.F.plainAttrs_list PySem.F.slot_list_extend PySem.F.type_list_extend mt_extend (pv 1) (pa_cons (pe_lc (own := [("inner", 5)]) (g := gName 5) (tt := tYes) rfl sc_is_plain_breaker.nd (pi_tup (pe_cl c_directly_within hr (by first | decide | omega) (by rfl) (pa_cons (pv 3) pa_nil))) (blkOk_by (own := [("inner", 5)]) (N := ["value", "waiting", "many", "part", "depth", "inner"]) (sc := defScope s_is_plain_breaker) (by decide +kernel)) (fun _ _ _ _ _ => (pg_name (i := 5) sc_is_plain_breaker.nd rfl (.inl rfl))) (fun _ _ _ _ _ => pts_nil) (fun _ _ _ _ _ => (pe_tup (pa_cons (pv 5) (pa_cons (pe_op op_add (pv 4) pe_int) pa_nil))))) pa_nil)))))))) (pss_one (ps_ret pe_bl))))), ?_⟩
    -- waiting = [(value, 1)]
    refine ⟨_, rfl, (by show 2 ≤ sizeLine; decide), fun p0 np => ⟨(by show 1 ≤ sizeLine; decide), fun W nW => ?_⟩⟩
    have hW : H W = none := (same_new np).free nW
    have s0 : Same H (upd (upd H p0 (.tup [v, .int 1])) W (.lst [.ref p0])) := (same_new np).trans (same_new nW)
    have pl0 : Pile K H (upd (upd H p0 (.tup [v, .int 1])) W (.lst [.ref p0])) W n [(p0, v, d, 1)] := ⟨upd_same, fun x hx => by
      rw [List.mem_singleton.mp hx]
      refine ⟨?_, hd, hg⟩
      rw [upd_ne (ne_of_none upd_same nW)]
      exact upd_same⟩
    have hgood : plainOk d = good [(p0, v, d, 1)] 0 := by
      unfold plainOk good
      show (okN 60 d && decide (szN 60 d ≤ 2001)) = ((okN 60 d && true) && decide (0 + (szN 60 d + 0) ≤ 2001))
      rw [Bool.and_true, Nat.add_zero, Nat.zero_add]
    generalize upd (upd H p0 (.tup [v, .int 1])) W (.lst [.ref p0]) = H0 at s0 pl0
    clear np nW
    refine ⟨fun m σ H' => ∃ (xs : List Ent) (many : Nat) (y3 y4 y5 : Option V), σ = [some v, some (.ref W), some (.int (many : Int)), y3, y4, y5] ∧ m = 2002 - many ∧ many ≤ 2001 ∧ xs.length ≤ 5000 * many + 1 ∧ Same H H' ∧ Pile K H H' W n xs ∧ plainOk d = good xs many,
      ⟨_, [(p0, v, d, 1)], 0, none, none, none, rfl, rfl, by omega, Nat.le_refl 1, s0, pl0, hgood⟩, ?_⟩
    clear s0 pl0 hgood H0
    rintro m σ H' ⟨xs, many, y3, y4, y5, rfl, hm, hmany, hlen, s1, pl, hgood⟩
    refine ⟨_, rfl, _, .inl ⟨_, .inl (.inl pl.lst), rfl⟩, ?_⟩
    rcases snoc_cases xs with rfl | ⟨ys, ⟨p, vx, dx, k⟩, rfl⟩
    · rw [good_nil hmany] at hgood
      have q' := q H' s1
      rw [hgood] at q'
      exact q'
    · have hne : (!((ys ++ [(p, vx, dx, k)]).map fun x : Ent => V.ref x.1).isEmpty) = true := by
        rw [List.map_append]
        cases (ys.map fun x : Ent => V.ref x.1) <;> rfl
      rw [hne, if_pos rfl]
      obtain ⟨ep, hdx, hgx⟩ := pl.ent (p, vx, dx, k) (List.mem_append_right _ List.mem_cons_self)
      dsimp only at ep hdx hgx
      refine ⟨fun σ H2 => ∃ (xs : List Ent) (y3 y4 y5 : Option V), σ = [some v, some (.ref W), some (.int ((many + 1 : Nat) : Int)), y3, y4, y5] ∧ many + 1 ≤ 2001 ∧ xs.length ≤ 5000 * (many + 1) + 1 ∧ Same H H2 ∧ Pile K H H2 W n xs ∧ plainOk d = good xs (many + 1), ?_, ?_⟩
      · rintro σ H2 ⟨xs, z3, z4, z5, rfl, h1, h2, h3, h4, h5⟩
        exact ⟨2002 - (many + 1), by omega, xs, many + 1, z3, z4, z5, rfl, rfl, h1, h2, h3, h4, h5⟩
      · -- part, depth = waiting.pop()
        have eW := pl.lst
        rw [List.map_append] at eW
        refine ⟨_, rfl, .inl ⟨rfl, _, .inl (.inl eW)⟩, W, _, .ref p, rfl, rfl, eW, ?_, ?_⟩
        · exact last_get _ _
        have edl : (ys.map (fun x : Ent => V.ref x.1) ++ [(p, vx, dx, k)].map fun x : Ent => V.ref x.1).dropLast = ys.map fun x : Ent => V.ref x.1 := List.dropLast_concat
        rw [edl]
        have hpW : p ≠ W := fun z => by
          rw [z, pl.lst] at ep
          cases ep
        have pl2 : Pile K H (upd H' W (.lst (ys.map fun x : Ent => V.ref x.1))) W n ys := ⟨upd_same, fun x hx => by
          obtain ⟨g1, g2, g3⟩ := pl.ent x (List.mem_append_left _ hx)
          refine ⟨?_, g2, g3⟩
          rw [upd_ne (fun z => by rw [z, pl.lst] at g1; cases g1)]
          exact g1⟩
        have s2 : Same H (upd H' W (.lst (ys.map fun x : Ent => V.ref x.1))) := fun b o e => by
          rw [upd_ne (ne_of_none e hW)]
          exact s1 b o e
        have ep2 : upd H' W (.lst (ys.map fun x : Ent => V.ref x.1)) p = some (.tup [vx, .int (k : Int)]) := by
          rw [upd_ne hpW]
          exact ep
        generalize upd H' W (.lst (ys.map fun x : Ent => V.ref x.1)) = H2 at pl2 s2 ep2
        refine ⟨p, [vx, .int (k : Int)], rfl, .inl (.inl ep2), rfl, _, _, rfl, _, _, rfl, rfl, ?_⟩
        -- many += 1
        refine ⟨_, rfl, _, _, rfl, rfl, ?_⟩
        -- the bounds
        refine ⟨_, rfl, _, _, rfl, rfl, _, _, rfl, rfl, _, rfl, ?_⟩
        by_cases c1 : 2001 < many + 1
        · rw [decide_eq_true (show ((many : Int) + 1) > 2000 + 1 by omega)]
          rw [good_many c1] at hgood
          have q' := q H2 s2
          rw [hgood] at q'
          exact q'
        · rw [decide_eq_false (show ¬ ((many : Int) + 1) > 2000 + 1 by omega)]
          refine ⟨_, rfl, _, _, rfl, rfl, _, rfl, ?_⟩
          by_cases c2 : 60 < k
          · rw [decide_eq_true (show (k : Int) > 60 by omega)]
            rw [good_bad (x := (p, vx, dx, k)) (okN_deep c2)] at hgood
            have q' := q H2 s2
            rw [hgood] at q'
            exact q'
          · rw [decide_eq_false (show ¬ (k : Int) > 60 by omega)]
            refine ⟨_, rfl, vx, dx, n, rfl, dp_same s2 dx hdx, hgx, fun H3 s3 => ⟨_, rfl, ?_⟩⟩
            have s23 := s2.trans s3
            cases cl : looksOk dx with
            | false =>
              rw [good_bad (x := (p, vx, dx, k)) (okN_looks cl)] at hgood
              have q' := q H3 s23
              rw [hgood] at q'
              exact q'
            | true =>
              have pl3 : Pile K H H3 W n ys := ⟨s3 _ _ pl2.lst, fun x hx => ⟨s3 _ _ (pl2.ent x hx).1, (pl2.ent x hx).2⟩⟩
              -- waiting.extend
              refine ⟨_, rfl, .inl ⟨rfl, _, .inl (.inl pl3.lst)⟩, ?_⟩
              refine ⟨_, rfl, vx, dx, n, H, rfl, s23, hdx, hgx, cl, fun a us H4 s4 aT aA => ?_⟩
              refine ⟨a, rfl, ⟨_, aT⟩, fun Dl hD => ?_⟩
              have hWl : Dl ≠ W := fun z => by
                have := s4 _ _ pl3.lst
                rw [← z, hD] at this
                cases this
              have hul := dp_all_len aA
              refine lc_tup (xs := us) (fun i H5 => ∃ es : List Ent, es.map (fun e => e.2.2) = ((kidsD dx).take i).map (fun d => (d, k + 1)) ∧ H5 Dl = some (.lst (es.map fun e => V.ref e.1)) ∧ (∀ e ∈ es, H5 e.1 = some (.tup [e.2.1, .int (e.2.2.2 : Int)]) ∧ Dp K H e.2.1 e.2.2.1 ∧ Gd n e.2.2.1) ∧ Same H4 H5) ?_ ?_ ?_ ?_
              · exact ⟨[], rfl, upd_same, fun e he => (nomatch he), same_new hD⟩
              · rintro i H5 _ ⟨_, _, _, _, s5⟩
                exact same_sqt s5 aT
              · rintro i u H5 hu ⟨es, he, eD, hes, s5⟩
                obtain ⟨e, hei, heu⟩ := dp_all_get aA hu
                refine ⟨rfl, ?_⟩
                refine ⟨_, rfl, _, rfl, _, _, rfl, rfl, (by show 2 ≤ sizeLine; decide), fun t nt => ?_⟩
                have eD2 : upd H5 t (.tup [u, .int ((k : Int) + 1)]) Dl = some (.lst (es.map fun e => V.ref e.1)) := by
                  rw [upd_ne (ne_of_none eD nt)]
                  exact eD
                have htD : t ≠ Dl := fun z => by
                  rw [z, eD] at nt
                  cases nt
                refine ⟨_, eD2, ?_, es ++ [(t, u, e, k + 1)], ?_, ?_, ?_, ?_⟩
                · have hle := congrArg List.length he
                  rw [List.length_map, List.length_map, List.length_take] at hle
                  have hkl := kids_len hgx
                  rw [List.length_map]
                  exact Nat.lt_of_lt_of_le (show es.length < 10000 by omega) (by decide)
                · rw [List.map_append, he, List.take_add_one, hei, List.map_append]
                  rfl
                · rw [upd_same, List.map_append]
                  rfl
                · intro x hx
                  rcases List.mem_append.mp hx with h | h
                  · obtain ⟨g1, g2, g3⟩ := hes x h
                    refine ⟨?_, g2, g3⟩
                    have g4 : upd H5 t (.tup [u, .int ((k : Int) + 1)]) x.1 = some (.tup [x.2.1, .int (x.2.2.2 : Int)]) := by
                      rw [upd_ne (ne_of_none g1 nt)]
                      exact g1
                    rw [upd_ne (fun z => by rw [z, eD2] at g4; cases g4)]
                    exact g4
                  · rw [List.mem_singleton.mp h]
                    refine ⟨?_, heu, kids_gd hgx (List.mem_of_getElem? hei)⟩
                    rw [upd_ne htD]
                    exact upd_same
                · intro b o e
                  rw [upd_ne (ne_of_none e hD), upd_ne (ne_of_none (s5 b o e) nt)]
                  exact s5 b o e
              · rintro H5 ⟨es, he, eD, hes, s5⟩
                rw [List.take_of_length_le (by omega)] at he
                have eW5 := s5 _ _ (s4 _ _ pl3.lst)
                have hle := congrArg List.length he
                rw [List.length_map, List.length_map] at hle
                have hkl := kids_len hgx
                have hyl : ys.length ≤ 5000 * many + 1 := by
                  rw [List.length_append] at hlen
                  omega
                refine ⟨W, Dl, _, _, rfl, rfl, eW5, eD, ?_, ?_⟩
                · rw [List.length_map, List.length_map, sizeLine_eq]
                  omega
                · refine ⟨ys ++ es, _, _, _, rfl, by omega, ?_, ?_, ⟨?_, ?_⟩, ?_⟩
                  · rw [List.length_append]
                    omega
                  · intro b o e
                    rw [upd_ne (ne_of_none e hW)]
                    exact s5 b o (s4 b o (s23 b o e))
                  · rw [upd_same, List.map_append]
                  · intro x hx
                    rcases List.mem_append.mp hx with h | h
                    · obtain ⟨g1, g2, g3⟩ := pl3.ent x h
                      refine ⟨?_, g2, g3⟩
                      have g4 := s5 _ _ (s4 _ _ g1)
                      rw [upd_ne (fun z => by rw [z, eW5] at g4; cases g4)]
                      exact g4
                    · obtain ⟨g1, g2, g3⟩ := hes x h
                      refine ⟨?_, g2, g3⟩
                      rw [upd_ne (fun z => by rw [z, eW5] at g1; cases g1)]
                      exact g1
                  · rw [hgood]
                    exact good_step (x := (p, vx, dx, k)) (by show k ≤ 60; omega) cl he

theorem ok_checkB {f : Addr} {fd : FuncData} (D : Df K mg "check_breaker" s_check_breaker ["breaker"] f fd) (T : Txt K w mg cs) (c_is_made : Cl P w K mg base CX0 1 "is_made" (spD K madeD)) (c_fits_kind : Cl P w K mg base CX0 4 "fits_kind" (spKind K))
    (c_is_plain_breaker : Cl P w K mg base CX0 5 "is_plain_breaker" (spD K plainOk)) : FnOk P w K mg base (L2.CX P w) 6 f fd ["breaker"] (spCheckB K cs.BadBreaker) := by
  refine D.fn.okX sc_check_breaker (fun vs H Q E h => ?_) (fun cdv A outer s H vs Q E hr h => ?_)
  · obtain ⟨v, d, n, rfl, _⟩ := h
    rfl
  · obtain ⟨v, d, n, rfl, hd, hg, q⟩ := h
    have tk := takes_of (X := cxOf (L2.CX P w) P w K mg base ["breaker", "inner", "depth"] "check_breaker" (defScope s_check_breaker) f cdv A outer s H E) (E := E) rfl rfl rfl rfl
    refine ⟨_, (pss_cons (ps_set (i := 1) sc_check_breaker.nd rfl (.inl rfl) (pv 0)) (pss_cons (ps_set (i := 2) sc_check_breaker.nd rfl (.inl rfl) pe_int) (pss_cons (ps_while (passes_of rfl) (pt_val (pe_cl c_is_made hr (by first | decide | omega) (by rfl) (pa_cons (pv 1) pa_nil))) (pss_cons (ps_aug (i := 2) sc_check_breaker.nd rfl (.inl rfl) pe_int ip_add) (pss_cons (ps_if (pt_cmpR op_gt (pv 2) (C8.pe_gc (by rfl) T.g_DEEPEST_MADE) (nomark _)) (pss_one (ps_raiseE T.x_BadBreaker rfl tk (by rfl))) pss_nil) (pss_cons (ps_if (pt_not (pt_val (pe_cl c_fits_kind hr (by first | decide | omega) (by rfl) (pa_cons (pv 1) pa_nil)))) (pss_one (ps_raiseE T.x_BadBreaker rfl tk (by rfl))) pss_nil) (pss_cons (ps_if (PW.pt (pw_and (pt_cmpR (op_eqF K hr.units) (pe_ix (ixT K) (pv 1) pe_int (fun _ _ => rfl)) pe_str (nomark _)) (pw_and1 (pt_val (pe_cl c_is_made hr (by first | decide | omega) (by rfl) (pa_cons (pe_ix (ixT K) (pv 1) (pe_un un_neg pe_int) (fun _ _ => rfl)) pa_nil)))))) (pss_one (ps_raiseE T.x_BadBreaker rfl tk (by rfl))) pss_nil) (pss_one (ps_set (i := 1) sc_check_breaker.nd rfl (.inl rfl) (pe_ix (ixT K) (pv 1) (pe_un un_neg pe_int) (fun _ _ => rfl))))))))) (pss_one (ps_if (pt_not (pt_val (pe_cl c_is_plain_breaker hr (by first | decide | omega) (by rfl) (pa_cons (pv 1) pa_nil)))) (pss_one (ps_raiseE T.x_BadBreaker rfl tk (by rfl))) pss_nil))))), ?_⟩
    refine ⟨_, rfl, ?_⟩
    refine ⟨fun m σ H' => ∃ (vi : V) (di : PyData) (depth : Nat), σ = [some v, some vi, some (.int (depth : Int))] ∧ m = 21 - depth ∧ depth ≤ 20 ∧ Same H H' ∧ Dp K H vi di ∧ Gd n di ∧ brOk d = chk (20 - depth) di,
      ⟨_, v, d, 0, rfl, rfl, by omega, Same.refl H, hd, hg, rfl⟩, ?_⟩
    rintro m σ H' ⟨vi, di, depth, rfl, hm, hdep, s1, hdi, hgi, hb⟩
    refine ⟨_, rfl, vi, di, n, rfl, dp_same s1 di hdi, hgi, fun H1 s' => ⟨_, rfl, ?_⟩⟩
    have s2 := s1.trans s'
    clear s1 s'
    cases cm : madeD di with
    | false =>
      rw [chk_plain cm] at hb
      refine ⟨_, rfl, vi, di, n, rfl, dp_same s2 di hdi, hgi, fun H2 s3 => ⟨_, rfl, ?_⟩⟩
      obtain ⟨q1, q2⟩ := q H2 (s2.trans s3)
      cases cp : plainOk di with
      | true =>
        rw [cp] at hb
        exact q1 hb
      | false =>
        rw [cp] at hb
        exact q2 hb
    | true =>
      obtain ⟨z, r, rfl, hz⟩ := made_parts cm
      refine ⟨fun σ H2 => ∃ (vi : V) (di : PyData), σ = [some v, some vi, some (.int ((depth + 1 : Nat) : Int))] ∧ depth + 1 ≤ 20 ∧ Same H H2 ∧ Dp K H vi di ∧ Gd n di ∧ brOk d = chk (20 - (depth + 1)) di, ?_, ?_⟩
      · rintro σ H2 ⟨vi, di, rfl, h1, h2, h3, h4, h5⟩
        exact ⟨21 - (depth + 1), by omega, vi, di, depth + 1, rfl, rfl, h1, h2, h3, h4, h5⟩
      · refine ⟨_, rfl, _, _, rfl, rfl, ?_⟩
        refine ⟨_, rfl, _, _, rfl, rfl, _, rfl, ?_⟩
        by_cases c1 : depth = 20
        · subst c1
          rw [decide_eq_true (show (((20 : Nat) : Int) + 1) > 20 by decide)]
          rw [Nat.sub_self, chk_zero cm] at hb
          exact (q H1 s2).2 hb
        · rw [decide_eq_false (show ¬ ((depth : Int) + 1) > 20 by omega)]
          rw [show 20 - depth = (20 - (depth + 1)) + 1 by omega, chk_succ cm] at hb
          have hfe : fitsD (.tuple (.str z :: r)) = fitZ z r.dropLast := rfl
          rw [hfe] at hb
          refine ⟨_, rfl, vi, z, r, n, rfl, dp_same s2 _ hdi, hgi, hz, fun H2 s' => ⟨_, rfl, ?_⟩⟩
          have s3 := s2.trans s'
          clear s2 s'
          cases cf : fitZ z r.dropLast with
          | false =>
            rw [cf, Bool.false_and] at hb
            exact (q H2 s3).2 hb
          | true =>
            rw [cf, Bool.true_and] at hb
            cases hdi with
            | @tup a ws _ hT hA =>
            obtain ⟨v0, vr, rfl, h0, hr'⟩ := dp_cons hA
            obtain ⟨vl, el, hvl, hmem⟩ := dps_at_last hA (fun z => by cases z)
            have ggl : Gd n (lastD (.tuple (.str z :: r))) := by
              obtain ⟨_, n', rfl, hx⟩ := gd_tup hgi
              exact gd_up (hx _ hmem)
            cases h0
            have hT3 := same_sqt s3 hT
            have hho : headIs "onetime" (.tuple (.str z :: r)) = named "onetime" (.str z) := rfl
            rw [hho] at hb
            refine ⟨_, rfl, a, _, 0, .str z, rfl, rfl, hT3, at_zero, .str z, .str "onetime", .str _, .str _, ?_, str_lay _, str_dep _, _, rfl, ?_⟩
            · obtain ⟨_, n', rfl, hx⟩ := gd_tup hgi
              exact gd_lay (hx _ List.mem_cons_self)
            · show if named "onetime" (.str z) = true then _ else _
              have last : ∀ H3, Same H2 H3 → brOk d = chk (20 - (depth + 1)) (lastD (.tuple (.str z :: r))) → SqT K H3 a (.str z :: vr) → ∃ (vi : V) (di : PyData), [some v, some vl, some (.int ((depth + 1 : Nat) : Int))] = [some v, some vi, some (.int ((depth + 1 : Nat) : Int))] ∧ depth + 1 ≤ 20 ∧ Same H H3 ∧ Dp K H vi di ∧ Gd n di ∧ brOk d = chk (20 - (depth + 1)) di :=
                fun H3 s' hb' _ => ⟨vl, _, rfl, by omega, s3.trans s', hvl, ggl, hb'⟩
              cases co : named "onetime" (.str z) with
              | false =>
                rw [co, Bool.false_and, Bool.not_false, Bool.true_and] at hb
                refine ⟨_, rfl, 1, rfl, a, _, -1, vl, rfl, rfl, hT3, el, ?_⟩
                exact last H2 (Same.refl H2) hb hT3
              | true =>
                rw [co, Bool.true_and] at hb
                refine ⟨_, rfl, 1, rfl, a, _, -1, vl, rfl, rfl, hT3, el, vl, _, n, rfl, dp_same s3 _ hvl, ggl, fun H3 s' => ⟨_, rfl, ?_⟩⟩
                cases cl : madeD (lastD (.tuple (.str z :: r))) with
                | true =>
                  rw [cl] at hb
                  exact (q H3 (s3.trans s')).2 hb
                | false =>
                  rw [cl, Bool.not_false, Bool.true_and] at hb
                  refine ⟨_, rfl, 1, rfl, a, _, -1, vl, rfl, rfl, same_sqt s' hT3, el, ?_⟩
                  exact last H3 s' hb (same_sqt s' hT3)

structure Pile2 (K : PySem.W.Frag) (H H' : Hp) (W : Addr) (n : Nat) (xs : List Ent2) : Prop where
  lst : H' W = some (.lst (xs.map fun x => V.ref x.1))
  ent : ∀ x ∈ xs, H' x.1 = some (.tup [x.2.1, .int (x.2.2.2.1 : Int)]) ∧ Dp K H x.2.1 x.2.2.1 ∧ Gd n x.2.2.1 ∧ okN (61 - x.2.2.2.2) x.2.2.1 = true ∧ x.2.2.2.2 ≤ 60
def spAsks (K : PySem.W.Frag) : Sp := fun vs H Q _ => ∃ (v : V) (d : PyData) (n : Nat), vs = [v] ∧ Dp K H v d ∧ Gd n d ∧ plainOk d = true ∧ ∀ H', Same H H' → Q (.int (paN 60 d : Int)) H'
theorem ok_asks {f : Addr} {fd : FuncData} (D : Df K mg "plain_asks" s_plain_asks ["breaker"] f fd) (T : Txt K w mg cs) (c_directly_within : Cl P w K mg base CX0 1 "directly_within" (spKids K)) : FnOk P w K mg base CX0 2 f fd ["breaker"] (spAsks K) := by
  refine D.fn.ok sc_plain_asks (fun vs H Q E h => ?_) (fun cdv A outer s H vs Q E hr h => ?_)
  · obtain ⟨v, d, n, rfl, _⟩ := h
    rfl
  · obtain ⟨v, d, n, rfl, hd, hg, hp, q⟩ := h
    refine ⟨_, (pss_cons (ps_set (i := 1) sc_plain_asks.nd rfl (.inl rfl) pe_int) (pss_cons (ps_set (i := 2) sc_plain_asks.nd rfl (.inl rfl) (pe_lst (pa_cons (pe_tup (pa_cons (pv 0) (pa_cons pe_int pa_nil))) pa_nil))) (pss_cons (ps_while PassesOwn.never (pt_truth (pv 2) (by intro _; rfl)) (pss_cons (ps_asg (pe_bm0 PySem.F.plainAttrs_list PySem.F.slot_list_pop PySem.F.type_list_pop mt_pop (pv 2)) (pg_tup (by rfl) (pgs_cons (pg_name (i := 3) sc_plain_asks.nd rfl (.inl rfl)) (pgs_cons (pg_name (i := 4) sc_plain_asks.nd rfl (.inr rfl)) pgs_nil)))) (pss_cons (ps_if (pt_cmpR (op_eqF K hr.units) (pe_ix (ixT K) (pv 3) pe_int (fun _ _ => rfl)) pe_str (nomark _)) (pss_one (ps_aug (i := 4) sc_plain_asks.nd rfl (.inr rfl) pe_int ip_add)) pss_nil) (pss_cons (ps_set (i := 1) sc_plain_asks.nd rfl (.inl rfl) (pe_callB (call_max2 rfl) (by rfl) T.n_max (by decide +kernel) (pa_cons (pv 1) (pa_cons (pv 4) pa_nil)))) (pss_one (ps_expr (pe_bm PySem.F.plainAttrs_list PySem.F.slot_list_extend PySem.F.type_list_extend mt_extend (pv 2) (pa_cons (pe_lc (own := [("inner", 5)]) (g := gName 5) (tt := tYes) rfl sc_plain_asks.nd (pi_tup (pe_cl c_directly_within hr (by first | decide | omega) (by rfl) (pa_cons (pv 3) pa_nil))) (blkOk_by (own := [("inner", 5)]) (N := ["breaker", "most", "waiting", "part", "asks", "inner"]) (sc := defScope s_plain_asks) (by decide +kernel)) (fun _ _ _ _ _ => (pg_name (i := 5) sc_plain_asks.nd rfl (.inl rfl))) (fun _ _ _ _ _ => pts_nil) (fun _ _ _ _ _ => (pe_tup (pa_cons (pv 5) (pa_cons (pv 4) pa_nil))))) pa_nil)))))))) (pss_one (ps_ret (pv 1)))))), ?_⟩
    have hp' : (okN 60 d && decide (szN 60 d ≤ 2001)) = true := hp
    rw [Bool.and_eq_true, decide_eq_true_eq] at hp'
    obtain ⟨hok, hsz⟩ := hp'
    refine ⟨_, rfl, (by show 2 ≤ sizeLine; decide), fun p0 np => ⟨(by show 1 ≤ sizeLine; decide), fun W nW => ?_⟩⟩
    have hW : H W = none := (same_new np).free nW
    have s0 : Same H (upd (upd H p0 (.tup [v, .int 0])) W (.lst [.ref p0])) := (same_new np).trans (same_new nW)
    have pl0 : Pile2 K H (upd (upd H p0 (.tup [v, .int 0])) W (.lst [.ref p0])) W n [(p0, v, d, 0, 1)] := ⟨upd_same, fun x hx => by
      rw [List.mem_singleton.mp hx]
      refine ⟨?_, hd, hg, hok, (by show 1 ≤ 60; decide)⟩
      rw [upd_ne (ne_of_none upd_same nW)]
      exact upd_same⟩
    have hval : paN 60 d = (([(p0, v, d, 0, 1)] : List Ent2).map valE).foldl max 0 := by
      show paN 60 d = max 0 (0 + paN 60 d)
      omega
    have hs0 : szE [(p0, v, d, 0, 1)] ≤ 2001 := by
      show szN 60 d + 0 ≤ 2001
      omega
    generalize upd (upd H p0 (.tup [v, .int 0])) W (.lst [.ref p0]) = H0 at s0 pl0
    clear np nW
    refine ⟨fun m σ H' => ∃ (xs : List Ent2) (most : Nat) (y3 y4 y5 : Option V), σ = [some v, some (.int (most : Int)), some (.ref W), y3, y4, y5] ∧ m = szE xs ∧ szE xs ≤ 2001 ∧ Same H H' ∧ Pile2 K H H' W n xs ∧ paN 60 d = (xs.map valE).foldl max most,
      ⟨_, [(p0, v, d, 0, 1)], 0, none, none, none, rfl, rfl, hs0, s0, pl0, hval⟩, ?_⟩
    clear s0 pl0 hval hs0 H0
    rintro m σ H' ⟨xs, most, y3, y4, y5, rfl, hm, hlen, s1, pl, hval⟩
    refine ⟨_, rfl, _, .inl ⟨_, .inl (.inl pl.lst), rfl⟩, ?_⟩
    rcases snoc_cases xs with rfl | ⟨ys, ⟨p, vx, dx, as, k⟩, rfl⟩
    · have e : (paN 60 d : Int) = (most : Int) := by
        rw [hval]
        rfl
      have q' := q H' s1
      rw [e] at q'
      exact ⟨_, rfl, q'⟩
    · have hne : (!((ys ++ [(p, vx, dx, as, k)]).map fun x : Ent2 => V.ref x.1).isEmpty) = true := by
        rw [List.map_append]
        cases (ys.map fun x : Ent2 => V.ref x.1) <;> rfl
      rw [hne, if_pos rfl]
      obtain ⟨ep, hdx, hgx, hokx, hkx⟩ := pl.ent (p, vx, dx, as, k) (List.mem_append_right _ List.mem_cons_self)
      dsimp only at ep hdx hgx hokx hkx
      obtain ⟨hlk, hkids⟩ := okN_kids hkx hokx
      have hszx : szN (61 - k) dx = 1 + ((kidsD dx).map (szN (60 - k))).sum := by
        rw [show 61 - k = (60 - k) + 1 by omega]
        rfl
      have hval1 : valE (p, vx, dx, as, k) = (as + askB dx) + ((kidsD dx).map (paN (60 - k))).foldl max 0 := by
        show as + paN (61 - k) dx = _
        rw [show 61 - k = (60 - k) + 1 by omega]
        show as + (askB dx + _) = _
        omega
      refine ⟨fun σ H2 => ∃ (xs : List Ent2) (most : Nat) (y3 y4 y5 : Option V), σ = [some v, some (.int (most : Int)), some (.ref W), y3, y4, y5] ∧ szE xs < m ∧ Same H H2 ∧ Pile2 K H H2 W n xs ∧ paN 60 d = (xs.map valE).foldl max most, ?_, ?_⟩
      · rintro σ H2 ⟨xs, most, z3, z4, z5, rfl, h1, h3, h4, h5⟩
        exact ⟨szE xs, h1, xs, most, z3, z4, z5, rfl, rfl, by omega, h3, h4, h5⟩
      · have eW := pl.lst
        rw [List.map_append] at eW
        refine ⟨_, rfl, .inl ⟨rfl, _, .inl (.inl eW)⟩, W, _, .ref p, rfl, rfl, eW, ?_, ?_⟩
        · exact last_get _ _
        have edl : (ys.map (fun x : Ent2 => V.ref x.1) ++ [(p, vx, dx, as, k)].map fun x : Ent2 => V.ref x.1).dropLast = ys.map fun x : Ent2 => V.ref x.1 := List.dropLast_concat
        rw [edl]
        have hpW : p ≠ W := fun z => by
          rw [z, pl.lst] at ep
          cases ep
        have pl2 : Pile2 K H (upd H' W (.lst (ys.map fun x : Ent2 => V.ref x.1))) W n ys := ⟨upd_same, fun x hx => by
          obtain ⟨g1, g2⟩ := pl.ent x (List.mem_append_left _ hx)
          refine ⟨?_, g2⟩
          rw [upd_ne (fun z => by rw [z, pl.lst] at g1; cases g1)]
          exact g1⟩
        have s2 : Same H (upd H' W (.lst (ys.map fun x : Ent2 => V.ref x.1))) := fun b o e => by
          rw [upd_ne (ne_of_none e hW)]
          exact s1 b o e
        have ep2 : upd H' W (.lst (ys.map fun x : Ent2 => V.ref x.1)) p = some (.tup [vx, .int (as : Int)]) := by
          rw [upd_ne hpW]
          exact ep
        generalize upd H' W (.lst (ys.map fun x : Ent2 => V.ref x.1)) = H2 at pl2 s2 ep2
        refine ⟨p, [vx, .int (as : Int)], rfl, .inl (.inl ep2), rfl, _, _, rfl, _, _, rfl, rfl, ?_⟩
        -- if part[0] == "ask"
        obtain ⟨k0, r0, rfl⟩ := looks_head hlk
        have hdx0 := hdx
        cases hdx with
        | @tup b ws _ bT bA =>
        obtain ⟨v0, vr, rfl, h0, hr'⟩ := dp_cons bA
        refine ⟨_, rfl, b, _, 0, v0, rfl, rfl, same_sqt s2 bT, at_zero, k0, .str "ask", dp_same s2 k0 h0, .str _, ?_, str_lay _, str_dep _, _, rfl, ?_⟩
        · obtain ⟨_, n', rfl, hx⟩ := gd_tup hgx
          exact gd_lay (hx _ List.mem_cons_self)
        show if named "ask" k0 = true then _ else _
        have hask : askB (.tuple (k0 :: r0)) = if named "ask" k0 then 1 else 0 := rfl
        obtain ⟨as', has⟩ : ∃ as' : Nat, as' = as + askB (.tuple (k0 :: r0)) := ⟨_, rfl⟩
        rw [← has] at hval1
        by_cases c : named "ask" k0 = true
        case' pos =>
          rw [if_pos c] at hask ⊢
          have hi : (as' : Int) = (as : Int) + 1 := by omega
          refine ⟨_, rfl, _, _, rfl, rfl, ?_⟩
        case' neg =>
          rw [if_neg c] at hask ⊢
          have hi : (as' : Int) = (as : Int) := by omega
        all_goals
          refine ⟨_, rfl, _, rfl, _, _, rfl, ?_⟩
          refine ⟨_, rfl, .inl ⟨rfl, _, .inl (.inl pl2.lst)⟩, ?_⟩
          refine ⟨_, rfl, _, _, n, H, rfl, s2, hdx0, hgx, hlk, fun a us H4 s4 aT aA => ?_⟩
          refine ⟨a, rfl, ⟨_, aT⟩, fun Dl hD => ?_⟩
          have hul := dp_all_len aA
          refine lc_tup (xs := us) (fun i H5 => ∃ es : List Ent2, es.map (fun e => e.2.2) = ((kidsD (.tuple (k0 :: r0))).take i).map (fun d => (d, as', k + 1)) ∧ H5 Dl = some (.lst (es.map fun e => V.ref e.1)) ∧ (∀ e ∈ es, H5 e.1 = some (.tup [e.2.1, .int (e.2.2.2.1 : Int)]) ∧ Dp K H e.2.1 e.2.2.1 ∧ Gd n e.2.2.1) ∧ Same H4 H5) ?_ ?_ ?_ ?_
          · exact ⟨[], rfl, upd_same, fun e he => (nomatch he), same_new hD⟩
          · rintro i H5 _ ⟨_, _, _, _, s5⟩
            exact same_sqt s5 aT
          · rintro i u H5 hu ⟨es, he, eD, hes, s5⟩
            obtain ⟨e, hei, heu⟩ := dp_all_get aA hu
            refine ⟨rfl, ?_⟩
            refine ⟨_, rfl, _, rfl, (by show 2 ≤ sizeLine; decide), fun t nt => ?_⟩
            have et : ∀ o : HO, o = .tup [u, .int (as' : Int)] → upd H5 t o Dl = some (.lst (es.map fun e => V.ref e.1)) ∧ upd H5 t o t = some (.tup [u, .int (as' : Int)]) ∧ ∀ b x, H5 b = some x → upd H5 t o b = some x := by
              rintro o rfl
              exact ⟨by rw [upd_ne (ne_of_none eD nt)]; exact eD, upd_same, fun b x hb => by rw [upd_ne (ne_of_none hb nt)]; exact hb⟩
            obtain ⟨eD2, et2, esame⟩ := et _ (by rw [hi])
            have htD : t ≠ Dl := fun z => by
              rw [z, eD] at nt
              cases nt
            refine ⟨_, eD2, ?_, es ++ [(t, u, e, as', k + 1)], ?_, ?_, ?_, ?_⟩
            · have hle := congrArg List.length he
              rw [List.length_map, List.length_map, List.length_take] at hle
              have hkl := kids_len hgx
              rw [List.length_map]
              exact Nat.lt_of_lt_of_le (show es.length < 10000 by omega) (by decide)
            · rw [List.map_append, he, List.take_add_one, hei, List.map_append]
              rfl
            · rw [upd_same, List.map_append]
              rfl
            · intro x hx
              rcases List.mem_append.mp hx with h | h
              · obtain ⟨g1, g2, g3⟩ := hes x h
                refine ⟨?_, g2, g3⟩
                have g4 := esame _ _ g1
                rw [upd_ne (fun z => by rw [z, eD2] at g4; cases g4)]
                exact g4
              · rw [List.mem_singleton.mp h]
                refine ⟨?_, heu, kids_gd hgx (List.mem_of_getElem? hei)⟩
                rw [upd_ne htD]
                exact et2
            · intro b o e
              rw [upd_ne (ne_of_none e hD)]
              exact esame b o (s5 b o e)
          · rintro H5 ⟨es, he, eD, hes, s5⟩
            rw [List.take_of_length_le (by omega)] at he
            obtain ⟨v1, v2⟩ := ents_vals he
            have eW5 := s5 _ _ (s4 _ _ pl2.lst)
            have hle := congrArg List.length he
            rw [List.length_map, List.length_map] at hle
            have hkl := kids_len hgx
            have hyl := szE_len ys
            have hmz : m = szE ys + szE [((p, V.ref b, PyData.tuple (k0 :: r0), as, k) : Ent2)] := hm.trans (szE_app _ _)
            have hlz : szE ys + szE [((p, V.ref b, PyData.tuple (k0 :: r0), as, k) : Ent2)] ≤ 2001 := by
              rw [← hmz, hm]
              exact hlen
            have hsx : szE [((p, V.ref b, PyData.tuple (k0 :: r0), as, k) : Ent2)] = 1 + ((kidsD (.tuple (k0 :: r0))).map (szN (60 - k))).sum := by
              show szN (61 - k) _ + 0 = _
              rw [hszx]
              rfl
            refine ⟨W, Dl, _, _, rfl, rfl, eW5, eD, ?_, ?_⟩
            · rw [List.length_map, List.length_map, sizeLine_eq]
              omega
            · refine ⟨ys ++ es, max most as', some (.ref b), some (.int (as' : Int)), y5, ?_, ?_, ?_, ⟨?_, ?_⟩, ?_⟩
              · show [_, some (V.int _), _, _, some (V.int _), _] = [_, some (V.int _), _, _, some (V.int _), _]
                have emx : (if ((as' : Int)) > (most : Int) then ((as' : Int)) else (most : Int)) = ((max most as' : Nat) : Int) := by
                  split <;> omega
                rw [← emx, hi]
              · rw [szE_app, v2]
                omega
              · intro b o e
                rw [upd_ne (ne_of_none e hW)]
                exact s5 b o (s4 b o (s2 b o e))
              · rw [upd_same, List.map_append]
              · intro x hx
                rcases List.mem_append.mp hx with h | h
                · obtain ⟨g1, g2⟩ := pl2.ent x h
                  refine ⟨?_, g2⟩
                  have g4 := s5 _ _ (s4 _ _ g1)
                  rw [upd_ne (fun z => by rw [z, eW5] at g4; cases g4)]
                  exact g4
                · obtain ⟨g1, g2, g3⟩ := hes x h
                  obtain ⟨e', he1, he2⟩ : ∃ e' ∈ kidsD (.tuple (k0 :: r0)), x.2.2 = (e', as', k + 1) := by
                    have : x.2.2 ∈ es.map (fun e => e.2.2) := List.mem_map.mpr ⟨x, h, rfl⟩
                    rw [he] at this
                    obtain ⟨e', h1, h2⟩ := List.mem_map.mp this
                    exact ⟨e', h1, h2.symm⟩
                  have hk2 := hkids e' he1
                  have hpos := okN_pos hk2
                  refine ⟨?_, g2, g3, ?_, ?_⟩
                  · rw [upd_ne (fun z => by rw [z, eW5] at g1; cases g1)]
                    exact g1
                  · rw [he2]
                    show okN (61 - (k + 1)) e' = true
                    rw [show 61 - (k + 1) = 60 - k by omega]
                    exact hk2
                  · rw [he2]
                    show k + 1 ≤ 60
                    omega
              · rw [hval, List.map_append, List.map_append, v1]
                have := fold_pop most as' (ys.map valE) ((kidsD (.tuple (k0 :: r0))).map (paN (60 - k)))
                rw [← this]
                show (ys.map valE ++ [valE (p, V.ref b, .tuple (k0 :: r0), as, k)]).foldl max most = _
                rw [hval1]

def spMA (K : PySem.W.Frag) (C : Addr) : Sp := fun vs H Q E => ∃ (v : V) (d : PyData) (n : Nat), vs = [v] ∧ Dp K H v d ∧ Gd n d ∧ ∀ H', Same H H' → (brOk d = true → Q (.int (progM 20 d)) H') ∧ (brOk d = false → E (.ref C) none H')
theorem ok_most {f : Addr} {fd : FuncData} (D : Df K mg "most_asks" s_most_asks ["breaker"] f fd) (T : Txt K w mg cs) (c_check_breaker : Cl P w K mg base (L2.CX P w) 6 "check_breaker" (spCheckB K cs.BadBreaker)) (c_is_made : Cl P w K mg base CX0 1 "is_made" (spD K madeD)) (c_plain_asks : Cl P w K mg base CX0 2 "plain_asks" (spAsks K)) :
    FnOk P w K mg base (L2.CX P w) 7 f fd ["breaker"] (spMA K cs.BadBreaker) := by
  refine D.fn.okX sc_most_asks (fun vs H Q E h => ?_) (fun cdv A outer s H vs Q E hr h => ?_)
  · obtain ⟨v, d, n, rfl, _⟩ := h
    rfl
  · obtain ⟨v, d, n, rfl, hd, hg, q⟩ := h
    have tk := takes_of (X := cxOf (L2.CX P w) P w K mg base ["breaker", "own", "inner"] "most_asks" (defScope s_most_asks) f cdv A outer s H E) (E := E) rfl rfl rfl rfl
    refine ⟨_, (pss_cons (ps_expr (pe_clX c_check_breaker hr (by first | decide | omega) (by rfl) tk (pa_cons (pv 0) pa_nil))) (pss_cons (ps_set (i := 1) sc_most_asks.nd rfl (.inl rfl) pe_int) (pss_cons (ps_set (i := 2) sc_most_asks.nd rfl (.inl rfl) (pv 0)) (pss_cons (ps_while (passes_of rfl) (pt_cmpR op_in_seq (pe_ix (ixT K) (pv 2) pe_int (fun _ _ => rfl)) (pe_tup (pa_cons pe_str (pa_cons pe_str pa_nil))) (by rfl)) (pss_cons (ps_if (pt_cmpR (op_eqF K hr.units) (pe_ix (ixT K) (pv 2) pe_int (fun _ _ => rfl)) pe_str (nomark _)) (pss_one (ps_aug (i := 1) sc_most_asks.nd rfl (.inl rfl) pe_int ip_add)) pss_nil) (pss_one (ps_set (i := 2) sc_most_asks.nd rfl (.inl rfl) (pe_ix (ixT K) (pv 2) (pe_un un_neg pe_int) (fun _ _ => rfl)))))) (pss_cons (ps_if (pt_cmpR (op_eqF K hr.units) (pe_ix (ixT K) (pv 2) pe_int (fun _ _ => rfl)) pe_str (nomark _)) (pss_one (ps_ret (pe_op op_add (pv 1) (pe_ix (ixT K) (pv 2) pe_int (fun _ _ => rfl))))) pss_nil) (pss_one (ps_ret (pe_ifExp (pt_val (pe_cl c_is_made hr (by first | decide | omega) (by rfl) (pa_cons (pv 2) pa_nil))) (pv 1) (pe_op op_add (pv 1) (pe_cl c_plain_asks hr (by first | decide | omega) (by rfl) (pa_cons (pv 2) pa_nil))))))))))), ?_⟩
    refine ⟨_, rfl, v, d, n, rfl, hd, hg, fun H1 s1 => ⟨fun hb => ?_, fun hb => (q H1 s1).2 hb⟩⟩
    have q' := fun H' (s' : Same H H') => (q H' s').1 hb
    clear q
    refine ⟨_, rfl, ?_⟩
    refine ⟨fun m σ H' => ∃ (vi : V) (di : PyData) (own : Int), σ = [some v, some (.int own), some vi] ∧ Same H H' ∧ Dp K H vi di ∧ Gd n di ∧ chk m di = true ∧ progM 20 d = own + progM m di,
      ⟨20, v, d, 0, rfl, s1, hd, hg, hb, (Int.zero_add _).symm⟩, ?_⟩
    clear hb s1
    rintro m σ H' ⟨vi, di, own, rfl, s1, hdi, hgi, hc, hp⟩
    obtain ⟨z, r, rfl⟩ := chk_head hc
    have hdi0 := hdi
    cases hdi with
    | @tup a ws _ hT hA =>
    have hA0 := hA
    obtain ⟨v0, vr, rfl, h0, hr'⟩ := dp_cons hA
    cases h0
    have lay : PyData.canLay0 (.str z) = true := by
      obtain ⟨_, n', rfl, hx⟩ := gd_tup hgi
      exact gd_lay (hx _ List.mem_cons_self)
    refine ⟨_, rfl, a, _, 0, .str z, rfl, rfl, same_sqt s1 hT, at_zero, (by show 2 ≤ sizeLine; decide), fun p np => ?_⟩
    have s2 := s1.trans (same_new (o := .tup [.str "marks", .str "secrets"]) np)
    refine ⟨p, _, rfl, .inr (.inl (.inl upd_same)), rfl, rfl, ?_⟩
    generalize upd H' p (.tup [.str "marks", .str "secrets"]) = H2 at s2
    have hT2 := same_sqt s2 hT
    have e : inV (.str z) [.str "marks", .str "secrets"] = (decide (z = "marks") || decide (z = "secrets")) := by
      show ((eqV (.str "marks") (.str z) || (eqV (.str "secrets") (.str z) || false)) : Bool) = _
      rw [Bool.or_false]
      have ee : ∀ y : Str, eqV (.str y) (.str z) = decide (z = y) := fun y => by
        show (y == z) = _
        by_cases h : z = y
        · rw [decide_eq_true h, h]
          exact beq_self_eq_true y
        · rw [decide_eq_false h]
          exact beq_eq_false_iff_ne.mpr fun k => h k.symm
      rw [ee, ee]
    refine ⟨_, rfl, ?_⟩
    show if inV (.str z) [.str "marks", .str "secrets"] = true then _ else _
    rw [e]
    by_cases c1 : z = "marks"
    · subst c1
      rw [if_pos (by rw [decide_eq_true rfl]; rfl)]
      obtain ⟨m', rfl, hf, hc'⟩ := chk_made (made_num (by decide)) hc
      rw [progM_marks] at hp
      obtain ⟨vl, el, hvl, hmem⟩ := dps_at_last hA0 (fun z => by cases z)
      refine ⟨fun σ H3 => ∃ (vi : V) (di : PyData) (own : Int), σ = [some v, some (.int own), some vi] ∧ Same H H3 ∧ Dp K H vi di ∧ Gd n di ∧ chk m' di = true ∧ progM 20 d = own + progM m' di, fun σ H3 h => ⟨m', Nat.lt_succ_self _, h⟩, ?_⟩
      refine ⟨_, rfl, a, _, 0, .str "marks", rfl, rfl, hT2, at_zero, .str "marks", .str "marks", .str _, .str _, lay, str_lay _, str_dep _, _, rfl, ?_⟩
      refine ⟨_, rfl, _, _, rfl, rfl, ?_⟩
      refine ⟨_, rfl, 1, rfl, a, _, -1, vl, rfl, rfl, hT2, el, ?_⟩
      refine ⟨vl, _, own + 1, rfl, s2, hvl, ?_, hc', by omega⟩
      obtain ⟨_, n', rfl, hx⟩ := gd_tup hgi
      exact gd_up (hx _ hmem)
    · by_cases c2 : z = "secrets"
      · subst c2
        rw [if_pos (by rw [decide_eq_true (rfl : ("secrets" : Str) = "secrets"), Bool.or_true])]
        obtain ⟨m', rfl, hf, hc'⟩ := chk_made (made_num (by decide)) hc
        rw [progM_secrets] at hp
        obtain ⟨vl, el, hvl, hmem⟩ := dps_at_last hA0 (fun z => by cases z)
        refine ⟨fun σ H3 => ∃ (vi : V) (di : PyData) (own : Int), σ = [some v, some (.int own), some vi] ∧ Same H H3 ∧ Dp K H vi di ∧ Gd n di ∧ chk m' di = true ∧ progM 20 d = own + progM m' di, fun σ H3 h => ⟨m', Nat.lt_succ_self _, h⟩, ?_⟩
        refine ⟨_, rfl, a, _, 0, .str "secrets", rfl, rfl, hT2, at_zero, .str "secrets", .str "marks", .str _, .str _, lay, str_lay _, str_dep _, _, rfl, ?_⟩
        refine ⟨_, rfl, 1, rfl, a, _, -1, vl, rfl, rfl, hT2, el, ?_⟩
        refine ⟨vl, _, own, rfl, s2, hvl, ?_, hc', hp⟩
        obtain ⟨_, n', rfl, hx⟩ := gd_tup hgi
        exact gd_up (hx _ hmem)
      · rw [if_neg (by rw [decide_eq_false c1, decide_eq_false c2]; decide)]
        rw [progM_other c1 c2] at hp
        refine ⟨_, rfl, a, _, 0, .str z, rfl, rfl, hT2, at_zero, .str z, .str "counter", .str _, .str _, lay, str_lay _, str_dep _, _, rfl, ?_⟩
        show if named "counter" (.str z) = true then _ else _
        rw [named_str]
        by_cases c3 : z = "counter"
        · subst c3
          rw [if_pos (decide_eq_true rfl)]
          rw [if_pos rfl] at hp
          obtain ⟨m', rfl, hf, hc'⟩ := chk_made (made_num (by decide)) hc
          obtain ⟨l, c, m2, x, rfl, _, _⟩ := counter_parts hf
          obtain ⟨u0, u1, u2, u3, d0, d1, d2, d3, rfl, e4, p0, p1, p2, p3⟩ := dp4 hr' (dp_all_len hr')
          cases e4
          cases p1
          refine ⟨_, rfl, _, rfl, a, _, 2, .int c, rfl, rfl, hT2, rfl, _, _, rfl, rfl, ?_⟩
          have q2 := q' H2 s2
          rw [hp] at q2
          exact q2
        · rw [if_neg (by rw [decide_eq_false c3]; decide)]
          rw [if_neg c3] at hp
          refine ⟨_, rfl, _, _, n, rfl, dp_same s2 _ hdi0, hgi, fun H3 s3 => ⟨_, rfl, ?_⟩⟩
          cases cm : madeD (.tuple (.str z :: r)) with
          | true =>
            rw [cm, if_pos rfl, Int.add_zero] at hp
            have q2 := q' H3 (s2.trans s3)
            rw [hp] at q2
            exact ⟨_, rfl, q2⟩
          | false =>
            rw [cm, if_neg (by decide)] at hp
            rw [chk_plain cm] at hc
            refine ⟨_, rfl, _, rfl, _, _, n, rfl, dp_same (s2.trans s3) _ hdi0, hgi, hc, fun H4 s4 => ⟨_, _, rfl, rfl, ?_⟩⟩
            have q2 := q' H4 ((s2.trans s3).trans s4)
            rw [hp] at q2
            exact q2

theorem map_int_set (rs : List Int) (j : Nat) (x : Int) : (rs.map V.int).set j (.int x) = (rs.set j x).map V.int := by
  rw [List.map_set]
theorem at_int {rs : List Int} {j : Nat} {z : Int} (h : rs[j]? = some z) : atI (rs.map V.int) ((j : Nat) : Int) = some (.int z) := atI_nat (by
  rw [List.getElem?_map, h]
  rfl)
theorem ok_draws {f : Addr} {fd : FuncData} (D : Df K mg "_law_draws" s_law_draws ["script", "many"] f fd) (T : Txt K w mg cs) : FnOk P w K mg base CX0 1 f fd ["script", "many"] (spDraws K) := by
  refine D.fn.ok sc_law_draws (fun vs H Q E h => ?_) (fun cdv A outer s H vs Q E hr h => ?_)
  · obtain ⟨a, ns, many, rfl, _⟩ := h
    rfl
  · obtain ⟨a, ns, many, rfl, hS, hl, hm, q⟩ := h
    refine ⟨_, (pss_cons (ps_setLc (i := 2) (own := [("cell", 5)]) (g := gName 5) (tt := tYes) rfl sc_law_draws.nd rfl rfl (sw_true rfl rfl rfl (by decide +kernel)) (pi_list (pv 0)) (blkOk_by (own := [("cell", 5)]) (N := ["script", "many", "rests", "draws", "k", "cell", "at", "mixed"]) (sc := defScope s_law_draws) (by decide +kernel)) (fun _ _ _ _ _ => (pg_name (i := 5) sc_law_draws.nd rfl (.inl rfl))) (fun _ _ _ _ _ => pts_nil) (fun _ _ _ _ _ => (pe_callB call_abs (by rfl) T.n_abs (by decide +kernel) (pa_cons (pe_callTy call_int1 (by rfl) T.n_int (by decide +kernel) (pa_cons (pv 5) pa_nil)) pa_nil)))) (pss_cons (ps_set (i := 3) sc_law_draws.nd rfl (.inl rfl) (pe_lst pa_nil)) (pss_cons (ps_for PassesOwn.never rfl (pi_range1 (by rfl) T.n_range (pa_cons (pv 1) pa_nil)) (pg_name (i := 4) sc_law_draws.nd rfl (.inl rfl)) (pss_cons (ps_set (i := 5) sc_law_draws.nd rfl (.inl rfl) (pv 4)) (C8.pss_cut (ps_if (pt_cmpR op_gt (pe_callB (lenS K) (by rfl) T.n_len (by decide +kernel) (pa_cons (pv 0) pa_nil)) pe_int (nomark _)) (pss_cons (ps_set (i := 6) sc_law_draws.nd rfl (.inl rfl) (pe_op op_mod (pv 4) (pe_callB (lenS K) (by rfl) T.n_len (by decide +kernel) (pa_cons (pv 0) pa_nil)))) (pss_cons (ps_set (i := 5) sc_law_draws.nd rfl (.inl rfl) (pe_callTy call_int1 (by rfl) T.n_int (by decide +kernel) (pa_cons (pe_ix (ixL K) (pv 0) (pv 6) (fun _ _ => rfl)) pa_nil))) (pss_one (ps_if (PW.pt (pw_and (pt_cmpR op_ge (pv 5) (pe_op op_pow pe_int pe_int) (nomark _)) (pw_and1 (pt_cmpR op_gt (pe_ix (ixL K) (pv 2) (pv 6) (fun _ _ => rfl)) pe_int (nomark _))))) (pss_cons (ps_expr (pe_bm PySem.F.plainAttrs_list PySem.F.slot_list_append PySem.F.type_list_append mt_append (pv 3) (pa_cons (pe_op op_mod (pe_callTy call_int1 (by rfl) T.n_int (by decide +kernel) (pa_cons (pe_ix (ixL K) (pv 2) (pv 6) (fun _ _ => rfl)) pa_nil)) pe_int) pa_nil))) (pss_cons (ps_asg (pe_op op_fdiv (pe_callTy call_int1 (by rfl) T.n_int (by decide +kernel) (pa_cons (pe_ix (ixL K) (pv 2) (pv 6) (fun _ _ => rfl)) pa_nil)) pe_int) (pg_sub (pv 2) (pv 6) set_list)) (pss_one ps_continue))) pss_nil)))) pss_nil) (pss_cons (ps_set (i := 7) sc_law_draws.nd rfl (.inl rfl) (pe_op op_mod (pe_callTy call_int1 (by rfl) T.n_int (by decide +kernel) (pa_cons (pe_op op_add (pe_op op_add (pe_op op_mul (pv 5) pe_int) (pe_op op_mul (pv 4) pe_int)) pe_int) pa_nil)) pe_int)) (pss_cons (ps_set (i := 7) sc_law_draws.nd rfl (.inl rfl) (pe_op op_mod (pe_callTy call_int1 (by rfl) T.n_int (by decide +kernel) (pa_cons (pe_op op_add (pe_op op_fdiv (pe_op op_mul (pv 7) (pv 7)) pe_int) (pv 7)) pa_nil)) pe_int)) (pss_one (ps_expr (pe_bm PySem.F.plainAttrs_list PySem.F.slot_list_append PySem.F.type_list_append mt_append (pv 3) (pa_cons (pe_op op_mod (pe_callTy call_int1 (by rfl) T.n_int (by decide +kernel) (pa_cons (pe_op op_add (pe_op op_fdiv (pe_op op_mul (pv 7) (pv 7)) pe_int) (pe_op op_mul (pv 4) pe_int)) pa_nil)) pe_int) pa_nil))))))))) (pss_one (ps_ret (pv 3)))))), ?_⟩
    -- rests
    refine ⟨_, rfl, a, rfl, ⟨_, hS⟩, fun R hR => ?_⟩
    refine lc_list (xs := ns.map V.int) (fun i H' => ∃ rs : List Int, rs.length = i ∧ (∀ x ∈ rs, 0 ≤ x) ∧ Same H H' ∧ H' R = some (.lst (rs.map V.int))) ?_ ?_ ?_ ?_
    · exact ⟨[], rfl, fun x hx => (nomatch hx), same_new hR, upd_same⟩
    · rintro i H' _ ⟨rs, _, _, hs, _⟩
      exact hs.seq hS
    · rintro i x H' hx ⟨rs, hn, h0, hs, hr'⟩
      obtain ⟨z, hz⟩ : ∃ z, x = V.int z := by
        rw [List.getElem?_map] at hx
        cases e : ns[i]? with
        | none =>
          rw [e] at hx
          cases hx
        | some z =>
          rw [e] at hx
          exact ⟨z, (Option.some.inj hx).symm⟩
      subst hz
      have hi : i < ns.length := by
        have := (List.getElem?_eq_some_iff.mp hx).1
        rw [List.length_map] at this
        exact this
      refine ⟨rfl, ?_⟩
      refine ⟨_, rfl, .inl ⟨_, rfl, _, rfl, _, hr', ?_, ?_⟩⟩
      · rw [List.length_map]
        exact small1000 (by omega)
      · refine ⟨rs ++ [if z < 0 then -z else z], by rw [List.length_append, hn]; rfl, ?_, ?_, ?_⟩
        · intro y hy
          rcases List.mem_append.mp hy with hy | hy
          · exact h0 y hy
          · rw [List.mem_singleton.mp hy]
            split <;> omega
        · intro b o e
          rw [upd_ne (ne_of_none e hR)]
          exact hs b o e
        · rw [upd_same, List.map_append]
          rfl
    · rintro H1 ⟨rs, hn, h0, s1, e1⟩
      rw [List.length_map] at hn
      -- draws = []
      refine ⟨Nat.zero_le _, fun L hL => ?_⟩
      have nRL : R ≠ L := ne_of_none e1 hL
      have hL0 : H L = none := s1.free hL
      -- the loop
      refine ⟨_, rfl, _, rfl, by omega, by omega, for_range (lo := 0) (n := many) (fun i σ H' => ∃ (rs ds : List Int) (y4 y5 y6 y7 : Option V), σ = [some (.ref a), some (.int (many : Int)), some (.ref R), some (.ref L), y4, y5, y6, y7] ∧
        rs.length = ns.length ∧ (∀ x ∈ rs, 0 ≤ x) ∧ ds.length = i ∧ (∀ x ∈ ds, 0 ≤ x) ∧ Same H H' ∧ H' R = some (.lst (rs.map V.int)) ∧ H' L = some (.lst (ds.map V.int))) ?_ ?_ ?_⟩
      · refine ⟨rs, [], none, none, none, none, rfl, hn, h0, rfl, fun x hx => (nomatch hx), s1.trans (same_new hL), ?_, upd_same⟩
        rw [upd_ne nRL]
        exact e1
      · clear e1 hn h0 rs s1 hL
        rintro i σ H' hi ⟨rs, ds, y4, y5, y6, y7, rfl, hn, h0, hd, hd0, s1, e1, e2⟩
        have hSL : SqL K H' a (ns.map V.int) := s1.seq hS
        -- what the rest of the turn asks: a number is put behind the draws
        have put : ∀ (x : Int) (σ' : L2.St) (H2 : Hp) (rs' : List Int), 0 ≤ x → rs'.length = ns.length → (∀ x ∈ rs', 0 ≤ x) → Same H H2 → H2 R = some (.lst (rs'.map V.int)) → H2 L = some (.lst ((ds ++ [x]).map V.int)) →
            (∃ y4 y5 y6 y7 : Option V, σ' = [some (.ref a), some (.int (many : Int)), some (.ref R), some (.ref L), y4, y5, y6, y7]) →
            (fun (i : Nat) (σ : L2.St) (H' : Hp) => ∃ (rs ds : List Int) (y4 y5 y6 y7 : Option V), σ = [some (.ref a), some (.int (many : Int)), some (.ref R), some (.ref L), y4, y5, y6, y7] ∧
              rs.length = ns.length ∧ (∀ x ∈ rs, 0 ≤ x) ∧ ds.length = i ∧ (∀ x ∈ ds, 0 ≤ x) ∧ Same H H' ∧ H' R = some (.lst (rs.map V.int)) ∧ H' L = some (.lst (ds.map V.int))) (i + 1) σ' H2 := by
          rintro x σ' H2 rs' hx g1 g2 g3 g4 g5 ⟨z4, z5, z6, z7, rfl⟩
          refine ⟨rs', ds ++ [x], z4, z5, z6, z7, rfl, g1, g2, by rw [List.length_append, hd]; rfl, ?_, g3, g4, g5⟩
          intro y hy
          rcases List.mem_append.mp hy with hy | hy
          · exact hd0 y hy
          · rw [List.mem_singleton.mp hy]
            exact hx
        have app : ∀ (x : Int), upd H' L (.lst (ds.map V.int ++ [.int x])) R = some (.lst (rs.map V.int)) ∧ Same H (upd H' L (.lst (ds.map V.int ++ [.int x]))) ∧ upd H' L (.lst (ds.map V.int ++ [.int x])) L = some (.lst ((ds ++ [x]).map V.int)) := by
          intro x
          refine ⟨by rw [upd_ne nRL]; exact e1, fun b u e => ?_, ?_⟩
          · rw [upd_ne (ne_of_none e hL0)]
            exact s1 b u e
          · rw [upd_same, List.map_append]
            rfl
        have hsz : (ds.map V.int).length < sizeLine := by
          rw [List.length_map]
          exact Nat.lt_of_lt_of_le (show ds.length < 10000 by omega) (by decide)
        -- cell = k
        refine ⟨_, rfl, ?_⟩
        refine ⟨fun σ2 H2 => H2 = H' ∧ ∃ (c : Int) (y6 : Option V), σ2 = [some (.ref a), some (.int (many : Int)), some (.ref R), some (.ref L), some (.int (0 + (i : Int))), some (.int c), y6, y7], ?_, ?_⟩
        · -- if len(script) > 0
          refine ⟨_, rfl, a, _, rfl, .inl hSL, _, _, rfl, rfl, _, rfl, ite2 (fun c => ?_) (fun c => ?_)⟩
          · have hp : 0 < ns.length := by
              have c' : (0 : Int) < (((ns.map V.int).length : Nat) : Int) := of_decide_eq_true c
              rw [List.length_map] at c'
              omega
            -- at = k % len(script)
            refine ⟨_, rfl, _, rfl, a, _, rfl, .inl hSL, _, _, rfl, rfl, ?_, ?_⟩
            · rw [List.length_map]
              omega
            · obtain ⟨j, hj, hjl⟩ : ∃ j : Nat, (0 + (i : Int)) % (((ns.map V.int).length : Nat) : Int) = (j : Int) ∧ j < ns.length := by
                rw [List.length_map]
                have h1 := Int.emod_nonneg (0 + (i : Int)) (b := (ns.length : Int)) (by omega)
                have h2 := Int.emod_lt_of_pos (0 + (i : Int)) (b := (ns.length : Int)) (by omega)
                exact ⟨((0 + (i : Int)) % (ns.length : Int)).toNat, by omega, by omega⟩
              show gName 6 (V.int ((0 + (i : Int)) % (((ns.map V.int).length : Nat) : Int))) _ _ _
              rw [hj]
              have hx : (ns.map V.int)[j]? = some (.int ns[j]) := by
                rw [List.getElem?_map, List.getElem?_eq_getElem hjl]
                rfl
              have hjr : j < rs.length := by omega
              have hy : (rs.map V.int)[j]? = some (.int rs[j]) := by
                rw [List.getElem?_map, List.getElem?_eq_getElem hjr]
                rfl
              -- cell = int(script[at])
              refine ⟨_, rfl, _, rfl, a, _, (j : Int), _, rfl, rfl, hSL, atI_nat hx, .inl ⟨_, rfl, ?_⟩⟩
              -- if cell >= 10 ** 18 and rests[at] > 0
              refine ⟨_, rfl, _, _, rfl, rfl, ⟨by decide, by decide, by decide⟩, _, _, rfl, rfl, _, rfl, ite2 (fun c => ?_) (fun c => ?_)⟩
              · refine ⟨_, rfl, _, rfl, R, _, (j : Int), _, rfl, rfl, .inl (.inl e1), atI_nat hy, _, _, rfl, rfl, _, rfl, ite2 (fun c => ?_) (fun c => ?_)⟩
                · have hr0 : 0 ≤ rs[j] := h0 _ (List.getElem_mem hjr)
                  -- draws.append(int(rests[at]) % 1000003)
                  refine ⟨_, rfl, .inl ⟨rfl, _, .inl (.inl e2)⟩, _, rfl, _, rfl, R, _, (j : Int), _, rfl, rfl, .inl (.inl e1), atI_nat hy, .inl ⟨_, rfl, _, _, rfl, rfl, (by show (0 : Int) < 1000003; decide), L, _, _, rfl, rfl, e2, hsz, ?_⟩⟩
                  obtain ⟨p1, p2, p3⟩ := app (rs[j] % 1000003)
                  -- rests[at] = int(rests[at]) // 1000003
                  refine ⟨_, rfl, _, rfl, R, _, (j : Int), _, rfl, rfl, .inl (.inl p1), atI_nat hy, .inl ⟨_, rfl, _, _, rfl, rfl, ⟨by decide, by decide⟩, _, rfl, _, rfl, R, _, (j : Int), j, rfl, rfl, p1, ?_, ?_⟩⟩
                  · unfold ixN
                    rw [if_pos (by omega), if_pos (by rw [List.length_map]; omega)]
                    rfl
                  · refine put (rs[j] % 1000003) _ _ (rs.set j (rs[j] / 1000003)) (by omega) (by rw [List.length_set]; exact hn) ?_ ?_ ?_ ?_ ⟨_, _, _, _, rfl⟩
                    · intro y hy'
                      rcases List.mem_or_eq_of_mem_set hy' with z | z
                      · exact h0 y z
                      · rw [z]
                        omega
                    · intro b u e
                      rw [upd_ne (ne_of_none e hR)]
                      exact p2 b u e
                    · rw [upd_same, List.map_set]
                    · rw [upd_ne nRL.symm]
                      exact p3
                · exact ⟨rfl, _, _, rfl⟩
              · exact ⟨rfl, _, _, rfl⟩
          · exact ⟨rfl, _, _, rfl⟩
        · rintro σ2 H2 ⟨rfl, c, z6, rfl⟩
          -- mixed, twice
          refine ⟨_, rfl, _, _, rfl, rfl, .inr ⟨by decide, by decide⟩, _, rfl, _, _, rfl, rfl, .inr ⟨by decide, by decide⟩, _, _, rfl, rfl, _, _, rfl, rfl, .inl ⟨_, rfl, _, _, rfl, rfl, (by show (0 : Int) < 2147483647; decide), ?_⟩⟩
          refine ⟨_, rfl, _, rfl, _, _, rfl, rfl, .inl ⟨?_, ?_⟩, _, _, rfl, rfl, ⟨by decide, by decide⟩, _, rfl, _, _, rfl, rfl, .inl ⟨_, rfl, _, _, rfl, rfl, (by show (0 : Int) < 2147483629; decide), ?_⟩⟩
          · omega
          · omega
          -- draws.append
          refine ⟨_, rfl, .inl ⟨rfl, _, .inl (.inl e2)⟩, _, rfl, _, rfl, _, _, rfl, rfl, .inl ⟨?_, ?_⟩, _, _, rfl, rfl, ⟨by decide, by decide⟩, _, rfl, _, _, rfl, rfl, .inr ⟨by decide, by decide⟩, _, _, rfl, rfl, .inl ⟨_, rfl, _, _, rfl, rfl, (by show (0 : Int) < 2147483629; decide), L, _, _, rfl, rfl, e2, hsz, ?_⟩⟩
          · omega
          · omega
          refine put _ _ _ rs ?_ hn h0 (app _).2.1 (app _).1 (app _).2.2 ⟨_, _, _, _, rfl⟩
          exact Int.emod_nonneg _ (by decide)
      · rintro σ H2 ⟨rs, ds, y4, y5, y6, y7, rfl, hn, h0, hd, hd0, s2, e1, e2⟩
        exact ⟨_, rfl, q L ds H2 hL0 s2 e2 hd0⟩

theorem ok_take {f : Addr} {fd : FuncData} (D : Df K mg "_law_take" s_law_take ["hand", "many"] f fd) (T : Txt K w mg cs) : FnOk P w K mg base CX0 1 f fd ["hand", "many"] spTake := by
  refine D.fn.ok sc_law_take (fun vs H Q E h => ?_) (fun cdv A outer s H vs Q E hr h => ?_)
  · obtain ⟨a, d, many, rfl, _⟩ := h
    rfl
  · obtain ⟨a, d, many, rfl, hm, ⟨ds, i, h1, h2, h3, h4⟩, q⟩ := h
    refine ⟨_, (pss_cons (ps_set (i := 2) sc_law_take.nd rfl (.inl rfl) (pe_ix (ixL K) (pv 0) pe_int (fun _ _ => rfl))) (pss_cons (ps_asg (pe_op op_add (pv 2) pe_int) (pg_sub (pv 0) pe_int set_list)) (pss_cons (ps_set (i := 3) sc_law_take.nd rfl (.inl rfl) (pe_ix (ixL K) (pv 0) pe_int (fun _ _ => rfl))) (pss_cons (ps_if (pt_cmpR op_ge (pv 2) (pe_callB (lenS K) (by rfl) T.n_len (by decide +kernel) (pa_cons (pv 3) pa_nil)) (nomark _)) (pss_one (ps_ret pe_int)) pss_nil) (pss_one (ps_ret (pe_op op_mod (pe_op op_fdiv (pe_callTy call_int1 (by rfl) T.n_int (by decide +kernel) (pa_cons (pe_ix (ixL K) (pv 3) (pv 2) (fun _ _ => rfl)) pa_nil)) pe_int) (pv 1)))))))), ?_⟩
    have s1 : Same H H := Same.refl H
    -- at = hand[1]
    refine ⟨_, rfl, a, _, 1, .int (i : Int), rfl, rfl, .inl (.inl h1), rfl, ?_⟩
    -- hand[1] = at + 1
    refine ⟨_, rfl, _, _, rfl, rfl, _, rfl, a, _, 1, 1, rfl, rfl, h1, rfl, ?_⟩
    -- draws = hand[0]
    refine ⟨_, rfl, a, _, 0, .ref d, rfl, rfl, .inl (.inl upd_same), rfl, ?_⟩
    have hd : (upd H a (.lst [.ref d, .int ((i : Int) + 1)])) d = some (.lst (ds.map V.int)) := by
      rw [upd_ne h4]
      exact h2
    have hn : Hnd (upd H a (.lst [.ref d, .int ((i : Int) + 1)])) a d := ⟨ds, i + 1, upd_same, hd, h3, h4⟩
    have hk : Keep a H (upd H a (.lst [.ref d, .int ((i : Int) + 1)])) := fun b o e n => by
      rw [upd_ne n]
      exact e
    -- at >= len(draws)
    refine ⟨_, rfl, _, rfl, d, _, rfl, .inl (.inl (.inl hd)), _, _, rfl, rfl, _, rfl, ite2 (fun c => ?_) (fun c => ?_)⟩
    · exact q 0 _ (Int.le_refl 0) hm hn hk
    · have hi : i < ds.length := by
        have c' : ¬ (((ds.map V.int).length : Int) ≤ (i : Int)) := fun z => c (decide_eq_true z)
        rw [List.length_map] at c'
        omega
      have hx : (ds.map V.int)[i]? = some (.int ds[i]) := by
        rw [List.getElem?_map, List.getElem?_eq_getElem hi]
        rfl
      have h0 := h3 ds[i] (List.getElem_mem hi)
      refine ⟨_, rfl, _, rfl, d, _, (i : Int), .int ds[i], rfl, rfl, .inl (.inl hd), atI_nat hx, .inl ⟨_, rfl, ?_⟩⟩
      refine ⟨_, _, rfl, rfl, ⟨by decide, by decide⟩, _, rfl, _, _, rfl, rfl, hm, ?_⟩
      exact q _ _ (Int.emod_nonneg _ (by omega)) (Int.emod_lt_of_pos _ hm) hn hk

theorem join_bits (bs : List Bool) : Txt.join "" (bs.map fun b => sb [b]) = sb bs := by
  have e : bs.map (fun b => sb [b]) = (bs.map fun b => [cB b]).map SX.S := by
    rw [List.map_map]
    rfl
  have j : ∀ ps : List (List Nat), TL.joinL [] ps = ps.flatten := by
    intro ps
    induction ps with
    | nil => rfl
    | cons x r ih =>
      cases r with
      | nil => exact (List.append_nil x).symm
      | cons y r =>
        show x ++ ([] ++ TL.joinL [] (y :: r)) = x ++ (y :: r).flatten
        rw [ih, List.nil_append]
  rw [e]
  refine (SX.join_S [] _).trans ?_
  rw [j]
  unfold sb
  congr 1
  clear e j
  induction bs with
  | nil => rfl
  | cons b bs ih =>
    rw [List.map_cons, List.flatten_cons, ih]
    rfl
theorem ok_string {f : Addr} {fd : FuncData} (D : Df K mg "_law_string" s_law_string ["hand", "length"] f fd) (T : Txt K w mg cs) (c_law_take : Cl P w K mg base CX0 1 "_law_take" spTake) : FnOk P w K mg base CX0 2 f fd ["hand", "length"] spString := by
  refine D.fn.ok sc_law_string (fun vs H Q E h => ?_) (fun cdv A outer s H vs Q E hr h => ?_)
  · obtain ⟨a, d, n, rfl, _⟩ := h
    rfl
  · obtain ⟨a, d, n, rfl, hn, hh, q⟩ := h
    refine ⟨_, (pss_one (ps_ret (pe_m1 PySem.F.slot_str_join PySem.F.type_str_join (mtJoin K) pe_str (pe_lc (own := [("k", 2)]) (g := gName 2) (tt := tYes) rfl sc_law_string.nd (pi_range1 (by rfl) T.n_range (pa_cons (pv 1) pa_nil)) (blkOk_by (own := [("k", 2)]) (N := ["hand", "length", "k"]) (sc := defScope s_law_string) (by decide +kernel)) (fun _ _ _ _ _ => (pg_name (i := 2) sc_law_string.nd rfl (.inl rfl))) (fun _ _ _ _ _ => pts_nil) (fun _ _ _ _ _ => (pe_ix (ixL K) (pe_lst (pa_cons pe_str (pa_cons pe_str pa_nil))) (pe_cl c_law_take hr (by first | decide | omega) (by rfl) (pa_cons (pv 0) (pa_cons pe_int pa_nil))) (fun _ _ => rfl))))))), ?_⟩
    refine ⟨⟨_, rfl⟩, _, rfl, _, rfl, by omega, by omega, fun Dl hD => ?_⟩
    obtain ⟨nDa, nDd⟩ := hh.ne hD
    refine lc_range (lo := 0) (n := n) (fun i H' => ∃ bs : List Bool, bs.length = i ∧ Hnd H' a d ∧ Keep a H H' ∧ H' Dl = some (.lst (bs.map fun b => V.str (sb [b])))) ?_ ?_ ?_
    · exact ⟨[], rfl, hh.new hD, Keep.new hD, upd_same⟩
    · rintro i H' hi ⟨bs, hl, h1, h2, h3⟩
      refine ⟨rfl, ?_⟩
      -- the list ['0', '1'], then the draw
      refine ⟨by decide, fun p np => ?_⟩
      obtain ⟨npa, npd⟩ := h1.ne np
      refine ⟨_, rfl, a, d, 2, rfl, by decide, h1.new np, fun r H2 hr0 hr2 hh2 hk2 => ?_⟩
      have e2 : H2 Dl = some (.lst (bs.map fun b => V.str (sb [b]))) := hk2 _ _ (by rw [upd_ne (ne_of_none h3 np)]; exact h3) nDa
      have hb : ∃ b : Bool, atI [V.str "0", V.str "1"] r = some (V.str (sb [b])) := by
        have er : r = 0 ∨ r = 1 := by omega
        rcases er with e | e <;> subst e
        · exact ⟨false, rfl⟩
        · exact ⟨true, rfl⟩
      obtain ⟨b, hb⟩ := hb
      refine ⟨p, _, r, _, rfl, rfl, .inl (.inl (hk2 _ _ upd_same npa)), hb, _, e2, ?_, ?_⟩
      · rw [List.length_map]
        exact Nat.lt_of_lt_of_le (show bs.length < 10000 by omega) (by decide)
      · refine ⟨bs ++ [b], by rw [List.length_append, hl]; rfl, hh2.set nDa nDd, ((h2.trans (Keep.new np)).trans hk2).set hD, ?_⟩
        rw [upd_same, List.map_append]
        rfl
    · rintro H' ⟨bs, hl, h1, h2, h3⟩
      refine ⟨_, Dl, bs.map (fun b => sb [b]), rfl, rfl, .inl (.inl (.inl (by rw [List.map_map]; exact h3))), ?_, ?_⟩
      · have e : ((bs.map fun b => sb [b]).map (·.length)).sum = bs.length := by
          rw [List.map_map]
          clear h3 hl
          induction bs with
          | nil => rfl
          | cons b bs ih =>
            rw [List.map_cons, List.sum_cons, ih, List.length_cons]
            show 1 + _ = _
            omega
        rw [e]
        show _ + _ * 0 ≤ _
        omega
      · rw [join_bits]
        exact q bs H' hl h1 h2

theorem ok_table {f : Addr} {fd : FuncData} (D : Df K mg "_law_table" s_law_table ["hand", "n", "m"] f fd) (T : Txt K w mg cs) (c_law_string : Cl P w K mg base CX0 2 "_law_string" spString) : FnOk P w K mg base CX0 3 f fd ["hand", "n", "m"] (spTable K) := by
  refine D.fn.ok sc_law_table (fun vs H Q E h => ?_) (fun cdv A outer s H vs Q E hr h => ?_)
  · obtain ⟨a, d, n, m, rfl, _⟩ := h
    rfl
  · obtain ⟨a, d, n, m, rfl, hn, hm, hh, q⟩ := h
    refine ⟨_, (pss_cons (ps_setLc (i := 3) (own := [("k", 4)]) (g := gName 4) (tt := tYes) rfl sc_law_table.nd rfl rfl (sw_true rfl rfl rfl (by decide +kernel)) (pi_range1 (by rfl) T.n_range (pa_cons (pe_op op_shl pe_int (pv 1)) pa_nil)) (blkOk_by (own := [("k", 4)]) (N := ["hand", "n", "m", "rows", "k"]) (sc := defScope s_law_table) (by decide +kernel)) (fun _ _ _ _ _ => (pg_name (i := 4) sc_law_table.nd rfl (.inl rfl))) (fun _ _ _ _ _ => pts_nil) (fun _ _ _ _ _ => (pe_cl c_law_string hr (by first | decide | omega) (by rfl) (pa_cons (pv 0) (pa_cons (pv 2) pa_nil))))) (pss_one (ps_ret (pe_tup (pa_cons pe_str (pa_cons (pv 1) (pa_cons (pv 2) (pa_cons (pe_callTy (tupOf K) (by rfl) T.n_tuple (by decide +kernel) (pa_cons (pv 3) pa_nil)) pa_nil)))))))), ?_⟩
    have hp : 2 ^ n ≤ 256 := two_pow_le (b := 8) hn
    refine ⟨_, rfl, _, _, rfl, rfl, ⟨by omega, by omega, by decide⟩, _, rfl, ?_⟩
    rw [shl_one]
    generalize hN : 2 ^ n = N at hp ⊢
    refine ⟨by omega, by omega, fun Dl hD => ?_⟩
    obtain ⟨nDa, nDd⟩ := hh.ne hD
    refine lc_range (lo := 0) (n := _) (fun i H' => ∃ rows : List (List Bool), rows.length = i ∧ (∀ r ∈ rows, r.length = m) ∧ Hnd H' a d ∧ Keep a H H' ∧ H' Dl = some (.lst (rows.map fun r => V.str (sb r)))) ?_ ?_ ?_
    · exact ⟨[], rfl, fun r hr => (nomatch hr), hh.new hD, Keep.new hD, upd_same⟩
    · rintro i H' hi ⟨rows, hl, hr, h1, h2, h3⟩
      refine ⟨rfl, ?_⟩
      refine ⟨_, rfl, _, rfl, a, d, m, rfl, by omega, h1, fun bs H2 hb hh2 hk2 => ⟨_, hk2 _ _ h3 nDa, ?_, ?_⟩⟩
      · rw [List.length_map]
        exact Nat.lt_of_lt_of_le (show rows.length < 10000 by omega) (by decide)
      · refine ⟨rows ++ [bs], by rw [List.length_append, hl]; rfl, ?_, hh2.set nDa nDd, (h2.trans hk2).set hD, ?_⟩
        · intro r hr'
          rcases List.mem_append.mp hr' with z | z
          · exact hr r z
          · rw [List.mem_singleton.mp z]
            exact hb
        · rw [upd_same, List.map_append]
          rfl
    · rintro H' ⟨rows, hl, hr, h1, h2, h3⟩
      have hl2 : rows.length = 2 ^ n := by
        rw [hl, hN]
        omega
      refine ⟨_, rfl, _, rfl, _, rfl, Dl, _, rfl, .inl ⟨.inl (.inl h3), fun l hl' => ⟨(by show 4 ≤ sizeLine; decide), fun p np => ?_⟩⟩⟩
      have hl1 := h1.ne hl'
      have h1' := h1.new (o := .tup (rows.map fun r => V.str (sb r))) hl'
      have hp1 := h1'.ne np
      refine q _ rows _ hl2 hr ?_ (h1'.new np) ((h2.trans (Keep.new hl')).trans (Keep.new np))
      have e1 : off a (upd (upd H' l (.tup (rows.map fun r => V.str (sb r)))) p (.tup [.str "generator", .int (n : Int), .int (m : Int), .ref l])) p = some (.tup [.str "generator", .int (n : Int), .int (m : Int), .ref l]) := by
        rw [off_ne hp1.1, upd_same]
      have e2 : off a (upd (upd H' l (.tup (rows.map fun r => V.str (sb r)))) p (.tup [.str "generator", .int (n : Int), .int (m : Int), .ref l])) l = some (.tup (rows.map fun r => V.str (sb r))) := by
        rw [off_ne hl1.1, upd_ne (ne_of_none upd_same np), upd_same]
      exact .tup (.inl (.inl e1)) (.cons (.str _) (.cons (.int _) (.cons (.int _) (.cons (.tup (.inl (.inl e2)) (dp_bits rows)) .nil))))

theorem ok_lawparts {f : Addr} {fd : FuncData} (D : Df K mg "_law_parts" s_law_parts ["hand", "length"] f fd) (T : Txt K w mg cs) (c_law_take : Cl P w K mg base CX0 1 "_law_take" spTake) : FnOk P w K mg base CX0 2 f fd ["hand", "length"] (spParts8 K) := by
  refine D.fn.ok sc_law_parts (fun vs H Q E h => ?_) (fun cdv A outer s H vs Q E hr h => ?_)
  · obtain ⟨a, d, len, rfl, _⟩ := h
    rfl
  · obtain ⟨a, d, len, rfl, hlen, hh, q⟩ := h
    refine ⟨_, (pss_cons (ps_set (i := 2) sc_law_parts.nd rfl (.inl rfl) (pe_lst pa_nil)) (pss_cons (ps_for PassesOwn.never rfl (pi_range1 (by rfl) T.n_range (pa_cons (pv 1) pa_nil)) (pg_name (i := 3) sc_law_parts.nd rfl (.inl rfl)) (pss_cons (ps_set (i := 4) sc_law_parts.nd rfl (.inl rfl) (pe_cl c_law_take hr (by first | decide | omega) (by rfl) (pa_cons (pv 0) (pa_cons pe_int pa_nil)))) (pss_one (ps_if (pt_cmpR op_lt (pv 4) pe_int (nomark _)) (pss_one (ps_expr (pe_bm PySem.F.plainAttrs_list PySem.F.slot_list_append PySem.F.type_list_append mt_append (pv 2) (pa_cons (pe_ix (ixL K) (pe_lst (pa_cons pe_str (pa_cons pe_str pa_nil))) (pv 4) (fun _ _ => rfl)) pa_nil)))) (pss_one (ps_expr (pe_bm PySem.F.plainAttrs_list PySem.F.slot_list_append PySem.F.type_list_append mt_append (pv 2) (pa_cons (pe_cl c_law_take hr (by first | decide | omega) (by rfl) (pa_cons (pv 0) (pa_cons pe_int pa_nil))) pa_nil)))))))) (pss_one (ps_ret (pe_callTy (tupOf K) (by rfl) T.n_tuple (by decide +kernel) (pa_cons (pv 2) pa_nil)))))), ?_⟩
    refine ⟨Nat.zero_le _, fun L nL => ?_⟩
    have hL := hh.ne nL
    refine ⟨_, rfl, _, rfl, by omega, by omega, for_range (lo := 0) (n := len) (fun i σ H' => ∃ (ws : List V) (ds : List PyData) (y3 y4 : Option V), σ = [some (.ref a), some (.int (len : Int)), some (.ref L), y3, y4] ∧ ws.length = i ∧ DpAll K (fun _ => none) ws ds ∧
      (∀ x ∈ ds, partOk x = true ∧ Pl 0 x) ∧ H' L = some (.lst ws) ∧ Hnd H' a d ∧ Keep a H H') ?_ ?_ ?_⟩
    · exact ⟨[], [], none, none, rfl, rfl, .nil, fun x hx => (nomatch hx), upd_same, hh.new nL, Keep.new nL⟩
    · rintro i σ H' hi ⟨ws, ds, y3, y4, rfl, hl, hA, hx, eL, h1, k1⟩
      refine ⟨_, rfl, a, d, 5, rfl, by decide, h1, fun r H1 l1 u1 n1 kk1 => ?_⟩
      have eL1 := kk1 _ _ eL hL.1
      have hsz : ws.length < sizeLine := Nat.lt_of_lt_of_le (show ws.length < 10000 by omega) (by decide)
      refine ⟨_, rfl, _, _, rfl, rfl, _, rfl, ite2 (fun c => ?_) (fun c => ?_)⟩
      · have hr2 : r < 2 := of_decide_eq_true c
        refine ⟨_, rfl, .inl ⟨rfl, _, .inl (.inl eL1)⟩, ?_⟩
        refine ⟨by decide, fun p np => ?_⟩
        have npL : p ≠ L := (ne_of_none eL1 np).symm
        obtain ⟨z, hz, hzp⟩ : ∃ z : Str, atI [V.str "0", V.str "1"] r = some (V.str z) ∧ (z = "0" ∨ z = "1") := by
          have er : r = 0 ∨ r = 1 := by omega
          rcases er with e | e <;> subst e
          · exact ⟨"0", rfl, .inl rfl⟩
          · exact ⟨"1", rfl, .inr rfl⟩
        refine ⟨_, rfl, p, _, r, .str z, rfl, rfl, .inl (.inl upd_same), hz, L, _, _, rfl, rfl, by rw [upd_ne npL.symm]; exact eL1, hsz, ?_⟩
        refine ⟨ws ++ [.str z], ds ++ [.str z], _, _, rfl, by rw [List.length_append, hl]; rfl, dpAll_snoc hA (.str z), ?_, upd_same, (n1.new np).set hL.1 hL.2, ((k1.trans kk1).trans (Keep.new np)).set nL⟩
        intro x hx'
        rcases List.mem_append.mp hx' with h | h
        · exact hx x h
        · rw [List.mem_singleton.mp h]
          rcases hzp with rfl | rfl <;> exact ⟨by decide, by decide +kernel, by decide +kernel⟩
      · refine ⟨_, rfl, .inl ⟨rfl, _, .inl (.inl eL1)⟩, _, rfl, a, d, 9, rfl, by decide, n1, fun r2 H2 l2 u2 n2 kk2 => ⟨L, _, _, rfl, rfl, kk2 _ _ eL1 hL.1, hsz, ?_⟩⟩
        refine ⟨ws ++ [.int r2], ds ++ [.int r2], _, _, rfl, by rw [List.length_append, hl]; rfl, dpAll_snoc hA (.int r2), ?_, upd_same, n2.set hL.1 hL.2, ((k1.trans kk1).trans kk2).set nL⟩
        intro x hx'
        rcases List.mem_append.mp hx' with h | h
        · exact hx x h
        · rw [List.mem_singleton.mp h]
          refine ⟨?_, trivial⟩
          show (decide (0 ≤ r2) && decide (r2 ≤ 9999)) = true
          rw [decide_eq_true l2, decide_eq_true (by omega)]
          rfl
    · rintro σ H' ⟨ws, ds, y3, y4, rfl, hl, hA, hx, eL, h1, k1⟩
      refine ⟨_, rfl, L, _, rfl, .inl ⟨.inl (.inl eL), fun p np => ?_⟩⟩
      have hpa := (h1.ne np).1
      have hdl := dp_all_len hA
      exact q p (ws, ds) _ hA upd_same hpa hx (by show ds.length ≤ 100; omega) (h1.new np) (k1.trans (Keep.new np))
theorem br_say {a d p t : Addr} {H : Hp} {j : Nat} {ws : List V} {ds : List PyData} (pa : p ≠ a) (ta : t ≠ a) (ep : H p = some (.tup [.str "say", .ref t])) (et : H t = some (.tup ws)) (hA : DpAll K (fun _ => none) ws ds) (hx : ∀ x ∈ ds, partOk x = true ∧ Pl 0 x) (hl : ds.length ≤ 100) : PB K a H (j + 1) (.ref p) := by
  have h := ok_say (j := j) (parts_all hx)
  refine ⟨_, dp_new pa ep (.cons (.str _) (.cons (dp_new ta et (dps_none hA)) .nil)), ⟨(by show 2 ≤ 5000; decide), fun x hx' => ?_⟩, h.1, ?_⟩
  · rcases List.mem_cons.mp hx' with e | hx'
    · rw [e]
      exact pl_word
    · rw [List.mem_singleton.mp hx']
      exact pl_parts hx hl
  · rw [h.2]
    show 1 ≤ 1 + 3 * bsz j
    omega
theorem br_step {f : Addr} {fd : FuncData} (D : Df K mg "_law_breaker" s_law_breaker ["hand", "depth", "asks", "length", "said"] f fd) (T : Txt K w mg cs) (j : Nat) (c_law_take : Cl P w K mg base CX0 1 "_law_take" spTake) (c_law_parts : Cl P w K mg base CX0 2 "_law_parts" (spParts8 K))
    (c_law_breaker : Cl P w K mg base CX0 (j + 2) "_law_breaker" (spBrB K j)) : FnOk P w K mg base CX0 (j + 3) f fd ["hand", "depth", "asks", "length", "said"] (spBr K j) := by
  refine D.fn.ok sc_law_breaker (fun vs H Q E h => ?_) (fun cdv A outer s H vs Q E hr h => ?_)
  · obtain ⟨a, d, dep, asks, len, said, rfl, _⟩ := h
    rfl
  · obtain ⟨a, d, dep, asks, len, said, rfl, hdep, hlen, hsaid, hh, q⟩ := h
    refine ⟨_, (pss_cons (ps_set (i := 5) sc_law_breaker.nd rfl (.inl rfl) (pe_cl c_law_take hr (by first | decide | omega) (by rfl) (pa_cons (pv 0) (pa_cons pe_int pa_nil)))) (pss_cons (ps_if (PW.pt (pw_or (pt_cmpR op_eq (pv 1) pe_int (nomark _)) (pw_or1 (pt_cmpR op_eq (pv 5) pe_int (nomark _))))) (pss_cons (ps_set (i := 6) sc_law_breaker.nd rfl (.inl rfl) (pv 4)) (C8.pss_cut (ps_if (pt_cmpR op_eq (pe_cl c_law_take hr (by first | decide | omega) (by rfl) (pa_cons (pv 0) (pa_cons pe_int pa_nil))) pe_int (nomark _)) (pss_one (ps_set (i := 6) sc_law_breaker.nd rfl (.inl rfl) (pe_cl c_law_take hr (by first | decide | omega) (by rfl) (pa_cons (pv 0) (pa_cons pe_int pa_nil))))) pss_nil) (pss_one (ps_ret (pe_tup (pa_cons pe_str (pa_cons (pe_cl c_law_parts hr (by first | decide | omega) (by rfl) (pa_cons (pv 0) (pa_cons (pv 6) pa_nil))) pa_nil))))))) pss_nil) (pss_cons (ps_if (PW.pt (pw_or (pt_cmpR op_lt (pv 5) pe_int (nomark _)) (pw_or1 (PW.pt (pw_and (pt_cmpR op_eq (pv 5) pe_int (nomark _)) (pw_and1 (pt_cmpR op_eq (pv 2) pe_int (nomark _)))))))) (pss_cons (ps_set (i := 7) sc_law_breaker.nd rfl (.inl rfl) (pe_cl c_law_breaker hr (by first | decide | omega) (by rfl) (pa_cons (pv 0) (pa_cons (pe_op op_sub (pv 1) pe_int) (pa_cons (pv 2) (pa_cons (pv 3) (pa_cons (pv 4) pa_nil))))))) (pss_one (ps_ret (pe_tup (pa_cons pe_str (pa_cons (pe_cl c_law_take hr (by first | decide | omega) (by rfl) (pa_cons (pv 0) (pa_cons pe_int pa_nil))) (pa_cons (pv 7) (pa_cons (pe_cl c_law_breaker hr (by first | decide | omega) (by rfl) (pa_cons (pv 0) (pa_cons (pe_op op_sub (pv 1) pe_int) (pa_cons (pv 2) (pa_cons (pv 3) (pa_cons (pv 4) pa_nil)))))) pa_nil)))))))) pss_nil) (pss_cons (ps_if (pt_cmpR op_eq (pv 5) pe_int (nomark _)) (pss_cons (ps_set (i := 8) sc_law_breaker.nd rfl (.inl rfl) (pe_op op_add pe_int (pe_cl c_law_take hr (by first | decide | omega) (by rfl) (pa_cons (pv 0) (pa_cons pe_int pa_nil))))) (pss_one (ps_ret (pe_tup (pa_cons pe_str (pa_cons (pe_callTy (tupOf K) (by rfl) T.n_tuple (by decide +kernel) (pa_cons (pe_lc (own := [("k", 9)]) (g := gName 9) (tt := tYes) rfl sc_law_breaker.nd (pi_range1 (by rfl) T.n_range (pa_cons (pv 8) pa_nil)) (blkOk_by (own := [("k", 9)]) (N := ["hand", "depth", "asks", "length", "said", "kind", "size", "first", "many", "k"]) (sc := defScope s_law_breaker) (by decide +kernel)) (fun _ _ _ _ _ => (pg_name (i := 9) sc_law_breaker.nd rfl (.inl rfl))) (fun _ _ _ _ _ => pts_nil) (fun _ _ _ _ _ => (pe_cl c_law_breaker hr (by first | decide | omega) (by rfl) (pa_cons (pv 0) (pa_cons (pe_op op_sub (pv 1) pe_int) (pa_cons (pv 2) (pa_cons (pv 3) (pa_cons (pv 4) pa_nil)))))))) pa_nil)) pa_nil)))))) pss_nil) (pss_cons (ps_if (pt_cmpR op_eq (pv 2) pe_int (nomark _)) (pss_one (ps_ret (pe_tup (pa_cons pe_str (pa_cons (pe_cl c_law_parts hr (by first | decide | omega) (by rfl) (pa_cons (pv 0) (pa_cons (pv 4) pa_nil))) pa_nil))))) pss_nil) (pss_cons (ps_set (i := 6) sc_law_breaker.nd rfl (.inl rfl) (pv 3)) (C8.pss_cut (ps_if (pt_cmpR op_eq (pe_cl c_law_take hr (by first | decide | omega) (by rfl) (pa_cons (pv 0) (pa_cons pe_int pa_nil))) pe_int (nomark _)) (pss_one (ps_set (i := 6) sc_law_breaker.nd rfl (.inl rfl) (pe_cl c_law_take hr (by first | decide | omega) (by rfl) (pa_cons (pv 0) (pa_cons pe_int pa_nil))))) pss_nil) (pss_one (ps_ret (pe_tup (pa_cons pe_str (pa_cons (pe_cl c_law_parts hr (by first | decide | omega) (by rfl) (pa_cons (pv 0) (pa_cons (pv 6) pa_nil))) (pa_cons (pe_cl c_law_breaker hr (by first | decide | omega) (by rfl) (pa_cons (pv 0) (pa_cons (pe_op op_sub (pv 1) pe_int) (pa_cons (pe_op op_sub (pv 2) pe_int) (pa_cons (pv 3) (pa_cons (pv 4) pa_nil)))))) pa_nil))))))))))))), ?_⟩
    refine ⟨_, rfl, a, d, 6, rfl, by decide, hh, fun kind H1 l1 u1 n1 k1 => ?_⟩
    -- a say of so many parts
    have say : ∀ (H2 : Hp) (p : Addr) (dd : List V × List PyData) (H3 : Hp), Keep a H H2 → DpAll K (fun _ => none) dd.1 dd.2 → H3 p = some (.tup dd.1) → p ≠ a → (∀ x ∈ dd.2, partOk x = true ∧ Pl 0 x) → dd.2.length ≤ 100 → Hnd H3 a d → Keep a H2 H3 →
        ∀ p', H3 p' = none → Q (.ref p') (upd H3 p' (.tup [.str "say", .ref p])) := by
      intro H2 p dd H3 k2 hA ep pa hx hl n3 k3 p' np
      have hp' := (n3.ne np).1
      refine q _ _ (br_say (d := d) (t := p) hp' pa upd_same (by rw [upd_ne (ne_of_none ep np)]; exact ep) hA hx hl) (n3.new np) ((k2.trans k3).trans (Keep.new np))
    refine ⟨_, rfl, rfl, _, rfl, ?_⟩
    refine dite (dep = 0) (fun hd0 => ?a1) (fun hd0 => ?b1)
    case' a1 => rw [decide_eq_true (show V.int (dep : Int) = V.int 0 by rw [hd0]; rfl)]
    case' b1 =>
      rw [decide_eq_false (show ¬ V.int (dep : Int) = V.int 0 from fun z => hd0 (by have := V.int.inj z; omega))]
      refine ⟨_, rfl, rfl, _, rfl, ?_⟩
      refine dite (kind = 0) (fun hk0 => ?a2) (fun hk0 => ?b2)
    case' a2 => rw [decide_eq_true (congrArg V.int hk0)]
    case b2 =>
      rw [decide_eq_false (fun z => hk0 (V.int.inj z))]
      obtain ⟨jj, rfl⟩ : ∃ jj, dep = jj + 1 := ⟨dep - 1, by omega⟩
      have rec1 : ((jj + 1 : Nat) : Int) - 1 = (jj : Int) := by omega
      refine ⟨_, rfl, _, _, rfl, rfl, _, rfl, ?_⟩
      refine dite (kind < 3) (fun h3 => ?l1) (fun h3 => ?c1)
      case' l1 => rw [decide_eq_true h3]
      case' c1 =>
        rw [decide_eq_false h3]
        refine ⟨_, rfl, rfl, _, rfl, ?_⟩
        refine dite (kind = 5) (fun h5 => ?c2) (fun h5 => ?r1)
      case' c2 =>
        rw [decide_eq_true (congrArg V.int h5)]
        refine ⟨_, rfl, rfl, _, rfl, ?_⟩
        refine dite (asks = 0) (fun ha0 => ?l2) (fun ha0 => ?r2)
      case' l2 => rw [decide_eq_true (show V.int (asks : Int) = V.int 0 by rw [ha0]; rfl)]
      case' r2 => rw [decide_eq_false (show ¬ V.int (asks : Int) = V.int 0 from fun z => ha0 (by have := V.int.inj z; omega))]
      case' r1 => rw [decide_eq_false (fun z => h5 (V.int.inj z))]
      -- look
      case l1 =>
        refine ⟨_, rfl, _, rfl, _, _, rfl, rfl, _, rfl, _, rfl, _, rfl, by omega, a, d, jj, asks, len, said, ?_, by omega, hlen, hsaid, n1, fun v1 H2 p1 n2 k2 => ?_⟩
        · show [V.ref a, V.int (((jj + 1 : Nat) : Int) - 1), _, _, _] = _
          rw [rec1]
        refine ⟨_, rfl, a, d, 9, rfl, by decide, n2, fun r H3 l3 u3 n3 k3 => ⟨_, rfl, _, rfl, _, rfl, _, _, rfl, rfl, _, rfl, _, rfl, _, rfl, by omega, a, d, jj, asks, len, said, ?_, by omega, hlen, hsaid, n3, fun v2 H4 p2 n4 k4 => ?_⟩⟩
        · show [V.ref a, V.int (((jj + 1 : Nat) : Int) - 1), _, _, _] = _
          rw [rec1]
        refine ⟨(by show 4 ≤ sizeLine; decide), fun p np => ?_⟩
        have pa := (n4.ne np).1
        have g1 := (p1.keep (k3.trans k4)).keep (Keep.new (o := .tup [.str "look", .int r, v1, v2]) np)
        have g2 := p2.keep (Keep.new (o := .tup [.str "look", .int r, v1, v2]) np)
        refine q _ _ ?_ (n4.new np) ((((k1.trans k2).trans k3).trans k4).trans (Keep.new np))
        obtain ⟨D1, a1, b1, c1, e1⟩ := g1
        obtain ⟨D2, a2, b2, c2, e2⟩ := g2
        have hk := ok_look (i := r) (by omega) (by omega) c1 c2
        refine ⟨_, dp_new pa upd_same (.cons (.str _) (.cons (.int _) (.cons a1 (.cons a2 .nil)))), ⟨(by show 4 ≤ 5000; decide), fun x hx => ?_⟩, hk.1, ?_⟩
        · rcases List.mem_cons.mp hx with e | hx
          · exact e ▸ pl_word
          rcases List.mem_cons.mp hx with e | hx
          · exact e ▸ pl_int
          rcases List.mem_cons.mp hx with e | hx
          · exact e ▸ pl_le b1 (by show 3 * (jj + 1) ≤ 3 * (jj + 1) + 2; omega)
          · rw [List.mem_singleton.mp hx]
            exact pl_le b2 (by show 3 * (jj + 1) ≤ 3 * (jj + 1) + 2; omega)
        · rw [hk.2]
          show _ ≤ 1 + 3 * bsz (jj + 1)
          omega
      case l2 =>
        refine ⟨_, rfl, _, rfl, _, _, rfl, rfl, _, rfl, _, rfl, _, rfl, by omega, a, d, jj, asks, len, said, ?_, by omega, hlen, hsaid, n1, fun v1 H2 p1 n2 k2 => ?_⟩
        · show [V.ref a, V.int (((jj + 1 : Nat) : Int) - 1), _, _, _] = _
          rw [rec1]
        refine ⟨_, rfl, a, d, 9, rfl, by decide, n2, fun r H3 l3 u3 n3 k3 => ⟨_, rfl, _, rfl, _, rfl, _, _, rfl, rfl, _, rfl, _, rfl, _, rfl, by omega, a, d, jj, asks, len, said, ?_, by omega, hlen, hsaid, n3, fun v2 H4 p2 n4 k4 => ?_⟩⟩
        · show [V.ref a, V.int (((jj + 1 : Nat) : Int) - 1), _, _, _] = _
          rw [rec1]
        refine ⟨(by show 4 ≤ sizeLine; decide), fun p np => ?_⟩
        have pa := (n4.ne np).1
        have g1 := (p1.keep (k3.trans k4)).keep (Keep.new (o := .tup [.str "look", .int r, v1, v2]) np)
        have g2 := p2.keep (Keep.new (o := .tup [.str "look", .int r, v1, v2]) np)
        refine q _ _ ?_ (n4.new np) ((((k1.trans k2).trans k3).trans k4).trans (Keep.new np))
        obtain ⟨D1, a1, b1, c1, e1⟩ := g1
        obtain ⟨D2, a2, b2, c2, e2⟩ := g2
        have hk := ok_look (i := r) (by omega) (by omega) c1 c2
        refine ⟨_, dp_new pa upd_same (.cons (.str _) (.cons (.int _) (.cons a1 (.cons a2 .nil)))), ⟨(by show 4 ≤ 5000; decide), fun x hx => ?_⟩, hk.1, ?_⟩
        · rcases List.mem_cons.mp hx with e | hx
          · exact e ▸ pl_word
          rcases List.mem_cons.mp hx with e | hx
          · exact e ▸ pl_int
          rcases List.mem_cons.mp hx with e | hx
          · exact e ▸ pl_le b1 (by show 3 * (jj + 1) ≤ 3 * (jj + 1) + 2; omega)
          · rw [List.mem_singleton.mp hx]
            exact pl_le b2 (by show 3 * (jj + 1) ≤ 3 * (jj + 1) + 2; omega)
        · rw [hk.2]
          show _ ≤ 1 + 3 * bsz (jj + 1)
          omega
      -- the rest
      all_goals
        refine ⟨_, rfl, rfl, _, rfl, ?_⟩
        by_cases hk3 : kind = 3
        · rw [decide_eq_true (congrArg V.int hk3)]
          refine ⟨_, rfl, a, d, 3, rfl, by decide, n1, fun r H2 l2 u2 n2 k2 => ⟨_, _, rfl, rfl, ?_⟩⟩
          obtain ⟨many, em, m1, m2⟩ : ∃ n : Nat, (1 : Int) + r = (n : Int) ∧ 1 ≤ n ∧ n ≤ 3 := ⟨(1 + r).toNat, by omega, by omega, by omega⟩
          show gName 8 (V.int (1 + r)) _ _ _
          rw [em]
          refine ⟨_, rfl, _, rfl, by omega, by omega, fun Dl hD => ?_⟩
          obtain ⟨nDa, nDd⟩ := n2.ne hD
          have k12 := k1.trans k2
          have hDo := k12.free hD nDa
          refine lc_range (lo := 0) (n := many) (fun i H' => ∃ ws : List V, ws.length = i ∧ (∀ v ∈ ws, PG K (off Dl (off a H')) (jj + 1) v) ∧ Hnd H' a d ∧ Keep a H H' ∧ H' Dl = some (.lst ws)) ?_ ?_ ?_
          · exact ⟨[], rfl, fun v hv => (nomatch hv), n2.new hD, k12.trans (Keep.new hD), upd_same⟩
          · rintro i H' hi ⟨ws, hl, hw, g1, g2, g3⟩
            refine ⟨rfl, ?_⟩
            refine ⟨_, rfl, _, rfl, _, _, rfl, rfl, _, rfl, _, rfl, _, rfl, by omega, a, d, jj, asks, len, said, ?_, by omega, hlen, hsaid, g1, fun v1 H3 p1 n3 k3 => ⟨_, k3 _ _ g3 nDa, ?_, ?_⟩⟩
            · show [V.ref a, V.int (((jj + 1 : Nat) : Int) - 1), _, _, _] = _
              rw [rec1]
            · exact Nat.lt_of_lt_of_le (show ws.length < 10000 by omega) (by decide)
            · refine ⟨ws ++ [v1], by rw [List.length_append, hl]; rfl, fun x hx => ?_, n3.set nDa nDd, (g2.trans k3).set hDo, upd_same⟩
              rw [off_upd]
              rcases List.mem_append.mp hx with h | h
              · exact (hw x h).same (off_mono k3.off)
              · rw [List.mem_singleton.mp h]
                refine PG.offL (ys := ws) p1 ?_
                rw [off_ne nDa]
                exact k3 _ _ g3 nDa
          · rintro H' ⟨ws, hl, hw, g1, g2, g3⟩
            refine ⟨Dl, _, rfl, .inl ⟨.inl (.inl g3), fun t nt => ⟨(by show 2 ≤ sizeLine; decide), fun p np => ?_⟩⟩⟩
            have h1' := g1.new (o := .tup ws) nt
            have ta := (g1.ne nt).1
            have pa := (h1'.ne np).1
            have kk : Keep a H' (upd (upd H' t (.tup ws)) p (.tup [.str "toss", .ref t])) := (Keep.new nt).trans (Keep.new np)
            refine q _ _ ?_ (h1'.new np) (g2.trans kk)
            obtain ⟨ds, hA, hx⟩ := pg_all fun v hv => (hw v hv).same fun b o e => kk.off b o (off_same Dl _ b o e)
            have hwl := dp_all_len hA
            have hlen2 : ws.length = many := hl
            have hk := ok_toss (j := jj + 1) (xs := ds) (by omega) (by omega) (fun x h => (hx x h).2.1)
            have et : upd (upd H' t (.tup ws)) p (.tup [.str "toss", .ref t]) t = some (.tup ws) := by
              rw [upd_ne (ne_of_none upd_same np)]
              exact upd_same
            refine ⟨_, dp_new pa upd_same (.cons (.str _) (.cons (dp_new ta et hA) .nil)), ⟨(by show 2 ≤ 5000; decide), fun x hx' => ?_⟩, hk.1, ?_⟩
            · rcases List.mem_cons.mp hx' with e | hx'
              · exact e ▸ pl_word
              · rw [List.mem_singleton.mp hx']
                exact ⟨by omega, fun y hy => pl_le (hx y hy).1 (by show 3 * (jj + 1) ≤ 3 * (jj + 1) + 1; omega)⟩
            · rw [hk.2]
              have := sum_le (f := szN (jj + 1)) (m := bsz (jj + 1)) fun x h => (hx x h).2.2
              have h3 : ds.length * bsz (jj + 1) ≤ 3 * bsz (jj + 1) := Nat.mul_le_mul_right _ (by omega)
              show _ ≤ 1 + 3 * bsz (jj + 1)
              omega
        · rw [decide_eq_false (fun z => hk3 (V.int.inj z))]
          refine ⟨_, rfl, rfl, _, rfl, ?_⟩
          by_cases ha : asks = 0
          · rw [decide_eq_true (show V.int (asks : Int) = V.int 0 by rw [ha]; rfl)]
            exact ⟨_, rfl, _, rfl, a, d, said, rfl, by omega, n1, fun p ds H3 hA ep pa hx hl n3 k3 => ⟨(by show 2 ≤ sizeLine; decide), fun p' np => say H1 p ds H3 k1 hA ep pa hx hl n3 k3 p' np⟩⟩
          · rw [decide_eq_false (show ¬ V.int (asks : Int) = V.int 0 from fun z => ha (by have := V.int.inj z; omega))]
            refine ⟨_, rfl, ?_⟩
            refine ⟨fun σ2 H2 => ∃ sz : Nat, σ2 = [some (.ref a), some (.int ((jj + 1 : Nat) : Int)), some (.int (asks : Int)), some (.int (len : Int)), some (.int (said : Int)), some (.int kind), some (.int (sz : Int)), none, none, none] ∧ sz ≤ 90 ∧ Hnd H2 a d ∧ Keep a H H2, ?_, ?_⟩
            · refine ⟨_, rfl, a, d, 9, rfl, by decide, n1, fun r H2 l2 u2 n2 k2 => ⟨rfl, _, rfl, ?_⟩⟩
              by_cases c : r = 0
              · rw [decide_eq_true (congrArg V.int c)]
                refine ⟨_, rfl, a, d, 4, rfl, by decide, n2, fun r2 H3 l3 u3 n3 k3 => ⟨r2.toNat, ?_, by omega, n3, (k1.trans k2).trans k3⟩⟩
                have e : r2 = ((r2.toNat : Nat) : Int) := by omega
                show [_, _, _, _, _, _, some (V.int r2), _, _, _] = _
                rw [← e]
              · rw [decide_eq_false (fun z => c (V.int.inj z))]
                exact ⟨len, rfl, hlen, n2, k1.trans k2⟩
            · rintro σ2 H2 ⟨sz, rfl, hsz, n2, k2⟩
              refine ⟨_, rfl, _, rfl, a, d, sz, rfl, by omega, n2, fun p ds H3 hA ep pa hx hl n3 k3 => ?_⟩
              obtain ⟨as', ea⟩ : ∃ k, asks = k + 1 := ⟨asks - 1, by omega⟩
              subst ea
              refine ⟨_, rfl, _, rfl, _, _, rfl, rfl, _, rfl, _, _, rfl, rfl, _, rfl, _, rfl, by omega, a, d, jj, as', len, said, ?_, by omega, hlen, hsaid, n3, fun v1 H4 p1 n4 k4 => ?_⟩
              · show [V.ref a, V.int (((jj + 1 : Nat) : Int) - 1), V.int (((as' + 1 : Nat) : Int) - 1), _, _] = _
                rw [rec1, show ((as' + 1 : Nat) : Int) - 1 = (as' : Int) by omega]
              refine ⟨(by show 3 ≤ sizeLine; decide), fun p' np => ?_⟩
              have pa' := (n4.ne np).1
              have ep4 := k4 _ _ ep pa
              obtain ⟨D1, a1, b1, c1, e1⟩ := p1.keep (Keep.new (o := .tup [.str "ask", .ref p, v1]) np)
              have hk := ok_askD (j := jj + 1) (parts_all hx) c1
              refine q _ _ ?_ (n4.new np) (((k2.trans k3).trans k4).trans (Keep.new np))
              refine ⟨_, dp_new pa' upd_same (.cons (.str _) (.cons (dp_new pa (by rw [upd_ne (ne_of_none ep4 np)]; exact ep4) (dps_none hA)) (.cons a1 .nil))), ⟨(by show 3 ≤ 5000; decide), fun x hx' => ?_⟩, hk.1, ?_⟩
              · rcases List.mem_cons.mp hx' with e | hx'
                · exact e ▸ pl_word
                rcases List.mem_cons.mp hx' with e | hx'
                · exact e ▸ pl_parts hx hl
                · rw [List.mem_singleton.mp hx']
                  exact pl_le b1 (by show 3 * (jj + 1) ≤ 3 * (jj + 1) + 2; omega)
              · rw [hk.2]
                show _ ≤ 1 + 3 * bsz (jj + 1)
                omega
    -- say
    all_goals
      refine ⟨_, rfl, ?_⟩
      refine ⟨fun σ2 H2 => ∃ sz : Nat, σ2 = [some (.ref a), some (.int (dep : Int)), some (.int (asks : Int)), some (.int (len : Int)), some (.int (said : Int)), some (.int kind), some (.int (sz : Int)), none, none, none] ∧ sz ≤ 90 ∧ Hnd H2 a d ∧ Keep a H H2, ?_, ?_⟩
      · refine ⟨_, rfl, a, d, 9, rfl, by decide, n1, fun r H2 l2 u2 n2 k2 => ⟨rfl, _, rfl, ?_⟩⟩
        by_cases c : r = 0
        · rw [decide_eq_true (congrArg V.int c)]
          refine ⟨_, rfl, a, d, 4, rfl, by decide, n2, fun r2 H3 l3 u3 n3 k3 => ⟨r2.toNat, ?_, by omega, n3, (k1.trans k2).trans k3⟩⟩
          have e : r2 = ((r2.toNat : Nat) : Int) := by omega
          show [_, _, _, _, _, _, some (V.int r2), _, _, _] = _
          rw [← e]
        · rw [decide_eq_false (fun z => c (V.int.inj z))]
          exact ⟨said, rfl, hsaid, n2, k1.trans k2⟩
      · rintro σ2 H2 ⟨sz, rfl, hsz, n2, k2⟩
        exact ⟨_, rfl, _, rfl, a, d, sz, rfl, by omega, n2, fun p ds H3 hA ep pa hx hl n3 k3 => ⟨(by show 2 ≤ sizeLine; decide), fun p' np => say H2 p ds H3 k2 hA ep pa hx hl n3 k3 p' np⟩⟩
theorem no_br {f : Addr} {fd : FuncData} (k : Nat) : FnOk P w K mg base CX0 k f fd ["hand", "depth", "asks", "length", "said"] (spBrB K 0) :=
  ⟨fun _ _ _ _ h => absurd h.1 (by decide), fun _ _ _ _ _ _ _ _ _ _ _ _ _ h => absurd h.1 (by decide)⟩
theorem ok_br {f : Addr} {fd : FuncData} (D : Df K mg "_law_breaker" s_law_breaker ["hand", "depth", "asks", "length", "said"] f fd) (T : Txt K w mg cs) (c_law_take : Cl P w K mg base CX0 1 "_law_take" spTake) (c_law_parts : Cl P w K mg base CX0 2 "_law_parts" (spParts8 K)) :
    ∀ j : Nat, FnOk P w K mg base CX0 (j + 3) f fd ["hand", "depth", "asks", "length", "said"] (spBr K j)
  | 0 => br_step D T 0 c_law_take c_law_parts (D.cl (no_br _))
  | j + 1 => br_step D T (j + 1) c_law_take c_law_parts (D.cl ((ok_br D T c_law_take c_law_parts j).imp fun _ _ _ _ h => h.2))

theorem ok_lawmade {f : Addr} {fd : FuncData} (D : Df K mg "_law_made" s_law_made ["hand", "inner"] f fd) (T : Txt K w mg cs) (c_law_take : Cl P w K mg base CX0 1 "_law_take" spTake) (c_law_string : Cl P w K mg base CX0 2 "_law_string" spString) (c_law_table : Cl P w K mg base CX0 3 "_law_table" (spTable K)) : FnOk P w K mg base CX0 4 f fd ["hand", "inner"] (spMd K) := by
  refine D.fn.ok sc_law_made (fun vs H Q E h => ?_) (fun cdv A outer s H vs Q E hr h => ?_)
  · obtain ⟨a, d, v, D, n, m, rfl, _⟩ := h
    rfl
  · obtain ⟨a, d, v, D, nn, m, rfl, hD, hP, hc, hh, q⟩ := h
    refine ⟨_, (pss_cons (ps_set (i := 2) sc_law_made.nd rfl (.inl rfl) (pe_cl c_law_take hr (by first | decide | omega) (by rfl) (pa_cons (pv 0) (pa_cons pe_int pa_nil)))) (pss_cons (ps_set (i := 3) sc_law_made.nd rfl (.inl rfl) (pe_op op_add pe_int (pe_cl c_law_take hr (by first | decide | omega) (by rfl) (pa_cons (pv 0) (pa_cons pe_int pa_nil))))) (pss_cons (ps_set (i := 4) sc_law_made.nd rfl (.inl rfl) (pe_ix (ixL K) (pe_lst (pa_cons pe_int (pa_cons pe_int (pa_cons (pe_op op_add pe_int (pe_cl c_law_take hr (by first | decide | omega) (by rfl) (pa_cons (pv 0) (pa_cons pe_int pa_nil)))) pa_nil)))) (pe_cl c_law_take hr (by first | decide | omega) (by rfl) (pa_cons (pv 0) (pa_cons pe_int pa_nil))) (fun _ _ => rfl))) (pss_cons (ps_if (pt_cmpR op_eq (pv 2) pe_int (nomark _)) (pss_one (ps_ret (pe_tup (pa_cons pe_str (pa_cons (pe_cl c_law_table hr (by first | decide | omega) (by rfl) (pa_cons (pv 0) (pa_cons (pv 3) (pa_cons (pe_op op_add (pv 3) pe_int) pa_nil)))) (pa_cons (pe_op op_add pe_int (pe_cl c_law_take hr (by first | decide | omega) (by rfl) (pa_cons (pv 0) (pa_cons pe_int pa_nil)))) (pa_cons (pv 1) pa_nil))))))) pss_nil) (pss_cons (ps_if (pt_cmpR op_eq (pv 2) pe_int (nomark _)) (pss_one (ps_ret (pe_tup (pa_cons pe_str (pa_cons (pe_cl c_law_table hr (by first | decide | omega) (by rfl) (pa_cons (pv 0) (pa_cons (pv 3) (pa_cons (pe_op op_mul pe_int (pv 3)) pa_nil)))) (pa_cons (pe_op op_add pe_int (pe_cl c_law_take hr (by first | decide | omega) (by rfl) (pa_cons (pv 0) (pa_cons pe_int pa_nil)))) (pa_cons (pe_ix (ixL K) (pe_lst (pa_cons pe_int (pa_cons pe_int (pa_cons (pv 4) pa_nil)))) (pe_cl c_law_take hr (by first | decide | omega) (by rfl) (pa_cons (pv 0) (pa_cons pe_int pa_nil))) (fun _ _ => rfl)) (pa_cons (pv 1) pa_nil)))))))) pss_nil) (pss_cons (ps_if (pt_cmpR op_lt (pv 2) pe_int (nomark _)) (pss_one (ps_ret (pe_tup (pa_cons (pe_ix (ixL K) (pe_lst (pa_cons pe_str (pa_cons pe_str pa_nil))) (pe_op op_sub (pv 2) pe_int) (fun _ _ => rfl)) (pa_cons (pv 4) (pa_cons (pe_op op_add pe_int (pe_cl c_law_take hr (by first | decide | omega) (by rfl) (pa_cons (pv 0) (pa_cons pe_int pa_nil)))) (pa_cons (pv 1) pa_nil))))))) pss_nil) (pss_cons (ps_if (pt_cmpR op_lt (pv 2) pe_int (nomark _)) (pss_one (ps_ret (pe_tup (pa_cons (pe_ix (ixL K) (pe_lst (pa_cons pe_str (pa_cons pe_str (pa_cons pe_str pa_nil)))) (pe_op op_sub (pv 2) pe_int) (fun _ _ => rfl)) (pa_cons (pv 4) (pa_cons (pv 1) pa_nil)))))) pss_nil) (pss_cons (ps_if (pt_cmpR op_eq (pv 2) pe_int (nomark _)) (pss_one (ps_ret (pe_tup (pa_cons pe_str (pa_cons (pe_cl c_law_string hr (by first | decide | omega) (by rfl) (pa_cons (pv 0) (pa_cons (pv 4) pa_nil))) (pa_cons (pv 1) pa_nil)))))) pss_nil) (pss_cons (ps_if (pt_cmpR op_eq (pv 2) pe_int (nomark _)) (pss_one (ps_ret (pe_tup (pa_cons pe_str (pa_cons (pv 4) (pa_cons (pe_ix (ixL K) (pe_lst (pa_cons pe_int (pa_cons pe_int (pa_cons (pe_op op_add pe_int (pe_cl c_law_take hr (by first | decide | omega) (by rfl) (pa_cons (pv 0) (pa_cons pe_int pa_nil)))) pa_nil)))) (pe_cl c_law_take hr (by first | decide | omega) (by rfl) (pa_cons (pv 0) (pa_cons pe_int pa_nil))) (fun _ _ => rfl)) (pa_cons (pe_op op_add pe_int (pe_cl c_law_take hr (by first | decide | omega) (by rfl) (pa_cons (pv 0) (pa_cons pe_int pa_nil)))) (pa_cons (pv 1) pa_nil)))))))) pss_nil) (pss_cons (ps_if (pt_cmpR op_eq (pv 2) pe_int (nomark _)) (pss_one (ps_ret (pe_tup (pa_cons pe_str (pa_cons (pv 4) (pa_cons (pv 1) pa_nil)))))) pss_nil) (pss_cons (ps_if (PW.pt (pw_and (pt_cmpR op_eq (pv 2) pe_int (nomark _)) (pw_and1 (pt_cmpR op_in_seq (pe_ix (ixT K) (pv 1) pe_int (fun _ _ => rfl)) (pe_lst (pa_cons pe_str (pa_cons pe_str (pa_cons pe_str (pa_cons pe_str pa_nil))))) (by rfl))))) (pss_one (ps_ret (pe_tup (pa_cons pe_str (pa_cons (pe_cl c_law_table hr (by first | decide | omega) (by rfl) (pa_cons (pv 0) (pa_cons (pv 3) (pa_cons (pe_op op_add pe_int (pe_cl c_law_take hr (by first | decide | omega) (by rfl) (pa_cons (pv 0) (pa_cons pe_int pa_nil)))) pa_nil)))) (pa_cons (pe_op op_add pe_int (pe_cl c_law_take hr (by first | decide | omega) (by rfl) (pa_cons (pv 0) (pa_cons pe_int pa_nil)))) (pa_cons (pv 1) pa_nil))))))) pss_nil) (pss_cons (ps_if (pt_cmpR op_eq (pv 2) pe_int (nomark _)) (pss_one (ps_ret (pe_tup (pa_cons pe_str (pa_cons (pe_ix (ixL K) (pe_lst (pa_cons pe_int (pa_cons pe_int (pa_cons (pe_op op_add pe_int (pe_cl c_law_take hr (by first | decide | omega) (by rfl) (pa_cons (pv 0) (pa_cons pe_int pa_nil)))) pa_nil)))) (pe_cl c_law_take hr (by first | decide | omega) (by rfl) (pa_cons (pv 0) (pa_cons pe_int pa_nil))) (fun _ _ => rfl)) (pa_cons (pv 1) pa_nil)))))) pss_nil) (pss_one (ps_ret (pe_tup (pa_cons pe_str (pa_cons (pv 1) pa_nil))))))))))))))))), ?_⟩
    -- what is made
    have fin : ∀ (z : Str) (vs : List V) (ds : List PyData) (H2 : Hp) (p : Addr), madeZ z = true → okT z → fitZ z ds = true → (z = "onetime" → madeD D = false) → DpAll K (off a H2) vs ds → (∀ x ∈ ds, Pl 2 x) → ds.length ≤ 10 → Hnd H2 a d → Keep a H H2 → H2 p = none →
        Q (.ref p) (upd H2 p (.tup (.str z :: (vs ++ [v])))) := by
      intro z vs ds H2 p hz hzt hf ho hA hx hl n2 k2 np
      have pa := (n2.ne np).1
      have kk := (Keep.new (a := a) (o := .tup (.str z :: (vs ++ [v]))) np)
      refine q _ _ _ (dp_new pa upd_same (.cons (.str z) (dps_app (dps_same kk.off _ hA) (.cons (dp_same (k2.trans kk).off D hD) .nil)))) ?_ (chk_of hz hf ho hc) (n2.new np) (k2.trans kk)
      refine ⟨?_, fun x hx' => ?_⟩
      · rw [List.length_cons, List.length_append, List.length_singleton]
        omega
      · rcases List.mem_cons.mp hx' with e | hx'
        · rw [e]
          exact pl_str.mpr hzt
        rcases List.mem_append.mp hx' with h | h
        · exact pl_le (hx x h) (by omega)
        · rw [List.mem_singleton.mp h]
          exact pl_le hP (by omega)
    clear q
    refine ⟨_, rfl, a, d, 13, rfl, by decide, hh, fun kind H1 l1 u1 n1 k1 => ?_⟩
    refine ⟨_, rfl, a, d, 2, rfl, by decide, n1, fun r1 H2 l2 u2 n2 k2 => ⟨_, _, rfl, rfl, ?_⟩⟩
    obtain ⟨n, en, hn1, hn2⟩ : ∃ n : Nat, (1 : Int) + r1 = (n : Int) ∧ 1 ≤ n ∧ n ≤ 2 := ⟨(1 + r1).toNat, by omega, by omega, by omega⟩
    show gName 3 (V.int (1 + r1)) _ _ _
    rw [en]
    clear en l2 u2
    refine ⟨_, rfl, a, d, 40, rfl, by decide, n2, fun r2 H3 l3 u3 n3 k3 => ⟨_, _, rfl, rfl, (by show 3 ≤ sizeLine; decide), fun p np => ?_⟩⟩
    have npa := (n3.ne np).1
    refine ⟨_, rfl, a, d, 3, rfl, by decide, n3.new np, fun r3 H4 l4 u4 n4 k4 => ?_⟩
    obtain ⟨some_, es, s1, s2⟩ : ∃ s : Nat, atI [V.int 1, V.int 40, V.int (1 + r2)] r3 = some (V.int (s : Int)) ∧ 1 ≤ s ∧ s ≤ 40 := by
      have : r3 = 0 ∨ r3 = 1 ∨ r3 = 2 := by omega
      rcases this with e | e | e <;> subst e
      · exact ⟨1, rfl, by decide, by decide⟩
      · exact ⟨40, rfl, by decide, by decide⟩
      · refine ⟨(1 + r2).toNat, ?_, by omega, by omega⟩
        rw [show (((1 + r2).toNat : Nat) : Int) = 1 + r2 by omega]
        rfl
    refine ⟨p, _, r3, _, rfl, rfl, .inl (.inl (k4 _ _ upd_same npa)), es, ?_⟩
    have k14 : Keep a H H4 := (((k1.trans k2).trans k3).trans (Keep.new np)).trans k4
    clear es l3 u3 l4 u4 npa np n3 n2 n1 k1 k2 k3 k4 hh
    have tabP : ∀ {m : Nat} {rows : List (List Bool)}, rows.length = 2 ^ n → (∀ r ∈ rows, r.length = m) → 1 ≤ m → m ≤ 40 → Wf n m rows := fun h1 h2 h3 h4 => ⟨hn1, by omega, h3, h4, h1, h2⟩
    -- longer
    refine ⟨_, rfl, rfl, _, rfl, ?_⟩
    by_cases c0 : kind = 0
    · rw [decide_eq_true (congrArg V.int c0)]
      refine ⟨_, rfl, _, rfl, _, rfl, _, _, rfl, rfl, a, d, n, n + 1, rfl, by omega, by omega, n4, fun vt rows H5 hl hrw hd n5 k5 => ?_⟩
      have wf := tabP hl hrw (by omega) (by omega)
      refine ⟨_, rfl, a, d, 20, rfl, by decide, n5, fun r H6 l6 u6 n6 k6 => ⟨_, _, rfl, rfl, _, rfl, (by show 4 ≤ sizeLine; decide), fun p np => ?_⟩⟩
      exact fin "longer" [vt, .int (1 + r)] [tabD n (n + 1) rows, .int (1 + r)] H6 p (by decide) ⟨by decide +kernel, by decide +kernel⟩ (fit_longer wf (by omega) (by omega)) (fun z => absurd z (by decide)) (.cons (dp_same k6.off _ hd) (.cons (.int _) .nil))
        (fun x hx => by
          rcases List.mem_cons.mp hx with e | hx
          · exact e ▸ wf.pl
          · rw [List.mem_singleton.mp hx]
            exact pl_int) (by simp) n6 ((k14.trans k5).trans k6) np
    rw [decide_eq_false (fun z => c0 (V.int.inj z))]
    -- tree
    refine ⟨_, rfl, rfl, _, rfl, ?_⟩
    by_cases c1 : kind = 1
    · rw [decide_eq_true (congrArg V.int c1)]
      refine ⟨_, rfl, _, rfl, _, rfl, _, _, rfl, rfl, .inl ⟨by decide, by decide⟩, a, d, n, 2 * n, ?_, by omega, by omega, n4, fun vt rows H5 hl hrw hd n5 k5 => ?_⟩
      · show [V.ref a, V.int (n : Int), V.int (2 * (n : Int))] = _
        rw [show (2 : Int) * (n : Int) = ((2 * n : Nat) : Int) by omega]
      have wf := tabP hl hrw (by omega) (by omega)
      refine ⟨_, rfl, a, d, 8, rfl, by decide, n5, fun r H6 l6 u6 n6 k6 => ⟨_, _, rfl, rfl, _, rfl, (by show 3 ≤ sizeLine; decide), fun p1 np1 => ?_⟩⟩
      have p1a := (n6.ne np1).1
      refine ⟨_, rfl, a, d, 3, rfl, by decide, n6.new np1, fun r4 H7 l7 u7 n7 k7 => ?_⟩
      obtain ⟨qq, eq, q1, q2⟩ : ∃ s : Int, atI [V.int 1, V.int 1000, V.int (some_ : Int)] r4 = some (V.int s) ∧ 1 ≤ s ∧ s ≤ 1000 := by
        have : r4 = 0 ∨ r4 = 1 ∨ r4 = 2 := by omega
        rcases this with e | e | e <;> subst e
        · exact ⟨1, rfl, by decide, by decide⟩
        · exact ⟨1000, rfl, by decide, by decide⟩
        · exact ⟨_, rfl, by omega, by omega⟩
      refine ⟨p1, _, r4, _, rfl, rfl, .inl (.inl (k7 _ _ upd_same p1a)), eq, _, rfl, (by show 5 ≤ sizeLine; decide), fun p np => ?_⟩
      have kk : Keep a H5 H7 := (k6.trans (Keep.new np1)).trans k7
      exact fin "tree" [vt, .int (1 + r), .int qq] [tabD n (2 * n) rows, .int (1 + r), .int qq] H7 p (by decide) ⟨by decide +kernel, by decide +kernel⟩ (fit_tree wf (by omega) (by omega) (by omega) q1 q2) (fun z => absurd z (by decide)) (.cons (dp_same kk.off _ hd) (.cons (.int _) (.cons (.int _) .nil)))
        (fun x hx => by
          rcases List.mem_cons.mp hx with e | hx
          · exact e ▸ wf.pl
          rcases List.mem_cons.mp hx with e | hx
          · exact e ▸ pl_int
          · rw [List.mem_singleton.mp hx]
            exact pl_int) (by simp) n7 ((k14.trans k5).trans kk) np
    rw [decide_eq_false (fun z => c1 (V.int.inj z))]
    -- marks, secrets
    refine ⟨_, rfl, _, _, rfl, rfl, _, rfl, ?_⟩
    by_cases c4 : kind < 4
    · rw [decide_eq_true c4]
      refine ⟨(by show 2 ≤ sizeLine; decide), fun p1 np1 => ?_⟩
      have p1a := (n4.ne np1).1
      obtain ⟨z, ez, hz, hzt, hf⟩ : ∃ z : Str, atI [V.str "marks", V.str "secrets"] (kind - 2) = some (V.str z) ∧ madeZ z = true ∧ (okT z ∧ z ≠ "onetime") ∧ ∀ j : Int, 1 ≤ j → j ≤ 40 → fitZ z [.int (some_ : Int), .int j] = true := by
        have : kind = 2 ∨ kind = 3 := by omega
        rcases this with e | e <;> subst e
        · exact ⟨"marks", rfl, by decide, ⟨⟨by decide +kernel, by decide +kernel⟩, by decide⟩, fun j h1 h2 => fit_two (by decide) rfl (by omega) (by omega) h1 h2⟩
        · exact ⟨"secrets", rfl, by decide, ⟨⟨by decide +kernel, by decide +kernel⟩, by decide⟩, fun j h1 h2 => fit_two (by decide) rfl (by omega) (by omega) h1 h2⟩
      refine ⟨_, rfl, _, _, rfl, rfl, p1, _, kind - 2, _, rfl, rfl, .inl (.inl upd_same), ez, _, rfl, _, rfl, a, d, 40, rfl, by decide, n4.new np1, fun r H5 l5 u5 n5 k5 => ⟨_, _, rfl, rfl, _, rfl, (by show 4 ≤ sizeLine; decide), fun p np => ?_⟩⟩
      exact fin z [.int (some_ : Int), .int (1 + r)] [.int (some_ : Int), .int (1 + r)] H5 p hz hzt.1 (hf (1 + r) (by omega) (by omega)) (fun e => absurd e hzt.2) (.cons (.int _) (.cons (.int _) .nil))
        (fun x hx => by
          rcases List.mem_cons.mp hx with e | hx
          · exact e ▸ pl_int
          · rw [List.mem_singleton.mp hx]
            exact pl_int) (by simp) n5 ((k14.trans (Keep.new np1)).trans k5) np
    rw [decide_eq_false c4]
    -- once, next, guess
    refine ⟨_, rfl, _, _, rfl, rfl, _, rfl, ?_⟩
    by_cases c7 : kind < 7
    · rw [decide_eq_true c7]
      refine ⟨(by show 3 ≤ sizeLine; decide), fun p1 np1 => ?_⟩
      have p1a := (n4.ne np1).1
      obtain ⟨z, ez, hz, hzt, hf⟩ : ∃ z : Str, atI [V.str "once", V.str "next", V.str "guess"] (kind - 4) = some (V.str z) ∧ madeZ z = true ∧ (okT z ∧ z ≠ "onetime") ∧ fitZ z [.int (some_ : Int)] = true := by
        have : kind = 4 ∨ kind = 5 ∨ kind = 6 := by omega
        rcases this with e | e | e <;> subst e
        · exact ⟨"once", rfl, by decide, ⟨⟨by decide +kernel, by decide +kernel⟩, by decide⟩, fit_one (by decide) rfl (by omega) (by omega)⟩
        · exact ⟨"next", rfl, by decide, ⟨⟨by decide +kernel, by decide +kernel⟩, by decide⟩, fit_one (by decide) rfl (by omega) (by omega)⟩
        · exact ⟨"guess", rfl, by decide, ⟨⟨by decide +kernel, by decide +kernel⟩, by decide⟩, fit_one (by decide) rfl (by omega) (by omega)⟩
      refine ⟨_, rfl, _, _, rfl, rfl, p1, _, kind - 4, _, rfl, rfl, .inl (.inl upd_same), ez, _, rfl, _, rfl, (by show 3 ≤ sizeLine; decide), fun p np => ?_⟩
      exact fin z [.int (some_ : Int)] [.int (some_ : Int)] _ p hz hzt.1 hf (fun e => absurd e hzt.2) (.cons (.int _) .nil)
        (fun x hx => by
          rw [List.mem_singleton.mp hx]
          exact pl_int) (by simp) (n4.new np1) (k14.trans (Keep.new np1)) np
    rw [decide_eq_false c7]
    -- opening
    refine ⟨_, rfl, rfl, _, rfl, ?_⟩
    by_cases d7 : kind = 7
    · rw [decide_eq_true (congrArg V.int d7)]
      refine ⟨_, rfl, _, rfl, a, d, some_, rfl, by omega, n4, fun bs H5 hb n5 k5 => ⟨_, rfl, (by show 3 ≤ sizeLine; decide), fun p np => ?_⟩⟩
      exact fin "opening" [.str (sb bs)] [.str (sb bs)] _ p (by decide) ⟨by decide +kernel, by decide +kernel⟩ (fit_opening (by omega) (by omega)) (fun z => absurd z (by decide)) (.cons (.str _) .nil)
        (fun x hx => by
          rw [List.mem_singleton.mp hx]
          exact pl_str.mpr (okT_sb (by omega))) (by simp) n5 (k14.trans k5) np
    rw [decide_eq_false (fun z => d7 (V.int.inj z))]
    -- counter
    refine ⟨_, rfl, rfl, _, rfl, ?_⟩
    by_cases d8 : kind = 8
    · rw [decide_eq_true (congrArg V.int d8)]
      refine ⟨_, rfl, _, rfl, a, d, 256, rfl, by decide, n4, fun r H5 l5 u5 n5 k5 => ⟨_, _, rfl, rfl, (by show 3 ≤ sizeLine; decide), fun p1 np1 => ?_⟩⟩
      have p1a := (n5.ne np1).1
      refine ⟨_, rfl, a, d, 3, rfl, by decide, n5.new np1, fun r4 H6 l6 u6 n6 k6 => ?_⟩
      obtain ⟨qq, eq, q1, q2⟩ : ∃ s : Int, atI [V.int 1, V.int 256, V.int (1 + r)] r4 = some (V.int s) ∧ 1 ≤ s ∧ s ≤ 256 := by
        have : r4 = 0 ∨ r4 = 1 ∨ r4 = 2 := by omega
        rcases this with e | e | e <;> subst e
        · exact ⟨1, rfl, by decide, by decide⟩
        · exact ⟨256, rfl, by decide, by decide⟩
        · exact ⟨_, rfl, by omega, by omega⟩
      refine ⟨p1, _, r4, _, rfl, rfl, .inl (.inl (k6 _ _ upd_same p1a)), eq, _, rfl, a, d, 40, rfl, by decide, n6, fun r5 H7 l7 u7 n7 k7 => ⟨_, _, rfl, rfl, _, rfl, (by show 5 ≤ sizeLine; decide), fun p np => ?_⟩⟩
      exact fin "counter" [.int (some_ : Int), .int qq, .int (1 + r5)] [.int (some_ : Int), .int qq, .int (1 + r5)] _ p (by decide) ⟨by decide +kernel, by decide +kernel⟩ (fit_counter (by omega) (by omega) q1 q2 (by omega) (by omega)) (fun z => absurd z (by decide)) (.cons (.int _) (.cons (.int _) (.cons (.int _) .nil)))
        (fun x hx => by
          rcases List.mem_cons.mp hx with e | hx
          · exact e ▸ pl_int
          rcases List.mem_cons.mp hx with e | hx
          · exact e ▸ pl_int
          · rw [List.mem_singleton.mp hx]
            exact pl_int) (by simp) n7 ((((k14.trans k5).trans (Keep.new np1)).trans k6).trans k7) np
    rw [decide_eq_false (fun z => d8 (V.int.inj z))]
    -- cut
    refine ⟨_, rfl, rfl, _, rfl, ?_⟩
    by_cases d9 : kind = 9
    · rw [decide_eq_true (congrArg V.int d9)]
      refine ⟨_, rfl, _, rfl, (by show 3 ≤ sizeLine; decide), fun p np => ?_⟩
      exact fin "cut" [.int (some_ : Int)] [.int (some_ : Int)] _ p (by decide) ⟨by decide +kernel, by decide +kernel⟩ (fit_one (by decide) rfl (by omega) (by omega)) (fun z => absurd z (by decide)) (.cons (.int _) .nil)
        (fun x hx => by
          rw [List.mem_singleton.mp hx]
          exact pl_int) (by simp) n4 k14 np
    rw [decide_eq_false (fun z => d9 (V.int.inj z))]
    -- onetime
    obtain ⟨z, r, rfl⟩ := chk_head hc
    have hard : ∀ H5, Hnd H5 a d → Keep a H4 H5 → ∀ p, H5 p = none → Q (.ref p) (upd H5 p (.tup [.str "bit", v])) := fun H5 n5 k5 p np =>
      fin "bit" [] [] H5 p (by decide) ⟨by decide +kernel, by decide +kernel⟩ (by decide) (fun z => absurd z (by decide)) .nil (fun x hx => (nomatch hx)) (by decide) n5 (k14.trans k5) np
    refine ⟨_, rfl, rfl, _, rfl, ?_⟩
    by_cases d10 : kind = 10
    · rw [decide_eq_true (congrArg V.int d10)]
      have hdp := dp_same k14.off _ hD
      cases hdp with
      | @tup pa ws _ hT hA =>
      obtain ⟨v0, vr, rfl, h0, _⟩ := dp_cons hA
      cases h0
      refine ⟨_, rfl, pa, _, 0, .str z, rfl, rfl, sqt_on hT, at_zero, (by show 4 ≤ sizeLine; decide), fun p1 np1 => ⟨p1, _, rfl, .inl (.inl (.inl upd_same)), rfl, rfl, _, rfl, ?_⟩⟩
      show if inV (.str z) [.str "say", .str "toss", .str "look", .str "ask"] = true then _ else _
      cases ci : inV (.str z) [.str "say", .str "toss", .str "look", .str "ask"] with
      | true =>
        have hno : madeD (.tuple (.str z :: r)) = false := by
          have ee : ∀ y : Str, eqV (.str y) (.str z) = true → z = y := fun y h => (beq_iff_eq.mp (show (y == z) = true from h)).symm
          have h4 : (eqV (.str "say") (.str z) || (eqV (.str "toss") (.str z) || (eqV (.str "look") (.str z) || (eqV (.str "ask") (.str z) || false)))) = true := ci
          simp only [Bool.or_eq_true, Bool.or_false] at h4
          rcases h4 with h | h | h | h <;> rw [ee _ h] <;> (show madeZ _ = false) <;> decide
        refine ⟨_, rfl, _, rfl, _, rfl, a, d, 4, rfl, by decide, n4.new np1, fun r5 H5 l5 u5 n5 k5 => ⟨_, _, rfl, rfl, ?_⟩⟩
        obtain ⟨mm, em, m1, m2⟩ : ∃ n : Nat, (1 : Int) + r5 = (n : Int) ∧ 1 ≤ n ∧ n ≤ 4 := ⟨(1 + r5).toNat, by omega, by omega, by omega⟩
        refine ⟨a, d, n, mm, ?_, by omega, by omega, n5, fun vt rows H6 hl hrw hd n6 k6 => ?_⟩
        · show [V.ref a, V.int (n : Int), V.int (1 + r5)] = _
          rw [em]
        have wf := tabP hl hrw (by omega) (by omega)
        refine ⟨_, rfl, a, d, 4, rfl, by decide, n6, fun r6 H7 l7 u7 n7 k7 => ⟨_, _, rfl, rfl, _, rfl, (by show 4 ≤ sizeLine; decide), fun p np => ?_⟩⟩
        exact fin "onetime" [vt, .int (1 + r6)] [tabD n mm rows, .int (1 + r6)] H7 p (by decide) ⟨by decide +kernel, by decide +kernel⟩ (fit_onetime wf (by omega) (by omega)) (fun _ => hno) (.cons (dp_same k7.off _ hd) (.cons (.int _) .nil))
          (fun x hx => by
            rcases List.mem_cons.mp hx with e | hx
            · exact e ▸ wf.pl
            · rw [List.mem_singleton.mp hx]
              exact pl_int) (by simp) n7 ((((k14.trans (Keep.new np1)).trans k5).trans k6).trans k7) np
      | false =>
        refine ⟨_, rfl, rfl, _, rfl, ?_⟩
        rw [decide_eq_false (show ¬ V.int kind = V.int 11 from fun z => by have := V.int.inj z; omega)]
        exact ⟨_, rfl, (by show 2 ≤ sizeLine; decide), fun p np => hard _ (n4.new np1) (Keep.new np1) p np⟩
    rw [decide_eq_false (fun z => d10 (V.int.inj z))]
    refine ⟨_, rfl, rfl, _, rfl, ?_⟩
    by_cases d11 : kind = 11
    · rw [decide_eq_true (congrArg V.int d11)]
      refine ⟨_, rfl, a, d, 10, rfl, by decide, n4, fun r5 H5 l5 u5 n5 k5 => ⟨_, _, rfl, rfl, (by show 3 ≤ sizeLine; decide), fun p1 np1 => ?_⟩⟩
      have p1a := (n5.ne np1).1
      refine ⟨_, rfl, a, d, 3, rfl, by decide, n5.new np1, fun r4 H6 l6 u6 n6 k6 => ?_⟩
      obtain ⟨qq, eq, q1, q2⟩ : ∃ s : Int, atI [V.int 1, V.int 10, V.int (1 + r5)] r4 = some (V.int s) ∧ 1 ≤ s ∧ s ≤ 10 := by
        have : r4 = 0 ∨ r4 = 1 ∨ r4 = 2 := by omega
        rcases this with e | e | e <;> subst e
        · exact ⟨1, rfl, by decide, by decide⟩
        · exact ⟨10, rfl, by decide, by decide⟩
        · exact ⟨_, rfl, by omega, by omega⟩
      refine ⟨p1, _, r4, _, rfl, rfl, .inl (.inl (k6 _ _ upd_same p1a)), eq, _, rfl, (by show 3 ≤ sizeLine; decide), fun p np => ?_⟩
      exact fin "hard" [.int qq] [.int qq] _ p (by decide) ⟨by decide +kernel, by decide +kernel⟩ (fit_one (by decide) rfl q1 q2) (fun z => absurd z (by decide)) (.cons (.int _) .nil)
        (fun x hx => by
          rw [List.mem_singleton.mp hx]
          exact pl_int) (by simp) n6 (((k14.trans k5).trans (Keep.new np1)).trans k6) np
    · rw [decide_eq_false (fun z => d11 (V.int.inj z))]
      exact ⟨_, rfl, (by show 2 ≤ sizeLine; decide), fun p np => hard H4 n4 (Keep.refl a H4) p np⟩

theorem most_step {f : Addr} {fd : FuncData} (D : Df K mg "_law_most" s_law_most ["breaker"] f fd) (T : Txt K w mg cs) (j : Nat) (c_law_most : Cl P w K mg base CX0 (j + 1) "_law_most" (spLM K j)) : FnOk P w K mg base CX0 (j + 2) f fd ["breaker"] (spLM K (j + 1)) := by
  refine D.fn.ok sc_law_most (fun vs H Q E h => ?_) (fun cdv A outer s H vs Q E hr h => ?_)
  · obtain ⟨v, d, n, rfl, _⟩ := h
    rfl
  · obtain ⟨v, d, n, rfl, hd, hg, hw, q⟩ := h
    refine ⟨_, (pss_cons (ps_set (i := 1) sc_law_most.nd rfl (.inl rfl) (pe_ix (ixT K) (pv 0) pe_int (fun _ _ => rfl))) (pss_cons (ps_if (pt_cmpR (op_eqF K hr.units) (pv 1) pe_str (nomark _)) (pss_one (ps_ret pe_int)) pss_nil) (pss_cons (ps_if (pt_cmpR (op_eqF K hr.units) (pv 1) pe_str (nomark _)) (pss_one (ps_ret (pe_op op_add pe_int (pe_cl c_law_most hr (by first | decide | omega) (by rfl) (pa_cons (pe_ix (ixT K) (pv 0) pe_int (fun _ _ => rfl)) pa_nil))))) pss_nil) (pss_cons (ps_if (pt_cmpR (op_eqF K hr.units) (pv 1) pe_str (nomark _)) (pss_one (ps_ret (pe_callB (call_max2 rfl) (by rfl) T.n_max (by decide +kernel) (pa_cons (pe_callTy call_int1 (by rfl) T.n_int (by decide +kernel) (pa_cons (pe_cl c_law_most hr (by first | decide | omega) (by rfl) (pa_cons (pe_ix (ixT K) (pv 0) pe_int (fun _ _ => rfl)) pa_nil)) pa_nil)) (pa_cons (pe_callTy call_int1 (by rfl) T.n_int (by decide +kernel) (pa_cons (pe_cl c_law_most hr (by first | decide | omega) (by rfl) (pa_cons (pe_ix (ixT K) (pv 0) pe_int (fun _ _ => rfl)) pa_nil)) pa_nil)) pa_nil))))) pss_nil) (pss_cons (ps_if (pt_cmpR (op_eqF K hr.units) (pv 1) pe_str (nomark _)) (pss_one (ps_ret (pe_callB (cr_max rfl) (by rfl) T.n_max (by decide +kernel) (pa_cons (pe_lc (own := [("one", 2)]) (g := gName 2) (tt := tYes) rfl sc_law_most.nd (pi_tup (pe_ix (ixT K) (pv 0) pe_int (fun _ _ => rfl))) (blkOk_by (own := [("one", 2)]) (N := ["breaker", "kind", "one"]) (sc := defScope s_law_most) (by decide +kernel)) (fun _ _ _ _ _ => (pg_name (i := 2) sc_law_most.nd rfl (.inl rfl))) (fun _ _ _ _ _ => pts_nil) (fun _ _ _ _ _ => (pe_callTy call_int1 (by rfl) T.n_int (by decide +kernel) (pa_cons (pe_cl c_law_most hr (by first | decide | omega) (by rfl) (pa_cons (pv 2) pa_nil)) pa_nil)))) pa_nil)))) pss_nil) (pss_cons (ps_if (pt_cmpR (op_eqF K hr.units) (pv 1) pe_str (nomark _)) (pss_one (ps_ret (pe_op op_add pe_int (pe_cl c_law_most hr (by first | decide | omega) (by rfl) (pa_cons (pe_ix (ixT K) (pv 0) pe_int (fun _ _ => rfl)) pa_nil))))) pss_nil) (pss_cons (ps_if (pt_cmpR (op_eqF K hr.units) (pv 1) pe_str (nomark _)) (pss_one (ps_ret (pe_cl c_law_most hr (by first | decide | omega) (by rfl) (pa_cons (pe_ix (ixT K) (pv 0) pe_int (fun _ _ => rfl)) pa_nil)))) pss_nil) (pss_cons (ps_if (pt_cmpR (op_eqF K hr.units) (pv 1) pe_str (nomark _)) (pss_one (ps_ret (pe_ix (ixT K) (pv 0) pe_int (fun _ _ => rfl)))) pss_nil) (pss_one (ps_ret pe_int)))))))))), ?_⟩
    have q0 := q H (Same.refl H)
    have hz : ∃ z r, d = .tuple (.str z :: r) := by
      rcases hw with h | ⟨z, r, e, _⟩
      · obtain ⟨z, r, e, _⟩ := looks_names (okN_parts h).1
        exact ⟨z, r, e⟩
      · exact ⟨z, r, e⟩
    obtain ⟨z, r, rfl⟩ := hz
    cases hd with
    | @tup a ws _ hT hA =>
    have hA0 := hA
    obtain ⟨v0, vr, rfl, h0, hr'⟩ := dp_cons hA
    cases h0
    obtain ⟨_, n', rfl, hx⟩ := gd_tup hg
    have lay : PyData.canLay0 (.str z) = true := gd_lay (hx _ List.mem_cons_self)
    have gr : ∀ x ∈ r, Gd n' x := fun x h => hx x (List.mem_cons_of_mem _ h)
    refine ⟨_, rfl, a, _, 0, .str z, rfl, rfl, hT, at_zero, ?_⟩
    have notmade : ∀ x : Str, z = x → madeZ x = false → okN (j + 1) (.tuple (.str z :: r)) = true := by
      intro x e hm
      rcases hw with h | ⟨z', r', e', hz', _⟩
      · exact h
      · injection e' with e'
        injection e' with e1 e2
        injection e1 with e1
        rw [← e1, e, hm] at hz'
        cases hz'
    -- say
    refine ⟨_, rfl, .str z, .str "say", .str _, .str _, lay, str_lay _, str_dep _, _, rfl, ?_⟩
    show if named "say" (.str z) = true then _ else _
    rw [named_str]
    by_cases c1 : z = "say"
    · rw [if_pos (decide_eq_true c1)]
      have ok := notmade _ c1 (by decide)
      rw [mV_plain ok] at q0
      subst c1
      have hl := (okN_parts ok).1
      rw [looks_say] at hl
      have e0 : paN (j + 1) (.tuple (.str "say" :: r)) = 0 := by
        show askB _ + ((kidsD _).map (paN j)).foldl max 0 = 0
        rw [kids_say]
        have : r.length = 1 := by
          by_cases c : r.length = 1
          · exact c
          · rw [sayOk_no c] at hl
            cases hl
        match r, this with
        | [x], _ => rfl
      rw [e0] at q0
      exact q0
    rw [if_neg (by rw [decide_eq_false c1]; decide)]
    -- ask
    refine ⟨_, rfl, .str z, .str "ask", .str _, .str _, lay, str_lay _, str_dep _, _, rfl, ?_⟩
    show if named "ask" (.str z) = true then _ else _
    rw [named_str]
    by_cases c2 : z = "ask"
    · rw [if_pos (decide_eq_true c2)]
      have ok := notmade _ c2 (by decide)
      rw [mV_plain ok] at q
      subst c2
      obtain ⟨hl, hk⟩ := okN_parts ok
      rw [looks_ask] at hl
      have h2 : r.length = 2 := by
        by_cases c : r.length = 2
        · exact c
        · rw [askOk_no c] at hl
          cases hl
      obtain ⟨vp, vx, dp, dx, rfl, rfl, _, hvx⟩ := dp2 hr' (by rw [dp_all_len hr']; exact h2)
      rw [kids_ask] at hk
      have hkx := hk dx (List.mem_singleton.mpr rfl)
      refine ⟨_, rfl, a, _, 2, vx, rfl, rfl, hT, rfl, vx, dx, _, rfl, hvx, gr dx (List.mem_cons_of_mem _ List.mem_cons_self), ?_, fun H1 s1 => ⟨_, _, rfl, rfl, ?_⟩⟩
      · cases j with
        | zero => cases hkx
        | succ j => exact .inl hkx
      · have q1 := q H1 s1
        have e1 : (paN (j + 1) (.tuple [.str "ask", dp, dx]) : Int) = 1 + mV j dx := by
          rw [mV_plain hkx]
          show ((1 + max 0 (paN j dx) : Nat) : Int) = _
          omega
        rw [e1] at q1
        exact q1
    rw [if_neg (by rw [decide_eq_false c2]; decide)]
    -- look
    refine ⟨_, rfl, .str z, .str "look", .str _, .str _, lay, str_lay _, str_dep _, _, rfl, ?_⟩
    show if named "look" (.str z) = true then _ else _
    rw [named_str]
    by_cases c3 : z = "look"
    · rw [if_pos (decide_eq_true c3)]
      have ok := notmade _ c3 (by decide)
      rw [mV_plain ok] at q
      subst c3
      obtain ⟨hl, hk⟩ := okN_parts ok
      rw [looks_look] at hl
      have h2 : r.length = 3 := by
        by_cases c : r.length = 3
        · exact c
        · rw [lookOk_no c] at hl
          cases hl
      obtain ⟨vn, vx, vy, dn, dx, dy, rfl, rfl, _, hvx, hvy⟩ := dp3 hr' (by rw [dp_all_len hr']; exact h2)
      rw [kids_look] at hk
      have hkx := hk dx List.mem_cons_self
      have hky := hk dy (List.mem_cons_of_mem _ List.mem_cons_self)
      refine ⟨_, rfl, a, _, 2, vx, rfl, rfl, hT, rfl, vx, dx, _, rfl, hvx, gr dx (List.mem_cons_of_mem _ List.mem_cons_self), ?_, fun H1 s1 => .inl ⟨_, rfl, ?_⟩⟩
      · cases j with
        | zero => cases hkx
        | succ j => exact .inl hkx
      refine ⟨_, rfl, a, _, 3, vy, rfl, rfl, same_sqt s1 hT, rfl, vy, dy, _, rfl, dp_same s1 dy hvy, gr dy (List.mem_cons_of_mem _ (List.mem_cons_of_mem _ List.mem_cons_self)), ?_, fun H2 s2 => .inl ⟨_, rfl, _, _, rfl, ?_⟩⟩
      · cases j with
        | zero => cases hky
        | succ j => exact .inl hky
      have q1 := q H2 (s1.trans s2)
      have e1 : (paN (j + 1) (.tuple [.str "look", dn, dx, dy]) : Int) = if mV j dy > mV j dx then mV j dy else mV j dx := by
        rw [mV_plain hkx, mV_plain hky]
        show ((0 + max (max 0 (paN j dx)) (paN j dy) : Nat) : Int) = _
        split <;> omega
      rw [e1] at q1
      exact q1
    rw [if_neg (by rw [decide_eq_false c3]; decide)]
    -- toss
    refine ⟨_, rfl, .str z, .str "toss", .str _, .str _, lay, str_lay _, str_dep _, _, rfl, ?_⟩
    show if named "toss" (.str z) = true then _ else _
    rw [named_str]
    by_cases c4 : z = "toss"
    · rw [if_pos (decide_eq_true c4)]
      have ok := notmade _ c4 (by decide)
      rw [mV_plain ok] at q
      subst c4
      obtain ⟨hl, hk⟩ := okN_parts ok
      rw [looks_toss] at hl
      obtain ⟨xs, rfl, x1, x2⟩ := toss_kids hl
      obtain ⟨vt, t1, rfl, e1, ht⟩ := dp1 hr' (by rw [dp_all_len hr']; rfl)
      cases e1
      cases ht with
      | @tup b us _ bT bA =>
      have hnt : named "toss" (.str "toss") = true := by rw [named_str]; decide
      rw [kids_toss hnt] at hk
      obtain ⟨_, n2, e2, gx⟩ := gd_tup (gr _ List.mem_cons_self)
      refine ⟨_, rfl, a, _, 1, .ref b, rfl, rfl, hT, rfl, b, rfl, ⟨_, bT⟩, fun Dl hD => ?_⟩
      have hul := dp_all_len bA
      refine lc_tup (xs := us) (fun i H' => Same H H' ∧ H' Dl = some (.lst (((xs.take i).map fun x => ((paN j x : Nat) : Int)).map V.int))) ?_ ?_ ?_ ?_
      · exact ⟨same_new hD, upd_same⟩
      · rintro i H' _ ⟨s1, _⟩
        exact same_sqt s1 bT
      · rintro i x H' hxi ⟨s1, e1⟩
        obtain ⟨d, hdi, hdx⟩ := dp_all_get bA hxi
        have hmem := List.mem_of_getElem? hdi
        have hkd := hk d hmem
        refine ⟨rfl, ?_⟩
        refine ⟨_, rfl, x, d, n2, rfl, dp_same s1 d hdx, gx d hmem, ?_, fun H2 s2 => .inl ⟨_, rfl, ?_⟩⟩
        · cases j with
          | zero => cases hkd
          | succ j => exact .inl hkd
        · refine ⟨_, s2 _ _ e1, ?_, fun p o e => ?_, ?_⟩
          · rw [List.length_map, List.length_map, List.length_take]
            exact Nat.lt_of_lt_of_le (show min i xs.length < 10000 by omega) (by decide)
          · rw [upd_ne (ne_of_none e hD)]
            exact s2 _ _ (s1 p o e)
          · rw [upd_same, List.take_add_one, hdi, List.map_append, List.map_append, mV_plain hkd]
            rfl
      · rintro H' ⟨s1, e1⟩
        rw [List.take_of_length_le (by omega)] at e1
        refine ⟨Dl, _, rfl, .inl (.inl e1), ?_, fun m hm hle => ?_⟩
        · rw [List.length_map]
          omega
        · have em : (xs.map fun x => ((paN j x : Nat) : Int)) = (xs.map (paN j)).map (fun n : Nat => (n : Int)) := by
            rw [List.map_map]
            rfl
          rw [em] at hm hle
          have e2 := max_is hm hle
          have q1 := q H' s1
          have e3 : paN (j + 1) (.tuple [.str "toss", .tuple xs]) = (xs.map (paN j)).foldl max 0 := by
            show askB _ + ((kidsD _).map (paN j)).foldl max 0 = _
            rw [kids_toss hnt]
            show 0 + _ = _
            omega
          rw [e3, ← e2] at q1
          exact q1
    rw [if_neg (by rw [decide_eq_false c4]; decide)]
    -- a made one
    have made : madeZ z = true ∧ fitZ z r.dropLast = true ∧ wfM j (lastD (.tuple (.str z :: r))) := by
      rcases hw with h | ⟨z', r', e', h1, h2, h3⟩
      · obtain ⟨z', r', e', hz'⟩ := looks_names (okN_parts h).1
        injection e' with e'
        injection e' with e1 e2
        injection e1 with e1
        subst e1
        rcases hz' with h | h | h | h
        · exact absurd h c1
        · exact absurd h c4
        · exact absurd h c3
        · exact absurd h c2
      · injection e' with e'
        injection e' with e1 e2
        injection e1 with e1
        subst e1
        subst e2
        exact ⟨h1, h2, h3⟩
    obtain ⟨hz, hf, hw'⟩ := made
    have hm : madeD (.tuple (.str z :: r)) = true := hz
    rw [mV, if_pos hm, head_str, head_str, head_str] at q q0
    refine ⟨_, rfl, .str z, .str "marks", .str _, .str _, lay, str_lay _, str_dep _, _, rfl, ?_⟩
    show if named "marks" (.str z) = true then _ else _
    rw [named_str]
    by_cases c5 : z = "marks"
    · subst c5
      rw [if_pos (decide_eq_true rfl)] at q ⊢
      obtain ⟨x, y, i, rfl⟩ := two_parts (a := (1, 40)) (b := (1, 40)) hf
      obtain ⟨u0, u1, u2, d0, d1, d2, rfl, e3, _, _, hi⟩ := dp3 hr' (by rw [dp_all_len hr']; rfl)
      cases e3
      exact ⟨_, rfl, a, _, 3, u2, rfl, rfl, hT, rfl, u2, i, _, rfl, hi, gr i (List.mem_cons_of_mem _ (List.mem_cons_of_mem _ List.mem_cons_self)), hw', fun H1 s1 => ⟨_, _, rfl, rfl, q H1 s1⟩⟩
    rw [if_neg (by rw [decide_eq_false c5]; decide)] at q q0 ⊢
    refine ⟨_, rfl, .str z, .str "secrets", .str _, .str _, lay, str_lay _, str_dep _, _, rfl, ?_⟩
    show if named "secrets" (.str z) = true then _ else _
    rw [named_str]
    by_cases c6 : z = "secrets"
    · subst c6
      rw [if_pos (decide_eq_true rfl)] at q ⊢
      obtain ⟨x, y, i, rfl⟩ := two_parts (a := (1, 40)) (b := (1, 40)) hf
      obtain ⟨u0, u1, u2, d0, d1, d2, rfl, e3, _, _, hi⟩ := dp3 hr' (by rw [dp_all_len hr']; rfl)
      cases e3
      exact ⟨_, rfl, a, _, 3, u2, rfl, rfl, hT, rfl, u2, i, _, rfl, hi, gr i (List.mem_cons_of_mem _ (List.mem_cons_of_mem _ List.mem_cons_self)), hw', fun H1 s1 => q H1 s1⟩
    rw [if_neg (by rw [decide_eq_false c6]; decide)] at q q0 ⊢
    refine ⟨_, rfl, .str z, .str "counter", .str _, .str _, lay, str_lay _, str_dep _, _, rfl, ?_⟩
    show if named "counter" (.str z) = true then _ else _
    rw [named_str]
    by_cases c7 : z = "counter"
    · subst c7
      rw [if_pos (decide_eq_true rfl)] at q0 ⊢
      obtain ⟨l, c, m2, x, rfl, _, _⟩ := counter_parts hf
      obtain ⟨u0, u1, u2, u3, d0, d1, d2, d3, rfl, e4, p0, p1, p2, p3⟩ := dp4 hr' (by rw [dp_all_len hr']; rfl)
      cases e4
      cases p1
      exact ⟨_, rfl, a, _, 2, .int c, rfl, rfl, hT, rfl, q0⟩
    rw [if_neg (by rw [decide_eq_false c7]; decide)] at q0 ⊢
    exact q0
theorem no_most {f : Addr} {fd : FuncData} (k : Nat) : FnOk P w K mg base CX0 k f fd ["breaker"] (spLM K 0) :=
  ⟨fun _ _ _ _ h => (by obtain ⟨_, _, _, _, _, _, z, _⟩ := h; exact z.elim), fun _ _ _ _ _ _ _ _ _ _ _ _ _ h => (by obtain ⟨_, _, _, _, _, _, z, _⟩ := h; exact z.elim)⟩
theorem ok_lawmost {f : Addr} {fd : FuncData} (D : Df K mg "_law_most" s_law_most ["breaker"] f fd) (T : Txt K w mg cs) : ∀ j : Nat, FnOk P w K mg base CX0 (j + 1) f fd ["breaker"] (spLM K j)
  | 0 => no_most _
  | j + 1 => most_step D T j (D.cl (ok_lawmost D T j))

theorem ok_isright {f : Addr} {fd : FuncData} (D : Df K mg "_law_is_right" s_law_is_right ["breaker"] f fd) (T : Txt K w mg cs) (c_most_asks : Cl P w K mg base (L2.CX P w) 7 "most_asks" (spMA K cs.BadBreaker)) (c_law_most : Cl P w K mg base CX0 81 "_law_most" (spLM K 80)) : FnOk P w K mg base CX0 82 f fd ["breaker"] (spIR K) := by
  refine D.fn.ok sc_law_is_right (fun vs H Q E h => ?_) (fun cdv A outer s H vs Q E hr h => ?_)
  · obtain ⟨v, d, n, rfl, _⟩ := h
    rfl
  · obtain ⟨v, d, n, rfl, hd, hg, hb, q⟩ := h
    refine ⟨_, (pss_cons (ps_set (i := 1) sc_law_is_right.nd rfl (.inl rfl) (pe_clX c_most_asks hr (by first | decide | omega) (by rfl) takes0 (pa_cons (pv 0) pa_nil))) (pss_one (ps_ret (pe_and (pe_callB (isiK K) (by rfl) T.n_isinstance (by decide +kernel) (pa_cons (pv 1) (pa_cons (pe_ty "int" (by rfl) T.n_int (by decide +kernel)) pa_nil))) (pe_and (pe_not (pe_callB (isiK K) (by rfl) T.n_isinstance (by decide +kernel) (pa_cons (pv 1) (pa_cons (pe_ty "bool" (by rfl) T.n_bool (by decide +kernel)) pa_nil)))) (pe_one (pe_cmpR op_eq (pv 1) (pe_cl c_law_most hr (by first | decide | omega) (by rfl) (pa_cons (pv 0) pa_nil)) (nomark _)))))))), ?_⟩
    obtain ⟨hw, hv⟩ := chk_most hb
    refine ⟨_, rfl, v, d, n, rfl, hd, hg, fun H1 s1 => ⟨fun _ => ?_, fun no => by rw [hb] at no; cases no⟩⟩
    refine ⟨_, rfl, _, _, _, _, true, rfl, .ty "int", .base (.int _), kit_ty (by decide +kernel), _, rfl, ?_⟩
    refine ⟨_, rfl, _, _, _, _, false, rfl, .ty "bool", .base (.int _), kit_ty (by decide +kernel), _, rfl, _, rfl, ?_⟩
    refine ⟨_, rfl, _, rfl, v, d, n, rfl, dp_same s1 d hd, hg, hw, fun H2 s2 => ⟨rfl, ?_⟩⟩
    rw [decide_eq_true (show V.int (progM 20 d) = V.int (mV 80 d) from congrArg V.int hv.symm)]
    exact q H2 (s1.trans s2)
theorem ok_law08 {f : Addr} {fd : FuncData} (F : Fun K "law" "law" s_law f fd) (T : Txt K w mg cs) (c_law_draws : Cl P w K mg base CX0 1 "_law_draws" (spDraws K)) (c_law_take : Cl P w K mg base CX0 1 "_law_take" spTake) (c_law_breaker : Cl P w K mg base CX0 8 "_law_breaker" (spBr K 5))
    (c_law_made : Cl P w K mg base CX0 4 "_law_made" (spMd K)) (c_law_is_right : Cl P w K mg base CX0 82 "_law_is_right" (spIR K)) (c_most_asks : Cl P w K mg base (L2.CX P w) 7 "most_asks" (spMA K cs.BadBreaker)) : FnOk P w K mg base CX0 83 f fd ["script"] (spLaw K) := by
  refine F.ok sc_law (fun vs H Q E h => ?_) (fun cdv A outer s H vs Q E hr h => ?_)
  · obtain ⟨a, ns, rfl, _⟩ := h
    rfl
  · obtain ⟨a, ns, rfl, hS, hlen, q⟩ := h
    refine ⟨_, (pss_cons (ps_set (i := 1) sc_law.nd rfl (.inl rfl) (pe_lst (pa_cons (pe_cl c_law_draws hr (by first | decide | omega) (by rfl) (pa_cons (pv 0) (pa_cons pe_int pa_nil))) (pa_cons pe_int pa_nil)))) (pss_cons (ps_set (i := 2) sc_law.nd rfl (.inl rfl) (pe_cl c_law_breaker hr (by first | decide | omega) (by rfl) (pa_cons (pv 1) (pa_cons (pe_op op_add pe_int (pe_cl c_law_take hr (by first | decide | omega) (by rfl) (pa_cons (pv 1) (pa_cons pe_int pa_nil)))) (pa_cons pe_int (pa_cons (pe_op op_add pe_int (pe_cl c_law_take hr (by first | decide | omega) (by rfl) (pa_cons (pv 1) (pa_cons pe_int pa_nil)))) (pa_cons pe_int pa_nil))))))) (pss_cons (ps_set (i := 3) sc_law.nd rfl (.inl rfl) (pv 2)) (pss_cons (ps_if (pt_not (pt_val (pe_cl c_law_is_right hr (by first | decide | omega) (by rfl) (pa_cons (pv 2) pa_nil)))) (pss_one (ps_ret pe_bl)) pss_nil) (pss_cons (ps_for PassesOwn.never rfl (pi_range1 (by rfl) T.n_range (pa_cons pe_int pa_nil)) (pg_name (i := 4) sc_law.nd rfl (.inl rfl)) (pss_cons (ps_set (i := 3) sc_law.nd rfl (.inl rfl) (pe_cl c_law_made hr (by first | decide | omega) (by rfl) (pa_cons (pv 1) (pa_cons (pv 3) pa_nil)))) (pss_one (ps_if (PW.pt (pw_or (pt_not (pt_val (pe_cl c_law_is_right hr (by first | decide | omega) (by rfl) (pa_cons (pv 3) pa_nil)))) (pw_or1 (pt_not (pt_val (pe_cl c_law_is_right hr (by first | decide | omega) (by rfl) (pa_cons (pe_tup (pa_cons pe_str (pa_cons pe_int (pa_cons pe_int (pa_cons (pe_tup (pa_cons pe_str (pa_cons pe_int (pa_cons pe_int (pa_cons (pv 3) pa_nil))))) pa_nil))))) pa_nil))))))) (pss_one (ps_ret pe_bl)) pss_nil)))) (pss_cons (ps_set (i := 5) sc_law.nd rfl (.inl rfl) (pv 2)) (pss_cons (ps_for PassesOwn.never rfl (pi_range1 (by rfl) T.n_range (pa_cons (pe_cl c_law_take hr (by first | decide | omega) (by rfl) (pa_cons (pv 1) (pa_cons pe_int pa_nil))) pa_nil)) (pg_name (i := 4) sc_law.nd rfl (.inl rfl)) (pss_one (ps_set (i := 5) sc_law.nd rfl (.inl rfl) (pe_ix (ixL K) (pe_lst (pa_cons (pe_tup (pa_cons pe_str (pa_cons (pe_tup (pa_cons pe_int pa_nil)) (pa_cons (pv 5) pa_nil)))) (pa_cons (pe_tup (pa_cons pe_str (pa_cons pe_int (pa_cons (pe_tup (pa_cons pe_str (pa_cons (pe_tup pa_nil) (pa_cons (pe_tup (pa_cons pe_str (pa_cons (pe_tup pa_nil) pa_nil))) pa_nil)))) (pa_cons (pe_tup (pa_cons pe_str (pa_cons (pe_tup (pa_cons pe_str pa_nil)) (pa_cons (pv 5) pa_nil)))) pa_nil))))) pa_nil))) (pe_cl c_law_take hr (by first | decide | omega) (by rfl) (pa_cons (pv 1) (pa_cons pe_int pa_nil))) (fun _ _ => rfl))))) (pss_cons (ps_if (PW.pt (pw_or (pt_not (pt_val (pe_cl c_law_is_right hr (by first | decide | omega) (by rfl) (pa_cons (pv 5) pa_nil)))) (pw_or1 (pt_not (pt_val (pe_cl c_law_is_right hr (by first | decide | omega) (by rfl) (pa_cons (pe_tup (pa_cons pe_str (pa_cons pe_int (pa_cons pe_int (pa_cons (pv 5) pa_nil))))) pa_nil))))))) (pss_one (ps_ret pe_bl)) pss_nil) (pss_cons (ps_set (i := 6) sc_law.nd rfl (.inl rfl) (pe_ix (ixL K) (pe_lst (pa_cons pe_non (pa_cons (pe_tup pa_nil) (pa_cons (pe_tup (pa_cons pe_str (pa_cons (pe_tup (pa_cons pe_int pa_nil)) pa_nil))) (pa_cons (pe_tup (pa_cons pe_str (pa_cons (pe_lst (pa_cons pe_int pa_nil)) pa_nil))) (pa_cons (pe_tup (pa_cons pe_str (pa_cons pe_int (pa_cons pe_int (pa_cons (pv 2) pa_nil))))) (pa_cons pe_int (pa_cons pe_str (pa_cons (pe_tup (pa_cons pe_str (pa_cons (pe_tup pa_nil) pa_nil))) (pa_cons (pe_tup (pa_cons pe_str (pa_cons pe_int (pa_cons (pe_tup (pa_cons pe_str (pa_cons (pe_tup pa_nil) pa_nil))) (pa_cons (pe_tup (pa_cons pe_str (pa_cons (pe_tup (pa_cons pe_str pa_nil)) pa_nil))) pa_nil))))) pa_nil)))))))))) (pe_cl c_law_take hr (by first | decide | omega) (by rfl) (pa_cons (pv 1) (pa_cons pe_int pa_nil))) (fun _ _ => rfl))) (pss_cons (ps_try_many (Wout := fun _ _ _ _ => False) rfl rfl takes0 (fun W pn xe tk _ => (pss_one (ps_expr (pe_clX c_most_asks hr (by first | decide | omega) (by rfl) tk (pa_cons (pv 6) pa_nil))))) (HdsOk.cons ⟨rfl, by decide, .inl T.gl_BadBreaker⟩ (fun a oe cls d pn hz hf => (pss_one (ps_ret pe_bl))) HdsOk.nil)) (pss_one (ps_ret pe_bl)))))))))))), ?_⟩
    refine ⟨_, rfl, a, ns, 400, rfl, hS, hlen, by omega, fun d ds H1 nd s1 ed hd0 => ⟨(by show 2 ≤ sizeLine; decide), fun b nb => ?_⟩⟩
    have hn1 : Hnd (upd H1 b (.lst [.ref d, .int 0])) b d := ⟨ds, 0, upd_same, by rw [upd_ne (ne_of_none ed nb)]; exact ed, hd0, ne_of_none ed nb⟩
    generalize upd H1 b (.lst [.ref d, .int 0]) = H2 at hn1
    clear nb ed nd s1 hd0
    have q1 : ∀ H', Q (.bl true) H' := q
    clear q
    -- plain
    refine ⟨_, rfl, _, rfl, b, d, 4, rfl, by decide, hn1, fun r1 H3 l1 u1 n3 k3 => ⟨_, _, rfl, rfl, _, rfl, b, d, 3, rfl, by decide, n3, fun r2 H4 l2 u2 n4 k4 => ⟨_, _, rfl, rfl, ?_⟩⟩⟩
    obtain ⟨dep, edep, hdep⟩ : ∃ n : Nat, (2 : Int) + r1 = (n : Int) ∧ n ≤ 5 := ⟨(2 + r1).toNat, by omega, by omega⟩
    obtain ⟨len, elen, hlen⟩ : ∃ n : Nat, (1 : Int) + r2 = (n : Int) ∧ n ≤ 3 := ⟨(1 + r2).toNat, by omega, by omega⟩
    refine ⟨b, d, dep, 4, len, 1, ?_, hdep, by omega, by omega, n4, fun v H5 pb n5 k5 => ?_⟩
    · show [V.ref b, V.int (2 + r1), V.int 4, V.int (1 + r2), V.int 1] = _
      rw [edep, elen]
      rfl
    obtain ⟨D0, hD0, hP0, hok0, hsz0⟩ := pb
    have hsz : szN (dep + 1) D0 ≤ 364 := Nat.le_trans hsz0 (bsz6 (by omega))
    clear l1 u1 l2 u2 edep elen n3 n4 hn1 k3 k4 k5 hsz0
    have hchk : ∀ n, chk n D0 = true := fun n => chk_ofplain hok0 (by omega) (by omega)
    refine ⟨_, rfl, ?_⟩
    refine ⟨_, rfl, v, D0, _, rfl, dp_same (off_same b H5) _ hD0, pl_gd hP0, hchk 20, fun H6 s6 => ⟨_, rfl, ?_⟩⟩
    have n6 := n5.same s6
    have hD6 := dp_same (same_off (a := b) s6) _ hD0
    clear n5 s6 hD0
    -- made ones
    refine ⟨_, rfl, by decide, by decide, for_range (lo := 0) (n := 4) (fun i σ H' => ∃ (vb : V) (D : PyData) (n : Nat) (y4 : Option V), σ = [some (.ref a), some (.ref b), some v, some vb, y4, none, none] ∧ Hnd H' b d ∧ Dp K (off b H') v D0 ∧ Dp K (off b H') vb D ∧ Pl n D ∧ chk i D = true) ?_ ?_ ?_⟩
    · exact ⟨v, D0, _, none, rfl, n6, hD6, hD6, hP0, hchk 0⟩
    · rintro i σ H' hi ⟨vb, D, n, y4, rfl, h1, hp, hv, hP, hc⟩
      refine ⟨_, rfl, _, rfl, b, d, vb, D, n, i, rfl, hv, hP, hc, h1, fun v' D' H2 hv' hP' hc' n2 k2 => ?_⟩
      refine ⟨_, rfl, v', D', _, rfl, dp_same (off_same b H2) _ hv', pl_gd hP', chk_le hc' (by omega), fun H3 s3 => ⟨_, rfl, ?_⟩⟩
      have k3 := Keep.same (a := b) s3
      have n3 := n2.same s3
      refine ⟨_, rfl, (by show 4 ≤ sizeLine; decide), fun p1 np1 => ⟨(by show 4 ≤ sizeLine; decide), fun p2 np2 => ?_⟩⟩
      obtain ⟨n4, k4, a1⟩ := mkT (K := K) n3 np1 (.cons (.str "secrets") (.cons (.int 2) (.cons (.int 3) (.cons (dp_same k3.off _ hv') .nil))))
      obtain ⟨n5, k5, a2⟩ := mkT (K := K) n4 np2 (.cons (.str "marks") (.cons (.int 1) (.cons (.int 1) (.cons a1 .nil))))
      have c2 := marks_of (i := 1) (j := 1) (secrets_of (i := 2) (j := 3) hc' (by decide) (by decide) (by decide) (by decide)) (by decide) (by decide) (by decide) (by decide)
      have g2 := pl4 (z := "marks") (i := 1) (j := 1) ⟨by decide +kernel, by decide +kernel⟩ (pl4 (z := "secrets") (i := 2) (j := 3) ⟨by decide +kernel, by decide +kernel⟩ hP')
      refine ⟨_, _, _, rfl, dp_same (off_same b _) _ a2, pl_gd g2, chk_le c2 (by omega), fun H4 s4 => ⟨_, rfl, ?_⟩⟩
      have kk := ((k3.trans k4).trans k5).trans (Keep.same s4)
      exact ⟨v', D', _, _, rfl, n5.same s4, dp_same (k2.trans kk).off _ hp, dp_same kk.off _ hv', hP', hc'⟩
    · rintro σ H' ⟨vb, D, n, y4, rfl, h1, hp, hv, hP, hc⟩
      clear hv hP hc D n hD6 n6
      -- the chain
      refine ⟨_, rfl, ?_⟩
      refine ⟨_, rfl, b, d, 27, rfl, by decide, h1, fun r3 H7 l3 u3 n7 k7 => ?_⟩
      obtain ⟨many, em, hm⟩ : ∃ n : Nat, r3 = (n : Int) ∧ n ≤ 26 := ⟨r3.toNat, by omega, by omega⟩
      subst em
      refine ⟨_, rfl, by omega, by omega, for_range (lo := 0) (n := many) (fun i σ H' => ∃ (vc : V) (D : PyData) (n j : Nat) (y4 : Option V), σ = [some (.ref a), some (.ref b), some v, some vb, y4, some vc, none] ∧ Hnd H' b d ∧ Dp K (off b H') v D0 ∧ Dp K (off b H') vc D ∧ Pl n D ∧ okN j D = true ∧ j ≤ 6 + 2 * i ∧ szN j D ≤ 364 + 4 * i) ?_ ?_ ?_⟩
      · exact ⟨v, D0, _, dep + 1, y4, rfl, n7, dp_same k7.off _ hp, dp_same k7.off _ hp, hP0, hok0, by omega, by omega⟩
      · rintro i σ H8 hi ⟨vc, D, n, j, z4, rfl, h8, hp8, hv8, hP8, hok8, hj8, hs8⟩
        have hj0 := okN_pos hok8
        -- ('ask', (0,), chain)
        refine ⟨(by show 1 ≤ sizeLine; decide), fun p1 np1 => ⟨_, rfl, (by show 3 ≤ sizeLine; decide), fun p2 np2 => ?_⟩⟩
        obtain ⟨g1, x1, d1⟩ := mkT (K := K) h8 np1 (.cons (.int 0) .nil)
        obtain ⟨g2, x2, d2⟩ := mkT (K := K) g1 np2 (.cons (.str "ask") (.cons d1 (.cons (dp_same x1.off _ hv8) .nil)))
        have x12 := x1.trans x2
        clear d1 g1 x1 x2
        generalize upd (upd H8 p1 (.tup [.int 0])) p2 (.tup [.str "ask", .ref p1, vc]) = H9 at g2 x12 d2
        clear np1 np2
        -- ('look', 3, ('ask', (), ('say', ())), ('ask', ('0',), chain))
        refine ⟨(by show 0 ≤ sizeLine; exact Nat.zero_le _), fun p3 np3 => ⟨(by show 0 ≤ sizeLine; exact Nat.zero_le _), fun p4 np4 => ⟨(by show 2 ≤ sizeLine; decide), fun p5 np5 => ⟨(by show 3 ≤ sizeLine; decide), fun p6 np6 => ?_⟩⟩⟩⟩
        obtain ⟨g3, x3, d3⟩ := mkT (K := K) g2 np3 .nil
        obtain ⟨g4, x4, d4⟩ := mkT (K := K) g3 np4 .nil
        obtain ⟨g5, x5, d5⟩ := mkT (K := K) g4 np5 (.cons (.str "say") (.cons d4 .nil))
        obtain ⟨g6, x6, d6⟩ := mkT (K := K) g5 np6 (.cons (.str "ask") (.cons (dp_same (x4.trans x5).off _ d3) (.cons d5 .nil)))
        have x36 := ((x3.trans x4).trans x5).trans x6
        clear d3 d4 d5 g3 g4 g5 x3 x4 x5 x6
        generalize upd (upd (upd (upd H9 p3 (.tup [])) p4 (.tup [])) p5 (.tup [.str "say", .ref p4])) p6 (.tup [.str "ask", .ref p3, .ref p5]) = HA at g6 x36 d6
        clear np3 np4 np5 np6
        refine ⟨(by show 1 ≤ sizeLine; decide), fun p7 np7 => ⟨_, rfl, (by show 3 ≤ sizeLine; decide), fun p8 np8 => ⟨(by show 4 ≤ sizeLine; decide), fun p9 np9 => ⟨(by show 2 ≤ sizeLine; decide), fun L nL => ?_⟩⟩⟩⟩
        obtain ⟨g7, x7, d7⟩ := mkT (K := K) g6 np7 (.cons (.str "0") .nil)
        obtain ⟨g8, x8, d8⟩ := mkT (K := K) g7 np8 (.cons (.str "ask") (.cons d7 (.cons (dp_same ((x12.trans x36).trans x7).off _ hv8) .nil)))
        obtain ⟨g9, x9, d9⟩ := mkT (K := K) g8 np9 (.cons (.str "look") (.cons (.int 3) (.cons (dp_same (x7.trans x8).off _ d6) (.cons d8 .nil))))
        obtain ⟨gL, xL, _, Lb⟩ := mkLs (vs := [.ref p2, .ref p9]) g9 nL
        have e1 := dp_same ((((x36.trans x7).trans x8).trans x9).trans xL).off _ d2
        have e2 := dp_same xL.off _ d9
        have eL : upd (upd (upd (upd HA p7 (.tup [.str "0"])) p8 (.tup [.str "ask", .ref p7, vc])) p9 (.tup [.str "look", .int 3, .ref p6, .ref p8])) L (.lst [.ref p2, .ref p9]) L = some (.lst [.ref p2, .ref p9]) := upd_same
        have xall := ((((x12.trans x36).trans x7).trans x8).trans x9).trans xL
        generalize upd (upd (upd (upd HA p7 (.tup [.str "0"])) p8 (.tup [.str "ask", .ref p7, vc])) p9 (.tup [.str "look", .int 3, .ref p6, .ref p8])) L (.lst [.ref p2, .ref p9]) = HB at gL e1 e2 eL xall
        clear d2 d6 d7 d8 d9 g2 g6 g7 g8 g9 x12 x36 x7 x8 x9 xL np7 np8 np9 nL
        refine ⟨_, rfl, b, d, 2, rfl, by decide, gL, fun r5 H12 l5 u5 n12 k12 => ?_⟩
        have eL2 := k12 _ _ eL Lb
        have er : r5 = 0 ∨ r5 = 1 := by omega
        have hp12 := dp_same (xall.trans k12).off _ hp8
        have pz : partsOk (.tuple [.int 0]) = true := by decide
        rcases er with e | e <;> subst e
        · refine ⟨L, _, 0, .ref p2, rfl, rfl, .inl (.inl eL2), rfl, ?_⟩
          have ho := ok_askD pz hok8
          refine ⟨.ref p2, _, n + 2, j + 1, _, rfl, n12, hp12, dp_same k12.off _ e1, ?_, ho.1, by omega, by rw [ho.2]; omega⟩
          refine ⟨(by show 3 ≤ 5000; decide), fun x hx => ?_⟩
          rcases List.mem_cons.mp hx with e | hx
          · exact e ▸ pl_word
          rcases List.mem_cons.mp hx with e | hx
          · rw [e]
            refine ⟨(by show 1 ≤ 5000; decide), fun y hy => ?_⟩
            rw [List.mem_singleton.mp hy]
            exact pl_int
          · rw [List.mem_singleton.mp hx]
            exact pl_le hP8 (by omega)
        · refine ⟨L, _, 1, .ref p9, rfl, rfl, .inl (.inl eL2), rfl, ?_⟩
          have h0 := ok_say (j := 0) (ds := []) (by decide)
          have h1' := ok_askD (j := 1) (ds := []) (by decide) h0.1
          have h2 := ok_askD (j := j) (ds := [.str "0"]) (by decide) hok8
          have h3 : okN (j + 1) (.tuple [.str "ask", .tuple [], .tuple [.str "say", .tuple []]]) = true ∧ szN (j + 1) (.tuple [.str "ask", .tuple [], .tuple [.str "say", .tuple []]]) = 2 := by
            obtain ⟨k, ek⟩ : ∃ k, j + 1 = 2 + k := ⟨j - 1, by omega⟩
            rw [ek]
            exact ⟨(ok_stableN h1'.1 k).1, (sz_stableN h1'.1 k).trans (h1'.2.trans (by rw [h0.2]))⟩
          have ho := ok_look (i := 3) (by decide) (by decide) h3.1 h2.1
          refine ⟨.ref p9, _, n + 4, j + 2, _, rfl, n12, hp12, dp_same k12.off _ e2, ?_, ho.1, by omega, by rw [ho.2, h3.2, h2.2]; omega⟩
          have pnil : ∀ {m : Nat}, Pl (m + 1) (.tuple []) := ⟨Nat.zero_le _, fun x hx => (nomatch hx)⟩
          refine ⟨(by show 4 ≤ 5000; decide), fun x hx => ?_⟩
          rcases List.mem_cons.mp hx with e | hx
          · exact e ▸ pl_word
          rcases List.mem_cons.mp hx with e | hx
          · exact e ▸ pl_int
          rcases List.mem_cons.mp hx with e | hx
          · rw [e]
            refine ⟨(by show 3 ≤ 5000; decide), fun y hy => ?_⟩
            rcases List.mem_cons.mp hy with e | hy
            · exact e ▸ pl_word
            rcases List.mem_cons.mp hy with e | hy
            · exact e ▸ pnil
            · rw [List.mem_singleton.mp hy]
              refine ⟨(by show 2 ≤ 5000; decide), fun y hy => ?_⟩
              rcases List.mem_cons.mp hy with e | hy
              · exact e ▸ pl_word
              · rw [List.mem_singleton.mp hy]
                exact pnil
          · rw [List.mem_singleton.mp hx]
            refine ⟨(by show 3 ≤ 5000; decide), fun y hy => ?_⟩
            rcases List.mem_cons.mp hy with e | hy
            · exact e ▸ pl_word
            rcases List.mem_cons.mp hy with e | hy
            · rw [e]
              refine ⟨(by show 1 ≤ 5000; decide), fun y hy => ?_⟩
              rw [List.mem_singleton.mp hy]
              exact pl_word
            · rw [List.mem_singleton.mp hy]
              exact pl_le hP8 (by omega)
      · rintro σ H8 ⟨vc, D, n, j, z4, rfl, h8, hp8, hv8, hP8, hok8, hj8, hs8⟩
        have hck : ∀ n, chk n D = true := fun n => chk_ofplain hok8 (by omega) (by omega)
        refine ⟨_, rfl, vc, D, _, rfl, dp_same (off_same b H8) _ hv8, pl_gd hP8, hck 20, fun H9 s9 => ⟨_, rfl, ?_⟩⟩
        have n9 := h8.same s9
        have k9 := Keep.same (a := b) s9
        refine ⟨_, rfl, (by show 4 ≤ sizeLine; decide), fun p1 np1 => ?_⟩
        obtain ⟨n10, k10, a1⟩ := mkT (K := K) n9 np1 (.cons (.str "marks") (.cons (.int 3) (.cons (.int 1) (.cons (dp_same k9.off _ hv8) .nil))))
        have g1 := pl4 (z := "marks") (i := 3) (j := 1) ⟨by decide +kernel, by decide +kernel⟩ hP8
        refine ⟨_, _, _, rfl, dp_same (off_same b _) _ a1, pl_gd g1, marks_of (hck 19) (by decide) (by decide) (by decide) (by decide), fun H11 s11 => ⟨_, rfl, ?_⟩⟩
        have n11 := n10.same s11
        have hp11 := dp_same ((k9.trans k10).trans (Keep.same s11)).off _ hp8
        clear a1 g1 k10 np1 n10 n9 k9 s9 s11 hv8 hP8 hok8 hck hp8 h8 h1 n7 k7 hp
        -- the wrong ones
        refine ⟨(by show 0 ≤ sizeLine; exact Nat.zero_le _), fun p1 np1 => ⟨(by show 1 ≤ sizeLine; decide), fun p2 np2 => ⟨(by show 2 ≤ sizeLine; decide), fun p3 np3 => ⟨(by show 1 ≤ sizeLine; decide), fun l4 nl4 => ⟨(by show 2 ≤ sizeLine; decide), fun p5 np5 => ⟨_, rfl, (by show 4 ≤ sizeLine; decide), fun p6 np6 => ?_⟩⟩⟩⟩⟩⟩
        obtain ⟨g1, x1, d1⟩ := mkT (K := K) n11 np1 .nil
        obtain ⟨g2, x2, d2⟩ := mkT (K := K) g1 np2 (.cons (.int 0) .nil)
        obtain ⟨g3, x3, d3⟩ := mkT (K := K) g2 np3 (.cons (.str "ask") (.cons d2 .nil))
        obtain ⟨g4, x4, e4, l4b⟩ := mkLs (vs := [.int 0]) g3 nl4
        have d4 : Dp K (off b (upd (upd (upd (upd H11 p1 (.tup [])) p2 (.tup [.int 0])) p3 (.tup [.str "ask", .ref p2])) l4 (.lst [.int 0]))) (.ref l4) (.list [.int 0]) := .lst (.inl (.inl (by rw [off_ne l4b]; exact e4))) (.cons (.int 0) .nil)
        obtain ⟨g5, x5, d5⟩ := mkT (K := K) g4 np5 (.cons (.str "say") (.cons d4 .nil))
        obtain ⟨g6, x6, d6⟩ := mkT (K := K) g5 np6 (.cons (.str "marks") (.cons (.int 1) (.cons (.int 0) (.cons (dp_same ((((x1.trans x2).trans x3).trans x4).trans x5).off _ hp11) .nil))))
        have y1 := dp_same ((((x2.trans x3).trans x4).trans x5).trans x6).off _ d1
        have y3 := dp_same ((x4.trans x5).trans x6).off _ d3
        have y5 := dp_same x6.off _ d5
        generalize upd (upd (upd (upd (upd (upd H11 p1 (.tup [])) p2 (.tup [.int 0])) p3 (.tup [.str "ask", .ref p2])) l4 (.lst [.int 0])) p5 (.tup [.str "say", .ref l4])) p6 (.tup [.str "marks", .int 1, .int 0, v]) = HA at g6 y1 y3 y5 d6
        clear d1 d2 d3 d4 d5 g1 g2 g3 g4 g5 x1 x2 x3 x4 x5 x6 e4 np1 np2 np3 nl4 np5 np6 n11 hp11 l4b
        refine ⟨(by show 0 ≤ sizeLine; exact Nat.zero_le _), fun p7 np7 => ⟨(by show 2 ≤ sizeLine; decide), fun p8 np8 => ⟨(by show 0 ≤ sizeLine; exact Nat.zero_le _), fun p9 np9 => ⟨(by show 2 ≤ sizeLine; decide), fun p10 np10 => ⟨(by show 1 ≤ sizeLine; decide), fun p11 np11 => ⟨(by show 2 ≤ sizeLine; decide), fun p12 np12 => ⟨(by show 4 ≤ sizeLine; decide), fun p13 np13 => ⟨(by show 9 ≤ sizeLine; decide), fun L nL => ?_⟩⟩⟩⟩⟩⟩⟩⟩
        obtain ⟨g7, x7, d7⟩ := mkT (K := K) g6 np7 .nil
        obtain ⟨g8, x8, d8⟩ := mkT (K := K) g7 np8 (.cons (.str "toss") (.cons d7 .nil))
        obtain ⟨g9, x9, d9⟩ := mkT (K := K) g8 np9 .nil
        obtain ⟨g10, x10, d10⟩ := mkT (K := K) g9 np10 (.cons (.str "say") (.cons d9 .nil))
        obtain ⟨g11, x11, d11⟩ := mkT (K := K) g10 np11 (.cons (.str "2") .nil)
        obtain ⟨g12, x12, d12⟩ := mkT (K := K) g11 np12 (.cons (.str "say") (.cons d11 .nil))
        obtain ⟨g13, x13, d13⟩ := mkT (K := K) g12 np13 (.cons (.str "look") (.cons (.int 0) (.cons (dp_same (x11.trans x12).off _ d10) (.cons d12 .nil))))
        obtain ⟨gL, xL, eL, Lb⟩ := mkLs (vs := [.non, .ref p1, .ref p3, .ref p5, .ref p6, .int 7, .str "say", .ref p8, .ref p13]) g13 nL
        have x713 := (((((x7.trans x8).trans x9).trans x10).trans x11).trans x12).trans x13
        have hall : DpAll K (off b (upd (upd (upd (upd (upd (upd (upd (upd HA p7 (.tup [])) p8 (.tup [.str "toss", .ref p7])) p9 (.tup [])) p10 (.tup [.str "say", .ref p9])) p11 (.tup [.str "2"])) p12 (.tup [.str "say", .ref p11])) p13 (.tup [.str "look", .int 0, .ref p10, .ref p12])) L (.lst [.non, .ref p1, .ref p3, .ref p5, .ref p6, .int 7, .str "say", .ref p8, .ref p13])))
            [.non, .ref p1, .ref p3, .ref p5, .ref p6, .int 7, .str "say", .ref p8, .ref p13] [.none, .tuple [], .tuple [.str "ask", .tuple [.int 0]], .tuple [.str "say", .list [.int 0]], .tuple [.str "marks", .int 1, .int 0, D0], .int 7, .str "say", .tuple [.str "toss", .tuple []],
              .tuple [.str "look", .int 0, .tuple [.str "say", .tuple []], .tuple [.str "say", .tuple [.str "2"]]]] :=
          .cons .non (.cons (dp_same (x713.trans xL).off _ y1) (.cons (dp_same (x713.trans xL).off _ y3) (.cons (dp_same (x713.trans xL).off _ y5) (.cons (dp_same (x713.trans xL).off _ d6) (.cons (.int 7) (.cons (.str "say")
            (.cons (dp_same (((((x9.trans x10).trans x11).trans x12).trans x13).trans xL).off _ d8) (.cons (dp_same xL.off _ d13) .nil))))))))
        generalize upd (upd (upd (upd (upd (upd (upd (upd HA p7 (.tup [])) p8 (.tup [.str "toss", .ref p7])) p9 (.tup [])) p10 (.tup [.str "say", .ref p9])) p11 (.tup [.str "2"])) p12 (.tup [.str "say", .ref p11])) p13 (.tup [.str "look", .int 0, .ref p10, .ref p12])) L (.lst [.non, .ref p1, .ref p3, .ref p5, .ref p6, .int 7, .str "say", .ref p8, .ref p13]) = HB at gL eL hall
        clear d6 d7 d8 d9 d10 d11 d12 d13 y1 y3 y5 g6 g7 g8 g9 g10 g11 g12 g13 x7 x8 x9 x10 x11 x12 x13 xL x713 np7 np8 np9 np10 np11 np12 np13 nL
        refine ⟨_, rfl, b, d, 9, rfl, by decide, gL, fun r5 H12 l5 u5 n12 k12 => ?_⟩
        have eL2 := k12 _ _ eL Lb
        obtain ⟨i, rfl⟩ : ∃ i : Nat, r5 = (i : Int) := ⟨r5.toNat, by omega⟩
        have hi : i < 9 := by omega
        obtain ⟨x, hx⟩ : ∃ x : V, ([.non, .ref p1, .ref p3, .ref p5, .ref p6, .int 7, .str "say", .ref p8, .ref p13] : List V)[i]? = some x := ⟨_, List.getElem?_eq_getElem (by exact hi)⟩
        obtain ⟨dx, h1, h2⟩ := dp_all_get hall hx
        have hmem := List.mem_of_getElem? h1
        have hno := bad_no dx hmem
        have hgd : Gd (3 * (dep + 1) + 9) dx := by
          have pnil : ∀ {m : Nat}, Gd (m + 1) (.tuple []) := ⟨Nat.zero_le _, fun x hx => (nomatch hx)⟩
          have wd : ∀ {z : Str} {m : Nat}, okT z → Gd m (.str z) := fun h => gd_any h
          have two : ∀ {x y : PyData} {m : Nat}, Gd m x → Gd m y → Gd (m + 1) (.tuple [x, y]) := fun {x y m} hx hy => ⟨(by show 2 ≤ 5000; decide), fun z hz => by
            rcases List.mem_cons.mp hz with e | hz
            · exact e ▸ hx
            · rw [List.mem_singleton.mp hz]
              exact hy⟩
          have one : ∀ {x : PyData} {m : Nat}, Gd m x → Gd (m + 1) (.tuple [x]) := fun {x m} hx => ⟨(by show 1 ≤ 5000; decide), fun z hz => by
            rw [List.mem_singleton.mp hz]
            exact hx⟩
          have four : ∀ {x y z u : PyData} {m : Nat}, Gd m x → Gd m y → Gd m z → Gd m u → Gd (m + 1) (.tuple [x, y, z, u]) := fun {x y z u m} hx hy hz hu => ⟨(by show 4 ≤ 5000; decide), fun q hq => by
            rcases List.mem_cons.mp hq with e | hq
            · exact e ▸ hx
            rcases List.mem_cons.mp hq with e | hq
            · exact e ▸ hy
            rcases List.mem_cons.mp hq with e | hq
            · exact e ▸ hz
            · rw [List.mem_singleton.mp hq]
              exact hu⟩
          have gi : ∀ {i : Int} {m : Nat}, Gd m (.int i) := fun {i m} => gd_any (show Gd 0 (.int i) from trivial)
          have ww : okT "say" ∧ okT "ask" ∧ okT "toss" ∧ okT "look" ∧ okT "marks" ∧ okT "2" := ⟨⟨by decide +kernel, by decide +kernel⟩, ⟨by decide +kernel, by decide +kernel⟩, ⟨by decide +kernel, by decide +kernel⟩, ⟨by decide +kernel, by decide +kernel⟩, ⟨by decide +kernel, by decide +kernel⟩, ⟨by decide +kernel, by decide +kernel⟩⟩
          obtain ⟨w1, w2, w3, w4, w5, w6⟩ := ww
          clear h1
          rcases List.mem_cons.mp hmem with e | hm
          · rw [e]; exact gd_any (show Gd 0 .none from trivial)
          rcases List.mem_cons.mp hm with e | hm
          · rw [e]; exact pnil
          rcases List.mem_cons.mp hm with e | hm
          · rw [e]; exact two (wd w2) (one gi)
          rcases List.mem_cons.mp hm with e | hm
          · rw [e]
            refine two (wd w1) ⟨(by show 1 ≤ 5000; decide), fun z hz => ?_⟩
            rw [List.mem_singleton.mp hz]
            exact gi
          rcases List.mem_cons.mp hm with e | hm
          · rw [e]; exact four (wd w5) gi gi (gd_le (pl_gd hP0) (by omega))
          rcases List.mem_cons.mp hm with e | hm
          · rw [e]; exact gi
          rcases List.mem_cons.mp hm with e | hm
          · rw [e]; exact wd w1
          rcases List.mem_cons.mp hm with e | hm
          · rw [e]; exact two (wd w3) pnil
          · rw [List.mem_singleton.mp hm]; exact four (wd w4) gi (two (wd w1) pnil) (two (wd w1) (one (wd w6)))
        refine ⟨L, _, (i : Int), x, rfl, rfl, .inl (.inl eL2), atI_nat hx, ?_⟩
        refine ⟨_, rfl, x, dx, _, rfl, dp_same (off_same b _) _ (dp_same k12.off _ h2), hgd, fun H13 s13 => ⟨fun ok => absurd (hno.symm.trans ok) (by decide), fun _ => ⟨true, T.exm_BadBreaker_BadBreaker, fun _ a na => q1 _, fun z => nomatch z⟩⟩⟩

theorem mk_law {f1 f2 f3 f4 f5 f6 f7 f8 f9 f10 f11 f12 f13 f14 f15 f16 f17 f18 f19 f20 f21 f22 f23 f24 f25 f26 f27 f : Addr} {d1 d2 d3 d4 d5 d6 d7 d8 d9 d10 d11 d12 d13 d14 d15 d16 d17 d18 d19 d20 d21 d22 d23 d24 d25 d26 d27 fd : FuncData} (T : Txt K w mg cs)
    (D_is_whole : Df K mg "is_whole" s_is_whole ["value", "low", "high"] f1 d1)
    (D_are_rows : Df K mg "are_rows" s_are_rows ["value", "many", "m"] f2 d2)
    (D_is_generator : Df K mg "is_generator" s_is_generator ["value"] f3 d3)
    (D_are_numbers : Df K mg "are_numbers" s_are_numbers ["own", "bounds"] f4 d4)
    (D_fits_longer : Df K mg "fits_longer" s_fits_longer ["own"] f5 d5)
    (D_fits_tree : Df K mg "fits_tree" s_fits_tree ["own"] f6 d6)
    (D_fits_opening : Df K mg "fits_opening" s_fits_opening ["own"] f7 d7)
    (D_fits_onetime : Df K mg "fits_onetime" s_fits_onetime ["own"] f8 d8)
    (D_is_made : Df K mg "is_made" s_is_made ["value"] f9 d9)
    (D_fits_kind : Df K mg "fits_kind" s_fits_kind ["made"] f10 d10)
    (D_is_part : Df K mg "is_part" s_is_part ["value"] f11 d11)
    (D_are_parts : Df K mg "are_parts" s_are_parts ["value"] f12 d12)
    (D_looks_plain : Df K mg "looks_plain" s_looks_plain ["value"] f13 d13)
    (D_directly_within : Df K mg "directly_within" s_directly_within ["plain"] f14 d14)
    (D_is_plain_breaker : Df K mg "is_plain_breaker" s_is_plain_breaker ["value"] f15 d15)
    (D_check_breaker : Df K mg "check_breaker" s_check_breaker ["breaker"] f16 d16)
    (D_plain_asks : Df K mg "plain_asks" s_plain_asks ["breaker"] f17 d17)
    (D_most_asks : Df K mg "most_asks" s_most_asks ["breaker"] f18 d18)
    (D__law_draws : Df K mg "_law_draws" s_law_draws ["script", "many"] f19 d19)
    (D__law_take : Df K mg "_law_take" s_law_take ["hand", "many"] f20 d20)
    (D__law_string : Df K mg "_law_string" s_law_string ["hand", "length"] f21 d21)
    (D__law_table : Df K mg "_law_table" s_law_table ["hand", "n", "m"] f22 d22)
    (D__law_parts : Df K mg "_law_parts" s_law_parts ["hand", "length"] f23 d23)
    (D__law_breaker : Df K mg "_law_breaker" s_law_breaker ["hand", "depth", "asks", "length", "said"] f24 d24)
    (D__law_made : Df K mg "_law_made" s_law_made ["hand", "inner"] f25 d25)
    (D__law_most : Df K mg "_law_most" s_law_most ["breaker"] f26 d26)
    (D__law_is_right : Df K mg "_law_is_right" s_law_is_right ["breaker"] f27 d27)
    (F : Fun K "law" "law" s_law f fd) : FnOk P w K mg base CX0 top_level f fd ["script"] (spLaw K) := by
  have c_take : Cl P w K mg base CX0 1 "_law_take" spTake := D__law_take.cl (ok_take D__law_take T)
  have c_string : Cl P w K mg base CX0 2 "_law_string" spString := D__law_string.cl (ok_string D__law_string T c_take)
  have c_whole : Cl P w K mg base CX0 1 "is_whole" (spWhole K) := D_is_whole.cl (ok_whole D_is_whole T)
  have c_rows : Cl P w K mg base CX0 1 "are_rows" (spRows K) := D_are_rows.cl (ok_rows D_are_rows T)
  have c_gen : Cl P w K mg base CX0 2 "is_generator" (spD K genOk) := D_is_generator.cl (ok_gen D_is_generator T c_whole c_rows)
  have c_nums : Cl P w K mg base CX0 2 "are_numbers" (spNums K) := D_are_numbers.cl (ok_numbers D_are_numbers T c_whole)
  have c_l : Cl P w K mg base CX0 3 "fits_longer" (spOwn K fitLonger) := D_fits_longer.cl (ok_longerF D_fits_longer T c_whole c_gen)
  have c_t : Cl P w K mg base CX0 3 "fits_tree" (spOwn K fitTree) := D_fits_tree.cl (ok_treeF D_fits_tree T c_whole c_gen)
  have c_o : Cl P w K mg base CX0 3 "fits_opening" (spOwn K fitOpening) := D_fits_opening.cl (ok_openingF D_fits_opening T c_rows)
  have c_1 : Cl P w K mg base CX0 3 "fits_onetime" (spOwn K fitOnetime) := D_fits_onetime.cl (ok_onetimeF D_fits_onetime T c_whole c_gen)
  have c_made : Cl P w K mg base CX0 1 "is_made" (spD K madeD) := D_is_made.cl (ok_made D_is_made T)
  have c_kind : Cl P w K mg base CX0 4 "fits_kind" (spKind K) := D_fits_kind.cl (ok_kind D_fits_kind T c_nums fun f sp h => by
    rcases h with ⟨e, rfl⟩ | ⟨e, rfl⟩ | ⟨e, rfl⟩ | ⟨e, rfl⟩
    · exact held_of c_l e
    · exact held_of c_t e
    · exact held_of c_o e
    · exact held_of c_1 e)
  have c_parts : Cl P w K mg base CX0 3 "are_parts" (spD K partsOk) := D_are_parts.cl (ok_parts D_are_parts T (D_is_part.cl (ok_part D_is_part T c_whole)))
  have c_looks : Cl P w K mg base CX0 4 "looks_plain" (spD K looksOk) := D_looks_plain.cl (ok_looks D_looks_plain T c_whole c_parts)
  have c_kids : Cl P w K mg base CX0 1 "directly_within" (spKids K) := D_directly_within.cl (ok_kids D_directly_within T)
  have c_plain : Cl P w K mg base CX0 5 "is_plain_breaker" (spD K plainOk) := D_is_plain_breaker.cl (ok_plainB D_is_plain_breaker T c_looks c_kids)
  have c_check : Cl P w K mg base (L2.CX P w) 6 "check_breaker" (spCheckB K cs.BadBreaker) := D_check_breaker.cl (ok_checkB D_check_breaker T c_made c_kind c_plain)
  have c_most : Cl P w K mg base (L2.CX P w) 7 "most_asks" (spMA K cs.BadBreaker) := D_most_asks.cl (ok_most D_most_asks T c_check c_made (D_plain_asks.cl (ok_asks D_plain_asks T c_kids)))
  have c_lparts : Cl P w K mg base CX0 2 "_law_parts" (spParts8 K) := D__law_parts.cl (ok_lawparts D__law_parts T c_take)
  exact ok_law08 F T (D__law_draws.cl (ok_draws D__law_draws T)) c_take (D__law_breaker.cl (ok_br D__law_breaker T c_take c_lparts 5)) (D__law_made.cl (ok_lawmade D__law_made T c_take c_string (D__law_table.cl (ok_table D__law_table T c_string))))
    (D__law_is_right.cl (ok_isright D__law_is_right T c_most (D__law_most.cl (ok_lawmost D__law_most T 80)))) c_most
end
theorem all_mk {l : PySem.W.OpenLaw} {w : World} {K : PySem.W.Frag} {h : Heap} {mg : Str → Option Value} {fa f1 f2 f3 f4 f5 f6 f7 f8 f9 f10 f11 f12 f13 f14 f15 f16 f17 f18 f19 f20 f21 f22 f23 f24 f25 f26 f27 f28 : Addr} (X : K.In h) (G : h.Ns mainGlobals mg) (hfa : mg "law" = some (.ref fa))
    {od1 an1 od2 an2 od3 an3 od4 an4 od5 an5 od6 an6 od7 an7 od8 an8 od9 an9 od10 an10 od11 an11 od12 an12 od13 an13 od14 an14 od15 an15 od16 an16 od17 an17 od18 an18 od19 an19 od20 an20 od21 an21 od22 an22 od23 an23 od24 an24 od25 an25 od26 an26 od27 an27 od28 an28 : Option Addr} {sl1 sl2 sl3 sl4 sl5 sl6 sl7 sl8 sl9 sl10 sl11 sl12 sl13 sl14 sl15 sl16 sl17 sl18 sl19 sl20 sl21 sl22 sl23 sl24 sl25 sl26 sl27 sl28 : Array (Option Value)} {oc1 kV1 dc1 pm1 cd1 ct1 oc2 kV2 dc2 pm2 cd2 ct2 oc3 kV3 dc3 pm3 cd3 ct3 oc4 kV4 dc4 pm4 cd4 ct4 oc5 kV5 dc5 pm5 cd5 ct5 oc6 kV6 dc6 pm6 cd6 ct6 oc7 kV7 dc7 pm7 cd7 ct7 oc8 kV8 dc8 pm8 cd8 ct8 oc9 kV9 dc9 pm9 cd9 ct9 oc10 kV10 dc10 pm10 cd10 ct10 oc11 kV11 dc11 pm11 cd11 ct11 oc12 kV12 dc12 pm12 cd12 ct12 oc13 kV13 dc13 pm13 cd13 ct13 oc14 kV14 dc14 pm14 cd14 ct14 oc15 kV15 dc15 pm15 cd15 ct15 oc16 kV16 dc16 pm16 cd16 ct16 oc17 kV17 dc17 pm17 cd17 ct17 oc18 kV18 dc18 pm18 cd18 ct18 oc19 kV19 dc19 pm19 cd19 ct19 oc20 kV20 dc20 pm20 cd20 ct20 oc21 kV21 dc21 pm21 cd21 ct21 oc22 kV22 dc22 pm22 cd22 ct22 oc23 kV23 dc23 pm23 cd23 ct23 oc24 kV24 dc24 pm24 cd24 ct24 oc25 kV25 dc25 pm25 cd25 ct25 oc26 kV26 dc26 pm26 cd26 ct26 oc27 kV27 dc27 pm27 cd27 ct27 oc28 kV28 dc28 pm28 cd28 ct28 : Value}
    (a1 : PySem.W.nsIn K mainGlobals "is_whole" = some (some (.ref f1))) (l1 : K.lookup f1 = some ⟨oc1, od1, .func (PySem.W.fnOf "is_whole" "is_whole" (defArgs s_is_whole) (defBody s_is_whole) (defScope s_is_whole) .none kV1 dc1 pm1 an1 cd1 ct1), sl1⟩) (c1 : PySem.W.codeIn K cd1 "is_whole" = true) (k1 : PySem.W.keepIn K (.ref f1) = true)
    (a2 : PySem.W.nsIn K mainGlobals "are_rows" = some (some (.ref f2))) (l2 : K.lookup f2 = some ⟨oc2, od2, .func (PySem.W.fnOf "are_rows" "are_rows" (defArgs s_are_rows) (defBody s_are_rows) (defScope s_are_rows) .none kV2 dc2 pm2 an2 cd2 ct2), sl2⟩) (c2 : PySem.W.codeIn K cd2 "are_rows" = true) (k2 : PySem.W.keepIn K (.ref f2) = true)
    (a3 : PySem.W.nsIn K mainGlobals "is_generator" = some (some (.ref f3))) (l3 : K.lookup f3 = some ⟨oc3, od3, .func (PySem.W.fnOf "is_generator" "is_generator" (defArgs s_is_generator) (defBody s_is_generator) (defScope s_is_generator) .none kV3 dc3 pm3 an3 cd3 ct3), sl3⟩) (c3 : PySem.W.codeIn K cd3 "is_generator" = true) (k3 : PySem.W.keepIn K (.ref f3) = true)
    (a4 : PySem.W.nsIn K mainGlobals "are_numbers" = some (some (.ref f4))) (l4 : K.lookup f4 = some ⟨oc4, od4, .func (PySem.W.fnOf "are_numbers" "are_numbers" (defArgs s_are_numbers) (defBody s_are_numbers) (defScope s_are_numbers) .none kV4 dc4 pm4 an4 cd4 ct4), sl4⟩) (c4 : PySem.W.codeIn K cd4 "are_numbers" = true) (k4 : PySem.W.keepIn K (.ref f4) = true)
    (a5 : PySem.W.nsIn K mainGlobals "fits_longer" = some (some (.ref f5))) (l5 : K.lookup f5 = some ⟨oc5, od5, .func (PySem.W.fnOf "fits_longer" "fits_longer" (defArgs s_fits_longer) (defBody s_fits_longer) (defScope s_fits_longer) .none kV5 dc5 pm5 an5 cd5 ct5), sl5⟩) (c5 : PySem.W.codeIn K cd5 "fits_longer" = true) (k5 : PySem.W.keepIn K (.ref f5) = true)
    (a6 : PySem.W.nsIn K mainGlobals "fits_tree" = some (some (.ref f6))) (l6 : K.lookup f6 = some ⟨oc6, od6, .func (PySem.W.fnOf "fits_tree" "fits_tree" (defArgs s_fits_tree) (defBody s_fits_tree) (defScope s_fits_tree) .none kV6 dc6 pm6 an6 cd6 ct6), sl6⟩) (c6 : PySem.W.codeIn K cd6 "fits_tree" = true) (k6 : PySem.W.keepIn K (.ref f6) = true)
    (a7 : PySem.W.nsIn K mainGlobals "fits_opening" = some (some (.ref f7))) (l7 : K.lookup f7 = some ⟨oc7, od7, .func (PySem.W.fnOf "fits_opening" "fits_opening" (defArgs s_fits_opening) (defBody s_fits_opening) (defScope s_fits_opening) .none kV7 dc7 pm7 an7 cd7 ct7), sl7⟩) (c7 : PySem.W.codeIn K cd7 "fits_opening" = true) (k7 : PySem.W.keepIn K (.ref f7) = true)
    (a8 : PySem.W.nsIn K mainGlobals "fits_onetime" = some (some (.ref f8))) (l8 : K.lookup f8 = some ⟨oc8, od8, .func (PySem.W.fnOf "fits_onetime" "fits_onetime" (defArgs s_fits_onetime) (defBody s_fits_onetime) (defScope s_fits_onetime) .none kV8 dc8 pm8 an8 cd8 ct8), sl8⟩) (c8 : PySem.W.codeIn K cd8 "fits_onetime" = true) (k8 : PySem.W.keepIn K (.ref f8) = true)
    (a9 : PySem.W.nsIn K mainGlobals "is_made" = some (some (.ref f9))) (l9 : K.lookup f9 = some ⟨oc9, od9, .func (PySem.W.fnOf "is_made" "is_made" (defArgs s_is_made) (defBody s_is_made) (defScope s_is_made) .none kV9 dc9 pm9 an9 cd9 ct9), sl9⟩) (c9 : PySem.W.codeIn K cd9 "is_made" = true) (k9 : PySem.W.keepIn K (.ref f9) = true)
    (a10 : PySem.W.nsIn K mainGlobals "fits_kind" = some (some (.ref f10))) (l10 : K.lookup f10 = some ⟨oc10, od10, .func (PySem.W.fnOf "fits_kind" "fits_kind" (defArgs s_fits_kind) (defBody s_fits_kind) (defScope s_fits_kind) .none kV10 dc10 pm10 an10 cd10 ct10), sl10⟩) (c10 : PySem.W.codeIn K cd10 "fits_kind" = true) (k10 : PySem.W.keepIn K (.ref f10) = true)
    (a11 : PySem.W.nsIn K mainGlobals "is_part" = some (some (.ref f11))) (l11 : K.lookup f11 = some ⟨oc11, od11, .func (PySem.W.fnOf "is_part" "is_part" (defArgs s_is_part) (defBody s_is_part) (defScope s_is_part) .none kV11 dc11 pm11 an11 cd11 ct11), sl11⟩) (c11 : PySem.W.codeIn K cd11 "is_part" = true) (k11 : PySem.W.keepIn K (.ref f11) = true)
    (a12 : PySem.W.nsIn K mainGlobals "are_parts" = some (some (.ref f12))) (l12 : K.lookup f12 = some ⟨oc12, od12, .func (PySem.W.fnOf "are_parts" "are_parts" (defArgs s_are_parts) (defBody s_are_parts) (defScope s_are_parts) .none kV12 dc12 pm12 an12 cd12 ct12), sl12⟩) (c12 : PySem.W.codeIn K cd12 "are_parts" = true) (k12 : PySem.W.keepIn K (.ref f12) = true)
    (a13 : PySem.W.nsIn K mainGlobals "looks_plain" = some (some (.ref f13))) (l13 : K.lookup f13 = some ⟨oc13, od13, .func (PySem.W.fnOf "looks_plain" "looks_plain" (defArgs s_looks_plain) (defBody s_looks_plain) (defScope s_looks_plain) .none kV13 dc13 pm13 an13 cd13 ct13), sl13⟩) (c13 : PySem.W.codeIn K cd13 "looks_plain" = true) (k13 : PySem.W.keepIn K (.ref f13) = true)
    (a14 : PySem.W.nsIn K mainGlobals "directly_within" = some (some (.ref f14))) (l14 : K.lookup f14 = some ⟨oc14, od14, .func (PySem.W.fnOf "directly_within" "directly_within" (defArgs s_directly_within) (defBody s_directly_within) (defScope s_directly_within) .none kV14 dc14 pm14 an14 cd14 ct14), sl14⟩) (c14 : PySem.W.codeIn K cd14 "directly_within" = true) (k14 : PySem.W.keepIn K (.ref f14) = true)
    (a15 : PySem.W.nsIn K mainGlobals "is_plain_breaker" = some (some (.ref f15))) (l15 : K.lookup f15 = some ⟨oc15, od15, .func (PySem.W.fnOf "is_plain_breaker" "is_plain_breaker" (defArgs s_is_plain_breaker) (defBody s_is_plain_breaker) (defScope s_is_plain_breaker) .none kV15 dc15 pm15 an15 cd15 ct15), sl15⟩) (c15 : PySem.W.codeIn K cd15 "is_plain_breaker" = true) (k15 : PySem.W.keepIn K (.ref f15) = true)
    (a16 : PySem.W.nsIn K mainGlobals "check_breaker" = some (some (.ref f16))) (l16 : K.lookup f16 = some ⟨oc16, od16, .func (PySem.W.fnOf "check_breaker" "check_breaker" (defArgs s_check_breaker) (defBody s_check_breaker) (defScope s_check_breaker) .none kV16 dc16 pm16 an16 cd16 ct16), sl16⟩) (c16 : PySem.W.codeIn K cd16 "check_breaker" = true) (k16 : PySem.W.keepIn K (.ref f16) = true)
    (a17 : PySem.W.nsIn K mainGlobals "plain_asks" = some (some (.ref f17))) (l17 : K.lookup f17 = some ⟨oc17, od17, .func (PySem.W.fnOf "plain_asks" "plain_asks" (defArgs s_plain_asks) (defBody s_plain_asks) (defScope s_plain_asks) .none kV17 dc17 pm17 an17 cd17 ct17), sl17⟩) (c17 : PySem.W.codeIn K cd17 "plain_asks" = true) (k17 : PySem.W.keepIn K (.ref f17) = true)
    (a18 : PySem.W.nsIn K mainGlobals "most_asks" = some (some (.ref f18))) (l18 : K.lookup f18 = some ⟨oc18, od18, .func (PySem.W.fnOf "most_asks" "most_asks" (defArgs s_most_asks) (defBody s_most_asks) (defScope s_most_asks) .none kV18 dc18 pm18 an18 cd18 ct18), sl18⟩) (c18 : PySem.W.codeIn K cd18 "most_asks" = true) (k18 : PySem.W.keepIn K (.ref f18) = true)
    (a19 : PySem.W.nsIn K mainGlobals "_law_draws" = some (some (.ref f19))) (l19 : K.lookup f19 = some ⟨oc19, od19, .func (PySem.W.fnOf "_law_draws" "_law_draws" (defArgs s_law_draws) (defBody s_law_draws) (defScope s_law_draws) .none kV19 dc19 pm19 an19 cd19 ct19), sl19⟩) (c19 : PySem.W.codeIn K cd19 "_law_draws" = true) (k19 : PySem.W.keepIn K (.ref f19) = true)
    (a20 : PySem.W.nsIn K mainGlobals "_law_take" = some (some (.ref f20))) (l20 : K.lookup f20 = some ⟨oc20, od20, .func (PySem.W.fnOf "_law_take" "_law_take" (defArgs s_law_take) (defBody s_law_take) (defScope s_law_take) .none kV20 dc20 pm20 an20 cd20 ct20), sl20⟩) (c20 : PySem.W.codeIn K cd20 "_law_take" = true) (k20 : PySem.W.keepIn K (.ref f20) = true)
    (a21 : PySem.W.nsIn K mainGlobals "_law_string" = some (some (.ref f21))) (l21 : K.lookup f21 = some ⟨oc21, od21, .func (PySem.W.fnOf "_law_string" "_law_string" (defArgs s_law_string) (defBody s_law_string) (defScope s_law_string) .none kV21 dc21 pm21 an21 cd21 ct21), sl21⟩) (c21 : PySem.W.codeIn K cd21 "_law_string" = true) (k21 : PySem.W.keepIn K (.ref f21) = true)
    (a22 : PySem.W.nsIn K mainGlobals "_law_table" = some (some (.ref f22))) (l22 : K.lookup f22 = some ⟨oc22, od22, .func (PySem.W.fnOf "_law_table" "_law_table" (defArgs s_law_table) (defBody s_law_table) (defScope s_law_table) .none kV22 dc22 pm22 an22 cd22 ct22), sl22⟩) (c22 : PySem.W.codeIn K cd22 "_law_table" = true) (k22 : PySem.W.keepIn K (.ref f22) = true)
    (a23 : PySem.W.nsIn K mainGlobals "_law_parts" = some (some (.ref f23))) (l23 : K.lookup f23 = some ⟨oc23, od23, .func (PySem.W.fnOf "_law_parts" "_law_parts" (defArgs s_law_parts) (defBody s_law_parts) (defScope s_law_parts) .none kV23 dc23 pm23 an23 cd23 ct23), sl23⟩) (c23 : PySem.W.codeIn K cd23 "_law_parts" = true) (k23 : PySem.W.keepIn K (.ref f23) = true)
    (a24 : PySem.W.nsIn K mainGlobals "_law_breaker" = some (some (.ref f24))) (l24 : K.lookup f24 = some ⟨oc24, od24, .func (PySem.W.fnOf "_law_breaker" "_law_breaker" (defArgs s_law_breaker) (defBody s_law_breaker) (defScope s_law_breaker) .none kV24 dc24 pm24 an24 cd24 ct24), sl24⟩) (c24 : PySem.W.codeIn K cd24 "_law_breaker" = true) (k24 : PySem.W.keepIn K (.ref f24) = true)
    (a25 : PySem.W.nsIn K mainGlobals "_law_made" = some (some (.ref f25))) (l25 : K.lookup f25 = some ⟨oc25, od25, .func (PySem.W.fnOf "_law_made" "_law_made" (defArgs s_law_made) (defBody s_law_made) (defScope s_law_made) .none kV25 dc25 pm25 an25 cd25 ct25), sl25⟩) (c25 : PySem.W.codeIn K cd25 "_law_made" = true) (k25 : PySem.W.keepIn K (.ref f25) = true)
    (a26 : PySem.W.nsIn K mainGlobals "_law_most" = some (some (.ref f26))) (l26 : K.lookup f26 = some ⟨oc26, od26, .func (PySem.W.fnOf "_law_most" "_law_most" (defArgs s_law_most) (defBody s_law_most) (defScope s_law_most) .none kV26 dc26 pm26 an26 cd26 ct26), sl26⟩) (c26 : PySem.W.codeIn K cd26 "_law_most" = true) (k26 : PySem.W.keepIn K (.ref f26) = true)
    (a27 : PySem.W.nsIn K mainGlobals "_law_is_right" = some (some (.ref f27))) (l27 : K.lookup f27 = some ⟨oc27, od27, .func (PySem.W.fnOf "_law_is_right" "_law_is_right" (defArgs s_law_is_right) (defBody s_law_is_right) (defScope s_law_is_right) .none kV27 dc27 pm27 an27 cd27 ct27), sl27⟩) (c27 : PySem.W.codeIn K cd27 "_law_is_right" = true) (k27 : PySem.W.keepIn K (.ref f27) = true)
    (a28 : PySem.W.nsIn K mainGlobals "law" = some (some (.ref f28))) (l28 : K.lookup f28 = some ⟨oc28, od28, .func (PySem.W.fnOf "law" "law" (defArgs s_law) (defBody s_law) (defScope s_law) .none kV28 dc28 pm28 an28 cd28 ct28), sl28⟩) (c28 : PySem.W.codeIn K cd28 "law" = true) (k28 : PySem.W.keepIn K (.ref f28) = true)
    (z1 : PySem.W.nsIn K mainGlobals "abs" = some none)
    (z2 : PySem.W.nsIn K mainGlobals "all" = some none)
    (z3 : PySem.W.nsIn K mainGlobals "bool" = some none)
    (z4 : PySem.W.nsIn K mainGlobals "int" = some none)
    (z5 : PySem.W.nsIn K mainGlobals "isinstance" = some none)
    (z6 : PySem.W.nsIn K mainGlobals "len" = some none)
    (z7 : PySem.W.nsIn K mainGlobals "max" = some none)
    (z8 : PySem.W.nsIn K mainGlobals "min" = some none)
    (z9 : PySem.W.nsIn K mainGlobals "range" = some none)
    (z10 : PySem.W.nsIn K mainGlobals "str" = some none)
    (z11 : PySem.W.nsIn K mainGlobals "tuple" = some none)
    (z12 : PySem.W.nsIn K mainGlobals "zip" = some none)
    {tk1 : Tok} (y1 : PySem.W.nsIn K mainGlobals "DEEPEST_MADE" = some (some (.int 20 tk1)))
    {tk2 : Tok} (y2 : PySem.W.nsIn K mainGlobals "DEEPEST_PLAIN" = some (some (.int 60 tk2)))
    {tk3 : Tok} (y3 : PySem.W.nsIn K mainGlobals "LAST_BIT" = some (some (.int 9999 tk3)))
    {tk4 : Tok} (y4 : PySem.W.nsIn K mainGlobals "MOST_BITS" = some (some (.int 40 tk4)))
    {tk5 : Tok} (y5 : PySem.W.nsIn K mainGlobals "MOST_TOSSED" = some (some (.int 64 tk5)))
    {tk6 : Tok} (y6 : PySem.W.nsIn K mainGlobals "MOST_WITHIN" = some (some (.int 2000 tk6)))
    {CBreakError CBadBreaker : Addr}
    {CNUMBERS : Addr} {esNUMBERS : Array DictEntry} {nnNUMBERS : Nat}
    {CFITTING : Addr} {esFITTING : Array DictEntry} {nnFITTING : Nat}
    {hF1 hF2 hF3 hF4 : Int} {tF1 tF2 tF3 tF4 : Tok}
    (gBreakError : PySem.W.nsIn K mainGlobals "BreakError" = some (some (.ref CBreakError)))
    (gBadBreaker : PySem.W.nsIn K mainGlobals "BadBreaker" = some (some (.ref CBadBreaker)))
    (xBadBreaker : PySem.W.excIn K CBadBreaker [.type "ValueError", .type "Exception", .type "BaseException", .type "object"] "ValueError.__new__" = true)
    (kBadBreaker : PySem.W.keepIn K (.ref CBadBreaker) = true)
    (bBadBreaker : PySem.W.subIn K (.ref CBadBreaker) (.type "BaseException") = some true)
    (tBadBreaker : PySem.W.typeIn K (.ref CBadBreaker) = some (.type "type"))
    (uBadBreaker : PySem.W.findIn K (.ref CBadBreaker) "__getattribute__" = some (some (.builtin "BaseException.__getattribute__")))
    (vBadBreaker : PySem.W.findIn K (.ref CBadBreaker) "__getattr__" = some none)
    (hBadBreaker : PySem.W.hasDictIn K CBadBreaker = true)
    (wBadBreaker : PySem.W.findIn K (.ref CBadBreaker) "__class__" = some (some (.builtin "object.__class__")))
    (mBadBreaker : PySem.W.mroIn K CBadBreaker (.type "object") = some true)
    (eBadBreakerBadBreaker : PySem.W.exmOne K (.ref CBadBreaker) (.ref CBadBreaker) = some true)
    (sp1 : PySem.W.specialIn K (.builtin "object.__class__") "__get__" = some (some (.builtin "getset_descriptor.__get__")))
    (tk1 : PySem.W.takesIn K (.builtin "object.__class__") = some true)
    (gNUMBERS : PySem.W.nsIn K mainGlobals "NUMBERS" = some (some (.ref CNUMBERS)))
    (lNUMBERS : K.lookup CNUMBERS = some ⟨.type "dict", none, .dict esNUMBERS nnNUMBERS, #[]⟩)
    (qNUMBERS : PySem.W.KeysLit w.params esNUMBERS.toList)
    (loNUMBERS : (CNUMBERS == sysModules) = false)
    (rNUMBERS : numB K esNUMBERS.toList numK = true)
    (gFITTING : PySem.W.nsIn K mainGlobals "FITTING" = some (some (.ref CFITTING)))
    (lFITTING : K.lookup CFITTING = some ⟨.type "dict", none, .dict esFITTING nnFITTING, #[]⟩)
    (qFITTING : PySem.W.KeysLit w.params esFITTING.toList)
    (loFITTING : (CFITTING == sysModules) = false)
    (rFITTING : esFITTING.toList = [⟨hF1, .str "longer" tF1, .ref f5⟩, ⟨hF2, .str "tree" tF2, .ref f6⟩, ⟨hF3, .str "opening" tF3, .ref f7⟩, ⟨hF4, .str "onetime" tF4, .ref f8⟩]) :
    ∃ fd : FuncData, (∀ (s : Shared) (v : Value), BindsTo s fd ⟨[v], []⟩ [("script", v)]) ∧ ∀ base : Heap, K.In base → base.Ns mainGlobals mg → FnOk l.prog w K mg base CX0 top_level fa fd ["script"] (spLaw K) := by
  have e := hfa.symm.trans (PySem.W.mg_of X G a28)
  cases e
  have T : Txt K w mg ⟨CBreakError, CBadBreaker, CNUMBERS, CFITTING⟩ := { n_abs := PySem.W.mg_none_of X G z1, n_all := PySem.W.mg_none_of X G z2, n_bool := PySem.W.mg_none_of X G z3, n_int := PySem.W.mg_none_of X G z4, n_isinstance := PySem.W.mg_none_of X G z5, n_len := PySem.W.mg_none_of X G z6, n_max := PySem.W.mg_none_of X G z7, n_min := PySem.W.mg_none_of X G z8, n_range := PySem.W.mg_none_of X G z9, n_str := PySem.W.mg_none_of X G z10, n_tuple := PySem.W.mg_none_of X G z11, n_zip := PySem.W.mg_none_of X G z12, g_DEEPEST_MADE := ⟨_, PySem.W.mg_of X G y1, ⟨_, rfl⟩⟩, g_DEEPEST_PLAIN := ⟨_, PySem.W.mg_of X G y2, ⟨_, rfl⟩⟩, g_LAST_BIT := ⟨_, PySem.W.mg_of X G y3, ⟨_, rfl⟩⟩, g_MOST_BITS := ⟨_, PySem.W.mg_of X G y4, ⟨_, rfl⟩⟩, g_MOST_TOSSED := ⟨_, PySem.W.mg_of X G y5, ⟨_, rfl⟩⟩, g_MOST_WITHIN := ⟨_, PySem.W.mg_of X G y6, ⟨_, rfl⟩⟩, gl_BreakError := PySem.W.mg_of X G gBreakError, gl_BadBreaker := PySem.W.mg_of X G gBadBreaker, gl_NUMBERS := PySem.W.mg_of X G gNUMBERS, gl_FITTING := PySem.W.mg_of X G gFITTING, dk_NUMBERS := ⟨⟨_, _, ⟨lNUMBERS, qNUMBERS, loNUMBERS⟩, numB_ok rNUMBERS⟩, num_has⟩, dk_FITTING := ⟨⟨_, _, ⟨lFITTING, qFITTING, loFITTING⟩, fitB_ok rFITTING (PySem.W.mg_of X G a5) (PySem.W.mg_of X G a6) (PySem.W.mg_of X G a7) (PySem.W.mg_of X G a8)⟩, fit_has⟩, x_BadBreaker := ⟨xBadBreaker, PySem.W.mg_of X G gBadBreaker, kBadBreaker, bBadBreaker, tBadBreaker⟩, e_BadBreaker := ⟨uBadBreaker, vBadBreaker, bBadBreaker, hBadBreaker, wBadBreaker, sp1, tk1, mBadBreaker⟩, exm_BadBreaker_BadBreaker := eBadBreakerBadBreaker }
  have F1 := fun_mk (st := s_is_whole) l1 c1 k1
  have b1 := F1.binds (ps := ["value", "low", "high"]) fun _ _ _ _ _ _ us hl => match us, hl with | [_, _, _], _ => rfl
  have F2 := fun_mk (st := s_are_rows) l2 c2 k2
  have b2 := F2.binds (ps := ["value", "many", "m"]) fun _ _ _ _ _ _ us hl => match us, hl with | [_, _, _], _ => rfl
  have F3 := fun_mk (st := s_is_generator) l3 c3 k3
  have b3 := F3.binds (ps := ["value"]) fun _ _ _ _ _ _ us hl => match us, hl with | [_], _ => rfl
  have F4 := fun_mk (st := s_are_numbers) l4 c4 k4
  have b4 := F4.binds (ps := ["own", "bounds"]) fun _ _ _ _ _ _ us hl => match us, hl with | [_, _], _ => rfl
  have F5 := fun_mk (st := s_fits_longer) l5 c5 k5
  have b5 := F5.binds (ps := ["own"]) fun _ _ _ _ _ _ us hl => match us, hl with | [_], _ => rfl
  have F6 := fun_mk (st := s_fits_tree) l6 c6 k6
  have b6 := F6.binds (ps := ["own"]) fun _ _ _ _ _ _ us hl => match us, hl with | [_], _ => rfl
  have F7 := fun_mk (st := s_fits_opening) l7 c7 k7
  have b7 := F7.binds (ps := ["own"]) fun _ _ _ _ _ _ us hl => match us, hl with | [_], _ => rfl
  have F8 := fun_mk (st := s_fits_onetime) l8 c8 k8
  have b8 := F8.binds (ps := ["own"]) fun _ _ _ _ _ _ us hl => match us, hl with | [_], _ => rfl
  have F9 := fun_mk (st := s_is_made) l9 c9 k9
  have b9 := F9.binds (ps := ["value"]) fun _ _ _ _ _ _ us hl => match us, hl with | [_], _ => rfl
  have F10 := fun_mk (st := s_fits_kind) l10 c10 k10
  have b10 := F10.binds (ps := ["made"]) fun _ _ _ _ _ _ us hl => match us, hl with | [_], _ => rfl
  have F11 := fun_mk (st := s_is_part) l11 c11 k11
  have b11 := F11.binds (ps := ["value"]) fun _ _ _ _ _ _ us hl => match us, hl with | [_], _ => rfl
  have F12 := fun_mk (st := s_are_parts) l12 c12 k12
  have b12 := F12.binds (ps := ["value"]) fun _ _ _ _ _ _ us hl => match us, hl with | [_], _ => rfl
  have F13 := fun_mk (st := s_looks_plain) l13 c13 k13
  have b13 := F13.binds (ps := ["value"]) fun _ _ _ _ _ _ us hl => match us, hl with | [_], _ => rfl
  have F14 := fun_mk (st := s_directly_within) l14 c14 k14
  have b14 := F14.binds (ps := ["plain"]) fun _ _ _ _ _ _ us hl => match us, hl with | [_], _ => rfl
  have F15 := fun_mk (st := s_is_plain_breaker) l15 c15 k15
  have b15 := F15.binds (ps := ["value"]) fun _ _ _ _ _ _ us hl => match us, hl with | [_], _ => rfl
  have F16 := fun_mk (st := s_check_breaker) l16 c16 k16
  have b16 := F16.binds (ps := ["breaker"]) fun _ _ _ _ _ _ us hl => match us, hl with | [_], _ => rfl
  have F17 := fun_mk (st := s_plain_asks) l17 c17 k17
  have b17 := F17.binds (ps := ["breaker"]) fun _ _ _ _ _ _ us hl => match us, hl with | [_], _ => rfl
  have F18 := fun_mk (st := s_most_asks) l18 c18 k18
  have b18 := F18.binds (ps := ["breaker"]) fun _ _ _ _ _ _ us hl => match us, hl with | [_], _ => rfl
  have F19 := fun_mk (st := s_law_draws) l19 c19 k19
  have b19 := F19.binds (ps := ["script", "many"]) fun _ _ _ _ _ _ us hl => match us, hl with | [_, _], _ => rfl
  have F20 := fun_mk (st := s_law_take) l20 c20 k20
  have b20 := F20.binds (ps := ["hand", "many"]) fun _ _ _ _ _ _ us hl => match us, hl with | [_, _], _ => rfl
  have F21 := fun_mk (st := s_law_string) l21 c21 k21
  have b21 := F21.binds (ps := ["hand", "length"]) fun _ _ _ _ _ _ us hl => match us, hl with | [_, _], _ => rfl
  have F22 := fun_mk (st := s_law_table) l22 c22 k22
  have b22 := F22.binds (ps := ["hand", "n", "m"]) fun _ _ _ _ _ _ us hl => match us, hl with | [_, _, _], _ => rfl
  have F23 := fun_mk (st := s_law_parts) l23 c23 k23
  have b23 := F23.binds (ps := ["hand", "length"]) fun _ _ _ _ _ _ us hl => match us, hl with | [_, _], _ => rfl
  have F24 := fun_mk (st := s_law_breaker) l24 c24 k24
  have b24 := F24.binds (ps := ["hand", "depth", "asks", "length", "said"]) fun _ _ _ _ _ _ us hl => match us, hl with | [_, _, _, _, _], _ => rfl
  have F25 := fun_mk (st := s_law_made) l25 c25 k25
  have b25 := F25.binds (ps := ["hand", "inner"]) fun _ _ _ _ _ _ us hl => match us, hl with | [_, _], _ => rfl
  have F26 := fun_mk (st := s_law_most) l26 c26 k26
  have b26 := F26.binds (ps := ["breaker"]) fun _ _ _ _ _ _ us hl => match us, hl with | [_], _ => rfl
  have F27 := fun_mk (st := s_law_is_right) l27 c27 k27
  have b27 := F27.binds (ps := ["breaker"]) fun _ _ _ _ _ _ us hl => match us, hl with | [_], _ => rfl
  have F28 := fun_mk (st := s_law) l28 c28 k28
  have b28 := F28.binds (ps := ["script"]) fun _ _ _ _ _ _ us hl => match us, hl with | [_], _ => rfl
  refine ⟨PySem.W.fnOf "law" "law" (defArgs s_law) (defBody s_law) (defScope s_law) .none kV28 dc28 pm28 an28 cd28 ct28, fun s v => .of_eq rfl, fun base _ _ => ?_⟩
  exact mk_law T ⟨F1, b1, PySem.W.mg_of X G a1⟩ ⟨F2, b2, PySem.W.mg_of X G a2⟩ ⟨F3, b3, PySem.W.mg_of X G a3⟩ ⟨F4, b4, PySem.W.mg_of X G a4⟩ ⟨F5, b5, PySem.W.mg_of X G a5⟩ ⟨F6, b6, PySem.W.mg_of X G a6⟩ ⟨F7, b7, PySem.W.mg_of X G a7⟩ ⟨F8, b8, PySem.W.mg_of X G a8⟩ ⟨F9, b9, PySem.W.mg_of X G a9⟩ ⟨F10, b10, PySem.W.mg_of X G a10⟩ ⟨F11, b11, PySem.W.mg_of X G a11⟩ ⟨F12, b12, PySem.W.mg_of X G a12⟩ ⟨F13, b13, PySem.W.mg_of X G a13⟩ ⟨F14, b14, PySem.W.mg_of X G a14⟩ ⟨F15, b15, PySem.W.mg_of X G a15⟩ ⟨F16, b16, PySem.W.mg_of X G a16⟩ ⟨F17, b17, PySem.W.mg_of X G a17⟩ ⟨F18, b18, PySem.W.mg_of X G a18⟩ ⟨F19, b19, PySem.W.mg_of X G a19⟩ ⟨F20, b20, PySem.W.mg_of X G a20⟩ ⟨F21, b21, PySem.W.mg_of X G a21⟩ ⟨F22, b22, PySem.W.mg_of X G a22⟩ ⟨F23, b23, PySem.W.mg_of X G a23⟩ ⟨F24, b24, PySem.W.mg_of X G a24⟩ ⟨F25, b25, PySem.W.mg_of X G a25⟩ ⟨F26, b26, PySem.W.mg_of X G a26⟩ ⟨F27, b27, PySem.W.mg_of X G a27⟩ F28
end My
open PySem PySem.W PyProof.Rows
set_option maxRecDepth 100000 in
set_option maxHeartbeats 0 in
theorem PySem.Challenge.cw_breakback_k08_the_most_asks_holds : PySem.Challenge.rw_breakback_k08_the_most_asks.Holds := by
  w_on; o_law; k_head; (case hw => w_witness2)
  k_fill
  refine L2.walk_of (l := PySem.Challenge.rw_breakback_k08_the_most_asks) (n := 63) (k := My.top_level) (x := "script") (CX := fun _ => L2.CX0) (sp := fun w => My.spLaw _) rfl (by decide) rfl ⟨rfl, by decide, by decide⟩ (fun w h Y => PySem.W.kIn_of Y) ?F (fun _ _ a ns hl _ hS => ⟨a, ns, rfl, hS, hl, fun _ => rfl⟩) (fun _ _ _ _ _ h => h)
  case F =>
    intro w mg fa h KX G hmg
    refine' My.all_mk KX G hmg ?a1 ?l1 ?c1 ?k1 ?a2 ?l2 ?c2 ?k2 ?a3 ?l3 ?c3 ?k3 ?a4 ?l4 ?c4 ?k4 ?a5 ?l5 ?c5 ?k5 ?a6 ?l6 ?c6 ?k6 ?a7 ?l7 ?c7 ?k7 ?a8 ?l8 ?c8 ?k8 ?a9 ?l9 ?c9 ?k9 ?a10 ?l10 ?c10 ?k10 ?a11 ?l11 ?c11 ?k11 ?a12 ?l12 ?c12 ?k12 ?a13 ?l13 ?c13 ?k13 ?a14 ?l14 ?c14 ?k14 ?a15 ?l15 ?c15 ?k15 ?a16 ?l16 ?c16 ?k16 ?a17 ?l17 ?c17 ?k17 ?a18 ?l18 ?c18 ?k18 ?a19 ?l19 ?c19 ?k19 ?a20 ?l20 ?c20 ?k20 ?a21 ?l21 ?c21 ?k21 ?a22 ?l22 ?c22 ?k22 ?a23 ?l23 ?c23 ?k23 ?a24 ?l24 ?c24 ?k24 ?a25 ?l25 ?c25 ?k25 ?a26 ?l26 ?c26 ?k26 ?a27 ?l27 ?c27 ?k27 ?a28 ?l28 ?c28 ?k28 ?z1 ?z2 ?z3 ?z4 ?z5 ?z6 ?z7 ?z8 ?z9 ?z10 ?z11 ?z12 ?y1 ?y2 ?y3 ?y4 ?y5 ?y6 ?gBreakError ?gBadBreaker ?xBadBreaker ?kBadBreaker ?bBadBreaker ?tBadBreaker ?uBadBreaker ?vBadBreaker ?hBadBreaker ?wBadBreaker ?mBadBreaker ?eBadBreakerBadBreaker ?sp1 ?tk1 ?gNUMBERS ?lNUMBERS ?qNUMBERS ?loNUMBERS ?rNUMBERS ?gFITTING ?lFITTING ?qFITTING ?loFITTING ?rFITTING
    (case a1 => k_is); (case l1 => k_is); (case c1 => k_is); (case k1 => k_is); (case a2 => k_is); (case l2 => k_is); (case c2 => k_is); (case k2 => k_is)
    (case a3 => k_is); (case l3 => k_is); (case c3 => k_is); (case k3 => k_is); (case a4 => k_is); (case l4 => k_is); (case c4 => k_is); (case k4 => k_is)
    (case a5 => k_is); (case l5 => k_is); (case c5 => k_is); (case k5 => k_is); (case a6 => k_is); (case l6 => k_is); (case c6 => k_is); (case k6 => k_is)
    (case a7 => k_is); (case l7 => k_is); (case c7 => k_is); (case k7 => k_is); (case a8 => k_is); (case l8 => k_is); (case c8 => k_is); (case k8 => k_is)
    (case a9 => k_is); (case l9 => k_is); (case c9 => k_is); (case k9 => k_is); (case a10 => k_is); (case l10 => k_is); (case c10 => k_is); (case k10 => k_is)
    (case a11 => k_is); (case l11 => k_is); (case c11 => k_is); (case k11 => k_is); (case a12 => k_is); (case l12 => k_is); (case c12 => k_is); (case k12 => k_is)
    (case a13 => k_is); (case l13 => k_is); (case c13 => k_is); (case k13 => k_is); (case a14 => k_is); (case l14 => k_is); (case c14 => k_is); (case k14 => k_is)
    (case a15 => k_is); (case l15 => k_is); (case c15 => k_is); (case k15 => k_is); (case a16 => k_is); (case l16 => k_is); (case c16 => k_is); (case k16 => k_is)
    (case a17 => k_is); (case l17 => k_is); (case c17 => k_is); (case k17 => k_is); (case a18 => k_is); (case l18 => k_is); (case c18 => k_is); (case k18 => k_is)
    (case a19 => k_is); (case l19 => k_is); (case c19 => k_is); (case k19 => k_is); (case a20 => k_is); (case l20 => k_is); (case c20 => k_is); (case k20 => k_is)
    (case a21 => k_is); (case l21 => k_is); (case c21 => k_is); (case k21 => k_is); (case a22 => k_is); (case l22 => k_is); (case c22 => k_is); (case k22 => k_is)
    (case a23 => k_is); (case l23 => k_is); (case c23 => k_is); (case k23 => k_is); (case a24 => k_is); (case l24 => k_is); (case c24 => k_is); (case k24 => k_is)
    (case a25 => k_is); (case l25 => k_is); (case c25 => k_is); (case k25 => k_is); (case a26 => k_is); (case l26 => k_is); (case c26 => k_is); (case k26 => k_is)
    (case a27 => k_is); (case l27 => k_is); (case c27 => k_is); (case k27 => k_is); (case a28 => k_is); (case l28 => k_is); (case c28 => k_is); (case k28 => k_is)
    (case z1 => k_is); (case z2 => k_is); (case z3 => k_is); (case z4 => k_is); (case z5 => k_is); (case z6 => k_is); (case z7 => k_is); (case z8 => k_is)
    (case z9 => k_is); (case z10 => k_is); (case z11 => k_is); (case z12 => k_is); (case y1 => k_is); (case y2 => k_is); (case y3 => k_is); (case y4 => k_is)
    (case y5 => k_is); (case y6 => k_is); (case gBreakError => k_is); (case gBadBreaker => k_is); (case xBadBreaker => k_exc); (case kBadBreaker => k_is); (case bBadBreaker => k_is); (case tBadBreaker => k_is)
    (case uBadBreaker => k_is); (case vBadBreaker => k_is); (case hBadBreaker => k_is); (case wBadBreaker => k_is); (case mBadBreaker => k_is); (case eBadBreakerBadBreaker => first | rfl | k_is); (case sp1 => first | rfl | k_is); (case tk1 => first | rfl | k_is)
    (case gNUMBERS => k_is); (case lNUMBERS => k_is); (case qNUMBERS => repeat (first | exact trivial | refine ⟨⟨_, _, rfl, rfl⟩, ?_⟩)); (case loNUMBERS => rfl); (case rNUMBERS => rfl); (case gFITTING => k_is); (case lFITTING => k_is); (case qFITTING => repeat (first | exact trivial | refine ⟨⟨_, _, rfl, rfl⟩, ?_⟩))
    (case loFITTING => rfl); (case rFITTING => rfl)
#print axioms PySem.Challenge.cw_breakback_k08_the_most_asks_holds
