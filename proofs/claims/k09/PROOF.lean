import PyProof.Rows.All
import Wide.All
import OpenK.AllK
import Wide.FinOn
import HandS.Text
import HandS.ForMost
import HandS.ForExc
import HandS.IsInst
import HandS.Zip
import HandS.Star
import HandS.TupAny
import HandS.Lambda
import HandS.ExcIs
import HandS.ExcCtx
import HandS.HotCalls
import HandS.Wide
import HandS.RaiseMore
import PyProof.CollectIter
import KE.KUnpack
import HandS.Dict
import PyProof.CompFree
import PyProof.Conv_int_bool
import PyProof.WalkInts
import PyProof.SumWalkG
import PyProof.Rows.SumAny
import HandS.ExcValue
import PyProof.StrBlock2
import HandS.EndTab
import KE.KNestM
import PySem.Challenge.RW_foldchains_k09_whole_texts
set_option Elab.async false
set_option linter.all false
set_option maxRecDepth 100000
set_option maxHeartbeats 4000000
/-! The chains and their texts in plain Lean. -/
namespace FC
open PySem L2 TL

/-! ### steps and chains -/
def tab : List (Str × List Str) :=
  [("line", ["a", "b"]), ("turn", ["m", "r", "a", "b"]), ("keep", ["m", "r"]), ("every", ["k", "r"]), ("twice", []), ("sums", []), ("anew", ["m", "r"]), ("gaps", []), ("groups", ["k"]), ("count", [])]
def bnd : List (Str × Int × Int) := [("a", -3, 3), ("b", -9, 9), ("m", 2, 3), ("k", 2, 3)]
def lohi (l : Str) (ahead : Int) : Int × Int := if l = "r" then (0, ahead - 1) else (bnd.lookup l).getD (0, 0)
def within : List Str → List V → Int → Bool
  | [], [], _ => true
  | l :: ls, .int n :: xs, ahead => !(decide (n < (lohi l ahead).1) || decide (n > (lohi l ahead).2)) && within ls xs n
  | _, _, _ => false
def stepOkN (name : Str) (rest : List V) : Bool := match tab.lookup name with
  | some ls => decide (ls.length = rest.length) && within ls rest 0
  | none => false
def stepOk : List V → Bool
  | .str name :: rest => stepOkN name rest
  | _ => false
def lims : List (Nat × List Str) := [(2, ["sums", "anew", "gaps", "groups", "count"]), (2, ["turn", "keep", "anew"]), (1, ["twice"])]
def headIn (names : List Str) : List V → Bool
  | .str n :: _ => decide (n ∈ names)
  | _ => false
def limOk (steps : List (List V)) : Bool := lims.all fun p => decide ((steps.filter (headIn p.2)).length ≤ p.1)
def chainOk (steps : List (List V)) : Bool := decide (steps.length ≤ 4) && (steps.all stepOk && limOk steps)

/-! ### texts -/
def partText : V → Str
  | .str s => s
  | .int i => Str.ofString (toString i)
  | _ => Str.empty
def stepText (ys : List V) : Str := Txt.join " " (ys.map partText)
def chainText (c : List (List V)) : Str := Txt.join " | " (c.map stepText)
def numTab : List (Str × Int) := [("-9", -9), ("-8", -8), ("-7", -7), ("-6", -6), ("-5", -5), ("-4", -4), ("-3", -3), ("-2", -2), ("-1", -1),
  ("0", 0), ("1", 1), ("2", 2), ("3", 3), ("4", 4), ("5", 5), ("6", 6), ("7", 7), ("8", 8), ("9", 9)]
def num (w : Str) : V := match numTab.lookup w with
  | some n => .int n
  | none => .non
def readStep (p : Str) : List V := match Txt.split p " " with
  | name :: ws => .str name :: ws.map num
  | [] => []
def parts (z : Str) : List Str := if z = Str.empty then [] else Txt.split z " | "
def parse (z : Str) : List (List V) := (parts z).map readStep

/-! ### joining what was split, splitting what was joined -/
theorem spl_ne (S : List Nat) : ∀ (k : Nat) (acc l : List Nat), spl S k acc l ≠ []
  | 0, acc, [] => by simp [spl]
  | k + 1, acc, [] => by simp [spl]
  | 0, acc, c :: r => by
    show (if pre S (c :: r) = true then acc :: spl S (S.length - 1) [] r else spl S 0 (acc ++ [c]) r) ≠ []
    split
    · simp
    · exact spl_ne S 0 _ r
  | k + 1, acc, c :: r => spl_ne S k acc r
theorem joinL_cons {S p : List Nat} {r : List (List Nat)} (h : r ≠ []) : joinL S (p :: r) = p ++ (S ++ joinL S r) := by
  cases r with
  | nil => exact absurd rfl h
  | cons q r => rfl
theorem joinL_spl {S : List Nat} (hS : S ≠ []) : ∀ (n : Nat) (acc l : List Nat), l.length ≤ n → joinL S (spl S 0 acc l) = acc ++ l
  | _, acc, [], _ => by simp [spl, joinL]
  | 0, acc, c :: r, h => by simp at h
  | n + 1, acc, c :: r, h => by
    have hr : r.length ≤ n := by simpa using h
    by_cases hp : pre S (c :: r) = true
    · rw [spl_hit hp, joinL_cons (spl_ne _ _ _ _), spl_pass, joinL_spl hS n [] _ (by rw [List.length_drop]; omega), List.nil_append]
      have e : (c :: r).take S.length = S := eq_of_beq hp
      have e2 := List.take_append_drop S.length (c :: r)
      rw [e] at e2
      have hd : (c :: r).drop S.length = r.drop (S.length - 1) := by
        cases S with
        | nil => exact absurd rfl hS
        | cons s S => simp
      rw [hd] at e2
      rw [e2]
    · rw [spl_miss (by simpa using hp), joinL_spl hS n (acc ++ [c]) r hr]
      simp
theorem join_split {y : Str} {s : Nat} {S : List Nat} (ey : tl y = s :: S) (hk : y.cps.all (· < 256) = true) (x : Str) : Txt.join y (Txt.split x y) = x := by
  refine ext_tl ?_
  rw [join_eq, tl_join, split_spl x y (by rw [ey]; simp) (kind_ok hk), joinL_spl (by rw [ey]; simp) _ _ _ (Nat.le_refl _), List.nil_append]
/-- a bar within blanks -/
theorem spl_bar {p rest acc : List Nat} (h : 124 ∉ p) : spl [32, 124, 32] 0 acc (p ++ ([32, 124, 32] ++ rest)) = (acc ++ p) :: spl [32, 124, 32] 0 [] rest := by
  refine spl_part (by simp) fun i hi => ?_
  have hlt : i < (p ++ ([32, 124, 32] ++ rest)).length := by rw [List.length_append]; omega
  cases e : pre [32, 124, 32] ((p ++ ([32, 124, 32] ++ rest)).drop i) with
  | false => rfl
  | true =>
    exfalso
    have e1 : ((p ++ ([32, 124, 32] ++ rest)).drop i).take 3 = [32, 124, 32] := eq_of_beq e
    have e2 := congrArg (fun l => l[1]?) e1
    simp only [List.getElem?_take, List.getElem?_drop] at e2
    by_cases hq : i + 1 < p.length
    · rw [List.getElem?_append_left hq] at e2
      simp at e2
      have : p[i + 1] = 124 := by
        rw [List.getElem?_eq_getElem hq] at e2
        exact Option.some.inj e2
      exact h (this ▸ List.getElem_mem hq)
    · have hq : i + 1 = p.length := by omega
      rw [hq, List.getElem?_append_right (Nat.le_refl _)] at e2
      simp at e2
theorem spl_barLast {p acc : List Nat} (h : 124 ∉ p) : spl [32, 124, 32] 0 acc p = [acc ++ p] := by
  refine spl_last fun i hi => ?_
  cases e : pre [32, 124, 32] (p.drop i) with
  | false => rfl
  | true =>
    exfalso
    have e1 : (p.drop i).take 3 = [32, 124, 32] := eq_of_beq e
    have e2 := congrArg (fun l => l[1]?) e1
    simp only [List.getElem?_take, List.getElem?_drop] at e2
    by_cases hq : i + 1 < p.length
    · rw [List.getElem?_eq_getElem hq] at e2
      simp at e2
      exact h (e2 ▸ List.getElem_mem hq)
    · rw [List.getElem?_eq_none (by omega)] at e2
      simp at e2
theorem spl_barJoin : ∀ {ps : List (List Nat)}, ps ≠ [] → (∀ p ∈ ps, 124 ∉ p) → spl [32, 124, 32] 0 [] (joinL [32, 124, 32] ps) = ps
  | [], h, _ => absurd rfl h
  | [p], _, hp => by
    show spl [32, 124, 32] 0 [] p = [p]
    rw [spl_barLast (hp p (List.mem_singleton.mpr rfl)), List.nil_append]
  | p :: q :: r, _, hp => by
    show spl [32, 124, 32] 0 [] (p ++ ([32, 124, 32] ++ joinL [32, 124, 32] (q :: r))) = p :: q :: r
    rw [spl_bar (hp p (List.mem_cons_self ..)), List.nil_append, spl_barJoin (by simp) fun z hz => hp z (List.mem_cons_of_mem _ hz)]
theorem tl_sp : tl (" " : Str) = 32 :: [] := by decide +kernel
theorem tl_bar : tl (" | " : Str) = [32, 124, 32] := by decide +kernel
theorem all_sp : (" " : Str).cps.all (· < 256) = true := by decide +kernel
theorem all_bar : (" | " : Str).cps.all (· < 256) = true := by decide +kernel
theorem split_bar {ps : List Str} (hne : ps ≠ []) (hp : ∀ p ∈ ps, 124 ∉ tl p) : Txt.split (Txt.join " | " ps) " | " = ps := by
  refine map_tl_inj ?_
  rw [split_spl _ _ (by rw [tl_bar]; simp) (kind_ok all_bar), join_eq, tl_join, tl_bar]
  refine spl_barJoin (fun e => hne (List.map_eq_nil_iff.mp e)) fun p h => ?_
  obtain ⟨z, hz, rfl⟩ := List.mem_map.mp h
  exact hp z hz
theorem split_sp {ps : List Str} (hne : ps ≠ []) (hp : ∀ p ∈ ps, 32 ∉ tl p) : Txt.split (Txt.join " " ps) " " = ps := split_join tl_sp all_sp hne hp
theorem join_sp (x : Str) : Txt.join " " (Txt.split x " ") = x := join_split tl_sp all_sp x
theorem join_bar (x : Str) : Txt.join " | " (Txt.split x " | ") = x := join_split (s := 32) (S := [124, 32]) tl_bar all_bar x
theorem split_ne (x y : Str) : Txt.split x y ≠ [] := by
  unfold Txt.split
  split
  · simp
  · split
    · simp
    · unfold PySem.Builtin.Str.partsBetween
      exact fun z => by
        first
          | exact absurd z (by simp)
          | (cases h : PySem.Builtin.Str.occurrences x y 0 x.length (x.length + 1) <;> simp_all)

/-! ### what a step's numbers are -/
def names : List Str := tab.map (·.1)
theorem lookup_mem {α β : Type} [BEq α] [LawfulBEq α] : ∀ {l : List (α × β)} {k : α} {v : β}, l.lookup k = some v → (k, v) ∈ l
  | [], _, _, h => by simp at h
  | (a, b) :: r, k, v, h => by
    rw [List.lookup_cons] at h
    split at h
    · rename_i e
      have e := eq_of_beq e
      cases h
      subst e
      exact List.mem_cons_self
    · exact List.mem_cons_of_mem _ (lookup_mem h)
theorem lohi_in (l : Str) (a : Int) (ha : a ≤ 9) : -9 ≤ (lohi l a).1 ∧ (lohi l a).2 ≤ 9 := by
  unfold lohi
  split
  · constructor
    · show (-9 : Int) ≤ 0
      decide
    · show a - 1 ≤ 9
      omega
  · cases h : bnd.lookup l with
    | none => exact ⟨by decide, by decide⟩
    | some p =>
      have m := lookup_mem h
      have all : ∀ q ∈ bnd, -9 ≤ q.2.1 ∧ q.2.2 ≤ 9 := by decide +kernel
      exact all _ m
theorem within_ints : ∀ {ls : List Str} {xs : List V} {a : Int}, a ≤ 9 → within ls xs a = true → ∃ ns : List Int, xs = ns.map V.int ∧ (∀ n ∈ ns, -9 ≤ n ∧ n ≤ 9) ∧ ns.length = ls.length
  | [], [], _, _, _ => ⟨[], rfl, by simp, rfl⟩
  | l :: ls, .int n :: xs, a, ha, h => by
    unfold within at h
    simp only [Bool.and_eq_true, Bool.not_eq_true', Bool.or_eq_false_iff, decide_eq_false_iff_not] at h
    obtain ⟨⟨h1, h2⟩, h3⟩ := h
    have b := lohi_in l a ha
    have hn : -9 ≤ n ∧ n ≤ 9 := by omega
    obtain ⟨ns, e, q, hl⟩ := within_ints (ls := ls) (xs := xs) (a := n) hn.2 h3
    exact ⟨n :: ns, by rw [e]; rfl, by
      intro m hm
      rcases List.mem_cons.mp hm with z | z
      · rw [z]; exact hn
      · exact q m z, by simp [hl]⟩
  | [], _ :: _, _, _, h => by simp [within] at h
  | _ :: _, [], _, _, h => by simp [within] at h
  | _ :: _, .non :: _, _, _, h => by simp [within] at h
  | _ :: _, .bl _ :: _, _, _, h => by simp [within] at h
  | _ :: _, .str _ :: _, _, _, h => by simp [within] at h
  | _ :: _, .byt _ :: _, _, _, h => by simp [within] at h
  | _ :: _, .flt _ :: _, _, _, h => by simp [within] at h
  | _ :: _, .ref _ :: _, _, _, h => by simp [within] at h
  | _ :: _, .ty _ :: _, _, _, h => by simp [within] at h
theorem stepOk_shape {ys : List V} (h : stepOk ys = true) : ∃ (name : Str) (ns : List Int), ys = .str name :: ns.map V.int ∧ name ∈ names ∧ (∀ n ∈ ns, -9 ≤ n ∧ n ≤ 9) ∧ ns.length ≤ 4 := by
  match ys, h with
  | .str name :: rest, h =>
    have h : stepOkN name rest = true := h
    unfold stepOkN at h
    cases e : tab.lookup name with
    | none => rw [e] at h; simp at h
    | some ls =>
      rw [e] at h
      simp only [Bool.and_eq_true, decide_eq_true_eq] at h
      obtain ⟨ns, e1, e2, e3⟩ := within_ints (by decide) h.2
      have m := lookup_mem e
      have all : ∀ q ∈ tab, q.2.length ≤ 4 := by decide +kernel
      exact ⟨name, ns, by rw [e1], List.mem_map.mpr ⟨_, m, rfl⟩, e2, by rw [e3]; exact all _ m⟩
  | [], h => simp [stepOk] at h
  | .non :: _, h => simp [stepOk] at h
  | .bl _ :: _, h => simp [stepOk] at h
  | .int _ :: _, h => simp [stepOk] at h
  | .byt _ :: _, h => simp [stepOk] at h
  | .flt _ :: _, h => simp [stepOk] at h
  | .ref _ :: _, h => simp [stepOk] at h
  | .ty _ :: _, h => simp [stepOk] at h
def small : List Int := [-9, -8, -7, -6, -5, -4, -3, -2, -1, 0, 1, 2, 3, 4, 5, 6, 7, 8, 9]
theorem small_of {n : Int} (h : -9 ≤ n ∧ n ≤ 9) : n ∈ small := by
  have : n = -9 ∨ n = -8 ∨ n = -7 ∨ n = -6 ∨ n = -5 ∨ n = -4 ∨ n = -3 ∨ n = -2 ∨ n = -1 ∨ n = 0 ∨ n = 1 ∨ n = 2 ∨ n = 3 ∨ n = 4 ∨ n = 5 ∨ n = 6 ∨ n = 7 ∨ n = 8 ∨ n = 9 := by omega
  simp only [small, List.mem_cons]
  omega
theorem num_back : ∀ n ∈ small, num (partText (.int n)) = .int n ∧ 32 ∉ tl (partText (.int n)) ∧ 124 ∉ tl (partText (.int n)) ∧ (partText (.int n)).length ≤ 2 := by decide +kernel
theorem num_text : ∀ p ∈ numTab, partText (.int p.2) = p.1 := by decide +kernel
theorem names_free : ∀ x ∈ names, 32 ∉ tl x ∧ 124 ∉ tl x ∧ x.length ≤ 6 := by decide +kernel
theorem num_some {w : Str} {n : Int} (h : num w = .int n) : partText (.int n) = w := by
  unfold num at h
  cases e : numTab.lookup w with
  | none => rw [e] at h; cases h
  | some m =>
    rw [e] at h
    cases h
    exact num_text _ (lookup_mem e)
theorem readStep_text {ys : List V} (h : stepOk ys = true) : readStep (stepText ys) = ys := by
  obtain ⟨name, ns, rfl, hn, hs, _⟩ := stepOk_shape h
  have e : Txt.split (stepText (.str name :: ns.map V.int)) " " = (V.str name :: ns.map V.int).map partText := by
    refine split_sp (by simp) fun p hp => ?_
    obtain ⟨v, hv, rfl⟩ := List.mem_map.mp hp
    rcases List.mem_cons.mp hv with z | z
    · rw [z]; exact (names_free _ hn).1
    · obtain ⟨n, hn', rfl⟩ := List.mem_map.mp z
      exact (num_back n (small_of (hs n hn'))).2.1
  unfold readStep
  rw [e]
  show V.str name :: ((ns.map V.int).map partText).map num = _
  rw [List.map_map, List.map_map]
  congr 1
  refine List.map_congr_left fun n hn' => ?_
  exact (num_back n (small_of (hs n hn'))).1
theorem joinL_mem {S : List Nat} {c : Nat} : ∀ {ps : List (List Nat)}, c ∈ joinL S ps → c ∈ S ∨ ∃ p ∈ ps, c ∈ p
  | [], h => by simp [joinL] at h
  | [p], h => .inr ⟨p, by simp, h⟩
  | p :: q :: r, h => by
    have h : c ∈ p ++ (S ++ joinL S (q :: r)) := h
    rw [List.mem_append, List.mem_append] at h
    rcases h with h | h | h
    · exact .inr ⟨p, by simp, h⟩
    · exact .inl h
    · rcases joinL_mem h with z | ⟨p', h1, h2⟩
      · exact .inl z
      · exact .inr ⟨p', List.mem_cons_of_mem _ h1, h2⟩
theorem stepText_free {ys : List V} (h : stepOk ys = true) : 124 ∉ tl (stepText ys) := by
  obtain ⟨name, ns, rfl, hn, hs, _⟩ := stepOk_shape h
  unfold stepText
  rw [join_eq, tl_join, tl_sp]
  intro z
  rcases joinL_mem z with z | ⟨p, hp, hc⟩
  · simp at z
  · obtain ⟨q, hq, rfl⟩ := List.mem_map.mp hp
    obtain ⟨v, hv, rfl⟩ := List.mem_map.mp hq
    rcases List.mem_cons.mp hv with z | z
    · rw [z] at hc; exact (names_free _ hn).2.1 hc
    · obtain ⟨n, hn', rfl⟩ := List.mem_map.mp z
      exact (num_back n (small_of (hs n hn'))).2.2.1 hc
theorem join_cons_ne {S : List Nat} {p : List Nat} {r : List (List Nat)} (h : p ≠ []) : joinL S (p :: r) ≠ [] := by
  cases r with
  | nil => exact h
  | cons q r =>
    show p ++ (S ++ joinL S (q :: r)) ≠ []
    simp [h]
theorem names_ne : ∀ x ∈ names, tl x ≠ [] := by decide +kernel
theorem stepText_ne {ys : List V} (h : stepOk ys = true) : tl (stepText ys) ≠ [] := by
  obtain ⟨name, ns, rfl, hn, hs, _⟩ := stepOk_shape h
  unfold stepText
  rw [join_eq, tl_join]
  exact join_cons_ne (names_ne _ hn)
theorem chainText_ne {c : List (List V)} (hc : c ≠ []) (h : ∀ ys ∈ c, stepOk ys = true) : chainText c ≠ Str.empty := by
  cases c with
  | nil => exact absurd rfl hc
  | cons ys c =>
    intro e
    have e := congrArg tl e
    unfold chainText at e
    rw [join_eq, tl_join] at e
    exact join_cons_ne (stepText_ne (h ys (by simp))) e
theorem chainOk_steps {c : List (List V)} (h : chainOk c = true) : ∀ ys ∈ c, stepOk ys = true := by
  unfold chainOk at h
  simp only [Bool.and_eq_true, List.all_eq_true] at h
  exact h.2.1
theorem chainOk_len {c : List (List V)} (h : chainOk c = true) : c.length ≤ 4 := by
  unfold chainOk at h
  simp only [Bool.and_eq_true, decide_eq_true_eq] at h
  exact h.1
/-- parsing is the inverse of formatting -/
theorem parse_text {c : List (List V)} (h : chainOk c = true) : parse (chainText c) = c := by
  have hs := chainOk_steps h
  unfold parse parts
  by_cases hc : c = []
  · subst hc
    rfl
  · rw [if_neg (chainText_ne hc hs)]
    unfold chainText
    rw [split_bar (by simpa using hc) (fun p hp => by
      obtain ⟨ys, hy, rfl⟩ := List.mem_map.mp hp
      exact stepText_free (hs ys hy)), List.map_map]
    have : ∀ ys ∈ c, (readStep ∘ stepText) ys = ys := fun ys hy => readStep_text (hs ys hy)
    exact (List.map_congr_left this).trans (List.map_id _)
theorem text_readStep {p : Str} (h : stepOk (readStep p) = true) : stepText (readStep p) = p := by
  obtain ⟨name, ns, e, hn, hs, _⟩ := stepOk_shape h
  unfold readStep at e h ⊢
  cases es : Txt.split p " " with
  | nil => exact absurd es (split_ne _ _)
  | cons x ws =>
    rw [es] at e
    injection e with e1 e2
    show Txt.join " " (partText (.str x) :: (ws.map num).map partText) = p
    have : (ws.map num).map partText = ws := by
      rw [List.map_map]
      refine (List.map_congr_left (g := id) fun w hw => ?_).trans (List.map_id _)
      have hm : num w ∈ ns.map V.int := by rw [← e2]; exact List.mem_map.mpr ⟨w, hw, rfl⟩
      obtain ⟨n, _, en⟩ := List.mem_map.mp hm
      show partText (num w) = w
      rw [← en]
      exact num_some en.symm
    rw [this]
    show Txt.join " " (x :: ws) = p
    rw [← es]
    exact join_sp p
/-- what is parsed and is a chain has the text that was parsed -/
theorem text_parse {z : Str} (h : chainOk (parse z) = true) : chainText (parse z) = z := by
  have hs := chainOk_steps h
  unfold parse parts at hs ⊢
  by_cases hz : z = Str.empty
  · rw [if_pos hz, hz]
    rfl
  · rw [if_neg hz] at hs ⊢
    unfold chainText
    rw [List.map_map]
    have : ∀ p ∈ Txt.split z " | ", (stepText ∘ readStep) p = id p := fun p hp => text_readStep (hs _ (List.mem_map.mpr ⟨p, hp, rfl⟩))
    rw [List.map_congr_left this, List.map_id]
    exact join_bar z
end FC
set_option Elab.async false
set_option linter.all false
set_option maxRecDepth 100000
namespace FC
open PySem L2
def top (i : Nat) : Stmt := PySem.Challenge.pw_foldchains_k09_whole_texts.main.body.getD i (.Pass ⟨0, 0, 0, 0⟩)
abbrev sIsChain : Stmt := top 13
abbrev sCheck : Stmt := top 14
abbrev sIsWhole : Stmt := top 15
abbrev sIsStep : Stmt := top 16
abbrev sWithin : Stmt := top 17
abbrev sLimits : Stmt := top 18
abbrev sFormat : Stmt := top 21
abbrev sParse : Stmt := top 22
abbrev sStepText : Stmt := top 23
abbrev sReadStep : Stmt := top 24
abbrev sCell : Stmt := top 26
abbrev sDrawn : Stmt := top 27
abbrev sRoll : Stmt := top 28
abbrev sRounds : Stmt := top 29
abbrev sTerm : Stmt := top 30
abbrev sTold : Stmt := top 31
abbrev sRest : Stmt := top 32
abbrev sStep : Stmt := top 33
abbrev sChain : Stmt := top 34
abbrev sLaw : Stmt := top 35
/-- the built-in names that the program and the law use -/
structure Blt (mg : Str → Option Value) : Prop where
  isi : mg "isinstance" = none
  int : mg "int" = none
  bool : mg "bool" = none
  str : mg "str" = none
  tuple : mg "tuple" = none
  len : mg "len" = none
  all : mg "all" = none
  zip : mg "zip" = none
  range : mg "range" = none
  max : mg "max" = none
  min : mg "min" = none
  sum : mg "sum" = none
  vErr : mg "ValueError" = none
end FC
namespace FC
open PySem L2
/-- a def that may be called by its name -/
structure Cal (P : Program) (w : World) (K : PySem.W.Frag) (mg : Str → Option Value) (base : Heap) (CX : CXT) (k : Nat) (x : Str) (ps : List Str) (sp : Sp) : Prop where
  ex : ∃ f fd, FnOk P w K mg base CX k f fd ps sp ∧ mg x = some (.ref f) ∧ PySem.W.keepIn K (.ref f) = true ∧ Binds K fd ps []
def tCal (sp : Sp) (E : XK) (t : TA) : TE := fun σ H Q => t σ H fun vs H1 => sp vs H1 Q E
section
variable {X : Cx} {CX : CXT} {k : Nat} {x : Str} {ps : List Str} {sp : Sp} {E : XK} {e : Expr} {es : List Expr} {t : TA} {p pos : Pos}
theorem pe_cal (C : Cal X.prog X.w X.K X.mg X.base CX k x ps sp) (hr : Room k X.A) (hx : Passes CX X E) (ha : PA X (e :: es) t) (hg : Gl X x := by rfl) (hdb : (x == ("__debug__" : Str)) = false := by decide)
    (he : starEach (e :: es) X.env = (false, eval e X.env) :: starEach es X.env := by rfl) (hpl : (backTo pos (starEach es X.env)).any (·.1) = false := by rfl) :
    PE X (.Call (.Name x p) (e :: es) [] pos) (tCal sp E t) := by
  obtain ⟨f, fd, G, m, kp, b⟩ := C.ex
  have h := pe_call (E := E) (pos := pos) (p := p) G hr hg m kp b .nil hx ha hdb he hpl
  refine ⟨fun pins s σ H Q I q => h.run pins s σ H Q I ?_⟩
  have mono := ha
  refine (show tCall sp [] E t σ H Q from ?_)
  unfold tCall
  unfold tCal at q
  simpa using q
end
end FC
namespace FC
open PySem L2
/-! ### the tables of the module as they stand behind the top -/
structure LetT (K : PySem.W.Frag) (w : World) (d : Addr) : Prop where
  kd : ∃ es n, KDict K w d es n
  at_ : ∀ z, ∃ r, PySem.W.nsIn K d z = some r ∧ match tab.lookup z with
    | none => r = none
    | some ls => ∃ a, r = some (.ref a) ∧ ∀ H, SqT K H a (ls.map V.str)
structure BndT (K : PySem.W.Frag) (w : World) (d : Addr) : Prop where
  kd : ∃ es n, KDict K w d es n
  at_ : ∀ p ∈ bnd, ∃ a, PySem.W.nsIn K d p.1 = some (some (.ref a)) ∧ ∀ H, SqT K H a [.int p.2.1, .int p.2.2]
structure NumT (K : PySem.W.Frag) (w : World) (d : Addr) : Prop where
  kd : ∃ es n, KDict K w d es n
  at_ : ∀ z, ∃ r, PySem.W.nsIn K d z = some r ∧ match numTab.lookup z with
    | none => r = none
    | some i => ∃ t, r = some (.int i t)
structure LimT (K : PySem.W.Frag) (a : Addr) : Prop where
  at_ : ∃ rs : List Addr, (∀ H, SqT K H a (rs.map V.ref)) ∧ rs.length = lims.length ∧ ∀ (i : Nat) (p : Nat × List Str) (r : Addr), lims[i]? = some p → rs[i]? = some r →
    ∃ c, (∀ H, SqT K H r [.int (p.1 : Nat), .ref c]) ∧ ∀ H, SqT K H c (p.2.map V.str)
end FC
namespace FC
open PySem L2
/-- an own exception class of the module, told of its written part -/
structure ExcT (K : PySem.W.Frag) (mg : Str → Option Value) (x : Str) (C : Addr) : Prop where
  gC : mg x = some (.ref C)
  q : PySem.W.excIn K C [.type "ValueError", .type "Exception", .type "BaseException", .type "object"] "ValueError.__new__" = true
  kC : PySem.W.keepIn K (.ref C) = true
  bP : PySem.W.subIn K (.ref C) (.type "BaseException") = some true
  tP : PySem.W.typeIn K (.ref C) = some (.type "type")
/-- a def that may let out an exception whose context is None -/
theorem okN {P : Program} {w : World} {K : PySem.W.Frag} {mg : Str → Option Value} {base : Heap} {x : Str} {st : Stmt} {f : Addr} {fd : FuncData} {N ps : List Str} {k : Nat} {sp : Sp} (F : Fun K x x st f fd) (S : FnScope N ps (defScope st))
    (len : ∀ vs H Q E, sp vs H Q E → vs.length = ps.length)
    (body : ∀ (c : Value) (A : Around) (outer : List Env) (s : Shared) (H : Hp) (vs : List V) (Q : VK) (E : XK), Room k (A.deeper (PyProof.Rows.envOfC x (defScope st) s.heap.objs.size f c)) → sp vs H Q E →
      ∃ t, PSs (cxOf (L2N.CX P w) P w K mg base N x (defScope st) f c A outer s H E) (defBody st) t ∧ t { nx := fun _ H' => Q .non H', rt := Q } (start N vs) H) :
    FnOk P w K mg base (L2N.CX P w) (k + 1) f fd ps sp := by
  obtain ⟨oc, od, kV, doc, pm, an, c, ct, osl, rfl, lk, hcd⟩ := F.ex
  exact fn_of lk hcd S len fun A outer s H vs Q E hr h => body c A outer s H vs Q E hr h
/-- none of its exceptions is known here: the call lets none out -/
theorem passN {X : Cx} : Passes (L2N.CX X.prog X.w) X E0 := fun _ _ _ _ _ _ _ h => by
  obtain ⟨_, _, _, _, _, _, _, _, _, _, _, _, z⟩ := h
  exact z.elim
end FC
namespace FC
open PySem L2
/-- an expression told in other words -/
theorem pe_as {X : Cx} {e : Expr} {t t' : TE} (h : PE X e t) (i : ∀ σ H Q, t' σ H Q → t σ H Q) : PE X e t' := ⟨fun pins s σ H Q I q => h.run pins s σ H Q I (i σ H Q q)⟩
end FC
set_option Elab.async false
set_option linter.all false
set_option maxRecDepth 100000
set_option maxHeartbeats 4000000
namespace FC
open PySem L2
/-! ### kinds of values, by isinstance -/
def kinds : List String := ["NoneType", "bool", "int", "str", "float", "list", "tuple", "dict", "bytes", "set"]
def Nice (K : PySem.W.Frag) (H : Hp) (x : V) : Prop := ∃ T, T ∈ kinds ∧ TyX K H x (.type T)
def isW : V → Bool
  | .int _ => true
  | _ => false
def isS : V → Bool
  | .str _ => true
  | _ => false
theorem kit_int : ∀ T ∈ kinds, kitB T "int" = some (T == "int" || T == "bool") := by decide +kernel
theorem kit_bool : ∀ T ∈ kinds, kitB T "bool" = some (T == "bool") := by decide +kernel
theorem kit_str : ∀ T ∈ kinds, kitB T "str" = some (T == "str") := by decide +kernel
theorem kit_tuple : ∀ T ∈ kinds, kitB T "tuple" = some (T == "tuple") := by decide +kernel
theorem tyX_isW {K : PySem.W.Frag} {H : Hp} {x : V} {u : Value} (t : TyX K H x u) : isW x = (u == .type "int") := by
  cases t with
  | base b => cases b <;> first | rfl | decide +kernel
  | _ => first | rfl | decide +kernel
theorem tyX_isS {K : PySem.W.Frag} {H : Hp} {x : V} {u : Value} (t : TyX K H x u) : isS x = (u == .type "str") := by
  cases t with
  | base b => cases b <;> first | rfl | decide +kernel
  | _ => first | rfl | decide +kernel
theorem ty_beq' (a b : String) : (Value.type a == Value.type b) = (a == b) := by
  have := ty_beq a b
  rw [this]
  by_cases h : a = b
  · subst h; simp
  · rw [decide_eq_false h]; exact (beq_eq_false_iff_ne.mpr h).symm
theorem isW_of {K : PySem.W.Frag} {H : Hp} {x : V} {T : String} (t : TyX K H x (.type T)) : isW x = (T == "int") := by rw [tyX_isW t, ty_beq']
theorem isS_of {K : PySem.W.Frag} {H : Hp} {x : V} {T : String} (t : TyX K H x (.type T)) : isS x = (T == "str") := by rw [tyX_isS t, ty_beq']
theorem tyX_same {K : PySem.W.Frag} {H H' : Hp} {x : V} {u : Value} (e : Same H H') (t : TyX K H x u) : TyX K H' x u := by
  cases t with
  | base b => cases b with
    | non => exact .base .non
    | bl x => exact .base (.bl x)
    | int x => exact .base (.int x)
    | str x => exact .base (.str x)
    | flt x => exact .base (.flt x)
    | lst h => exact .base (.lst (e _ _ h))
    | frz h => exact .base (.frz (e _ _ h))
    | tup h => exact .base (.tup (e _ _ h))
    | dK h => exact .base (.dK (e _ _ h))
    | dT h => exact .base (.dT (e _ _ h))
    | ins h a b c d f => exact .base (.ins (e _ _ h) a b c d f)
  | byt b => exact .byt b
  | set h => exact .set (e _ _ h)
  | kList h c => exact .kList h c
  | kTuple h c => exact .kTuple h c
  | kDict h c => exact .kDict h c
  | fTuple h => exact .fTuple (e _ _ h)
  | fDict h => exact .fDict (e _ _ h)
theorem Nice.same {K : PySem.W.Frag} {H H' : Hp} {x : V} (e : Same H H') (n : Nice K H x) : Nice K H' x := by
  obtain ⟨T, h, t⟩ := n
  exact ⟨T, h, tyX_same e t⟩
theorem Nice.non {K : PySem.W.Frag} {H : Hp} : Nice K H .non := ⟨_, by decide, .base .non⟩
theorem Nice.bl {K : PySem.W.Frag} {H : Hp} (b : Bool) : Nice K H (.bl b) := ⟨_, by decide, .base (.bl b)⟩
theorem Nice.int {K : PySem.W.Frag} {H : Hp} (i : Int) : Nice K H (.int i) := ⟨_, by decide, .base (.int i)⟩
theorem Nice.str {K : PySem.W.Frag} {H : Hp} (z : Str) : Nice K H (.str z) := ⟨_, by decide, .base (.str z)⟩
theorem ty_tup {K : PySem.W.Frag} {H : Hp} {a : Addr} {xs : List V} (h : SqT K H a xs) : TyX K H (.ref a) (.type "tuple") := by
  rcases h with (h | ⟨o, h⟩) | ⟨o, its, n, h, c, _⟩
  · exact .base (.tup h)
  · exact .fTuple h
  · exact .kTuple h c
theorem Nice.tup {K : PySem.W.Frag} {H : Hp} {a : Addr} {xs : List V} (h : SqT K H a xs) : Nice K H (.ref a) := ⟨_, by decide, ty_tup h⟩
theorem sqt_same {K : PySem.W.Frag} {H H' : Hp} {a : Addr} {xs : List V} (e : Same H H') (h : SqT K H a xs) : SqT K H' a xs := by
  rcases h with (h | ⟨o, h⟩) | h
  · exact .inl (.inl (e _ _ h))
  · exact .inl (.inr ⟨o, e _ _ h⟩)
  · exact .inr h
theorem same_upd {H H' : Hp} {p : Addr} {o : HO} (e : Same H H') (h : H' p = none) : Same H (L2.upd H' p o) := fun b u q => by
  have q' := e b u q
  rw [upd_ne (ne_of_none q' h)]
  exact q'
def spIsWhole (K : PySem.W.Frag) : Sp := fun vs H Q _ => ∃ x, vs = [x] ∧ Nice K H x ∧ Q (.bl (isW x)) H
section
variable {P : Program} {w : World} {K : PySem.W.Frag} {mg : Str → Option Value} {base : Heap}
theorem scIsWhole : FnScope ["value"] ["value"] (defScope sIsWhole) := ⟨rfl, rfl, rfl, by decide +kernel, rfl, by decide +kernel, by decide +kernel⟩
theorem ok_isWhole {f : Addr} {fd : FuncData} (F : Fun K "is_whole" "is_whole" sIsWhole f fd) (T : Blt mg) : FnOk P w K mg base CX0 1 f fd ["value"] (spIsWhole K) := by
  refine F.ok scIsWhole (fun vs H Q E h => ?_) (fun cdv A outer s H vs Q E hr h => ?_)
  · obtain ⟨x, rfl, _⟩ := h
    rfl
  · obtain ⟨x, rfl, ⟨t, ht, hx⟩, k⟩ := h
    refine ⟨_, pss_one (ps_ret (pe_and (pe_callB call_isi (by rfl) T.isi (by decide +kernel) (pa_cons (pv 0) (pa_cons (pe_bltn (v := .ty "int") (by rfl) T.int (by decide +kernel) rfl) pa_nil)))
      (pe_one (pe_not (pe_callB call_isi (by rfl) T.isi (by decide +kernel) (pa_cons (pv 0) (pa_cons (pe_bltn (v := .ty "bool") (by rfl) T.bool (by decide +kernel) rfl) pa_nil))))))), ?_⟩
    refine ⟨_, rfl, _, _, _, _, _, rfl, .ty _, hx, kit_ty (kit_int t ht), _, rfl, ?_⟩
    have e := isW_of hx
    rw [e] at k
    refine ite2 (fun h => ?_) (fun h => ?_)
    · refine ⟨_, rfl, _, _, _, _, _, rfl, .ty _, hx, kit_ty (kit_bool t ht), _, rfl, ?_⟩
      have : (!(t == "bool")) = (t == "int") := by
        revert h
        exact (by decide : ∀ t ∈ kinds, (t == "int" || t == "bool") = true → (!(t == "bool")) = (t == "int")) t ht
      rw [this]
      exact k
    · have : (t == "int") = false := by
        revert h
        exact (by decide : ∀ t ∈ kinds, ¬ (t == "int" || t == "bool") = true → (t == "int") = false) t ht
      rw [this] at k
      exact k
end
end FC
set_option Elab.async false
set_option linter.all false
set_option maxRecDepth 100000
set_option maxHeartbeats 4000000
namespace FC
open PySem L2
def letters5 : List Str := ["a", "b", "m", "k", "r"]
def spWithin (K : PySem.W.Frag) : Sp := fun vs H Q _ => ∃ a b ls xs, vs = [.ref a, .ref b] ∧ SqT K H a (ls.map V.str) ∧ SqT K H b xs ∧ (∀ l ∈ ls, l ∈ letters5) ∧ (∀ x ∈ xs, Nice K H x) ∧
  ∀ H', Same H H' → Q (.bl (decide (ls.length = xs.length) && within ls xs 0)) H'
theorem bnd_of {l : Str} (h : l ∈ letters5) (hr : l ≠ "r") : ∃ p ∈ bnd, p.1 = l ∧ ∀ a, lohi l a = p.2 := by
  have all : ∀ l ∈ letters5, l ≠ "r" → ∃ p ∈ bnd, p.1 = l ∧ bnd.lookup l = some p.2 := by decide +kernel
  obtain ⟨p, h1, h2, h3⟩ := all l h hr
  refine ⟨p, h1, h2, fun a => ?_⟩
  unfold lohi
  rw [if_neg hr, h3]
  rfl
theorem within_cons {l : Str} {ls : List Str} {n : Int} {xs : List V} {a lo hi : Int} (el : lohi l a = (lo, hi)) : within (l :: ls) (.int n :: xs) a = (!(decide (n < lo) || decide (hi < n)) && within ls xs n) := by
  show (!(decide (n < (lohi l a).1) || decide ((lohi l a).2 < n)) && within ls xs n) = _
  rw [el]
theorem within_lt {l : Str} {ls : List Str} {n : Int} {xs : List V} {a lo hi : Int} (el : lohi l a = (lo, hi)) (h : decide (n < lo) = true) : within (l :: ls) (.int n :: xs) a = false := by
  rw [within_cons el, h]
  rfl
theorem within_gt {l : Str} {ls : List Str} {n : Int} {xs : List V} {a lo hi : Int} (el : lohi l a = (lo, hi)) (h : decide (hi < n) = true) : within (l :: ls) (.int n :: xs) a = false := by
  rw [within_cons el, h, Bool.or_true]
  rfl
theorem within_ok {l : Str} {ls : List Str} {n : Int} {xs : List V} {a lo hi : Int} (el : lohi l a = (lo, hi)) (h1 : ¬ decide (n < lo) = true) (h2 : ¬ decide (hi < n) = true) : within (l :: ls) (.int n :: xs) a = within ls xs n := by
  rw [within_cons el, eq_false_of_ne_true h1, eq_false_of_ne_true h2]
  rfl
section
variable {P : Program} {w : World} {K : PySem.W.Frag} {mg : Str → Option Value} {base : Heap}
theorem scWithin : FnScope ["letters", "numbers", "ahead", "letter", "number", "low", "high"] ["letters", "numbers"] (defScope sWithin) := ⟨rfl, rfl, rfl, by decide +kernel, rfl, by decide +kernel, by decide +kernel⟩
theorem ok_within {f dB : Addr} {fd : FuncData} (F : Fun K "are_within" "are_within" sWithin f fd) (T : Blt mg) (C : Cal P w K mg base CX0 1 "is_whole" ["value"] (spIsWhole K)) (mB : mg "BOUNDS" = some (.ref dB)) (B : BndT K w dB) :
    FnOk P w K mg base CX0 2 f fd ["letters", "numbers"] (spWithin K) := by
  refine F.ok scWithin (fun vs H Q E h => ?_) (fun cdv A outer s H vs Q E hr h => ?_)
  · obtain ⟨a, b, ls, xs, rfl, _⟩ := h
    rfl
  · obtain ⟨a, b, ls, xs, rfl, hls, hxs, hin, hpl, k⟩ := h
    have nd := scWithin.nd
    refine ⟨_, pss_cons (ps_if (pt_cmpR op_ne (pe_callB call_len (by rfl) T.len PySem.boot_len (pa_cons (pv 0) pa_nil)) (pe_callB call_len (by rfl) T.len PySem.boot_len (pa_cons (pv 1) pa_nil)) (nomark _)) (pss_one (ps_ret pe_bl)) pss_nil)
      (pss_cons (ps_set (i := 2) nd rfl (Or.inl rfl) pe_int)
      (pss_cons (ps_for PassesOwn.never rfl (RZ.pi_zipA (by rfl) T.zip (pa_cons (pv 0) (pa_cons (pv 1) pa_nil))) (pg_tup rfl (pgs_cons (pg_name (i := 3) nd rfl (Or.inl rfl)) (pgs_cons (pg_name (i := 4) nd rfl (Or.inl rfl)) pgs_nil)))
        (pss_cons (ps_if (pt_not (pt_val (pe_cal C hr pass0 (pa_cons (pv 4) pa_nil)))) (pss_one (ps_ret pe_bl)) pss_nil)
        (pss_cons (ps_asg (pe_ifExp (pt_cmpR op_eq (pv 3) pe_str (nomark _)) (pe_tup (pa_cons pe_int (pa_cons (pe_op op_sub (pv 2) pe_int) pa_nil))) (pe_ix ix_kdict (pe_glob (v := .ref dB) rfl mB rfl) (pv 3) (fun _ _ => rfl))) (pg_tup rfl (pgs_cons (pg_name (i := 5) nd rfl (Or.inl rfl)) (pgs_cons (pg_name (i := 6) nd rfl (Or.inl rfl)) pgs_nil))))
        (pss_cons (ps_if (PW.pt (pw_or (pt_cmp (pc_lt (pv 4) (pv 5))) (pw_or1 (pt_cmp (pc_gt (pv 4) (pv 6)))))) (pss_one (ps_ret pe_bl)) pss_nil)
        (pss_one (ps_set (i := 2) nd rfl (Or.inl rfl) (pv 4)))))))
      (pss_one (ps_ret pe_bl)))), ?_⟩
    -- the lengths
    refine ⟨_, rfl, _, (ls.map V.str).length, rfl, .inr ⟨_, hls, rfl⟩, _, rfl, _, xs.length, rfl, .inr ⟨_, hxs, rfl⟩, rfl, _, rfl, ?_⟩
    by_cases hl : ¬ ls.length = xs.length
    · have e : decide (V.int ((ls.map V.str).length : Nat) = V.int (xs.length : Nat)) = false := decide_eq_false fun z => hl (by injection z with z; rw [List.length_map] at z; omega)
      show if (!decide (V.int ((ls.map V.str).length : Nat) = V.int (xs.length : Nat))) = true then _ else _
      rw [e]
      refine iteT ?_
      have := k H (Same.refl H)
      rw [decide_eq_false hl] at this
      exact this
    replace hl : ls.length = xs.length := Decidable.not_not.mp hl
    have e : decide (V.int ((ls.map V.str).length : Nat) = V.int (xs.length : Nat)) = true := decide_eq_true (by rw [List.length_map, hl])
    show if (!decide (V.int ((ls.map V.str).length : Nat) = V.int (xs.length : Nat))) = true then _ else _
    rw [e]
    refine iteF ?_
    have k' : ∀ H', Same H H' → Q (.bl (within ls xs 0)) H' := fun H' z => by
      have := k H' z
      rw [decide_eq_true hl] at this
      exact this
    clear k e
    -- ahead = 0
    refine ⟨_, rfl, _, rfl, a, b, ls.map V.str, xs, rfl, .inr ⟨hls, hxs, RZ.for_zipT (K := K) (xs := ls.map V.str) (ys := xs) (by rw [List.length_map, hl])
      (fun i σ H2 => ∃ (ahead : Int) (v3 v4 v5 v6 : Option V), σ = [some (.ref a), some (.ref b), some (.int ahead), v3, v4, v5, v6] ∧ Same H H2 ∧ within (ls.drop i) (xs.drop i) ahead = within ls xs 0)
      ⟨0, none, none, none, none, rfl, Same.refl H, rfl⟩ (fun i σ H2 ⟨_, _, _, _, _, _, s2, _⟩ => ⟨sqt_same s2 hls, sqt_same s2 hxs⟩) ?_ ?_⟩⟩
    · rintro i x y T σ H2 hx hy ⟨ahead, v3, v4, v5, v6, rfl, s2, hw⟩ hT
      have hi : i < ls.length := by
        have := (List.getElem?_eq_some_iff.mp hx).1
        rwa [List.length_map] at this
      have hi2 : i < xs.length := (List.getElem?_eq_some_iff.mp hy).1
      obtain ⟨l, hl', rfl⟩ : ∃ l, ls[i]? = some l ∧ x = V.str l := by
        rw [List.getElem?_map] at hx
        cases e : ls[i]? with
        | none => rw [e] at hx; cases hx
        | some l => rw [e] at hx; exact ⟨l, rfl, (Option.some.inj hx).symm⟩
      have hlm : l ∈ ls := List.mem_of_getElem? hl'
      have hym : y ∈ xs := List.mem_of_getElem? hy
      have ed : ls.drop i = l :: ls.drop (i + 1) := by
        rw [List.drop_eq_getElem_cons hi]
        congr 1
        rw [List.getElem?_eq_getElem hi] at hl'
        exact Option.some.inj hl'
      have ed2 : xs.drop i = y :: xs.drop (i + 1) := by
        rw [List.drop_eq_getElem_cons hi2]
        congr 1
        rw [List.getElem?_eq_getElem hi2] at hy
        exact Option.some.inj hy
      rw [ed, ed2] at hw
      have s3 : Same H (upd H2 T (.tup [V.str l, y])) := same_upd s2 hT
      refine ⟨T, [V.str l, y], rfl, SqT.of upd_same, rfl, _, _, rfl, _, _, rfl, rfl, ?_⟩
      -- is_whole(number)
      refine ⟨_, rfl, y, rfl, (hpl y hym).same s3, _, rfl, ?_⟩
      by_cases hW : isW y = false
      · rw [hW]
        refine iteT ?_
        have k0 : within (l :: ls.drop (i + 1)) (y :: xs.drop (i + 1)) ahead = false := by
          cases y <;> first | rfl | cases hW
        have := k' _ s3
        rw [← hw, k0] at this
        exact this
      · obtain ⟨n, rfl⟩ : ∃ n, y = V.int n := by
          cases y <;> first | exact ⟨_, rfl⟩ | exact absurd rfl hW
        refine iteF ?_
        -- low, high
        refine ⟨_, rfl, rfl, _, rfl, ?_⟩
        refine ite2 (fun er => ?_) (fun er => ?_)
        · have er : l = "r" := by
            have := of_decide_eq_true er
            injection this
          have el : lohi l ahead = (0, ahead - 1) := by unfold lohi; rw [if_pos er]
          refine ⟨_, rfl, _, _, rfl, rfl, (by show 2 ≤ sizeLine; decide), fun p np => ⟨p, _, rfl, SqT.of upd_same, rfl, _, _, rfl, _, _, rfl, rfl, ?_⟩⟩
          have s4 := same_upd (o := .tup [.int 0, .int (ahead - 1)]) s3 np
          refine ⟨_, rfl, _, rfl, _, _, rfl, rfl, _, rfl, ?_⟩
          refine ite2 (fun h1 => ?_) (fun h1 => ?_)
          · refine iteT ?_
            have := k' _ s4
            rw [← hw, within_lt el h1] at this
            exact this
          refine ⟨_, rfl, _, rfl, _, _, rfl, rfl, _, rfl, ?_⟩
          refine ite2 (fun h2 => ?_) (fun h2 => ?_)
          · have := k' _ s4
            rw [← hw, within_gt el h2] at this
            exact this
          -- ahead = number
          exact ⟨_, rfl, n, _, _, _, _, rfl, s4, by rw [← hw, within_ok el h1 h2]⟩
        · have er : l ≠ "r" := fun z => er (decide_eq_true (by rw [z]))
          obtain ⟨q, hq, hq1, hq2⟩ := bnd_of (hin l hlm) er
          obtain ⟨es, nn, kd⟩ := B.kd
          obtain ⟨c, hc1, hc2⟩ := B.at_ q hq
          rw [hq1] at hc1
          have el : lohi l ahead = (q.2.1, q.2.2) := hq2 ahead
          refine ⟨_, rfl, dB, l, .ref c, rfl, rfl, ⟨es, nn, _, kd.at_, kd.lit, hc1, rfl⟩, ⟨c, _, rfl, hc2 _, rfl, _, _, rfl, _, _, rfl, rfl, ?_⟩⟩
          have s4 := s3
          refine ⟨_, rfl, _, rfl, _, _, rfl, rfl, _, rfl, ?_⟩
          refine ite2 (fun h1 => ?_) (fun h1 => ?_)
          · refine iteT ?_
            have := k' _ s4
            rw [← hw, within_lt el h1] at this
            exact this
          refine ⟨_, rfl, _, rfl, _, _, rfl, rfl, _, rfl, ?_⟩
          refine ite2 (fun h2 => ?_) (fun h2 => ?_)
          · have := k' _ s4
            rw [← hw, within_gt el h2] at this
            exact this
          -- ahead = number
          exact ⟨_, rfl, n, _, _, _, _, rfl, s4, by rw [← hw, within_ok el h1 h2]⟩
    · rintro σ H2 ⟨ahead, v3, v4, v5, v6, rfl, s2, hw⟩
      have := k' _ s2
      rw [← hw, List.length_map, List.drop_of_length_le (Nat.le_refl _), hl, List.drop_of_length_le (Nat.le_refl _)] at this
      exact this
end
end FC
set_option Elab.async false
set_option linter.all false
set_option maxRecDepth 100000
set_option maxHeartbeats 4000000
namespace FC
open PySem L2
/-- a value in a step's place: a tuple of nice values, or another thing -/
def StepV (K : PySem.W.Frag) (H : Hp) (x : V) : Option (List V) → Prop
  | some ys => ∃ b, x = .ref b ∧ SqT K H b ys ∧ ∀ y ∈ ys, Nice K H y
  | none => ∃ T, T ∈ kinds ∧ T ≠ "tuple" ∧ TyX K H x (.type T)
def stepOkO : Option (List V) → Bool
  | some ys => stepOk ys
  | none => false
theorem StepV.same {K : PySem.W.Frag} {H H' : Hp} {x : V} {o : Option (List V)} (e : Same H H') (h : StepV K H x o) : StepV K H' x o := by
  cases o with
  | some ys =>
    obtain ⟨b, h1, h2, h3⟩ := h
    exact ⟨b, h1, sqt_same e h2, fun y hy => (h3 y hy).same e⟩
  | none =>
    obtain ⟨T, h1, h2, h3⟩ := h
    exact ⟨T, h1, h2, tyX_same e h3⟩
def spIsStep (K : PySem.W.Frag) : Sp := fun vs H Q _ => ∃ x o, vs = [x] ∧ StepV K H x o ∧ ∀ H', Same H H' → Q (.bl (stepOkO o)) H'
theorem at0 {α : Type} (y : α) (r : List α) : atI (y :: r) 0 = some y := by
  have h := atI_nat (xs := y :: r) (j := 0) (v := y) rfl
  exact h
theorem cut1 (y : V) (r : List V) : cutV (y :: r) (some 1) none = r := by
  simp [cutV, HT.sIx]
section
variable {P : Program} {w : World} {K : PySem.W.Frag} {mg : Str → Option Value} {base : Heap}
theorem scIsStep : FnScope ["value", "name"] ["value"] (defScope sIsStep) := ⟨rfl, rfl, rfl, by decide +kernel, rfl, by decide +kernel, by decide +kernel⟩
theorem ok_isStep {f dL : Addr} {fd : FuncData} (F : Fun K "is_step" "is_step" sIsStep f fd) (T : Blt mg) (C : Cal P w K mg base CX0 2 "are_within" ["letters", "numbers"] (spWithin K)) (mL : mg "LETTERS" = some (.ref dL)) (B : LetT K w dL) :
    FnOk P w K mg base CX0 3 f fd ["value"] (spIsStep K) := by
  refine F.ok scIsStep (fun vs H Q E h => ?_) (fun cdv A outer s H vs Q E hr h => ?_)
  · obtain ⟨x, o, rfl, _⟩ := h
    rfl
  · obtain ⟨x, o, rfl, hx, k⟩ := h
    have nd := scIsStep.nd
    obtain ⟨es, nn, kd⟩ := B.kd
    refine ⟨_, pss_cons (ps_if (PW.pt (pw_or (pt_not (pt_val (pe_callB call_isi (by rfl) T.isi (by decide +kernel) (pa_cons (pv 0) (pa_cons (pe_bltn (v := .ty "tuple") (by rfl) T.tuple (by decide +kernel) rfl) pa_nil))))) (pw_or1 (pt_cmpR op_eq (pe_callB call_len (by rfl) T.len PySem.boot_len (pa_cons (pv 0) pa_nil)) pe_int (nomark _))))) (pss_one (ps_ret pe_bl)) pss_nil)
      (pss_cons (ps_set (i := 1) nd rfl (Or.inl rfl) (pe_ix ix_tup (pv 0) pe_int (fun _ _ => rfl)))
      (pss_cons (ps_if (PW.pt (pw_or (pt_not (pt_val (pe_callB call_isi (by rfl) T.isi (by decide +kernel) (pa_cons (pv 1) (pa_cons (pe_bltn (v := .ty "str") (by rfl) T.str (by decide +kernel) rfl) pa_nil))))) (pw_or1 (pt_cmpR (op_notIn_kd kd) (pv 1) (pe_glob (v := .ref dL) rfl mL rfl) rfl)))) (pss_one (ps_ret pe_bl)) pss_nil)
      (pss_one (ps_ret (pe_cal C hr pass0 (pa_cons (pe_ix ix_kdict (pe_glob (v := .ref dL) rfl mL rfl) (pv 1) (fun _ _ => rfl)) (pa_cons (pe_slice sl_tup (pv 0) (po_some pe_int) po_none) pa_nil))))))), ?_⟩
    cases o with
    | none =>
      obtain ⟨t, ht, hnt, hty⟩ := hx
      refine ⟨_, rfl, _, _, _, _, _, rfl, .ty _, hty, kit_ty (kit_tuple t ht), _, rfl, ?_⟩
      rw [show (t == "tuple") = false from beq_eq_false_iff_ne.mpr hnt]
      exact iteT (iteT (k H (Same.refl H)))
    | some ys =>
      obtain ⟨b, rfl, hb, hn⟩ := hx
      refine ⟨_, rfl, _, _, _, _, _, rfl, .ty _, ty_tup hb, kit_ty (kit_tuple "tuple" (by decide)), _, rfl, iteF ?_⟩
      refine ⟨_, rfl, _, ys.length, rfl, .inr ⟨_, hb, rfl⟩, rfl, _, rfl, ?_⟩
      cases ys with
      | nil => exact iteT (k H (Same.refl H))
      | cons y r =>
        have e : decide (V.int ((y :: r).length : Nat) = V.int 0) = false := decide_eq_false fun z => by
          injection z with z
          rw [List.length_cons] at z
          omega
        show if decide (V.int ((y :: r).length : Nat) = V.int 0) = true then _ else _
        rw [e]
        refine iteF ?_
        -- name = value[0]
        refine ⟨_, rfl, b, _, _, y, rfl, rfl, hb, at0 y r, ?_⟩
        obtain ⟨t, ht, hty⟩ := hn y (by simp)
        refine ⟨_, rfl, _, _, _, _, _, rfl, .ty _, hty, kit_ty (kit_str t ht), _, rfl, ?_⟩
        by_cases hS : isS y = false
        · rw [isS_of hty] at hS
          rw [hS]
          refine iteT (iteT ?_)
          have := k H (Same.refl H)
          have e2 : stepOkO (some (y :: r)) = false := by
            rw [← isS_of hty] at hS
            cases y <;> first | rfl | cases hS
          rw [e2] at this
          exact this
        · obtain ⟨z, rfl⟩ : ∃ z, y = V.str z := by
            cases y <;> first | exact ⟨_, rfl⟩ | exact absurd rfl hS
          rw [show (t == "str") = true from (isS_of hty).symm]
          refine iteF ?_
          obtain ⟨o, ho, hm⟩ := B.at_ z
          refine ⟨_, rfl, z, o, rfl, rfl, ho, _, rfl, ?_⟩
          cases el : tab.lookup z with
          | none =>
            rw [el] at hm
            rw [hm]
            refine iteT ?_
            have := k H (Same.refl H)
            have e2 : stepOkO (some (V.str z :: r)) = false := by
              show stepOkN z r = false
              unfold stepOkN
              rw [el]
            rw [e2] at this
            exact this
          | some ls =>
            rw [el] at hm
            obtain ⟨a, hm, hls⟩ := hm
            rw [hm]
            refine iteF ?_
            rw [hm] at ho
            refine ⟨_, rfl, dL, z, .ref a, rfl, rfl, ⟨es, nn, _, kd.at_, kd.lit, ho, rfl⟩, ?_⟩
            refine ⟨_, rfl, _, rfl, b, _, rfl, hb, ?_, fun p np => ?_⟩
            · simp [HT.sIx]
            · rw [cut1]
              have s1 := same_upd (o := .tup r) (Same.refl H) np
              have all : ∀ q ∈ tab, ∀ l ∈ q.2, l ∈ letters5 := by decide +kernel
              refine ⟨a, p, ls, r, rfl, hls _, SqT.of upd_same, all _ (lookup_mem el), fun x hx => (hn x (List.mem_cons_of_mem _ hx)).same s1, fun H' s2 => ?_⟩
              have := k H' (Same.trans s1 s2)
              have e2 : stepOkO (some (V.str z :: r)) = (decide (ls.length = r.length) && within ls r 0) := by
                show stepOkN z r = _
                unfold stepOkN
                rw [el]
              rw [e2] at this
              exact this
end
end FC
set_option Elab.async false
set_option linter.all false
set_option maxRecDepth 100000
set_option maxHeartbeats 4000000
namespace FC
open PySem L2
/-- values in the places of a chain's steps -/
structure Steps (K : PySem.W.Frag) (H : Hp) (xs : List V) (os : List (Option (List V))) : Prop where
  len : xs.length = os.length
  at_ : ∀ (i : Nat) (x : V) (o : Option (List V)), xs[i]? = some x → os[i]? = some o → StepV K H x o
theorem Steps.same {K : PySem.W.Frag} {H H' : Hp} {xs : List V} {os : List (Option (List V))} (e : Same H H') (s : Steps K H xs os) : Steps K H' xs os :=
  ⟨s.len, fun i x o h1 h2 => (s.at_ i x o h1 h2).same e⟩
def spLimits (K : PySem.W.Frag) : Sp := fun vs H Q _ => ∃ a xs cs, vs = [.ref a] ∧ SqT K H a xs ∧ Steps K H xs (cs.map some) ∧ xs.length ≤ 1000 ∧ (∀ ys ∈ cs, stepOk ys = true) ∧ ∀ H', Same H H' → Q (.bl (limOk cs)) H'
theorem get_lt {α : Type} {l : List α} {i : Nat} {x : α} (h : l[i]? = some x) : i < l.length := (List.getElem?_eq_some_iff.mp h).1
theorem take_succ_get {α : Type} {l : List α} {i : Nat} {x : α} (h : l[i]? = some x) : l.take (i + 1) = l.take i ++ [x] := by
  rw [List.take_add_one, h]
  rfl
theorem inV_strs (n : Str) (ns : List Str) : inV (.str n) (ns.map V.str) = decide (n ∈ ns) := by
  unfold inV
  induction ns with
  | nil => simp
  | cons m r ih =>
    rw [List.map_cons, List.any_cons, ih]
    show (m == n || decide (n ∈ r)) = _
    by_cases h : n = m
    · subst h; simp
    · have h2 : (m == n) = false := beq_eq_false_iff_ne.mpr (fun z => h z.symm)
      rw [h2]
      simp [h]
theorem flat_strs (ns : List Str) : (ns.map V.str).all flatV = true := by
  simp [flatV]
section
variable {P : Program} {w : World} {K : PySem.W.Frag} {mg : Str → Option Value} {base : Heap}
theorem scLimits : FnScope ["steps", "most", "names", "step"] ["steps"] (defScope sLimits) := ⟨rfl, rfl, rfl, by decide +kernel, rfl, by decide +kernel, by decide +kernel⟩
theorem ok_limits {f dI : Addr} {fd : FuncData} (F : Fun K "keeps_limits" "keeps_limits" sLimits f fd) (T : Blt mg) (mI : mg "LIMITS" = some (.ref dI)) (B : LimT K dI) :
    FnOk P w K mg base CX0 1 f fd ["steps"] (spLimits K) := by
  refine F.ok scLimits (fun vs H Q E h => ?_) (fun cdv A outer s H vs Q E hr h => ?_)
  · obtain ⟨x, o, _, rfl, _⟩ := h
    rfl
  · obtain ⟨a, xs, cs, rfl, ha, hs, hlen, hok, k⟩ := h
    have nd := scLimits.nd
    obtain ⟨rs, hI, hrs, hat⟩ := B.at_
    refine ⟨_, pss_cons (ps_for PassesOwn.never rfl (pi_tup (pe_glob (v := .ref dI) rfl mI rfl)) (pg_tup rfl (pgs_cons (pg_name (i := 1) nd rfl (Or.inl rfl)) (pgs_cons (pg_name (i := 2) nd rfl (Or.inr rfl)) pgs_nil)))
        (pss_one (ps_if (pt_cmp (pc_gt (pe_callB call_len (by rfl) T.len PySem.boot_len (pa_cons
          (pe_lc (own := [("step", 3)]) (g := gName 3) (by rfl) nd (pi_tup (pv 0)) (blkOk_by (own := [("step", 3)]) (N := ["steps", "most", "names", "step"]) (sc := defScope sLimits) (by decide +kernel)) (fun _ _ _ _ _ => pg_name (i := 3) nd rfl (Or.inl rfl))
            (fun _ _ _ _ _ => pts_one (pt_cmpR (r := rIn K false) op_in_seq (pe_ix (r := rIxT K) ix_tup (pv 3) pe_int (fun _ _ => rfl)) (pv 2) rfl)) (fun _ _ _ _ _ => pv 3)) pa_nil)) (pv 1))) (pss_one (ps_ret pe_bl)) pss_nil)))
      (pss_one (ps_ret pe_bl)), ?_⟩
    refine ⟨dI, rfl, ⟨_, hI H⟩, for_tup (K := K) (a := dI) (xs := rs.map V.ref) (fun i σ H2 => ∃ v1 v2 v3 : Option V, σ = [some (.ref a), v1, v2, v3] ∧ Same H H2 ∧ (lims.take i).all (fun p => decide ((cs.filter (headIn p.2)).length ≤ p.1)) = true)
      ⟨none, none, none, rfl, Same.refl H, rfl⟩ (fun i σ H2 _ _ => hI H2) ?_ ?_⟩
    · rintro i x σ H2 hx ⟨v1, v2, v3, rfl, s2, hall⟩
      have hi : i < rs.length := by
        have := get_lt hx
        rwa [List.length_map] at this
      obtain ⟨r, hr', rfl⟩ : ∃ r, rs[i]? = some r ∧ x = V.ref r := ⟨rs[i], List.getElem?_eq_getElem hi, by
        rw [List.getElem?_map, List.getElem?_eq_getElem hi] at hx
        exact (Option.some.inj hx).symm⟩
      obtain ⟨⟨m, names⟩, hp⟩ : ∃ p, lims[i]? = some p := ⟨lims[i]'(by omega), List.getElem?_eq_getElem (by omega)⟩
      obtain ⟨c, h1, h2⟩ := hat i (m, names) r hp hr'
      refine ⟨r, _, rfl, h1 _, rfl, _, _, rfl, _, _, rfl, rfl, ?_⟩
      -- the comprehension
      refine ⟨_, rfl, a, rfl, ⟨_, sqt_same s2 ha⟩, fun D nD => ?_⟩
      have sD : Same H (upd H2 D (.lst [])) := same_upd s2 nD
      refine lc_tup (K := K) (a := a) (xs := xs) (fun j H3 => ∃ acc : List V, H3 D = some (.lst acc) ∧ acc.length = ((cs.take j).filter (headIn names)).length ∧ Same H H3)
        ⟨[], upd_same, rfl, sD⟩ (fun j H3 _ ⟨_, _, _, s3⟩ => sqt_same s3 ha) ?_ ?_
      · rintro j y H3 hy ⟨acc, hD, hacc, s3⟩
        have hj : j < cs.length := by
          have := get_lt hy
          rw [hs.len, List.length_map] at this
          exact this
        have hcj : (cs.map some)[j]? = some (some cs[j]) := by rw [List.getElem?_map, List.getElem?_eq_getElem hj]; rfl
        obtain ⟨b, rfl, hb, hn⟩ := hs.at_ j y _ hy hcj
        have hcm : cs[j] ∈ cs := List.getElem_mem hj
        obtain ⟨name, ns, ec, _⟩ := stepOk_shape (hok _ hcm)
        rw [ec] at hb
        have et : (cs.take (j + 1)).filter (headIn names) = (cs.take j).filter (headIn names) ++ (if name ∈ names then [cs[j]] else []) := by
          rw [take_succ_get (List.getElem?_eq_getElem hj), List.filter_append]
          congr 1
          rw [List.filter_cons, ec]
          show (if decide (name ∈ names) = true then _ else _) = _
          by_cases hm : name ∈ names
          · rw [if_pos hm, if_pos (decide_eq_true hm)]; rfl
          · rw [if_neg hm, if_neg (by simpa using hm)]; rfl
        refine ⟨rfl, _, rfl, b, _, _, .str name, rfl, rfl, sqt_same s3 hb, at0 _ _, _, rfl, c, names.map V.str, rfl, .inr (h2 _), rfl, flat_strs _, _, rfl, ?_⟩
        show if inV (.str name) (names.map V.str) = true then _ else _
        rw [inV_strs]
        refine ite2 (fun hm => ?_) (fun hm => ?_)
        · have hm := of_decide_eq_true hm
          rw [if_pos hm] at et
          have hle : acc.length ≤ j := by
            rw [hacc]
            exact Nat.le_trans (List.length_filter_le _ _) (by rw [List.length_take]; omega)
          have hjx := get_lt hy
          refine ⟨_, rfl, acc, hD, small1000 (by omega), acc ++ [.ref b], upd_same, ?_, ?_⟩
          · rw [et, List.length_append, List.length_append, hacc]
            rfl
          · intro q u hq
            have hqD : q ≠ D := fun z => by
              have := s2 q u hq
              rw [z, nD] at this
              cases this
            rw [upd_ne hqD]
            exact s3 q u hq
        · have hm : ¬ name ∈ names := fun z => hm (decide_eq_true z)
          rw [if_neg hm, List.append_nil] at et
          exact ⟨acc, hD, by rw [et]; exact hacc, s3⟩
      · rintro H3 ⟨acc, hD, hacc, s3⟩
        rw [hs.len, List.length_map, List.take_length] at hacc
        refine ⟨_, acc.length, rfl, .inl ⟨acc, SqL.of hD, rfl⟩, _, rfl, _, _, rfl, rfl, _, rfl, ?_⟩
        refine ite2 (fun hgt => ?_) (fun hgt => ?_)
        · have hgt : ((m : Nat) : Int) < (acc.length : Int) := of_decide_eq_true hgt
          have := k H3 s3
          have e : limOk cs = false := by
            cases el : limOk cs with
            | false => rfl
            | true =>
              unfold limOk at el
              have := List.all_eq_true.mp el (m, names) (List.mem_of_getElem? hp)
              have := of_decide_eq_true this
              have : (cs.filter (headIn names)).length ≤ m := this
              omega
          rw [e] at this
          exact this
        · have hgt : ¬ ((m : Nat) : Int) < (acc.length : Int) := fun z => hgt (decide_eq_true z)
          refine ⟨_, _, _, rfl, s3, ?_⟩
          rw [take_succ_get hp, List.all_append, hall]
          show (true && (decide ((cs.filter (headIn names)).length ≤ m) && true)) = true
          rw [decide_eq_true (by omega)]
          rfl
    · rintro σ H2 ⟨v1, v2, v3, rfl, s2, hall⟩
      have := k H2 s2
      have e : limOk cs = true := by
        unfold limOk
        rw [List.length_map, hrs, List.take_length] at hall
        exact hall
      rw [e] at this
      exact this
end
end FC
set_option Elab.async false
set_option linter.all false
set_option maxRecDepth 100000
set_option maxHeartbeats 4000000
namespace FC
open PySem L2
/-- a value in a chain's place: a tuple, or another thing -/
def ChainV (K : PySem.W.Frag) (H : Hp) (x : V) : Option (List (Option (List V))) → Prop
  | some os => ∃ a xs, x = .ref a ∧ SqT K H a xs ∧ Steps K H xs os
  | none => ∃ T, T ∈ kinds ∧ T ≠ "tuple" ∧ TyX K H x (.type T)
def chainOkL (os : List (Option (List V))) : Bool := decide (os.length ≤ 4) && (os.all stepOkO && limOk (os.filterMap id))
def chainOkO : Option (List (Option (List V))) → Bool
  | some os => chainOkL os
  | none => false
theorem chainOkL_some (cs : List (List V)) : chainOkL (cs.map some) = chainOk cs := by
  unfold chainOkL chainOk
  have e1 : (cs.map some).all stepOkO = cs.all stepOk := by
    rw [List.all_map]
    rfl
  have e2 : (cs.map some).filterMap id = cs := by
    induction cs with
    | nil => rfl
    | cons c r ih =>
      rw [List.map_cons, List.filterMap_cons]
      show c :: _ = _
      rw [ih (by
        rw [List.all_map]
        rfl)]
  rw [e1, e2, List.length_map]
theorem all_somes : ∀ {os : List (Option (List V))}, os.all stepOkO = true → os = (os.filterMap id).map some
  | [], _ => rfl
  | none :: r, h => by simp [stepOkO] at h
  | some c :: r, h => by
    rw [List.all_cons, Bool.and_eq_true] at h
    have ih := all_somes h.2
    show some c :: r = some c :: (r.filterMap id).map some
    rw [← ih]
theorem somes_ok {os : List (Option (List V))} (h : os.all stepOkO = true) : ∀ ys ∈ os.filterMap id, stepOk ys = true := fun ys hy => by
  obtain ⟨o, ho, e⟩ := List.mem_filterMap.mp hy
  have e : o = some ys := e
  have := List.all_eq_true.mp h o ho
  rw [e] at this
  exact this
def spIsChain (K : PySem.W.Frag) : Sp := fun vs H Q _ => ∃ x oo, vs = [x] ∧ ChainV K H x oo ∧ ∀ H', Same H H' → Q (.bl (chainOkO oo)) H'
section
variable {P : Program} {w : World} {K : PySem.W.Frag} {mg : Str → Option Value} {base : Heap}
theorem scIsChain : FnScope ["value", "step"] ["value"] (defScope sIsChain) := ⟨rfl, rfl, rfl, by decide +kernel, rfl, by decide +kernel, by decide +kernel⟩
theorem ok_isChain {f : Addr} {tM : Tok} {fd : FuncData} (F : Fun K "is_chain" "is_chain" sIsChain f fd) (T : Blt mg) (CS : Cal P w K mg base CX0 3 "is_step" ["value"] (spIsStep K)) (CL : Cal P w K mg base CX0 1 "keeps_limits" ["steps"] (spLimits K))
    (mM : mg "MOST_STEPS" = some (.int 4 tM)) : FnOk P w K mg base CX0 4 f fd ["value"] (spIsChain K) := by
  refine F.ok scIsChain (fun vs H Q E h => ?_) (fun cdv A outer s H vs Q E hr h => ?_)
  · obtain ⟨x, o, rfl, _⟩ := h
    rfl
  · obtain ⟨x, oo, rfl, hx, k⟩ := h
    have nd := scIsChain.nd
    have hr1 : Room 1 _ := hr.mono (by decide)
    refine ⟨_, pss_cons (ps_if (PW.pt (pw_or (pt_not (pt_val (pe_callB call_isi (by rfl) T.isi (by decide +kernel) (pa_cons (pv 0) (pa_cons (pe_bltn (v := .ty "tuple") (by rfl) T.tuple (by decide +kernel) rfl) pa_nil)))))
          (pw_or1 (pt_cmp (pc_gt (pe_callB call_len (by rfl) T.len PySem.boot_len (pa_cons (pv 0) pa_nil)) (pe_glob (v := .int 4) rfl mM ⟨_, rfl⟩)))))) (pss_one (ps_ret pe_bl)) pss_nil)
      (pss_one (ps_ret (pe_and (pe_callB (cr_all rfl) (by rfl) T.all (by decide +kernel) (pa_cons
          (pe_lc (own := [("step", 1)]) (g := gName 1) (by rfl) nd (pi_tup (pv 0)) (blkOk_by (own := [("step", 1)]) (N := ["value", "step"]) (sc := defScope sIsChain) (by decide +kernel)) (fun _ _ _ _ _ => pg_name (i := 1) nd rfl (Or.inl rfl))
            (fun _ _ _ _ _ => pts_nil) (fun _ _ _ _ _ => pe_cal CS hr pass0 (pa_cons (pv 1) pa_nil))) pa_nil)) (pe_one (pe_cal CL hr1 pass0 (pa_cons (pv 0) pa_nil)))))), ?_⟩
    cases oo with
    | none =>
      obtain ⟨t, ht, hnt, hty⟩ := hx
      refine ⟨_, rfl, _, _, _, _, _, rfl, .ty _, hty, kit_ty (kit_tuple t ht), _, rfl, ?_⟩
      rw [show (t == "tuple") = false from beq_eq_false_iff_ne.mpr hnt]
      exact iteT (iteT (k H (Same.refl H)))
    | some os =>
      obtain ⟨a, xs, rfl, ha, hs⟩ := hx
      refine ⟨_, rfl, _, _, _, _, _, rfl, .ty _, ty_tup ha, kit_ty (kit_tuple "tuple" (by decide)), _, rfl, iteF ?_⟩
      refine ⟨_, rfl, _, xs.length, rfl, .inr ⟨_, ha, rfl⟩, _, _, rfl, rfl, _, rfl, ?_⟩
      refine ite2 (fun hgt => ?_) (fun hgt => ?_)
      · have hgt : (4 : Int) < (xs.length : Int) := of_decide_eq_true hgt
        have := k H (Same.refl H)
        have e : chainOkO (some os) = false := by
          show chainOkL os = false
          unfold chainOkL
          rw [decide_eq_false (by rw [← hs.len]; omega)]
          rfl
        rw [e] at this
        exact this
      · have hgt : xs.length ≤ 4 := by
          have : ¬ (4 : Int) < (xs.length : Int) := fun z => hgt (decide_eq_true z)
          omega
        have k' : ∀ H', Same H H' → Q (.bl (os.all stepOkO && limOk (os.filterMap id))) H' := fun H' z => by
          have := k H' z
          have e : chainOkO (some os) = (os.all stepOkO && limOk (os.filterMap id)) := by
            show chainOkL os = _
            unfold chainOkL
            rw [decide_eq_true (by rw [← hs.len]; omega)]
            rfl
          rw [e] at this
          exact this
        refine ⟨_, rfl, a, rfl, ⟨_, ha⟩, fun D nD => ?_⟩
        have sD : Same H (upd H D (.lst [])) := same_upd (Same.refl H) nD
        refine lc_tup (K := K) (a := a) (xs := xs) (fun j H3 => H3 D = some (.lst (((os.take j).map stepOkO).map V.bl)) ∧ Same H H3) ⟨upd_same, sD⟩ (fun j H3 _ ⟨_, s3⟩ => sqt_same s3 ha) ?_ ?_
        · rintro j y H3 hy ⟨hD, s3⟩
          have hj : j < os.length := by
            have := get_lt hy
            rw [hs.len] at this
            exact this
          have ho : os[j]? = some os[j] := List.getElem?_eq_getElem hj
          refine ⟨rfl, ⟨_, rfl, y, _, rfl, (hs.at_ j y _ hy ho).same s3, fun H4 s4 => ⟨_, s4 _ _ hD, ?_, ?_, ?_⟩⟩⟩
          · rw [List.length_map, List.length_map, List.length_take]
            exact small1000 (by have := get_lt hy; omega)
          · rw [upd_same, take_succ_get ho, List.map_append, List.map_append]
            rfl
          · intro q u hq
            have hqD : q ≠ D := fun z => by
              rw [z, nD] at hq
              cases hq
            rw [upd_ne hqD]
            exact s4 q u (s3 q u hq)
        · rintro H3 ⟨hD, s3⟩
          rw [hs.len, List.take_length] at hD
          refine ⟨D, _, rfl, SqL.of hD, ?_⟩
          refine ⟨_, rfl, ?_⟩
          have ea : (os.map stepOkO).all id = os.all stepOkO := by
            rw [List.all_map]
            rfl
          rw [ea]
          cases hall : os.all stepOkO with
          | false =>
            refine iteF ?_
            have := k' H3 s3
            rw [hall] at this
            exact this
          | true =>
            refine iteT ?_
            have e2 := all_somes hall
            refine ⟨_, rfl, a, xs, os.filterMap id, rfl, sqt_same s3 ha, ?_, by omega, somes_ok hall, fun H4 s4 => ?_⟩
            · rw [← e2]
              exact hs.same s3
            · have := k' H4 (Same.trans s3 s4)
              rw [hall] at this
              exact this
end
end FC
set_option Elab.async false
set_option linter.all false
set_option maxRecDepth 100000
set_option maxHeartbeats 4000000
namespace FC
open PySem L2
/-- nothing, or InvalidChain -/
def spCheck (K : PySem.W.Frag) (C : Addr) : Sp := fun vs H Q E => ∃ x oo, vs = [x] ∧ ChainV K H x oo ∧ ∀ H', Same H H' → (chainOkO oo = true → Q .non H') ∧ (chainOkO oo = false → E (.ref C) none H')
section
variable {P : Program} {w : World} {K : PySem.W.Frag} {mg : Str → Option Value} {base : Heap}
theorem scCheck : FnScope ["value"] ["value"] (defScope sCheck) := ⟨rfl, rfl, rfl, by decide +kernel, rfl, by decide +kernel, by decide +kernel⟩
theorem ok_check {f C : Addr} {fd : FuncData} (F : Fun K "check_chain" "check_chain" sCheck f fd) (CC : Cal P w K mg base CX0 4 "is_chain" ["value"] (spIsChain K)) (T : ExcT K mg "InvalidChain" C) :
    FnOk P w K mg base (L2N.CX P w) 5 f fd ["value"] (spCheck K C) := by
  refine okN F scCheck (fun vs H Q E h => ?_) (fun cdv A outer s H vs Q E hr h => ?_)
  · obtain ⟨x, o, rfl, _⟩ := h
    rfl
  · obtain ⟨x, oo, rfl, hx, k⟩ := h
    refine ⟨_, pss_one (ps_if (pt_not (pt_val (pe_cal CC hr pass0 (pa_cons (pv 0) pa_nil)))) (pss_one (L2N.ps_raise rfl (L2N.takes_of rfl rfl rfl rfl) (L2N.pmk_own PySem.F.excBase_ValueError T.q T.gC T.kC (raises_own T.bP T.tP) rfl))) pss_nil), ?_⟩
    refine ⟨_, rfl, x, oo, rfl, hx, fun H1 s1 => ⟨_, rfl, ?_⟩⟩
    cases h : chainOkO oo with
    | false => exact iteT ((k H1 s1).2 h)
    | true => exact iteF ((k H1 s1).1 h)
end
end FC
set_option Elab.async false
set_option linter.all false
set_option maxRecDepth 100000
set_option maxHeartbeats 4000000
namespace FC
open PySem L2
theorem sum_bound {ys : List Str} {m : Nat} (h : ∀ y ∈ ys, y.length ≤ m) : (ys.map (·.length)).sum ≤ m * ys.length := by
  induction ys with
  | nil => simp
  | cons y r ih =>
    have h1 := h y (by simp)
    have h2 := ih fun z hz => h z (List.mem_cons_of_mem _ hz)
    rw [List.map_cons, List.sum_cons, List.length_cons, Nat.mul_succ]
    omega
theorem part_len {ys : List V} (h : stepOk ys = true) : ∀ y ∈ ys.map partText, y.length ≤ 6 := by
  obtain ⟨name, ns, rfl, hn, hs, _⟩ := stepOk_shape h
  intro y hy
  obtain ⟨v, hv, rfl⟩ := List.mem_map.mp hy
  rcases List.mem_cons.mp hv with z | z
  · rw [z]
    exact (names_free _ hn).2.2
  · obtain ⟨n, hn', rfl⟩ := List.mem_map.mp z
    exact Nat.le_trans (num_back n (small_of (hs n hn'))).2.2.2 (by decide)
theorem stepText_len {ys : List V} (h : stepOk ys = true) : (stepText ys).length ≤ 100 := by
  have h1 := StrLaws.join_length_le " " (ys.map partText)
  have h2 := sum_bound (part_len h)
  obtain ⟨name, ns, rfl, hn, hs, hl⟩ := stepOk_shape h
  unfold stepText
  rw [TL.join_eq]
  have e : ((V.str name :: ns.map V.int).map partText).length ≤ 5 := by
    simp
    omega
  have e2 : (" " : Str).length = 1 := by decide +kernel
  rw [e2] at h1
  omega
theorem chainText_len {c : List (List V)} (h : chainOk c = true) : (chainText c).length ≤ 500 := by
  have h1 := StrLaws.join_length_le " | " (c.map stepText)
  have h2 : ((c.map stepText).map (·.length)).sum ≤ 100 * (c.map stepText).length := sum_bound fun y hy => by
    obtain ⟨ys, hy', rfl⟩ := List.mem_map.mp hy
    exact stepText_len (chainOk_steps h ys hy')
  have h3 := chainOk_len h
  unfold chainText
  rw [TL.join_eq]
  have e2 : (" | " : Str).length = 3 := by decide +kernel
  rw [e2] at h1
  rw [List.length_map] at h1 h2
  omega
def spStepText (K : PySem.W.Frag) : Sp := fun vs H Q _ => ∃ b ys, vs = [.ref b] ∧ SqT K H b ys ∧ stepOk ys = true ∧ ∀ H', Same H H' → Q (.str (stepText ys)) H'
/-- the text, or InvalidChain -/
def spFormat (K : PySem.W.Frag) (C : Addr) : Sp := fun vs H Q E => ∃ x oo, vs = [x] ∧ ChainV K H x oo ∧ ∀ H', Same H H' →
  (∀ cs, oo = some (cs.map some) → chainOk cs = true → Q (.str (chainText cs)) H') ∧ (chainOkO oo = false → E (.ref C) none H')
theorem chainOkO_true {oo : Option (List (Option (List V)))} (h : chainOkO oo = true) : ∃ cs, oo = some (cs.map some) ∧ chainOk cs = true := by
  cases oo with
  | none => cases h
  | some os =>
    have h : chainOkL os = true := h
    have h2 := h
    unfold chainOkL at h2
    rw [Bool.and_eq_true, Bool.and_eq_true] at h2
    have e := all_somes h2.2.1
    refine ⟨os.filterMap id, by rw [← e], ?_⟩
    rw [← chainOkL_some, ← e]
    exact h
section
variable {P : Program} {w : World} {K : PySem.W.Frag} {mg : Str → Option Value} {base : Heap}
theorem scStepText : FnScope ["step", "part"] ["step"] (defScope sStepText) := ⟨rfl, rfl, rfl, by decide +kernel, rfl, by decide +kernel, by decide +kernel⟩
theorem ok_stepText {f : Addr} {fd : FuncData} (F : Fun K "step_text" "step_text" sStepText f fd) (T : Blt mg) : FnOk P w K mg base CX0 1 f fd ["step"] (spStepText K) := by
  refine F.ok scStepText (fun vs H Q E h => ?_) (fun cdv A outer s H vs Q E hr h => ?_)
  · obtain ⟨x, o, rfl, _⟩ := h
    rfl
  · obtain ⟨b, ys, rfl, hb, hok, k⟩ := h
    have nd := scStepText.nd
    refine ⟨_, pss_one (ps_ret (pe_join pe_str (pe_lc (own := [("part", 1)]) (g := gName 1) (by rfl) nd (pi_tup (pv 0)) (blkOk_by (own := [("part", 1)]) (N := ["step", "part"]) (sc := defScope sStepText) (by decide +kernel)) (fun _ _ _ _ _ => pg_name (i := 1) nd rfl (Or.inl rfl))
      (fun _ _ _ _ _ => pts_nil) (fun _ _ _ _ _ => pe_callTy (CallR.or call_str_int SkE.call_str_str) (by rfl) T.str (by decide +kernel) (pa_cons (pv 1) pa_nil))))), ?_⟩
    refine ⟨⟨_, rfl⟩, _, rfl, b, rfl, ⟨_, hb⟩, fun D nD => ?_⟩
    have sD : Same H (upd H D (.lst [])) := same_upd (Same.refl H) nD
    obtain ⟨name, ns, ey, hn, hs, hl⟩ := stepOk_shape hok
    have hlen : ys.length ≤ 5 := by
      rw [ey]
      simp
      omega
    refine lc_tup (K := K) (a := b) (xs := ys) (fun j H3 => H3 D = some (.lst (((ys.take j).map partText).map V.str)) ∧ Same H H3) ⟨upd_same, sD⟩ (fun j H3 _ ⟨_, s3⟩ => sqt_same s3 hb) ?_ ?_
    · rintro j y H3 hy ⟨hD, s3⟩
      have hj := get_lt hy
      have fin : ∃ acc, H3 D = some (.lst acc) ∧ acc.length < sizeLine ∧ upd H3 D (.lst (acc ++ [.str (partText y)])) D = some (.lst (((ys.take (j + 1)).map partText).map V.str)) ∧ Same H (upd H3 D (.lst (acc ++ [.str (partText y)]))) := by
        refine ⟨_, hD, ?_, ?_, ?_⟩
        · rw [List.length_map, List.length_map, List.length_take]
          exact small1000 (by omega)
        · rw [upd_same, take_succ_get hy, List.map_append, List.map_append]
          rfl
        · intro q u hq
          have hqD : q ≠ D := fun z => by
            rw [z, nD] at hq
            cases hq
          rw [upd_ne hqD]
          exact s3 q u hq
      have hym : y ∈ ys := List.mem_of_getElem? hy
      rw [ey] at hym
      rcases List.mem_cons.mp hym with z | z
      · subst z
        exact ⟨rfl, ⟨_, rfl, .inr ⟨_, rfl, fin⟩⟩⟩
      · obtain ⟨n, hn', rfl⟩ := List.mem_map.mp z
        have hb9 := hs n hn'
        refine ⟨rfl, ⟨_, rfl, .inl ⟨n, rfl, ?_, fin⟩⟩⟩
        have : n.natAbs ≤ 9 := by omega
        have all : ∀ m ≤ 9, Nat.log2 m < 1920 := by decide
        exact all _ this
    · rintro H3 ⟨hD, s3⟩
      rw [List.take_length] at hD
      refine ⟨_, D, ys.map partText, rfl, rfl, .inl (SqL.of hD), ?_, k H3 s3⟩
      have h2 := sum_bound (part_len hok)
      have e2 : (" " : Str).length = 1 := by decide +kernel
      rw [List.length_map] at h2
      rw [List.length_map, e2]
      omega
theorem scFormat : FnScope ["chain", "step"] ["chain"] (defScope sFormat) := ⟨rfl, rfl, rfl, by decide +kernel, rfl, by decide +kernel, by decide +kernel⟩
theorem ok_format {f C : Addr} {fd : FuncData} (F : Fun K "format_chain" "format_chain" sFormat f fd) (CC : Cal P w K mg base (L2N.CX P w) 5 "check_chain" ["value"] (spCheck K C)) (CT : Cal P w K mg base CX0 1 "step_text" ["step"] (spStepText K)) :
    FnOk P w K mg base (L2N.CX P w) 6 f fd ["chain"] (spFormat K C) := by
  refine okN F scFormat (fun vs H Q E h => ?_) (fun cdv A outer s H vs Q E hr h => ?_)
  · obtain ⟨x, o, rfl, _⟩ := h
    rfl
  · obtain ⟨x, oo, rfl, hx, k⟩ := h
    have nd := scFormat.nd
    have hr1 : Room 1 _ := hr.mono (by decide)
    refine ⟨_, pss_cons (ps_expr (pe_cal CC hr (L2N.passes_call (W := fun cls d _ H => E cls d H) (L2N.takes_of rfl rfl rfl rfl) (fun _ _ _ _ h => h)) (pa_cons (pv 0) pa_nil)))
      (pss_one (ps_ret (pe_join pe_str (pe_lc (own := [("step", 1)]) (g := gName 1) (by rfl) nd (pi_tup (pv 0)) (blkOk_by (own := [("step", 1)]) (N := ["chain", "step"]) (sc := defScope sFormat) (by decide +kernel)) (fun _ _ _ _ _ => pg_name (i := 1) nd rfl (Or.inl rfl))
      (fun _ _ _ _ _ => pts_nil) (fun _ _ _ _ _ => pe_cal CT hr1 pass0 (pa_cons (pv 1) pa_nil)))))), ?_⟩
    refine ⟨_, rfl, x, oo, rfl, hx, fun H1 s1 => ⟨fun ht => ?_, fun hf => (k H1 s1).2 hf⟩⟩
    obtain ⟨cs, rfl, hc⟩ := chainOkO_true ht
    obtain ⟨a, xs, rfl, ha, hs⟩ := hx
    refine ⟨⟨_, rfl⟩, _, rfl, a, rfl, ⟨_, sqt_same s1 ha⟩, fun D nD => ?_⟩
    have sD : Same H (upd H1 D (.lst [])) := same_upd s1 nD
    have hlen : cs.length ≤ 4 := chainOk_len hc
    refine lc_tup (K := K) (a := a) (xs := xs) (fun j H3 => H3 D = some (.lst (((cs.take j).map stepText).map V.str)) ∧ Same H H3) ⟨upd_same, sD⟩ (fun j H3 _ ⟨_, s3⟩ => sqt_same s3 ha) ?_ ?_
    · rintro j y H3 hy ⟨hD, s3⟩
      have hj : j < cs.length := by
        have := get_lt hy
        rw [hs.len, List.length_map] at this
        exact this
      have hcj : (cs.map some)[j]? = some (some cs[j]) := by rw [List.getElem?_map, List.getElem?_eq_getElem hj]; rfl
      obtain ⟨b, rfl, hb, hn⟩ := hs.at_ j y _ hy hcj
      have hcm : cs[j] ∈ cs := List.getElem_mem hj
      refine ⟨rfl, ⟨_, rfl, b, cs[j], rfl, sqt_same s3 hb, chainOk_steps hc _ hcm, fun H4 s4 => ⟨_, s4 _ _ hD, ?_, ?_, ?_⟩⟩⟩
      · rw [List.length_map, List.length_map, List.length_take]
        exact small1000 (by omega)
      · rw [upd_same, take_succ_get (List.getElem?_eq_getElem hj), List.map_append, List.map_append]
        rfl
      · intro q u hq
        have hqD : q ≠ D := fun z => by
          have := s1 q u hq
          rw [z, nD] at this
          cases this
        rw [upd_ne hqD]
        exact s4 q u (s3 q u hq)
    · rintro H3 ⟨hD, s3⟩
      rw [hs.len, List.length_map, List.take_length] at hD
      refine ⟨_, D, cs.map stepText, rfl, rfl, .inl (SqL.of hD), ?_, (k H3 s3).1 cs rfl hc⟩
      have h2 : ((cs.map stepText).map (·.length)).sum ≤ 100 * (cs.map stepText).length := sum_bound fun y hy => by
        obtain ⟨ys, hy', rfl⟩ := List.mem_map.mp hy
        exact stepText_len (chainOk_steps hc ys hy')
      have e2 : (" | " : Str).length = 3 := by decide +kernel
      rw [List.length_map] at h2
      rw [List.length_map, e2]
      omega
end
end FC
set_option Elab.async false
set_option linter.all false
set_option maxRecDepth 100000
set_option maxHeartbeats 4000000
/-! Targets with a star: the first item and a new list of the others. -/
namespace FC
open PySem PySem.Spec PyProof.Rows L2
section
variable {prog : Program} {w : World} {A : Around} {E : Value → Shared → Prop} {s : Shared}
/-- what a list's iterator has still to give, from the place k on -/
theorem list_from {it l : Addr} {items : Array Value} {k : Nat} (calm : A.handled = none) (apart : l ≠ it) (hk : k ≤ items.size) :
    WalksS prog w A it [it, l] [it] (fun a b => a = b) (items.size - k) (fun i v => items[k + i]? = some v) (fun i s => s.heap.IsListIter it l (k + i) ∧ s.heap.IsList l items) where
  sub := fun b hb => by
    rw [List.mem_singleton.mp hb]
    simp
  grefl := fun _ => rfl
  gtrans := fun _ _ _ p q => p.trans q
  frame := fun i s h' tk st _ keep => by
    obtain ⟨⟨o, a1, a2, a3⟩, ⟨u, b1, b2⟩⟩ := st
    exact ⟨⟨o, keep it (by simp) o a1, a2, a3⟩, ⟨u, keep l (by simp) u b1, b2⟩⟩
  item := fun i s Q E hi st go => by
    obtain ⟨p, q⟩ := st
    have lt : k + i < items.size := by omega
    refine wpAny_pyNext_list_item p q (x := items[k + i]) (by simp [lt]) fun h' p' same => ?_
    refine go _ _ (by simp [lt]) ⟨by rw [← Nat.add_assoc]; exact p', q.extBut same.extBut apart⟩ ⟨fun b o hb e => ?_, rfl, rfl, rfl, Nat.le_refl _⟩
    exact (same.2 b (fun z => hb (by simp [z]))).trans e
  done := fun s Q E st go => by
    obtain ⟨p, q⟩ := st
    refine wpAny_pyNext_list_end calm p q (by simp; omega) fun h' ext => go _ ⟨fun b o hb e => ?_, rfl, rfl, rfl, Nat.le_refl _⟩
    exact ext b o (fun z => hb (by simp [z])) e
  self := fun i s Q E st go => wpAny_pyIter_listiter st.1 go
/-- a, *b = a list with an item at least -/
theorem items_first {l : Addr} {x : Value} {xs : List Value} {Q : List Value → Shared → Prop} (calm : A.handled = none) (hl : s.heap.IsList l (x :: xs).toArray) (small : xs.length ≤ sizeLine)
    (go : ∀ (h' : Heap) (tk : Nat), (∀ c o, s.heap.get? c = some o → h'.get? c = some o) → Q [x, .ref h'.objs.size] { s with heap := h'.push { cls := .type "list", data := .seq xs.toArray }, toks := tk }) :
    wpAny (model prog w) A (unpackItems (.ref l) 2 (some 1)) Q E s := by
  have fresh : l ≠ s.heap.objs.size := by
    obtain ⟨o, ho, _⟩ := hl
    exact Nat.ne_of_lt (Heap.lt_size ho)
  unfold unpackItems notIterableAtAll
  refine wpAny_bind (wpAny_bind (wpAny_specialOf hl.typeIs slot_list_iter.lookup (wpAny_pure ?_)))
  simp only [Bool.false_eq_true, if_false]
  refine wpAny_bind (wpAny_holding (wpAny_pyIter_list hl ?_))
  refine wpAny_bind (wpAny_holding (PySem.W.kun_draw fresh 1 0 _ _ ⟨_, Heap.get?_push_size _ rfl, rfl, rfl⟩ (hl.push _) (by simp) fun h1 p1 same => ?_))
  have one : List.take 1 (List.drop 0 (x :: xs).toArray.toList) = [x] := by simp
  rw [one, if_neg (by simp)]
  have q1 : h1.IsList l (x :: xs).toArray := (hl.push _).extBut same.extBut fresh
  have k1 : ∀ c o, s.heap.get? c = some o → h1.get? c = some o := fun c o e => (same.2 c (Nat.ne_of_lt (Heap.lt_size e))).trans (Heap.get?_push_of_some _ e)
  have p1 : h1.IsListIter s.heap.objs.size l (1 + 0) := p1
  have W := list_from (prog := prog) (w := w) (A := A.in1) (k := 1) (items := (x :: xs).toArray) calm fresh (by simp)
  refine wpAny_bind (wpAny_holding (wpAny_collect_iter (T := "list_iterator") (.inr (.inr (.inl rfl))) W (fun i s st => st.1.typeIs) ⟨p1, q1⟩ ?_ (by simp) (fun s2 acc mv it => ?_) ?_))
  · intro b hb
    have hb : b = s.heap.objs.size ∨ b = l := by simpa using hb
    rcases hb with z | z
    · obtain ⟨o, e, _⟩ := p1
      rw [z]
      exact Heap.lt_size e
    · obtain ⟨o, e, _⟩ := q1
      rw [z]
      exact Heap.lt_size e
  · have ea : acc.toList = xs := by
      refine List.ext_getElem? fun j => ?_
      obtain ⟨e1, e2⟩ := it
      have e1 : acc.size = xs.length := by simpa using e1
      by_cases hj : j < acc.size
      · have a1 : acc[j]? = some acc[j] := by simp [hj]
        have a2 := e2 j _ a1
        have a2 : (x :: xs).toArray[1 + j]? = some acc[j] := a2
        rw [Nat.add_comm] at a2
        have a3 : xs[j]? = some acc[j] := by simpa using a2
        rw [a3]
        simpa using a1
      · have a1 : acc.toList[j]? = none := List.getElem?_eq_none (by simpa using hj)
        have a2 : xs[j]? = none := List.getElem?_eq_none (by omega)
        rw [a1, a2]
    rw [ea]
    simp only [List.length_singleton, Nat.sub_self, Nat.sub_zero]
    rw [if_neg (by simp)]
    refine wpAny_bind (wpAny_newObj_type ?_ (by show (List.take xs.length xs).length ≤ sizeLine; rw [List.take_length]; exact small))
    refine wpAny_pure ?_
    have k2 : ∀ c o, s.heap.get? c = some o → s2.heap.get? c = some o := fun c o e => mv.heap c o (fun z => Nat.ne_of_lt (Heap.lt_size e) (List.mem_singleton.mp z)) (k1 c o e)
    obtain ⟨h2, g2, d2, t2, o2⟩ := s2
    have eg : s.gens = g2 := mv.gens
    have ed : d2 = s.drawn := mv.drawn
    have eo : o2 = s.os := mv.os
    subst eg ed eo
    have fin := go h2 t2 k2
    simpa using fin
  · simpa using small
end
section
variable {X : Cx} {pos : Pos}
/-- (a, *b) = a list with an item at least: its first item, a new list of the others -/
def gFirst (K : PySem.W.Frag) (t : TGs) : TG := fun v σ H Q => ∃ a x xs, v = .ref a ∧ SqL K H a (x :: xs) ∧ ∀ p, H p = Option.none → t [x, .ref p] σ (upd H p (.lst xs)) Q
theorem pg_first {e1 e2 : Expr} {sp : Pos} {k : Nat} {t : TGs} (hc : X.calm = true) (h : PGs X [e1, e2] t)
    (hm : (assignEach [e1, .Starred e2 sp] X.env).map (·.2) = (assignEach [e1, e2] X.env).map (·.2) := by rfl) (hn : (assignEach [e1, .Starred e2 sp] X.env).length = 2 := by rfl)
    (hst : (assignEach [e1, .Starred e2 sp] X.env).findIdx? (·.1) = some 1 := by rfl) : PG X (.Tuple [e1, .Starred e2 sp] k pos) (gFirst X.K t) := by
  refine ⟨fun pins s σ H v u Q I r hw => ?_⟩
  obtain ⟨a, x, xs, e1, hq, hw⟩ := hw
  subst e1
  cases r
  obtain ⟨its, rv, pl, hz⟩ := I.list hq
  cases rv with
  | @cons _ u1 _ us r1 rr =>
    have small : us.length ≤ sizeLine := by
      have := rr.length
      have : (x :: xs).length = xs.length + 1 := rfl
      omega
    rw [PyProof.Rows.assign_Tuple]
    refine wpAny_bind (wpAny_standAt ?_)
    unfold unpack
    rw [hn, hst, hm]
    refine wpAny_bind (wpAny_holding (items_first (I.ok.hd hc) pl.isList small fun h' tk keep => ?_))
    have I1 : Inv X pins σ H { s with heap := h', toks := tk } := I.kept keep
    have hf : H h'.objs.size = Option.none := I1.hok.fresh (Nat.le_refl _)
    have I2 : Inv X pins σ (upd H h'.objs.size (.lst xs)) { s with heap := h'.push { cls := .type "list", data := .seq us.toArray }, toks := tk } :=
      I1.laid (t' := tk) (fun b o e => Heap.get?_push_of_some _ e) (Nat.le_refl _) ⟨by have := rr.length; omega, us, 0, rr, Heap.get?_push_size _ rfl⟩
    exact h.run pins _ σ _ [x, .ref h'.objs.size] [u1, .ref h'.objs.size] Q I2 (.cons r1 (.cons rfl .nil)) (hw _ hf)
end
/-! ### d.get(k) of a written dict with text keys -/
section
variable {X : Cx} {o e : Expr} {apos cpos : Pos} {td ty : TE} {d : Addr} {es : Array DictEntry} {n : Nat}
def tGetK (K : PySem.W.Frag) (d : Addr) (td ty : TE) : TE := fun σ H Q => td σ H fun x H1 => x = .ref d ∧ ty σ H1 fun y H2 => ∃ z r, y = .str z ∧ PySem.W.nsIn K d z = some r ∧ ((r = Option.none ∧ Q .non H2) ∨ ∃ u v, r = some u ∧ RelV v u ∧ Q v H2)
theorem pe_getK {K : PySem.W.Frag} {w : World} (D : KDict K w d es n) (ho : PE X o td) (he : PE X e ty) (m : M1 X o "get" apos e cpos) (eK : X.K = K := by rfl) (ew : X.w = w := by rfl) : PE X (.Call (.Attribute o "get" apos) [e] [] cpos) (tGetK K d td ty) := by
  subst eK ew
  refine ⟨fun pins s σ H Q I h => ?_⟩
  have M : ∀ {s' : Shared} {σ' : L2.St} {H' : Hp}, Inv X pins σ' H' s' → _ := fun J => PySem.W.mapOf_K (prog := X.prog) (w := X.w) J.kIn D.at_ D.lit
  refine wpAny_Call_method m.base m.few m.line PySem.F.plainAttrs_dict PySem.F.slot_dict_get PySem.F.type_dict_get (thn (ho.run pins s σ H _ I h) fun u s1 ⟨x, H1, I1, rx, ex, q1⟩ => ?_)
  subst ex
  obtain rfl : u = Value.ref d := rx
  refine ⟨(M I1).typeIs, fun b q => ?_, ?_⟩
  · cases q
    exact ⟨_, I1.kIn _ _ D.at_, rfl⟩
  rw [m.trees]
  refine Calls.callWith_builtin rfl (Calls.evalArgs_plain (Calls.spliced_cons (thn (he.run pins s1 σ H1 _ I1 q1) fun iv s2 ⟨y, H2, I2, ry, z, r, ey, hr, q2⟩ => Calls.spliced_nil ?_)))
  subst ey
  obtain ⟨t, rfl⟩ := ry
  refine call_meetsIn PySem.F.slot_dict_get (M I2).typeIs PySem.F.entry_dict_get (PySem.F.args_dict_get_2 _ _) (meets_dict_get (PySem.strKind X.prog X.w) d (PySem.strKind_is X.prog X.w z t) D.low) ⟨_, M I2, ?_⟩
  rw [PySem.W.find_K D.at_ hr]
  rcases q2 with ⟨rfl, q⟩ | ⟨u, v, rfl, rv, q⟩
  · exact ⟨.non, H2, I2.tok _, rfl, q⟩
  · exact ⟨v, H2, I2.tok _, rv, q⟩
end
end FC
set_option Elab.async false
set_option linter.all false
set_option maxRecDepth 100000
set_option maxHeartbeats 4000000
namespace FC
open PySem L2
def spReadStep : Sp := fun vs H Q _ => ∃ p : Str, vs = [.str p] ∧ p.length + 2 ≤ sizeLine ∧ ∀ b H', Same H H' → H b = none → H' b = some (.tup (readStep p)) → Q (.ref b) H'
theorem split_len (x y : Str) : (Txt.split x y).length ≤ x.length + 2 := PyProof.Rows.split_le x y
section
variable {P : Program} {w : World} {K : PySem.W.Frag} {mg : Str → Option Value} {base : Heap}
theorem scReadStep : FnScope ["text", "name", "words", "numbers", "word"] ["text"] (defScope sReadStep) := ⟨rfl, rfl, rfl, by decide +kernel, rfl, by decide +kernel, by decide +kernel⟩
theorem ok_readStep {f dN : Addr} {fd : FuncData} (F : Fun K "read_step" "read_step" sReadStep f fd) (mN : mg "NUMBERS" = some (.ref dN)) (B : NumT K w dN) : FnOk P w K mg base CX0 1 f fd ["text"] spReadStep := by
  refine F.ok scReadStep (fun vs H Q E h => ?_) (fun cdv A outer s H vs Q E hr h => ?_)
  · obtain ⟨p, rfl, _⟩ := h
    rfl
  · obtain ⟨p, rfl, hp, k⟩ := h
    have nd := scReadStep.nd
    obtain ⟨es, nn, kd⟩ := B.kd
    refine ⟨_, pss_cons (ps_asg (pe_split (pv 0) pe_str) (pg_first rfl (pgs_cons (pg_name (i := 1) nd rfl (Or.inl rfl)) (pgs_cons (pg_name (i := 2) nd rfl (Or.inl rfl)) pgs_nil))))
      (pss_cons (ps_setLc (i := 3) (own := [("word", 4)]) (g := gName 4) (by rfl) nd rfl rfl (sw_true rfl rfl rfl (by decide +kernel)) (pi_list (pv 2)) (blkOk_by (own := [("word", 4)]) (N := ["text", "name", "words", "numbers", "word"]) (sc := defScope sReadStep) (by decide +kernel))
        (fun _ _ _ _ _ => pg_name (i := 4) nd rfl (Or.inl rfl)) (fun _ _ _ _ _ => pts_nil) (fun _ _ _ _ _ => pe_getK kd (pe_glob (v := .ref dN) rfl mN rfl) (pv 4) ⟨rfl, rfl, rfl, rfl⟩))
      (pss_one (ps_ret (pe_tup (pa_cons (pv 1) (StX.pa_star (pv 3) pa_nil)))))), ?_⟩
    refine ⟨_, rfl, ⟨_, rfl⟩, p, " ", rfl, rfl, by decide +kernel, hp, fun a na => ?_⟩
    obtain ⟨x, ws, es⟩ : ∃ x ws, Txt.split p " " = x :: ws := by
      cases e : Txt.split p " " with
      | nil => exact absurd e (split_ne _ _)
      | cons x ws => exact ⟨x, ws, rfl⟩
    have sp := split_len p " "
    rw [es] at sp
    have sp : ws.length + 1 ≤ p.length + 2 := sp
    rw [es]
    have s1 : Same H (upd H a (.lst ((x :: ws).map V.str))) := same_upd (Same.refl H) na
    refine ⟨a, .str x, ws.map V.str, rfl, SqL.of upd_same, fun b nb => ?_⟩
    have s2 : Same H (upd (upd H a (.lst ((x :: ws).map V.str))) b (.lst (ws.map V.str))) := same_upd s1 nb
    refine ⟨_, _, rfl, _, _, rfl, rfl, ?_⟩
    refine ⟨_, rfl, b, rfl, ⟨_, SqL.of upd_same⟩, fun D nD => ?_⟩
    have s3 := same_upd (o := .lst []) s2 nD
    have nDb : b ≠ D := ne_of_none upd_same nD
    refine lc_list (K := K) (a := b) (xs := ws.map V.str) (fun j H3 => H3 D = some (.lst ((ws.take j).map num)) ∧ H3 b = some (.lst (ws.map V.str)) ∧ Same H H3) ⟨upd_same, (upd_ne nDb).trans upd_same, s3⟩ (fun j H3 _ ⟨_, h3, _⟩ => SqL.of h3) ?_ ?_
    · rintro j y H3 hy ⟨hD, hb, s4⟩
      have hj : j < ws.length := by
        have := get_lt hy
        rwa [List.length_map] at this
      have ew : ws[j]? = some ws[j] := List.getElem?_eq_getElem hj
      obtain rfl : y = .str ws[j] := by
        rw [List.getElem?_map, ew] at hy
        exact (Option.some.inj hy).symm
      have fin : ∃ acc, H3 D = some (.lst acc) ∧ acc.length < sizeLine ∧ upd H3 D (.lst (acc ++ [num ws[j]])) D = some (.lst ((ws.take (j + 1)).map num)) ∧ upd H3 D (.lst (acc ++ [num ws[j]])) b = some (.lst (ws.map V.str)) ∧ Same H (upd H3 D (.lst (acc ++ [num ws[j]]))) := by
        refine ⟨_, hD, ?_, ?_, (upd_ne nDb).trans hb, ?_⟩
        · rw [List.length_map, List.length_take]
          omega
        · rw [upd_same, take_succ_get ew, List.map_append]
          rfl
        · intro q u hq
          have hqD : q ≠ D := fun z => by
            have := s2 q u hq
            rw [z, nD] at this
            cases this
          rw [upd_ne hqD]
          exact s4 q u hq
      obtain ⟨r, hr1, hm⟩ := B.at_ ws[j]
      refine ⟨rfl, ⟨rfl, _, rfl, ws[j], r, rfl, hr1, ?_⟩⟩
      unfold num at fin
      cases el : numTab.lookup ws[j] with
      | none =>
        rw [el] at hm fin
        exact .inl ⟨hm, fin⟩
      | some i =>
        rw [el] at hm fin
        obtain ⟨t, hm⟩ := hm
        exact .inr ⟨_, .int i, hm, ⟨t, rfl⟩, fin⟩
    · rintro H3 ⟨hD, hb, s4⟩
      rw [List.length_map, List.take_length] at hD
      refine ⟨_, rfl, _, rfl, D, ws.map num, rfl, .inr (SqL.of hD), ?_⟩
      have er : readStep p = V.str x :: (ws.map num ++ []) := by
        unfold readStep
        rw [es, List.append_nil]
      refine ⟨?_, fun t nt => ?_⟩
      · rw [List.length_cons, List.length_append, List.length_map]
        show ws.length + 0 + 1 ≤ sizeLine
        omega
      · refine k t _ (same_upd s4 nt) (Same.free s4 nt) ?_
        rw [er]
        exact upd_same
end
end FC
set_option Elab.async false
set_option linter.all false
set_option maxRecDepth 100000
set_option maxHeartbeats 4000000
namespace FC
open PySem L2
/-- at a stands a chain of these steps -/
def ChainAt (K : PySem.W.Frag) (H : Hp) (a : Addr) (cs : List (List V)) : Prop := ∃ xs, SqT K H a xs ∧ Steps K H xs (cs.map some)
theorem ChainAt.v {K : PySem.W.Frag} {H : Hp} {a : Addr} {cs : List (List V)} (h : ChainAt K H a cs) : ChainV K H (.ref a) (some (cs.map some)) := by
  obtain ⟨xs, h1, h2⟩ := h
  exact ⟨a, xs, rfl, h1, h2⟩
theorem ChainAt.same {K : PySem.W.Frag} {H H' : Hp} {a : Addr} {cs : List (List V)} (e : Same H H') (h : ChainAt K H a cs) : ChainAt K H' a cs := by
  obtain ⟨xs, h1, h2⟩ := h
  exact ⟨xs, sqt_same e h1, h2.same e⟩
/-- the chain of the text, or InvalidText -/
def spParse (K : PySem.W.Frag) (C : Addr) : Sp := fun vs H Q E => ∃ x, vs = [x] ∧ ((∃ z : Str, x = .str z ∧ z.length ≤ 1000000 ∧ ∀ H', Same H H' → (chainOk (parse z) = true → ∀ a, H a = none → ChainAt K H' a (parse z) → Q (.ref a) H') ∧ (chainOk (parse z) = false → E (.ref C) none H')) ∨
  (Nice K H x ∧ isS x = false ∧ E (.ref C) none H))
theorem joinL_len {S p : List Nat} : ∀ {ps : List (List Nat)}, p ∈ ps → p.length ≤ (TL.joinL S ps).length
  | [], h => by simp at h
  | [q], h => by
    rw [List.mem_singleton.mp h]
    exact Nat.le_refl _
  | q :: r :: s, h => by
    show p.length ≤ (q ++ (S ++ TL.joinL S (r :: s))).length
    rw [List.length_append, List.length_append]
    rcases List.mem_cons.mp h with z | z
    · rw [z]
      omega
    · have := joinL_len (S := S) z
      omega
theorem part_le {z p : Str} (h : p ∈ Txt.split z " | ") : p.length ≤ z.length := by
  have e := congrArg TL.tl (join_bar z)
  rw [TL.join_eq, TL.tl_join] at e
  have := joinL_len (S := TL.tl " | ") (List.mem_map.mpr ⟨p, h, rfl⟩ : TL.tl p ∈ (Txt.split z " | ").map TL.tl)
  rw [e] at this
  rw [TL.len_tl, TL.len_tl]
  exact this
theorem parts_mem {z p : Str} (h : p ∈ parts z) : p.length ≤ z.length := by
  unfold parts at h
  split at h
  · cases h
  · exact part_le h
theorem parts_len (z : Str) : (parts z).length ≤ z.length + 2 := by
  unfold parts
  split
  · simp
  · exact split_len _ _
theorem readStep_nice {K : PySem.W.Frag} {H : Hp} {p : Str} : ∀ y ∈ readStep p, Nice K H y := by
  intro y hy
  unfold readStep at hy
  split at hy
  · rcases List.mem_cons.mp hy with z | z
    · rw [z]
      exact Nice.str _
    · obtain ⟨w, _, rfl⟩ := List.mem_map.mp z
      unfold num
      split
      · exact Nice.int _
      · exact Nice.non
  · cases hy
/-- the parts of the text in slot i, in a new list -/
def tParts (i : Nat) : TE := fun σ H Q => ∃ z : Str, σ[i]? = some (some (.str z)) ∧ z.length + 2 ≤ sizeLine ∧ ∀ a, H a = none → Q (.ref a) (upd H a (.lst ((parts z).map V.str)))
section
variable {P : Program} {w : World} {K : PySem.W.Frag} {mg : Str → Option Value} {base : Heap}
theorem scParse : FnScope ["text", "parts", "chain", "part"] ["text"] (defScope sParse) := ⟨rfl, rfl, rfl, by decide +kernel, rfl, by decide +kernel, by decide +kernel⟩
theorem ok_parse {f C : Addr} {fd : FuncData} (F : Fun K "parse_chain" "parse_chain" sParse f fd) (T : Blt mg) (X : ExcT K mg "InvalidText" C) (CR : Cal P w K mg base CX0 1 "read_step" ["text"] spReadStep) (CC : Cal P w K mg base CX0 4 "is_chain" ["value"] (spIsChain K)) :
    FnOk P w K mg base (L2N.CX P w) 5 f fd ["text"] (spParse K C) := by
  refine okN F scParse (fun vs H Q E h => ?_) (fun cdv A outer s H vs Q E hr h => ?_)
  · obtain ⟨x, rfl, _⟩ := h
    rfl
  · obtain ⟨x, rfl, k⟩ := h
    have nd := scParse.nd
    have hr1 : Room 1 _ := hr.mono (by decide)
    refine ⟨_, pss_cons (ps_if (pt_not (pt_val (pe_callB call_isi (by rfl) T.isi (by decide +kernel) (pa_cons (pv 0) (pa_cons (pe_bltn (v := .ty "str") (by rfl) T.str (by decide +kernel) rfl) pa_nil)))))
        (pss_one (L2N.ps_raise rfl (L2N.takes_of rfl rfl rfl rfl) (L2N.pmk_own PySem.F.excBase_ValueError X.q X.gC X.kC (raises_own X.bP X.tP) rfl))) pss_nil)
      (pss_cons (ps_set (i := 1) nd rfl (Or.inl rfl) (pe_as (t' := tParts 0) (pe_ifExp (pt_cmpR op_ne (pv 0) pe_str (nomark _)) (pe_split (pv 0) pe_str) (pe_lst pa_nil)) ?_))
      (pss_cons (ps_set (i := 2) nd rfl (Or.inl rfl) (pe_callTy call_tuple_of (by rfl) T.tuple (by decide +kernel) (pa_cons
        (pe_lc (own := [("part", 3)]) (g := gName 3) (by rfl) nd (pi_list (pv 1)) (blkOk_by (own := [("part", 3)]) (N := ["text", "parts", "chain", "part"]) (sc := defScope sParse) (by decide +kernel)) (fun _ _ _ _ _ => pg_name (i := 3) nd rfl (Or.inl rfl))
          (fun _ _ _ _ _ => pts_nil) (fun _ _ _ _ _ => pe_cal CR hr1 pass0 (pa_cons (pv 3) pa_nil))) pa_nil)))
      (pss_cons (ps_if (pt_not (pt_val (pe_cal CC hr pass0 (pa_cons (pv 2) pa_nil))))
        (pss_one (L2N.ps_raise rfl (L2N.takes_of rfl rfl rfl rfl) (L2N.pmk_own PySem.F.excBase_ValueError X.q X.gC X.kC (raises_own X.bP X.tP) rfl))) pss_nil)
      (pss_one (ps_ret (pv 2)))))), ?_⟩
    · rintro σ H1 Q1 ⟨z, h0, hz, q⟩
      refine ⟨_, h0, rfl, _, rfl, ?_⟩
      unfold parts at q
      by_cases hz0 : z = Str.empty
      · rw [if_pos hz0] at q
        have e : decide (V.str z = V.str "") = true := decide_eq_true (by rw [hz0]; rfl)
        show if (!decide (V.str z = V.str "")) = true then _ else _
        rw [e]
        exact iteF ⟨by decide, q⟩
      · rw [if_neg hz0] at q
        have e : decide (V.str z = V.str "") = false := decide_eq_false fun y => hz0 (by injection y)
        show if (!decide (V.str z = V.str "")) = true then _ else _
        rw [e]
        exact iteT ⟨_, h0, ⟨_, rfl⟩, z, " | ", rfl, rfl, by decide +kernel, hz, q⟩
    rcases k with ⟨z, rfl, hz, k⟩ | ⟨⟨t, ht, hty⟩, hS, k⟩
    · refine ⟨_, rfl, _, _, _, _, _, rfl, .ty _, .base (.str z), kit_ty (kit_str "str" (by decide)), _, rfl, iteF ?_⟩
      have szl : 1000100 ≤ sizeLine := by decide
      have hpl := parts_len z
      refine ⟨z, rfl, by omega, fun a na => ?_⟩
      have s1 : Same H (upd H a (.lst ((parts z).map V.str))) := same_upd (Same.refl H) na
      have h1 : upd H a (.lst ((parts z).map V.str)) a = some (.lst ((parts z).map V.str)) := upd_same
      generalize upd H a (.lst ((parts z).map V.str)) = H1 at s1 h1 ⊢
      refine ⟨_, rfl, a, rfl, ⟨_, SqL.of h1⟩, fun D nD => ?_⟩
      have s2 := same_upd (o := .lst []) s1 nD
      have nDa : a ≠ D := ne_of_none h1 nD
      refine lc_list (K := K) (a := a) (xs := (parts z).map V.str) (fun j H3 => ∃ bs : List Addr, bs.length = j ∧ H3 D = some (.lst (bs.map V.ref)) ∧ H3 a = some (.lst ((parts z).map V.str)) ∧ Same H H3 ∧
          ∀ (i : Nat) (b : Addr) (p : Str), bs[i]? = some b → (parts z)[i]? = some p → H3 b = some (.tup (readStep p)))
        ⟨[], rfl, upd_same, (upd_ne nDa).trans h1, s2, fun i b p hb => by simp at hb⟩ (fun j H3 _ ⟨_, _, _, h3, _⟩ => SqL.of h3) ?_ ?_
      · rintro j y H3 hy ⟨bs, hbs, hD, h3, s3, each⟩
        have hj : j < (parts z).length := by
          have := get_lt hy
          rwa [List.length_map] at this
        have ep : (parts z)[j]? = some (parts z)[j] := List.getElem?_eq_getElem hj
        obtain rfl : y = .str (parts z)[j] := by
          rw [List.getElem?_map, ep] at hy
          exact (Option.some.inj hy).symm
        have hpm : (parts z)[j] ∈ parts z := List.getElem_mem hj
        have hpl2 := parts_mem hpm
        refine ⟨rfl, ⟨_, rfl, (parts z)[j], rfl, by omega, fun b H4 s4 nb hb => ⟨bs.map V.ref, s4 _ _ hD, ?_, bs ++ [b], ?_, ?_, ?_, ?_, ?_⟩⟩⟩
        · rw [List.length_map]
          omega
        · rw [List.length_append, hbs]
          rfl
        · rw [upd_same, List.map_append]
          rfl
        · rw [upd_ne nDa]
          exact s4 _ _ h3
        · intro q u hq
          have hqD : q ≠ D := fun e => by
            have := s1 q u hq
            rw [e, nD] at this
            cases this
          rw [upd_ne hqD]
          exact s4 q u (s3 q u hq)
        · intro i b' p hb' hp
          have key : H4 b' = some (.tup (readStep p)) := by
            by_cases hi : i < bs.length
            · rw [List.getElem?_append_left hi] at hb'
              exact s4 _ _ (each i b' p hb' hp)
            · have hi2 := get_lt hb'
              rw [List.length_append] at hi2
              have hi2 : i < bs.length + 1 := hi2
              have ei : i = bs.length := by omega
              subst ei
              rw [List.getElem?_append_right (Nat.le_refl _), Nat.sub_self] at hb'
              have eb : b = b' := Option.some.inj hb'
              rw [hbs, ep] at hp
              have ep2 : (parts z)[j] = p := Option.some.inj hp
              rw [← eb, ← ep2]
              exact hb
          have hD' : H4 D = some (.lst (bs.map V.ref)) := s4 _ _ hD
          rw [upd_ne (ne_of key hD' (by intro e; cases e))]
          exact key
      · rintro H3 ⟨bs, hbs, hD, h3, s3, each⟩
        rw [List.length_map] at hbs
        refine ⟨D, _, rfl, .inl ⟨SqL.of hD, fun t nt => ?_⟩⟩
        have s4 := same_upd (o := .tup (bs.map V.ref)) s3 nt
        have st : Steps K (upd H3 t (.tup (bs.map V.ref))) (bs.map V.ref) ((parse z).map some) := by
          refine ⟨?_, fun i x o hx ho => ?_⟩
          · unfold parse
            rw [List.length_map, List.length_map, List.length_map, hbs]
          · have hi : i < bs.length := by
              have := get_lt hx
              rwa [List.length_map] at this
            have hi2 : i < (parts z).length := by omega
            have eb : bs[i]? = some bs[i] := List.getElem?_eq_getElem hi
            have ep : (parts z)[i]? = some (parts z)[i] := List.getElem?_eq_getElem hi2
            rw [List.getElem?_map, eb] at hx
            unfold parse at ho
            rw [List.getElem?_map, List.getElem?_map, ep] at ho
            have hx : V.ref bs[i] = x := Option.some.inj hx
            have ho : some (readStep (parts z)[i]) = o := Option.some.inj ho
            rw [← hx, ← ho]
            have h5 := each i _ _ eb ep
            refine ⟨bs[i], rfl, SqT.of ?_, fun y hy => readStep_nice y hy⟩
            rw [upd_ne (ne_of_none h5 nt)]
            exact h5
        have ca : ChainAt K (upd H3 t (.tup (bs.map V.ref))) t (parse z) := ⟨_, SqT.of upd_same, st⟩
        refine ⟨_, rfl, .ref t, _, rfl, ca.v, fun H5 s5 => ⟨_, rfl, ?_⟩⟩
        have s6 := Same.trans s4 s5
        show if (!chainOkL ((parse z).map some)) = true then _ else _
        rw [chainOkL_some]
        cases h : chainOk (parse z) with
        | false => exact iteT ((k H5 s6).2 h)
        | true => exact iteF ⟨_, rfl, (k H5 s6).1 h t (Same.free s3 nt) (ca.same s5)⟩
    · refine ⟨_, rfl, _, _, _, _, _, rfl, .ty _, hty, kit_ty (kit_str t ht), _, rfl, ?_⟩
      rw [← isS_of hty, hS]
      exact iteT k
end
end FC
set_option Elab.async false
set_option linter.all false
set_option maxRecDepth 100000
set_option maxHeartbeats 4000000
namespace FC
open PySem L2
/-! ### the law's draws -/
def spCellL (K : PySem.W.Frag) : Sp := fun vs H Q _ => ∃ (a : Addr) (ns : List Int) (k : Int), vs = [.ref a, .int k] ∧ SqL K H a (ns.map V.int) ∧ ns.length ≤ 63 ∧ ∀ n H', Same H H' → Q (.int n) H'
def spDrawn : Sp := fun vs H Q _ => ∃ c k : Int, vs = [.int c, .int k] ∧ ∀ r : Int, 0 ≤ r → Q (.int r) H
/-- two numbers that are used up -/
def Dice (H : Hp) (d : Addr) : Prop := ∃ a b : Int, H d = some (.lst [.int a, .int b])
/-- all but d is as it was -/
def SameX (d : Addr) (H H' : Hp) : Prop := ∀ b o, H b = some o → b ≠ d → H' b = some o
def spRoll : Sp := fun vs H Q _ => ∃ (d : Addr) (m : Int), vs = [.ref d, .int m] ∧ Dice H d ∧ 1 ≤ m ∧ m < 1073741824 ∧ ∀ (r : Int) H', 0 ≤ r → r < m → Dice H' d → SameX d H H' → Q (.int r) H'
theorem SameX.refl (d : Addr) (H : Hp) : SameX d H H := fun _ _ h _ => h
theorem SameX.trans {d : Addr} {H H1 H2 : Hp} (a : SameX d H H1) (b : SameX d H1 H2) : SameX d H H2 := fun c o h n => b c o (a c o h n) n
theorem SameX.of {d : Addr} {H H' : Hp} (e : Same H H') : SameX d H H' := fun b o h _ => e b o h
theorem mod_nat {x m : Int} {n : Nat} (h : 0 < m) (hm : m.natAbs ≤ 2 ^ n) : (x % m).natAbs < 2 ^ n := by
  have h1 := Int.emod_nonneg x (Int.ne_of_gt h)
  have h2 := Int.emod_lt_of_pos x h
  omega
theorem div_nat {x m : Int} {n : Nat} (h0 : 0 ≤ x) (h : 0 < m) (hx : x.natAbs < 2 ^ n) : (x / m).natAbs < 2 ^ n := by
  have h1 := Int.ediv_nonneg h0 (Int.le_of_lt h)
  have h2 := Int.ediv_le_self m h0
  omega
theorem plus_nat {x : Int} {n : Nat} (hx : x.natAbs < 2 ^ n) : (x + 1).natAbs < 2 ^ (n + 1) := by
  have : 1 ≤ 2 ^ n := Nat.one_le_two_pow
  rw [Nat.pow_succ]
  omega
theorem dp_ints {K : PySem.W.Frag} {H : Hp} : ∀ ns : List Int, DpAll K H (ns.map V.int) (ns.map PyData.int)
  | [] => .nil
  | n :: r => .cons (.int n) (dp_ints r)
section
variable {P : Program} {w : World} {K : PySem.W.Frag} {mg : Str → Option Value} {base : Heap}
theorem scCell : FnScope ["_law_script", "_law_k"] ["_law_script", "_law_k"] (defScope sCell) := ⟨rfl, rfl, rfl, by decide +kernel, rfl, by decide +kernel, by decide +kernel⟩
theorem ok_cell {f : Addr} {fd : FuncData} (F : Fun K "_law_cell" "_law_cell" sCell f fd) (T : Blt mg) : FnOk P w K mg base CX0 1 f fd ["_law_script", "_law_k"] (spCellL K) := by
  refine F.ok scCell (fun vs H Q E h => ?_) (fun cdv A outer s H vs Q E hr h => ?_)
  · obtain ⟨a, ns, k, rfl, _⟩ := h
    rfl
  · obtain ⟨a, ns, k, rfl, ha, hl, q⟩ := h
    have nd := scCell.nd
    refine ⟨_, pss_cons (ps_if (pt_cmpR (op_eqD hr.units) (pv 0) (pe_lst pa_nil) (nomark _)) (pss_one (ps_ret (pe_op op_mul (pv 1) pe_int))) pss_nil)
      (pss_one (ps_ret (pe_op op_add (pe_ix ix_list (pv 0) (pe_op op_mod (pv 1) (pe_callB call_len (by rfl) T.len PySem.boot_len (pa_cons (pv 0) pa_nil))) (fun _ _ => rfl))
        (pe_op op_mul (pe_op op_fdiv (pv 1) (pe_callB call_len (by rfl) T.len PySem.boot_len (pa_cons (pv 0) pa_nil))) pe_int)))), ?_⟩
    refine ⟨_, rfl, by decide, fun p np => ?_⟩
    have s1 := same_upd (o := .lst []) (Same.refl H) np
    have ha1 := Same.seq s1 ha
    refine ⟨.list (ns.map .int), .list [], .lst ha1 (dp_ints ns), .lst (SqL.of upd_same) .nil, PySem.W.ke_shaped_ints ns, by decide, _, rfl, ?_⟩
    cases ns with
    | nil => exact iteT ⟨_, rfl, _, _, rfl, rfl, .inr (by decide), q _ _ s1⟩
    | cons n r =>
      refine iteF ?_
      have hpos : (0 : Int) < (((n :: r).map V.int).length : Nat) := by
        rw [List.length_map, List.length_cons]
        omega
      have hlt : (((n :: r).map V.int).length : Int) < 1073741824 := by
        rw [List.length_map]
        omega
      have h0 := Int.emod_nonneg k (Int.ne_of_gt hpos)
      have h1 := Int.emod_lt_of_pos k hpos
      obtain ⟨j, hj⟩ := Int.eq_ofNat_of_zero_le h0
      have hjl : j < ((n :: r).map V.int).length := by omega
      obtain ⟨v, hv⟩ : ∃ v : Int, ((n :: r).map V.int)[j]? = some (V.int v) := by
        rw [List.length_map] at hjl
        exact ⟨(n :: r)[j], by rw [List.getElem?_map, List.getElem?_eq_getElem hjl]; rfl⟩
      refine ⟨_, rfl, _, rfl, _, rfl, _, ((n :: r).map V.int).length, rfl, .inl ⟨_, ha1, rfl⟩, _, _, rfl, rfl, hpos, ?_⟩
      refine ⟨a, _, _, .int v, rfl, rfl, ha1, ?_, ?_⟩
      · rw [hj]
        exact atI_nat hv
      · refine ⟨_, rfl, _, rfl, _, ((n :: r).map V.int).length, rfl, .inl ⟨_, ha1, rfl⟩, _, _, rfl, rfl, ⟨hpos, hlt⟩, _, _, rfl, rfl, .inr (by decide), _, _, rfl, rfl, q _ _ s1⟩
theorem scDrawn : FnScope ["_law_cell_here", "_law_k", "_law_more"] ["_law_cell_here", "_law_k"] (defScope sDrawn) := ⟨rfl, rfl, rfl, by decide +kernel, rfl, by decide +kernel, by decide +kernel⟩
theorem ok_drawn {f : Addr} {fd : FuncData} (F : Fun K "_law_drawn" "_law_drawn" sDrawn f fd) : FnOk P w K mg base CX0 1 f fd ["_law_cell_here", "_law_k"] spDrawn := by
  refine F.ok scDrawn (fun vs H Q E h => ?_) (fun cdv A outer s H vs Q E hr h => ?_)
  · obtain ⟨c, k, rfl, _⟩ := h
    rfl
  · obtain ⟨c, k, rfl, q⟩ := h
    have nd := scDrawn.nd
    refine ⟨_, pss_cons (ps_set (i := 2) nd rfl (Or.inl rfl) (pe_op op_mod (pe_op op_add (pe_op op_mul (pv 0) pe_int) (pe_op op_mul (pe_op op_add (pv 1) pe_int) pe_int)) pe_int))
      (pss_cons (ps_set (i := 2) nd rfl (Or.inl rfl) (pe_op op_mod (pe_op op_mulW (pv 2) (pv 2)) pe_int))
      (pss_cons (ps_set (i := 2) nd rfl (Or.inl rfl) (pe_op op_mulW (pe_op op_mulW (pe_op op_add (pe_op op_mod (pv 2) pe_int) pe_int) (pe_op op_add (pe_op op_fdivW (pv 2) pe_int) pe_int)) (pv 2)))
      (pss_one (ps_ret (pe_op op_mod (pv 2) pe_int))))), ?_⟩
    refine ⟨_, rfl, _, _, rfl, rfl, .inr (by decide), _, rfl, _, _, rfl, rfl, _, _, rfl, rfl, .inr (by decide), _, _, rfl, rfl, _, _, rfl, rfl, (by decide : (0 : Int) < 340282366920938463463374607431768211507), ?_⟩
    have bx : ((c * 6364136223846793005 + (k + 1) * 1442695040888963407) % 340282366920938463463374607431768211507).natAbs < 2 ^ 129 := mod_nat (by decide) (by decide)
    refine ⟨_, rfl, _, rfl, _, _, rfl, rfl, wide_mul bx bx (by decide) (by decide) (by decide), _, _, rfl, rfl, (by decide : (0 : Int) < 340282366920938463463374607431768211297), ?_⟩
    have c1 := Int.emod_nonneg ((c * 6364136223846793005 + (k + 1) * 1442695040888963407) % 340282366920938463463374607431768211507 * ((c * 6364136223846793005 + (k + 1) * 1442695040888963407) % 340282366920938463463374607431768211507)) (by decide : (340282366920938463463374607431768211297 : Int) ≠ 0)
    have by_ : ((c * 6364136223846793005 + (k + 1) * 1442695040888963407) % 340282366920938463463374607431768211507 * ((c * 6364136223846793005 + (k + 1) * 1442695040888963407) % 340282366920938463463374607431768211507) % 340282366920938463463374607431768211297).natAbs < 2 ^ 129 := mod_nat (by decide) (by decide)
    have bu := plus_nat (mod_nat (x := (c * 6364136223846793005 + (k + 1) * 1442695040888963407) % 340282366920938463463374607431768211507 * ((c * 6364136223846793005 + (k + 1) * 1442695040888963407) % 340282366920938463463374607431768211507) % 340282366920938463463374607431768211297) (m := 18446744073709551557) (n := 64) (by decide) (by decide))
    have bv := plus_nat (div_nat (m := 18446744073709551557) c1 (by decide) by_)
    refine ⟨_, rfl, _, _, rfl, rfl, (by decide : (0 : Int) < 18446744073709551557), _, _, rfl, rfl, _, rfl, _, _, rfl, rfl, wide_div (b := 64) (by decide) (by decide) (by decide) (by decide), _, _, rfl, rfl, _, _, rfl, rfl, wide_mul bu bv (by decide) (by decide) (by decide), ?_⟩
    have bw := wide_lt bu bv
    refine ⟨_, rfl, _, _, rfl, rfl, wide_mul bw by_ (by decide) (by decide) (by decide), ?_⟩
    exact ⟨_, rfl, _, _, rfl, rfl, (by decide : (0 : Int) < 340282366920938463463374607431768211507), q _ (Int.emod_nonneg _ (by decide))⟩
end
end FC
set_option Elab.async false
set_option linter.all false
set_option maxRecDepth 100000
set_option maxHeartbeats 4000000
namespace FC
open PySem L2
/-- 2 or 3, and a remainder by it -/
def spRest : Sp := fun vs H Q _ => ∃ d : Addr, vs = [.ref d] ∧ Dice H d ∧ ∀ (t : Addr) (m r : Int) H', (m = 2 ∨ m = 3) → 0 ≤ r → r < m → Dice H' d → SameX d H H' → H t = none → H' t = some (.tup [.int m, .int r]) → Q (.ref t) H'
theorem SameX.upd {d p : Addr} {H H' : Hp} {o : HO} (e : SameX d H H') (h : H' p = none) : SameX d H (L2.upd H' p o) := fun b u q n => by
  have q' := e b u q n
  rw [upd_ne (ne_of_none q' h)]
  exact q'
theorem SameX.free {d l : Addr} {H H' : Hp} (e : SameX d H H') (hd : l ≠ d) (h : H' l = none) : H l = none := by
  cases q : H l with
  | none => rfl
  | some o =>
    rw [e l o q hd] at h
    cases h
theorem Dice.same {d : Addr} {H H' : Hp} (s : Same H H') (h : Dice H d) : Dice H' d := by
  obtain ⟨a, b, e⟩ := h
  exact ⟨a, b, s _ _ e⟩
theorem Dice.ne {d p : Addr} {H : Hp} (h : Dice H d) (n : H p = none) : d ≠ p := by
  obtain ⟨a, b, e⟩ := h
  exact ne_of_none e n
section
variable {P : Program} {w : World} {K : PySem.W.Frag} {mg : Str → Option Value} {base : Heap}
theorem scRoll : FnScope ["_law_dice", "_law_many", "_law_told_here"] ["_law_dice", "_law_many"] (defScope sRoll) := ⟨rfl, rfl, rfl, by decide +kernel, rfl, by decide +kernel, by decide +kernel⟩
theorem ok_roll {f : Addr} {fd : FuncData} (F : Fun K "_law_roll" "_law_roll" sRoll f fd) (CD : Cal P w K mg base CX0 1 "_law_drawn" ["_law_cell_here", "_law_k"] spDrawn) : FnOk P w K mg base CX0 2 f fd ["_law_dice", "_law_many"] spRoll := by
  refine F.ok scRoll (fun vs H Q E h => ?_) (fun cdv A outer s H vs Q E hr h => ?_)
  · obtain ⟨a, k, rfl, _⟩ := h
    rfl
  · obtain ⟨d, m, rfl, ⟨a, b, hd⟩, h1, h2, q⟩ := h
    have nd := scRoll.nd
    refine ⟨_, pss_cons (ps_if (pt_cmp (pc_ge (pe_ix ix_list (pv 0) pe_int (fun _ _ => rfl)) (pe_op op_pow pe_int pe_int)))
        (pss_cons (ps_set (i := 2) nd rfl (Or.inl rfl) (pe_op op_mod (pe_ix ix_list (pv 0) pe_int (fun _ _ => rfl)) (pv 1)))
        (pss_cons (ps_asg (pe_op op_fdiv (pe_ix ix_list (pv 0) pe_int (fun _ _ => rfl)) (pv 1)) (pg_sub (pv 0) pe_int set_list))
        (pss_one (ps_ret (pv 2))))) pss_nil)
      (pss_cons (ps_asg (pe_op op_add (pe_ix ix_list (pv 0) pe_int (fun _ _ => rfl)) pe_int) (pg_sub (pv 0) pe_int set_list))
      (pss_one (ps_ret (pe_op op_mod (pe_op op_fdiv (pe_cal CD hr pass0 (pa_cons (pe_ix ix_list (pv 0) pe_int (fun _ _ => rfl)) (pa_cons (pe_ix ix_list (pv 0) pe_int (fun _ _ => rfl)) pa_nil))) pe_int) (pv 1))))), ?_⟩
    have at0' : ∀ x y : Int, atI [V.int x, V.int y] 0 = some (V.int x) := fun x y => at0 _ _
    have at1' : ∀ x y : Int, atI [V.int x, V.int y] 1 = some (V.int y) := fun x y => by
      have h := atI_nat (xs := [V.int x, V.int y]) (j := 1) (v := V.int y) rfl
      exact h
    have only : ∀ (o : HO), SameX d H (upd H d o) := fun o c u e n => by
      rw [upd_ne n]
      exact e
    have hm : (0 : Int) < m := by omega
    refine ⟨_, rfl, d, _, _, _, rfl, rfl, SqL.of hd, at0' a b, _, _, rfl, rfl, ⟨by decide, by decide, by decide⟩, _, _, rfl, rfl, _, rfl, ?_⟩
    refine ite2 (fun _ => ?_) (fun _ => ?_)
    · refine ⟨_, rfl, d, _, _, _, rfl, rfl, SqL.of hd, at0' a b, _, rfl, _, _, rfl, rfl, hm, ?_⟩
      refine ⟨_, rfl, d, _, _, _, rfl, rfl, SqL.of hd, at0' a b, _, rfl, _, _, rfl, rfl, ⟨hm, h2⟩, ?_⟩
      refine ⟨_, rfl, d, _, _, 0, rfl, rfl, hd, rfl, ?_⟩
      exact ⟨_, rfl, q _ _ (Int.emod_nonneg _ (Int.ne_of_gt hm)) (Int.emod_lt_of_pos _ hm) ⟨_, _, upd_same⟩ (only _)⟩
    · refine ⟨_, rfl, d, _, _, _, rfl, rfl, SqL.of hd, at1' a b, _, _, rfl, rfl, ?_⟩
      refine ⟨_, rfl, d, _, _, 1, rfl, rfl, hd, rfl, ?_⟩
      have hd2 : upd H d (.lst ([V.int a, V.int b].set 1 (V.int (b + 1)))) d = some (.lst [V.int a, V.int (b + 1)]) := upd_same
      refine ⟨_, rfl, d, _, _, _, rfl, rfl, SqL.of hd2, at0' a (b + 1), _, rfl, d, _, _, _, rfl, rfl, SqL.of hd2, at1' a (b + 1), a, b + 1, rfl, fun r hr0 => ?_⟩
      refine ⟨_, _, rfl, rfl, ⟨by decide, by decide⟩, _, rfl, _, _, rfl, rfl, hm, ?_⟩
      exact q _ _ (Int.emod_nonneg _ (Int.ne_of_gt hm)) (Int.emod_lt_of_pos _ hm) ⟨_, _, upd_same⟩ (only _)
theorem scRest : FnScope ["_law_dice", "_law_by"] ["_law_dice"] (defScope sRest) := ⟨rfl, rfl, rfl, by decide +kernel, rfl, by decide +kernel, by decide +kernel⟩
theorem ok_rest {f : Addr} {fd : FuncData} (F : Fun K "_law_rest" "_law_rest" sRest f fd) (CR : Cal P w K mg base CX0 2 "_law_roll" ["_law_dice", "_law_many"] spRoll) : FnOk P w K mg base CX0 3 f fd ["_law_dice"] spRest := by
  refine F.ok scRest (fun vs H Q E h => ?_) (fun cdv A outer s H vs Q E hr h => ?_)
  · obtain ⟨a, rfl, _⟩ := h
    rfl
  · obtain ⟨d, rfl, hd, q⟩ := h
    have nd := scRest.nd
    refine ⟨_, pss_cons (ps_set (i := 1) nd rfl (Or.inl rfl) (pe_op op_add pe_int (pe_cal CR hr pass0 (pa_cons (pv 0) (pa_cons pe_int pa_nil)))))
      (pss_one (ps_ret (pe_tup (pa_cons (pv 1) (pa_cons (pe_cal CR hr pass0 (pa_cons (pv 0) (pa_cons (pv 1) pa_nil))) pa_nil))))), ?_⟩
    refine ⟨_, rfl, d, 2, rfl, hd, by decide, by decide, fun r H1 r0 r1 d1 s1 => ⟨_, _, rfl, rfl, ?_⟩⟩
    refine ⟨_, rfl, _, rfl, _, rfl, d, 2 + r, rfl, d1, by omega, by omega, fun r2 H2 r3 r4 d2 s2 => ⟨(by show 2 ≤ sizeLine; decide), fun t nt => ?_⟩⟩
    have nt' : t ≠ d := (d2.ne nt).symm
    have s3 := s1.trans s2
    exact q t (2 + r) r2 _ (by omega) r3 r4 (by obtain ⟨x, y, e⟩ := d2; exact ⟨x, y, by rw [upd_ne (Ne.symm nt')]; exact e⟩) (s3.upd nt) (s3.free nt' nt) upd_same
end
end FC
set_option Elab.async false
set_option linter.all false
set_option maxRecDepth 100000
set_option maxHeartbeats 4000000
namespace FC
open PySem L2
def spRounds (K : PySem.W.Frag) : Sp := fun vs H Q _ => ∃ (a : Addr) (ns : List Int), vs = [.ref a, .int 4] ∧ SqL K H a (ns.map V.int) ∧ ns.length ≤ 63 ∧
  ∀ (t : Addr) (ds : List Addr) H', Same H H' → ds.length ≤ 4 → H' t = some (.lst (ds.map V.ref)) → (∀ d ∈ ds, Dice H' d ∧ H d = none) → H t = none → Q (.ref t) H'
section
variable {P : Program} {w : World} {K : PySem.W.Frag} {mg : Str → Option Value} {base : Heap}
theorem scRounds : FnScope ["_law_script", "_law_most", "_law_k"] ["_law_script", "_law_most"] (defScope sRounds) := ⟨rfl, rfl, rfl, by decide +kernel, rfl, by decide +kernel, by decide +kernel⟩
theorem ok_rounds {f : Addr} {fd : FuncData} (F : Fun K "_law_rounds" "_law_rounds" sRounds f fd) (T : Blt mg) (CC : Cal P w K mg base CX0 1 "_law_cell" ["_law_script", "_law_k"] (spCellL K)) : FnOk P w K mg base CX0 2 f fd ["_law_script", "_law_most"] (spRounds K) := by
  refine F.ok scRounds (fun vs H Q E h => ?_) (fun cdv A outer s H vs Q E hr h => ?_)
  · obtain ⟨a, k, rfl, _⟩ := h
    rfl
  · obtain ⟨a, ns, rfl, ha, hl, q⟩ := h
    have nd := scRounds.nd
    refine ⟨_, pss_one (ps_ret (pe_lc (own := [("_law_k", 2)]) (g := gName 2) (by rfl) nd
      (pi_range1 (by rfl) T.range (pa_cons (pe_callB (call_max2 rfl) (by rfl) T.max (by decide +kernel) (pa_cons pe_int (pa_cons (pe_callB (call_min2 rfl) (by rfl) T.min (by decide +kernel) (pa_cons (pv 1) (pa_cons (pe_callB call_len (by rfl) T.len PySem.boot_len (pa_cons (pv 0) pa_nil)) pa_nil))) pa_nil))) pa_nil))
      (blkOk_by (own := [("_law_k", 2)]) (N := ["_law_script", "_law_most", "_law_k"]) (sc := defScope sRounds) (by decide +kernel)) (fun _ _ _ _ _ => pg_name (i := 2) nd rfl (Or.inl rfl))
      (fun _ _ _ _ _ => pts_nil) (fun _ _ _ _ _ => pe_lst (pa_cons (pe_cal CC hr pass0 (pa_cons (pv 0) (pa_cons (pv 2) pa_nil))) (pa_cons pe_int pa_nil))))), ?_⟩
    have hN : ∃ N : Nat, (if (if (ns.length : Int) < 4 then (ns.length : Int) else 4) > 1 then (if (ns.length : Int) < 4 then (ns.length : Int) else 4) else 1) = (N : Int) ∧ N ≤ 4 := by
      by_cases h1 : (ns.length : Int) < 4
      · rw [if_pos h1]
        by_cases h2 : (ns.length : Int) > 1
        · rw [if_pos h2]
          exact ⟨ns.length, rfl, by omega⟩
        · rw [if_neg h2]
          exact ⟨1, rfl, by decide⟩
      · rw [if_neg h1]
        exact ⟨4, by decide, by decide⟩
    obtain ⟨N, eN, hN⟩ := hN
    have eL : ((ns.map V.int).length : Int) = (ns.length : Int) := by rw [List.length_map]
    refine ⟨_, rfl, _, rfl, _, (ns.map V.int).length, rfl, .inl ⟨_, ha, rfl⟩, _, _, rfl, _, _, rfl, (N : Int), ?_, by omega, by omega, fun D nD => ?_⟩
    · rw [eL, eN]
    have s1 := same_upd (o := .lst []) (Same.refl H) nD
    have eT : ((N : Int)).toNat = N := by omega
    rw [eT]
    refine lc_range (lo := 0) (n := N) (fun j H3 => ∃ ds : List Addr, ds.length = j ∧ H3 D = some (.lst (ds.map V.ref)) ∧ Same H H3 ∧ ∀ d ∈ ds, Dice H3 d ∧ H d = none ∧ d ≠ D)
      ⟨[], rfl, upd_same, s1, fun d hd => by simp at hd⟩ ?_ ?_
    · rintro j H3 hj ⟨ds, hds, hD, s3, each⟩
      refine ⟨rfl, ?_⟩
      have nDH : ∀ b o, H b = some o → b ≠ D := fun b o e => ne_of_none e nD
      refine ⟨_, rfl, _, rfl, a, ns, _, rfl, Same.seq s3 ha, hl, fun n H4 s4 => ⟨(by show 2 ≤ sizeLine; decide), fun d nd' => ⟨ds.map V.ref, ?_, ?_, ds ++ [d], ?_, ?_, ?_, ?_⟩⟩⟩
      · have h4 := s4 _ _ hD
        rw [upd_ne (ne_of_none h4 nd')]
        exact h4
      · rw [List.length_map]
        exact small1000 (by omega)
      · rw [List.length_append, hds]
        rfl
      · rw [upd_same, List.map_append]
        rfl
      · intro b o e
        have e4 := s4 _ _ (s3 b o e)
        rw [upd_ne (nDH b o e), upd_ne (ne_of_none e4 nd')]
        exact e4
      · intro c hc
        have dD : d ≠ D := fun z => by
          have h4 := s4 _ _ hD
          rw [← z, nd'] at h4
          cases h4
        rcases List.mem_append.mp hc with z | z
        · obtain ⟨⟨x, y, e1⟩, e2, e3⟩ := each c z
          have e4 := s4 _ _ e1
          refine ⟨⟨x, y, ?_⟩, e2, e3⟩
          rw [upd_ne e3, upd_ne (ne_of_none e4 nd')]
          exact e4
        · rw [List.mem_singleton.mp z]
          refine ⟨⟨n, 0, ?_⟩, ?_, dD⟩
          · rw [upd_ne dD]
            exact upd_same
          · exact Same.free (Same.trans s3 s4) nd'
    · rintro H3 ⟨ds, hds, hD, s3, each⟩
      exact q D ds H3 s3 (by omega) hD (fun d hd => ⟨(each d hd).1, (each d hd).2.1⟩) nD
end
end FC
set_option Elab.async false
set_option linter.all false
set_option maxRecDepth 100000
set_option maxHeartbeats 4000000
namespace FC
open PySem L2
def strInt : V → Bool
  | .str _ => true
  | .int _ => true
  | _ => false
theorem strInt_nice {K : PySem.W.Frag} {H : Hp} {y : V} (h : strInt y = true) : Nice K H y := by
  cases y <;> first | exact Nice.str _ | exact Nice.int _ | cases h
/-- a drawn step: a tuple of a name and numbers, new -/
def spStepL : Sp := fun vs H Q _ => ∃ d : Addr, vs = [.ref d] ∧ Dice H d ∧ ∀ (t : Addr) (ys : List V) H', ys.length ≤ 10 → (∀ y ∈ ys, strInt y = true) → Dice H' d → SameX d H H' → H' t = some (.tup ys) → Q (.ref t) H'
def kindsL : List Str := ["line", "sums", "gaps", "anew", "keep", "turn", "every", "groups", "count", "twice", "line", "sums"]
section
variable {P : Program} {w : World} {K : PySem.W.Frag} {mg : Str → Option Value} {base : Heap}
theorem scStep : FnScope ["_law_dice", "_law_kinds", "_law_kind", "_law_factor", "_law_more"] ["_law_dice"] (defScope sStep) := ⟨rfl, rfl, rfl, by decide +kernel, rfl, by decide +kernel, by decide +kernel⟩
theorem ok_step {f : Addr} {fd : FuncData} (F : Fun K "_law_step" "_law_step" sStep f fd) (CR : Cal P w K mg base CX0 2 "_law_roll" ["_law_dice", "_law_many"] spRoll) (CT : Cal P w K mg base CX0 3 "_law_rest" ["_law_dice"] spRest) : FnOk P w K mg base CX0 4 f fd ["_law_dice"] spStepL := by
  refine F.ok scStep (fun vs H Q E h => ?_) (fun cdv A outer s H vs Q E hr h => ?_)
  · obtain ⟨a, rfl, _⟩ := h
    rfl
  · obtain ⟨d, rfl, hd, q⟩ := h
    have nd := scStep.nd
    have hr2 : Room 2 _ := hr.mono (by decide)
    refine ⟨_, pss_cons (ps_set (i := 1) nd rfl (Or.inl rfl) (pe_lst (pa_cons pe_str (pa_cons pe_str (pa_cons pe_str (pa_cons pe_str (pa_cons pe_str (pa_cons pe_str (pa_cons pe_str (pa_cons pe_str (pa_cons pe_str (pa_cons pe_str (pa_cons pe_str (pa_cons pe_str pa_nil))))))))))))))
      (pss_cons (ps_set (i := 2) nd rfl (Or.inl rfl) (pe_ix ix_list (pv 1) (pe_cal CR hr2 pass0 (pa_cons (pv 0) (pa_cons pe_int pa_nil))) (fun _ _ => rfl)))
      (pss_cons (ps_if (pt_cmpR op_in_seq (pv 2) (pe_tup (pa_cons pe_str (pa_cons pe_str (pa_cons pe_str (pa_cons pe_str pa_nil))))) rfl) (pss_one (ps_ret (pe_tup (pa_cons (pv 2) pa_nil)))) pss_nil)
      (pss_cons (ps_if (pt_cmpR op_eq (pv 2) pe_str (nomark _)) (pss_one (ps_ret (pe_tup (pa_cons (pv 2) (pa_cons (pe_op op_add pe_int (pe_cal CR hr2 pass0 (pa_cons (pv 0) (pa_cons pe_int pa_nil)))) pa_nil))))) pss_nil)
      (pss_cons (ps_par (i := 3) (j := 4) (by rfl) nd rfl rfl (by decide) rfl rfl (pa_cons (pe_ix ix_list (pe_lst (pa_cons pe_int (pa_cons (pe_un un_neg pe_int) (pa_cons pe_int (pa_cons pe_int (pa_cons pe_int (pa_cons pe_int pa_nil))))))) (pe_cal CR hr2 pass0 (pa_cons (pv 0) (pa_cons pe_int pa_nil))) (fun _ _ => rfl))
          (pa_cons (pe_op op_sub (pe_cal CR hr2 pass0 (pa_cons (pv 0) (pa_cons pe_int pa_nil))) pe_int) pa_nil)) (by rfl))
      (pss_cons (ps_if (pt_cmpR op_eq (pv 2) pe_str (nomark _)) (pss_one (ps_ret (pe_tup (pa_cons (pv 2) (pa_cons (pv 3) (pa_cons (pv 4) pa_nil)))))) pss_nil)
      (pss_cons (ps_if (pt_cmpR op_eq (pv 2) pe_str (nomark _)) (pss_one (ps_ret (pe_op op_catT (pe_op op_catT (pe_tup (pa_cons (pv 2) pa_nil)) (pe_cal CT hr pass0 (pa_cons (pv 0) pa_nil))) (pe_tup (pa_cons (pv 3) (pa_cons (pv 4) pa_nil)))))) pss_nil)
      (pss_one (ps_ret (pe_op op_catT (pe_tup (pa_cons (pv 2) pa_nil)) (pe_cal CT hr pass0 (pa_cons (pv 0) pa_nil))))))))))), ?_⟩
    -- the kinds
    refine ⟨(by show 12 ≤ sizeLine; decide), fun p np => ?_⟩
    have hp1 : upd H p (.lst (kindsL.map V.str)) p = some (.lst (kindsL.map V.str)) := upd_same
    have s1 : Same H (upd H p (.lst (kindsL.map V.str))) := same_upd (Same.refl H) np
    have npd : p ≠ d := (hd.ne np).symm
    have d1 := hd.same s1
    show (tSeq _ _) _ _ (upd H p (.lst (kindsL.map V.str)))
    generalize upd H p (.lst (kindsL.map V.str)) = H1 at hp1 s1 d1 ⊢
    refine ⟨_, rfl, _, rfl, d, 12, rfl, d1, by decide, by decide, fun r H2 r0 r1 d2 s2 => ?_⟩
    obtain ⟨j, rfl⟩ := Int.eq_ofNat_of_zero_le r0
    have hj : j < kindsL.length := by
      show j < 12
      omega
    have hk : (kindsL.map V.str)[j]? = some (V.str kindsL[j]) := by rw [List.getElem?_map, List.getElem?_eq_getElem hj]; rfl
    have hp2 := s2 _ _ hp1 npd
    refine ⟨p, _, _, .str kindsL[j], rfl, rfl, SqL.of hp2, atI_nat hk, ?_⟩
    have s2' : SameX d H H2 := (SameX.of s1).trans s2
    generalize kindsL[j] = z at *
    have two : ∀ n : Nat, n ≤ 10 → n ≤ sizeLine := fun n h => Nat.le_trans h (by decide)
    have keepD : ∀ {H' : Hp} {t : Addr} {o : HO}, Dice H' d → H' t = none → Dice (upd H' t o) d := fun {H' t o} h n => by
      obtain ⟨x, y, e⟩ := h
      exact ⟨x, y, by rw [upd_ne (ne_of_none e n)]; exact e⟩
    -- a lone name
    refine ⟨_, rfl, two 4 (by decide), fun t nt => ⟨t, _, rfl, .inr (SqT.of upd_same), rfl, by decide, _, rfl, ?_⟩⟩
    have d3 := keepD (o := .tup [.str "sums", .str "gaps", .str "count", .str "twice"]) d2 nt
    have s3 := s2'.upd (o := .tup [.str "sums", .str "gaps", .str "count", .str "twice"]) nt
    show if inV _ _ = true then tRet _ _ _ (upd H2 t (.tup [.str "sums", .str "gaps", .str "count", .str "twice"])) else tNext _ _ (upd H2 t (.tup [.str "sums", .str "gaps", .str "count", .str "twice"]))
    generalize upd H2 t (.tup [.str "sums", .str "gaps", .str "count", .str "twice"]) = H3 at d3 s3 ⊢
    refine ite2 (fun _ => ?_) (fun _ => ?_)
    · refine ⟨_, rfl, two 1 (by decide), fun b nb => ?_⟩
      exact q b [.str z] _ (by show 1 ≤ 10; decide) (by intro y hy; rw [List.mem_singleton.mp hy]; rfl) (keepD d3 nb) (s3.upd nb) upd_same
    -- groups
    refine ⟨_, rfl, rfl, _, rfl, ?_⟩
    refine ite2 (fun _ => ?_) (fun _ => ?_)
    · refine ⟨_, rfl, _, rfl, d, 2, rfl, d3, by decide, by decide, fun r H4 r0 r1 d4 s4 => ⟨_, _, rfl, rfl, two 2 (by decide), fun b nb => ?_⟩⟩
      refine q b [.str z, .int (2 + r)] _ (by show 2 ≤ 10; decide) ?_ (keepD d4 nb) ((s3.trans s4).upd nb) upd_same
      intro y hy
      simp only [List.mem_cons, List.not_mem_nil, or_false] at hy
      rcases hy with rfl | rfl <;> rfl
    -- factor, more
    refine ⟨_, rfl, two 6 (by decide), fun l nl => ?_⟩
    have d4 := keepD (o := .lst ([1, -1, 2, 0, 3, 1].map V.int)) d3 nl
    have s4 := s3.upd (o := .lst ([1, -1, 2, 0, 3, 1].map V.int)) nl
    have hl : upd H3 l (.lst ([1, -1, 2, 0, 3, 1].map V.int)) l = some (.lst ([1, -1, 2, 0, 3, 1].map V.int)) := upd_same
    have nld : l ≠ d := (d3.ne nl).symm
    refine ⟨_, rfl, d, 6, rfl, d4, by decide, by decide, fun r H5 r0 r1 d5 s5 => ?_⟩
    obtain ⟨i, rfl⟩ := Int.eq_ofNat_of_zero_le r0
    have hi : i < ([1, -1, 2, 0, 3, 1] : List Int).length := by
      show i < 6
      omega
    have hm : (([1, -1, 2, 0, 3, 1] : List Int).map V.int)[i]? = some (V.int (([1, -1, 2, 0, 3, 1] : List Int)[i])) := by rw [List.getElem?_map, List.getElem?_eq_getElem hi]; rfl
    have hl5 := s5 _ _ hl nld
    refine ⟨l, _, _, _, rfl, rfl, SqL.of hl5, atI_nat hm, ?_⟩
    generalize ([1, -1, 2, 0, 3, 1] : List Int)[i] = x
    refine ⟨_, rfl, d, 7, rfl, d5, by decide, by decide, fun r2 H6 _ _ d6 s6 => ⟨_, _, rfl, rfl, _, _, rfl, ?_⟩⟩
    have sX : SameX d H H6 := (s4.trans s5).trans s6
    clear hl hl5 hm s4 s5 s6 d3 d4 d5 s3
    -- line
    refine ⟨_, rfl, rfl, _, rfl, ?_⟩
    refine ite2 (fun _ => ?_) (fun _ => ?_)
    · refine ⟨_, rfl, _, rfl, _, rfl, two 3 (by decide), fun b nb => ?_⟩
      refine q b [.str z, .int x, .int (r2 - 3)] _ (by show 3 ≤ 10; decide) ?_ (keepD d6 nb) (sX.upd nb) upd_same
      intro y hy
      simp only [List.mem_cons, List.not_mem_nil, or_false] at hy
      rcases hy with rfl | rfl | rfl <;> rfl
    -- turn
    refine ⟨_, rfl, rfl, _, rfl, ?_⟩
    refine ite2 (fun _ => ?_) (fun _ => ?_)
    · refine ⟨_, rfl, two 1 (by decide), fun b nb => ?_⟩
      have d7 := keepD (o := .tup [.str z]) d6 nb
      have s7 := sX.upd (o := .tup [.str z]) nb
      have hb7 : upd H6 b (.tup [.str z]) b = some (.tup [.str z]) := upd_same
      have nbd : b ≠ d := (d6.ne nb).symm
      refine ⟨_, rfl, d, rfl, d7, fun t m r H8 _ _ _ d8 s8 _ ht => ?_⟩
      have hb8 := s8 _ _ hb7 nbd
      refine ⟨b, t, _, _, rfl, rfl, SqT.of hb8, SqT.of ht, by simp, two 3 (by decide), (fun z => by cases z), fun _ c nc => ?_⟩
      have d9 := keepD (o := .tup ([V.str z] ++ [V.int m, V.int r])) d8 nc
      have s9 := (s7.trans s8).upd (o := .tup ([V.str z] ++ [V.int m, V.int r])) nc
      have hc9 : upd H8 c (.tup ([V.str z] ++ [V.int m, V.int r])) c = some (.tup [.str z, .int m, .int r]) := upd_same
      refine ⟨_, rfl, _, rfl, two 2 (by decide), fun e ne => ?_⟩
      refine ⟨c, e, _, _, rfl, rfl, SqT.of ((upd_ne (ne_of_none hc9 ne)).trans hc9), SqT.of upd_same, by simp, two 5 (by decide), (fun z => by cases z), fun _ g ng => ?_⟩
      refine q g [.str z, .int m, .int r, .int x, .int (r2 - 3)] _ (by show 5 ≤ 10; decide) ?_ (keepD (keepD d9 ne) ng) ((s9.upd ne).upd ng) upd_same
      intro y hy
      simp only [List.mem_cons, List.not_mem_nil, or_false] at hy
      rcases hy with rfl | rfl | rfl | rfl | rfl <;> rfl
    -- the others
    · refine ⟨_, rfl, two 1 (by decide), fun b nb => ?_⟩
      have d7 := keepD (o := .tup [.str z]) d6 nb
      have s7 := sX.upd (o := .tup [.str z]) nb
      have hb7 : upd H6 b (.tup [.str z]) b = some (.tup [.str z]) := upd_same
      have nbd : b ≠ d := (d6.ne nb).symm
      refine ⟨_, rfl, d, rfl, d7, fun t m r H8 _ _ _ d8 s8 _ ht => ?_⟩
      have hb8 := s8 _ _ hb7 nbd
      refine ⟨b, t, _, _, rfl, rfl, SqT.of hb8, SqT.of ht, by simp, two 3 (by decide), (fun z => by cases z), fun _ c nc => ?_⟩
      refine q c [.str z, .int m, .int r] _ (by show 3 ≤ 10; decide) ?_ (keepD d8 nc) ((s7.trans s8).upd nc) upd_same
      intro y hy
      simp only [List.mem_cons, List.not_mem_nil, or_false] at hy
      rcases hy with rfl | rfl | rfl <;> rfl
end
end FC
set_option Elab.async false
set_option linter.all false
set_option maxRecDepth 100000
set_option maxHeartbeats 4000000
namespace FC
open PySem L2
theorem sqt_sameX {K : PySem.W.Frag} {H H' : Hp} {a d : Addr} {xs : List V} (h : SqT K H a xs) (hd : Dice H d) (s : SameX d H H') : SqT K H' a xs := by
  obtain ⟨x, y, e⟩ := hd
  rcases h with (h | ⟨o, h⟩) | h
  · exact .inl (.inl (s _ _ h (ne_of h e (by intro z; cases z))))
  · exact .inl (.inr ⟨o, s _ _ h (ne_of h e (by intro z; cases z))⟩)
  · exact .inr h
theorem stepOk_strInt {ys : List V} (h : stepOk ys = true) : ∀ y ∈ ys, strInt y = true := by
  obtain ⟨name, ns, rfl, _⟩ := stepOk_shape h
  intro y hy
  rcases List.mem_cons.mp hy with z | z
  · rw [z]
    rfl
  · obtain ⟨n, _, rfl⟩ := List.mem_map.mp z
    rfl
theorem chainAt_sameX {K : PySem.W.Frag} {H H' : Hp} {a d : Addr} {cs : List (List V)} (h : ChainAt K H a cs) (hc : chainOk cs = true) (hd : Dice H d) (s : SameX d H H') : ChainAt K H' a cs := by
  obtain ⟨xs, h1, h2⟩ := h
  refine ⟨xs, sqt_sameX h1 hd s, h2.len, fun i x o hx ho => ?_⟩
  have hi := get_lt ho
  rw [List.length_map] at hi
  have e : (cs.map some)[i]? = some (some cs[i]) := by rw [List.getElem?_map, List.getElem?_eq_getElem hi]; rfl
  rw [e] at ho
  have ho : some cs[i] = o := Option.some.inj ho
  subst ho
  obtain ⟨b, e1, e2, _⟩ := h2.at_ i x _ hx e
  exact ⟨b, e1, sqt_sameX e2 hd s, fun y hy => strInt_nice (stepOk_strInt (chainOk_steps hc _ (List.getElem_mem hi)) y hy)⟩
theorem Steps.snoc {K : PySem.W.Frag} {H : Hp} {xs : List V} {os : List (Option (List V))} {x : V} {o : Option (List V)} (h : Steps K H xs os) (hx : StepV K H x o) : Steps K H (xs ++ [x]) (os ++ [o]) := by
  refine ⟨by rw [List.length_append, List.length_append, h.len]; rfl, fun i y p hy hp => ?_⟩
  by_cases hi : i < xs.length
  · rw [List.getElem?_append_left hi] at hy
    rw [List.getElem?_append_left (by rw [← h.len]; exact hi)] at hp
    exact h.at_ i y p hy hp
  · have hi2 := get_lt hy
    rw [List.length_append] at hi2
    have hi2 : i < xs.length + 1 := hi2
    have ei : i = xs.length := by omega
    subst ei
    rw [List.getElem?_append_right (Nat.le_refl _), Nat.sub_self] at hy
    rw [h.len, List.getElem?_append_right (Nat.le_refl _), Nat.sub_self] at hp
    have hy : x = y := Option.some.inj hy
    have hp : o = p := Option.some.inj hp
    rw [← hy, ← hp]
    exact hx
/-- a drawn chain -/
def spChainL (K : PySem.W.Frag) : Sp := fun vs H Q _ => ∃ d : Addr, vs = [.ref d, .int 4] ∧ Dice H d ∧ ∀ (a : Addr) (cs : List (List V)) H', chainOk cs = true → ChainAt K H' a cs → Dice H' d → SameX d H H' → Q (.ref a) H'
section
variable {P : Program} {w : World} {K : PySem.W.Frag} {mg : Str → Option Value} {base : Heap}
theorem scChain : FnScope ["_law_dice", "_law_most", "_law_found", "_law_turn", "_law_more"] ["_law_dice", "_law_most"] (defScope sChain) := ⟨rfl, rfl, rfl, by decide +kernel, rfl, by decide +kernel, by decide +kernel⟩
theorem ok_chain {f : Addr} {fd : FuncData} (F : Fun K "_law_chain" "_law_chain" sChain f fd) (T : Blt mg) (CR : Cal P w K mg base CX0 2 "_law_roll" ["_law_dice", "_law_many"] spRoll) (CS : Cal P w K mg base CX0 4 "_law_step" ["_law_dice"] spStepL)
    (CC : Cal P w K mg base CX0 4 "is_chain" ["value"] (spIsChain K)) : FnOk P w K mg base CX0 5 f fd ["_law_dice", "_law_most"] (spChainL K) := by
  refine F.ok scChain (fun vs H Q E h => ?_) (fun cdv A outer s H vs Q E hr h => ?_)
  · obtain ⟨a, rfl, _⟩ := h
    rfl
  · obtain ⟨d, rfl, hd, q⟩ := h
    have nd := scChain.nd
    have hr2 : Room 2 _ := hr.mono (by decide)
    refine ⟨_, pss_cons (ps_set (i := 2) nd rfl (Or.inl rfl) (pe_tup pa_nil))
      (pss_cons (ps_for PassesOwn.never rfl (pi_range1 (by rfl) T.range (pa_cons (pe_cal CR hr2 pass0 (pa_cons (pv 0) (pa_cons (pe_op op_add (pv 1) pe_int) pa_nil))) pa_nil)) (pg_name (i := 3) nd rfl (Or.inl rfl))
        (pss_cons (ps_set (i := 4) nd rfl (Or.inl rfl) (pe_op op_catA (pv 2) (pe_tup (pa_cons (pe_cal CS hr pass0 (pa_cons (pv 0) pa_nil)) pa_nil))))
        (pss_one (ps_set (i := 2) nd rfl (Or.inl rfl) (pe_ifExp (pt_val (pe_cal CC hr pass0 (pa_cons (pv 4) pa_nil))) (pv 4) (pv 2))))))
      (pss_one (ps_ret (pv 2)))), ?_⟩
    have keepD : ∀ {H' : Hp} {t : Addr} {o : HO}, Dice H' d → H' t = none → Dice (upd H' t o) d := fun {H' t o} h n => by
      obtain ⟨x, y, e⟩ := h
      exact ⟨x, y, by rw [upd_ne (ne_of_none e n)]; exact e⟩
    refine ⟨(by show 0 ≤ sizeLine; decide), fun p np => ?_⟩
    have d1 := keepD (o := .tup []) hd np
    have s1 := (SameX.refl d H).upd (o := .tup []) np
    have c1 : ChainAt K (upd H p (.tup [])) p [] := ⟨[], SqT.of upd_same, rfl, fun i x o hx _ => by simp at hx⟩
    generalize upd H p (.tup []) = H1 at d1 s1 c1 ⊢
    refine ⟨_, rfl, _, rfl, _, _, rfl, rfl, d, 5, rfl, d1, by decide, by decide, fun r H2 r0 r1 d2 s2 => ?_⟩
    have c2 := chainAt_sameX c1 (by rfl) d1 s2
    have s2' := s1.trans s2
    clear c1 d1 s1 s2
    refine ⟨r, rfl, by omega, by omega, for_range (lo := 0) (n := r.toNat) (fun i σ H3 => ∃ (a : Addr) (cs : List (List V)) (v3 v4 : Option V), σ = [some (.ref d), some (.int 4), some (.ref a), v3, v4] ∧ chainOk cs = true ∧ ChainAt K H3 a cs ∧ Dice H3 d ∧ SameX d H H3)
      ⟨p, [], none, none, rfl, rfl, c2, d2, s2'⟩ ?_ ?_⟩
    · rintro i σ H3 hi ⟨a, cs, v3, v4, rfl, hc, hca, d3, s3⟩
      -- found + (a step,)
      refine ⟨_, rfl, _, rfl, d, rfl, d3, fun t ys H4 hy1 hy2 d4 s4 ht => ⟨(by show 1 ≤ sizeLine; decide), fun b nb => ?_⟩⟩
      have hca4 := chainAt_sameX hca hc d3 s4
      have s5 : Same H4 (upd H4 b (.tup [.ref t])) := same_upd (Same.refl H4) nb
      obtain ⟨xs, hxs, hst⟩ := hca4.same s5
      have hl := chainOk_len hc
      have hlx : xs.length ≤ 4 := by
        rw [hst.len, List.length_map]
        exact hl
      have d5 := keepD (o := .tup [.ref t]) d4 nb
      have ht5 : upd H4 b (.tup [.ref t]) t = some (.tup ys) := s5 _ _ ht
      have sX : SameX d H (upd H4 b (.tup [.ref t])) := (s3.trans s4).upd nb
      have hb5 : upd H4 b (.tup [.ref t]) b = some (.tup [.ref t]) := upd_same
      have stv : ∀ {H' : Hp}, Same (upd H4 b (.tup [.ref t])) H' → StepV K H' (.ref t) (some ys) := fun {H'} s => ⟨t, rfl, SqT.of (s _ _ ht5), fun y hy => strInt_nice (hy2 y hy)⟩
      -- what follows, for the longer tuple at m
      have fin : ∀ (D : Ends) (m : Addr) (H6 : Hp), Same (upd H4 b (.tup [.ref t])) H6 → ChainAt K H6 m (cs ++ [ys]) → Dice H6 d → SameX d H H6 →
          (∀ (a' : Addr) (cs' : List (List V)) (H7 : Hp), chainOk cs' = true → ChainAt K H7 a' cs' → Dice H7 d → SameX d H H7 → D.nx [some (.ref d), some (.int 4), some (.ref a'), some (.int (0 + i)), some (.ref m)] H7) →
          tAsg (tIf (tB (tCal (spIsChain K) E0 (tCons (tVar 4) tNil))) (tVar 4) (tVar 2)) (gName 2) D [some (.ref d), some (.int 4), some (.ref a), some (.int (0 + i)), some (.ref m)] H6 := by
        intro D m H6 s6 cm d6 sX6 go
        have cm' := cm.v
        refine ⟨_, rfl, .ref m, _, rfl, cm', fun H7 s7 => ⟨_, rfl, ?_⟩⟩
        show if chainOkL ((cs ++ [ys]).map some) = true then _ else _
        rw [chainOkL_some]
        refine ite2 (fun hok => ?_) (fun _ => ?_)
        · exact ⟨_, rfl, go m (cs ++ [ys]) H7 hok (cm.same s7) (d6.same s7) (sX6.trans (SameX.of s7))⟩
        · exact ⟨_, rfl, go a cs H7 hc ((hca4.same (Same.trans s5 s6)).same s7) (d6.same s7) (sX6.trans (SameX.of s7))⟩
      refine ⟨a, b, xs, [.ref t], rfl, rfl, hxs, SqT.of hb5, ?_, fun e => ?_, fun _ e => by simp at e, fun hx _ m nm => ?_⟩
      · show xs.length + 1 ≤ sizeLine
        exact Nat.le_of_lt (small1000 (by omega))
      · subst e
        refine fin _ b _ (Same.refl _) ⟨[.ref t], SqT.of hb5, ?_⟩ d5 sX (fun a' cs' H7 h1 h2 h3 h4 => ⟨a', cs', _, _, rfl, h1, h2, h3, h4⟩)
        have e0 : cs = [] := by
          have := hst.len
          rw [List.length_map] at this
          exact List.length_eq_zero_iff.mp this.symm
        subst e0
        exact Steps.snoc (xs := []) (os := []) hst (stv (Same.refl _))
      · have s6 := same_upd (o := .tup (xs ++ [.ref t])) (Same.refl (upd H4 b (.tup [.ref t]))) nm
        refine fin _ m _ s6 ⟨_, SqT.of upd_same, ?_⟩ (keepD d5 nm) (sX.upd nm) (fun a' cs' H7 h1 h2 h3 h4 => ⟨a', cs', _, _, rfl, h1, h2, h3, h4⟩)
        rw [List.map_append]
        exact (hst.same s6).snoc (stv s6)
    · rintro σ H3 ⟨a, cs, v3, v4, rfl, hc, hca, d3, s3⟩
      exact ⟨_, rfl, q a cs H3 hc hca d3 s3⟩
end
end FC
set_option Elab.async false
set_option linter.all false
set_option maxRecDepth 100000
set_option maxHeartbeats 4000000
/-! While an exception is handled: a list's iterator at its end, sums, a comprehension of numbers of truth values, isinstance of the exception itself. -/
namespace FC
open PySem PySem.Spec PyProof.Rows L2
section
variable {prog : Program} {w : World} {A : Around} {E : Value → Shared → Prop} {s : Shared}
/-- the iterator has nothing more to give -/
theorem list_out_hot {it l x1 : Addr} {i : Nat} {items : Array Value} {Q : Option Value → Shared → Prop} (hot : HotX.HotAt A x1 s.heap) (apart : x1 ≠ it) (p : s.heap.IsListIter it l i) (q : s.heap.IsList l items) (out : items[i]? = none)
    (go : ∀ h', Heap.ExtBut it s.heap h' → Q none { s with heap := h' }) : wpAny (model prog w) A (pyNext (.ref it)) Q E s := by
  obtain ⟨o, a1, a2, a3⟩ := id p
  obtain ⟨ol, b1, _, n, b3⟩ := q
  obtain ⟨hh, ox, vx, c1, c2, c3⟩ := hot
  unfold pyNext
  refine wpAny_bind (wpAny_attempt (wpAny_callSpecial?_slot (name := Str.ofString "__next__") p.typeIs slot_listiter_next (wpAny_call_entry slot_listiter_next p.typeIs entry_listiter_next ?_ (args_listiter_next _))))
  show wpAny _ _ (field (.ref it) 0 >>= fun _ => _) _ _ s
  refine wpAny_bind (wpAny_field a1 a3 (x := .ref l) rfl ?_)
  show wpAny _ _ (if (Value.ref l == Value.none) = true then _ else _) _ _ s
  rw [if_neg (fun z : (Value.ref l == Value.none) = true => Bool.noConfusion z)]
  show wpAny _ _ (field (.ref it) 1 >>= fun _ => _) _ _ s
  refine wpAny_bind (wpAny_field a1 a3 (x := .int i 0) rfl ?_)
  show wpAny _ _ (seqItems? (.ref l) >>= fun _ => _) _ _ s
  refine wpAny_bind (wpAny_seqItems b1 b3 ?_)
  simp only [Int.toNat_natCast, out]
  refine wpAny_bind (wpAny_rule (wpAny_bind (wpAny_setField a1 a3 (by simp) ?_)))
  show wpAny _ _ (newExc (.type "StopIteration") [] >>= fun _ => _) _ _ _
  refine wpAny_bind ?_
  simp only [newExc, newTuple]
  refine wpAny_bind (wpAny_newObj_type ?_ (by size_fits))
  refine wpAny_bind (m := firstArgMember _ _) (wpAny_of_eq (a := Value.none) (by first | rfl | (simp only [firstArgMember]; rfl)) ?_)
  refine wpAny_newObj_type ?_ (by size_fits)
  have up := fun (b : Addr) (u : Obj) (hb : it ≠ b) (e : s.heap.get? b = some u) => (Heap.get?_update_other s.heap (Obj.mapFields fun x => x.setIfInBounds 0 Value.none) hb).trans e
  refine HotX.raiseNew_hot ⟨hh, ox, vx, Heap.get?_push_of_some _ (Heap.get?_push_of_some _ (up x1 ox apart.symm c1)), c2, c3⟩ (Nat.ne_of_lt (Heap.lt_size (Heap.get?_push_of_some _ (up x1 ox apart.symm c1)))) (Heap.get?_push_size _ rfl) rfl
    (by first | (simp; done) | (simp; omega) | (simp only [Array.size_append]; simp; omega)) ?_
  refine wpAny_bind (wpAny_isInstance (T := "StopIteration") (b := true) ⟨_, Heap.get?_update_self _ (Heap.get?_push_size _ rfl) rfl, rfl⟩ isSubtype_stop ?_)
  refine wpAny_pure (go _ fun b u hb e => ?_)
  have e2 := up b u (fun z => hb z.symm) e
  rw [Heap.get?_update_other _ _ (Nat.ne_of_gt (Heap.lt_size (Heap.get?_push_of_some _ e2)))]
  exact Heap.get?_push_of_some _ (Heap.get?_push_of_some _ e2)
/-- a list's items, one after the other, while the exception at x1 is handled -/
theorem walk_hot {I l x1 : Addr} {items : Array Value} (apart : x1 ≠ I) (other : l ≠ I) :
    Walks prog w A I [I, l, x1] [I] items.size (fun i v => items[i]? = some v) (fun i h => h.IsListIter I l i ∧ h.IsList l items ∧ HotX.HotAt A x1 h) where
  sub := fun b hb => by
    rw [List.mem_singleton.mp hb]
    simp
  frame := fun i h h' st keep => by
    obtain ⟨⟨o, a1, a2, a3⟩, ⟨u, b1, b2⟩, hh, ox, vx, c1, c2⟩ := st
    exact ⟨⟨o, keep I (by simp) o a1, a2, a3⟩, ⟨u, keep l (by simp) u b1, b2⟩, hh, ox, vx, keep x1 (by simp) ox c1, c2⟩
  item := fun i s Q E hi st go => by
    obtain ⟨p, q, hh, ox, vx, c1, c2⟩ := st
    refine wpAny_pyNext_list_item p q (x := items[i]) (by simp [hi]) fun h' p' same => ?_
    exact go _ h' s.toks (by simp [hi]) ⟨p', q.extBut same.extBut other, hh, ox, vx, (same.2 x1 apart).trans c1, c2⟩ fun b o hb e => (same.2 b (fun z => hb (by simp [z]))).trans e
  done := fun s Q E st go => list_out_hot st.2.2 apart st.1 st.2.1 (by simp) fun h' ext => go h' s.toks fun b o hb e => ext b o (fun z => hb (by simp [z])) e
  self := fun _ _ _ _ st go => wpAny_pyIter_listiter st.1 go
theorem hot_fresh {x1 : Addr} {h : Heap} (hot : HotX.HotAt A x1 h) : x1 < h.objs.size := by
  obtain ⟨_, _, _, e, _⟩ := hot
  exact Heap.lt_size e
theorem hot_push {x1 : Addr} {h : Heap} {o : Obj} (hot : HotX.HotAt A x1 h) : HotX.HotAt A x1 (h.push o) := by
  obtain ⟨a, u, v, e, c⟩ := hot
  exact ⟨a, u, v, Heap.get?_push_of_some _ e, c⟩
theorem list_lt {l : Addr} {items : Array Value} {h : Heap} (hl : h.IsList l items) : l < h.objs.size := by
  obtain ⟨_, e, _⟩ := hl
  exact Heap.lt_size e
end
section
variable {X : Cx}
/-- sum of a list of numbers -/
theorem sum_hot (hc : L2H.HotC X) : CallR X (.builtin "sum") (rSum X.K) := by
  intro pins s σ H vs us Q I r h
  obtain ⟨a, ns, rfl, hs, q⟩ := h
  obtain ⟨its, rv, hl, _⟩ := I.list hs
  rw [Vals.ref1 r]
  obtain ⟨x1, hot⟩ := hc.at I
  obtain ⟨xs, e⟩ := rv.ints.allInts.items
  have hn : numsOf (intItems xs).toList = ns := by
    rw [← e]
    exact rv.ints.numsOf
  rw [nums_intItems] at hn
  have hl' := hl.isList
  rw [e] at hl'
  have l1 := hot_fresh hot
  have l2 := list_lt hl'
  refine PySem.call_sum_walkG (wpAny_pyIter_list hl' ?_)
  refine ⟨s.heap.objs.size, [s.heap.objs.size, a, x1], [s.heap.objs.size], _, _, _, numAt xs, rfl, walk_hot (Nat.ne_of_lt l1) (Nat.ne_of_lt l2), ⟨⟨_, Heap.get?_push_size _ rfl, rfl, rfl⟩, hl'.push _, hot_push hot⟩, fun b hb => ?_, fun _ _ => intItems_at, fun h' tk t' keep => ?_⟩
  · show b < (s.heap.push _).objs.size
    rw [Heap.size_push]
    have hb : b = s.heap.objs.size ∨ b = a ∨ b = x1 := by simpa using hb
    rcases hb with z | z | z
    · rw [z]
      exact Nat.lt_succ_self _
    · rw [z]
      exact Nat.lt_succ_of_lt l2
    · rw [z]
      exact Nat.lt_succ_of_lt l1
  · have ev : preSum (numAt xs) (intItems xs).size = ns.sum := by
      have : (intItems xs).size = xs.size := by simp [intItems]
      rw [this, preSum_eq, List.take_of_length_le (by simp), hn]
    rw [ev]
    refine ⟨.int ns.sum, H, I.kept (t' := tk) fun b o e2 => keep b o (fun z => ?_) (Heap.get?_push_of_some _ e2), ⟨_, rfl⟩, q⟩
    rw [List.mem_singleton.mp z] at e2
    exact Nat.lt_irrefl _ (Heap.lt_size e2)
/-- isinstance of the exception that is handled -/
theorem isi_hot {p : Addr × Obj} {D : Addr} (hp : p ∈ X.pn) (C : ExcC X.K D) (hz : Zc (.ref D) none p.2) (hf : ∃ vs, p.2.data = .fields vs) : CallR X (.builtin "isinstance") (rIsE X.K D p.1) := by
  intro pins s σ H xs us Q I r h
  obtain ⟨c, u, b, rfl, hu, e, q⟩ := h
  obtain ⟨u1, u2, rfl, r1, r2⟩ := vals2 r
  cases (show u1 = Value.ref p.1 from r1)
  have e2 := hu _ r2
  subst e2
  have at_ := (I.pin p (List.mem_append_left _ hp)).1
  obtain ⟨vs, hv⟩ := hf
  have J : PySem.W.InstAt s.heap p.1 p.2 D none := by
    obtain ⟨a, oc, od, oda, osl⟩ := p
    obtain ⟨h1, h2⟩ := hz
    dsimp only at h1 h2 hv at_ ⊢
    subst h1 h2 hv
    exact ⟨at_, rfl, rfl, trivial⟩
  exact PySem.W.kia_one (PySem.W.handS_kitx_exc C.hg C.hk C.hs C.hd C.ha C.hn C.ht C.hm) I.kIn J e (fun z => nomatch z) fun tk => ⟨.bl b, H, I.kept (t' := tk) fun _ _ z => z, rfl, q⟩
end
end FC
set_option Elab.async false
set_option linter.all false
set_option maxRecDepth 100000
set_option maxHeartbeats 4000000
namespace FC
open PySem PySem.Spec PyProof.Rows L2
def b01 (b : Bool) : Int := if b then 1 else 0
/-- [int(x) for x in flags], flags in slot i -/
def tInts (K : PySem.W.Frag) (i : Nat) : TE := fun σ H Q => ∃ (a : Addr) (bs : List Bool), σ[i]? = some (some (.ref a)) ∧ SqL K H a (bs.map V.bl) ∧ ∀ D, H D = Option.none → Q (.ref D) (upd H D (.lst ((bs.map b01).map V.int)))
theorem bools_of : ∀ {bs : List Bool} {us : List Value}, Vals (bs.map V.bl) us → us = bs.map Value.bool
  | [], _, .nil => rfl
  | b :: r, _, .cons h t => by
    rw [bools_of (bs := r) t]
    cases h
    rfl
section
variable {X : Cx}
theorem pe_ints_hot {i : Nat} {x y : Str} {scope : Scope} {p1 p2 p3 p4 p5 pos : Pos} (hc : L2H.HotC X) (hi : X.mg "int" = Option.none) (hN : X.N[i]? = some y) (hv : Vis X.env.scope y) (hd : (y == ("__debug__" : Str)) = false) (hcd : (y == ("__classdict__" : Str)) = false)
    (hkind : scope.kind = .function) (hcell : ∀ z ∈ scope.names, z.2 ≠ .cell) (hfree : ∀ z ∈ scope.names, z.2 ≠ .free) (hnames : ∀ z ∈ scope.names, z.2 = .local → scope.names.lookup z.1 = some .local) (hx : scope.names.lookup x = some .local) (hxd : (x == ("__debug__" : Str)) = false)
    (hint : ∀ C cl, (compEnvC scope cl C X.env).kindOf "int" = some .globalImplicit) (hxl : ∀ C cl, (compEnvC scope cl C X.env).kindOf x = some .local)
    (hst : ∀ C cl, starEach [.Name x p2] (compEnvC scope cl C X.env) = (false, eval (.Name x p2) (compEnvC scope cl C X.env)) :: starEach [] (compEnvC scope cl C X.env)) :
    PE X (.ListComp (.Call (.Name "int" p1) [.Name x p2] [] p3) [⟨.Name x p4, .Name y p5, [], 0⟩] scope pos) (tInts X.K i) := by
  refine ⟨fun pins s σ H Q I h => ?_⟩
  obtain ⟨a, bs, hs, ha, q⟩ := h
  obtain ⟨its, rv, hl, hz⟩ := I.list ha
  have eits := bools_of rv
  obtain ⟨x1, hot⟩ := hc.at I
  have l1 := hot_fresh hot
  have l2 := list_lt hl.isList
  have noF : ∀ z ∈ scope.names, z.2 = .free → ∃ c, X.env.cells.lookup z.1 = some c := fun z hz e => absurd e (hfree z hz)
  obtain ⟨mb, hb1, hb2⟩ := I.mod.blt
  refine wpAny_ListComp_free (fun _ => true) (fun v u => ∃ b t, v = Value.bool b ∧ u = Value.int (b01 b) t) (closure_ok noF) hcell hkind hnames hx ?_
  refine thn ((pe_var (pos := p5) hN hv hd hcd).run pins s σ H (fun v H1 => v = .ref a ∧ H1 = H) I ⟨.ref a, hs, rfl, rfl⟩) fun u s1 ⟨v, H1, I1, r1, e1, e2⟩ => ?_
  subst e1 e2
  obtain rfl : u = Value.ref a := r1
  obtain ⟨its1, rv1, hl1, _⟩ := I1.list ha
  have eits1 := bools_of rv1
  obtain ⟨x2, hot1⟩ := hc.at I1
  have l3 := hot_fresh hot1
  have l4 := list_lt hl1.isList
  refine wpAny_pyIter_list hl1.isList ?_
  refine ⟨s1.heap.objs.size, [s1.heap.objs.size, a, x2], [s1.heap.objs.size], _, _, _, rfl, walk_hot (Nat.ne_of_lt l3) (Nat.ne_of_lt l4), ?_, ⟨⟨_, Heap.get?_push_size _ rfl, rfl, rfl⟩, hl1.isList.push _, hot_push hot1⟩, fun b hb => ?_, ⟨?_, ?_⟩, ?_⟩
  · have := rv1.length
    simp only [List.size_toArray]
    omega
  · show b < (s1.heap.push _).objs.size
    rw [Heap.size_push]
    have hb : b = s1.heap.objs.size ∨ b = a ∨ b = x2 := by simpa using hb
    rcases hb with z | z | z
    · rw [z]
      exact Nat.lt_succ_self _
    · rw [z]
      exact Nat.lt_succ_of_lt l4
    · rw [z]
      exact Nat.lt_succ_of_lt l3
  · intro C j v s3 m3 E' _ _ _ _ _ _
    exact wpAny_tests_nil ⟨rfl, s3.heap, s3.toks, rfl, fun _ _ e => e⟩
  · intro C j v s3 m3 E' hC hj _ hn hm keep tk
    have kb : ∀ b o, X.base.get? b = some o → s3.heap.get? b = some o := fun b o e => keep b o (fun z => by
      have := Heap.lt_size (I1.bk b o e)
      rw [List.mem_singleton.mp z] at this
      exact Nat.lt_irrefl _ this) (Heap.get?_push_of_some _ (I1.bk b o e))
    obtain ⟨b, rfl⟩ : ∃ b, v = Value.bool b := by
      rw [eits1] at hj
      simp only [List.getElem?_toArray, List.getElem?_map] at hj
      cases e : bs[j]? with
      | none =>
        rw [e] at hj
        cases hj
      | some b =>
        rw [e] at hj
        exact ⟨b, (Option.some.inj hj).symm⟩
    have hk : (compEnvC scope (cloFrom X.env.cells scope.names []) C X.env).scope.kind = .function := hkind
    refine wpAny_Call_Name_kw (Calls.Name_function_global hk (hint C _) (Calls.loadGlobal_builtin (by show s3.heap.Ns X.env.globals X.mg; rw [I1.ok.glob]; exact I1.mod.glob.keeps kb) hi (by show s3.heap.Ns X.env.builtins mb; rw [I1.ok.blt]; exact hb1.keeps kb) ((hb2 "int" (by decide)).trans (show bootBuiltins "int" = some (.type "int") by decide +kernel)) ?_))
    refine PyProof.Rows.callWith_type1 (Calls.spliced_cons (wpAny_Name (wpAny_loadName_local hk (hxl C _) hn hm ?_) hxd)) (hst C _) (by rfl)
    refine Calls.spliced_nil (call_int_bool ⟨⟨b, _, rfl, rfl⟩, s3.heap, s3.toks + 1, rfl, fun _ _ e => e⟩)
  · intro D h' tk ys vs hD _ hp hlen hP hF keep
    have evs : vs = bs.map Value.bool := by
      rw [← eits1]
      refine List.ext_getElem? fun j => ?_
      by_cases hj : j < vs.length
      · have e1 : vs[j]? = some vs[j] := List.getElem?_eq_getElem hj
        have e2 := hP j _ e1
        rw [e1]
        simpa using e2.symm
      · rw [List.getElem?_eq_none (by omega), List.getElem?_eq_none (by simpa [hlen] using hj)]
    have hF' : Paired (fun v u => ∃ b t, v = Value.bool b ∧ u = Value.int (b01 b) t) vs ys.toList := by
      have e : vs.filter (fun _ => true) = vs := List.filter_eq_self.mpr fun _ _ => rfl
      rw [← e]
      exact hF
    rw [evs] at hF'
    have rvals : Vals ((bs.map b01).map V.int) ys.toList := by
      have all : ∀ (bs : List Bool) (us : List Value), Paired (fun v u => ∃ b t, v = Value.bool b ∧ u = Value.int (b01 b) t) (bs.map Value.bool) us → Vals ((bs.map b01).map V.int) us := by
        intro bs
        induction bs with
        | nil =>
          intro us h
          cases h
          exact .nil
        | cons b r ih =>
          intro us h
          cases h with
          | cons h t =>
            obtain ⟨b', t', e1, e2⟩ := h
            cases e1
            rw [e2]
            exact .cons ⟨_, rfl⟩ (ih _ t)
      exact all bs _ hF'
    obtain ⟨n, hp⟩ := hp
    have kk : ∀ b o, s1.heap.get? b = some o → h'.get? b = some o := fun b o e => keep b o (fun z => by
      have := Heap.lt_size e
      rw [List.mem_singleton.mp z] at this
      exact Nat.lt_irrefl _ this) (Heap.get?_push_of_some _ e)
    have hD1 : s1.heap.get? D = Option.none := by
      cases e : s1.heap.get? D with
      | none => rfl
      | some o =>
        have := Heap.get?_push_of_some (h := s1.heap) { cls := .type "list_iterator", data := .fields #[.ref a, .int 0 0] } e
        have h2 : (s1.heap.push { cls := .type "list_iterator", data := .fields #[.ref a, .int 0 0] }).get? D = Option.none := hD
        rw [h2] at this
        cases this
    have hDn : H1 D = Option.none := I1.hok.gone hD1
    have I2 : Inv X pins σ (upd H1 D (.lst ((bs.map b01).map V.int))) { s1 with heap := h', toks := tk } := by
      refine I1.laidN (t' := tk) kk hD1 hDn ⟨?_, ys.toList, n, rvals, ?_⟩
      · have := rv1.length
        rw [List.length_map, List.length_map]
        rw [List.length_map] at this hz
        omega
      · simpa using hp
    exact ⟨.ref D, _, I2, rfl, q D hDn⟩
end
end FC
set_option Elab.async false
set_option linter.all false
set_option maxRecDepth 100000
set_option maxHeartbeats 4000000
/-! A def that is called within an except suite and is told of the exception that is handled. -/
namespace FC
open PySem PySem.Spec PyProof.Rows L2
structure FnP (P : Program) (w : World) (K : PySem.W.Frag) (mg : Str → Option Value) (base : Heap) (k : Nat) (f : Addr) (fd : FuncData) (ps : List Str) (sp : Addr × Obj → Sp) : Prop where
  len : ∀ p vs H Q E, sp p vs H Q E → vs.length = ps.length
  run : ∀ (p : Addr × Obj) (A : Around) (out : List Env) (s : Shared) (H : Hp) (args : Args) (us : List Value) (vs : List V) (Q : VK) (E : XK), L2H.RoomH k A → L2H.Hot1 A p → L2H.PinOk out H s p → Env0 P w K mg base A out s H →
    BindsTo s fd args (ps.zip us) → Vals vs us → sp p vs H Q E → codeAny (model P w) A (.call (.ref f) args) (CR CX0 out P w H s Q E) s
theorem okP {P : Program} {w : World} {K : PySem.W.Frag} {mg : Str → Option Value} {base : Heap} {x : Str} {st : Stmt} {f : Addr} {fd : FuncData} {N ps : List Str} {k : Nat} {sp : Addr × Obj → Sp} (F : Fun K x x st f fd) (S : FnScope N ps (defScope st))
    (len : ∀ p vs H Q E, sp p vs H Q E → vs.length = ps.length)
    (body : ∀ (c : Value) (p : Addr × Obj) (A : Around) (out : List Env) (s : Shared) (H : Hp) (vs : List V) (Q : VK) (E : XK), L2H.Hot1 A p → L2H.RoomH k (A.deeper (envOfC x (defScope st) s.heap.objs.size f c)) → sp p vs H Q E →
      ∃ t, PSs (L2H.cxH CX0 P w K mg base N x (defScope st) f c A out s H E p) (defBody st) t ∧ t { nx := fun _ H' => Q .non H', rt := Q } (L2.start N vs) H) : FnP P w K mg base (k + 1) f fd ps sp := by
  obtain ⟨oc, od, kV, doc, pm, an, c, ct, osl, rfl, lk, code⟩ := F.ex
  refine ⟨len, fun p A out s H args us vs Q E room hot pin e0 bind rel told => ?_⟩
  have old : ∀ b o, base.get? b = some o → s.heap.get? b = some o := fun b o e => (e0.bs b o e).1
  have KX : K.In s.heap := e0.mod.kin.keeps old
  have kinds : ∀ y ∈ ps.zip us, (defScope st).names.lookup y.1 = some .local ∨ ((defScope st).names.lookup y.1 = some .cell ∧ ((cellsFrom (s.heap.objs.size + 1) (defScope st).names []).lookup y.1).isSome = true) := by
    rintro ⟨n, u⟩ hy
    exact (S.par n (List.of_mem_zip hy).1).elim .inl fun q => .inr ⟨q, PySem.W.cellsFrom_some _ _ _ (.inl q)⟩
  refine codeAny_call_function room.depth (KX _ _ lk) rfl S.co S.gen rfl (PySem.W.codeRec_of KX code) (bind _ _ _ _ (wpAny_newFunctionEnv_cells S.kind kinds fun env he s1 x => ?_))
  subst he
  refine ⟨(e0.mod.nolimit.keeps old).keeps x.toInCall.keep, codeAny_func ?_⟩
  obtain ⟨t, run, told'⟩ := body c p A out s H vs Q E hot (room.deeper _) told
  have I := L2H.inv_startH (CX := CX0) (E := E) S pin e0 (len _ _ _ _ _ told) rel x
  refine wpAny_mono (run.run [] s1 (L2.start N vs) H _ I told') (fun fl s' hs => ?_) fun _ _ hs => hs
  cases fl with
  | ret u =>
    obtain ⟨v, σ', H', J, rv, q⟩ := hs
    exact ⟨v, H', J.os, J.bare, J.base, J.hok, rv, q⟩
  | next =>
    obtain ⟨σ', H', J, q⟩ := hs
    exact ⟨V.non, H', J.os, J.bare, J.base, J.hok, rfl, q⟩
  | brk =>
    obtain ⟨_, _, _, q⟩ := hs
    exact q.elim
  | cont =>
    obtain ⟨_, _, _, q⟩ := hs
    exact q.elim
section
variable {X : Cx} {k : Nat} {f : Addr} {fd : FuncData} {ps : List Str} {sp : Addr × Obj → Sp} {x : Str} {e : Expr} {es : List Expr} {t : TA} {q pos : Pos} {p : Addr × Obj}
theorem pe_callP (F : FnP X.prog X.w X.K X.mg X.base k f fd ps sp) (hr : L2H.RoomH k X.A) (hot : L2H.Hot1 X.A p) (hp : p ∈ X.pn) (hg : Gl X x) (hm : X.mg x = some (.ref f)) (hk : PySem.W.keepIn X.K (.ref f) = true) (hb : Binds X.K fd ps []) (ha : PA X (e :: es) t)
    (hd : (x == ("__debug__" : Str)) = false := by decide) (he : starEach (e :: es) X.env = (false, eval e X.env) :: starEach es X.env := by rfl) (hpl : (backTo pos (starEach es X.env)).any (·.1) = false := by rfl) :
    PE X (.Call (.Name x q) (e :: es) [] pos) (tCal (sp p) E0 t) := by
  refine ⟨fun pins s σ H Q I told => wpAny_Call_Name_kw (ld_glob I hg hm ?_ hd)⟩
  refine PySem.W.callWith_K (h₀ := X.base) I.ok.mod.kin hk (thn (ha.run pos pins s σ H _ I told) fun us s1 hh => ?_) he hpl
  obtain ⟨vs, H1, I1, rel, told1⟩ := hh
  refine ⟨I1.kIn, ?_⟩
  have bind := hb s1 us I1.kIn (by rw [List.append_nil, ← rel.length]; exact F.len _ _ _ _ _ told1)
  rw [List.append_nil] at bind
  obtain ⟨a1, a2, a3, a4, a5⟩ := I1.pin p (List.mem_append_left _ hp)
  have pin : L2H.PinOk X.stack H1 s1 p := ⟨a1, a2, fun z => (List.mem_cons.mp (I1.stkSub p.1 z)).elim a3 a4, a5⟩
  refine wpAny_call (codeAny_mono (F.run p X.A X.stack s1 H1 ⟨us, []⟩ us vs Q E0 hr hot pin I1.env0 bind rel told1) fun r s' hq => ?_)
  cases r with
  | error e => exact (show False from hq).elim
  | ok fl =>
    cases fl with
    | ret u => exact I1.after hq
    | next => exact False.elim hq
    | brk => exact False.elim hq
    | cont => exact False.elim hq
end
end FC
set_option Elab.async false
set_option linter.all false
set_option maxRecDepth 100000
set_option maxHeartbeats 4000000
namespace FC
open PySem L2
def termNames : List Str := ["InvalidChain", "InvalidRow", "InvalidNumber", "InvalidText", "TooMany", "NothingToUndo"]
/-- the six classes stand at c0 .. c5 -/
structure SixT (mg : Str → Option Value) (c0 c1 c2 c3 c4 c5 : Addr) : Prop where
  g0 : mg "InvalidChain" = some (.ref c0)
  g1 : mg "InvalidRow" = some (.ref c1)
  g2 : mg "InvalidNumber" = some (.ref c2)
  g3 : mg "InvalidText" = some (.ref c3)
  g4 : mg "TooMany" = some (.ref c4)
  g5 : mg "NothingToUndo" = some (.ref c5)
/-- D is the i-th of them -/
structure OneT (K : PySem.W.Frag) (D : Addr) (i : Nat) (c0 c1 c2 c3 c4 c5 : Addr) : Prop where
  lt : i < 6
  ex : ExcC K D
  k0 : PySem.W.kitOne K (.ref D) (.ref c0) = some (decide (0 = i))
  k1 : PySem.W.kitOne K (.ref D) (.ref c1) = some (decide (1 = i))
  k2 : PySem.W.kitOne K (.ref D) (.ref c2) = some (decide (2 = i))
  k3 : PySem.W.kitOne K (.ref D) (.ref c3) = some (decide (3 = i))
  k4 : PySem.W.kitOne K (.ref D) (.ref c4) = some (decide (4 = i))
  k5 : PySem.W.kitOne K (.ref D) (.ref c5) = some (decide (5 = i))
  kv : PySem.W.kitOne K (.ref D) (.type "ValueError") = some true
def spTerm (K : PySem.W.Frag) (c0 c1 c2 c3 c4 c5 : Addr) : Addr × Obj → Sp := fun p vs H Q _ => ∃ (D : Addr) (i : Nat) (z : Str), vs = [.ref p.1] ∧ Zc (.ref D) none p.2 ∧ (∃ us, p.2.data = .fields us) ∧ OneT K D i c0 c1 c2 c3 c4 c5 ∧ termNames[i]? = some z ∧
  ∀ t H', Same H H' → H' t = some (.tup [.str "error", .str z]) → Q (.ref t) H'
section
variable {P : Program} {w : World} {K : PySem.W.Frag} {mg : Str → Option Value} {base : Heap} {c0 c1 c2 c3 c4 c5 : Addr}
theorem scTerm : FnScope ["_law_e", "_law_flags", "_law_kinds"] ["_law_e"] (defScope sTerm) := ⟨rfl, rfl, rfl, by decide +kernel, rfl, by decide +kernel, by decide +kernel⟩
theorem ok_term {f : Addr} {fd : FuncData} (F : Fun K "_law_term" "_law_term" sTerm f fd) (T : Blt mg) (G : SixT mg c0 c1 c2 c3 c4 c5) : FnP P w K mg base 1 f fd ["_law_e"] (spTerm K c0 c1 c2 c3 c4 c5) := by
  refine okP F scTerm (fun p vs H Q E h => ?_) (fun cdv p A outer s H vs Q E hot hr h => ?_)
  · obtain ⟨_, _, _, rfl, _⟩ := h
    rfl
  · obtain ⟨D, i, z, rfl, hz, hf, O, hzi, k⟩ := h
    have nd := scTerm.nd
    have hc : L2H.HotC (L2H.cxH CX0 P w K mg base ["_law_e", "_law_flags", "_law_kinds"] "_law_term" (defScope sTerm) f cdv A outer s H E p) := ⟨p, hot, List.mem_cons_self⟩
    have hI := isi_hot (X := L2H.cxH CX0 P w K mg base ["_law_e", "_law_flags", "_law_kinds"] "_law_term" (defScope sTerm) f cdv A outer s H E p) (p := p) (D := D) List.mem_cons_self O.ex hz hf
    refine ⟨_, pss_cons (ps_set (i := 1) nd rfl (Or.inl rfl) (pe_lst (pa_cons (pe_callB hI (by rfl) T.isi (by decide +kernel) (pa_cons (pv 0) (pa_cons (pe_glob (v := .ref c0) rfl G.g0 rfl) pa_nil)))
          (pa_cons (pe_callB hI (by rfl) T.isi (by decide +kernel) (pa_cons (pv 0) (pa_cons (pe_glob (v := .ref c1) rfl G.g1 rfl) pa_nil))) (pa_cons (pe_callB hI (by rfl) T.isi (by decide +kernel) (pa_cons (pv 0) (pa_cons (pe_glob (v := .ref c2) rfl G.g2 rfl) pa_nil))) pa_nil)))))
      (pss_cons (ps_set (i := 1) nd rfl (Or.inl rfl) (pe_op op_cat (pv 1) (pe_lst (pa_cons (pe_callB hI (by rfl) T.isi (by decide +kernel) (pa_cons (pv 0) (pa_cons (pe_glob (v := .ref c3) rfl G.g3 rfl) pa_nil)))
          (pa_cons (pe_callB hI (by rfl) T.isi (by decide +kernel) (pa_cons (pv 0) (pa_cons (pe_glob (v := .ref c4) rfl G.g4 rfl) pa_nil))) (pa_cons (pe_callB hI (by rfl) T.isi (by decide +kernel) (pa_cons (pv 0) (pa_cons (pe_glob (v := .ref c5) rfl G.g5 rfl) pa_nil))) pa_nil))))))
      (pss_cons (ps_set (i := 2) nd rfl (Or.inl rfl) (pe_lst (pa_cons pe_str (pa_cons pe_str (pa_cons pe_str (pa_cons pe_str (pa_cons pe_str (pa_cons pe_str pa_nil))))))))
      (pss_cons (ps_if (PW.pt (pw_or (pt_cmpR op_ne (pe_callB (sum_hot hc) (by rfl) T.sum (by decide +kernel) (pa_cons (pe_ints_hot (i := 1) hc T.int rfl (Or.inl rfl) (by decide) (by decide) rfl (by decide +kernel) (by decide +kernel) (by decide +kernel) (by decide +kernel) (by decide)
            (fun _ _ => by rfl) (fun _ _ => by rfl) (fun _ _ => by rfl)) pa_nil)) pe_int (nomark _))
          (pw_or1 (pt_not (pt_val (pe_callB hI (by rfl) T.isi (by decide +kernel) (pa_cons (pv 0) (pa_cons (pe_bltn (v := .ty "ValueError") (by rfl) T.vErr (by decide +kernel) rfl) pa_nil)))))))) (pss_one (ps_ret (pe_tup (pa_cons pe_str (pa_cons pe_str pa_nil))))) pss_nil)
      (pss_one (ps_ret (pe_tup (pa_cons pe_str (pa_cons (pe_ix ix_list (pv 2) (pe_bm PySem.F.plainAttrs_list PySem.F.slot_list_index PySem.F.type_list_index mt_index (pv 1) (pa_cons pe_bl pa_nil)) (fun _ _ => rfl)) pa_nil)))))))), ?_⟩
    have two : ∀ n : Nat, n ≤ 10 → n ≤ sizeLine := fun n h => Nat.le_trans h (by decide)
    have one : ∀ {a : Addr} {u : Value}, RelV (.ref a) u → u = .ref a := fun h => h
    refine ⟨_, rfl, _, _, _, rfl, fun u h => h, O.k0, _, rfl, _, _, _, rfl, fun u h => h, O.k1, _, rfl, _, _, _, rfl, fun u h => h, O.k2, two 3 (by decide), fun a na => ?_⟩
    have s1 := same_upd (o := .lst [.bl (decide (0 = i)), .bl (decide (1 = i)), .bl (decide (2 = i))]) (Same.refl H) na
    have ha : upd H a (.lst [.bl (decide (0 = i)), .bl (decide (1 = i)), .bl (decide (2 = i))]) a = some (.lst [.bl (decide (0 = i)), .bl (decide (1 = i)), .bl (decide (2 = i))]) := upd_same
    refine ⟨_, rfl, _, rfl, _, _, _, rfl, fun u h => h, O.k3, _, rfl, _, _, _, rfl, fun u h => h, O.k4, _, rfl, _, _, _, rfl, fun u h => h, O.k5, two 3 (by decide), fun b nb => ?_⟩
    have s2 := same_upd (o := .lst [.bl (decide (3 = i)), .bl (decide (4 = i)), .bl (decide (5 = i))]) s1 nb
    refine ⟨a, b, _, _, rfl, rfl, (upd_ne (ne_of_none ha nb)).trans ha, upd_same, two 6 (by decide), fun c nc => ?_⟩
    have s3 := same_upd (o := .lst ([0, 1, 2, 3, 4, 5].map fun j => V.bl (decide (j = i)))) s2 nc
    have hc3 : upd (upd (upd H a (.lst [.bl (decide (0 = i)), .bl (decide (1 = i)), .bl (decide (2 = i))])) b (.lst [.bl (decide (3 = i)), .bl (decide (4 = i)), .bl (decide (5 = i))])) c (.lst ([0, 1, 2, 3, 4, 5].map fun j => V.bl (decide (j = i)))) c = some (.lst ([0, 1, 2, 3, 4, 5].map fun j => V.bl (decide (j = i)))) := upd_same
    refine ⟨two 6 (by decide), fun d nd' => ?_⟩
    have s4 := same_upd (o := .lst (termNames.map V.str)) s3 nd'
    have hc4 : upd (upd (upd (upd H a (.lst [.bl (decide (0 = i)), .bl (decide (1 = i)), .bl (decide (2 = i))])) b (.lst [.bl (decide (3 = i)), .bl (decide (4 = i)), .bl (decide (5 = i))])) c (.lst ([0, 1, 2, 3, 4, 5].map fun j => V.bl (decide (j = i))))) d (.lst (termNames.map V.str)) c = some (.lst (([0, 1, 2, 3, 4, 5].map fun j => decide (j = i)).map V.bl)) := (upd_ne (ne_of_none hc3 nd')).trans hc3
    have hd4 : upd (upd (upd (upd H a (.lst [.bl (decide (0 = i)), .bl (decide (1 = i)), .bl (decide (2 = i))])) b (.lst [.bl (decide (3 = i)), .bl (decide (4 = i)), .bl (decide (5 = i))])) c (.lst ([0, 1, 2, 3, 4, 5].map fun j => V.bl (decide (j = i))))) d (.lst (termNames.map V.str)) d = some (.lst (termNames.map V.str)) := upd_same
    show tSeq _ _ _ _ (upd (upd (upd (upd H a (.lst [.bl (decide (0 = i)), .bl (decide (1 = i)), .bl (decide (2 = i))])) b (.lst [.bl (decide (3 = i)), .bl (decide (4 = i)), .bl (decide (5 = i))])) c (.lst ([0, 1, 2, 3, 4, 5].map fun j => V.bl (decide (j = i))))) d (.lst (termNames.map V.str)))
    generalize upd (upd (upd (upd H a (.lst [.bl (decide (0 = i)), .bl (decide (1 = i)), .bl (decide (2 = i))])) b (.lst [.bl (decide (3 = i)), .bl (decide (4 = i)), .bl (decide (5 = i))])) c (.lst ([0, 1, 2, 3, 4, 5].map fun j => V.bl (decide (j = i))))) d (.lst (termNames.map V.str)) = H4 at s4 hc4 hd4 ⊢
    clear s1 s2 s3 hc3 ha
    -- the sum is 1
    refine ⟨c, _, rfl, SqL.of hc4, fun e ne => ?_⟩
    have s5 := same_upd (o := .lst ((([0, 1, 2, 3, 4, 5].map fun j => decide (j = i)).map b01).map V.int)) s4 ne
    have hc5 : upd H4 e (.lst ((([0, 1, 2, 3, 4, 5].map fun j => decide (j = i)).map b01).map V.int)) c = some (.lst (([0, 1, 2, 3, 4, 5].map fun j => decide (j = i)).map V.bl)) := (upd_ne (ne_of_none hc4 ne)).trans hc4
    have hd5 : upd H4 e (.lst ((([0, 1, 2, 3, 4, 5].map fun j => decide (j = i)).map b01).map V.int)) d = some (.lst (termNames.map V.str)) := (upd_ne (ne_of_none hd4 ne)).trans hd4
    have hsum : (([0, 1, 2, 3, 4, 5].map fun j => decide (j = i)).map b01).sum = 1 := by
      have hi := O.lt
      have all : ∀ i < 6, (([0, 1, 2, 3, 4, 5].map fun j => decide (j = i)).map b01).sum = 1 := by decide
      exact all i hi
    refine ⟨e, _, rfl, SqL.of upd_same, ?_⟩
    rw [hsum]
    refine ⟨rfl, _, rfl, iteF ?_⟩
    refine ⟨_, rfl, _, _, _, rfl, fun u h => h, O.kv, _, rfl, iteF ?_⟩
    -- the name
    have hl := O.lt
    have hidx : ([0, 1, 2, 3, 4, 5].map fun j => decide (j = i))[i]? = some true := by
      have all : ∀ i < 6, ([0, 1, 2, 3, 4, 5].map fun j => decide (j = i))[i]? = some true := by decide
      exact all i hl
    have hbef : ∀ m, m < i → ∀ b, ([0, 1, 2, 3, 4, 5].map fun j => decide (j = i))[m]? = some b → b = false := by
      have all : ∀ i < 6, ∀ m < i, ([0, 1, 2, 3, 4, 5].map fun j => decide (j = i))[m]? = some false := by decide
      intro m hm b hb
      rw [all i hl m hm] at hb
      exact (Option.some.inj hb).symm
    refine ⟨_, rfl, _, rfl, .inl ⟨rfl, _, SqL.of hc5⟩, c, _, .bl true, i, .bl true, rfl, rfl, SqL.of hc5, rfl, ?_, ?_, rfl, ?_, ?_⟩
    · simp [flatV]
    · rw [List.getElem?_map, hidx]
      rfl
    · intro m z' hm hz'
      rw [List.getElem?_map] at hz'
      cases e1 : ([0, 1, 2, 3, 4, 5].map fun j => decide (j = i))[m]? with
      | none =>
        rw [e1] at hz'
        cases hz'
      | some b =>
        rw [e1] at hz'
        have e2 := hbef m hm b e1
        have e3 : V.bl b = z' := Option.some.inj hz'
        rw [← e3, e2]
        rfl
    · have hz2 : (termNames.map V.str)[i]? = some (.str z) := by rw [List.getElem?_map, hzi]; rfl
      refine ⟨d, _, _, _, rfl, rfl, SqL.of hd5, atI_nat hz2, two 2 (by decide), fun t nt => ?_⟩
      exact k t _ (same_upd s5 nt) upd_same
end
end FC
set_option Elab.async false
set_option linter.all false
set_option maxRecDepth 100000
set_option maxHeartbeats 1000000
/-! _law_told(lambda: ..): the lambda's exceptions bear no context. -/
namespace FC
open PySem PySem.Spec PyProof.Rows L2
/-- another wish of what leaves the code -/
theorem inv_xe {X : Cx} {pins : List (Addr × Obj)} {σ : L2.St} {H : Hp} {s : Shared} {xe : Value → Shared → Prop} (I : Inv X pins σ H s) : Inv { X with xe := xe } pins σ H s :=
  ⟨⟨I.ok.mod, I.ok.kind, I.ok.glob, I.ok.blt, I.ok.above, I.ok.inj, I.ok.has, I.ok.cab, I.ok.hd, I.ok.frames, I.ok.stk, I.ok.exf, I.ok.bs, I.ok.bsz, I.ok.noex, I.ok.exfs, I.ok.funs, I.ok.frf⟩,
    I.os, I.bare, I.base, I.loc, I.cell, I.free, I.freeC, I.pin, I.hok, I.len⟩
/-- the lambda's body, entered at s from the frames out -/
def lamN (X : Cx) (A : Around) (out : List Env) (s : Shared) (H : Hp) (E : XK) (scope : Scope) (f c : Addr) : Cx :=
  { LamX.lamCx X A out s H E scope f c with
    xe := fun e s1 => wpAny (model X.prog X.w) (A.deeper (LamX.lamEnv X scope s.heap.objs.size f c)) (leaving (LamX.lamEnv X scope s.heap.objs.size f c) e) (fun _ s2 => L2N.CX X.prog X.w out H s E e s2) (fun e2 s2 => L2N.CX X.prog X.w out H s E e2 s2) s1 }
section
variable {X : Cx} {pins : List (Addr × Obj)} {σ : L2.St} {H : Hp} {s : Shared}
/-- the lambda at f is called while the frame env runs above X's -/
theorem lam_run {env : Env} {A : Around} {f c : Addr} {pm ctv : Value} {params : Arguments} {body : Expr} {scope : Scope} {k : Nat} {E : XK} {tb : TE} {s1 : Shared} {HZ : Hp} {Q : VK} (I : Inv X pins σ H s) (L : LamX.LamS X.env.scope scope)
    (here : s1.heap.get? f = some (PySem.W.kla_obj "<lambda>" (X.env.qual ++ "<lambda>") params body scope (cloFrom X.env.cells scope.names []) pm c ctv))
    (bind : bindArgs (PySem.W.kla_fn "<lambda>" (X.env.qual ++ "<lambda>") params body scope (cloFrom X.env.cells scope.names []) pm (.ref c) ctv) ⟨[], []⟩ = pure []) (e1 : Env0 X.prog X.w X.K X.mg X.base A (env :: X.stack) s1 HZ) (lim : s1.heap.NoLimit)
    (un : Un (frs X.stack) [] H HZ s.heap s1.heap) (hr : Room (k + 1) A) (hc : HZ c = some (LamX.CodeO c (X.env.qual ++ "<lambda>")))
    (hbody : ∀ (A : Around) (out : List Env) (s : Shared) (H : Hp), Room k (A.deeper (LamX.lamEnv X scope s.heap.objs.size f c)) → PE (lamN X A out s H E scope f c) body tb) (told : tb σ HZ Q) :
    codeAny (model X.prog X.w) A (.call (.ref f) ⟨[], []⟩) (CR (L2N.CX X.prog X.w) (env :: X.stack) X.prog X.w HZ s1 Q E) s1 := by
  obtain ⟨⟨oc, vs, t, o1, o2, o3⟩, _, _⟩ := e1.hok c _ hc
  refine PySem.W.kla_callFunE hr.depth here rfl L.co L.gen rfl ⟨c, oc, vs, t, rfl, o1, o2, o3⟩ ?_
  rw [bind]
  refine wpAny_pure (wpAny_newFunctionEnv (fun y hy => (L.own y hy).2) (fun y hy => absurd hy (by simp)) (fun h1 ns ext => ⟨lim.fresh _ ext, ?_⟩) L.kind)
  have kp : ∀ b o, s1.heap.get? b = some o → h1.get? b = some o := fun b o e => ext.extBut b o (Nat.ne_of_lt (Heap.lt_size e)) (Heap.get?_push_of_some _ e)
  have J := inv_xe (xe := (lamN X A (env :: X.stack) s1 HZ E scope f c).xe) (LamX.lam_start2 (tk := s1.toks + ([] : List (Str × Value)).length) (E := E) (f := f) (c' := c) I L e1 hr.hd un ns kp)
  refine PySem.W.kla_codeExpr (wpAny_mono ((hbody A (env :: X.stack) s1 HZ (hr.deeper _)).run [] _ _ HZ Q J told) (fun v s2 hq => ?_) fun _ _ hq => hq)
  obtain ⟨u, H', J', rv, q⟩ := hq
  exact ⟨u, H', J'.os, J'.bare, J'.base, J'.hok, rv, q⟩
end
theorem takes0N {X : Cx} : L2N.Takes X (fun _ _ _ _ => False) := fun _ _ h => by
  obtain ⟨_, _, _, _, _, _, _, _, _, _, _, _, _, _, _, _, z⟩ := h
  exact z.elim
theorem scTold : FnScope ["_law_deed", "_law_e"] ["_law_deed"] (defScope sTold) := ⟨rfl, rfl, rfl, by decide +kernel, rfl, by decide +kernel, by decide +kernel⟩
/-- what is wanted of an exception of the lambda: its name is told -/
def wishE (K : PySem.W.Frag) (CE c0 c1 c2 c3 c4 c5 : Addr) (Q : VK) : XK := fun cls d H => ∃ (D : Addr) (i : Nat) (z : Str), cls = .ref D ∧ d = Option.none ∧ PySem.W.exmOne K (.ref D) (.ref CE) = some true ∧ OneT K D i c0 c1 c2 c3 c4 c5 ∧ termNames[i]? = some z ∧
  ∀ t H', Same H H' → H' t = some (.tup [.str "error", .str z]) → Q (.ref t) H'
/-- _law_told(lambda: body), body's reading t -/
def tTold (K : PySem.W.Frag) (T : List (Addr × Str)) (CE c0 c1 c2 c3 c4 c5 : Addr) (t : XK → TE) : TE := fun σ H Q => LamX.Tabs T H ∧ ∀ H1, LamX.ExtN H H1 → LamX.Tabs T H1 → t (wishE K CE c0 c1 c2 c3 c4 c5 Q) σ H1 Q
section
variable {X : Cx}
theorem pe_told {T : List (Addr × Str)} {g c P f2 CE c0 c1 c2 c3 c4 c5 : Addr} {fdg fd2 : FuncData} {k : Nat} {params : Arguments} {body : Expr} {scope : Scope} {t : XK → TE} {p lpos pos : Pos}
    (Fg : Fun X.K "_law_told" "_law_told" sTold g fdg) (bg : Binds X.K fdg ["_law_deed"] []) (mg : X.mg "_law_told" = some (.ref g)) (hg : Gl X "_law_told")
    (F2 : FnP X.prog X.w X.K X.mg X.base 1 f2 fd2 ["_law_e"] (spTerm X.K c0 c1 c2 c3 c4 c5)) (m2 : X.mg "_law_term" = some (.ref f2)) (k2 : PySem.W.keepIn X.K (.ref f2) = true) (b2 : Binds X.K fd2 ["_law_e"] []) (mE : X.mg "ChainError" = some (.ref CE))
    (TB : LamX.TabB X.base X.mg c P) (hcode : X.env.code = .ref c) (hmT : (P, X.env.qual ++ "<lambda>") ∈ T) (hu : ∀ p ∈ T, p.1 = P → p.2 = X.env.qual ++ "<lambda>") (hr : Room (k + 3) X.A) (L : LamX.LamS X.env.scope scope) (hdef : defaultsOf params X.env = ([], []))
    (bind : ∀ (q : Str) (cl : List (Str × Addr)) (pm cv ctv : Value), bindArgs (PySem.W.kla_fn "<lambda>" q params body scope cl pm cv ctv) ⟨[], []⟩ = pure [])
    (hbody : ∀ (A : Around) (out : List Env) (s : Shared) (H : Hp) (E : XK) (f c : Addr), Room (k + 1) (A.deeper (LamX.lamEnv X scope s.heap.objs.size f c)) → PE (lamN X A out s H E scope f c) body (t E)) :
    PE X (.Call (.Name "_law_told" p) [.Lambda params body scope lpos] [] pos) (tTold X.K T CE c0 c1 c2 c3 c4 c5 t) := by
  refine ⟨fun pins s σ H Q I h => ?_⟩
  obtain ⟨hT, h⟩ := h
  refine wpAny_Call_Name_kw (ld_glob I hg mg ?_ (by decide))
  refine PySem.W.callWith_K (h₀ := X.base) I.ok.mod.kin Fg.kp ?_ (by rfl) (by rfl)
  show wpAny _ _ (spliced ((false, eval (.Lambda params body scope lpos) X.env) :: backTo pos (starEach [] X.env))) _ _ s
  refine Calls.spliced_cons (LamX.lam_make2 I TB hcode hmT hu hT hdef (L.has I.ok) fun f c' pm' ctv H1 s1 I1 eN T1 hf hfn hfr hco => ?_)
  refine Calls.spliced_nil ⟨I1.kIn, ?_⟩
  have told := h H1 eN T1
  obtain ⟨oc, od, kV, doc, pm, an, cdv, ct, osl, rfl, lk, hcd⟩ := Fg.ex
  have rc : codeAny (model X.prog X.w) X.A (.call (.ref g) ⟨[.ref f], []⟩) (CR CX0 X.stack X.prog X.w H1 s1 Q E0) s1 := by
    refine LamX.run_ofS (N := ["_law_deed", "_law_e"]) (ps := ["_law_deed"]) (us := [.ref f]) (vs := [.ref f]) (CX := CX0) lk hcd scTold hr I1.env0 (bg s1 [.ref f] I1.kIn rfl) (.cons rfl .nil) rfl fun hr' => ?_
    have nd := scTold.nd
    -- deed()
    have act : ∀ (W : WX) (pn : List (Addr × Obj)) (xe : Value → Shared → Prop) (p1 p2 : Pos), L2N.Takes ((cxOf CX0 X.prog X.w X.K X.mg X.base ["_law_deed", "_law_e"] "_law_told" (defScope sTold) g cdv X.A X.stack s1 H1 E0).tr pn xe) W → (∀ cls d σ' H', wishE X.K CE c0 c1 c2 c3 c4 c5 Q cls d H' → W cls d σ' H') →
        PE ((cxOf CX0 X.prog X.w X.K X.mg X.base ["_law_deed", "_law_e"] "_law_told" (defScope sTold) g cdv X.A X.stack s1 H1 E0).tr pn xe) (.Call (.Name "_law_deed" p1) [] [] p2)
          (fun σZ HZ Q' => σZ[0]? = some (some (.ref f)) ∧ HZ c' = some (LamX.CodeO c' (X.env.qual ++ "<lambda>")) ∧ t (wishE X.K CE c0 c1 c2 c3 c4 c5 Q) σ HZ Q') := by
      intro W pn xe p1 p2 tk hW
      refine ⟨fun pinsZ sZ σZ HZ Q' IZ h' => ?_⟩
      obtain ⟨h0, hcZ, ht⟩ := h'
      refine wpAny_Call_Name_kw (thn ((pv (pos := p1) 0).run pinsZ sZ σZ HZ (fun v H2 => v = .ref f ∧ H2 = HZ) IZ ⟨.ref f, h0, rfl, rfl⟩) fun u s2 ⟨v, H2, I2, r2, e1, e2⟩ => ?_)
      subst e1 e2
      obtain rfl : u = Value.ref f := r2
      have here := I2.base.keep f _ hf hfn hfr (fun z => nomatch (show f ∈ ([] : List Addr) from z))
      refine PySem.W.callWith_F0 ⟨_, _, _, _, here⟩ ?_
      have un : Un (frs X.stack) [] H1 H2 s1.heap s2.heap := I2.base
      have go := lam_run (X := X) (env := envOfC "_law_told" (defScope sTold) s1.heap.objs.size g cdv) (A := X.A.deeper (envOfC "_law_told" (defScope sTold) s1.heap.objs.size g cdv)) (E := wishE X.K CE c0 c1 c2 c3 c4 c5 Q) (s1 := s2) (HZ := H2) (Q := Q') I1 L here (bind _ _ _ _ _)
        I2.env0 I2.nolimit un hr' hcZ (fun A out s H hr2 => hbody A out s H _ f c' hr2) ht
      refine wpAny_call (codeAny_mono go fun r s3 hq => ?_)
      cases r with
      | error e => exact L2N.passes_call tk hW pinsZ σZ H2 s2 e s3 I2 hq
      | ok fl =>
        cases fl with
        | ret u => exact I2.after hq
        | next => exact False.elim hq
        | brk => exact False.elim hq
        | cont => exact False.elim hq
    refine ⟨_, (pss_one (L2N.ps_try_as (X := (cxOf CX0 X.prog X.w X.K X.mg X.base ["_law_deed", "_law_e"] "_law_told" (defScope sTold) g cdv X.A X.stack s1 H1 E0)) (i := 1) (c := .ref CE)
        (tb := fun W D σZ HZ => (∀ cls d σ' H', wishE X.K CE c0 c1 c2 c3 c4 c5 Q cls d H' → W cls d σ' H') ∧ σZ[0]? = some (some (.ref f)) ∧ HZ c' = some (LamX.CodeO c' (X.env.qual ++ "<lambda>")) ∧ t (wishE X.K CE c0 c1 c2 c3 c4 c5 Q) σ HZ D.rt)
        (ts := fun a cls d D σZ HZ => (∃ σ0 : L2.St, σZ = σ0.set 1 (some (.ref a))) ∧ ∃ (Dc : Addr) (i : Nat) (z : Str), cls = .ref Dc ∧ d = Option.none ∧ OneT X.K Dc i c0 c1 c2 c3 c4 c5 ∧ termNames[i]? = some z ∧ ∀ t H', Same HZ H' → H' t = some (.tup [.str "error", .str z]) → D.rt (.ref t) H')
        (Wout := fun _ _ _ _ => False) rfl rfl nd rfl rfl ⟨rfl, by decide, .inl mE⟩ takes0N (fun W pn xe tk _ => ⟨fun pinsB sB σB HB D IB hB => ?_⟩) (fun a oe cls d pn hz hf => ⟨fun pinsB sB σB HB D IB hB => ?_⟩))), ?_⟩
    · obtain ⟨hW, h0, h1, h2⟩ := hB
      exact (pss_one (ps_ret (act W pn xe _ _ tk hW))).run pinsB sB σB HB D IB ⟨h0, h1, h2⟩
    · obtain ⟨⟨σ0, e0⟩, Dc, i, z, rfl, rfl, O, hzi, k⟩ := hB
      have hlen := IB.len
      rw [e0, List.length_set] at hlen
      have hlen : σ0.length = 2 := hlen
      have h1 : σB[1]? = some (some (.ref a)) := by
        rw [e0, List.getElem?_set_self (by omega)]
      obtain ⟨us, hus⟩ := hf
      refine (pss_one (ps_ret (pe_callP (X := (cxOf CX0 X.prog X.w X.K X.mg X.base ["_law_deed", "_law_e"] "_law_told" (defScope sTold) g cdv X.A X.stack s1 H1 E0).suite a ((a, oe) :: pn)) (p := (a, oe)) F2 ⟨?_, ?_⟩ ⟨rfl, us, hus, hz.2.2 us hus⟩ List.mem_cons_self (by rfl) m2 k2 b2 (pa_cons (pv 1) pa_nil)))).run pinsB sB σB HB D IB ⟨.ref a, h1, Dc, i, z, rfl, hz.zc, ⟨us, hus⟩, O, hzi, k⟩
      · have := hr'.dp
        show (X.A.deeper (envOfC "_law_told" (defScope sTold) s1.heap.objs.size g cdv)).depth + 3 * 1 + 5 < _
        omega
      · have := hr'.un
        show (X.A.deeper (envOfC "_law_told" (defScope sTold) s1.heap.objs.size g cdv)).units + 16 * 1 + 200 < _
        omega
    · refine ⟨fun cls d σ' H' hw => ?_, rfl, hco, told⟩
      obtain ⟨Dc, i, z, rfl, rfl, em, O, hzi, k⟩ := hw
      exact ⟨true, em, fun _ a _ => ⟨⟨σ', rfl⟩, Dc, i, z, rfl, rfl, O, hzi, k⟩, fun z => by cases z⟩
  refine wpAny_call (codeAny_mono rc fun r s2 hq => ?_)
  cases r with
  | error e => exact (show False from hq).elim
  | ok fl =>
    cases fl with
    | ret u => exact I1.after hq
    | next => exact False.elim hq
    | brk => exact False.elim hq
    | cont => exact False.elim hq
end
end FC
set_option Elab.async false
set_option linter.all false
set_option maxRecDepth 100000
set_option maxHeartbeats 4000000
namespace FC
open PySem L2 TL
def bads : List Str := [" ", "|", "sums|gaps", "sums |", "sums | ", " sums", "line 1", "line 1 -0", "line 01 0", "line 1  0", "line +1 0", "line 1_0 0", "line 4 0", "keep 2 2", "sums 0", "Sums", "twice | twice"]
theorem bads_no : ∀ z ∈ bads, chainOk (parse z) = false := by decide +kernel
def bad5 : Str := Txt.mul "line 1 0 | " 4 ++ "line 1 0"
theorem bad5_no : chainOk (parse bad5) = false := by decide +kernel
theorem parse_empty : parse "" = [] := by decide +kernel
theorem parse_line : parse "line -3 -9" = [[.str "line", .int (-3), .int (-9)]] := by decide +kernel
theorem line_ok : chainOk [[.str "line", .int (-3), .int (-9)]] = true := by decide +kernel
theorem text_empty : chainText [] = "" := by decide +kernel
end FC
set_option Elab.async false
set_option linter.all false
set_option maxRecDepth 1000000
set_option maxHeartbeats 4000000
namespace FC
open PySem L2 TL
def badN : Str := "line " ++ Txt.mul "1" 5000 ++ " 0"
def badS : Str := Txt.mul "sums | " 1200 ++ "sums"
theorem cps_app (a b : Str) : tl (a ++ b) = tl a ++ tl b := tl_append a b
theorem foldl_app : ∀ (l : List (Array Nat)) (a : Array Nat), (l.foldl (· ++ ·) a).toList = a.toList ++ (l.map Array.toList).flatten
  | [], a => by simp
  | b :: r, a => by
    rw [List.foldl_cons, foldl_app r]
    simp
theorem tl_mul (x : Str) (n : Nat) (hn : 2 ≤ n) (hx : x.length ≠ 0) : tl (Txt.mul x (n : Int)) = (List.replicate n (tl x)).flatten := by
  unfold Txt.mul
  rw [if_neg (by omega)]
  have h1 : ((n : Int) == 1 || x.length == 0) = false := by
    have a : ((n : Int) == 1) = false := beq_eq_false_iff_ne.mpr (by omega)
    have b : (x.length == 0) = false := beq_eq_false_iff_ne.mpr hx
    rw [a, b]
    rfl
  rw [if_neg (by rw [h1]; exact Bool.false_ne_true)]
  show (List.foldl (· ++ ·) #[] (List.replicate (Int.toNat n) x.cps)).toList = _
  rw [foldl_app]
  have : (n : Int).toNat = n := Int.toNat_natCast n
  rw [this]
  simp [tl]
theorem joinL_reps (S p : List Nat) : ∀ n : Nat, joinL S (List.replicate (n + 1) p) = (List.replicate n (p ++ S)).flatten ++ p
  | 0 => by simp [joinL]
  | n + 1 => by
    have ih := joinL_reps S p n
    rw [List.replicate_succ, joinL_cons (by simp [List.replicate_succ]), ih, List.replicate_succ, List.flatten_cons]
    simp [List.append_assoc]
theorem badS_join : badS = Txt.join " | " (List.replicate 1201 ("sums" : Str)) := by
  refine ext_tl ?_
  unfold badS
  have h := tl_mul "sums | " 1200 (by decide) (by decide +kernel)
  have h : tl (Txt.mul "sums | " 1200) = (List.replicate 1200 (tl "sums | ")).flatten := h
  rw [cps_app, h, join_eq, tl_join, List.map_replicate, joinL_reps _ _ 1200]
  have e : tl ("sums | " : Str) = tl ("sums" : Str) ++ tl (" | " : Str) := by decide +kernel
  rw [e]
theorem badS_no : chainOk (parse badS) = false := by
  have hp : parts badS = List.replicate 1201 ("sums" : Str) := by
    unfold parts
    rw [if_neg (fun z => by
      have := congrArg Str.length z
      rw [len_tl] at this
      unfold badS at this
      rw [cps_app, List.length_append] at this
      have h1 : (tl ("sums" : Str)).length = 4 := by decide +kernel
      have h2 : (Str.empty).length = 0 := by decide +kernel
      omega)]
    rw [badS_join]
    refine split_bar (by simp) fun p hp => ?_
    rw [List.eq_of_mem_replicate hp]
    decide +kernel
  have hl : (parse badS).length = 1201 := by
    unfold parse
    rw [hp, List.length_map, List.length_replicate]
  unfold chainOk
  rw [hl]
  rfl
theorem badN_join : badN = Txt.join " " ["line", Txt.mul "1" 5000, "0"] := by
  refine ext_tl ?_
  unfold badN
  rw [cps_app, cps_app, join_eq, tl_join]
  show tl "line " ++ tl (Txt.mul "1" 5000) ++ tl " 0" = tl "line" ++ (tl " " ++ (tl (Txt.mul "1" 5000) ++ (tl " " ++ tl "0")))
  have e1 : tl ("line " : Str) = tl ("line" : Str) ++ tl (" " : Str) := by decide +kernel
  have e2 : tl (" 0" : Str) = tl (" " : Str) ++ tl ("0" : Str) := by decide +kernel
  rw [e1, e2]
  simp [List.append_assoc]
theorem ones : tl (Txt.mul "1" 5000) = List.replicate 5000 49 := by
  have h := tl_mul "1" 5000 (by decide) (by decide +kernel)
  have h : tl (Txt.mul "1" 5000) = (List.replicate 5000 (tl "1")).flatten := h
  have e : tl ("1" : Str) = [49] := by decide +kernel
  rw [h, e]
  have all : ∀ n : Nat, (List.replicate n [49]).flatten = List.replicate n 49 := by
    intro n
    induction n with
    | zero => rfl
    | succ n ih => rw [List.replicate_succ, List.flatten_cons, ih, List.replicate_succ]; rfl
  exact all 5000
theorem num_ones : num (Txt.mul "1" 5000) = .non := by
  unfold num
  cases e : numTab.lookup (Txt.mul "1" 5000) with
  | none => rfl
  | some n =>
    exfalso
    have m := lookup_mem e
    have all : ∀ p ∈ numTab, p.1.length ≤ 2 := by decide +kernel
    have h := all _ m
    rw [len_tl, ones, List.length_replicate] at h
    omega
theorem badN_free : 124 ∉ tl badN := by
  unfold badN
  rw [cps_app, cps_app, ones]
  intro h
  rcases List.mem_append.mp h with h | h
  · rcases List.mem_append.mp h with h | h
    · have e : tl ("line " : Str) = [108, 105, 110, 101, 32] := by decide +kernel
      rw [e] at h
      simp at h
    · have := List.eq_of_mem_replicate h
      omega
  · have e : tl (" 0" : Str) = [32, 48] := by decide +kernel
    rw [e] at h
    simp at h
theorem badN_ne : ¬ badN = Str.empty := fun z => by
  have h0 := congrArg tl z
  unfold badN at h0
  rw [cps_app] at h0
  have h1 := congrArg List.length h0
  rw [List.length_append] at h1
  have h2 : (tl (" 0" : Str)).length = 2 := by decide +kernel
  have h3 : (tl Str.empty).length = 0 := rfl
  omega
theorem badN_parts : parts badN = [badN] := by
  have h := split_bar (ps := [badN]) (by simp) (by
    intro p hp
    rw [List.mem_singleton.mp hp]
    exact badN_free)
  rw [join_eq] at h
  have e : Str.join (" | " : Str) [badN] = badN := rfl
  rw [e] at h
  unfold parts
  rw [if_neg badN_ne]
  exact h
theorem badN_split : Txt.split badN " " = (["line", Txt.mul "1" 5000, "0"] : List Str) := by
  rw [badN_join]
  refine split_sp (by simp) fun p hp => ?_
  rcases List.mem_cons.mp hp with z | hp
  · rw [z]
    decide +kernel
  · rcases List.mem_cons.mp hp with z | hp
    · rw [z, ones]
      intro h
      have := List.eq_of_mem_replicate h
      omega
    · rw [List.mem_singleton.mp hp]
      decide +kernel
theorem read_three {p a b c : Str} (h : Txt.split p " " = [a, b, c]) (hb : num b = .non) : readStep p = [.str a, .non, num c] := by
  unfold readStep
  rw [h]
  show [V.str a, num b, num c] = _
  rw [hb]
theorem badN_read : readStep badN = [.str "line", .non, num "0"] := read_three badN_split num_ones
theorem badN_no : chainOk (parse badN) = false := by
  have e : parse badN = [[.str "line", .non, num "0"]] := by
    unfold parse
    rw [badN_parts, List.map_cons, badN_read]
    rfl
  rw [e]
  decide +kernel
theorem bad_lens : badN.length ≤ 1000000 ∧ badS.length ≤ 1000000 := by
  constructor
  · rw [len_tl]
    unfold badN
    rw [cps_app, cps_app, ones, List.length_append, List.length_append, List.length_replicate]
    have h1 : (tl (" 0" : Str)).length = 2 := by decide +kernel
    have h2 : (tl ("line " : Str)).length = 5 := by decide +kernel
    omega
  · rw [len_tl]
    unfold badS
    have h := tl_mul "sums | " 1200 (by decide) (by decide +kernel)
    have h : tl (Txt.mul "sums | " 1200) = (List.replicate 1200 (tl "sums | ")).flatten := h
    rw [cps_app, h, List.length_append, List.length_flatten, List.map_replicate, List.sum_replicate_nat]
    have h1 : (tl ("sums | " : Str)).length = 7 := by decide +kernel
    have h2 : (tl ("sums" : Str)).length = 4 := by decide +kernel
    omega
end FC
set_option Elab.async false
set_option linter.all false
set_option maxRecDepth 100000
set_option maxHeartbeats 1000000
namespace FC
open PySem PySem.Spec PyProof.Rows L2
/-! ### data of chains, for == -/
def vData : V → PyData
  | .str z => .str z
  | .int i => .int i
  | _ => .none
def stepData (ys : List V) : PyData := .tuple (ys.map vData)
def chainData (cs : List (List V)) : PyData := .tuple (cs.map stepData)
theorem dp_flat {K : PySem.W.Frag} {H : Hp} : ∀ {ys : List V}, (∀ y ∈ ys, strInt y = true) → DpAll K H ys (ys.map vData)
  | [], _ => .nil
  | y :: r, h => by
    have h1 := h y (by simp)
    refine .cons ?_ (dp_flat fun z hz => h z (List.mem_cons_of_mem _ hz))
    cases y <;> first | exact .str _ | exact .int _ | cases h1
theorem dp_steps {K : PySem.W.Frag} {H : Hp} : ∀ {xs : List V} {cs : List (List V)}, xs.length = cs.length → (∀ (i : Nat) (x : V) (ys : List V), xs[i]? = some x → cs[i]? = some ys → Dp K H x (stepData ys)) → DpAll K H xs (cs.map stepData)
  | [], [], _, _ => .nil
  | x :: r, ys :: s, hl, h => .cons (h 0 x ys rfl rfl) (dp_steps (by simpa using hl) fun i x ys h1 h2 => h (i + 1) x ys (by simpa using h1) (by simpa using h2))
  | [], _ :: _, hl, _ => by simp at hl
  | _ :: _, [], hl, _ => by simp at hl
theorem chain_dp {K : PySem.W.Frag} {H : Hp} {a : Addr} {cs : List (List V)} (h : ChainAt K H a cs) (hc : chainOk cs = true) : Dp K H (.ref a) (chainData cs) := by
  obtain ⟨xs, h1, h2⟩ := h
  refine .tup h1 (dp_steps (by rw [h2.len, List.length_map]) fun i x ys hx hy => ?_)
  obtain ⟨b, rfl, hb, _⟩ := h2.at_ i x (some ys) hx (by rw [List.getElem?_map, hy]; rfl)
  exact .tup hb (dp_flat (stepOk_strInt (chainOk_steps hc ys (List.mem_of_getElem? hy))))
theorem lay_all : ∀ {ds : List PyData}, (∀ d ∈ ds, d.canLay0 = true) → PyData.canLayAll0 ds = true
  | [], _ => rfl
  | d :: r, h => by
    show (d.canLay0 && PyData.canLayAll0 r) = true
    rw [h d (by simp), lay_all fun z hz => h z (List.mem_cons_of_mem _ hz)]
    rfl
theorem depth_all {n : Nat} : ∀ {ds : List PyData}, (∀ d ∈ ds, d.depth ≤ n) → PyData.depthAll ds ≤ n
  | [], _ => Nat.zero_le _
  | d :: r, h => by
    show max d.depth (PyData.depthAll r) ≤ n
    have h1 := h d (by simp)
    have h2 := depth_all (n := n) fun z hz => h z (List.mem_cons_of_mem _ hz)
    omega
theorem step_shaped {ys : List V} (h : stepOk ys = true) : (stepData ys).canLay0 = true ∧ (stepData ys).depth ≤ 1 := by
  obtain ⟨name, ns, rfl, hn, _⟩ := stepOk_shape h
  have hk : PyData.strOk name = true := by
    have all : ∀ x ∈ names, PyData.strOk x = true := by decide +kernel
    exact all _ hn
  constructor
  · refine lay_all fun d hd => ?_
    obtain ⟨v, hv, rfl⟩ := List.mem_map.mp hd
    rcases List.mem_cons.mp hv with z | z
    · rw [z]
      exact hk
    · obtain ⟨n, _, rfl⟩ := List.mem_map.mp z
      rfl
  · show PyData.depthAll _ + 1 ≤ 1
    have := depth_all (n := 0) (ds := (V.str name :: ns.map V.int).map vData) fun d hd => by
      obtain ⟨v, hv, rfl⟩ := List.mem_map.mp hd
      rcases List.mem_cons.mp hv with z | z
      · rw [z]
        exact Nat.le_refl _
      · obtain ⟨n, _, rfl⟩ := List.mem_map.mp z
        exact Nat.le_refl _
    omega
theorem chain_shaped {cs : List (List V)} (h : chainOk cs = true) : SeqAt.shaped (chainData cs) = true := by
  have hs := chainOk_steps h
  show (PyData.canLayAll0 (cs.map stepData) && decide (PyData.depthAll (cs.map stepData) + 1 ≤ 64)) = true
  rw [lay_all fun d hd => by
    obtain ⟨ys, hy, rfl⟩ := List.mem_map.mp hd
    exact (step_shaped (hs ys hy)).1]
  have := depth_all (n := 1) (ds := cs.map stepData) fun d hd => by
    obtain ⟨ys, hy, rfl⟩ := List.mem_map.mp hd
    exact (step_shaped (hs ys hy)).2
  rw [decide_eq_true (by omega)]
  rfl
def errData (z : Str) : PyData := .tuple [.str "error", .str z]
theorem err_shaped : SeqAt.shaped (errData "InvalidText") = true := by decide +kernel
theorem err_dp {K : PySem.W.Frag} {H : Hp} {t : Addr} {z : Str} (h : H t = some (.tup [.str "error", .str z])) : Dp K H (.ref t) (errData z) := .tup (SqT.of h) (.cons (.str _) (.cons (.str _) .nil))
theorem chain_not_err {cs : List (List V)} (z : Str) : PyData.eqv (chainData cs) (errData z) = false := by
  match cs with
  | [] => rfl
  | [] :: r => rfl
  | (y :: s) :: r => rfl
end FC
set_option Elab.async false
set_option linter.all false
set_option maxRecDepth 100000
set_option maxHeartbeats 1000000
namespace FC
open PySem PySem.Spec PyProof.Rows L2
/-- all but d and the tables of code objects is as it was -/
def Keep (d : Addr) (H H' : Hp) : Prop := ∀ b o, H b = some o → b ≠ d → (∀ ps, o ≠ .tbl ps) → H' b = some o
theorem Keep.refl (d : Addr) (H : Hp) : Keep d H H := fun _ _ h _ _ => h
theorem Keep.trans {d : Addr} {H H1 H2 : Hp} (a : Keep d H H1) (b : Keep d H1 H2) : Keep d H H2 := fun c o h n m => b c o (a c o h n m) n m
theorem Keep.same {d : Addr} {H H' : Hp} (e : Same H H') : Keep d H H' := fun b o h _ _ => e b o h
theorem Keep.sameX {d : Addr} {H H' : Hp} (e : SameX d H H') : Keep d H H' := fun b o h n _ => e b o h n
theorem Keep.ext {d : Addr} {H H' : Hp} (e : LamX.ExtN H H') : Keep d H H' := fun b o h _ m => e b o h m
theorem sqt_keep {K : PySem.W.Frag} {H H' : Hp} {a d : Addr} {xs : List V} (h : SqT K H a xs) (hd : Dice H d) (s : Keep d H H') : SqT K H' a xs := by
  obtain ⟨x, y, e⟩ := hd
  rcases h with (h | ⟨o, h⟩) | h
  · exact .inl (.inl (s _ _ h (ne_of h e (by intro z; cases z)) (fun ps z => by cases z)))
  · exact .inl (.inr ⟨o, s _ _ h (ne_of h e (by intro z; cases z)) (fun ps z => by cases z)⟩)
  · exact .inr h
theorem chain_keep {K : PySem.W.Frag} {H H' : Hp} {a d : Addr} {cs : List (List V)} (h : ChainAt K H a cs) (hc : chainOk cs = true) (hd : Dice H d) (s : Keep d H H') : ChainAt K H' a cs := by
  obtain ⟨xs, h1, h2⟩ := h
  refine ⟨xs, sqt_keep h1 hd s, h2.len, fun i x o hx ho => ?_⟩
  have hi := get_lt ho
  rw [List.length_map] at hi
  have e : (cs.map some)[i]? = some (some cs[i]) := by rw [List.getElem?_map, List.getElem?_eq_getElem hi]; rfl
  rw [e] at ho
  have ho : some cs[i] = o := Option.some.inj ho
  subst ho
  obtain ⟨b, e1, e2, _⟩ := h2.at_ i x _ hx e
  exact ⟨b, e1, sqt_keep e2 hd s, fun y hy => strInt_nice (stepOk_strInt (chainOk_steps hc _ (List.getElem_mem hi)) y hy)⟩
theorem tabs_sameX {T : List (Addr × Str)} {H H' : Hp} {d : Addr} (h : LamX.Tabs T H) (hd : Dice H d) (s : SameX d H H') : LamX.Tabs T H' := fun p hp => by
  obtain ⟨x, y, e⟩ := hd
  obtain ⟨ps, h1, h2, h3⟩ := h p hp
  refine ⟨ps, s _ _ h1 (ne_of h1 e (by intro z; cases z)), h2, fun pos cv hc => ?_⟩
  obtain ⟨c, e1, e2⟩ := h3 pos cv hc
  exact ⟨c, e1, s _ _ e2 (ne_of e2 e (by unfold LamX.CodeO; intro z; cases z))⟩
/-- what stands through a round of the law: the dice of all rounds at t, one of them d, the lambdas' table -/
structure Rd (T : List (Addr × Str)) (t d : Addr) (ds : List Addr) (H : Hp) : Prop where
  tl : H t = some (.lst (ds.map V.ref))
  all : ∀ c ∈ ds, Dice H c
  me : d ∈ ds
  tb : LamX.Tabs T H
theorem Rd.d {T : List (Addr × Str)} {t d : Addr} {ds : List Addr} {H : Hp} (r : Rd T t d ds H) : Dice H d := r.all d r.me
theorem Rd.step {T : List (Addr × Str)} {t d : Addr} {ds : List Addr} {H H' : Hp} (r : Rd T t d ds H) (k : Keep d H H') (hd : Dice H' d) (tb : LamX.Tabs T H') : Rd T t d ds H' := by
  have td : t ≠ d := fun z => by
    obtain ⟨x, y, e⟩ := r.d
    rw [← z, r.tl] at e
    have e := Option.some.inj e
    injection e with e
    match ds, e with
    | c :: _, e => injection e with e; cases e
  refine ⟨k _ _ r.tl td (fun ps z => by cases z), fun c hc => ?_, r.me, tb⟩
  by_cases h : c = d
  · rw [h]
    exact hd
  · obtain ⟨x, y, e⟩ := r.all c hc
    exact ⟨x, y, k _ _ e h (fun ps z => by cases z)⟩
theorem Rd.same {T : List (Addr × Str)} {t d : Addr} {ds : List Addr} {H H' : Hp} (r : Rd T t d ds H) (s : Same H H') : Rd T t d ds H' := r.step (Keep.same s) (r.d.same s) (r.tb.ext s)
theorem Rd.roll {T : List (Addr × Str)} {t d : Addr} {ds : List Addr} {H H' : Hp} (r : Rd T t d ds H) (s : SameX d H H') (hd : Dice H' d) : Rd T t d ds H' := r.step (Keep.sameX s) hd (tabs_sameX r.tb r.d s)
theorem Rd.ext {T : List (Addr × Str)} {t d : Addr} {ds : List Addr} {H H' : Hp} (r : Rd T t d ds H) (s : LamX.ExtN H H') (tb : LamX.Tabs T H') : Rd T t d ds H' := by
  obtain ⟨x, y, e⟩ := r.d
  exact r.step (Keep.ext s) ⟨x, y, s _ _ e (fun ps z => by cases z)⟩ tb
/-! ### a text several times -/
theorem op_mul_str {X : Cx} : OpR X (binaryOp .Mult) (fun x y H Q => ∃ z n, x = .str z ∧ y = .int n ∧ MulOk z n ∧ Q (.str (Txt.mul z n)) H) := by
  intro pins s σ H x y v u Q I rx ry h
  obtain ⟨z, n, rfl, rfl, ok, q⟩ := h
  obtain ⟨t, rfl⟩ := rx
  obtain ⟨t2, rfl⟩ := ry
  exact SB.mul ok fun t' k => ⟨.str (Txt.mul z n), H, I.tok k, ⟨t', rfl⟩, q⟩
theorem ok5000 : MulOk "1" 5000 := ⟨by decide, fun _ _ => by decide +kernel, fun _ _ => by decide +kernel⟩
theorem ok1200 : MulOk "sums | " 1200 := ⟨by decide, fun _ _ => by decide +kernel, fun _ _ => by decide +kernel⟩
theorem ok4 : MulOk "line 1 0 | " 4 := ⟨by decide, fun _ _ => by decide +kernel, fun _ _ => by decide +kernel⟩
/-! ### what is told of parse_chain -/
section
variable {K : PySem.W.Frag} {T : List (Addr × Str)} {CE c0 c1 c2 c3 c4 c5 : Addr} {σ : L2.St} {H : Hp} {Q : VK}
theorem told_str {ta : TA} {z : Str} (hta : ∀ H1 R, R [.str z] H1 → ta σ H1 R) (hz : z.length ≤ 1000000) (tb : LamX.Tabs T H) (O : OneT K c3 3 c0 c1 c2 c3 c4 c5) (em : PySem.W.exmOne K (.ref c3) (.ref CE) = some true)
    (hok : chainOk (parse z) = true → ∀ H2 a, LamX.ExtN H H2 → LamX.Tabs T H2 → ChainAt K H2 a (parse z) → Q (.ref a) H2)
    (hno : chainOk (parse z) = false → ∀ H2 t, LamX.ExtN H H2 → LamX.Tabs T H2 → H2 t = some (.tup [.str "error", .str "InvalidText"]) → Q (.ref t) H2) :
    tTold K T CE c0 c1 c2 c3 c4 c5 (fun E => tCal (spParse K c3) E ta) σ H Q := by
  refine ⟨tb, fun H1 e1 t1 => hta H1 _ ⟨_, rfl, .inl ⟨z, rfl, hz, fun H2 s2 => ⟨fun h a _ ca => hok h H2 a (e1.trans (LamX.ExtN.of s2)) (t1.ext s2) ca, fun h => ?_⟩⟩⟩⟩
  exact ⟨c3, 3, "InvalidText", rfl, rfl, em, O, rfl, fun t H3 s3 ht => hno h H3 t ((e1.trans (LamX.ExtN.of s2)).trans (LamX.ExtN.of s3)) ((t1.ext s2).ext s3) ht⟩
theorem told_other {ta : TA} {x : V} (hta : ∀ H1 R, R [x] H1 → ta σ H1 R) (hx : ∀ H1, LamX.ExtN H H1 → Nice K H1 x) (hs : isS x = false) (tb : LamX.Tabs T H) (O : OneT K c3 3 c0 c1 c2 c3 c4 c5) (em : PySem.W.exmOne K (.ref c3) (.ref CE) = some true)
    (hno : ∀ H2 t, LamX.ExtN H H2 → LamX.Tabs T H2 → H2 t = some (.tup [.str "error", .str "InvalidText"]) → Q (.ref t) H2) :
    tTold K T CE c0 c1 c2 c3 c4 c5 (fun E => tCal (spParse K c3) E ta) σ H Q := by
  refine ⟨tb, fun H1 e1 t1 => hta H1 _ ⟨_, rfl, .inr ⟨hx H1 e1, hs, ?_⟩⟩⟩
  exact ⟨c3, 3, "InvalidText", rfl, rfl, em, O, rfl, fun t H3 s3 ht => hno H3 t (e1.trans (LamX.ExtN.of s3)) (t1.ext s3) ht⟩
end
end FC
set_option Elab.async false
set_option linter.all false
set_option maxRecDepth 100000
set_option maxHeartbeats 1000000
namespace FC
open PySem L2
/-- what the law calls -/
structure Lib (P : Program) (w : World) (K : PySem.W.Frag) (mg : Str → Option Value) (base : Heap) (g f2 CE c0 c1 c2 c3 c4 c5 : Addr) (fdg fd2 : FuncData) : Prop where
  blt : Blt mg
  rounds : Cal P w K mg base CX0 2 "_law_rounds" ["_law_script", "_law_most"] (spRounds K)
  chain : Cal P w K mg base CX0 5 "_law_chain" ["_law_dice", "_law_most"] (spChainL K)
  roll : Cal P w K mg base CX0 2 "_law_roll" ["_law_dice", "_law_many"] spRoll
  isChain : Cal P w K mg base CX0 4 "is_chain" ["value"] (spIsChain K)
  format : Cal P w K mg base (L2N.CX P w) 6 "format_chain" ["chain"] (spFormat K c0)
  parse : Cal P w K mg base (L2N.CX P w) 5 "parse_chain" ["text"] (spParse K c3)
  Fg : Fun K "_law_told" "_law_told" sTold g fdg
  bg : Binds K fdg ["_law_deed"] []
  mg_ : mg "_law_told" = some (.ref g)
  F2 : FnP P w K mg base 1 f2 fd2 ["_law_e"] (spTerm K c0 c1 c2 c3 c4 c5)
  m2 : mg "_law_term" = some (.ref f2)
  k2 : PySem.W.keepIn K (.ref f2) = true
  b2 : Binds K fd2 ["_law_e"] []
  mE : mg "ChainError" = some (.ref CE)
  one : OneT K c3 3 c0 c1 c2 c3 c4 c5
  em : PySem.W.exmOne K (.ref c3) (.ref CE) = some true
abbrev NL : List Str := ["_law_script", "_law_dice", "_law_chain_here", "_law_turn", "_law_at", "_law_sign", "_law_made", "_law_bad", "_law_bent", "_law_text", "_law_thing", "_law_step_here", "_law_part"]
def qL : Str := "law" ++ ".<locals>." ++ "<lambda>"
def spLaw (K : PySem.W.Frag) (Pt : Addr) : Sp := fun vs H Q _ => ∃ (a : Addr) (ns : List Int), vs = [.ref a] ∧ SqL K H a (ns.map V.int) ∧ ns.length ≤ 63 ∧ H Pt = some (.tbl #[]) ∧ ∀ H', Q (.bl true) H'
/-- the text of the step in slot i -/
def tStepT (K : PySem.W.Frag) (i : Nat) : TE := fun σ H Q => ∃ (v0 v1 v2 v3 v4 v5 v6 v7 v8 v9 v10 v12 : Option V) (b : Addr) (ys : List V), σ = [v0, v1, v2, v3, v4, v5, v6, v7, v8, v9, v10, some (.ref b), v12] ∧ SqT K H b ys ∧ stepOk ys = true ∧ ∀ H', Same H H' → Q (.str (stepText ys)) H'
section
variable {P : Program} {w : World} {K : PySem.W.Frag} {mg : Str → Option Value} {base : Heap}
theorem scLaw : FnScope NL ["_law_script"] (defScope sLaw) := ⟨rfl, rfl, rfl, by decide +kernel, rfl, by decide +kernel, by decide +kernel⟩
theorem stepT_reads {X : Cx} (hK : X.K = K := by rfl) : ∀ (σ : L2.St) (H : Hp) (Q : VK), tStepT K 11 σ H Q → tM1 (fun x xs H Q => ∃ a p, ∃ ys : List Str, x = .str a ∧ xs = [.ref p] ∧ (SqL X.K H p (ys.map V.str) ∨ SqT X.K H p (ys.map V.str)) ∧ (ys.map (·.length)).sum + ys.length * a.length ≤ 16777216 ∧ Q (.str (Txt.join a ys)) H) (tC (.str " "))
    (tLc (iTup X.K (tVar 11)) (gName 12) tYes (tCB (fun xs H Q => (∃ i, xs = [.int i] ∧ i.natAbs.log2 < 1920 ∧ Q (.str (toString i)) H) ∨ ∃ a, xs = [.str a] ∧ Q (.str a) H) (tCons (tVar 12) tNil)) [12]) σ H Q := by
  subst hK
  rintro σ H Q ⟨v0, v1, v2, v3, v4, v5, v6, v7, v8, v9, v10, v12, b, ys, rfl, hb, hok, k⟩
  refine ⟨⟨_, rfl⟩, _, rfl, b, rfl, ⟨_, hb⟩, fun D nD => ?_⟩
  have sD : Same H (upd H D (.lst [])) := same_upd (Same.refl H) nD
  obtain ⟨name, ns, ey, hn, hs, hl⟩ := stepOk_shape hok
  have hlen : ys.length ≤ 5 := by
    rw [ey]
    simp
    omega
  refine lc_tup (K := X.K) (a := b) (xs := ys) (fun j H3 => H3 D = some (.lst (((ys.take j).map partText).map V.str)) ∧ Same H H3) ⟨upd_same, sD⟩ (fun j H3 _ ⟨_, s3⟩ => sqt_same s3 hb) ?_ ?_
  · rintro j y H3 hy ⟨hD, s3⟩
    have hj := get_lt hy
    have fin : ∃ acc, H3 D = some (.lst acc) ∧ acc.length < sizeLine ∧ upd H3 D (.lst (acc ++ [.str (partText y)])) D = some (.lst (((ys.take (j + 1)).map partText).map V.str)) ∧ Same H (upd H3 D (.lst (acc ++ [.str (partText y)]))) := by
      refine ⟨_, hD, ?_, ?_, ?_⟩
      · rw [List.length_map, List.length_map, List.length_take]
        exact small1000 (by omega)
      · rw [upd_same, take_succ_get hy, List.map_append, List.map_append]
        rfl
      · intro q u hq
        have hqD : q ≠ D := fun z => by
          rw [z, nD] at hq
          cases hq
        rw [upd_ne hqD]
        exact s3 q u hq
    have hym : y ∈ ys := List.mem_of_getElem? hy
    rw [ey] at hym
    rcases List.mem_cons.mp hym with z | z
    · subst z
      exact ⟨rfl, ⟨_, rfl, .inr ⟨_, rfl, fin⟩⟩⟩
    · obtain ⟨n, hn', rfl⟩ := List.mem_map.mp z
      have hb9 := hs n hn'
      refine ⟨rfl, ⟨_, rfl, .inl ⟨n, rfl, ?_, fin⟩⟩⟩
      have : n.natAbs ≤ 9 := by omega
      have all : ∀ m ≤ 9, Nat.log2 m < 1920 := by decide
      exact all _ this
  · rintro H3 ⟨hD, s3⟩
    rw [List.take_length] at hD
    refine ⟨_, D, ys.map partText, rfl, rfl, .inl (SqL.of hD), ?_, k H3 s3⟩
    have h2 := sum_bound (part_len hok)
    have e2 : (" " : Str).length = 1 := by decide +kernel
    rw [List.length_map] at h2
    rw [List.length_map, e2]
    omega
end
end FC
set_option Elab.async false
set_option linter.all false
set_option maxRecDepth 100000
set_option maxHeartbeats 4000000
namespace FC
open PySem PySem.Spec L2
/-- what stands through the law: the dice of all rounds at t, the lambdas' table -/
structure Rt (T : List (Addr × Str)) (t : Addr) (ds : List Addr) (H : Hp) : Prop where
  tl : H t = some (.lst (ds.map V.ref))
  all : ∀ c ∈ ds, Dice H c
  tb : LamX.Tabs T H
theorem Rt.rd {T : List (Addr × Str)} {t d : Addr} {ds : List Addr} {H : Hp} (r : Rt T t ds H) (h : d ∈ ds) : Rd T t d ds H := ⟨r.tl, r.all, h, r.tb⟩
theorem Rd.rt {T : List (Addr × Str)} {t d : Addr} {ds : List Addr} {H : Hp} (r : Rd T t d ds H) : Rt T t ds H := ⟨r.tl, r.all, r.tb⟩
theorem ifNe {x y : V} {A B : Prop} (h : x = y) (hb : B) : if (!decide (x = y)) = true then A else B := by
  rw [decide_eq_true h, if_neg (by decide)]
  exact hb
theorem ifEqvT {x y : PyData} {A B : Prop} (h : PyData.eqv x y = true) (hb : B) : if (!PyData.eqv x y) = true then A else B := by
  rw [h, if_neg (by decide)]
  exact hb
theorem ifEqvF {x y : PyData} {A B : Prop} (h : PyData.eqv x y = false) (hb : A) : if (!PyData.eqv x y) = true then A else B := by
  rw [h, if_pos (by decide)]
  exact hb
theorem ifNot {c : Bool} {A B : Prop} (h : c = true) (hb : B) : if (!c) = true then A else B := by
  rw [h, if_neg (by decide)]
  exact hb
/-- a value that parse_chain does not take, or the chain at b -/
def BadV (b : Addr) (x : V) : Prop := x = .non ∨ x = .int 5 ∨ x = .ref b ∨ ∃ z : Str, x = .str z ∧ z.length ≤ 1000000 ∧ chainOk (parse z) = false
theorem bad_of {b : Addr} {z : Str} (h : z ∈ bads) : BadV b (.str z) := by
  have all : ∀ z ∈ bads, z.length ≤ 1000000 := by decide +kernel
  exact .inr (.inr (.inr ⟨z, rfl, all z h, bads_no z h⟩))
theorem bad_nil {b : Addr} : ∀ x ∈ ([] : List V), BadV b x := fun _ h => by cases h
theorem bad_cons {b : Addr} {x : V} {r : List V} (h : BadV b x) (t : ∀ y ∈ r, BadV b y) : ∀ y ∈ x :: r, BadV b y := fun y hy => by
  rcases List.mem_cons.mp hy with e | e
  · rw [e]
    exact h
  · exact t y e
theorem bad_app {b : Addr} {x y : List V} (h : ∀ v ∈ x, BadV b v) (t : ∀ v ∈ y, BadV b v) : ∀ v ∈ x ++ y, BadV b v := fun v hv => (List.mem_append.mp hv).elim (h v) (t v)
theorem bad_lit {b : Addr} {zs : List Str} (h : (zs.all fun z => bads.contains z) = true) : ∀ v ∈ zs.map V.str, BadV b v := fun v hv => by
  obtain ⟨z, hz, rfl⟩ := List.mem_map.mp hv
  exact bad_of (List.contains_iff_mem.mp (List.all_eq_true.mp h z hz))
theorem nice_non {K : PySem.W.Frag} {H : Hp} : Nice K H .non := ⟨"NoneType", by decide, .base .non⟩
def z1 : List Str := [" ", "|", "sums|gaps", "sums |", "sums | ", " sums", "line 1"]
def z2 : List Str := ["line 1 -0", "line 01 0", "line 1  0"]
def z3 : List Str := ["line +1 0", badN, "line 1_0 0", "line 4 0", "keep 2 2"]
def z4 : List Str := ["sums 0", "Sums", "twice | twice"]
def z5 : List Str := [badS, bad5]
theorem bad3 {b : Addr} : ∀ v ∈ z3.map V.str, BadV b v := fun v hv => by
  obtain ⟨z, hz, rfl⟩ := List.mem_map.mp hv
  unfold z3 at hz
  simp only [List.mem_cons, List.mem_nil_iff, or_false] at hz
  rcases hz with rfl | rfl | rfl | rfl | rfl
  · exact bad_of (by decide +kernel)
  · exact .inr (.inr (.inr ⟨_, rfl, bad_lens.1, badN_no⟩))
  · exact bad_of (by decide +kernel)
  · exact bad_of (by decide +kernel)
  · exact bad_of (by decide +kernel)
theorem bad_5 {b : Addr} : ∀ v ∈ z5.map V.str, BadV b v := fun v hv => by
  obtain ⟨z, hz, rfl⟩ := List.mem_map.mp hv
  unfold z5 at hz
  simp only [List.mem_cons, List.mem_nil_iff, or_false] at hz
  rcases hz with rfl | rfl
  · exact .inr (.inr (.inr ⟨_, rfl, bad_lens.2, badS_no⟩))
  · exact .inr (.inr (.inr ⟨_, rfl, by decide +kernel, bad5_no⟩))
section
variable {P : Program} {w : World} {K : PySem.W.Frag} {mg : Str → Option Value} {base : Heap}
theorem ok_law {f c Pt g f2 CE c0 c1 c2 c3 c4 c5 : Addr} {fdg fd2 : FuncData} {dV kV doc pm ct oc : Value} {an od : Option Addr} {osl : Array (Option Value)} (B : Lib P w K mg base g f2 CE c0 c1 c2 c3 c4 c5 fdg fd2) (TB : LamX.TabB base mg c Pt)
    (lk : K.lookup f = some ⟨oc, od, .func (PySem.W.fnOf "law" "law" (defArgs sLaw) (defBody sLaw) (defScope sLaw) dV kV doc pm an (.ref c) ct), osl⟩) (hcd : PySem.W.codeIn K (.ref c) "law" = true) :
    FnOk P w K mg base CX0 8 f (PySem.W.fnOf "law" "law" (defArgs sLaw) (defBody sLaw) (defScope sLaw) dV kV doc pm an (.ref c) ct) ["_law_script"] (spLaw K Pt) := by
  refine fn_of lk hcd scLaw (fun vs H Q E h => ?_) (fun A outer s H vs Q E hr h => ?_)
  · obtain ⟨a, ns, rfl, _⟩ := h
    rfl
  · obtain ⟨a, ns, rfl, ha, hl, hP, q⟩ := h
    have nd := scLaw.nd
    have hr2 : Room 2 _ := hr.mono (by decide)
    have hr4 : Room 4 _ := hr.mono (by decide)
    have hr5 : Room 5 _ := hr.mono (by decide)
    have hr6 : Room 6 _ := hr.mono (by decide)
    have T := B.blt
    refine ⟨_, PSs.nox ((pss_cons (ps_for PassesOwn.never rfl (pi_list (pe_cal B.rounds hr2 pass0 (pa_cons (pv 0) (pa_cons pe_int pa_nil)))) (pg_name (i := 1) nd rfl (Or.inl rfl))
       (pss_cons (ps_set (i := 2) nd rfl (Or.inl rfl) (pe_cal B.chain hr5 pass0 (pa_cons (pv 1) (pa_cons pe_int pa_nil))))
        (pss_cons (ps_set (i := 9) nd rfl (Or.inr rfl) (pe_join pe_str (pe_lc (own := [("_law_step_here", 11)]) (g := gName 11) (tt := tYes) (te := tStepT K 11) (by rfl) nd (pi_tup (pv 2)) (blkOk_by (own := [("_law_step_here", 11)]) (N := NL) (sc := defScope sLaw) (by decide +kernel)) (fun _ _ _ _ _ => pg_name (i := 11) nd rfl (Or.inl rfl))
            (fun _ _ _ _ _ => pts_nil) (fun _ _ _ _ _ => pe_as (t' := tStepT K 11) (pe_join pe_str (pe_lc (own := [("_law_part", 12)]) (g := gName 12) (by rfl) nd (pi_tup (pv 11)) (blkOk_by (own := [("_law_part", 12)]) (N := NL) (by kernel_rfl)) (fun _ _ _ _ _ => pg_name (i := 12) nd rfl (Or.inl rfl))
              (fun _ _ _ _ _ => pts_nil) (fun _ _ _ _ _ => pe_callTy (CallR.or call_str_int SkE.call_str_str) (by rfl) T.str (by decide +kernel) (pa_cons (pv 12) pa_nil)))) stepT_reads))))
        (pss_cons (ps_if (PW.pt (pw_or (pt_cmpR op_ne (pe_cal B.format hr6 passN (pa_cons (pv 2) pa_nil)) (pv 9) (nomark _)) (pw_or1 (pt_cmpR (op_neD hr.units) (pe_told (k := 4) (T := [(Pt, qL)]) B.Fg B.bg B.mg_ rfl B.F2 B.m2 B.k2 B.b2 B.mE TB rfl (List.mem_singleton.mpr rfl) (fun p hp _ => by rw [List.mem_singleton.mp hp]; rfl) hr (show LamX.LamS (defScope sLaw) _ from LamX.lamS_by (by decide +kernel)) rfl (fun _ _ _ _ _ => rfl)
              (fun A out s H E f c hr => pe_cal B.parse hr (L2N.passes_call (W := fun cls d _ H => E cls d H) (L2N.takes_of rfl rfl rfl rfl) (fun _ _ _ _ h => h)) (pa_cons (pv 9) pa_nil))) (pv 2) (nomark _))))) (pss_one (ps_ret pe_bl)) pss_nil)
        (pss_cons (ps_for PassesOwn.never rfl (pi_range1 (by rfl) T.range (pa_cons pe_int pa_nil)) (pg_name (i := 3) nd rfl (Or.inl rfl))
       (pss_cons (ps_par (i := 4) (j := 5) (by rfl) nd rfl rfl (by decide) rfl rfl (pa_cons (pe_cal B.roll hr2 pass0 (pa_cons (pv 1) (pa_cons (pe_op op_add (pe_callB call_len (by rfl) T.len PySem.boot_len (pa_cons (pv 9) pa_nil)) pe_int) pa_nil))) (pa_cons (pe_ix ix_str pe_str (pe_cal B.roll hr2 pass0 (pa_cons (pv 1) (pa_cons pe_int pa_nil))) (fun _ _ => rfl)) pa_nil)) (by rfl))
        (pss_cons (ps_set (i := 8) nd rfl (Or.inr rfl) (pe_ix ix_list (pe_lst (pa_cons (pe_op op_add_str (pe_slice sl_str (pv 9) po_none (po_some (pv 4))) (pe_slice sl_str (pv 9) (po_some (pe_op op_add (pv 4) pe_int)) po_none)) (pa_cons (pe_op op_add_str (pe_op op_add_str (pe_slice sl_str (pv 9) po_none (po_some (pv 4))) (pv 5)) (pe_slice sl_str (pv 9) (po_some (pv 4)) po_none)) (pa_cons (pe_op op_add_str (pv 9) (pv 5)) (pa_cons (pe_slice sl_str (pv 9) po_none (po_some (pv 4))) pa_nil))))) (pe_op op_mod (pv 3) pe_int) (fun _ _ => rfl)))
        (pss_cons (ps_set (i := 6) nd rfl (Or.inl rfl) (pe_told (k := 4) (T := [(Pt, qL)]) B.Fg B.bg B.mg_ rfl B.F2 B.m2 B.k2 B.b2 B.mE TB rfl (List.mem_singleton.mpr rfl) (fun p hp _ => by rw [List.mem_singleton.mp hp]; rfl) hr (show LamX.LamS (defScope sLaw) _ from LamX.lamS_by (by decide +kernel)) rfl (fun _ _ _ _ _ => rfl)
              (fun A out s H E f c hr => pe_cal B.parse hr (L2N.passes_call (W := fun cls d _ H => E cls d H) (L2N.takes_of rfl rfl rfl rfl) (fun _ _ _ _ h => h)) (pa_cons (pv 8) pa_nil))))
        (pss_one (ps_if (pt_cmpR (op_neD hr.units) (pv 6) (pe_tup (pa_cons pe_str (pa_cons pe_str pa_nil))) (nomark _))
         (pss_one (ps_if (PW.pt (pw_or (pt_not (pt_val (pe_cal B.isChain hr4 pass0 (pa_cons (pv 6) pa_nil)))) (pw_or1 (pt_cmpR op_ne (pe_cal B.format hr6 passN (pa_cons (pv 6) pa_nil)) (pv 8) (nomark _))))) (pss_one (ps_ret pe_bl)) pss_nil)) pss_nil))))))
        (pss_cons (ps_set (i := 7) nd rfl (Or.inl rfl) (pe_lst (pa_cons pe_non (pa_cons pe_int (pa_cons (pv 2) (pa_cons pe_str (pa_cons pe_str (pa_cons pe_str (pa_cons pe_str (pa_cons pe_str (pa_cons pe_str (pa_cons pe_str pa_nil))))))))))))
        (pss_cons (ps_set (i := 7) nd rfl (Or.inl rfl) (pe_op op_cat (pv 7) (pe_lst (pa_cons pe_str (pa_cons pe_str (pa_cons pe_str pa_nil))))))
        (pss_cons (ps_set (i := 7) nd rfl (Or.inl rfl) (pe_op op_cat (pv 7) (pe_lst (pa_cons pe_str (pa_cons (pe_op op_add_str (pe_op op_add_str pe_str (pe_op op_mul_str pe_str pe_int)) pe_str) (pa_cons pe_str (pa_cons pe_str (pa_cons pe_str pa_nil))))))))
        (pss_cons (ps_set (i := 7) nd rfl (Or.inl rfl) (pe_op op_cat (pv 7) (pe_lst (pa_cons pe_str (pa_cons pe_str (pa_cons pe_str pa_nil))))))
        (pss_cons (ps_for PassesOwn.never rfl (pi_list (pe_op op_cat (pv 7) (pe_lst (pa_cons (pe_op op_add_str (pe_op op_mul_str pe_str pe_int) pe_str) (pa_cons (pe_op op_add_str (pe_op op_mul_str pe_str pe_int) pe_str) pa_nil))))) (pg_name (i := 10) nd rfl (Or.inr rfl)) (pss_one (ps_if (pt_cmpR (op_neD hr.units) (pe_told (k := 4) (T := [(Pt, qL)]) B.Fg B.bg B.mg_ rfl B.F2 B.m2 B.k2 B.b2 B.mE TB rfl (List.mem_singleton.mpr rfl) (fun p hp _ => by rw [List.mem_singleton.mp hp]; rfl) hr (show LamX.LamS (defScope sLaw) _ from LamX.lamS_by (by decide +kernel)) rfl (fun _ _ _ _ _ => rfl)
              (fun A out s H E f c hr => pe_cal B.parse hr (L2N.passes_call (W := fun cls d _ H => E cls d H) (L2N.takes_of rfl rfl rfl rfl) (fun _ _ _ _ h => h)) (pa_cons (pv 10) pa_nil))) (pe_tup (pa_cons pe_str (pa_cons pe_str pa_nil))) (nomark _)) (pss_one (ps_ret pe_bl)) pss_nil)))
        (pss_cons (ps_if (PW.pt (pw_or (pt_cmpR (op_neD hr.units) (pe_cal B.parse hr5 passN (pa_cons pe_str pa_nil)) (pe_tup pa_nil) (nomark _)) (pw_or1 (pt_cmpR op_ne (pe_cal B.format hr6 passN (pa_cons (pe_tup pa_nil) pa_nil)) pe_str (nomark _))))) (pss_one (ps_ret pe_bl)) pss_nil)
        (pss_one (ps_if (pt_cmpR (op_neD hr.units) (pe_told (k := 4) (T := [(Pt, qL)]) B.Fg B.bg B.mg_ rfl B.F2 B.m2 B.k2 B.b2 B.mE TB rfl (List.mem_singleton.mpr rfl) (fun p hp _ => by rw [List.mem_singleton.mp hp]; rfl) hr (show LamX.LamS (defScope sLaw) _ from LamX.lamS_by (by decide +kernel)) rfl (fun _ _ _ _ _ => rfl)
              (fun A out s H E f c hr => pe_cal B.parse hr (L2N.passes_call (W := fun cls d _ H => E cls d H) (L2N.takes_of rfl rfl rfl rfl) (fun _ _ _ _ h => h)) (pa_cons pe_str pa_nil))) (pe_tup (pa_cons (pe_tup (pa_cons pe_str (pa_cons (pe_un un_neg pe_int) (pa_cons (pe_un un_neg pe_int) pa_nil)))) pa_nil)) (nomark _)) (pss_one (ps_ret pe_bl)) pss_nil)))))))))))))
      (pss_one (ps_ret pe_bl)))), ?_⟩
    refine ⟨_, rfl, a, ns, rfl, ha, hl, fun t ds H1 s1 hds ht hall nt => ⟨t, rfl, ⟨_, SqL.of ht⟩, ?_⟩⟩
    have r1 : Rt [(Pt, qL)] t ds H1 := ⟨ht, fun c hc => (hall c hc).1, fun p hp => by rw [List.mem_singleton.mp hp]; exact LamX.TabS.nil (s1 _ _ hP)⟩
    refine for_list (K := K) (a := t) (xs := ds.map V.ref) (fun i σ H2 => (∃ v1 v2 v3 v4 v5 v6 v7 v8 v9 v10 v11 v12 : Option V, σ = [some (.ref a), v1, v2, v3, v4, v5, v6, v7, v8, v9, v10, v11, v12]) ∧ Rt [(Pt, qL)] t ds H2)
      ⟨⟨_, _, _, _, _, _, _, _, _, _, _, _, rfl⟩, r1⟩ (fun i σ H2 _ ⟨_, r⟩ => SqL.of r.tl) ?_ ?_
    · clear r1 hall nt s1 ht ha hP hds H1
      rintro i x σ H2 hx ⟨⟨v1, v2, v3, v4, v5, v6, v7, v8, v9, v10, v11, v12, rfl⟩, r2⟩
      obtain ⟨d, hd, rfl⟩ : ∃ d, d ∈ ds ∧ x = .ref d := by
        obtain ⟨d, hd, e⟩ := List.mem_map.mp (List.mem_of_getElem? hx)
        exact ⟨d, hd, e.symm⟩
      have d2 := r2.rd hd
      refine ⟨_, rfl, d, rfl, d2.d, fun b cs H3 hc hca dd3 s3 => ?_⟩
      have d3 := d2.roll s3 dd3
      clear s3 dd3 d2 r2
      -- the text
      have hca' := hca
      obtain ⟨xs, hxs, hst⟩ := hca'
      refine ⟨⟨_, rfl⟩, _, rfl, b, rfl, ⟨_, hxs⟩, fun D nD => ?_⟩
      have hlen : cs.length ≤ 4 := chainOk_len hc
      refine lc_tup (K := K) (a := b) (xs := xs) (fun j H4 => H4 D = some (.lst (((cs.take j).map stepText).map V.str)) ∧ Same H3 H4) ⟨upd_same, same_upd (Same.refl H3) nD⟩ (fun j H4 _ ⟨_, s4⟩ => sqt_same s4 hxs) ?_ ?_
      · rintro j y H4 hy ⟨hD, s4⟩
        have hj : j < cs.length := by
          have := get_lt hy
          rw [hst.len, List.length_map] at this
          exact this
        have hcj : (cs.map some)[j]? = some (some cs[j]) := by rw [List.getElem?_map, List.getElem?_eq_getElem hj]; rfl
        obtain ⟨bs, rfl, hb, hn⟩ := hst.at_ j y _ hy hcj
        refine ⟨rfl, _, _, _, _, _, _, _, _, _, _, _, _, bs, cs[j], rfl, sqt_same s4 hb, chainOk_steps hc _ (List.getElem_mem hj), fun H5 s5 => ⟨_, s5 _ _ hD, ?_, ?_, ?_⟩⟩
        · rw [List.length_map, List.length_map, List.length_take]
          exact small1000 (by omega)
        · rw [upd_same, take_succ_get (List.getElem?_eq_getElem hj), List.map_append, List.map_append]
          rfl
        · intro q u hq
          have hqD : q ≠ D := fun z => by
            rw [z, nD] at hq
            cases hq
          rw [upd_ne hqD]
          exact s5 q u (s4 q u hq)
      · rintro H4 ⟨hD, s4⟩
        rw [hst.len, List.length_map, List.take_length] at hD
        refine ⟨_, D, cs.map stepText, rfl, rfl, .inl (SqL.of hD), ?_, ?_⟩
        · have h2 : ((cs.map stepText).map (·.length)).sum ≤ 100 * (cs.map stepText).length := sum_bound fun y hy => by
            obtain ⟨ys, hy', rfl⟩ := List.mem_map.mp hy
            exact stepText_len (chainOk_steps hc ys hy')
          have e2 : (" | " : Str).length = 3 := by decide +kernel
          rw [List.length_map] at h2
          rw [List.length_map, e2]
          omega
        · have d4 := d3.same s4
          have ca4 := hca.same s4
          clear hD hxs hst d3 hca s4 H3 nD D xs hx
          -- the law's own text against the program's
          refine ⟨_, rfl, .ref b, _, rfl, ca4.v, fun H5 s5 => ⟨fun cs' e hc' => ?_, fun hf => ?_⟩⟩
          · have e2 : cs' = cs := by
              have := congrArg (List.filterMap id) (Option.some.inj e)
              simpa using this.symm
            subst e2
            clear e hc'
            refine ⟨_, rfl, rfl, _, rfl, ifNe rfl ?_⟩
            have d5 := d4.same s5
            have ca5 := ca4.same s5
            clear d4 ca4 s5
            have hz : (chainText cs').length ≤ 500 := chainText_len hc
            have hpz : parse (chainText cs') = cs' := parse_text hc
            have eqc : PyData.eqv (chainData cs') (chainData cs') = true := SeqAt.eqv_refl _ (SeqAt.canLay_of_shaped (chain_shaped hc))
            refine told_str (z := chainText cs') (fun H1 R h => ⟨_, rfl, h⟩) (by omega) d5.tb B.one B.em (fun hok H6 a2 x6 t6 ca6 => ?_) (fun hno => ?_)
            · rw [hpz] at ca6
              have cb6 := chain_keep ca5 hc d5.d (Keep.ext x6)
              have d6 := d5.ext x6 t6
              refine ⟨_, rfl, chainData cs', chainData cs', chain_dp ca6 hc, chain_dp cb6 hc, chain_shaped hc, chain_shaped hc, _, rfl, ifEqvT eqc ?_⟩
              clear ca6 d5 ca5 x6 t6 hok
              refine ⟨10, rfl, by decide, by decide, for_range (lo := 0) (n := 10) (fun _ σ H7 => (∃ v3 v4 v5 v6 v8 : Option V, σ = [some (.ref a), some (.ref d), some (.ref b), v3, v4, v5, v6, v7, v8, some (.str (chainText cs')), v10, v11, v12]) ∧ Rd [(Pt, qL)] t d ds H7 ∧ ChainAt K H7 b cs')
                ⟨⟨_, _, _, _, _, rfl⟩, d6, cb6⟩ ?_ ?_⟩
              · clear d6 cb6 H6 v3 v4 v5 v6 v8
                rintro j σ H7 hj ⟨⟨v3, v4, v5, v6, v8, rfl⟩, d7, ca7⟩
                generalize chainText cs' = z at hz hpz ⊢
                have hsl : 4000 ≤ sizeLine := by decide
                refine ⟨_, rfl, _, rfl, .str z, z.length, rfl, ⟨by omega, rfl⟩, _, _, rfl, rfl, d, z.length + 1, rfl, d7.d, by omega, by omega, fun r H8 r0 r1 dd8 s8 => ?_⟩
                have d8 := d7.roll s8 dd8
                have ca8 := chain_keep ca7 hc d7.d (Keep.sameX s8)
                clear d7 ca7 s8 dd8
                refine ⟨_, rfl, d, 7, rfl, d8.d, by decide, by decide, fun r' H9 r0' r1' dd9 s9 => ?_⟩
                have d9 := d8.roll s9 dd9
                have ca9 := chain_keep ca8 hc d8.d (Keep.sameX s9)
                clear d8 ca8 s9 dd9
                obtain ⟨sg, hsg⟩ : ∃ c, atI ("0 |-1s2" : Str).cps.toList r' = some c := by
                  have all : ∀ m : Nat, m < 7 → ∃ c, ("0 |-1s2" : Str).cps.toList[m]? = some c := by
                    have l7 : ("0 |-1s2" : Str).cps.toList.length = 7 := by decide +kernel
                    intro m hm
                    exact ⟨_, List.getElem?_eq_getElem (by omega)⟩
                  obtain ⟨c, hc'⟩ := all r'.toNat (by omega)
                  have e : r' = (r'.toNat : Int) := by omega
                  rw [e]
                  exact ⟨c, atI_nat hc'⟩
                refine ⟨_, r', sg, rfl, rfl, Nat.le_trans (by decide +kernel : ("0 |-1s2" : Str).length ≤ 4000) hsl, hsg, _, _, rfl, ?_⟩
                have l1 : (⟨#[sg]⟩ : Str).length = 1 := rfl
                generalize (⟨#[sg]⟩ : Str) = sgn at l1 ⊢
                -- the four bent texts
                have hzl : z.length ≤ sizeLine := by omega
                have hcut : ∀ lo hi, (cutS z lo hi).length ≤ 500 := fun lo hi => Nat.le_trans (cutS_length z lo hi) hz
                have two : ∀ (x y : Str), x.length ≤ 1500 → y.length ≤ 1500 → x.length + y.length ≤ sizeLine := fun x y h1 h2 => by omega
                have b1 : (cutS z none (some r) ++ cutS z (some (r + 1)) none).length ≤ 1500 := by
                  have h1 := hcut none (some r)
                  have h2 := hcut (some (r + 1)) none
                  rw [Str.length_append]
                  omega
                have b2 : (cutS z none (some r) ++ sgn).length ≤ 1000 := by
                  have h1 := hcut none (some r)
                  rw [Str.length_append]
                  omega
                have b3 : (cutS z none (some r) ++ sgn ++ cutS z (some r) none).length ≤ 1500 := by
                  have h2 := hcut (some r) none
                  rw [Str.length_append]
                  omega
                have b4 : (z ++ sgn).length ≤ 1500 := by
                  rw [Str.length_append]
                  omega
                have b5 : (cutS z none (some r)).length ≤ 1500 := Nat.le_trans (hcut _ _) (by decide)
                have b6 : ∀ lo hi, (cutS z lo hi).length ≤ 1500 := fun lo hi => Nat.le_trans (hcut lo hi) (by decide)
                obtain ⟨y, hy, hyl⟩ : ∃ y : Str, atI [V.str (cutS z none (some r) ++ cutS z (some (r + 1)) none), .str (cutS z none (some r) ++ sgn ++ cutS z (some r) none), .str (z ++ sgn), .str (cutS z none (some r))] ((0 + (j : Int)) % 4) = some (.str y) ∧ y.length ≤ 1500 := by
                  have e : (0 + (j : Int)) % 4 = ((j % 4 : Nat) : Int) := by omega
                  rw [e]
                  have h4 : j % 4 < 4 := Nat.mod_lt _ (by decide)
                  match hm : j % 4, h4 with
                  | 0, _ => exact ⟨_, atI_nat rfl, b1⟩
                  | 1, _ => exact ⟨_, atI_nat rfl, b3⟩
                  | 2, _ => exact ⟨_, atI_nat rfl, b4⟩
                  | 3, _ => exact ⟨_, atI_nat rfl, b5⟩
                  | n + 4, h => omega
                refine ⟨_, rfl, _, rfl, _, rfl, z, rfl, hzl, _, rfl, _, rfl, _, _, rfl, rfl, _, rfl, z, rfl, hzl, _, _, rfl, rfl, two _ _ (b6 _ _) (b6 _ _), ?_⟩
                refine ⟨_, rfl, _, rfl, _, rfl, z, rfl, hzl, _, rfl, _, _, rfl, rfl, two _ _ (b6 _ _) (by omega), _, rfl, _, rfl, _, rfl, z, rfl, hzl, _, _, rfl, rfl, two _ _ (by omega) (b6 _ _), ?_⟩
                refine ⟨_, rfl, _, rfl, _, _, rfl, rfl, two _ _ (by omega) (by omega), _, rfl, _, rfl, _, rfl, z, rfl, hzl, (by show 4 ≤ sizeLine; omega), fun p np => ?_⟩
                refine ⟨_, rfl, _, _, rfl, rfl, (by show (0 : Int) < 4; decide), p, _, _, _, rfl, rfl, SqL.of upd_same, hy, ?_⟩
                have sp := same_upd (o := .lst [V.str (cutS z none (some r) ++ cutS z (some (r + 1)) none), .str (cutS z none (some r) ++ sgn ++ cutS z (some r) none), .str (z ++ sgn), .str (cutS z none (some r))]) (Same.refl H9) np
                have d10 := d9.same sp
                have ca10 := ca9.same sp
                generalize upd H9 p _ = H10 at sp d10 ca10 ⊢
                clear hy b1 b2 b3 b4 b5 b6 two hcut hzl sp np d9 ca9 l1 hsg
                -- what is told of it
                refine told_str (z := y) (fun H1 R h => ⟨_, rfl, h⟩) (by omega) d10.tb B.one B.em (fun hok H11 a3 x11 t11 ca11 => ?_) (fun hno H11 t3 x11 t11 ht3 => ?_)
                · have cb := chain_keep ca10 hc d10.d (Keep.ext x11)
                  have d11 := d10.ext x11 t11
                  refine ⟨_, rfl, (by show 2 ≤ sizeLine; omega), fun p3 np3 => ?_⟩
                  have s12 := same_upd (o := .tup [.str "error", .str "InvalidText"]) (Same.refl H11) np3
                  refine ⟨chainData (parse y), errData "InvalidText", chain_dp (ca11.same s12) hok, err_dp upd_same, chain_shaped hok, err_shaped, _, rfl, ifEqvF (chain_not_err _) ?_⟩
                  refine ⟨_, rfl, .ref a3, _, rfl, (ca11.same s12).v, fun H13 s13 => ⟨_, rfl, ifNot ((chainOkL_some _).trans hok) ?_⟩⟩
                  refine ⟨_, rfl, .ref a3, _, rfl, ((ca11.same s12).same s13).v, fun H14 s14 => ⟨fun cs2 e2 hc2 => ?_, fun hf => ?_⟩⟩
                  · have e3 : cs2 = parse y := by
                      have := congrArg (List.filterMap id) (Option.some.inj e2)
                      simpa using this.symm
                    refine ⟨_, rfl, rfl, _, rfl, ifNe (by rw [e3, text_parse hok]) ?_⟩
                    exact ⟨⟨_, _, _, _, _, rfl⟩, ((d11.same s12).same s13).same s14, ((cb.same s12).same s13).same s14⟩
                  · have : chainOk (parse y) = false := (chainOkL_some _).symm.trans hf
                    rw [hok] at this
                    cases this
                · have cb := chain_keep ca10 hc d10.d (Keep.ext x11)
                  have d11 := d10.ext x11 t11
                  refine ⟨_, rfl, (by show 2 ≤ sizeLine; omega), fun p3 np3 => ?_⟩
                  have s12 := same_upd (o := .tup [.str "error", .str "InvalidText"]) (Same.refl H11) np3
                  refine ⟨errData "InvalidText", errData "InvalidText", err_dp (s12 _ _ ht3), err_dp upd_same, err_shaped, err_shaped, _, rfl, ifEqvT (SeqAt.eqv_refl _ (SeqAt.canLay_of_shaped err_shaped)) ?_⟩
                  exact ⟨⟨_, _, _, _, _, rfl⟩, d11.same s12, cb.same s12⟩
              · clear d6 cb6 H6 v3 v4 v5 v6 v8
                rintro σ H7 ⟨⟨v3, v4, v5, v6, v8, rfl⟩, d7, ca7⟩
                have hsl : 100 ≤ sizeLine := by decide
                -- the texts that are none
                have lenN : (("line " : Str) ++ Txt.mul "1" 5000).length + (" 0" : Str).length ≤ 1000000 := by
                  have := bad_lens.1
                  unfold badN at this
                  rw [Str.length_append] at this
                  exact this
                have lenN1 : ("line " : Str).length + (Txt.mul "1" 5000).length ≤ 1000000 := by
                  rw [Str.length_append] at lenN
                  omega
                have lenS : (Txt.mul "sums | " 1200).length + ("sums" : Str).length ≤ 1000000 := by
                  have := bad_lens.2
                  unfold badS at this
                  rw [Str.length_append] at this
                  exact this
                have len5 : (Txt.mul "line 1 0 | " 4).length + ("line 1 0" : Str).length ≤ 1000 := by decide +kernel
                have len6 : bad5.length ≤ 1000000 := by decide +kernel
                have hsm : 1000000 ≤ sizeLine := by decide
                refine ⟨_, rfl, (by show 10 ≤ sizeLine; omega), fun p1 n1 => ?_⟩
                have s1 := same_upd (o := .lst ([V.non, .int 5, .ref b] ++ z1.map V.str)) (Same.refl H7) n1
                have e1 : upd H7 p1 (.lst ([V.non, .int 5, .ref b] ++ z1.map V.str)) p1 = some (.lst ([V.non, .int 5, .ref b] ++ z1.map V.str)) := upd_same
                have g1 : ∀ v ∈ ([V.non, .int 5, .ref b] ++ z1.map V.str), BadV b v := bad_app (bad_cons (.inl rfl) (bad_cons (.inr (.inl rfl)) (bad_cons (.inr (.inr (.inl rfl))) bad_nil))) (bad_lit (by decide +kernel))
                have l1 : ([V.non, .int 5, .ref b] ++ z1.map V.str).length = 10 := rfl
                show tSeq _ _ _ _ (upd H7 p1 (.lst ([V.non, .int 5, .ref b] ++ z1.map V.str)))
                generalize upd H7 p1 (.lst ([V.non, .int 5, .ref b] ++ z1.map V.str)) = Ha at s1 e1 ⊢
                generalize ([V.non, .int 5, .ref b] ++ z1.map V.str) = La at e1 g1 l1
                refine ⟨_, rfl, (by show 3 ≤ sizeLine; omega), fun q2 m2 => ⟨_, _, _, _, rfl, rfl, (upd_ne (ne_of_none e1 m2)).trans e1, upd_same, (by show La.length + 3 ≤ sizeLine; omega), fun p2 n2 => ?_⟩⟩
                have s2 := same_upd (o := .lst (La ++ z2.map V.str)) (same_upd (o := .lst (z2.map V.str)) s1 m2) n2
                have e2 : (upd (upd Ha q2 (.lst (z2.map V.str))) p2 (.lst (La ++ z2.map V.str))) p2 = some (.lst (La ++ z2.map V.str)) := upd_same
                have g2 : ∀ v ∈ (La ++ z2.map V.str), BadV b v := bad_app g1 (bad_lit (by decide +kernel))
                have l2 : (La ++ z2.map V.str).length = 13 := by rw [List.length_append, l1]; rfl
                show tSeq _ _ _ _ (upd (upd Ha q2 (.lst (z2.map V.str))) p2 (.lst (La ++ z2.map V.str)))
                generalize (upd (upd Ha q2 (.lst (z2.map V.str))) p2 (.lst (La ++ z2.map V.str))) = Hb at s2 e2 ⊢
                generalize (La ++ z2.map V.str) = Lb at e2 g2 l2
                clear e1 g1 l1 s1
                refine ⟨_, rfl, _, _, rfl, rfl, ok5000, _, _, rfl, rfl, (by omega), _, _, rfl, rfl, (by omega), (by show 5 ≤ sizeLine; omega), fun q3 m3 => ⟨_, _, _, _, rfl, rfl, (upd_ne (ne_of_none e2 m3)).trans e2, upd_same, (by show Lb.length + 5 ≤ sizeLine; omega), fun p3 n3 => ?_⟩⟩
                have s3 := same_upd (o := .lst (Lb ++ z3.map V.str)) (same_upd (o := .lst (z3.map V.str)) s2 m3) n3
                have e3 : (upd (upd Hb q3 (.lst (z3.map V.str))) p3 (.lst (Lb ++ z3.map V.str))) p3 = some (.lst (Lb ++ z3.map V.str)) := upd_same
                have g3 : ∀ v ∈ (Lb ++ z3.map V.str), BadV b v := bad_app g2 bad3
                have l3 : (Lb ++ z3.map V.str).length = 18 := by rw [List.length_append, l2]; rfl
                show tSeq _ _ _ _ (upd (upd Hb q3 (.lst (z3.map V.str))) p3 (.lst (Lb ++ z3.map V.str)))
                generalize (upd (upd Hb q3 (.lst (z3.map V.str))) p3 (.lst (Lb ++ z3.map V.str))) = Hc at s3 e3 ⊢
                generalize (Lb ++ z3.map V.str) = Lc at e3 g3 l3
                clear e2 g2 l2 s2
                refine ⟨_, rfl, (by show 3 ≤ sizeLine; omega), fun q4 m4 => ⟨_, _, _, _, rfl, rfl, (upd_ne (ne_of_none e3 m4)).trans e3, upd_same, (by show Lc.length + 3 ≤ sizeLine; omega), fun p4 n4 => ?_⟩⟩
                have s4 := same_upd (o := .lst (Lc ++ z4.map V.str)) (same_upd (o := .lst (z4.map V.str)) s3 m4) n4
                have e4 : (upd (upd Hc q4 (.lst (z4.map V.str))) p4 (.lst (Lc ++ z4.map V.str))) p4 = some (.lst (Lc ++ z4.map V.str)) := upd_same
                have g4 : ∀ v ∈ (Lc ++ z4.map V.str), BadV b v := bad_app g3 (bad_lit (by decide +kernel))
                have l4 : (Lc ++ z4.map V.str).length = 21 := by rw [List.length_append, l3]; rfl
                show tSeq _ _ _ _ (upd (upd Hc q4 (.lst (z4.map V.str))) p4 (.lst (Lc ++ z4.map V.str)))
                generalize (upd (upd Hc q4 (.lst (z4.map V.str))) p4 (.lst (Lc ++ z4.map V.str))) = Hd at s4 e4 ⊢
                generalize (Lc ++ z4.map V.str) = Ld at e4 g4 l4
                clear e3 g3 l3 s3
                refine ⟨_, rfl, _, _, rfl, rfl, ok1200, _, _, rfl, rfl, (by omega), _, _, rfl, rfl, ok4, _, _, rfl, rfl, (by omega), (by show 2 ≤ sizeLine; omega), fun q5 m5 => ⟨_, _, _, _, rfl, rfl, (upd_ne (ne_of_none e4 m5)).trans e4, upd_same, (by show Ld.length + 2 ≤ sizeLine; omega), fun p5 n5 => ⟨p5, rfl, ⟨_, SqL.of upd_same⟩, ?_⟩⟩⟩
                have s5 := same_upd (o := .lst (Ld ++ z5.map V.str)) (same_upd (o := .lst (z5.map V.str)) s4 m5) n5
                have e5 : (upd (upd Hd q5 (.lst (z5.map V.str))) p5 (.lst (Ld ++ z5.map V.str))) p5 = some (.lst (Ld ++ z5.map V.str)) := upd_same
                have g5 : ∀ v ∈ Ld ++ z5.map V.str, BadV b v := bad_app g4 bad_5
                refine for_list (K := K) (a := p5) (xs := Ld ++ z5.map V.str) (fun _ σ H8 => (∃ v10 : Option V, σ = [some (.ref a), some (.ref d), some (.ref b), v3, v4, v5, v6, some (.ref p4), v8, some (.str (chainText cs')), v10, v11, v12]) ∧ H8 p5 = some (.lst (Ld ++ z5.map V.str)) ∧ Rd [(Pt, qL)] t d ds H8 ∧ ChainAt K H8 b cs')
                  ⟨⟨_, rfl⟩, e5, d7.same s5, ca7.same s5⟩ (fun _ σ H8 _ ⟨_, h, _⟩ => SqL.of h) ?_ ?_
                · clear s5 e5 s4 e4 g4 l4 m5 n5 n4 m4 n3 m3 n2 m2 n1 d7 ca7 v10
                  rintro k x σ H8 hx ⟨⟨v10, rfl⟩, e8, d8, ca8⟩
                  have hb := g5 x (List.mem_of_getElem? hx)
                  clear hx g5
                  rcases hb with rfl | rfl | rfl | ⟨z, rfl, hzl, hno⟩
                  · refine told_other (x := .non) (fun H1 R h => ⟨_, rfl, h⟩) (fun H1 _ => nice_non) rfl d8.tb B.one B.em (fun H9 t9 x9 tb9 ht9 => ?_)
                    have cb9 := chain_keep ca8 hc d8.d (Keep.ext x9)
                    have d9 := d8.ext x9 tb9
                    have e9 := x9 p5 _ e8 (fun ps z => by cases z)
                    refine ⟨(by show 2 ≤ sizeLine; omega), fun p3 np3 => ?_⟩
                    have s12 := same_upd (o := .tup [.str "error", .str "InvalidText"]) (Same.refl H9) np3
                    refine ⟨errData "InvalidText", errData "InvalidText", err_dp (s12 _ _ ht9), err_dp upd_same, err_shaped, err_shaped, _, rfl, ifEqvT (SeqAt.eqv_refl _ (SeqAt.canLay_of_shaped err_shaped)) ?_⟩
                    exact ⟨⟨_, rfl⟩, s12 _ _ e9, d9.same s12, cb9.same s12⟩
                  · refine told_other (x := .int 5) (fun H1 R h => ⟨_, rfl, h⟩) (fun H1 _ => strInt_nice rfl) rfl d8.tb B.one B.em (fun H9 t9 x9 tb9 ht9 => ?_)
                    have cb9 := chain_keep ca8 hc d8.d (Keep.ext x9)
                    have d9 := d8.ext x9 tb9
                    have e9 := x9 p5 _ e8 (fun ps z => by cases z)
                    refine ⟨(by show 2 ≤ sizeLine; omega), fun p3 np3 => ?_⟩
                    have s12 := same_upd (o := .tup [.str "error", .str "InvalidText"]) (Same.refl H9) np3
                    refine ⟨errData "InvalidText", errData "InvalidText", err_dp (s12 _ _ ht9), err_dp upd_same, err_shaped, err_shaped, _, rfl, ifEqvT (SeqAt.eqv_refl _ (SeqAt.canLay_of_shaped err_shaped)) ?_⟩
                    exact ⟨⟨_, rfl⟩, s12 _ _ e9, d9.same s12, cb9.same s12⟩
                  · refine told_other (x := .ref b) (fun H1 R h => ⟨_, rfl, h⟩) (fun H1 x1 => ?_) rfl d8.tb B.one B.em (fun H9 t9 x9 tb9 ht9 => ?_)
                    · obtain ⟨xs, h1, _⟩ := chain_keep ca8 hc d8.d (Keep.ext x1)
                      exact ⟨"tuple", by decide, ty_tup h1⟩
                    · have cb9 := chain_keep ca8 hc d8.d (Keep.ext x9)
                      have d9 := d8.ext x9 tb9
                      have e9 := x9 p5 _ e8 (fun ps z => by cases z)
                      refine ⟨(by show 2 ≤ sizeLine; omega), fun p3 np3 => ?_⟩
                      have s12 := same_upd (o := .tup [.str "error", .str "InvalidText"]) (Same.refl H9) np3
                      refine ⟨errData "InvalidText", errData "InvalidText", err_dp (s12 _ _ ht9), err_dp upd_same, err_shaped, err_shaped, _, rfl, ifEqvT (SeqAt.eqv_refl _ (SeqAt.canLay_of_shaped err_shaped)) ?_⟩
                      exact ⟨⟨_, rfl⟩, s12 _ _ e9, d9.same s12, cb9.same s12⟩
                  · refine told_str (z := z) (fun H1 R h => ⟨_, rfl, h⟩) hzl d8.tb B.one B.em (fun hok H9 t9 x9 tb9 ht9 => ?_) (fun _ H9 t9 x9 tb9 ht9 => ?_)
                    · rw [hno] at hok
                      cases hok
                    · have cb9 := chain_keep ca8 hc d8.d (Keep.ext x9)
                      have d9 := d8.ext x9 tb9
                      have e9 := x9 p5 _ e8 (fun ps z => by cases z)
                      refine ⟨(by show 2 ≤ sizeLine; omega), fun p3 np3 => ?_⟩
                      have s12 := same_upd (o := .tup [.str "error", .str "InvalidText"]) (Same.refl H9) np3
                      refine ⟨errData "InvalidText", errData "InvalidText", err_dp (s12 _ _ ht9), err_dp upd_same, err_shaped, err_shaped, _, rfl, ifEqvT (SeqAt.eqv_refl _ (SeqAt.canLay_of_shaped err_shaped)) ?_⟩
                      exact ⟨⟨_, rfl⟩, s12 _ _ e9, d9.same s12, cb9.same s12⟩
                · clear s5 e5 s4 e4 g4 l4 m5 n5 n4 m4 n3 m3 n2 m2 n1 d7 ca7 v10 g5
                  rintro σ H8 ⟨⟨v10, rfl⟩, _, d8, ca8⟩
                  have hnil : chainOk [] = true := by decide +kernel
                  refine ⟨_, rfl, .inl ⟨"", rfl, by decide, fun H9 s9 => ⟨fun hok p0 np0 ca0 => ?_, fun hno => ?_⟩⟩⟩
                  · rw [parse_empty] at ca0
                    refine ⟨(by show 0 ≤ sizeLine; omega), fun p6 n6 => ?_⟩
                    have s10 := same_upd (o := .tup []) (Same.refl H9) n6
                    refine ⟨chainData [], chainData [], chain_dp (ca0.same s10) hnil, .tup (SqT.of upd_same) .nil, chain_shaped hnil, chain_shaped hnil, _, rfl, ifEqvT (SeqAt.eqv_refl _ (SeqAt.canLay_of_shaped (chain_shaped hnil))) ?_⟩
                    have d10 := (d8.same s9).same s10
                    clear ca0 s9
                    refine ⟨(by show 0 ≤ sizeLine; omega), fun p7 n7 => ?_⟩
                    refine ⟨.ref p7, some ([].map some), rfl, ⟨p7, [], rfl, SqT.of upd_same, rfl, fun i x o h _ => by simp at h⟩, fun H11 s11 => ⟨fun cs2 e2 hc2 => ?_, fun hf => ?_⟩⟩
                    · have e3 : cs2 = [] := by
                        have := congrArg (List.filterMap id) (Option.some.inj e2)
                        simpa using this.symm
                      refine ⟨rfl, _, rfl, ifNe (by rw [e3, text_empty]) ?_⟩
                      have d11 := (d10.same (same_upd (o := .tup []) (Same.refl _) n7)).same s11
                      refine told_str (z := "line -3 -9") (fun H1 R h => h) (by decide) d11.tb B.one B.em (fun hok H12 a9 x9 tb9 ca9 => ?_) (fun hno => ?_)
                      · rw [parse_line] at ca9
                        have d12 := d11.ext x9 tb9
                        refine ⟨_, rfl, _, rfl, (by show 3 ≤ sizeLine; omega), fun p8 n8 => ⟨(by show 1 ≤ sizeLine; omega), fun p9 n9 => ?_⟩⟩
                        have s13 := same_upd (o := .tup [V.ref p8]) (same_upd (o := .tup [V.str "line", .int (-3), .int (-9)]) (Same.refl H12) n8) n9
                        have e8 : upd H12 p8 (.tup [V.str "line", .int (-3), .int (-9)]) p8 = some (.tup [V.str "line", .int (-3), .int (-9)]) := upd_same
                        refine ⟨chainData [[.str "line", .int (-3), .int (-9)]], chainData [[.str "line", .int (-3), .int (-9)]], chain_dp (ca9.same s13) line_ok, .tup (SqT.of upd_same) (.cons (.tup (SqT.of ((upd_ne (ne_of_none e8 n9)).trans e8)) (.cons (.str _) (.cons (.int _) (.cons (.int _) .nil)))) .nil), chain_shaped line_ok, chain_shaped line_ok, _, rfl, ifEqvT (SeqAt.eqv_refl _ (SeqAt.canLay_of_shaped (chain_shaped line_ok))) ?_⟩
                        exact ⟨⟨_, _, _, _, _, _, _, _, _, _, _, _, rfl⟩, (d12.same s13).rt⟩
                      · rw [parse_line, line_ok] at hno
                        cases hno
                    · have : chainOk [] = false := (chainOkL_some []).symm.trans hf
                      rw [hnil] at this
                      cases this
                  · rw [parse_empty, hnil] at hno
                    cases hno
            · rw [hpz, hc] at hno
              cases hno
          · have : chainOk cs = false := by
              rw [← chainOkL_some]
              exact hf
            rw [hc] at this
            cases this
    · rintro σ H2 ⟨⟨v1, v2, v3, v4, v5, v6, v7, v8, v9, v10, v11, v12, rfl⟩, r2⟩
      exact q H2
end
end FC
set_option Elab.async false
set_option linter.all false
set_option maxRecDepth 100000
set_option maxHeartbeats 1000000
namespace FC
open PySem PySem.Spec PyProof.Rows L2
/-! ### what the top leaves -/
def DefOk (K : PySem.W.Frag) (x : Str) (st : Stmt) : Prop := ∃ (f : Addr) (fd : FuncData), PySem.W.nsIn K mainGlobals x = some (some (.ref f)) ∧ Fun K x x st f fd
theorem defOk {K : PySem.W.Frag} {x : Str} {st : Stmt} {f : Addr} {oc : Value} {od an : Option Addr} {osl : Array (Option Value)} {kV doc pm cdv ct : Value} (a : PySem.W.nsIn K mainGlobals x = some (some (.ref f)))
    (l : K.lookup f = some ⟨oc, od, .func (PySem.W.fnOf x x (defArgs st) (defBody st) (defScope st) .none kV doc pm an cdv ct), osl⟩) (c : PySem.W.codeIn K cdv x = true) (k : PySem.W.keepIn K (.ref f) = true) : DefOk K x st := ⟨f, _, a, fun_mk l c k⟩
def ent (P : Params) (e : Str × Tok × Value) : DictEntry := ⟨PyData.keyHash P e.1, .str e.1 e.2.1, e.2.2⟩
def nsL (l : List (Str × Tok × Value)) (z : Str) : Option Value := (l.find? fun e => e.1 == z).map (·.2.2)
def All2 {β : Type} (R : β → Value → Prop) : List (Str × Tok × Value) → List (Str × β) → Prop
  | [], [] => True
  | e :: l, b :: t => e.1 = b.1 ∧ R b.2 e.2.2 ∧ All2 R l t
  | _, _ => False
theorem all2_find {β : Type} {R : β → Value → Prop} : ∀ {l : List (Str × Tok × Value)} {tb : List (Str × β)}, All2 R l tb → ∀ z, match tb.lookup z with
    | none => nsL l z = none
    | some b => ∃ v, nsL l z = some v ∧ R b v
  | [], [], _, z => rfl
  | e :: l, b :: t, ⟨h1, h2, h3⟩, z => by
    obtain ⟨x, k, v⟩ := e
    obtain ⟨y, b⟩ := b
    have h1 : x = y := h1
    subst h1
    by_cases hz : z = x
    · subst hz
      have e1 : nsL ((z, k, v) :: l) z = some v := by
        unfold nsL
        rw [List.find?_cons_of_pos (by simp)]
        rfl
      simp only [List.lookup, beq_self_eq_true]
      exact ⟨v, e1, h2⟩
    · have e1 : nsL ((x, k, v) :: l) z = nsL l z := by
        unfold nsL
        rw [List.find?_cons_of_neg (by simp; exact fun q => hz q.symm)]
      have e2 : (z == x) = false := beq_eq_false_iff_ne.mpr hz
      simp only [List.lookup, e2, e1]
      exact all2_find h3 z
section
variable {K : PySem.W.Frag} {w : World} {d : Addr} {n : Nat} {l : List (Str × Tok × Value)}
theorem keysLit_ents {P : Params} : ∀ (l : List (Str × Tok × Value)), PySem.W.KeysLit P (l.map (ent P))
  | [] => trivial
  | e :: r => ⟨⟨_, _, rfl, rfl⟩, keysLit_ents r⟩
theorem kd_ents (h : K.lookup d = some ⟨.type "dict", none, .dict (l.map (ent w.params)).toArray n, #[]⟩) (low : (d == sysModules) = false) : KDict K w d (l.map (ent w.params)).toArray n := ⟨h, keysLit_ents l, low⟩
theorem find_ents {P : Params} (z : Str) : ∀ (l : List (Str × Tok × Value)), (l.map (ent P)).find? (·.key.isStr z) = (l.find? fun e => e.1 == z).map (ent P)
  | [] => rfl
  | e :: r => by
    rw [List.map_cons, List.find?_cons, List.find?_cons]
    have e1 : (ent P e).key.isStr z = (e.1 == z) := rfl
    rw [e1]
    cases (e.1 == z) with
    | true => rfl
    | false => exact find_ents z r
theorem noRef_ents {P : Params} : ∀ (l : List (Str × Tok × Value)), (l.map (ent P)).any (·.refKey) = false
  | [] => rfl
  | e :: r => by
    rw [List.map_cons, List.any_cons, noRef_ents r]
    rfl
theorem ns_ents {o : Value} {od : Option Addr} {sl : Array (Option Value)} {P : Params} (h : K.lookup d = some ⟨o, od, .dict (l.map (ent P)).toArray n, sl⟩) (z : Str) : PySem.W.nsIn K d z = some (nsL l z) := by
  unfold PySem.W.nsIn
  rw [h]
  show (match ((l.map (ent P)).toArray.toList).find? (·.key.isStr z) with
    | some e => some (some e.val)
    | none => if ((l.map (ent P)).toArray.toList).any (·.refKey) then none else some none) = _
  rw [List.toList_toArray, find_ents, noRef_ents]
  unfold nsL
  cases l.find? (fun e => e.1 == z) <;> rfl
end
def TupV (K : PySem.W.Frag) (a : Addr) (xs : List V) : Prop := ∃ (o : Obj) (its : Array Value) (n : Nat), K.lookup a = some o ∧ o.cls = .type "tuple" ∧ o.data = .seq its n ∧ its.size ≤ sizeLine ∧ Vals xs its.toList
theorem TupV.sq {K : PySem.W.Frag} {a : Addr} {xs : List V} (h : TupV K a xs) : ∀ H, SqT K H a xs := fun H => .inr h
theorem tup0 {K : PySem.W.Frag} {a : Addr} {od : Option Addr} {n : Nat} {sl : Array (Option Value)} (l : K.lookup a = some ⟨.type "tuple", od, .seq #[] n, sl⟩)  : TupV K a [] := ⟨_, _, _, l, rfl, rfl, (by show 0 ≤ sizeLine; decide), .nil⟩
theorem tup1 {K : PySem.W.Frag} {a : Addr} {od : Option Addr} {n : Nat} {sl : Array (Option Value)} {x0 : V} {u0 : Value} (l : K.lookup a = some ⟨.type "tuple", od, .seq #[u0] n, sl⟩) (r0 : RelV x0 u0) : TupV K a [x0] := ⟨_, _, _, l, rfl, rfl, (by show 1 ≤ sizeLine; decide), (.cons r0 .nil)⟩
theorem tup2 {K : PySem.W.Frag} {a : Addr} {od : Option Addr} {n : Nat} {sl : Array (Option Value)} {x0 x1 : V} {u0 u1 : Value} (l : K.lookup a = some ⟨.type "tuple", od, .seq #[u0, u1] n, sl⟩) (r0 : RelV x0 u0) (r1 : RelV x1 u1) : TupV K a [x0, x1] := ⟨_, _, _, l, rfl, rfl, (by show 2 ≤ sizeLine; decide), (.cons r0 (.cons r1 .nil))⟩
theorem tup3 {K : PySem.W.Frag} {a : Addr} {od : Option Addr} {n : Nat} {sl : Array (Option Value)} {x0 x1 x2 : V} {u0 u1 u2 : Value} (l : K.lookup a = some ⟨.type "tuple", od, .seq #[u0, u1, u2] n, sl⟩) (r0 : RelV x0 u0) (r1 : RelV x1 u1) (r2 : RelV x2 u2) : TupV K a [x0, x1, x2] := ⟨_, _, _, l, rfl, rfl, (by show 3 ≤ sizeLine; decide), (.cons r0 (.cons r1 (.cons r2 .nil)))⟩
theorem tup4 {K : PySem.W.Frag} {a : Addr} {od : Option Addr} {n : Nat} {sl : Array (Option Value)} {x0 x1 x2 x3 : V} {u0 u1 u2 u3 : Value} (l : K.lookup a = some ⟨.type "tuple", od, .seq #[u0, u1, u2, u3] n, sl⟩) (r0 : RelV x0 u0) (r1 : RelV x1 u1) (r2 : RelV x2 u2) (r3 : RelV x3 u3) : TupV K a [x0, x1, x2, x3] := ⟨_, _, _, l, rfl, rfl, (by show 4 ≤ sizeLine; decide), (.cons r0 (.cons r1 (.cons r2 (.cons r3 .nil))))⟩
theorem tup5 {K : PySem.W.Frag} {a : Addr} {od : Option Addr} {n : Nat} {sl : Array (Option Value)} {x0 x1 x2 x3 x4 : V} {u0 u1 u2 u3 u4 : Value} (l : K.lookup a = some ⟨.type "tuple", od, .seq #[u0, u1, u2, u3, u4] n, sl⟩) (r0 : RelV x0 u0) (r1 : RelV x1 u1) (r2 : RelV x2 u2) (r3 : RelV x3 u3) (r4 : RelV x4 u4) : TupV K a [x0, x1, x2, x3, x4] := ⟨_, _, _, l, rfl, rfl, (by show 5 ≤ sizeLine; decide), (.cons r0 (.cons r1 (.cons r2 (.cons r3 (.cons r4 .nil)))))⟩
def LetOk (K : PySem.W.Frag) (w : World) : Prop := ∃ d, PySem.W.nsIn K mainGlobals "LETTERS" = some (some (.ref d)) ∧ LetT K w d
theorem letOk {K : PySem.W.Frag} {w : World} {d : Addr} {n : Nat} {t0 t1 t2 t3 t4 t5 t6 t7 t8 t9 : Tok} {a0 a1 a2 a3 a4 a5 a6 a7 a8 a9 : Addr} (g : PySem.W.nsIn K mainGlobals "LETTERS" = some (some (.ref d)))
    (h : K.lookup d = some ⟨.type "dict", none, .dict #[⟨PyData.keyHash w.params "line", .str "line" t0, .ref a0⟩, ⟨PyData.keyHash w.params "turn", .str "turn" t1, .ref a1⟩, ⟨PyData.keyHash w.params "keep", .str "keep" t2, .ref a2⟩, ⟨PyData.keyHash w.params "every", .str "every" t3, .ref a3⟩, ⟨PyData.keyHash w.params "twice", .str "twice" t4, .ref a4⟩, ⟨PyData.keyHash w.params "sums", .str "sums" t5, .ref a5⟩, ⟨PyData.keyHash w.params "anew", .str "anew" t6, .ref a6⟩, ⟨PyData.keyHash w.params "gaps", .str "gaps" t7, .ref a7⟩, ⟨PyData.keyHash w.params "groups", .str "groups" t8, .ref a8⟩, ⟨PyData.keyHash w.params "count", .str "count" t9, .ref a9⟩] n, #[]⟩) (low : (d == sysModules) = false)
    (h0 : TupV K a0 [.str "a", .str "b"]) (h1 : TupV K a1 [.str "m", .str "r", .str "a", .str "b"]) (h2 : TupV K a2 [.str "m", .str "r"]) (h3 : TupV K a3 [.str "k", .str "r"]) (h4 : TupV K a4 []) (h5 : TupV K a5 []) (h6 : TupV K a6 [.str "m", .str "r"]) (h7 : TupV K a7 []) (h8 : TupV K a8 [.str "k"]) (h9 : TupV K a9 []) : LetOk K w := by
  have h : K.lookup d = some ⟨.type "dict", none, .dict (([("line", t0, .ref a0), ("turn", t1, .ref a1), ("keep", t2, .ref a2), ("every", t3, .ref a3), ("twice", t4, .ref a4), ("sums", t5, .ref a5), ("anew", t6, .ref a6), ("gaps", t7, .ref a7), ("groups", t8, .ref a8), ("count", t9, .ref a9)] : List (Str × Tok × Value)).map (ent w.params)).toArray n, #[]⟩ := h
  refine ⟨d, g, ⟨_, _, kd_ents h low⟩, fun z => ⟨_, ns_ents h z, ?_⟩⟩
  have al : All2 (fun (ls : List Str) v => ∃ a, v = .ref a ∧ ∀ H, SqT K H a (ls.map V.str)) [("line", t0, .ref a0), ("turn", t1, .ref a1), ("keep", t2, .ref a2), ("every", t3, .ref a3), ("twice", t4, .ref a4), ("sums", t5, .ref a5), ("anew", t6, .ref a6), ("gaps", t7, .ref a7), ("groups", t8, .ref a8), ("count", t9, .ref a9)] tab := ⟨rfl, ⟨_, rfl, h0.sq⟩, ⟨rfl, ⟨_, rfl, h1.sq⟩, ⟨rfl, ⟨_, rfl, h2.sq⟩, ⟨rfl, ⟨_, rfl, h3.sq⟩, ⟨rfl, ⟨_, rfl, h4.sq⟩, ⟨rfl, ⟨_, rfl, h5.sq⟩, ⟨rfl, ⟨_, rfl, h6.sq⟩, ⟨rfl, ⟨_, rfl, h7.sq⟩, ⟨rfl, ⟨_, rfl, h8.sq⟩, ⟨rfl, ⟨_, rfl, h9.sq⟩, trivial⟩⟩⟩⟩⟩⟩⟩⟩⟩⟩
  have := all2_find al z
  revert this
  cases tab.lookup z with
  | none => exact fun h => h
  | some ls => exact fun ⟨v, h1, a, h2, h3⟩ => ⟨a, by rw [h1, h2], h3⟩
def NumOk (K : PySem.W.Frag) (w : World) : Prop := ∃ d, PySem.W.nsIn K mainGlobals "NUMBERS" = some (some (.ref d)) ∧ NumT K w d
theorem numOk {K : PySem.W.Frag} {w : World} {d : Addr} {n : Nat} {t0 t1 t2 t3 t4 t5 t6 t7 t8 t9 t10 t11 t12 t13 t14 t15 t16 t17 t18 : Tok} {u0 u1 u2 u3 u4 u5 u6 u7 u8 u9 u10 u11 u12 u13 u14 u15 u16 u17 u18 : Tok} (g : PySem.W.nsIn K mainGlobals "NUMBERS" = some (some (.ref d)))
    (h : K.lookup d = some ⟨.type "dict", none, .dict #[⟨PyData.keyHash w.params "-9", .str "-9" t0, .int (-9) u0⟩, ⟨PyData.keyHash w.params "-8", .str "-8" t1, .int (-8) u1⟩, ⟨PyData.keyHash w.params "-7", .str "-7" t2, .int (-7) u2⟩, ⟨PyData.keyHash w.params "-6", .str "-6" t3, .int (-6) u3⟩, ⟨PyData.keyHash w.params "-5", .str "-5" t4, .int (-5) u4⟩, ⟨PyData.keyHash w.params "-4", .str "-4" t5, .int (-4) u5⟩, ⟨PyData.keyHash w.params "-3", .str "-3" t6, .int (-3) u6⟩, ⟨PyData.keyHash w.params "-2", .str "-2" t7, .int (-2) u7⟩, ⟨PyData.keyHash w.params "-1", .str "-1" t8, .int (-1) u8⟩, ⟨PyData.keyHash w.params "0", .str "0" t9, .int (0) u9⟩, ⟨PyData.keyHash w.params "1", .str "1" t10, .int (1) u10⟩, ⟨PyData.keyHash w.params "2", .str "2" t11, .int (2) u11⟩, ⟨PyData.keyHash w.params "3", .str "3" t12, .int (3) u12⟩, ⟨PyData.keyHash w.params "4", .str "4" t13, .int (4) u13⟩, ⟨PyData.keyHash w.params "5", .str "5" t14, .int (5) u14⟩, ⟨PyData.keyHash w.params "6", .str "6" t15, .int (6) u15⟩, ⟨PyData.keyHash w.params "7", .str "7" t16, .int (7) u16⟩, ⟨PyData.keyHash w.params "8", .str "8" t17, .int (8) u17⟩, ⟨PyData.keyHash w.params "9", .str "9" t18, .int (9) u18⟩] n, #[]⟩) (low : (d == sysModules) = false) : NumOk K w := by
  have h : K.lookup d = some ⟨.type "dict", none, .dict (([("-9", t0, .int (-9) u0), ("-8", t1, .int (-8) u1), ("-7", t2, .int (-7) u2), ("-6", t3, .int (-6) u3), ("-5", t4, .int (-5) u4), ("-4", t5, .int (-4) u5), ("-3", t6, .int (-3) u6), ("-2", t7, .int (-2) u7), ("-1", t8, .int (-1) u8), ("0", t9, .int (0) u9), ("1", t10, .int (1) u10), ("2", t11, .int (2) u11), ("3", t12, .int (3) u12), ("4", t13, .int (4) u13), ("5", t14, .int (5) u14), ("6", t15, .int (6) u15), ("7", t16, .int (7) u16), ("8", t17, .int (8) u17), ("9", t18, .int (9) u18)] : List (Str × Tok × Value)).map (ent w.params)).toArray n, #[]⟩ := h
  refine ⟨d, g, ⟨_, _, kd_ents h low⟩, fun z => ⟨_, ns_ents h z, ?_⟩⟩
  have al : All2 (fun (i : Int) v => ∃ t, v = .int i t) [("-9", t0, .int (-9) u0), ("-8", t1, .int (-8) u1), ("-7", t2, .int (-7) u2), ("-6", t3, .int (-6) u3), ("-5", t4, .int (-5) u4), ("-4", t5, .int (-4) u5), ("-3", t6, .int (-3) u6), ("-2", t7, .int (-2) u7), ("-1", t8, .int (-1) u8), ("0", t9, .int (0) u9), ("1", t10, .int (1) u10), ("2", t11, .int (2) u11), ("3", t12, .int (3) u12), ("4", t13, .int (4) u13), ("5", t14, .int (5) u14), ("6", t15, .int (6) u15), ("7", t16, .int (7) u16), ("8", t17, .int (8) u17), ("9", t18, .int (9) u18)] numTab := ⟨rfl, ⟨_, rfl⟩, ⟨rfl, ⟨_, rfl⟩, ⟨rfl, ⟨_, rfl⟩, ⟨rfl, ⟨_, rfl⟩, ⟨rfl, ⟨_, rfl⟩, ⟨rfl, ⟨_, rfl⟩, ⟨rfl, ⟨_, rfl⟩, ⟨rfl, ⟨_, rfl⟩, ⟨rfl, ⟨_, rfl⟩, ⟨rfl, ⟨_, rfl⟩, ⟨rfl, ⟨_, rfl⟩, ⟨rfl, ⟨_, rfl⟩, ⟨rfl, ⟨_, rfl⟩, ⟨rfl, ⟨_, rfl⟩, ⟨rfl, ⟨_, rfl⟩, ⟨rfl, ⟨_, rfl⟩, ⟨rfl, ⟨_, rfl⟩, ⟨rfl, ⟨_, rfl⟩, ⟨rfl, ⟨_, rfl⟩, trivial⟩⟩⟩⟩⟩⟩⟩⟩⟩⟩⟩⟩⟩⟩⟩⟩⟩⟩⟩
  have := all2_find al z
  revert this
  cases numTab.lookup z with
  | none => exact fun h => h
  | some ls => exact fun ⟨v, h1, t, h2⟩ => ⟨t, by rw [h1, h2]⟩
def BndOk (K : PySem.W.Frag) (w : World) : Prop := ∃ d, PySem.W.nsIn K mainGlobals "BOUNDS" = some (some (.ref d)) ∧ BndT K w d
theorem bndOk {K : PySem.W.Frag} {w : World} {d : Addr} {n : Nat} {t0 t1 t2 t3 : Tok} {a0 a1 a2 a3 : Addr} (g : PySem.W.nsIn K mainGlobals "BOUNDS" = some (some (.ref d)))
    (h : K.lookup d = some ⟨.type "dict", none, .dict #[⟨PyData.keyHash w.params "a", .str "a" t0, .ref a0⟩, ⟨PyData.keyHash w.params "b", .str "b" t1, .ref a1⟩, ⟨PyData.keyHash w.params "m", .str "m" t2, .ref a2⟩, ⟨PyData.keyHash w.params "k", .str "k" t3, .ref a3⟩] n, #[]⟩) (low : (d == sysModules) = false)
    (h0 : TupV K a0 [.int (-3), .int (3)]) (h1 : TupV K a1 [.int (-9), .int (9)]) (h2 : TupV K a2 [.int (2), .int (3)]) (h3 : TupV K a3 [.int (2), .int (3)]) : BndOk K w := by
  have h : K.lookup d = some ⟨.type "dict", none, .dict (([("a", t0, .ref a0), ("b", t1, .ref a1), ("m", t2, .ref a2), ("k", t3, .ref a3)] : List (Str × Tok × Value)).map (ent w.params)).toArray n, #[]⟩ := h
  refine ⟨d, g, ⟨_, _, kd_ents h low⟩, fun p hp => ?_⟩
  unfold bnd at hp
  simp only [List.mem_cons, List.mem_nil_iff, or_false] at hp
  rcases hp with rfl | rfl | rfl | rfl
  · exact ⟨a0, (ns_ents h _).trans (by rfl), h0.sq⟩
  · exact ⟨a1, (ns_ents h _).trans (by rfl), h1.sq⟩
  · exact ⟨a2, (ns_ents h _).trans (by rfl), h2.sq⟩
  · exact ⟨a3, (ns_ents h _).trans (by rfl), h3.sq⟩
def LimOk (K : PySem.W.Frag) : Prop := ∃ d, PySem.W.nsIn K mainGlobals "LIMITS" = some (some (.ref d)) ∧ LimT K d
theorem limOk_ {K : PySem.W.Frag} {d r0 r1 r2 c0 c1 c2 : Addr} (g : PySem.W.nsIn K mainGlobals "LIMITS" = some (some (.ref d))) (h : TupV K d [.ref r0, .ref r1, .ref r2])
    (h0 : TupV K r0 [.int 2, .ref c0]) (k0 : TupV K c0 [.str "sums", .str "anew", .str "gaps", .str "groups", .str "count"]) (h1 : TupV K r1 [.int 2, .ref c1]) (k1 : TupV K c1 [.str "turn", .str "keep", .str "anew"]) (h2 : TupV K r2 [.int 1, .ref c2]) (k2 : TupV K c2 [.str "twice"]) : LimOk K := by
  refine ⟨d, g, ⟨[r0, r1, r2], h.sq, rfl, fun i p r hp hr => ?_⟩⟩
  match i, hp, hr with
  | 0, hp, hr =>
    cases hp
    cases hr
    exact ⟨c0, h0.sq, k0.sq⟩
  | 1, hp, hr =>
    cases hp
    cases hr
    exact ⟨c1, h1.sq, k1.sq⟩
  | 2, hp, hr =>
    cases hp
    cases hr
    exact ⟨c2, h2.sq, k2.sq⟩
  | n + 3, hp, hr => cases hp
def ExcQ (K : PySem.W.Frag) (C : Addr) : Prop := PySem.W.excIn K C [.type "ValueError", .type "Exception", .type "BaseException", .type "object"] "ValueError.__new__" = true ∧ PySem.W.keepIn K (.ref C) = true ∧ PySem.W.subIn K (.ref C) (.type "BaseException") = some true ∧ PySem.W.typeIn K (.ref C) = some (.type "type")
def ClsOk (K : PySem.W.Frag) : Prop := ∃ c0 c1 c2 c3 c4 c5 CE : Addr, PySem.W.nsIn K mainGlobals "InvalidChain" = some (some (.ref c0)) ∧ PySem.W.nsIn K mainGlobals "InvalidRow" = some (some (.ref c1)) ∧ PySem.W.nsIn K mainGlobals "InvalidNumber" = some (some (.ref c2)) ∧ PySem.W.nsIn K mainGlobals "InvalidText" = some (some (.ref c3)) ∧ PySem.W.nsIn K mainGlobals "TooMany" = some (some (.ref c4)) ∧ PySem.W.nsIn K mainGlobals "NothingToUndo" = some (some (.ref c5)) ∧ PySem.W.nsIn K mainGlobals "ChainError" = some (some (.ref CE)) ∧ OneT K c3 3 c0 c1 c2 c3 c4 c5 ∧ PySem.W.exmOne K (.ref c3) (.ref CE) = some true ∧ ExcQ K c0 ∧ ExcQ K c3
theorem clsOk {K : PySem.W.Frag} {c0 c1 c2 c3 c4 c5 CE : Addr} (g0 : PySem.W.nsIn K mainGlobals "InvalidChain" = some (some (.ref c0))) (g1 : PySem.W.nsIn K mainGlobals "InvalidRow" = some (some (.ref c1))) (g2 : PySem.W.nsIn K mainGlobals "InvalidNumber" = some (some (.ref c2))) (g3 : PySem.W.nsIn K mainGlobals "InvalidText" = some (some (.ref c3))) (g4 : PySem.W.nsIn K mainGlobals "TooMany" = some (some (.ref c4))) (g5 : PySem.W.nsIn K mainGlobals "NothingToUndo" = some (some (.ref c5))) (gE : PySem.W.nsIn K mainGlobals "ChainError" = some (some (.ref CE))) (one : OneT K c3 3 c0 c1 c2 c3 c4 c5) (em : PySem.W.exmOne K (.ref c3) (.ref CE) = some true) (q0 : ExcQ K c0) (q3 : ExcQ K c3) : ClsOk K := ⟨_, _, _, _, _, _, _, g0, g1, g2, g3, g4, g5, gE, one, em, q0, q3⟩
structure BltOk (K : PySem.W.Frag) : Prop where
  n0 : PySem.W.nsIn K mainGlobals "isinstance" = some none
  n1 : PySem.W.nsIn K mainGlobals "int" = some none
  n2 : PySem.W.nsIn K mainGlobals "bool" = some none
  n3 : PySem.W.nsIn K mainGlobals "str" = some none
  n4 : PySem.W.nsIn K mainGlobals "tuple" = some none
  n5 : PySem.W.nsIn K mainGlobals "len" = some none
  n6 : PySem.W.nsIn K mainGlobals "all" = some none
  n7 : PySem.W.nsIn K mainGlobals "zip" = some none
  n8 : PySem.W.nsIn K mainGlobals "range" = some none
  n9 : PySem.W.nsIn K mainGlobals "max" = some none
  n10 : PySem.W.nsIn K mainGlobals "min" = some none
  n11 : PySem.W.nsIn K mainGlobals "sum" = some none
  n12 : PySem.W.nsIn K mainGlobals "ValueError" = some none
structure DefsOk (K : PySem.W.Frag) : Prop where
  d0 : DefOk K "is_chain" sIsChain
  d1 : DefOk K "check_chain" sCheck
  d2 : DefOk K "is_whole" sIsWhole
  d3 : DefOk K "is_step" sIsStep
  d4 : DefOk K "are_within" sWithin
  d5 : DefOk K "keeps_limits" sLimits
  d6 : DefOk K "format_chain" sFormat
  d7 : DefOk K "parse_chain" sParse
  d8 : DefOk K "step_text" sStepText
  d9 : DefOk K "read_step" sReadStep
  d10 : DefOk K "_law_cell" sCell
  d11 : DefOk K "_law_drawn" sDrawn
  d12 : DefOk K "_law_roll" sRoll
  d13 : DefOk K "_law_rounds" sRounds
  d14 : DefOk K "_law_term" sTerm
  d15 : DefOk K "_law_told" sTold
  d16 : DefOk K "_law_rest" sRest
  d17 : DefOk K "_law_step" sStep
  d18 : DefOk K "_law_chain" sChain
theorem calOf {P : Program} {w : World} {K : PySem.W.Frag} {mg : Str → Option Value} {base : Heap} {CX : CXT} {k : Nat} {x : Str} {st : Stmt} {f : Addr} {fd : FuncData} {ps : List Str} {sp : Sp} (m : mg x = some (.ref f)) (F : Fun K x x st f fd) (h : FnOk P w K mg base CX k f fd ps sp)
    (b : ∀ (kV doc pm : Value) (an : Option Addr) (cdv ct : Value) (us : List Value), us.length = ps.length → bindArgs (PySem.W.fnOf x x (defArgs st) (defBody st) (defScope st) .none kV doc pm an cdv ct) ⟨us, []⟩ = pure (ps.zip us)) : Cal P w K mg base CX k x ps sp := ⟨f, fd, h, m, F.kp, F.binds b⟩
theorem look {l : PySem.W.OpenLaw} {w : World} {K : PySem.W.Frag} {h : Heap} {mg : Str → Option Value} {fa Pt : Addr} (X : K.In h) (G : h.Ns mainGlobals mg) (hfa : mg "law" = some (.ref fa)) (hPt : h.get? Pt = some { cls := .none, data := .fields #[] }) (nPt : K.lookup Pt = none)
    (D : DefsOk K) (Bt : BltOk K) (tL : LetOk K w) (tB : BndOk K w) (tN : NumOk K w) (tI : LimOk K) {tM : Tok} (mM : PySem.W.nsIn K mainGlobals "MOST_STEPS" = some (some (.int 4 tM))) (cl : ClsOk K)
    {f c : Addr} {oc kV doc pm ct : Value} {od an : Option Addr} {osl : Array (Option Value)} (aF : PySem.W.nsIn K mainGlobals "law" = some (some (.ref f)))
    (lF : K.lookup f = some ⟨oc, od, .func (PySem.W.fnOf "law" "law" (defArgs sLaw) (defBody sLaw) (defScope sLaw) .none kV doc pm an (.ref c) ct), osl⟩) (cF : PySem.W.codeIn K (.ref c) "law" = true) (hF : PySem.W.codeHdIn K c Pt = true) :
    LamX.LawAtS l w K CX0 8 63 "_law_script" mg fa h := by
  have e := hfa.symm.trans (PySem.W.mg_of X G aF)
  cases e
  refine ⟨PySem.W.fnOf "law" "law" (defArgs sLaw) (defBody sLaw) (defScope sLaw) .none kV doc pm an (.ref c) ct, [(c, Pt)], spLaw K Pt, fun p hp => by rw [List.mem_singleton.mp hp]; exact hPt, fun p hp => by rw [List.mem_singleton.mp hp]; exact nPt, fun p hp => by rw [List.mem_singleton.mp hp]; exact PySem.W.codeHd_of_K X hF, fun s u => .of_eq rfl,
    fun H a ns hl _ hT hS => ⟨a, ns, rfl, hS, hl, hT _ (List.mem_singleton.mpr rfl), fun _ => rfl⟩, fun base _ _ hTB => ?_⟩
  have TB : LamX.TabB base mg c Pt := hTB _ (List.mem_singleton.mpr rfl)
  have T : Blt mg := ⟨PySem.W.mg_none_of X G Bt.n0, PySem.W.mg_none_of X G Bt.n1, PySem.W.mg_none_of X G Bt.n2, PySem.W.mg_none_of X G Bt.n3, PySem.W.mg_none_of X G Bt.n4, PySem.W.mg_none_of X G Bt.n5, PySem.W.mg_none_of X G Bt.n6, PySem.W.mg_none_of X G Bt.n7, PySem.W.mg_none_of X G Bt.n8, PySem.W.mg_none_of X G Bt.n9, PySem.W.mg_none_of X G Bt.n10, PySem.W.mg_none_of X G Bt.n11, PySem.W.mg_none_of X G Bt.n12⟩
  obtain ⟨fIC, fdIC, aIC, FIC⟩ := D.d0
  have mIC := PySem.W.mg_of X G aIC
  obtain ⟨fCK, fdCK, aCK, FCK⟩ := D.d1
  have mCK := PySem.W.mg_of X G aCK
  obtain ⟨fIW, fdIW, aIW, FIW⟩ := D.d2
  have mIW := PySem.W.mg_of X G aIW
  obtain ⟨fIS, fdIS, aIS, FIS⟩ := D.d3
  have mIS := PySem.W.mg_of X G aIS
  obtain ⟨fWI, fdWI, aWI, FWI⟩ := D.d4
  have mWI := PySem.W.mg_of X G aWI
  obtain ⟨fKL, fdKL, aKL, FKL⟩ := D.d5
  have mKL := PySem.W.mg_of X G aKL
  obtain ⟨fFO, fdFO, aFO, FFO⟩ := D.d6
  have mFO := PySem.W.mg_of X G aFO
  obtain ⟨fPA, fdPA, aPA, FPA⟩ := D.d7
  have mPA := PySem.W.mg_of X G aPA
  obtain ⟨fST, fdST, aST, FST⟩ := D.d8
  have mST := PySem.W.mg_of X G aST
  obtain ⟨fRS, fdRS, aRS, FRS⟩ := D.d9
  have mRS := PySem.W.mg_of X G aRS
  obtain ⟨fCE, fdCE, aCE, FCE⟩ := D.d10
  have mCE := PySem.W.mg_of X G aCE
  obtain ⟨fDR, fdDR, aDR, FDR⟩ := D.d11
  have mDR := PySem.W.mg_of X G aDR
  obtain ⟨fRO, fdRO, aRO, FRO⟩ := D.d12
  have mRO := PySem.W.mg_of X G aRO
  obtain ⟨fRN, fdRN, aRN, FRN⟩ := D.d13
  have mRN := PySem.W.mg_of X G aRN
  obtain ⟨fTE, fdTE, aTE, FTE⟩ := D.d14
  have mTE := PySem.W.mg_of X G aTE
  obtain ⟨fTO, fdTO, aTO, FTO⟩ := D.d15
  have mTO := PySem.W.mg_of X G aTO
  obtain ⟨fRE, fdRE, aRE, FRE⟩ := D.d16
  have mRE := PySem.W.mg_of X G aRE
  obtain ⟨fSP, fdSP, aSP, FSP⟩ := D.d17
  have mSP := PySem.W.mg_of X G aSP
  obtain ⟨fCH, fdCH, aCH, FCH⟩ := D.d18
  have mCH := PySem.W.mg_of X G aCH
  obtain ⟨dL, gL, tL⟩ := tL
  obtain ⟨dB, gB, tB⟩ := tB
  obtain ⟨dN, gN, tN⟩ := tN
  obtain ⟨dI, gI, tI⟩ := tI
  obtain ⟨c0, c1, c2, c3, c4, c5, CE, g0, g1, g2, g3, g4, g5, gE, one, em, q0, q3⟩ := cl
  have xC : ExcT K mg "InvalidChain" c0 := ⟨PySem.W.mg_of X G g0, q0.1, q0.2.1, q0.2.2.1, q0.2.2.2⟩
  have xT : ExcT K mg "InvalidText" c3 := ⟨PySem.W.mg_of X G g3, q3.1, q3.2.1, q3.2.2.1, q3.2.2.2⟩
  have six : SixT mg c0 c1 c2 c3 c4 c5 := ⟨PySem.W.mg_of X G g0, PySem.W.mg_of X G g1, PySem.W.mg_of X G g2, PySem.W.mg_of X G g3, PySem.W.mg_of X G g4, PySem.W.mg_of X G g5⟩
  have CIW := calOf (P := l.prog) (w := w) (base := base) mIW FIW (ok_isWhole FIW T) (fun _ _ _ _ _ _ us hl => match us, hl with | [_], _ => rfl)
  have CWI := calOf (P := l.prog) (w := w) (base := base) mWI FWI (ok_within FWI T CIW (PySem.W.mg_of X G gB) tB) (fun _ _ _ _ _ _ us hl => match us, hl with | [_, _], _ => rfl)
  have CIS := calOf (P := l.prog) (w := w) (base := base) mIS FIS (ok_isStep FIS T CWI (PySem.W.mg_of X G gL) tL) (fun _ _ _ _ _ _ us hl => match us, hl with | [_], _ => rfl)
  have CKL := calOf (P := l.prog) (w := w) (base := base) mKL FKL (ok_limits FKL T (PySem.W.mg_of X G gI) tI) (fun _ _ _ _ _ _ us hl => match us, hl with | [_], _ => rfl)
  have CIC := calOf (P := l.prog) (w := w) (base := base) mIC FIC (ok_isChain FIC T CIS CKL (PySem.W.mg_of X G mM)) (fun _ _ _ _ _ _ us hl => match us, hl with | [_], _ => rfl)
  have CCK := calOf (P := l.prog) (w := w) (base := base) mCK FCK (ok_check FCK CIC xC) (fun _ _ _ _ _ _ us hl => match us, hl with | [_], _ => rfl)
  have CST := calOf (P := l.prog) (w := w) (base := base) mST FST (ok_stepText FST T) (fun _ _ _ _ _ _ us hl => match us, hl with | [_], _ => rfl)
  have CFO := calOf (P := l.prog) (w := w) (base := base) mFO FFO (ok_format FFO CCK CST) (fun _ _ _ _ _ _ us hl => match us, hl with | [_], _ => rfl)
  have CRS := calOf (P := l.prog) (w := w) (base := base) mRS FRS (ok_readStep FRS (PySem.W.mg_of X G gN) tN) (fun _ _ _ _ _ _ us hl => match us, hl with | [_], _ => rfl)
  have CPA := calOf (P := l.prog) (w := w) (base := base) mPA FPA (ok_parse FPA T xT CRS CIC) (fun _ _ _ _ _ _ us hl => match us, hl with | [_], _ => rfl)
  have CCE := calOf (P := l.prog) (w := w) (base := base) mCE FCE (ok_cell FCE T) (fun _ _ _ _ _ _ us hl => match us, hl with | [_, _], _ => rfl)
  have CDR := calOf (P := l.prog) (w := w) (base := base) mDR FDR (ok_drawn FDR) (fun _ _ _ _ _ _ us hl => match us, hl with | [_, _], _ => rfl)
  have CRO := calOf (P := l.prog) (w := w) (base := base) mRO FRO (ok_roll FRO CDR) (fun _ _ _ _ _ _ us hl => match us, hl with | [_, _], _ => rfl)
  have CRE := calOf (P := l.prog) (w := w) (base := base) mRE FRE (ok_rest FRE CRO) (fun _ _ _ _ _ _ us hl => match us, hl with | [_], _ => rfl)
  have CRN := calOf (P := l.prog) (w := w) (base := base) mRN FRN (ok_rounds FRN T CCE) (fun _ _ _ _ _ _ us hl => match us, hl with | [_, _], _ => rfl)
  have CSP := calOf (P := l.prog) (w := w) (base := base) mSP FSP (ok_step FSP CRO CRE) (fun _ _ _ _ _ _ us hl => match us, hl with | [_], _ => rfl)
  have CCH := calOf (P := l.prog) (w := w) (base := base) mCH FCH (ok_chain FCH T CRO CSP CIC) (fun _ _ _ _ _ _ us hl => match us, hl with | [_, _], _ => rfl)
  have L : Lib l.prog w K mg base fTO fTE CE c0 c1 c2 c3 c4 c5 fdTO fdTE := ⟨T, CRN, CCH, CRO, CIC, CFO, CPA, FTO, FTO.binds (fun _ _ _ _ _ _ us hl => match us, hl with | [_], _ => rfl), mTO, ok_term FTE T six, mTE, FTE.kp, FTE.binds (fun _ _ _ _ _ _ us hl => match us, hl with | [_], _ => rfl), PySem.W.mg_of X G gE, one, em⟩
  exact ok_law L TB lF cF
end FC
open PySem PySem.W PyProof.Rows
set_option Elab.async false
set_option maxRecDepth 100000 in
set_option maxHeartbeats 0 in
theorem PySem.Challenge.cw_foldchains_k09_whole_texts_holds : PySem.Challenge.rw_foldchains_k09_whole_texts.Holds := by
  w_on; o_law; k_head; (case hw => w_witness2)
  k_fill
  refine LamX.walk_ofTs (l := PySem.Challenge.rw_foldchains_k09_whole_texts) (n := 63) (k := 8) (x := "_law_script") (CX := fun _ => L2.CX0) rfl (by decide) rfl ⟨rfl, by decide, by decide⟩ (fun w h Y => PySem.W.km_in_of Y) ?F (fun _ _ _ _ _ z => z)
  case F =>
    intro w mg fa h Y KX G hmg
    refine' FC.look (Pt := 243) KX G hmg (PySem.W.km_tabs_of Y 243 (by decide)) ?nPt (FC.DefsOk.mk ?d0 ?d1 ?d2 ?d3 ?d4 ?d5 ?d6 ?d7 ?d8 ?d9 ?d10 ?d11 ?d12 ?d13 ?d14 ?d15 ?d16 ?d17 ?d18) (FC.BltOk.mk ?n0 ?n1 ?n2 ?n3 ?n4 ?n5 ?n6 ?n7 ?n8 ?n9 ?n10 ?n11 ?n12) ?tL ?tB ?tN ?tI ?mM ?cl ?aF ?lF ?cF ?hF
    (case nPt => kernel_rfl)
    (case d0 => (refine' FC.defOk ?a ?l ?c ?k; (case a => k_is); (case l => k_is); (case c => k_is); (case k => k_is)))
    (case d1 => (refine' FC.defOk ?a ?l ?c ?k; (case a => k_is); (case l => k_is); (case c => k_is); (case k => k_is)))
    (case d2 => (refine' FC.defOk ?a ?l ?c ?k; (case a => k_is); (case l => k_is); (case c => k_is); (case k => k_is)))
    (case d3 => (refine' FC.defOk ?a ?l ?c ?k; (case a => k_is); (case l => k_is); (case c => k_is); (case k => k_is)))
    (case d4 => (refine' FC.defOk ?a ?l ?c ?k; (case a => k_is); (case l => k_is); (case c => k_is); (case k => k_is)))
    (case d5 => (refine' FC.defOk ?a ?l ?c ?k; (case a => k_is); (case l => k_is); (case c => k_is); (case k => k_is)))
    (case d6 => (refine' FC.defOk ?a ?l ?c ?k; (case a => k_is); (case l => k_is); (case c => k_is); (case k => k_is)))
    (case d7 => (refine' FC.defOk ?a ?l ?c ?k; (case a => k_is); (case l => k_is); (case c => k_is); (case k => k_is)))
    (case d8 => (refine' FC.defOk ?a ?l ?c ?k; (case a => k_is); (case l => k_is); (case c => k_is); (case k => k_is)))
    (case d9 => (refine' FC.defOk ?a ?l ?c ?k; (case a => k_is); (case l => k_is); (case c => k_is); (case k => k_is)))
    (case d10 => (refine' FC.defOk ?a ?l ?c ?k; (case a => k_is); (case l => k_is); (case c => k_is); (case k => k_is)))
    (case d11 => (refine' FC.defOk ?a ?l ?c ?k; (case a => k_is); (case l => k_is); (case c => k_is); (case k => k_is)))
    (case d12 => (refine' FC.defOk ?a ?l ?c ?k; (case a => k_is); (case l => k_is); (case c => k_is); (case k => k_is)))
    (case d13 => (refine' FC.defOk ?a ?l ?c ?k; (case a => k_is); (case l => k_is); (case c => k_is); (case k => k_is)))
    (case d14 => (refine' FC.defOk ?a ?l ?c ?k; (case a => k_is); (case l => k_is); (case c => k_is); (case k => k_is)))
    (case d15 => (refine' FC.defOk ?a ?l ?c ?k; (case a => k_is); (case l => k_is); (case c => k_is); (case k => k_is)))
    (case d16 => (refine' FC.defOk ?a ?l ?c ?k; (case a => k_is); (case l => k_is); (case c => k_is); (case k => k_is)))
    (case d17 => (refine' FC.defOk ?a ?l ?c ?k; (case a => k_is); (case l => k_is); (case c => k_is); (case k => k_is)))
    (case d18 => (refine' FC.defOk ?a ?l ?c ?k; (case a => k_is); (case l => k_is); (case c => k_is); (case k => k_is)))
    (case n0 => k_is)
    (case n1 => k_is)
    (case n2 => k_is)
    (case n3 => k_is)
    (case n4 => k_is)
    (case n5 => k_is)
    (case n6 => k_is)
    (case n7 => k_is)
    (case n8 => k_is)
    (case n9 => k_is)
    (case n10 => k_is)
    (case n11 => k_is)
    (case n12 => k_is)
    case tL =>
      refine' FC.letOk ?g ?h ?low ?h0 ?h1 ?h2 ?h3 ?h4 ?h5 ?h6 ?h7 ?h8 ?h9
      (case g => k_is); (case h => k_is); (case low => rfl)
      (case h0 => (refine' FC.tup2 ?l ?r0 ?r1; (case l => k_is); (case r0 => exact ⟨_, rfl⟩); (case r1 => exact ⟨_, rfl⟩)))
      (case h1 => (refine' FC.tup4 ?l ?r0 ?r1 ?r2 ?r3; (case l => k_is); (case r0 => exact ⟨_, rfl⟩); (case r1 => exact ⟨_, rfl⟩); (case r2 => exact ⟨_, rfl⟩); (case r3 => exact ⟨_, rfl⟩)))
      (case h2 => (refine' FC.tup2 ?l ?r0 ?r1; (case l => k_is); (case r0 => exact ⟨_, rfl⟩); (case r1 => exact ⟨_, rfl⟩)))
      (case h3 => (refine' FC.tup2 ?l ?r0 ?r1; (case l => k_is); (case r0 => exact ⟨_, rfl⟩); (case r1 => exact ⟨_, rfl⟩)))
      (case h4 => (refine' FC.tup0 ?l; (case l => k_is)))
      (case h5 => (refine' FC.tup0 ?l; (case l => k_is)))
      (case h6 => (refine' FC.tup2 ?l ?r0 ?r1; (case l => k_is); (case r0 => exact ⟨_, rfl⟩); (case r1 => exact ⟨_, rfl⟩)))
      (case h7 => (refine' FC.tup0 ?l; (case l => k_is)))
      (case h8 => (refine' FC.tup1 ?l ?r0; (case l => k_is); (case r0 => exact ⟨_, rfl⟩)))
      (case h9 => (refine' FC.tup0 ?l; (case l => k_is)))
    case tB =>
      refine' FC.bndOk ?g ?h ?low ?h0 ?h1 ?h2 ?h3
      (case g => k_is); (case h => k_is); (case low => rfl)
      (case h0 => (refine' FC.tup2 ?l ?r0 ?r1; (case l => k_is); (case r0 => exact ⟨_, rfl⟩); (case r1 => exact ⟨_, rfl⟩)))
      (case h1 => (refine' FC.tup2 ?l ?r0 ?r1; (case l => k_is); (case r0 => exact ⟨_, rfl⟩); (case r1 => exact ⟨_, rfl⟩)))
      (case h2 => (refine' FC.tup2 ?l ?r0 ?r1; (case l => k_is); (case r0 => exact ⟨_, rfl⟩); (case r1 => exact ⟨_, rfl⟩)))
      (case h3 => (refine' FC.tup2 ?l ?r0 ?r1; (case l => k_is); (case r0 => exact ⟨_, rfl⟩); (case r1 => exact ⟨_, rfl⟩)))
    case tN =>
      refine' FC.numOk ?g ?h ?low
      (case g => k_is); (case h => k_is); (case low => rfl)
    case tI =>
      refine' FC.limOk_ ?g ?h ?h0 ?k0 ?h1 ?k1 ?h2 ?k2
      (case g => k_is)
      (case h => (refine' FC.tup3 ?l ?r0 ?r1 ?r2; (case l => k_is); (case r0 => exact rfl); (case r1 => exact rfl); (case r2 => exact rfl)))
      (case h0 => (refine' FC.tup2 ?l ?r0 ?r1; (case l => k_is); (case r0 => exact ⟨_, rfl⟩); (case r1 => exact rfl)))
      (case k0 => (refine' FC.tup5 ?l ?r0 ?r1 ?r2 ?r3 ?r4; (case l => k_is); (case r0 => exact ⟨_, rfl⟩); (case r1 => exact ⟨_, rfl⟩); (case r2 => exact ⟨_, rfl⟩); (case r3 => exact ⟨_, rfl⟩); (case r4 => exact ⟨_, rfl⟩)))
      (case h1 => (refine' FC.tup2 ?l ?r0 ?r1; (case l => k_is); (case r0 => exact ⟨_, rfl⟩); (case r1 => exact rfl)))
      (case k1 => (refine' FC.tup3 ?l ?r0 ?r1 ?r2; (case l => k_is); (case r0 => exact ⟨_, rfl⟩); (case r1 => exact ⟨_, rfl⟩); (case r2 => exact ⟨_, rfl⟩)))
      (case h2 => (refine' FC.tup2 ?l ?r0 ?r1; (case l => k_is); (case r0 => exact ⟨_, rfl⟩); (case r1 => exact rfl)))
      (case k2 => (refine' FC.tup1 ?l ?r0; (case l => k_is); (case r0 => exact ⟨_, rfl⟩)))
    (case mM => k_is)
    case cl =>
      refine' FC.clsOk ?zg0 ?zg1 ?zg2 ?zg3 ?zg4 ?zg5 ?zgE ?zone ?zem ?zq0 ?zq3
      (case zg0 => k_is)
      (case zg1 => k_is)
      (case zg2 => k_is)
      (case zg3 => k_is)
      (case zg4 => k_is)
      (case zg5 => k_is)
      (case zgE => k_is)
      (case zone => exact ⟨by decide, ⟨by kernel_rfl, by kernel_rfl, by kernel_rfl, by kernel_rfl, by kernel_rfl, by kernel_rfl, by kernel_rfl, by kernel_rfl⟩, by kernel_rfl, by kernel_rfl, by kernel_rfl, by kernel_rfl, by kernel_rfl, by kernel_rfl, by kernel_rfl⟩)
      (case zem => kernel_rfl)
      (case zq0 => exact ⟨by kernel_rfl, by kernel_rfl, by kernel_rfl, by kernel_rfl⟩)
      (case zq3 => exact ⟨by kernel_rfl, by kernel_rfl, by kernel_rfl, by kernel_rfl⟩)
    (case aF => k_is); (case lF => k_is); (case cF => k_is); (case hF => kernel_rfl)
