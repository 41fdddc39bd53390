import PyProof.Rows.All
import Wide.All
import OpenK.AllK
import Wide.FinOn
import HandS.Base
import HandS.Call
import HandS.List
import HandS.Comp
import HandS.Ends
import HandS.Dict
import HandS.Iter
import HandS.Text
import HandS.Words
import KE.GoesNew
import HandS.Rev
import PyProof.JoinWalk
import KE.SortData
import HandS.Evl
import HandS.Walk
import HandS.IsInst
import HandS.ForMost
import HandS.Set
import HandS.Strs
import HandS.TupAny
import HandS.TupMul
import HandS.Style
import HandS.SetKeys
import HandS.WordsDict
import HandS.WideBits
import HandS.AnyAll
import HandS.GenOver
import HandS.GenList
import HandS.EndTab
import HandS.Conv
import PyProof.CollectStr
import HandS.Zip
import HandS.SetFor
import KE.KDictPairs
import PyProof.EnumMake
import HandS.SortKw
import HandS.FStr
import KE.GoesEnumKw
import KE.KDictList
import PyProof.StrLawsTight
import HandS.SetBool
import HandS.ReplaceList
import PyProof.StrLawsFrom
import PyProof.Rows.StrBetween
import PyProof.SetRoads
import HandS.ClsMeth
import HandS.ExcInit
import HandS.ExcField
import HandS.ExcIs
import HandS.ExcValue
import HandS.ExcOwn
import HandS.WordsExc
import HandS.Defaults
import HandS.CallLocal
import HandS.Deep
import HandS.HotCalls
import HandS.TryMany
import KE.KExcIs
import HandS.ReplaceLit
import PySem.Challenge.RW_hidhalves_k04_texts_of_no_books
set_option Elab.async false
set_option linter.all false
set_option maxRecDepth 100000
set_option maxHeartbeats 4000000
namespace Hid
open PySem PySem.Spec PyProof.Rows L2
/-- two texts side by side: the signs in new pairs -/
def ZsIt (x y : Str) : It :=
  ⟨fun i _ => i < min x.cps.size y.cps.size,
    fun i G v G' => ∃ T c d, v = .ref T ∧ G T = none ∧ G' = upd G T (.tup [.str ⟨#[c]⟩, .str ⟨#[d]⟩]) ∧ x.cps[i]? = some c ∧ y.cps[i]? = some d,
    fun i _ => min x.cps.size y.cps.size ≤ i⟩
/-- where the walk of two texts stands -/
def ZsAt (z TI TO i1 i2 : Addr) (x y : Str) (t u : Tok) (i : Nat) (h : Heap) : Prop :=
  i ≤ min x.cps.size y.cps.size ∧ IsZip h z TI TO .none ∧ IsTupOf2 h TI (.ref i1) (.ref i2) ∧ (∃ a1 a2, IsTupOf2 h TO a1 a2) ∧ h.IsStrIter i1 (strIterType x) x t i ∧ h.IsStrIter i2 (strIterType y) y u i
theorem zs_turn {P : Program} {w : World} {K : PySem.W.Frag} {es : List Expr} {kk : Nat} {tp : Pos} {z TI TO i1 i2 : Addr} {x y : Str} {t u : Tok} (S : ZipSep2 z TI TO i1 i2 [i1] [i2]) :
    Turn P w K (.Tuple es kk tp) (ZsIt x y) (z :: TI :: TO :: ([i1] ++ [i2])) z (ZsAt z TI TO i1 i2 x y t u) where
  mem := List.mem_cons_self
  obj := fun i h st b hb => by
    obtain ⟨_, hz, hTI, ⟨p, q, hTO⟩, ⟨o1, e1, _, d1⟩, ⟨o2, e2, _, d2⟩⟩ := st
    have e' : b = z ∨ b = TI ∨ b = TO ∨ b = i1 ∨ b = i2 := by simpa using hb
    rcases e' with r | r | r | r | r <;> rw [r]
    · exact ⟨_, hz, fun v n => nomatch n⟩
    · exact ⟨_, hTI, fun v n => nomatch n⟩
    · exact ⟨_, hTO, fun v n => nomatch n⟩
    · exact ⟨o1, e1, fun v n => by rw [d1] at n; cases n⟩
    · exact ⟨o2, e2, fun v n => by rw [d2] at n; cases n⟩
  keep := fun i h h' st k => by
    obtain ⟨hi, hz, hTI, ⟨p, q, hTO⟩, ⟨o1, e1, r1⟩, ⟨o2, e2, r2⟩⟩ := st
    exact ⟨hi, k z (by simp) _ hz, k TI (by simp) _ hTI, ⟨p, q, k TO (by simp) _ hTO⟩, ⟨o1, k i1 (by simp) _ e1, r1⟩, ⟨o2, k i2 (by simp) _ e2, r2⟩⟩
  item := by
    intro X hP hw hK hc i pins s σ H E I hf st hg
    subst hP hw hK
    have hh := I.ok.hd hc
    have G := GoesN.zip2 (prog := X.prog) (w := X.w) (A := X.A) (elts := es) (x1 := kk) (pos := tp) S (Draws.text (A := X.A.in1) hh i1 x t) (Draws.text (A := X.A.in1) hh i2 y u)
    obtain ⟨hi, st⟩ := st
    refine wpAny_mono (G.goes i s (fun v s2 => ∃ xv H', Inv X pins σ H' s2 ∧ RelV xv v ∧ (ZsIt x y).yld i H xv H' ∧ ZsAt z TI TO i1 i2 x y t u (i + 1) s2.heap ∧ ∀ b ∈ z :: TI :: TO :: ([i1] ++ [i2]), H' b = none) E hg st fun v h' tk hY st' hk htk => ?_) (fun r s1 h1 => ?_) fun _ _ e => e
    · obtain ⟨T, v1, v2, rfl, hT, ⟨c, u1, hc1, rfl⟩, ⟨d, u2, hd1, rfl⟩, o, ho, ho1, n, ho2⟩ := hY
      have new : ObjOk X.prog X.w (upd H T (.tup [.str ⟨#[c]⟩, .str ⟨#[d]⟩])) h' T (.tup [.str ⟨#[c]⟩, .str ⟨#[d]⟩]) :=
        ⟨by show 2 ≤ sizeLine; decide, [_, _], .cons ⟨u1, rfl⟩ (.cons ⟨u2, rfl⟩ .nil), ⟨o, ho, ho1, n, ho2⟩⟩
      have J : Inv X pins σ (upd H T (.tup [.str ⟨#[c]⟩, .str ⟨#[d]⟩])) { s with heap := h', toks := tk } :=
        I.turnedNew (t' := tk) (ch := [z, TO, i1, i2]) hk (fun b hb => hf b (by simp at hb ⊢; rcases hb with q | q | q | q <;> simp [q])) hT new
      refine ⟨.ref T, _, J, rfl, ⟨T, c, d, rfl, I.hok.fresh hT, rfl, hc1, hd1⟩, ⟨hg, st'⟩, fun b hb => ?_⟩
      have hb1 : b < s.heap.objs.size := by
        obtain ⟨hz, hTI, ⟨p, q, hTO⟩, ⟨o1, e1, r1⟩, ⟨o2, e2, r2⟩⟩ := st
        have e' : b = z ∨ b = TI ∨ b = TO ∨ b = i1 ∨ b = i2 := by simpa using hb
        rcases e' with r | r | r | r | r <;> rw [r]
        · exact Heap.lt_size hz
        · exact Heap.lt_size hTI
        · exact Heap.lt_size hTO
        · exact Heap.lt_size e1
        · exact Heap.lt_size e2
      rw [upd_ne (Nat.ne_of_lt (Nat.lt_of_lt_of_le hb1 hT))]
      exact (hf b hb).1
    · obtain ⟨v, rfl, q⟩ := h1
      exact ⟨v, rfl, q⟩
  done := by
    intro X hP hw hK hc i pins s σ H E I hf st hg
    subst hP hw hK
    have hh := I.ok.hd hc
    have G := GoesN.zip2 (prog := X.prog) (w := X.w) (A := X.A) (elts := es) (x1 := kk) (pos := tp) S (Draws.text (A := X.A.in1) hh i1 x t) (Draws.text (A := X.A.in1) hh i2 y u)
    obtain ⟨hi, st⟩ := st
    have ei : i = min x.cps.size y.cps.size := Nat.le_antisymm hi hg
    subst ei
    exact G.stops s (fun s1 => Inv X pins σ H s1) E st fun h' tk hk htk => I.turnedL (t' := tk) (ch := [z, TO, i1, i2]) hk (fun b hb => hf b (by simp at hb ⊢; rcases hb with q | q | q | q <;> simp [q]))
  self := fun A i s Q E st h => wpAny_pyIter_zip st.2.1 h
def iZs (ta : TA) : TI := fun σ H R => ta σ H fun vs H1 => ∃ x y, vs = [.str x, .str y] ∧ R (ZsIt x y) H1
/-- zip(x, y) of two texts -/
theorem pi_zs {X : Cx} {e e2 : Expr} {ta : TA} {p pos tp : Pos} {es : List Expr} {kk : Nat} (hg : Gl X "zip") (hm : X.mg "zip" = none) (ha : PA X [e, e2] ta)
    (hs : starEach [e, e2] X.env = (false, eval e X.env) :: starEach [e2] X.env := by rfl) (hpl : (backTo pos (starEach [e2] X.env)).any (·.1) = false := by rfl) :
    PI X (.Tuple es kk tp) (.Call (.Name "zip" p) [e, e2] [] pos) (iZs ta) := by
  refine ⟨fun pins s σ H R I h => ?_⟩
  refine Call_ (ld_blt I hg hm boot_zip (callWith_type1 (thn (ha.run pos pins s σ H _ I h) fun us s1 ⟨vs, H1, I1, r1, x, y, ex, q⟩ => ?_) hs hpl))
  subst ex
  cases r1 with
  | cons r rr =>
    cases rr with
    | cons r' rr =>
      cases rr
      obtain ⟨t, rfl⟩ := r
      obtain ⟨u, rfl⟩ := r'
      refine zip_begins2 (begins_text x t) (begins_text y u) trivial trivial fun h' hz hTI hTO g1 g2 hsz hk => wpAny_pyIter_zip hz ?_
      refine ⟨s1.heap.objs.size + 4, _, _, _, H1, rfl, I1.kept (t' := s1.toks) hk, zs_turn (zip_sep2 (fp1 := []) (fp2 := []) (fun b n => nomatch n) (fun b n => nomatch n)),
        ⟨Nat.zero_le _, hz, hTI, ⟨_, _, hTO⟩, ⟨_, g1, rfl, rfl⟩, ⟨_, g2, rfl, rfl⟩⟩, fun c hcm => ?_, q⟩
      have e' : c = s1.heap.objs.size + 4 ∨ c = s1.heap.objs.size + 2 ∨ c = s1.heap.objs.size + 3 ∨ c = s1.heap.objs.size ∨ c = s1.heap.objs.size + 1 := by simpa using hcm
      have hle : s1.heap.objs.size ≤ c := by
        rcases e' with r | r | r | r | r <;> rw [r] <;> first | exact Nat.le_refl _ | exact Nat.le_add_right _ _
      exact I1.fpOk hle (I1.hok.fresh hle)
/-- a loop over two texts side by side -/
theorem for_zs {x y : Str} {g : TG} {tb : TS} {D : Ends} {σ : L2.St} {H : Hp} {n : Nat} (hn : n = min x.cps.size y.cps.size) (Pv : Nat → L2.St → Hp → Prop) (h0 : Pv 0 σ H)
    (hs : ∀ (i c d : Nat) (T : Addr) (σ : L2.St) (H : Hp), i < n → x.cps[i]? = some c → y.cps[i]? = some d → H T = none → Pv i σ H →
      g (.ref T) σ (upd H T (.tup [.str ⟨#[c]⟩, .str ⟨#[d]⟩])) fun σ2 H2 => tb { D with nx := Pv (i + 1), ct := Pv (i + 1), bk := D.nx } σ2 H2) (hd : ∀ σ H, Pv n σ H → D.nx σ H) :
    ∃ W : Nat → Nat → L2.St → Hp → Prop, (∃ m, W 0 m σ H) ∧ ∀ i m σ H, W i m σ H →
      ((ZsIt x y).stop i H ∧ D.nx σ H) ∨ ((ZsIt x y).go i H ∧ ∃ N : L2.St → Hp → Prop, (∀ σ' H', N σ' H' → ∃ m', m' < m ∧ W (i + 1) m' σ' H') ∧ ∀ v H', (ZsIt x y).yld i H v H' → g v σ H' fun σ2 H2 => tb { D with nx := N, ct := N, bk := D.nx } σ2 H2) := by
  subst hn
  refine ⟨fun i m σ H => m = min x.cps.size y.cps.size - i ∧ i ≤ min x.cps.size y.cps.size ∧ Pv i σ H, ⟨_, rfl, Nat.zero_le _, h0⟩, ?_⟩
  rintro i m σ H ⟨rfl, hi, p⟩
  by_cases hlt : i < min x.cps.size y.cps.size
  · refine .inr ⟨hlt, Pv (i + 1), fun σ' H' p' => ⟨_, by omega, rfl, hlt, p'⟩, fun v H' r => ?_⟩
    obtain ⟨T, c, d, rfl, hT, rfl, hc, hd'⟩ := r
    exact hs i c d T σ H hlt hc hd' hT p
  · have e : i = min x.cps.size y.cps.size := by omega
    subst e
    exact .inl ⟨Nat.le_refl _, hd σ H p⟩
end Hid

namespace Hid
open PySem PySem.Spec PyProof.Rows L2
theorem str_norev : typeLookup (.type "str") "__reversed__" = pure none := by rw [typeLookup_type, builtinLookup_eq_fast]; kernel_rfl
theorem str_getit : typeLookup (.type "str") "__getitem__" = pure (some (.builtin "str.__getitem__")) := by rw [typeLookup_type, builtinLookup_eq_fast]; kernel_rfl
abbrev rsObj (x : Str) (t : Tok) (i : Int) : Obj := { cls := .type "reversed", data := .fields #[.str x t, rawInt i] }
/-- reversed(x) of a text, the next place i -/
def IsRs (h : Heap) (a : Addr) (x : Str) (t : Tok) (i : Int) : Prop := ∃ o, h.get? a = some o ∧ o.cls = .type "reversed" ∧ o.data = .fields #[.str x t, rawInt i]
section
variable {prog : Program} {w : World} {A : Around} {E : Value → Shared → Prop} {s : Shared}
theorem IsRs.kind {a : Addr} {x : Str} {t : Tok} {i : Int} (q : IsRs s.heap a x t i) : s.TypeIs (.ref a) "reversed" := let ⟨o, ho, hc, _⟩ := q; ⟨o, ho, hc⟩
theorem rs_code {x : Str} {t : Tok} {Q₁ : Value → Shared → Prop} (hx : x.length ≤ sizeLine)
    (h : Q₁ (.ref s.heap.objs.size) { s with heap := s.heap.push (rsObj x t ((x.length : Int) - 1)), toks := s.toks + 1 + 1 }) :
    codeAny (model prog w) A (.call (.builtin "reversed.__new__") ⟨[.type "reversed", .str x t], []⟩) (wants Q₁ E) s := by
  have kx := typeIs_str s x t
  refine codeAny_of_tree ?_
  show wpAny _ A.in1 (do checkBuiltinCall "reversed.__new__" ⟨[.type "reversed", .str x t], []⟩; again (.builtin "reversed.__new__" ⟨[.type "reversed", .str x t], []⟩)) _ _ s
  refine wpAny_bind (wpAny_of_eq (F.newCall_reversed_1 _) (wpAny_pure ⟨plainId_quiet F.plain_reversed_new _, codeAny_builtin F.entry_reversed_new ?_⟩))
  rw [Around.under_plainId F.plain_reversed_new _] <;> unfold Builtin.«reversed.__new__»
  refine wpAny_bind (wpAny_of_eq (newClass_reversed _) ?_) <;> try dsimp only
  refine wpAny_bind (wpAny_of_eq (a := ()) (by first | rfl | kernel_rfl) ?_) <;> try dsimp only
  refine wpAny_bind (wpAny_of_eq (a := ()) (by first | rfl | kernel_rfl) ?_) <;> try dsimp only
  refine wpAny_bind (wpAny_specialOf kx str_norev ?_) <;> try dsimp only
  refine wpAny_bind ?_ <;> wp_delta
  refine wpAny_bind (wpAny_isInstance (T := "str") (U := "dict") (b := false) kx PySem.F.sub_str_dict ?_)
  try dsimp only
  try rw [if_neg Bool.false_ne_true]
  try dsimp only
  refine wpAny_bind (wpAny_specialOf kx str_getit ?_)
  try dsimp only
  try rw [if_pos (by decide +kernel)]
  refine wpAny_pure ?_
  try dsimp only
  try rw [if_neg (by decide)]
  try dsimp only
  have hn := line63
  refine wpAny_bind (PySem.P.len_str (by omega) ?_)
  refine wpAny_bind (wpAny_of_eq (a := some ((x.length : Nat) : Int)) rfl ?_) <;> try dsimp only
  refine wpAny_bind ?_
  show wpAny _ _ (newObj (.type "reversed") (.fields #[.str x t, rawInt ((x.length : Int) - 1)])) _ _ _
  refine wpAny_newObj_type ?_
  exact wpAny_pure h
theorem rs_call {x : Str} {t : Tok} {Q : Value → Shared → Prop} (hx : x.length ≤ sizeLine)
    (h : Q (.ref s.heap.objs.size) { s with heap := s.heap.push (rsObj x t ((x.length : Int) - 1)), toks := s.toks + 1 + 1 }) : wpAny (model prog w) A (call (.type "reversed") [.str x t]) Q E s := by
  refine callType_codes (Q₁ := fun obj s₁ => s₁.TypeIs obj "reversed" ∧ Q obj s₁) RT.called_rt (F.typeCall_reversed_1 _) F.entry_object_init
    (rs_code (A := A.in1) hx ⟨⟨_, Heap.get?_push_size _ rfl, rfl⟩, h⟩) fun obj s₁ g => ?_
  exact ⟨g.1, F.args_object_init_2 obj _, object_init_meets RT.called_rt.init.lookup RT.called_rt.made (by decide) prog w A.in1 _ s₁ ⟨g.1, rfl, g.2⟩⟩
theorem rs_next {it : Addr} {i c : Nat} {x : Str} {t : Tok} {Q : Option Value → Shared → Prop} (hit : IsRs s.heap it x t (i : Int)) (hx : x.cps[i]? = some c) (hsz : x.length ≤ sizeLine)
    (hQ : ∀ h' u k, IsRs h' it x t ((i : Int) - 1) → Heap.SameBut it s.heap h' → Q (some (.str ⟨#[c]⟩ u)) { s with heap := h', toks := k }) : wpAny (model prog w) A (pyNext (.ref it)) Q E s := by
  obtain ⟨o, ho, hc, hd⟩ := id hit
  have hi : i < x.cps.size := (Array.getElem?_eq_some_iff.mp hx).1
  have kx := typeIs_str s x t
  have hn := line63
  have hl : x.length = x.cps.size := rfl
  unfold pyNext
  refine wpAny_bind (wpAny_attempt (wpAny_callSpecial?_slot (name := Str.ofString "__next__") hit.kind RT.slot_rt_next (wpAny_call_entry RT.slot_rt_next hit.kind RT.entry_rt_next ?_ (RT.args_rt_next _))))
  unfold Builtin.«reversed.__next__»
  refine wpAny_bind (wpAny_of_eq (a := (Value.ref it, [])) rfl ?_) <;> try dsimp only
  refine wpAny_bind (wpAny_field ho hd (x := .str x t) rfl ?_) <;> try dsimp only
  refine wpAny_bind (wpAny_field ho hd (x := rawInt (i : Int)) rfl ?_)
  show wpAny _ _ (if (i : Int) < 0 then _ else _) _ _ s
  rw [if_neg (by omega)] <;> try dsimp only
  refine wpAny_bind (wpAny_specialOf kx str_getit ?_)
  try dsimp only
  try rw [if_neg (by decide)]
  try dsimp only
  refine wpAny_bind (wpAny_mkInt ?_) <;> refine wpAny_bind (wpAny_attempt ?_)
  have fin : seqIndex? (i : Int) x.length = some i := seqIndex_of (by omega) (by omega)
  refine PySem.P.getItem_str (s := { s with toks := s.toks + 1 }) (c := c) (by
    have e1 : decide ((i : Int) < -(2 ^ 63 : Int)) = false := decide_eq_false (by omega)
    have e2 : decide ((i : Int) ≥ 2 ^ 63) = false := decide_eq_false (by omega)
    rw [e1, e2] <;> rfl) (by rw [fin]; exact hx) ?_
  try dsimp only
  refine wpAny_bind (wpAny_field (s := { s with toks := s.toks + 1 + 1 }) ho hd (x := rawInt (i : Int)) rfl ?_)
  try dsimp only
  refine wpAny_bind (wpAny_setField (s := { s with toks := s.toks + 1 + 1 }) ho hd (by simp) ?_)
  first
  | refine wpAny_pure ⟨_, rfl, wpAny_pure (hQ _ _ _ ?_ (Heap.SameBut.update ..))⟩
  | refine wpAny_bind (wpAny_pure (wpAny_pure ⟨_, rfl, wpAny_pure (hQ _ _ _ ?_ (Heap.SameBut.update ..))⟩))
  exact ⟨_, Heap.get?_update_self _ ho (Obj.isFreed_of_fields (Obj.data_mapFields hd _)), (Obj.cls_mapFields ..).trans hc, by rw [Obj.data_mapFields hd]; simp⟩
theorem rs_end {it : Addr} {x : Str} {t : Tok} {Q : Option Value → Shared → Prop} (hh : A.handled = none) (hit : IsRs s.heap it x t (-1))
    (hQ : ∀ h', Heap.ExtBut it s.heap h' → Q none { s with heap := h' }) : wpAny (model prog w) A (pyNext (.ref it)) Q E s := by
  obtain ⟨o, ho, hc, hd⟩ := id hit
  unfold pyNext
  refine wpAny_bind (wpAny_attempt (wpAny_callSpecial?_slot (name := Str.ofString "__next__") hit.kind RT.slot_rt_next (wpAny_call_entry RT.slot_rt_next hit.kind RT.entry_rt_next ?_ (RT.args_rt_next _))))
  unfold Builtin.«reversed.__next__»
  refine wpAny_bind (wpAny_of_eq (a := (Value.ref it, [])) rfl ?_) <;> try dsimp only
  refine wpAny_bind (wpAny_field ho hd (x := .str x t) rfl ?_) <;> try dsimp only
  refine wpAny_bind (wpAny_field ho hd (x := rawInt (-1)) rfl ?_)
  show wpAny _ _ (if (-1 : Int) < 0 then _ else _) _ _ s
  rw [if_pos (by decide)] <;> try dsimp only
  refine wpAny_bind (wpAny_rule ?_) <;> refine wpAny_bind ?_ <;> wp_delta
  refine wpAny_bind (wpAny_setField ho hd (by simp) ?_)
  have ho2 := Heap.get?_update_self (Obj.mapFields (·.setIfInBounds 1 (rawInt (-1)))) ho (Obj.isFreed_of_fields (Obj.data_mapFields hd _))
  refine wpAny_setField (s := { s with heap := s.heap.update it (Obj.mapFields (·.setIfInBounds 1 (rawInt (-1)))) }) ho2 (Obj.data_mapFields hd _) (by simp) ?_
  try dsimp only
  first
  | show wpAny _ _ (newExc (.type "StopIteration") [] >>= _) _ _ _
  | (refine wpAny_bind ?_; show wpAny _ _ (newExc (.type "StopIteration") [] >>= _) _ _ _)
  | (refine wpAny_bind ?_; wp_delta; show wpAny _ _ (newExc (.type "StopIteration") [] >>= _) _ _ _)
  refine wpAny_bind ?_
  simp only [newExc, newTuple]
  refine wpAny_bind (wpAny_newObj_type ?_ (by size_fits))
  refine wpAny_bind (m := firstArgMember _ _) (wpAny_of_eq (a := Value.none) (by first | rfl | (simp only [firstArgMember]; rfl)) ?_)
  refine wpAny_newObj_type ?_ (by size_fits)
  simp only [raiseNew]
  refine wpAny_bind (wpAny_handled ?_)
  first | rw [show A.in1.handled = none from hh] | rw [hh]
  refine wpAny_bind (wpAny_pure (wpAny_throw ?_))
  refine wpAny_bind (wpAny_isInstance (T := "StopIteration") (b := true) ⟨_, Heap.get?_push_size _ rfl, rfl⟩ isSubtype_stop ?_)
  refine wpAny_pure (hQ _ ?_)
  refine ((?_ : Heap.ExtBut it s.heap _).push _).push _
  exact fun b ob hb e => (Heap.get?_update_other _ _ (Ne.symm hb)).trans ((Heap.get?_update_other _ _ (Ne.symm hb)).trans e)
theorem rs_iter {it : Addr} {x : Str} {t : Tok} {i : Int} {Q : Value → Shared → Prop} (hit : IsRs s.heap it x t i) (h : Q (.ref it) s) : wpAny (model prog w) A (pyIter (.ref it)) Q E s := by
  refine wpAny_pyIter_slot hit.kind RT.slot_rt_iter (wpAny_call_entry RT.slot_rt_iter hit.kind RT.entry_rt_iter ?_ (RT.args_rt_iter _))
  show wpAny _ _ (ret (.ref it)) _ _ s
  exact wpAny_pure ⟨_, rfl, "reversed", _, hit.kind, RT.slot_rt_next.lookup, h⟩
end
/-- the signs of a text from the last -/
def RsIt (x : Str) : It := ⟨fun i _ => i < x.cps.size, fun i H v H' => H' = H ∧ ∃ c, x.cps[x.cps.size - 1 - i]? = some c ∧ v = .str ⟨#[c]⟩, fun i _ => x.cps.size ≤ i⟩
theorem rs_turn {P : Program} {w : World} {K : PySem.W.Frag} {tg : Expr} (it : Addr) (x : Str) (t : Tok) (hx : x.length ≤ sizeLine) :
    Turn P w K tg (RsIt x) [it] it (fun i h => i ≤ x.cps.size ∧ IsRs h it x t ((x.cps.size : Int) - 1 - (i : Nat))) where
  mem := by simp
  obj := fun i h st b hb => by
    obtain rfl : b = it := by simpa using hb
    obtain ⟨_, o, e, c, d⟩ := st
    exact ⟨o, e, fun v z => by rw [d] at z; cases z⟩
  keep := fun i h h' st k => by
    obtain ⟨hi, o, e, r⟩ := st
    exact ⟨hi, o, k it (by simp) o e, r⟩
  item := by
    intro X hP hw hK hc i pins s σ H E I hf st hg
    subst hP hw hK
    have hlt : i < x.cps.size := hg
    obtain ⟨f0, f1, f2, f3, f4, f5⟩ := hf it (by simp)
    obtain ⟨_, hit⟩ := st
    have e1 : (x.cps.size : Int) - 1 - ((i : Nat) : Int) = ((x.cps.size - 1 - i : Nat) : Int) := by omega
    rw [e1] at hit
    have hj : x.cps.size - 1 - i < x.cps.size := by omega
    have hcx : x.cps[x.cps.size - 1 - i]? = some x.cps[x.cps.size - 1 - i] := Array.getElem?_eq_getElem hj
    refine rs_next hit hcx hx fun h' u k st' sb => ?_
    have e2 : ((x.cps.size - 1 - i : Nat) : Int) - 1 = (x.cps.size : Int) - 1 - ((i + 1 : Nat) : Int) := by omega
    rw [e2] at st'
    have J : Inv X pins σ H { s with heap := h', toks := k } := I.turned (t' := k) (fun b o hb e => (sb.2 b hb).trans e) f0 f1 f3 f4 f5
    obtain ⟨o, e, c, d⟩ := id st'
    exact ⟨_, rfl, go_of (s := { s with heap := h', toks := k }) e c d (by decide) ⟨.str ⟨#[_]⟩, H, J, ⟨u, rfl⟩, ⟨rfl, _, hcx, rfl⟩, ⟨hlt, st'⟩, fun b hb => (hf b hb).1⟩⟩
  done := by
    intro X hP hw hK hc i pins s σ H E I hf st hg
    subst hP hw hK
    obtain ⟨f0, f1, f2, f3, f4, f5⟩ := hf it (by simp)
    obtain ⟨hin, hit⟩ := st
    have hge : x.cps.size ≤ i := hg
    have e1 : (x.cps.size : Int) - 1 - ((i : Nat) : Int) = -1 := by omega
    rw [e1] at hit
    exact rs_end (I.ok.hd hc) hit fun h' eb => ⟨rfl, I.turned (t' := s.toks) (fun b o hb e => eb b o hb e) f0 f1 f3 f4 f5⟩
  self := fun A i s Q E st h => rs_iter st.2 h
def iRs (te : TE) : TI := fun σ H R => te σ H fun v H1 => ∃ x, v = .str x ∧ x.length ≤ sizeLine ∧ R (RsIt x) H1
/-- for c in reversed(x) of a text -/
theorem pi_rs {X : Cx} {tg e : Expr} {te : TE} {p pos : Pos} (hg : Gl X "reversed") (hm : X.mg "reversed" = none) (he : PE X e te) (hs : starEach [e] X.env = (false, eval e X.env) :: starEach [] X.env := by rfl) : PI X tg (.Call (.Name "reversed" p) [e] [] pos) (iRs te) := by
  refine ⟨fun pins s σ H R I h => ?_⟩
  refine Call_ (ld_blt I hg hm boot_reversed (callWith_type1 (args_cons (thn (he.run pins s σ H _ I h) fun u s1 ⟨v, H1, I1, r1, x, ev, hx, q⟩ => args_nil ?_) hs) hs rfl))
  subst ev
  obtain ⟨t, rfl⟩ := r1
  refine rs_call hx (rs_iter (x := x) (t := t) (i := (x.length : Int) - 1) ⟨_, Heap.get?_push_size _ rfl, rfl, rfl⟩ ?_)
  refine pi_one (tk := s1.toks + 1 + 1) I1 _ (rs_turn _ x t hx) ⟨Nat.zero_le _, ?_⟩ q
  have e1 : (x.length : Int) - 1 = (x.cps.size : Int) - 1 - ((0 : Nat) : Int) := by show (x.cps.size : Int) - 1 = _; omega
  rw [← e1]
  exact ⟨_, Heap.get?_push_size _ rfl, rfl, rfl⟩
theorem for_rs {x : Str} {g : TG} {tb : TS} {D : Ends} {σ : L2.St} {H : Hp} (Pv : Nat → L2.St → Hp → Prop) (h0 : Pv 0 σ H)
    (hs : ∀ (i c : Nat) (σ : L2.St) (H : Hp), i < x.cps.size → x.cps[x.cps.size - 1 - i]? = some c → Pv i σ H → g (.str ⟨#[c]⟩) σ H fun σ2 H2 => tb { D with nx := Pv (i + 1), ct := Pv (i + 1), bk := D.nx } σ2 H2) (hd : ∀ σ H, Pv x.cps.size σ H → D.nx σ H) :
    ∃ W : Nat → Nat → L2.St → Hp → Prop, (∃ m, W 0 m σ H) ∧ ∀ i m σ H, W i m σ H →
      ((RsIt x).stop i H ∧ D.nx σ H) ∨ ((RsIt x).go i H ∧ ∃ N : L2.St → Hp → Prop, (∀ σ' H', N σ' H' → ∃ m', m' < m ∧ W (i + 1) m' σ' H') ∧ ∀ v H', (RsIt x).yld i H v H' → g v σ H' fun σ2 H2 => tb { D with nx := N, ct := N, bk := D.nx } σ2 H2) := by
  refine ⟨fun i m σ H => m = x.cps.size - i ∧ i ≤ x.cps.size ∧ Pv i σ H, ⟨_, rfl, Nat.zero_le _, h0⟩, ?_⟩
  rintro i m σ H ⟨rfl, hi, p⟩
  by_cases hlt : i < x.cps.size
  · refine .inr ⟨hlt, Pv (i + 1), fun σ' H' p' => ⟨_, by omega, rfl, hlt, p'⟩, fun v H' r => ?_⟩
    obtain ⟨rfl, c, hc, rfl⟩ := r
    exact hs i c σ _ hlt hc p
  · obtain rfl : i = x.cps.size := by omega
    exact .inl ⟨Nat.le_refl _, hd σ H p⟩
end Hid

namespace Hid
open PySem PySem.Spec PyProof.Rows L2
/-! sorted of data -/
section
variable {X : Cx} {β : Type}
def rSortD (K : PySem.W.Frag) (enc : β → PyData) : List V → Hp → VK → Prop := fun vs H Q => ∃ (a : Addr) (xs : List V) (bs : List β) (R : V → β → Prop), vs = [.ref a] ∧ SqL K H a xs ∧ Paired R xs bs ∧ (∀ v b, R v b → Dp K H v (enc b)) ∧
  PySem.W.AllAlike (bs.map enc) ∧ PySem.W.Sortable (bs.map enc) ∧ (∀ b ∈ bs, (enc b).depth ≤ 8) ∧ ∀ ys p, Paired R ys (bs.mergeSort (PySem.W.dataLe false enc)) → H p = none → Q (.ref p) (upd H p (.lst ys))
theorem each_of_paired {R : V → β → Prop} : ∀ {xs : List V} {its : List Value} {bs : List β}, Vals xs its → Paired R xs bs → PySem.W.EachIs (fun v b => ∃ x, RelV x v ∧ R x b) its bs
  | _, _, _, .nil, .nil => .nil
  | _, _, _, .cons r rs, .cons d ds => .cons ⟨_, r, d⟩ (each_of_paired rs ds)
theorem paired_of_each {R : V → β → Prop} : ∀ {out : List Value} {bs : List β}, PySem.W.EachIs (fun v b => ∃ x, RelV x v ∧ R x b) out bs → ∃ ys, Vals ys out ∧ Paired R ys bs
  | _, _, .nil => ⟨[], .nil, .nil⟩
  | _, _, .cons ⟨x, r, d⟩ t => let ⟨ys, h1, h2⟩ := paired_of_each t; ⟨x :: ys, .cons r h1, .cons d h2⟩
theorem paired_len {α γ : Type} {F : α → γ → Prop} : ∀ {l : List α} {m : List γ}, Paired F l m → l.length = m.length
  | _, _, .nil => rfl
  | _, _, .cons _ t => congrArg (· + 1) (paired_len t)
theorem each_mono {α γ : Type} {R R' : α → γ → Prop} (h : ∀ a b, R a b → R' a b) : ∀ {l : List α} {m : List γ}, PySem.W.EachIs R l m → PySem.W.EachIs R' l m
  | _, _, .nil => .nil
  | _, _, .cons a t => .cons (h _ _ a) (each_mono h t)
theorem cr_sortD {enc : β → PyData} (hu : X.A.units + 64 < cLine) : CallR X (.builtin "sorted") (rSortD X.K enc) := by
  intro pins s σ H vs us Q I r h
  obtain ⟨a, xs, bs, R, rfl, hs, hp, hR, hal, hk, hd, q⟩ := h
  obtain ⟨its, rv, hl, hz⟩ := I.list hs
  rw [Vals.ref1 r]
  have e := each_of_paired rv hp
  have hlen : bs.length = xs.length := (paired_len hp).symm
  refine PySem.W.sorted_data (vs := its) hl.isList e (each_mono (fun v b ⟨x, r, d⟩ => Dp.reads I _ _ _ (hR _ _ d) r) e) hal hk (by rw [hlen]; exact hz) (fun b hb => ?_) fun out ho eo => ?_
  · have := hd b hb
    omega
  · obtain ⟨ys, h1, h2⟩ := paired_of_each eo
    obtain ⟨c, hc⟩ := sortedAll_at s.heap its (List.toArray out)
    have hle : s.heap.objs.size ≤ s.heap.objs.size + 1 := Nat.le_succ _
    refine ⟨.ref (s.heap.objs.size + 1), upd H (s.heap.objs.size + 1) (.lst ys), I.laid (t' := s.toks) (fun _ _ => sortedAll_old) hle ⟨?_, out, c, h1, hc⟩, rfl, q ys _ h2 (I.hok.fresh hle)⟩
    rw [h1.length, ho, hlen]
    exact hz
end
/-- pairs of texts as data -/
def encSS (p : Str × Str) : PyData := .tuple [.str p.1, .str p.2]
theorem cr_sortSS {X : Cx} (hu : X.A.units + 64 < cLine) : CallR X (.builtin "sorted") (rSortD X.K encSS) := cr_sortD hu
theorem le_ss (p q : Str × Str) (h : p.1.cps.toList < q.1.cps.toList) : PySem.W.dataLe false encSS p q = true := by
  show (!PySem.W.dataLt (.tuple [.str q.1, .str q.2]) (.tuple [.str p.1, .str p.2])) = true
  have ne : PyData.eqv (.str q.1) (.str p.1) = false := by
    show (q.1 == p.1) = false
    rw [beq_eq_false_iff_ne]
    intro e
    rw [e] at h
    exact List.lt_irrefl _ h
  rw [PySem.W.dataLt_pair (by simp [PySem.W.alike]) (by simp [PySem.W.alike]), ne, if_neg Bool.false_ne_true, PySem.W.dataLt_str]
  have : ¬ q.1.cps.toList < p.1.cps.toList := fun z => List.lt_irrefl _ (List.lt_trans h z)
  simp [this]
/-! text * number, >>= -/
section
variable {X : Cx}
theorem op_mul_str : OpR X (binaryOp .Mult) (fun x y H Q => ∃ z i, x = .str z ∧ y = .int i ∧ 0 ≤ i ∧ i ≤ 1000 ∧ z.length ≤ 1000 ∧ Q (.str (Txt.mul z i)) H) := by
  intro pins s σ H x y v u Q I rx ry h
  obtain ⟨z, i, rfl, rfl, h0, h1, h2, q⟩ := h
  obtain ⟨t, rfl⟩ := rx
  obtain ⟨t', rfl⟩ := ry
  refine PySem.SB.mul ⟨?_, fun n1 _ => ?_, fun n1 _ => ?_⟩ fun t' k => ⟨.str _, H, I.tok k, ⟨t', rfl⟩, q⟩
  · have e1 : decide (i < -(2 ^ 63 : Int)) = false := decide_eq_false (by omega)
    have e2 : decide (i ≥ 2 ^ 63) = false := decide_eq_false (by omega)
    rw [e1, e2] <;> rfl
  · have : (1000 : Int) ≤ (2 ^ 63 - 1) / i := (Int.le_ediv_iff_mul_le (by omega)).mpr (by omega)
    omega
  · unfold Builtin.Str.tooLong
    have h3 : z.length * i.toNat ≤ 1000 * 1000 := Nat.mul_le_mul h2 (by omega)
    have h4 : (1000 * 1000 : Nat) ≤ sizeLine := by decide
    exact decide_eq_false (by omega)
theorem ip_shr : PIp X .RShift (rI (fun _ j => 0 ≤ j) fun i j => .int (i / 2 ^ j.toNat)) := iop_shr
end
/-! sep.join(reversed(list)) -/
theorem gives_join {x : Str} (lz : List (Str × Tok)) (g0 : Builtin.Str.tooLong ((lz.map (·.1)).toArray.foldl (· + ·.length + x.length) 0) = false) : Gives (PySem.joinTail x (strValues lz)) (joinMade x lz) := by
  have g1 := gives_joinTail x lz g0
  match lz, g0, g1 with
  | [], _, g1 => exact g1
  | [_], _, g1 => exact g1
  | _ :: _ :: _, _, g1 => exact g1
section
variable {prog : Program} {w : World} {A : Around} {E : Value → Shared → Prop} {s : Shared}
theorem join_rev {it l : Addr} {items : Array Value} {ys : List Str} {x : Str} {t : Tok} {Q : Value → Shared → Prop} (hh : A.handled = none) (hit : s.heap.IsRevIter it l ((items.size : Int) - 1)) (hl : s.heap.IsList l items) (hne : l ≠ it) (hn : items.size ≤ sizeLine)
    (hy : StrsAre items.toList ys) (hok : (ys.map (·.length)).sum + ys.length * x.length ≤ 16777216)
    (hq : ∀ (h' : Heap) t' k, (∀ b o, b ≠ it → s.heap.get? b = some o → h'.get? b = some o) → Q (.str (Txt.join x ys.reverse) t') { s with heap := h', toks := k }) :
    wpAny (model prog w) A (call (.builtin "str.join") [.str x t, .ref it]) Q E s := by
  refine wpAny_call (codeAny_call_builtin F.slot_str_join.plain F.entry_str_join (F.slot_str_join.check _ _ _ _ _ _ _ _ (typeIs_str _ _ _) (F.args_str_join_2 _ _) ?_))
  rw [PySem.join_tree_other]
  refine wpAny_bind (wpAny_typeOf hit.typeIs ?_)
  show wpAny _ A.in1 ((pyIter (.ref it)).tryCatch _ >>= fun i => collect i >>= fun items => PySem.joinTail x items) _ _ s
  refine wpAny_bind (wpAny_tryCatch (wpAny_pyIter_revIter hit ?_))
  refine wpAny_bind (RT.collect_rev (A := A.in1) hh hit hl hne hn fun h' tk acc hk hacc => ?_)
  have hr : acc.toList = items.toList.reverse := by
    apply List.ext_getElem?
    intro j
    by_cases hj : j < items.size
    · have h1 : j < acc.size := by rw [hacc.1]; exact hj
      have e1 : acc.toList[j]? = some acc[j] := by rw [Array.getElem?_toList, Array.getElem?_eq_getElem h1]
      have e2 := hacc.2 j acc[j] (Array.getElem?_eq_getElem h1)
      rw [e1, List.getElem?_reverse (by simpa using hj)] <;> simpa using e2.symm
    · rw [List.getElem?_eq_none (by rw [Array.length_toList, hacc.1]; omega), List.getElem?_eq_none (by rw [List.length_reverse, Array.length_toList]; omega)]
  obtain ⟨vals, hv, ht⟩ := strsAre_values hy
  have hl2 : acc.toList = strValues vals.reverse := by
    rw [hr, hv]
    show (List.map _ vals).reverse = List.map _ vals.reverse
    rw [List.map_reverse]
  rw [hl2]
  have hok2 : (((vals.reverse).map (·.1)).map (·.length)).sum + ((vals.reverse).map (·.1)).length * x.length ≤ 16777216 := by
    rw [List.map_reverse, ht, List.map_reverse, List.sum_reverse, List.length_reverse]
    exact hok
  have g0 := joinOk_of hok2
  unfold JoinOk at g0
  rw [Bool.not_eq_true'] at g0
  refine Hid.gives_join vals.reverse g0 prog w A (wants Q E) { s with heap := h', toks := tk } (post_join vals.reverse ⟨joinFit_length g0, fun t' k => ?_⟩)
  rw [List.map_reverse, ht]
  exact hq h' t' k hk
end
/-- x.join(reversed(xs)), xs a list of texts -/
def tJoinRev (K : PySem.W.Frag) (to te : TE) : TE := fun σ H Q => to σ H fun v H1 => ∃ x, v = .str x ∧ te σ H1 fun y H2 => ∃ (a : Addr) (ys : List Str), y = .ref a ∧ SqL K H2 a (ys.map V.str) ∧ (ys.map (·.length)).sum + ys.length * x.length ≤ 16777216 ∧ Q (.str (Txt.join x ys.reverse)) H2
theorem pe_joinRev {X : Cx} {o e : Expr} {to te : TE} {apos pos p2 pos2 : Pos} (hc : X.calm = true) (hg2 : Gl X "reversed") (hm2 : X.mg "reversed" = none) (ho : PE X o to) (he : PE X e te)
    (hs : starEach [e] X.env = (false, eval e X.env) :: starEach [] X.env := by rfl)
    (hs2 : starEach [.Call (.Name "reversed" p2) [e] [] pos2] X.env = [(false, eval (.Call (.Name "reversed" p2) [e] [] pos2) X.env)] := by rfl)
    (hbase : attributeBase o "join" X.env (eval o X.env) = eval o X.env := by rfl) (hline : (apos.endLine == pos.line) = true := by rfl) :
    PE X (.Call (.Attribute o "join" apos) [.Call (.Name "reversed" p2) [e] [] pos2] [] pos) (tJoinRev X.K to te) := by
  refine ⟨fun pins s σ H Q I h => ?_⟩
  refine PySem.Call_method1 hbase hs2 hline (thn (ho.run pins s σ H _ I h) fun v s1 ⟨x0, H1, I1, r1, x, q1, h1⟩ => ?_)
  subst q1
  obtain ⟨t, rfl⟩ := _root_.id r1
  refine ⟨"str", _, F.plainAttrs_str, F.slot_str_join, F.type_str_join, typeIs_str _ _ _, (fun _ e => nomatch e), Calls.callWith_builtin rfl (Calls.evalArgs_plain (Calls.spliced_cons ?_))⟩
  refine Call_ (ld_blt I1 hg2 hm2 boot_reversed (callWith_type1 (args_cons (thn (he.run pins s1 σ H1 _ I1 h1) fun u s2 ⟨y, H2, I2, r2, q2⟩ => args_nil ?_) hs) hs rfl))
  obtain ⟨a, ys, rfl, hq, hz, q⟩ := q2
  obtain rfl : u = Value.ref a := r2
  obtain ⟨its, rv, p', hn⟩ := I2.list hq
  refine call_reversed_list p'.isList (Calls.spliced_nil ?_)
  have k0 : ∀ b ob, s2.heap.get? b = some ob → (s2.heap.push (revObj a ((its.toArray.size : Int) - 1))).get? b = some ob := fun b ob e => Heap.get?_push_of_some _ e
  have I3 : Inv X pins σ H2 { s2 with heap := s2.heap.push (revObj a ((its.toArray.size : Int) - 1)) } := I2.kept (t' := s2.toks) k0
  obtain ⟨f0, f1, f2, f3, f4, f5⟩ := I2.fpOk (H' := H2) (b := s2.heap.objs.size) (Nat.le_refl _) (I2.hok.fresh (Nat.le_refl _))
  have hl := p'.isList
  obtain ⟨ol, hol, _⟩ := _root_.id hl
  have hne : a ≠ s2.heap.objs.size := Nat.ne_of_lt (Heap.lt_size hol)
  refine join_rev (s := { s2 with heap := s2.heap.push (revObj a ((its.toArray.size : Int) - 1)) }) (ys := ys) (I2.ok.hd hc) ⟨_, Heap.get?_push_size _ rfl, rfl, rfl⟩ (hl.push _) hne (by rw [List.size_toArray, ← rv.length]; exact hn) (by rw [List.toList_toArray]; exact strs_of_vals rv) hz fun h' t' k hk => ?_
  exact ⟨.str _, H2, I3.turned (t' := k) (fun b ob hb e => hk b ob hb e) f0 f1 f3 f4 f5, ⟨t', rfl⟩, q⟩
end Hid

namespace Hid
open PySem
/-! texts as lists of signs: n 110, b 98, y 121 -/
abbrev tx (l : List Nat) : Str := ⟨l.toArray⟩
theorem tx_cps (z : Str) : tx z.cps.toList = z := by cases z; simp [tx]
theorem tx_inj {a c : List Nat} (h : tx a = tx c) : a = c := by
  have := congrArg (fun z : Str => z.cps.toList) h
  simpa [tx] using this
def RowL (l : List Nat) : Prop := (1 ≤ l.length ∧ l.length ≤ 8) ∧ ∀ c ∈ l, c = 110 ∨ c = 98 ∨ c = 121
/-! the count of a sign -/
theorem occ_count (x : Str) (c : Nat) : ∀ (n a : Nat) (st : Array Nat × Nat), a + n = x.length + 1 → st.2 ≤ a → st.1.size ≤ a →
    (forIn (List.range' a n) st (StrLaws.occBody x ⟨#[c]⟩ x.length (x.length + 1))).run.fst.size = st.1.size + (x.cps.toList.drop a).count c := by
  intro n
  induction n with
  | zero =>
    intro a st h1 _ _
    have : x.cps.toList.drop a = [] := List.drop_eq_nil_of_le (by simp only [Array.length_toList]; show x.length ≤ a; omega)
    rw [this]
    rfl
  | succ n ih =>
    intro a st h1 h2 h3
    rw [List.range'_succ, List.forIn_cons]
    have hs := StrLaws.subAt_one x c a
    by_cases hc : x.cps.toList[a]? = some c
    · obtain ⟨q1, q2⟩ := hs.mpr hc
      have hlt : a < x.cps.toList.length := (List.getElem?_eq_some_iff.mp hc).1
      have e : x.cps.toList.drop a = c :: x.cps.toList.drop (a + 1) := by
        rw [List.drop_eq_getElem_cons hlt, (List.getElem?_eq_some_iff.mp hc).2]
      unfold StrLaws.occBody
      rw [if_pos ⟨⟨⟨by omega, h2⟩, q1⟩, q2⟩]
      have := ih (a + 1) (st.1.push a, a + (⟨#[c]⟩ : Str).length) (by omega) (Nat.le_refl _) (by rw [Array.size_push]; omega)
      refine Eq.trans this ?_
      rw [e, List.count_cons_self]
      show (st.1.push a).size + _ = _
      rw [Array.size_push]
      omega
    · have hn : ¬ (a + (⟨#[c]⟩ : Str).length ≤ x.length ∧ Builtin.Str.subAt x ⟨#[c]⟩ a = true) := fun h => hc (hs.mp h)
      unfold StrLaws.occBody
      rw [if_neg fun h => hn ⟨h.1.2, h.2⟩]
      have := ih (a + 1) (st.1, st.2) (by omega) (by show st.2 ≤ a + 1; omega) (by show st.1.size ≤ a + 1; omega)
      refine Eq.trans this ?_
      by_cases hlt : a < x.cps.toList.length
      · have e : x.cps.toList.drop a = x.cps.toList[a] :: x.cps.toList.drop (a + 1) := List.drop_eq_getElem_cons hlt
        rw [e, List.count_cons_of_ne]
        intro z
        exact hc (by rw [List.getElem?_eq_getElem hlt, z])
      · rw [List.drop_eq_nil_of_le (by omega), List.drop_eq_nil_of_le (by omega)]
theorem count_one (x : Str) (c : Nat) : Txt.count x ⟨#[c]⟩ = (x.cps.toList.count c : Int) := by
  unfold Txt.count
  rw [StrLaws.occ_eq, Array.length_toList, occ_count x c _ 0 (#[], 0) (by omega) (Nat.le_refl _) (Nat.zero_le _)]
  simp
/-! lists of signs joined -/
def sg1 (c : Nat) : Str := ⟨#[c]⟩
theorem join_one (l : List Nat) : Txt.join (tx []) (l.map sg1) = tx l := by
  show Builtin.Str.glued _ _ = _
  rw [StrLaws.glued_eq_join]
  induction l with
  | nil => rfl
  | cons c r ih =>
    cases r with
    | nil => rfl
    | cons d r =>
      show Str.join (tx []) (sg1 c :: sg1 d :: r.map sg1) = _
      have e : Str.join (tx []) (sg1 c :: sg1 d :: r.map sg1) = sg1 c ++ tx [] ++ Str.join (tx []) ((d :: r).map sg1) := rfl
      rw [e, ih]
      show (⟨(#[c] ++ #[]) ++ (d :: r).toArray⟩ : Str) = ⟨(c :: d :: r).toArray⟩
      simp
theorem sg1_len (l : List Nat) : ((l.map sg1).map (·.length)).sum = l.length := by
  induction l with
  | nil => rfl
  | cons c r ih =>
    show (sg1 c).length + ((r.map sg1).map (·.length)).sum = r.length + 1
    rw [ih]
    show 1 + r.length = _
    omega
/-! the mirror -/
def tw (m s : Nat) : Nat := if m = 98 then (if s = 110 then 121 else 110) else s
def turned (row half : List Nat) : List Nat := List.zipWith tw row half
def rb (s t : Nat) : Nat := if s = t then s else 98
def rowBy (a o : List Nat) : List Nat := List.zipWith rb a o
def sgn (k : Nat) : Nat := if k % 2 = 0 then 110 else 121
def lesR : List Nat → Nat → List Nat
  | [], _ => []
  | c :: r, k => if c = 98 then sgn k :: lesR r (k / 2) else c :: lesR r k
def lesser (row : List Nat) (k : Nat) : List Nat := (lesR row.reverse k).reverse
def many (row : List Nat) : Nat := 2 ^ (row.count 98 - 1)
def part (row : List Nat) (k : Nat) : List Nat × List Nat := (lesser row k, turned row (lesser row k))
def grow (c : Nat) (p : List Nat × List Nat) : List (List Nat × List Nat) :=
  if c ≠ 98 then [(p.1 ++ [c], p.2 ++ [c])] else (p.1 ++ [110], p.2 ++ [121]) :: (if p.1 ≠ p.2 then [(p.1 ++ [121], p.2 ++ [110])] else [])
def allP (row : List Nat) : List (List Nat × List Nat) := row.foldl (fun ps c => ps.flatMap (grow c)) [([], [])]
theorem allP_snoc (r : List Nat) (c : Nat) : allP (r ++ [c]) = (allP r).flatMap (grow c) := by
  unfold allP
  rw [List.foldl_append]
  rfl
theorem lesR_len : ∀ (r : List Nat) (k : Nat), (lesR r k).length = r.length
  | [], _ => rfl
  | c :: r, k => by
    unfold lesR
    split <;> simp [lesR_len]
theorem lesser_len (row : List Nat) (k : Nat) : (lesser row k).length = row.length := by
  unfold lesser
  rw [List.length_reverse, lesR_len, List.length_reverse]
theorem turned_len (row half : List Nat) (h : half.length = row.length) : (turned row half).length = row.length := by
  unfold turned
  rw [List.length_zipWith, h, Nat.min_self]
theorem lesser_b (r : List Nat) (k : Nat) : lesser (r ++ [98]) k = lesser r (k / 2) ++ [sgn k] := by
  unfold lesser
  rw [List.reverse_append]
  show (lesR (98 :: r.reverse) k).reverse = _
  rw [show lesR (98 :: r.reverse) k = sgn k :: lesR r.reverse (k / 2) by conv => lhs; unfold lesR; rw [if_pos rfl]]
  rw [List.reverse_cons]
theorem lesser_o (r : List Nat) (c k : Nat) (h : c ≠ 98) : lesser (r ++ [c]) k = lesser r k ++ [c] := by
  unfold lesser
  rw [List.reverse_append]
  show (lesR (c :: r.reverse) k).reverse = _
  rw [show lesR (c :: r.reverse) k = c :: lesR r.reverse k by conv => lhs; unfold lesR; rw [if_neg h]]
  rw [List.reverse_cons]
theorem turned_snoc (r h : List Nat) (c x : Nat) (e : h.length = r.length) : turned (r ++ [c]) (h ++ [x]) = turned r h ++ [tw c x] := by
  unfold turned
  rw [List.zipWith_append e.symm]
  rfl
theorem rowBy_snoc (a o : List Nat) (x y : Nat) (e : a.length = o.length) : rowBy (a ++ [x]) (o ++ [y]) = rowBy a o ++ [rb x y] := by
  unfold rowBy
  rw [List.zipWith_append e]
  rfl
theorem part_b (r : List Nat) (k : Nat) : part (r ++ [98]) k = ((part r (k / 2)).1 ++ [sgn k], (part r (k / 2)).2 ++ [tw 98 (sgn k)]) := by
  unfold part
  rw [lesser_b, turned_snoc _ _ _ _ (lesser_len _ _)]
theorem part_o (r : List Nat) (c k : Nat) (h : c ≠ 98) : part (r ++ [c]) k = ((part r k).1 ++ [c], (part r k).2 ++ [c]) := by
  unfold part
  rw [lesser_o _ _ _ h, turned_snoc _ _ _ _ (lesser_len _ _)]
  unfold tw
  rw [if_neg h]
/-- two b and more: turned is another -/
theorem turned_ne : ∀ (r h : List Nat), h.length = r.length → 98 ∈ r → h ≠ turned r h
  | [], _, _, m => nomatch m
  | c :: r, [], e, _ => nomatch e
  | c :: r, x :: h, e, m => by
    intro z
    have z' : x :: h = tw c x :: turned r h := z
    injection z' with z1 z2
    rcases List.mem_cons.mp m with q | q
    · subst q
      unfold tw at z1
      rw [if_pos rfl] at z1
      split at z1 <;> omega
    · exact turned_ne r h (by simpa using e) q z2
theorem part_no_b (r : List Nat) (k : Nat) (h : r.count 98 = 0) : part r k = (r, r) := by
  have hm : 98 ∉ r := List.count_eq_zero.mp h
  have e1 : ∀ (l : List Nat) (k : Nat), 98 ∉ l → lesR l k = l := by
    intro l
    induction l with
    | nil => intros; rfl
    | cons c l ih =>
      intro k m
      rw [List.mem_cons, not_or] at m
      unfold lesR
      rw [if_neg (fun z => m.1 z.symm), ih k m.2]
  have e2 : ∀ (l : List Nat), 98 ∉ l → turned l l = l := by
    intro l
    induction l with
    | nil => intros; rfl
    | cons c l ih =>
      intro m
      rw [List.mem_cons, not_or] at m
      show tw c c :: turned l l = _
      rw [ih m.2]
      unfold tw
      rw [if_neg (fun z => m.1 z.symm)]
  unfold part lesser
  rw [e1 _ _ (by simpa using hm), List.reverse_reverse, e2 _ hm]
theorem range_two (m : Nat) : List.range (2 * m) = (List.range m).flatMap fun k => [2 * k, 2 * k + 1] := by
  induction m with
  | zero => rfl
  | succ m ih =>
    rw [List.range_succ, List.flatMap_append, ← ih, show 2 * (m + 1) = 2 * m + 1 + 1 by omega, List.range_succ, List.range_succ]
    simp
theorem many_snoc (r : List Nat) (c : Nat) : many (r ++ [c]) = if c = 98 ∧ r.count 98 ≠ 0 then 2 * many r else many r := by
  unfold many
  rw [List.count_append]
  by_cases hc : c = 98
  · subst hc
    have : List.count 98 [98] = 1 := rfl
    rw [this]
    by_cases h0 : r.count 98 = 0
    · rw [if_neg (fun h => h.2 h0), h0]
    · rw [if_pos ⟨rfl, h0⟩, show r.count 98 + 1 - 1 = r.count 98 - 1 + 1 by omega, Nat.pow_succ]
      omega
  · have : List.count 98 [c] = 0 := List.count_eq_zero.mpr (by simpa using fun z => hc z.symm)
    rw [this, if_neg (fun h => hc h.1)]
    rfl
theorem sgn_two (k : Nat) : sgn (2 * k) = 110 ∧ sgn (2 * k + 1) = 121 := by
  unfold sgn
  constructor
  · rw [if_pos (by omega)]
  · rw [if_neg (by omega)]
theorem tw_b : tw 98 110 = 121 ∧ tw 98 121 = 110 := by decide
/-- the law's own list is the list by numbers -/
theorem allP_eq (row : List Nat) : allP row = (List.range (many row)).map (part row) := by
  induction h : row.length generalizing row with
  | zero =>
    have : row = [] := List.length_eq_zero_iff.mp h
    subst this
    rfl
  | succ n ih =>
    have hne : row ≠ [] := fun z => by rw [z] at h; cases h
    obtain ⟨r, c, rfl⟩ : ∃ r c, row = r ++ [c] := ⟨row.dropLast, row.getLast hne, (List.dropLast_concat_getLast hne).symm⟩
    have hr : r.length = n := by simpa using h
    rw [allP_snoc, ih r hr, many_snoc]
    by_cases hc : c = 98
    · subst hc
      by_cases h0 : r.count 98 = 0
      · rw [if_neg (fun h => h.2 h0)]
        have hm : many r = 1 := by unfold many; rw [h0]
        rw [hm]
        show grow 98 (part r 0) ++ [] = [part (r ++ [98]) 0]
        rw [part_b, part_no_b r 0 h0, List.append_nil]
        unfold grow
        rw [if_neg (by decide), if_neg (by simp)]
        rfl
      · rw [if_pos ⟨rfl, h0⟩, range_two, List.map_flatMap, List.flatMap_map]
        congr 1
        funext k
        show grow 98 (part r k) = [part (r ++ [98]) (2 * k), part (r ++ [98]) (2 * k + 1)]
        rw [part_b, part_b, show 2 * k / 2 = k by omega, show (2 * k + 1) / 2 = k by omega, (sgn_two k).1, (sgn_two k).2, tw_b.1, tw_b.2]
        have hd : (part r k).1 ≠ (part r k).2 := turned_ne r _ (lesser_len _ _) (List.count_pos_iff.mp (by omega))
        unfold grow
        rw [if_neg (by decide), if_pos hd]
    · rw [if_neg (fun h => hc h.1), List.flatMap_map, ← List.flatMap_singleton' ((List.range (many r)).map _), List.flatMap_map]
      congr 1
      funext k
      show grow c (part r k) = [part (r ++ [c]) k]
      rw [part_o _ _ _ hc]
      unfold grow
      rw [if_pos hc]
/-! order -/
theorem app_lt : ∀ (a o x y : List Nat), a.length = o.length → a < o → a ++ x < o ++ y
  | [], [], x, y, _, h => absurd h (List.lt_irrefl _)
  | [], _ :: _, _, _, e, _ => nomatch e
  | _ :: _, [], _, _, e, _ => nomatch e
  | p :: a, q :: o, x, y, e, h => by
    rcases List.cons_lt_cons_iff.mp h with h1 | ⟨h1, h2⟩
    · exact List.cons_lt_cons_iff.mpr (.inl h1)
    · exact List.cons_lt_cons_iff.mpr (.inr ⟨h1, app_lt a o x y (by simpa using e) h2⟩)
theorem app_same : ∀ (a : List Nat) (x y : Nat), x < y → a ++ [x] < a ++ [y]
  | [], x, y, h => List.cons_lt_cons_iff.mpr (.inl h)
  | p :: a, x, y, h => List.cons_lt_cons_iff.mpr (.inr ⟨rfl, app_same a x y h⟩)
/-- what the law asks of each -/
theorem part_good (row : List Nat) : (∀ k, (part row k).1.length = row.length ∧ (part row k).2.length = row.length ∧ rowBy (part row k).1 (part row k).2 = row) ∧
    (∀ k, k < many row → (part row k).1 = (part row k).2 ∨ (part row k).1 < (part row k).2) ∧ ∀ k l, k < l → l < many row → (part row k).1 < (part row l).1 := by
  induction h : row.length generalizing row with
  | zero =>
    have : row = [] := List.length_eq_zero_iff.mp h
    subst this
    refine ⟨fun k => ⟨rfl, rfl, rfl⟩, fun k _ => .inl rfl, fun k l h1 h2 => ?_⟩
    have : many [] = 1 := rfl
    omega
  | succ n ih =>
    have hne : row ≠ [] := fun z => by rw [z] at h; cases h
    obtain ⟨r, c, rfl⟩ : ∃ r c, row = r ++ [c] := ⟨row.dropLast, row.getLast hne, (List.dropLast_concat_getLast hne).symm⟩
    have hr : r.length = n := by simpa using h
    obtain ⟨g1, g2, g3⟩ := ih r hr
    rw [List.length_append] at h
    by_cases hc : c = 98
    · subst hc
      refine ⟨fun k => ?_, fun k hk => ?_, fun k l h1 h2 => ?_⟩
      · obtain ⟨q1, q2, q3⟩ := g1 (k / 2)
        rw [part_b, ← h]
        refine ⟨by simp [q1, hr], by simp [q2, hr], ?_⟩
        show rowBy (_ ++ [sgn k]) (_ ++ [tw 98 (sgn k)]) = _
        rw [rowBy_snoc _ _ _ _ (q1.trans q2.symm), q3]
        congr 2
        unfold sgn
        split <;> rfl
      · rw [part_b]
        obtain ⟨q1, q2, q3⟩ := g1 (k / 2)
        rw [many_snoc] at hk
        by_cases h0 : r.count 98 = 0
        · rw [if_neg (fun h => h.2 h0)] at hk
          have hm : many r = 1 := by unfold many; rw [h0]
          have k0 : k = 0 := by omega
          subst k0
          rw [part_no_b r _ h0]
          exact .inr (app_same r 110 121 (by decide))
        · rw [if_pos ⟨rfl, h0⟩] at hk
          rcases g2 (k / 2) (by omega) with q | q
          · exact absurd q (turned_ne r _ (lesser_len _ _) (List.count_pos_iff.mp (by omega)))
          · exact .inr (app_lt _ _ _ _ (q1.trans q2.symm) q)
      · rw [part_b, part_b]
        rw [many_snoc] at h2
        by_cases h0 : r.count 98 = 0
        · rw [if_neg (fun h => h.2 h0)] at h2
          have hm : many r = 1 := by unfold many; rw [h0]
          omega
        · rw [if_pos ⟨rfl, h0⟩] at h2
          by_cases hkl : k / 2 = l / 2
          · rw [hkl]
            have e1 : sgn k = 110 := by unfold sgn; rw [if_pos (by omega)]
            have e2 : sgn l = 121 := by unfold sgn; rw [if_neg (by omega)]
            rw [e1, e2]
            exact app_same _ _ _ (by decide)
          · exact app_lt _ _ _ _ ((g1 _).1.trans (g1 _).1.symm) (g3 _ _ (by omega) (by omega))
    · have hm : many (r ++ [c]) = many r := by rw [many_snoc, if_neg (fun h => hc h.1)]
      refine ⟨fun k => ?_, fun k hk => ?_, fun k l h1 h2 => ?_⟩
      · obtain ⟨q1, q2, q3⟩ := g1 k
        rw [part_o _ _ _ hc, ← h]
        refine ⟨by simp [q1, hr], by simp [q2, hr], ?_⟩
        show rowBy (_ ++ [c]) (_ ++ [c]) = _
        rw [rowBy_snoc _ _ _ _ (q1.trans q2.symm), q3]
        congr 2
        unfold rb
        rw [if_pos rfl]
      · rw [part_o _ _ _ hc]
        rcases g2 k (by omega) with q | q
        · left
          show _ ++ [c] = _ ++ [c]
          rw [q]
        · exact .inr (app_lt _ _ _ _ ((g1 k).1.trans (g1 k).2.1.symm) q)
      · rw [part_o _ _ _ hc, part_o _ _ _ hc]
        exact app_lt _ _ _ _ ((g1 _).1.trans (g1 _).1.symm) (g3 _ _ h1 (by omega))
end Hid

namespace Hid
open PySem PySem.Spec PyProof.Rows L2 Evl
/-- a def of the text: where it stands -/
def Df (K : PySem.W.Frag) (mg : Str → Option Value) (x : Str) (st : Stmt) (ps : List Str) : Prop := ∃ (f : Addr) (fd : FuncData), Fun K x x st f fd ∧ Binds K fd ps [] ∧ mg x = some (.ref f)
/-- .. and what it promises -/
def At (P : Program) (w : World) (K : PySem.W.Frag) (mg : Str → Option Value) (base : Heap) (x : Str) (st : Stmt) (n : Nat) (ps : List Str) (sp : Sp) : Prop :=
  ∃ (f : Addr) (fd : FuncData), Fun K x x st f fd ∧ Binds K fd ps [] ∧ mg x = some (.ref f) ∧ FnOk P w K mg base CX0 n f fd ps sp
section
variable {K : PySem.W.Frag} {σ : L2.St} {H H' : Hp} {ta tb tc te tl : TE}
theorem walk_zs {x y : Str} {n : Nat} (hn : n = min x.cps.size y.cps.size) : Walk (ZsIt x y) n (fun _ => True) (fun i G v G' => ∃ T c d, v = .ref T ∧ G T = none ∧ G' = upd G T (.tup [.str ⟨#[c]⟩, .str ⟨#[d]⟩]) ∧ x.cps[i]? = some c ∧ y.cps[i]? = some d) := by
  subst hn
  exact ⟨fun _ _ hi _ => hi, fun _ _ => Nat.le_refl _, fun _ _ _ _ _ _ q => q⟩
abbrev vs1 (l : List Nat) : List V := l.map fun c => V.str (sg1 c)
theorem vs1_str (l : List Nat) : vs1 l = (l.map sg1).map V.str := by rw [List.map_map]; rfl
/-- ''.join of a list of signs -/
theorem r_join {l : List Nat} {p : Addr} {Q : VK} (hp : SqL K H p (vs1 l)) (hl : l.length ≤ 1000000) (q : Q (.str (tx l)) H) :
    ∃ a p', ∃ ys : List Str, (V.str (tx []) : V) = .str a ∧ [V.ref p] = [V.ref p'] ∧ (SqL K H p' (ys.map V.str) ∨ SqT K H p' (ys.map V.str)) ∧ (ys.map (·.length)).sum + ys.length * a.length ≤ 16777216 ∧ Q (.str (Txt.join a ys)) H := by
  refine ⟨tx [], p, l.map sg1, rfl, rfl, .inl (by rw [← vs1_str]; exact hp), ?_, ?_⟩
  · rw [sg1_len]
    show l.length + _ * 0 ≤ 16777216
    omega
  · rw [join_one]
    exact q
theorem str1_dec (c d : Nat) : decide ((V.str (sg1 c) : V) = V.str (sg1 d)) = decide (c = d) := by
  by_cases h : c = d
  · rw [decide_eq_true h, decide_eq_true (by rw [h])]
  · rw [decide_eq_false h, decide_eq_false]
    intro z
    have z2 : sg1 c = sg1 d := V.str.inj z
    have := congrArg (fun s : Str => s.cps.toList) z2
    simp [sg1] at this
    exact h this
theorem strtx_dec (a o : List Nat) : decide ((V.str (tx a) : V) = V.str (tx o)) = decide (a = o) := by
  by_cases h : a = o
  · rw [decide_eq_true h, decide_eq_true (by rw [h])]
  · rw [decide_eq_false h, decide_eq_false]
    intro z
    exact h (tx_inj (V.str.inj z))
theorem ev_chain {r r' : R2} {x y z : V} {b b' : Bool} (ha : Ev ta σ H x) (hb : Ev tb σ H y) (hr : RV r x y H (.bl b)) (hc : b = true → Ev tc σ H z) (hr' : b = true → RV r' y z H (.bl b')) : Ev (tChain r r' ta tb tc) σ H (.bl (b && b')) := fun H1 e Q q =>
  ha H1 e _ fun H2 e2 => hb H2 (e.trans e2) _ fun H3 e3 => hr H3 ((e.trans e2).trans e3) _ fun H4 e4 => ⟨b, rfl, by
    cases b with
    | true => exact iteT (hc rfl H4 (((e.trans e2).trans e3).trans e4) _ fun H5 e5 => hr' rfl H5 ((((e.trans e2).trans e3).trans e4).trans e5) _ fun H6 e6 => q H6 ((((e2.trans e3).trans e4).trans e5).trans e6))
    | false => exact iteF (q H4 ((e2.trans e3).trans e4))⟩
theorem ev_isi {x : V} {t n : String} {b : Bool} (ha : Ev ta σ H x) (ht : ∀ H1, Ex H H1 → TyX K H1 x (.type t)) (hk : kitB t n = some b) : Ev (tCB (rIsi K) (tCons ta (tCons (tC (.ty n)) tNil))) σ H (.bl b) := fun H1 e Q q =>
  ha H1 e _ fun H2 e2 => ⟨x, .ty n, _, _, b, rfl, .ty n, ht H2 (e.trans e2), kit_ty hk, q H2 e2⟩
theorem ev_all {bs : List Bool} (h : EvL tl σ H (bs.map V.bl)) : Ev (tCB (rAll K) (tCons tl tNil)) σ H (.bl (bs.all id)) := fun H1 e Q q =>
  h H1 e _ fun p H2 hp e2 h2 => ⟨p, bs, rfl, sq_of h2, q H2 e2⟩
theorem given_true (n : Nat) (v : Nat → V) : given n (fun _ => true) v = (List.range n).map v := by
  unfold given
  rw [List.filter_eq_self.mpr fun _ _ => rfl]
theorem c_call {sp : Sp} {E : XK} {ta : TA} {vs : List V} {Q : VK} (h : EvA ta σ H vs) (k : ∀ H2, Ex H H2 → sp vs H2 Q E) : tCall sp [] E ta σ H Q := h H (Ex.refl _) _ fun H2 e2 => by
  show sp (vs ++ []) H2 Q E
  rw [List.append_nil]
  exact k H2 e2
theorem c_call1 {sp : Sp} {E : XK} {ta : TA} {vs : List V} {Q : List V → Hp → Prop} (h : EvA ta σ H vs) (k : ∀ H2, Ex H H2 → sp vs H2 (fun x H3 => Q [x] H3) E) : tCons (tCall sp [] E ta) tNil σ H Q := c_call h k
theorem tyes {T E : Hp → Prop} (h : T H) : tYes σ H (fun b H3 => if b = true then T H3 else E H3) := by
  show if true = true then T H else E H
  rw [if_pos rfl]
  exact h
theorem et_yes : EvT tYes σ H true := fun H1 _ _ q => q H1 (Ex.refl _)
/-- a comprehension over a list of pairs -/
theorem el_lcP {a : Addr} {xs : List V} {i j : Nat} {vs : List Nat} (v : Nat → V) (h : Ev tl σ H (.ref a)) (hx : SqL K H a xs) (hz : xs.length ≤ 40000)
    (hw : ∀ p q, wipe (((wipe σ vs).set i (some p)).set j (some q)) vs = wipe σ vs)
    (hp : ∀ n x, xs[n]? = some x → ∃ t p q, x = .ref t ∧ SqT K H t [p, q] ∧ Ev te (((wipe σ vs).set i (some p)).set j (some q)) H (v n)) :
    EvL (tLc (iList K tl) (gTup K 2 (gCons (gName i) (gCons (gName j) gNil))) tYes te vs) σ H ((List.range xs.length).map v) := fun H0 e Q q => h H0 e _ fun H1 e1 => ⟨a, rfl, ⟨xs, ex_l (e.trans e1) hx⟩, fun Dl hD =>
  lc_list (xs := xs) (Cw H1 (fun _ => true) v Dl) ⟨hD, Ex.new hD, upd_same⟩ (fun i H' _ p => ex_l ((e.trans e1).trans p.2.1) hx) (fun n x H' hn p => by
      obtain ⟨t, x1, x2, rfl, hT, hE⟩ := hp n x hn
      exact ⟨t, [x1, x2], rfl, ex_t ((e.trans e1).trans p.2.1) hT, rfl, x1, [x2], rfl, x2, [], rfl, rfl, hw x1 x2, cw_turn (f := fun _ => true) p (by have := (List.getElem?_eq_some_iff.mp hn).1; omega) et_yes fun _ => hE.mono (e.trans e1)⟩)
    (fun H' p => q Dl H' (fresh_back e1 p.1) (e1.trans p.2.1) (by rw [p.2.2, given_true]))⟩
/-! pairs of texts -/
def PrT (K : PySem.W.Frag) (H : Hp) (v : V) (p : List Nat × List Nat) : Prop := ∃ t, v = .ref t ∧ H t = some (.tup [.str (tx p.1), .str (tx p.2)])
abbrev Prs (K : PySem.W.Frag) (H : Hp) (vs : List V) (ps : List (List Nat × List Nat)) : Prop := Paired (PrT K H) vs ps
theorem PrT.ex {v : V} {p : List Nat × List Nat} (e : Ex H H') (h : PrT K H v p) : PrT K H' v p := let ⟨t, a, c⟩ := h; ⟨t, a, e _ _ c⟩
theorem paired_mono {α γ : Type} {F G : α → γ → Prop} (h : ∀ a b, F a b → G a b) : ∀ {l : List α} {m : List γ}, Paired F l m → Paired G l m
  | _, _, .nil => .nil
  | _, _, .cons a t => .cons (h _ _ a) (paired_mono h t)
theorem paired_app {α γ : Type} {F : α → γ → Prop} : ∀ {l l' : List α} {m m' : List γ}, Paired F l m → Paired F l' m' → Paired F (l ++ l') (m ++ m')
  | _, _, _, _, .nil, h => h
  | _, _, _, _, .cons a t, h => .cons a (paired_app t h)
theorem paired_get {α γ : Type} {F : α → γ → Prop} : ∀ {l : List α} {m : List γ}, Paired F l m → ∀ (i : Nat) (x : α), l[i]? = some x → ∃ y, m[i]? = some y ∧ F x y
  | _, _, .nil, i, x, h => by simp at h
  | _, _, .cons a t, 0, x, h => by
    cases h
    exact ⟨_, rfl, a⟩
  | _, _, .cons a t, i + 1, x, h => paired_get t i x h
theorem Prs.ex {vs : List V} {ps : List (List Nat × List Nat)} (e : Ex H H') (h : Prs K H vs ps) : Prs K H' vs ps := paired_mono (fun _ _ q => q.ex e) h
/-- a list changed: the pairs stand -/
theorem Prs.upd {vs : List V} {ps : List (List Nat × List Nat)} {D : Addr} {xs : List V} {o : HO} (hD : H D = some (.lst xs)) (h : Prs K H vs ps) : Prs K (upd H D o) vs ps := paired_mono (fun v p ⟨t, a, c⟩ => ⟨t, a, by
  rw [upd_ne]
  · exact c
  · intro z
    rw [z, hD] at c
    cases c⟩) h
def dSS (p : List Nat × List Nat) : PyData := .tuple [.str (tx p.1), .str (tx p.2)]
theorem PrT.dp {v : V} {p : List Nat × List Nat} (h : PrT K H v p) : Dp K H v (dSS p) := by
  obtain ⟨t, rfl, c⟩ := h
  exact .tup (st_of c) (.cons (.str _) (.cons (.str _) .nil))
theorem Prs.dp : ∀ {vs : List V} {ps : List (List Nat × List Nat)}, Prs K H vs ps → DpAll K H vs (ps.map dSS)
  | _, _, .nil => .nil
  | _, _, .cons a t => .cons a.dp (Prs.dp t)
end
end Hid

namespace Hid
open PySem PySem.Spec PyProof.Rows L2
/-! sets of texts: the members as a list without doubles -/
def tKey (e : Int × Value) : Str := match e.2 with | .str k _ => k | _ => Str.empty
def TGood (w : World) (e : Int × Value) : Prop := ∃ k tk, e.2 = Value.str k tk ∧ e.1 = hashStr w k
def SetT (w : World) (h : Heap) (a : Addr) (xs : List Str) : Prop :=
  ∃ o es ep t, h.get? a = some o ∧ o.ExactSet ∧ o.data = .set es ep t ∧ (∀ e ∈ es.toList, TGood w e) ∧ (es.toList.map tKey).Perm xs ∧ xs.Nodup ∧ es.size < scanBound ∧ t.fits es.size = true ∧
    Ris t.place.toList ∧ (w.params.followText "set-order" = true ∨ t.led = true)
/-- one more, where it isn't in -/
def putT (x : Str) (xs : List Str) : List Str := if x ∈ xs then xs else x :: xs
theorem SetT.keep {w : World} {h h' : Heap} {a : Addr} {xs : List Str} (R : SetT w h a xs) (k : ∀ o, h.get? a = some o → h'.get? a = some o) : SetT w h' a xs := by
  obtain ⟨o, es, ep, t, ho, r⟩ := R
  exact ⟨o, es, ep, t, k o ho, r⟩
section
variable {P : Program} {w : World} {A : Around} {E : Value → Shared → Prop} {s : Shared} {a : Addr} {xs : List Str}
theorem tElems {l : List (Int × Value)} (g : ∀ e ∈ l, TGood w e) : ElemsOf (PySem.strKind P w) l := fun e he => by
  obtain ⟨k, tk, h1, h2⟩ := g e he
  refine ⟨⟨k, ?_, h2⟩, ?_⟩ <;> rw [h1]
  · exact strKind_is P w k tk
  · rfl
theorem tIs {e : Int × Value} (g : TGood w e) (k : Str) : (PySem.strKind P w).is k e.2 = true ↔ tKey e = k := by
  obtain ⟨k0, tk, h1, _⟩ := g
  unfold tKey
  rw [h1]
  constructor
  · intro z
    obtain ⟨u, hu⟩ := Value.isStrOf_shape (show Value.isStrOf k (Value.str k0 tk) = true from z)
    injection hu
  · intro z
    subst z
    exact strKind_is P w _ tk
/-- the stores behind a laying: the table is laid anew where it is too full -/
theorem tStore {g : Bool → Sem Unit} (hg : ∀ (b : Bool) (s₁ : Shared) (Q' : Unit → Shared → Prop), Q' () s₁ → wpAny (model P w) A (g b) Q' E s₁)
    {o : Obj} {es es1 : Array (Int × Value)} {ep : Nat} {t t2 : SetTable} {ys : List Str} (ho : s.heap.get? a = some o) (hex : o.ExactSet) (hd : o.data = .set es ep t)
    (g1 : ∀ e ∈ es1.toList, TGood w e) (p1 : (es1.toList.map tKey).Perm ys) (n1 : ys.Nodup) (b1 : es1.size < scanBound) (f2 : t2.fits es1.size = true) (r2 : Ris t2.place.toList) (l2 : w.params.followText "set-order" = true ∨ t2.led = true)
    {was : Bool} {R : Option Bool → Shared → Prop} (hR : ∀ h', Heap.SameBut a s.heap h' → SetT w h' a ys → R (some true) { s with heap := h' }) :
    wpAny (model P w) A (do
        storeSet a es1 t2
        if (!was && t2.tooFull) = true then do
            g (relayAll t2 es1 (SetTable.grown es1.size)).2.2
            storeSet a (relayAll t2 es1 (SetTable.grown es1.size)).1 (relayAll t2 es1 (SetTable.grown es1.size)).2.1
            pure (some true)
          else pure (some true)) R E s := by
  have sb1 := Heap.SameBut.update s.heap a (Obj.putSet es1 t2)
  have ho1 := store_at (es' := es1) (t' := t2) ho hd
  refine wpAny_bind (wpAny_storeSet_of ho hd ?_ (fits_of_scanBound b1))
  by_cases hfull : (!was && t2.tooFull) = true
  · rw [if_pos hfull]
    obtain ⟨pm, f3, r3, l3⟩ := And.intro (relayAll_perm t2 es1 (SetTable.grown es1.size)) (And.intro (relayAll_fits t2 es1 (SetTable.grown es1.size)) (And.intro (relayAll_ris t2 es1 (SetTable.grown es1.size)) (relayAll_led t2 es1 (SetTable.grown es1.size))))
    generalize relayAll t2 es1 (SetTable.grown es1.size) = Z at pm f3 r3 l3 ⊢
    obtain ⟨es2, t3, gave⟩ := Z
    dsimp only at pm f3 r3 l3 ⊢
    have hsz : es2.size < scanBound := by
      rw [← Array.length_toList, pm.length_eq, Array.length_toList]
      exact b1
    refine wpAny_bind (hg _ _ _ (wpAny_bind (wpAny_storeSet_of ho1 rfl ?_ (fits_of_scanBound hsz))))
    exact wpAny_pure (hR _ (sb1.trans (Heap.SameBut.update _ a _)) ⟨_, es2, _, t3, store_at (es' := es2) (t' := t3) ho1 rfl, hex, rfl, fun e he => g1 e (pm.mem_iff.mp he), (pm.map tKey).trans p1, n1, hsz, f3, r3, l2.imp id fun z => l3.trans z⟩)
  · rw [if_neg hfull]
    exact wpAny_pure (hR _ sb1 ⟨_, es1, _, t2, ho1, hex, rfl, g1, p1, n1, b1, f2, r2, l2⟩)
theorem tAdd {k : Str} {tk : Tok} {Q : Bool → Shared → Prop} (R : SetT w s.heap a xs) (room : xs.length + 1 < scanBound)
    (hQ : ∀ b h', Heap.SameBut a s.heap h' → SetT w h' a (putT k xs) → Q b { s with heap := h' }) :
    wpAny (model P w) A (setAddHashed a (.str k tk) ((PySem.strKind P w).hash k)) Q E s := by
  obtain ⟨o, es, ep, t, ho, hex, hd, g, pm, nd, hb, hf, hr, hl⟩ := R
  have hkey : (PySem.strKind P w).is k (.str k tk) = true := strKind_is P w k tk
  have hsc : (Value.str k tk).scannable = true := rfl
  have hel : ElemsOf (PySem.strKind P w) es.toList := tElems g
  unfold setAddHashed setAddHashedIn
  refine wpAny_holding (wpAny_bind (wpAny_setState_of ho hd hf ?_))
  dsimp only
  rw [byScan_of hsc hb hel] <;> simp only [↓reduceIte]
  unfold setAddByScan
  refine wpAny_bind (wpAny_bind (wpAny_rule (wpAny_bind (wpAny_setScan_of hkey ho hd hf hel ?_))))
  have mem_iff : k ∈ xs ↔ ∃ e ∈ es.toList, (PySem.strKind P w).is k e.2 = true := by
    rw [← pm.mem_iff, List.mem_map]
    exact ⟨fun ⟨e, he, q⟩ => ⟨e, he, (tIs (g e he) k).mpr q⟩, fun ⟨e, he, q⟩ => ⟨e, he, (tIs (g e he) k).mp q⟩⟩
  cases hfi : List.findIdx? (fun e => (PySem.strKind P w).is k e.2) es.toList with
  | some j =>
    dsimp only
    obtain ⟨hj, pj, _⟩ := List.findIdx?_eq_some_iff_getElem.mp hfi
    have hin : k ∈ xs := mem_iff.mpr ⟨es.toList[j], List.getElem_mem hj, pj⟩
    refine wpAny_pure (wpAny_pure (hQ _ s.heap (Heap.SameBut.refl a s.heap) ?_))
    unfold putT
    rw [if_pos hin]
    exact ⟨o, es, ep, t, ho, hex, hd, g, pm, nd, hb, hf, hr, hl⟩
  | none =>
    dsimp only
    have hin : k ∉ xs := fun z => by
      obtain ⟨e, he, q⟩ := mem_iff.mp z
      have c := List.findIdx?_eq_none_iff.mp hfi e he
      rw [q] at c
      cases c
    have hput : putT k xs = k :: xs := by unfold putT; rw [if_neg hin]
    have hgw : ∀ (b : Bool) {s₁ : Shared} {Q' : Unit → Shared → Prop}, Q' () s₁ → wpAny (model P w) A (match b with | true => rule "set.scan.the-table-gave-way" | false => pure ()) Q' E s₁ := fun b s₁ Q' q => by
      cases b
      · exact wpAny_pure q
      · exact wpAny_rule q
    obtain ⟨lp, lf, lr, ll⟩ := And.intro (layNew_perm t es ((PySem.strKind P w).hash k) (.str k tk)) (And.intro (layNew_fits t es ((PySem.strKind P w).hash k) (.str k tk)) (And.intro (layNew_ris t es ((PySem.strKind P w).hash k) (.str k tk) hr) (layNew_led t es ((PySem.strKind P w).hash k) (.str k tk))))
    generalize layNew t es ((PySem.strKind P w).hash k) (.str k tk) = Z at lp lf lr ll ⊢
    obtain ⟨es1, t1, was, gave⟩ := Z
    dsimp only at lp lf lr ll ⊢
    rw [Array.toList_push] at lp
    have pc : es1.toList.Perm (((PySem.strKind P w).hash k, Value.str k tk) :: es.toList) := lp.trans (List.perm_append_singleton _ _)
    have p1 : (es1.toList.map tKey).Perm (putT k xs) := by
      rw [hput]
      exact (pc.map tKey).trans (List.Perm.cons k pm)
    have n1 : (putT k xs).Nodup := by
      rw [hput]
      exact List.nodup_cons.mpr ⟨hin, nd⟩
    have g1 : ∀ e ∈ es1.toList, TGood w e := fun e he => by
      rcases List.mem_cons.mp (pc.mem_iff.mp he) with z | z
      · rw [z]
        exact ⟨k, tk, rfl, rfl⟩
      · exact g e z
    have b1 : es1.size < scanBound := by
      rw [← Array.length_toList, pc.length_eq, List.length_cons, ← List.length_map (f := tKey), pm.length_eq]
      exact room
    have l1 : w.params.followText "set-order" = true ∨ t1.led = true := hl.imp id fun z => ll.trans z
    refine wpAny_bind (hgw _ ?_)
    split
    · refine wpAny_bind ?_
      rw [hashByValue_scannable 8 hsc]
      refine wpAny_pure (tStore (fun b s₁ Q' q => hgw b q) ho hex hd g1 p1 n1 b1 ?_ ?_ ?_ ?_)
      · first | (split <;> first | exact lf | exact SetTable.fits_plain_off lf) | exact lf
      · first | (split <;> exact lr) | exact lr
      · first | (split <;> exact l1) | exact l1
      · exact fun h' sb r => wpAny_pure (hQ _ h' sb r)
    · refine wpAny_bind (wpAny_pure ?_)
      simp only [↓reduceIte]
      exact tStore (fun b s₁ Q' q => hgw b q) ho hex hd g1 p1 n1 b1 lf lr l1 fun h' sb r => wpAny_pure (hQ _ h' sb r)
end
/-- all of a list put in, one behind the other -/
def putAll (xs : List Str) : List Str → List Str
  | [] => xs
  | y :: ys => putAll (putT y xs) ys
theorem putAll_snoc (xs : List Str) (y : Str) : ∀ ys, putAll xs (ys ++ [y]) = putT y (putAll xs ys) := by
  intro ys
  induction ys generalizing xs with
  | nil => rfl
  | cons z ys ih => exact ih (putT z xs)
theorem putT_mem {x y : Str} {xs : List Str} : y ∈ putT x xs ↔ y = x ∨ y ∈ xs := by
  unfold putT
  split
  · rename_i h
    exact ⟨.inr, fun z => z.elim (fun e => e ▸ h) id⟩
  · rw [List.mem_cons]
theorem putT_nodup {x : Str} {xs : List Str} (h : xs.Nodup) : (putT x xs).Nodup := by
  unfold putT
  split
  · exact h
  · rename_i n
    exact List.nodup_cons.mpr ⟨n, h⟩
theorem putT_len (x : Str) (xs : List Str) : (putT x xs).length ≤ xs.length + 1 := by
  unfold putT
  split
  · exact Nat.le_succ _
  · exact Nat.le_refl _
theorem putAll_mem {y : Str} : ∀ (ys xs : List Str), y ∈ putAll xs ys ↔ y ∈ xs ∨ y ∈ ys
  | [], xs => by simp [putAll]
  | z :: ys, xs => by
    show y ∈ putAll (putT z xs) ys ↔ _
    rw [putAll_mem ys, putT_mem, List.mem_cons]
    constructor
    · rintro ((h | h) | h)
      · exact .inr (.inl h)
      · exact .inl h
      · exact .inr (.inr h)
    · rintro (h | h | h)
      · exact .inl (.inr h)
      · exact .inl (.inl h)
      · exact .inr h
theorem putAll_nodup : ∀ (ys xs : List Str), xs.Nodup → (putAll xs ys).Nodup
  | [], _, h => h
  | z :: ys, xs, h => putAll_nodup ys _ (putT_nodup h)
theorem putAll_len : ∀ (ys xs : List Str), (putAll xs ys).length ≤ xs.length + ys.length
  | [], _ => Nat.le_refl _
  | z :: ys, xs => by
    have := putAll_len ys (putT z xs)
    have := putT_len z xs
    show (putAll (putT z xs) ys).length ≤ xs.length + (ys.length + 1)
    omega
section
variable {prog : Program} {w : World} {A : Around} {R : Result → Shared → Prop} {I : Addr} {fp wr : List Addr} {G : Array GenState → Array GenState → Prop} {n : Nat} {Pv : Nat → Value → Prop} {St : Nat → Shared → Prop}
theorem tFill (W : WalksS prog w A.in1 I fp wr G n Pv St) (S : Addr) (hSf : S ∉ fp) (xs : List Str) (hlen : xs.length = n) (hsm : n < 4000) (hval : ∀ i v, Pv i v → ∃ t, v = .str (xs.getD i Str.empty) t) :
    ∀ (k i : Nat) (s : Shared), n - i = k → i ≤ n → St i s → SetT w s.heap S (putAll [] (xs.take i)) →
      (∀ s', Moved (S :: wr) G s s' → SetT w s'.heap S (putAll [] xs) → R (.ok (.ret .none)) s') → codeAny (model prog w) A (.builtin "set.update.loop" ⟨[.ref S, .ref I], []⟩) R s := by
  have hSw : S ∉ wr := fun h => hSf (W.sub _ h)
  have up : ∀ b ∈ wr, b ∈ S :: wr := fun b hb => List.mem_cons_of_mem _ hb
  intro k
  induction k with
  | zero =>
    intro i s hk hi hst hS hR
    obtain rfl : i = n := by omega
    refine codeAny_builtin PyProof.Rows.F.entry_set_update_loop ?_
    rw [Around.under_plainId PyProof.Rows.F.plain_set_update_loop _] <;> show wpAny _ A.in1 (pyNext (.ref I) >>= _) _ _ s
    refine wpAny_bind (W.done s _ _ hst fun s' hm => ?_)
    show wpAny _ A.in1 (ret Value.none) _ _ s'
    rw [List.take_of_length_le (Nat.le_of_eq hlen)] at hS
    exact wpAny_pure (hR s' (hm.mono up) (hS.keep fun o e => hm.heap S _ hSw e))
  | succ k ih =>
    intro i s hk hi hst hS hR
    have hlt : i < n := by omega
    refine codeAny_builtin PyProof.Rows.F.entry_set_update_loop ?_
    rw [Around.under_plainId PyProof.Rows.F.plain_set_update_loop _] <;> show wpAny _ A.in1 (pyNext (.ref I) >>= _) _ _ s
    refine wpAny_bind (W.item i s _ _ hlt hst fun v s' hP hst' hm => ?_)
    obtain ⟨t, rfl⟩ := hval i v hP
    show wpAny _ A.in1 (holding [Value.str (xs.getD i Str.empty) t] (setAdd S (.str (xs.getD i Str.empty) t)) >>= _) _ _ s'
    refine wpAny_bind (wpAny_holding ?_) <;> unfold setAdd
    refine wpAny_holding (wpAny_bind ((PySem.strKind prog w).pyHash (k := xs.getD i Str.empty) (strKind_is _ _ _ _) ?_))
    have hroom : (putAll [] (xs.take i)).length + 1 < scanBound := by
      have h1 := putAll_len (xs.take i) []
      have h2 : (xs.take i).length ≤ i := by rw [List.length_take]; omega
      have h3 : scanBound = 4096 := rfl
      rw [List.length_nil] at h1
      omega
    refine tAdd (s := { s' with toks := s'.toks + 1 }) (hS.keep fun o e => hm.heap S _ hSw e) hroom fun b h' sb hS2 => ?_
    have hS3 : SetT w h' S (putAll [] (xs.take (i + 1))) := by
      have e : xs.take (i + 1) = xs.take i ++ [xs.getD i Str.empty] := by
        rw [List.take_add_one, List.getD_eq_getElem?_getD, List.getElem?_eq_getElem (by omega)]
        rfl
      rw [e, putAll_snoc]
      exact hS2
    refine wpAny_pure ⟨plainId_quiet PyProof.Rows.F.plain_set_update_loop _, ih (i + 1) _ (by omega) hlt (W.frame _ s' _ _ hst' (Nat.le_succ _) fun b hb o e => ?_) hS3 fun s'' hm2 hS4 => ?_⟩
    · rw [sb.2 b (fun h : b = S => hSf (by rw [← h]; exact hb))]
      exact e
    · refine hR s'' (Moved.trans W.gtrans ((hm.mono up).then_heap (Nat.le_succ _) fun b o hb e => ?_) hm2) hS4
      rw [sb.2 b (fun h : b = S => hb (by rw [h]; exact List.mem_cons_self))]
      exact e
end
/-! set(t), t a tuple of texts; sorted of a set of texts -/
abbrev newSet (led : Bool) : Obj := { cls := .type "set", dict := none, data := .set #[] 0 (.fresh 0 0 led) }
theorem newSet_ok {w : World} {h : Heap} {a : Addr} {led : Bool} (hl : w.params.followText "set-order" = true ∨ led = true) (e : h.get? a = some (newSet led)) : SetT w h a [] := by
  refine ⟨_, #[], 0, .fresh 0 0 led, e, ⟨rfl, rfl, rfl⟩, rfl, (fun e m => absurd m (by simp)), List.Perm.refl _, List.nodup_nil, (by decide), rfl, List.Pairwise.nil, hl⟩
section
variable {prog : Program} {w : World} {A : Around} {E : Value → Shared → Prop} {s : Shared}
theorem tSetNew (a : Value) {Q₁ : Value → Shared → Prop} (h : Q₁ (.ref s.heap.objs.size) { s with heap := s.heap.push (newSet (!w.params.followText "set-order")) }) :
    codeAny (model prog w) A (.call (.builtin "set.__new__") ⟨[.type "set", a], []⟩) (wants Q₁ E) s := by
  refine codeAny_of_tree ?_
  show wpAny _ A.in1 (do checkBuiltinCall "set.__new__" ⟨[.type "set", a], []⟩; again (.builtin "set.__new__" ⟨[.type "set", a], []⟩)) _ _ s
  refine wpAny_bind (wpAny_of_eq (PySem.F.newCall_set_1 a) (wpAny_pure ⟨plainId_quiet PySem.F.plain_set_new _, codeAny_builtin PySem.F.entry_set_new ?_⟩))
  rw [Around.under_plainId PySem.F.plain_set_new _] <;> unfold Builtin.«set.__new__» Builtin.Frozenset.newClass
  have hsub := sub_set_self; obtain ⟨hp, g, d, tk, os⟩ := s
  dsimp only <;> wp_walk
  refine wpAny_askSetting (wpAny_pure ?_) <;> dsimp only <;> simp only [newObj]
  exact wpAny_bind (wpAny_alloc (wpAny_pure (wpAny_pure h)))
theorem tSetOf {l : Addr} {items : Array Value} {xs : List Str} {Q : Value → Shared → Prop} (hh : A.handled = none) (hl : s.heap.IsTuple l items) (hi : StrsAre items.toList xs) (hsm : xs.length < 4000)
    (h : ∀ (h' : Heap) (tk : Nat), SetT w h' s.heap.objs.size (putAll [] xs) → (∀ b o, b < s.heap.objs.size → s.heap.get? b = some o → h'.get? b = some o) → Q (.ref s.heap.objs.size) { s with heap := h', toks := tk }) :
    wpAny (model prog w) A (call (.type "set") [.ref l]) Q E s := by
  obtain ⟨c, tl, hmro⟩ := PySem.F.called_set.mro
  have hmade := PySem.F.called_set.made; have hsub := PySem.F.called_set.sub
  refine wpAny_call (codeAny_of_tree ?_)
  show wpAny _ _ (callAny (.type "set") _) _ _ _
  refine wpAny_pure ⟨Code.quiet_builtin _ (by decide +kernel), codeAny_builtin PySem.F.entry_type_call ?_⟩
  rw [Around.under_plain (weight_type_call_type "set" [.ref l] []) rfl]
  have h1 := PySem.F.called_set.notType; have h2 := PySem.F.called_set.canCreate; have hct := PySem.F.typeCall_set_1 (.ref l)
  repeat any_goals (first | assumption | wp_step)
  refine codeAny_mono (tSetNew (.ref l) (E := E) (Q₁ := fun obj s₁ => obj = .ref s.heap.objs.size ∧ s₁ = { s with heap := s.heap.push (newSet (!w.params.followText "set-order")) }) ⟨rfl, rfl⟩) fun r s₁ hr => ?_
  cases r with
  | error e => exact hr
  | ok fl =>
    cases fl with
    | next => exact hr.elim
    | brk => exact hr.elim
    | cont => exact hr.elim
    | ret obj =>
      obtain ⟨rfl, rfl⟩ := hr
      generalize hled : (!w.params.followText "set-order") = led
      have hlo : w.params.followText "set-order" = true ∨ led = true := by
        rw [← hled]
        cases w.params.followText "set-order" <;> simp
      have hS : (s.heap.push (newSet led)).get? s.heap.objs.size = some (newSet led) := Heap.get?_push_size _ rfl
      have hT : Shared.TypeIs { s with heap := s.heap.push (newSet led) } (.ref s.heap.objs.size) "set" := ⟨_, hS, rfl⟩
      have hli := PySem.F.called_set.init.lookup; have hbi := PySem.F.called_set.init.bind (.ref s.heap.objs.size)
      repeat any_goals (first | assumption | wp_step)
      refine codeAny_mono (codeAny_call_builtin (R := wants (fun r s₂ => r = .none ∧ ∃ h' tk, s₂ = { s with heap := h', toks := tk } ∧ SetT w h' s.heap.objs.size (putAll [] xs) ∧ (∀ b o, b < s.heap.objs.size → s.heap.get? b = some o → h'.get? b = some o)) E) PySem.F.called_set.init.plain PySem.F.entry_set_init (check_set_init_1 hT ?_)) fun r₂ s₂ hr₂ => ?_
      · obtain ⟨⟨ocls, odict, odata, oslots⟩, hol, hcl, nl, hdl⟩ := hl
        simp only at hcl hdl
        subst hcl; subst hdl
        have hol' : (s.heap.push (newSet led)).get? l = some { cls := .type "tuple", dict := odict, data := .seq items nl, slots := oslots } := Heap.get?_push_of_some _ hol
        have hsls := PySem.F.sub_tuple_set; have hslf := PySem.F.sub_tuple_frozenset
        have hne : (Value.type "tuple" == Value.type "dict") = false := by decide
        have hl1 : (s.heap.push (newSet led)).IsTuple l items := ⟨_, hol', rfl, nl, rfl⟩
        unfold Builtin.«set.__init__» noKeywords Builtin.Frozenset.updateFrom
        generalize hPI : pyIter = PI
        wp_walk
        subst hPI
        refine wpAny_pyIter_tuple hl1 (wpAny_bind (wpAny_runValue ?_))
        have hlS : l < s.heap.objs.size := Heap.lt_size hol
        have hh3 : A.in1.in1.in1.handled = none := by simp [hh]
        have hneI : l ≠ (s.heap.push (newSet led)).objs.size := by
          rw [Heap.size_push]
          exact Nat.ne_of_lt (Nat.lt_succ_of_lt hlS)
        have hSf : s.heap.objs.size ∉ [(s.heap.push (newSet led)).objs.size, l] := by
          rw [Heap.size_push]
          simp only [List.mem_cons, List.not_mem_nil, or_false, not_or]
          exact ⟨Nat.ne_of_lt (Nat.lt_succ_self _), Nat.ne_of_gt hlS⟩
        have hsz : xs.length = items.size := by rw [← StrsAre.len_eq hi, Array.length_toList]
        refine tFill ((Walks.tuple hh3 _ l hneI items).toS) s.heap.objs.size hSf xs hsz (by omega) (fun i v hv => SS.strs_at hi i v (by rw [Array.getElem?_toList]; exact hv)) (items.size - 0) 0 _ (by omega) (Nat.zero_le _)
          ⟨⟨_, Heap.get?_push_size _ rfl, rfl, rfl⟩, (hl1.push _)⟩ (newSet_ok hlo (Heap.get?_push_of_some _ hS)) fun s' hm hS' => ?_
        obtain ⟨h', g', d', tk', os'⟩ := s'
        obtain rfl : g' = s.gens := hm.gens
        obtain rfl : d' = s.drawn := hm.drawn
        obtain rfl : os' = s.os := hm.os
        show wpAny _ _ _ _ _ _
        refine wpAny_pure ?_
        show wpAny _ _ (ret Value.none) _ _ _
        refine wpAny_pure ⟨rfl, h', tk', rfl, hS', fun b o hb e => hm.heap b o ?_ (Heap.get?_push_of_some _ (Heap.get?_push_of_some _ e))⟩
        simp only [List.mem_cons, List.not_mem_nil, or_false, not_or]
        refine ⟨Nat.ne_of_lt hb, ?_⟩
        rw [Heap.size_push]
        exact Nat.ne_of_lt (Nat.lt_succ_of_lt hb)
      · cases r₂ with
        | error e => exact hr₂
        | ok fl₂ =>
          cases fl₂ with
          | next => exact hr₂.elim
          | brk => exact hr₂.elim
          | cont => exact hr₂.elim
          | ret r =>
            obtain ⟨rfl, h', tk, rfl, hS', hk'⟩ := hr₂
            repeat any_goals (first | assumption | wp_step)
            exact h _ _ hS' hk'
end
end Hid

namespace Hid
open PySem PySem.Spec PyProof.Rows L2
def strLe (a b : Str) : Bool := decide (a.cps.toList ≤ b.cps.toList)
theorem str_ext {a b : Str} (h : a.cps.toList = b.cps.toList) : a = b := by
  cases a; cases b
  simp at h
  simpa using h
/-- rising, no two alike -/
abbrev Rise (ys : List Str) : Prop := ys.Pairwise fun a b => a.cps.toList < b.cps.toList
theorem rise_of {ks : List Str} (nd : ks.Nodup) : Rise (ks.mergeSort strLe) ∧ (ks.mergeSort strLe).Perm ks := by
  have pm := List.mergeSort_perm ks strLe
  refine ⟨?_, pm⟩
  have h1 : (ks.mergeSort strLe).Pairwise fun a b => strLe a b = true := List.pairwise_mergeSort (le := strLe) (fun a b c x y => by
      unfold strLe at *
      exact decide_eq_true (List.le_trans (of_decide_eq_true x) (of_decide_eq_true y))) (fun a b => by
      unfold strLe
      rcases List.le_total a.cps.toList b.cps.toList with h | h
      · rw [decide_eq_true h]; rfl
      · rw [decide_eq_true h, Bool.or_true]) ks
  have h2 : (ks.mergeSort strLe).Nodup := pm.nodup_iff.mpr nd
  refine (List.pairwise_and_iff.mpr ⟨h1, h2⟩ : (ks.mergeSort strLe).Pairwise fun a b => strLe a b = true ∧ a ≠ b).imp fun {a b} h => ?_
  have hle : a.cps.toList ≤ b.cps.toList := of_decide_eq_true h.1
  by_cases z : a.cps.toList < b.cps.toList
  · exact z
  · exact absurd (str_ext (List.le_antisymm hle (List.not_lt.mp z))) h.2
theorem each_mono2 {α γ : Type} {R R' : α → γ → Prop} (h : ∀ a b, R a b → R' a b) : ∀ {l : List α} {m : List γ}, PySem.W.EachIs R l m → PySem.W.EachIs R' l m
  | _, _, .nil => .nil
  | _, _, .cons a t => .cons (h _ _ a) (each_mono2 h t)
theorem vals_of_strs : ∀ {us : List Value} {ys : List Str}, StrsAre us ys → Vals (ys.map V.str) us
  | _, _, .nil => .nil
  | _, _, .cons n t h => .cons ⟨t, rfl⟩ (vals_of_strs h)
theorem each_strs {R : Value → Str → Prop} (hR : ∀ v k, R v k → ∃ t, v = .str k t) : ∀ {out : List Value} {ks : List Str}, PySem.W.EachIs R out ks → StrsAre out ks
  | _, _, .nil => .nil
  | _, _, .cons h t => by
    obtain ⟨u, rfl⟩ := hR _ _ h
    exact .cons _ u (each_strs hR t)
theorem strs_each : ∀ {vs : List Value}, (∀ v ∈ vs, ∃ k t, v = Value.str k t) → ∃ ks : List Str, PySem.W.EachIs (fun v k => ∃ t, v = Value.str k t) vs ks ∧ ks = vs.map fun v => tKey (0, v)
  | [], _ => ⟨[], .nil, rfl⟩
  | v :: vs, h => by
    obtain ⟨k, t, rfl⟩ := h v List.mem_cons_self
    obtain ⟨ks, e, q⟩ := strs_each fun u hu => h u (List.mem_cons_of_mem _ hu)
    exact ⟨k :: ks, .cons ⟨t, rfl⟩ e, by rw [q]; rfl⟩
section
variable {P : Program} {w : World} {A : Around} {E : Value → Shared → Prop} {s : Shared} {a : Addr} {xs : List Str}
theorem tSorted {Q : Value → Shared → Prop} (R : SetT w s.heap a xs) (hh : A.handled = none) (hu : A.units + 64 < cLine)
    (hQ : ∀ s' p (out : Array Value) (c : Nat) (ys : List Str), (∀ b o, s.heap.get? b = some o → s'.heap.get? b = some o) → s'.gens = s.gens → s'.os = s.os → s.heap.objs.size ≤ p →
      s'.heap.get? p = some (seqObj "list" out c) → StrsAre out.toList ys → Rise ys → ys.Perm xs → Q (.ref p) s') :
    wpAny (model P w) A (call (.builtin "sorted") [.ref a]) Q E s := by
  obtain ⟨o, es, ep, t, ho, hex, hd, g, pm, nd, hb, hf, hr, hl⟩ := R
  refine Calls.call_function_entry kind_sorted plain_sorted entry_sorted (args_sorted1 _) ?_
  unfold Builtin.«sorted»
  refine wpAny_bind (m := checkCount "sorted" 1 1 _) (wpAny_pure (wpAny_bind (collect_set (A := A.in1) hh ⟨o, ho, hex.1, hd⟩ hf hb hr hl fun s1 vs k1 hz g1 o1 pv => ?_)))
  obtain ⟨ks, ek, hks⟩ := strs_each (vs := vs) fun v hv => by
    obtain ⟨e, he, q⟩ := List.mem_map.mp (pv.mem_iff.mp hv)
    obtain ⟨k, tk, h1, _⟩ := g e he
    exact ⟨k, tk, by rw [← q]; exact h1⟩
  have pk : ks.Perm xs := by
    have q := pv.map fun v => tKey (0, v)
    rw [List.map_map] at q
    rw [hks]
    exact q.trans pm
  have hvl : vs.length < 4096 := by
    rw [pv.length_eq, List.length_map, Array.length_toList]
    exact hb
  have hkl : ks.length = vs.length := ek.length.symm
  refine wpAny_bind (wpAny_newList ?_ (by rw [sizeLine_eq]; omega))
  have hoL : (s1.heap.push (seqObj "list" vs.toArray 0)).get? s1.heap.objs.size = some (seqObj "list" vs.toArray 0) := Heap.get?_push_size _ rfl
  refine wpAny_bind (wpAny_holding ?_)
  refine PySem.W.list_sort_data (s := { s1 with heap := s1.heap.push (seqObj "list" vs.toArray 0) }) (enc := fun k : Str => PyData.str k) hoL ek (each_mono2 (fun v k h => ?_) ek) ?_ ?_ (by rw [sizeLine_eq]; omega) (fun k _ => ?_) fun out hlo eo => ?_
  · obtain ⟨t, rfl⟩ := h
    exact ⟨[], .str k t, fun m => nomatch m⟩
  · exact PySem.W.AllAlike.of fun _ _ => by simp [PySem.W.alike]
  · exact PySem.W.Sortable.others fun _ => ⟨(fun z => nomatch z), (fun _ z => nomatch z)⟩
  · show A.in1.units + 1 + PyData.depth (.str k) < cLine
    have : PyData.depth (.str k) = 0 := by simp [PyData.depth]
    have h2 : A.in1.units = A.units + 1 := rfl
    omega
  · rw [PySem.W.dataLe_str (β := Str) (fun k => k)] at eo
    obtain ⟨c, hc⟩ := sortedHeap_at (vs := vs) (out := out.toArray) hoL
    obtain ⟨rs, rp⟩ := rise_of (pk.nodup_iff.mpr nd)
    refine wpAny_pure ⟨_, rfl, hQ _ s1.heap.objs.size out.toArray c (ks.mergeSort strLe) (fun b u e => ?_) g1 o1 hz hc (by rw [List.toList_toArray]; exact each_strs (fun _ _ h => h) eo) rs (rp.trans pk)⟩
    have q := k1 b u e
    have hlt := Heap.lt_size q
    show (sortedHeap (s1.heap.push (seqObj "list" vs.toArray 0)) s1.heap.objs.size vs out.toArray).get? b = some u
    rw [sortedHeap_old (Nat.ne_of_lt hlt) (by rw [size_push']; exact Nat.lt_succ_of_lt hlt)]
    exact Heap.get?_push_of_some _ q
end
/-- sorted(set(e)), e a tuple of texts -/
def tSortSet (K : PySem.W.Frag) (te : TE) : TE := fun σ H Q => te σ H fun v H1 => ∃ (a : Addr) (xs : List Str), v = .ref a ∧ SqT K H1 a (xs.map V.str) ∧ xs.length < 4000 ∧ ∀ (ys : List Str) (p : Addr), Rise ys → ys.length ≤ xs.length → (∀ x, x ∈ ys ↔ x ∈ xs) → H1 p = none → Q (.ref p) (upd H1 p (.lst (ys.map V.str)))
theorem pe_sortSet {X : Cx} {e : Expr} {te : TE} {p p2 pos pos2 : Pos} (hc : X.calm = true) (hu : X.A.units + 64 < cLine) (hg : Gl X "sorted") (hm : X.mg "sorted" = none) (hg2 : Gl X "set") (hm2 : X.mg "set" = none) (he : PE X e te)
    (hs : starEach [e] X.env = (false, eval e X.env) :: starEach [] X.env := by rfl)
    (hs2 : starEach [.Call (.Name "set" p2) [e] [] pos2] X.env = (false, eval (.Call (.Name "set" p2) [e] [] pos2) X.env) :: starEach [] X.env := by rfl) :
    PE X (.Call (.Name "sorted" p) [.Call (.Name "set" p2) [e] [] pos2] [] pos) (tSortSet X.K te) := by
  refine ⟨fun pins s σ H Q I h => ?_⟩
  refine wpAny_Call_Name_kw (ld_blt I hg hm (by decide +kernel : bootBuiltins "sorted" = some (.builtin "sorted")) ?_)
  refine callWith_builtin1 (args_cons (Call_ (ld_blt I hg2 hm2 (by decide +kernel : bootBuiltins "set" = some (.type "set")) (callWith_type1 (args_cons (thn (he.run pins s σ H _ I h) fun u s1 ⟨v, H1, I1, r1, q1⟩ => args_nil ?_) hs) hs rfl))) hs2) hs2 rfl
  obtain ⟨a, xs, ev, hq, hsm, q⟩ := q1
  subst ev
  obtain rfl : u = Value.ref a := r1
  obtain ⟨its, rv, p', hz⟩ := I1.tuple hq
  have hh := I1.ok.hd hc
  refine tSetOf hh p' (by rw [List.toList_toArray]; exact strs_of_vals rv) hsm fun h' tk hS hk => args_nil ?_
  have I2 : Inv X pins σ H1 { s1 with heap := h', toks := tk } := I1.kept (t' := tk) fun b o e => hk b o (Heap.lt_size e) e
  refine tSorted (s := { s1 with heap := h', toks := tk }) hS hh hu fun s' p3 out c ys k g o hp hget hst hri hpm => ?_
  have hn : H1 p3 = none := I2.hok.fresh hp
  have hys : ys.length ≤ sizeLine := by
    have h1 := putAll_len xs []
    rw [hpm.length_eq, sizeLine_eq]
    rw [List.length_nil] at h1
    omega
  have J : Inv X pins σ (upd H1 p3 (.lst (ys.map V.str))) { ({ s1 with heap := h', toks := tk } : Shared) with heap := s'.heap, gens := s'.gens, drawn := s'.drawn, toks := s'.toks } :=
    I2.call (ch := []) (Un.laid k hp hn) (I2.hok.laid k hp ⟨by rw [List.length_map]; exact hys, out.toList, c, vals_of_strs hst, hget⟩) (by rw [g]; exact I2.bare) (fun _ z => nomatch z)
  have e : s' = { ({ s1 with heap := h', toks := tk } : Shared) with heap := s'.heap, gens := s'.gens, drawn := s'.drawn, toks := s'.toks } := by
    have o2 : s'.os = s1.os := o
    obtain ⟨x1, x2, x3, x4, x5⟩ := s'
    dsimp only at o2 ⊢
    rw [o2]
  rw [e]
  refine ⟨.ref p3, _, J, rfl, q ys p3 hri (by have h1 := putAll_len xs []; rw [List.length_nil] at h1; rw [hpm.length_eq]; omega) (fun x => ?_) hn⟩
  rw [hpm.mem_iff, putAll_mem]
  simp
end Hid

namespace Hid
open PySem PySem.Spec PyProof.Rows L2
abbrev sgAt (h : Str) (i : Nat) : Nat := h.cps.toList.getD i 0
def prAt (h : Str) (i j : Nat) : Str := ⟨#[sgAt h i, sgAt h j]⟩
def HalfS (m : Nat) (h : Str) : Prop := h.cps.size = m ∧ ∀ c ∈ h.cps.toList, c = 110 ∨ c = 121
def fstAt (rs : List Str) (i j : Nat) (p : Str) : Option Str := rs.find? fun h => decide (prAt h i j = p)
def prs : List Str := ["nn", "ny", "yn", "yy"]
def four (rs : List Str) (i j : Nat) : Option (List Str) := match fstAt rs i j "nn", fstAt rs i j "ny", fstAt rs i j "yn", fstAt rs i j "yy" with
  | some a, some b, some c, some d => some [a, b, c, d]
  | _, _, _, _ => none
abbrev srt (hs : List Str) : List Str := hs.mergeSort strLe
abbrev Sorted (l : List Str) : Prop := l.Pairwise fun a b => a.cps.toList ≤ b.cps.toList
theorem srt_sorted (hs : List Str) : Sorted (srt hs) := by
  have h1 : (hs.mergeSort strLe).Pairwise fun a b => strLe a b = true := List.pairwise_mergeSort (le := strLe) (fun a b c x y => by
      unfold strLe at *
      exact decide_eq_true (List.le_trans (of_decide_eq_true x) (of_decide_eq_true y))) (fun a b => by
      unfold strLe
      rcases List.le_total a.cps.toList b.cps.toList with h | h
      · rw [decide_eq_true h]; rfl
      · rw [decide_eq_true h, Bool.or_true]) hs
  exact h1.imp fun h => of_decide_eq_true h
theorem rise_sorted {l : List Str} (h : Rise l) : Sorted l := h.imp fun h => List.le_of_lt h
theorem mem_srt {hs : List Str} {x : Str} : x ∈ srt hs ↔ x ∈ hs := (List.mergeSort_perm hs strLe).mem_iff
theorem srt_len (hs : List Str) : (srt hs).length = hs.length := List.length_mergeSort _
theorem find_least {p : Str → Bool} {x : Str} : ∀ {l : List Str}, Sorted l → l.find? p = some x → ∀ y ∈ l, p y = true → x.cps.toList ≤ y.cps.toList
  | [], _, h, _, _, _ => by cases h
  | z :: l, hs, h, y, hy, py => by
    rw [List.find?_cons] at h
    cases hz : p z with
    | true =>
      rw [hz] at h
      cases h
      rcases List.mem_cons.mp hy with e | e
      · rw [e]; exact List.le_refl _
      · exact (List.pairwise_cons.mp hs).1 y e
    | false =>
      rw [hz] at h
      rcases List.mem_cons.mp hy with e | e
      · rw [e, hz] at py; cases py
      · exact find_least (List.pairwise_cons.mp hs).2 h y e py
theorem find_same {p : Str → Bool} {l m : List Str} (hl : Sorted l) (hm : Sorted m) (e : ∀ x, x ∈ l ↔ x ∈ m) : l.find? p = m.find? p := by
  cases h1 : l.find? p with
  | none =>
    symm
    rw [List.find?_eq_none] at h1 ⊢
    exact fun x hx => h1 x ((e x).mpr hx)
  | some x =>
    have px := List.find?_some h1
    have mx := List.mem_of_find?_eq_some h1
    cases h2 : m.find? p with
    | none =>
      rw [List.find?_eq_none] at h2
      exact absurd px (h2 x ((e x).mp mx))
    | some y =>
      have py := List.find?_some h2
      have my := List.mem_of_find?_eq_some h2
      rw [str_ext (List.le_antisymm (find_least hl h1 y ((e y).mpr my) py) (find_least hm h2 x ((e x).mp mx) px))]
theorem four_same {l m : List Str} (hl : Sorted l) (hm : Sorted m) (e : ∀ x, x ∈ l ↔ x ∈ m) : four l = four m := by
  funext i j
  have h : ∀ p, fstAt l i j p = fstAt m i j p := fun p => find_same hl hm e
  unfold four
  rw [h, h, h, h]
def IsCross (f : Nat → Nat → Option (List Str)) (m : Nat) : Option (Nat × Nat × List Str) → Prop
  | none => ∀ i j, i < j → j < m → f i j = none
  | some (i, j, F) => i < j ∧ j < m ∧ f i j = some F ∧ ∀ i' j', i' < j' → j' < m → (i' < i ∨ i' = i ∧ j' < j) → f i' j' = none
theorem IsCross.uniq {f : Nat → Nat → Option (List Str)} {m : Nat} : ∀ {r r' : Option (Nat × Nat × List Str)}, IsCross f m r → IsCross f m r' → r = r'
  | none, none, _, _ => rfl
  | none, some (i, j, F), h, h' => by
    have := h i j h'.1 h'.2.1
    rw [h'.2.2.1] at this
    cases this
  | some (i, j, F), none, h', h => by
    have := h i j h'.1 h'.2.1
    rw [h'.2.2.1] at this
    cases this
  | some (i, j, F), some (i', j', F'), h, h' => by
    obtain ⟨a1, a2, a3, a4⟩ := h
    obtain ⟨b1, b2, b3, b4⟩ := h'
    have n1 : ¬ (i' < i ∨ i' = i ∧ j' < j) := fun z => by
      have := a4 i' j' b1 b2 z
      rw [b3] at this
      cases this
    have n2 : ¬ (i < i' ∨ i = i' ∧ j < j') := fun z => by
      have := b4 i j a1 a2 z
      rw [a3] at this
      cases this
    obtain ⟨rfl, rfl⟩ : i = i' ∧ j = j' := by omega
    rw [a3] at b3
    cases b3
    rfl
theorem IsCross.ex (f : Nat → Nat → Option (List Str)) (m : Nat) : ∃ r, IsCross f m r := by
  by_cases h : ∃ i j, i < j ∧ j < m ∧ (f i j).isSome = true
  · have dec : ∀ n, (∃ i j, i < j ∧ j < m ∧ i < n ∧ (f i j).isSome = true) → ∃ r, IsCross f m r := by
      intro n
      induction n with
      | zero => rintro ⟨i, j, _, _, h, _⟩; omega
      | succ n ih =>
        intro hx
        by_cases hn : ∃ i j, i < j ∧ j < m ∧ i < n ∧ (f i j).isSome = true
        · exact ih hn
        · have hrow : ∀ k, (∃ j, n < j ∧ j < m ∧ j < k ∧ (f n j).isSome = true) → ∃ r, IsCross f m r := by
            intro k
            induction k with
            | zero => rintro ⟨j, _, _, h, _⟩; omega
            | succ k ihk =>
              intro hy
              by_cases hk : ∃ j, n < j ∧ j < m ∧ j < k ∧ (f n j).isSome = true
              · exact ihk hk
              · obtain ⟨j, h1, h2, h3, h4⟩ := hy
                have hj : j = k := by
                  by_cases hlt : j < k
                  · exact absurd ⟨j, h1, h2, hlt, h4⟩ hk
                  · omega
                subst hj
                obtain ⟨F, hF⟩ := Option.isSome_iff_exists.mp h4
                refine ⟨some (n, j, F), h1, h2, hF, fun i' j' b1 b2 z => ?_⟩
                cases hq : f i' j' with
                | none => rfl
                | some G =>
                  exfalso
                  rcases z with z | ⟨rfl, z⟩
                  · exact hn ⟨i', j', b1, b2, z, by rw [hq]; rfl⟩
                  · exact hk ⟨j', b1, b2, z, by rw [hq]; rfl⟩
          obtain ⟨i, j, a1, a2, a3, a4⟩ := hx
          have hi : i = n := by
            by_cases hlt : i < n
            · exact absurd ⟨i, j, a1, a2, hlt, a4⟩ hn
            · omega
          subst hi
          exact hrow m ⟨j, a1, a2, a2, a4⟩
    obtain ⟨i, j, a, b, c⟩ := h
    exact dec m ⟨i, j, a, b, by omega, c⟩
  · refine ⟨none, fun i j a b => ?_⟩
    cases hq : f i j with
    | none => rfl
    | some G => exact absurd ⟨i, j, a, b, by rw [hq]; rfl⟩ h
/-- one half-row alone crosses nowhere -/
theorem four_one (h : Str) (i j : Nat) : four [h] i j = none := by
  unfold four fstAt
  have e : ∀ p : Str, [h].find? (fun x => decide (prAt x i j = p)) = if prAt h i j = p then some h else none := fun p => by
    rw [List.find?_cons]
    by_cases q : prAt h i j = p
    · rw [decide_eq_true q, if_pos q]
    · rw [decide_eq_false q, if_neg q]; rfl
  rw [e, e]
  by_cases q : prAt h i j = "nn"
  · rw [if_neg (show ¬ prAt h i j = "ny" by rw [q]; decide)]
    split <;> simp_all
  · rw [if_neg q]
theorem prAt_in {m : Nat} {h : Str} {i j : Nat} (hh : HalfS m h) (hi : i < m) (hj : j < m) : prAt h i j = "nn" ∨ prAt h i j = "ny" ∨ prAt h i j = "yn" ∨ prAt h i j = "yy" := by
  have g : ∀ k, k < m → sgAt h k = 110 ∨ sgAt h k = 121 := fun k hk => by
    have hk' : k < h.cps.toList.length := by rw [Array.length_toList, hh.1]; exact hk
    have e : sgAt h k = h.cps.toList[k] := by unfold sgAt; rw [List.getD_eq_getElem?_getD, List.getElem?_eq_getElem hk']; rfl
    rw [e]
    exact hh.2 _ (List.getElem_mem _)
  unfold prAt
  rcases g i hi with a | a <;> rcases g j hj with b | b <;> rw [a, b]
  · exact .inl rfl
  · exact .inr (.inl rfl)
  · exact .inr (.inr (.inl rfl))
  · exact .inr (.inr (.inr rfl))
theorem at_sg {m : Nat} {h : Str} {i : Nat} (hh : HalfS m h) (hi : i < m) : atI h.cps.toList (i : Int) = some (sgAt h i) := by
  have hk' : i < h.cps.toList.length := by rw [Array.length_toList, hh.1]; exact hi
  refine atI_nat ?_
  rw [List.getElem?_eq_getElem hk']
  unfold sgAt
  rw [List.getD_eq_getElem?_getD, List.getElem?_eq_getElem hk']
  rfl
theorem pr_cat (h : Str) (i j : Nat) : ((⟨#[sgAt h i]⟩ : Str) ++ (⟨#[sgAt h j]⟩ : Str)) = prAt h i j := rfl
/-- turned at a place -/
def flip1 (h : Str) (k : Nat) : Str := ⟨(h.cps.toList.set k (if sgAt h k = 110 then 121 else 110)).toArray⟩
theorem flip_half {m k : Nat} {h : Str} (hh : HalfS m h) : HalfS m (flip1 h k) := by
  refine ⟨by unfold flip1; simp; exact hh.1, fun c hc => ?_⟩
  unfold flip1 at hc
  rw [List.toList_toArray] at hc
  rcases List.mem_or_eq_of_mem_set hc with h1 | h1
  · exact hh.2 c h1
  · rw [h1]; split
    · exact .inr rfl
    · exact .inl rfl
end Hid

namespace Hid
open PySem PySem.Spec PyProof.Rows L2
/-! t[::-1] -/
theorem back_pick (xs : Array Value) : ((List.range xs.size).filterMap fun (k : Nat) => xs[(((xs.size : Int) - 1) + (k : Int) * (-1)).toNat]?).toArray = xs.toList.reverse.toArray := by
  congr 1
  have h1 : ((List.range xs.size).filterMap fun (k : Nat) => xs[(((xs.size : Int) - 1) + (k : Int) * (-1)).toNat]?) = (List.range xs.size).map fun k => xs.getD (xs.size - 1 - k) .none := by
    have : ∀ l : List Nat, (∀ k ∈ l, k < xs.size) → (l.filterMap fun (k : Nat) => xs[(((xs.size : Int) - 1) + (k : Int) * (-1)).toNat]?) = l.map fun k => xs.getD (xs.size - 1 - k) .none := by
      intro l
      induction l with
      | nil => intro _; rfl
      | cons k l ih =>
        intro h
        have hk := h k List.mem_cons_self
        have e : (((xs.size : Int) - 1) + (k : Int) * (-1)).toNat = xs.size - 1 - k := by omega
        have hlt : xs.size - 1 - k < xs.size := by omega
        rw [List.filterMap_cons, e, Array.getElem?_eq_getElem hlt, List.map_cons, ← ih fun z hz => h z (List.mem_cons_of_mem _ hz)]
        simp [Array.getD, hlt]
    exact this _ fun k hk => List.mem_range.mp hk
  rw [h1]
  apply List.ext_getElem?
  intro i
  by_cases hi : i < xs.size
  · have hlt : xs.size - 1 - i < xs.size := by omega
    rw [List.getElem?_map, List.getElem?_range hi, List.getElem?_reverse (by rw [Array.length_toList]; exact hi)]
    simp [Array.getD, hlt]
  · rw [List.getElem?_eq_none (by rw [List.length_map, List.length_range]; omega), List.getElem?_eq_none (by rw [List.length_reverse, Array.length_toList]; omega)]
section
variable {prog : Program} {w : World} {A : Around} {E : Value → Shared → Prop} {s : Shared}
theorem back_applied {sl : Addr} {vs : Value} {n : Nat} {Q : Int × Int × Nat → Shared → Prop} (hs : s.heap.IsSliceOf sl .none .none vs) (ps : IsPart vs (some (-1))) (h : Q ((n : Int) - 1, -1, n) s) :
    wpAny (model prog w) A (Builtin.Slice.sliceApplied (.ref sl) (pure (n : Int))) Q E s := by
  obtain ⟨os, hos, hcs, hds⟩ := id hs
  unfold Builtin.Slice.sliceApplied Builtin.Slice.sliceFields
  refine wpAny_bind (wpAny_bind (wpAny_field hos hds (x := .none) rfl (wpAny_bind (wpAny_field hos hds (x := .none) rfl (wpAny_bind (wpAny_field hos hds (x := vs) rfl (wpAny_pure ?_)))))))
  refine wpAny_bind (HT.slicePart_ ps ?_)
  show wpAny _ _ (if ((-1 : Int) == 0) = true then _ else _) _ _ s
  rw [if_neg (by decide)]
  refine wpAny_bind (HT.slicePart_ .none (wpAny_bind (HT.slicePart_ .none (wpAny_bind (wpAny_pure ?_)))))
  have e1 : Builtin.Slice.sliceAdjust none none (-1) (n : Int) = ((n : Int) - 1, -1) := by simp [Builtin.Slice.sliceAdjust]
  have e2 : Builtin.Slice.slicePlaces ((n : Int) - 1) (-1) (-1) = n := by
    unfold Builtin.Slice.slicePlaces
    have h1 : ¬ ((-1 : Int) > 0) := by decide
    simp only [h1, if_false]
    split
    · rw [show (-(-1) : Int) = 1 by decide, Int.ediv_one]
      omega
    · omega
  show wpAny _ _ (match Builtin.Slice.sliceAdjust none none (-1) (n : Int) with | (lo, hi) => pure (lo, (-1 : Int), Builtin.Slice.slicePlaces lo hi (-1))) _ _ s
  rw [e1]
  show wpAny _ _ (pure ((n : Int) - 1, (-1 : Int), Builtin.Slice.slicePlaces ((n : Int) - 1) (-1) (-1))) _ _ s
  rw [e2]
  exact wpAny_pure h
theorem back_item {t sl : Addr} {items : Array Value} {vs : Value} {Q : Value → Shared → Prop} (ht : IsTup s.heap t items) (hs : s.heap.IsSliceOf sl .none .none vs) (ps : IsPart vs (some (-1))) (hsz : items.size ≤ sizeLine)
    (h : Q (.ref s.heap.objs.size) { s with heap := s.heap.push { cls := .type "tuple", data := .seq items.toList.reverse.toArray } }) : wpAny (model prog w) A (getItem (.ref t) (.ref sl)) Q E s := by
  have hok : sizeOk (.seq items.toList.reverse.toArray) := by
    show items.toList.reverse.toArray.size ≤ sizeLine
    simpa using hsz
  obtain ⟨os, hos, hcs, hds⟩ := id hs
  have hTs : s.TypeIs (.ref sl) "slice" := ⟨os, hos, hcs⟩
  unfold getItem
  try with_reducible refine wpAny_holding ?_
  first | refine wpAny_bind (wpAny_pure ?_) | skip
  refine wpAny_bind (wpAny_sequenceKey ht.typeIs (by decide) ?_)
  refine wpAny_bind (wpAny_callSpecial?_slot (name := Str.ofString "__getitem__") ht.typeIs PyProof.Rows.slot_tuple_getitem (wpAny_call_entry PyProof.Rows.slot_tuple_getitem ht.typeIs entry_tuple_getitem ?_ (args_tuple_getitem _ _)))
  show wpAny _ _ (Builtin.Tuple.tupleItemsOf (.ref t) >>= _) _ _ s
  refine wpAny_bind (tupleItemsOf_ ht (wpAny_bind (wpAny_typeOf hTs ?_)))
  rw [if_pos (by decide)]
  refine wpAny_bind (back_applied hs ps ?_)
  show wpAny _ _ (if (((items.size : Int) - 1 == 0 && (-1 : Int) == 1) && items.size == items.size) = true then _ else _) _ _ s
  rw [if_neg (by intro z; rw [Bool.and_eq_true, Bool.and_eq_true] at z; exact absurd z.1.2 (by decide)), back_pick]
  first
    | exact wpAny_bind (m := Builtin.Tuple.tupleExact _) (wpAny_newObj_type (wpAny_pure ⟨_, rfl, wpAny_pure h⟩) hok)
    | exact wpAny_bind (m := Builtin.Tuple.tupleExact _) (wpAny_newObj_type (wpAny_bind (wpAny_pure (wpAny_pure ⟨_, rfl, wpAny_pure h⟩))) hok)
    | exact wpAny_bind (wpAny_bind (m := Builtin.Tuple.tupleExact _) (wpAny_newObj_type (wpAny_pure (wpAny_pure ⟨_, rfl, wpAny_pure h⟩)) hok))
    | exact wpAny_bind (wpAny_bind (m := Builtin.Tuple.tupleExact _) (wpAny_newObj_type (wpAny_pure ⟨_, rfl, wpAny_pure h⟩) hok))
/-- sorted(t), t a tuple of texts -/
theorem sorted_tupS {l : Addr} {items : Array Value} {ks : List Str} {Q : Value → Shared → Prop} (ht : IsTup s.heap l items) (hi : StrsAre items.toList ks) (hz : items.size ≤ 100000) (hu : A.units + 64 < cLine)
    (hQ : ∀ (h1 h' : Heap) (out : Array Value) (c : Nat), (∀ b o, s.heap.get? b = some o → h1.get? b = some o) → (∀ b o, h1.get? b = some o → h'.get? b = some o) → h'.get? h1.objs.size = some (seqObj "list" out c) → StrsAre out.toList (ks.mergeSort strLe) → Q (.ref h1.objs.size) { s with heap := h' }) :
    wpAny (model prog w) A (call (.builtin "sorted") [.ref l]) Q E s := by
  obtain ⟨o, ho, hc, n, hd⟩ := id ht
  refine Calls.call_function_entry kind_sorted plain_sorted entry_sorted (args_sorted1 _) ?_
  unfold Builtin.«sorted»
  have hsz : items.size ≤ sizeLine := Nat.le_trans hz (by decide)
  refine wpAny_bind (m := checkCount "sorted" 1 1 _) (wpAny_pure (wpAny_bind (wpAny_collect_seq (A := A.in1) l (.inr rfl) ho hc hd (fun h1 k1 => ?_) hsz)))
  have hlen : items.toList.length ≤ sizeLine := by rw [Array.length_toList]; exact hsz
  have ek : PySem.W.EachIs (fun v k => ∃ t, v = Value.str k t) items.toList ks := by
    clear hQ
    generalize items.toList = vs at hi
    induction hi with
    | nil => exact .nil
    | cons k t _ ih => exact .cons ⟨t, rfl⟩ ih
  have hkl : ks.length = items.toList.length := ek.length.symm
  refine wpAny_bind (wpAny_newList ?_ hlen)
  have hoL : (h1.push (seqObj "list" items.toList.toArray 0)).get? h1.objs.size = some (seqObj "list" items.toList.toArray 0) := Heap.get?_push_size _ rfl
  refine wpAny_bind (wpAny_holding ?_)
  refine PySem.W.list_sort_data (s := { s with heap := h1.push (seqObj "list" items.toList.toArray 0) }) (enc := fun k : Str => PyData.str k) hoL ek (each_mono2 (fun v k h => ?_) ek) ?_ ?_ (by rw [hkl]; exact hlen) (fun k _ => ?_) fun out hlo eo => ?_
  · obtain ⟨t, rfl⟩ := h
    exact ⟨[], .str k t, fun m => nomatch m⟩
  · exact PySem.W.AllAlike.of fun _ _ => by simp [PySem.W.alike]
  · exact PySem.W.Sortable.others fun _ => ⟨(fun z => nomatch z), (fun _ z => nomatch z)⟩
  · show A.in1.units + 1 + PyData.depth (.str k) < cLine
    have : PyData.depth (.str k) = 0 := by simp [PyData.depth]
    have h2 : A.in1.units = A.units + 1 := rfl
    omega
  · rw [PySem.W.dataLe_str (β := Str) (fun k => k)] at eo
    obtain ⟨c, hcc⟩ := sortedHeap_at (vs := items.toList) (out := out.toArray) hoL
    refine wpAny_pure ⟨_, rfl, hQ h1 _ out.toArray c k1 (fun b u q => ?_) hcc (by rw [List.toList_toArray]; exact each_strs (fun _ _ h => h) eo)⟩
    have hlt := Heap.lt_size q
    show (sortedHeap (h1.push (seqObj "list" items.toList.toArray 0)) h1.objs.size items.toList out.toArray).get? b = some u
    rw [sortedHeap_old (Nat.ne_of_lt hlt) (by rw [size_push']; exact Nat.lt_succ_of_lt hlt)]
    exact Heap.get?_push_of_some _ q
end
section
variable {X : Cx}
def tRevT (K : PySem.W.Frag) (te : TE) : TE := fun σ H Q => te σ H fun x H1 => ∃ a xs, x = .ref a ∧ SqT K H1 a xs ∧ ∀ p, H1 p = none → Q (.ref p) (upd H1 p (.tup xs.reverse))
theorem pe_revT {e : Expr} {te : TE} {k : Nat} {p1 p2 p3 pos : Pos} (he : PE X e te) : PE X (.Subscript e (.Slice none none (some (.UnaryOp .USub (.Constant (.int 1) k p1) p2)) p3) pos) (tRevT X.K te) := by
  refine ⟨fun pins s σ H Q I h => ?_⟩
  refine Subscript_ (thn (he.run pins s σ H _ I h) fun v s1 ⟨x, H1, I1, r1, a, xs, ex, hx, q⟩ => ?_)
  subst ex
  cases r1
  have hst : PO X (some (.UnaryOp .USub (.Constant (.int 1) k p1) p2)) (tPart (tUn (rU fun i => .int (-i)) (tC (.int 1)))) := po_some (pe_un un_neg pe_int)
  refine wpAny_Slice (thn (po_none.run pins s1 σ H1 (fun o H2 => o = none ∧ H2 = H1) I1 ⟨rfl, rfl⟩) fun vl s2 ⟨l, H2, I2, pl, el, e2⟩ => ?_)
  subst el e2
  refine thn (po_none.run pins s2 σ H2 (fun o H3 => o = none ∧ H3 = H2) I2 ⟨rfl, rfl⟩) fun vu s3 ⟨u, H3, I3, pu, eu, e3⟩ => ?_
  subst eu e3
  refine thn (hst.run pins s3 σ H3 (fun o H4 => o = some (-1) ∧ H4 = H3) I3 ⟨1, rfl, -1, rfl, rfl, rfl⟩) fun vs s4 ⟨o, H4, I4, ps, eo, e4⟩ => ?_
  subst eo e4
  cases pl
  cases pu
  have I5 : Inv X pins σ H4 { s4 with heap := s4.heap.push { cls := .type "slice", data := .fields #[.none, .none, vs] } } := I4.kept (t' := s4.toks) fun b ob z => Heap.get?_push_of_some _ z
  obtain ⟨its, r, ht, hz⟩ := I5.tuple hx
  show wpAny (model X.prog X.w) X.A (subscriptTail e (.Slice none none (some (.UnaryOp .USub (.Constant (.int 1) k p1) p2)) p3) (.ref a) (.ref s4.heap.objs.size)) (EP X pins σ Q) X.xe { s4 with heap := s4.heap.push { cls := .type "slice", data := .fields #[.none, .none, vs] } }
  refine tail_any (ops := [.ref a, .ref s4.heap.objs.size]) ht.typeIs (PyProof.Rows.slot_tuple_getitem.lookup) ?_ (by with_unfolding_all rfl)
  refine back_item ht (Heap.IsSliceOf.new _ .none .none vs) ps (by rw [List.size_toArray, ← r.length]; exact hz) ?_
  refine ⟨.ref _, _, I5.laid (t' := s4.toks) (o := .tup xs.reverse) (fun b ob z => Heap.get?_push_of_some _ z) (Nat.le_refl _) ?_, rfl, q _ (I5.hok.fresh (Nat.le_refl _))⟩
  refine ⟨by rw [List.length_reverse]; exact hz, its.reverse, r.reverse, ?_⟩
  rw [List.toList_toArray]
  exact IsTup.new _ _
theorem cr_sortedT (hu : X.A.units + 64 < cLine) : CallR X (.builtin "sorted") (fun vs H Q => ∃ (a : Addr) (xs : List Str), vs = [.ref a] ∧ SqT X.K H a (xs.map V.str) ∧ xs.length ≤ 100000 ∧ ∀ p, H p = none → Q (.ref p) (upd H p (.lst ((xs.mergeSort strLe).map V.str)))) := by
  intro pins s σ H vs us Q I r h
  obtain ⟨a, xs, rfl, hs, hl, q⟩ := h
  obtain ⟨its, rv, ht, hz⟩ := I.tuple hs
  rw [Vals.ref1 r]
  refine sorted_tupS (ks := xs) ht (by rw [List.toList_toArray]; exact strs_of_vals rv) (by rw [List.size_toArray, ← rv.length, List.length_map]; exact hl) hu fun h1 h' out c k1 k2 hget hst => ?_
  have I1 := I.kept (t' := s.toks) k1
  refine ⟨.ref h1.objs.size, _, I1.laid (t' := s.toks) (o := .lst ((xs.mergeSort strLe).map V.str)) k2 (Nat.le_refl _) ⟨?_, out.toList, c, vals_of_strs hst, hget⟩, rfl, q _ (I1.hok.fresh (Nat.le_refl _))⟩
  rw [List.length_map, List.length_mergeSort]
  exact Nat.le_trans hl (by decide)
end
end Hid

namespace Hid
open PySem PySem.Spec PyProof.Rows L2 Evl
theorem map_range_getD' {α : Type} (l : List α) (d : α) : (List.range l.length).map (fun n => l.getD n d) = l := by
  apply List.ext_getElem?
  intro n
  by_cases h : n < l.length
  · rw [List.getElem?_map, List.getElem?_range h, List.getElem?_eq_getElem h]
    simp [List.getD_eq_getElem?_getD, h]
  · rw [List.getElem?_eq_none (by rw [List.length_map, List.length_range]; omega), List.getElem?_eq_none (by omega)]
section
variable {K : PySem.W.Frag} {σ : L2.St} {H H' : Hp} {ta tb tc te tl : TE} {t : TT}
theorem u1 {k : Nat} {A : Around} (r : Room k A) : A.units + 1 < cLine := by have := r.un; omega
theorem ev_lenT {p : Addr} {xs : List V} (ha : Ev ta σ H (.ref p)) (h : SqT K H p xs) : Ev (tCB (rLenS K) (tCons ta tNil)) σ H (.int (xs.length : Int)) := fun H1 e Q q =>
  ha H1 e _ fun H2 e2 => ⟨p, xs, rfl, .inr (ex_t (e.trans e2) h), q H2 e2⟩
theorem ev_lenS {w : Str} (ha : Ev ta σ H (.str w)) (hw : w.length ≤ 100000) : Ev (tCB (fun xs H Q => ∃ z, xs = [V.str z] ∧ z.length ≤ sizeLine ∧ Q (.int z.length) H) (tCons ta tNil)) σ H (.int (w.length : Int)) := fun H1 e Q q =>
  ha H1 e _ fun H2 e2 => ⟨w, rfl, sz_of hw, q H2 e2⟩
def rTupOf (K : PySem.W.Frag) : List V → Hp → VK → Prop := fun xs H Q => ∃ p ys, xs = [.ref p] ∧ ((SqL K H p ys ∧ ∀ l, H l = none → Q (.ref l) (upd H l (.tup ys))) ∨ (SqT K H p ys ∧ Q (.ref p) H))
theorem eu_tupOf {xs : List V} (h : EvL tl σ H xs) : EvU (tCB (rTupOf K) (tCons tl tNil)) σ H xs := fun H1 e Q q =>
  h H1 e _ fun p H2 hp e2 h2 => ⟨p, xs, rfl, .inl ⟨sq_of h2, fun l hl => q l _ (fresh_back e2 hl) (e2.trans (Ex.new hl)) upd_same⟩⟩
theorem eu_tupOfV {p : Addr} {xs : List V} (h : Ev tl σ H (.ref p)) (hs : SqL K H p xs) : EvU (tCB (rTupOf K) (tCons tl tNil)) σ H xs := fun H1 e Q q =>
  h H1 e _ fun H2 e2 => ⟨p, xs, rfl, .inl ⟨ex_l (e.trans e2) hs, fun l hl => q l _ (fresh_back e2 hl) (e2.trans (Ex.new hl)) upd_same⟩⟩
theorem rv_catS {a b : Str} (ha : a.length ≤ 1000) (hb : b.length ≤ 1000) : RV (fun x y H Q => ∃ i j, x = .str i ∧ y = .str j ∧ i.length + j.length ≤ sizeLine ∧ Q (.str (i ++ j)) H) (.str a) (.str b) H (.str (a ++ b)) := fun H1 e Q q =>
  ⟨a, b, rfl, rfl, sz_of (by omega), q H1 (Ex.refl _)⟩
theorem rv_notN {x : V} : RV (fun x y H Q => y = .non ∧ Q (.bl (!decide (x = .non))) H) x .non H (.bl (!decide (x = .non))) := fun H1 _ _ q => ⟨rfl, q H1 (Ex.refl _)⟩
theorem rv_isN {x : V} : RV (fun x y H Q => y = .non ∧ Q (.bl (decide (x = .non))) H) x .non H (.bl (decide (x = .non))) := fun H1 _ _ q => ⟨rfl, q H1 (Ex.refl _)⟩
theorem el_slN {xs : List V} {tl th : TO} {lo hi : Option Int} (h : EvL te σ H xs) (h1 : EvO tl σ H lo) (h2 : EvO th σ H hi) : EvL (tSl (rSlL K) te tl th) σ H (cutV xs lo hi) := fun H1 e Q q =>
  h H1 e _ fun p H2 hp e2 hx => h1 H2 (e.trans e2) _ fun H3 e3 => h2 H3 ((e.trans e2).trans e3) _ fun H4 e4 => ⟨p, xs, rfl, sq_of (e4 _ _ (e3 _ _ hx)), fun r hr =>
    q r _ (fresh_back (e2.trans (e3.trans e4)) hr) ((e2.trans (e3.trans e4)).trans (Ex.new hr)) upd_same⟩
theorem ev_slS {w : Str} {tl th : TO} {lo hi : Option Int} (h : Ev te σ H (.str w)) (h1 : EvO tl σ H lo) (h2 : EvO th σ H hi) (hw : w.length ≤ 100000) : Ev (tSl rSlS te tl th) σ H (.str (cutS w lo hi)) := fun H1 e Q q =>
  h H1 e _ fun H2 e2 => h1 H2 (e.trans e2) _ fun H3 e3 => h2 H3 ((e.trans e2).trans e3) _ fun H4 e4 => ⟨w, rfl, sz_of hw, q H4 (e2.trans (e3.trans e4))⟩
theorem el_lcT {a : Addr} {xs : List V} {tl : TE} {j : Nat} {vs : List Nat} (f : Nat → Bool) (v : Nat → V) (h : Ev tl σ H (.ref a)) (hx : SqT K H a xs) (hz : xs.length ≤ 40000) (hw : ∀ x, wipe ((wipe σ vs).set j (some x)) vs = wipe σ vs)
    (ht : ∀ (i : Nat) (x : V) H1, Ex H H1 → xs[i]? = some x → EvT t ((wipe σ vs).set j (some x)) H1 (f i)) (he : ∀ (i : Nat) (x : V) H1, Ex H H1 → xs[i]? = some x → f i = true → Ev te ((wipe σ vs).set j (some x)) H1 (v i)) :
    EvL (tLc (iTup K tl) (gName j) t te vs) σ H (given xs.length f v) := fun H0 e Q q => h H0 e _ fun H1 e1 => ⟨a, rfl, ⟨xs, ex_t (e.trans e1) hx⟩, fun Dl hD =>
  lc_tup (xs := xs) (Cw H1 f v Dl) ⟨hD, Ex.new hD, upd_same⟩ (fun i H' _ p => ex_t ((e.trans e1).trans p.2.1) hx) (fun i x H' hi p => ⟨hw x, cw_turn p (by have := (List.getElem?_eq_some_iff.mp hi).1; omega) (ht i x H1 (e.trans e1) hi) (fun hf => he i x H1 (e.trans e1) hi hf)⟩)
    (fun H' p => q Dl H' (fresh_back e1 p.1) (e1.trans p.2.1) p.2.2)⟩
/-! values told by a word that stays -/
def EvP (te : TE) (σ : L2.St) (H : Hp) (P : V → Hp → Prop) : Prop := ∀ H1, Ex H H1 → ∀ Q : VK, (∀ v H2, Ex H1 H2 → P v H2 → Q v H2) → te σ H1 Q
def EvPs (ta : TA) (σ : L2.St) (H : Hp) (P : List V → Hp → Prop) : Prop := ∀ H1, Ex H H1 → ∀ Q : List V → Hp → Prop, (∀ v H2, Ex H1 H2 → P v H2 → Q v H2) → ta σ H1 Q
def TupV (K : PySem.W.Frag) (xs : List V) (v : V) (H : Hp) : Prop := ∃ a, v = .ref a ∧ SqT K H a xs
theorem TupV.ex {xs : List V} {v : V} (e : Ex H H') (h : TupV K xs v H) : TupV K xs v H' := let ⟨a, h1, h2⟩ := h; ⟨a, h1, ex_t e h2⟩
abbrev TupVs (K : PySem.W.Frag) (xss : List (List V)) (vs : List V) (H : Hp) : Prop := Paired (fun v xs => TupV K xs v H) vs xss
theorem eps_nil : EvPs tNil σ H (TupVs K []) := fun H1 _ Q q => q [] H1 (Ex.refl _) .nil
theorem eps_cons {ts : TA} {xs : List V} {xss : List (List V)} (h : EvP ta σ H (TupV K xs)) (hr : EvPs ts σ H (TupVs K xss)) : EvPs (tCons ta ts) σ H (TupVs K (xs :: xss)) := fun H1 e Q q =>
  h H1 e _ fun v H2 e2 hv => hr H2 (e.trans e2) _ fun vs H3 e3 hvs => q _ H3 (e2.trans e3) (.cons (hv.ex e3) hvs)
theorem ep_var {a : Addr} {xs : List V} (h : Ev te σ H (.ref a)) (hs : SqT K H a xs) : EvP te σ H (TupV K xs) := fun H1 e Q q => h H1 e _ fun H2 e2 => q _ H2 e2 ⟨a, rfl, ex_t (e.trans e2) hs⟩
theorem ep_new {xs : List V} (h : EvU te σ H xs) : EvP te σ H (TupV K xs) := fun H1 e Q q => h H1 e _ fun p H2 hp e2 h2 => q _ H2 e2 ⟨p, rfl, st_of h2⟩
theorem ep_rev {a : Addr} {xs : List V} (h : Ev te σ H (.ref a)) (hs : SqT K H a xs) : EvP (tRevT K te) σ H (TupV K xs.reverse) := fun H1 e Q q =>
  h H1 e _ fun H2 e2 => ⟨a, xs, rfl, ex_t (e.trans e2) hs, fun p hp => q _ _ (e2.trans (Ex.new hp)) ⟨p, rfl, st_of upd_same⟩⟩
theorem cut_whole {xs : List V} {lo hi : Option Int} (h : HT.sIx xs.length 0 lo = 0 ∧ HT.sIx xs.length xs.length hi = xs.length) : cutV xs lo hi = xs := by
  unfold cutV
  rw [h.1, h.2, List.drop_zero, Nat.sub_zero, List.take_length]
theorem ep_sl {a : Addr} {xs : List V} {tl th : TO} {lo hi : Option Int} (h : Ev te σ H (.ref a)) (hs : SqT K H a xs) (h1 : EvO tl σ H lo) (h2 : EvO th σ H hi) : EvP (tSl (rSlA K) te tl th) σ H (TupV K (cutV xs lo hi)) := fun H1 e Q q =>
  h H1 e _ fun H2 e2 => h1 H2 (e.trans e2) _ fun H3 e3 => h2 H3 ((e.trans e2).trans e3) _ fun H4 e4 => by
    have e14 : Ex H1 H4 := e2.trans (e3.trans e4)
    refine ⟨a, xs, rfl, ex_t (e.trans e14) hs, fun hw => q _ H4 e14 ⟨a, rfl, ?_⟩, fun _ p hp => q _ _ (e14.trans (Ex.new hp)) ⟨p, rfl, st_of upd_same⟩⟩
    rw [cut_whole hw]
    exact ex_t (e.trans e14) hs
theorem ep_cat {xs ys : List V} (ha : EvP ta σ H (TupV K xs)) (hb : EvP tb σ H (TupV K ys)) (hl : xs.length + ys.length ≤ 100000) : EvP (tOp (rCatA K) ta tb) σ H (TupV K (xs ++ ys)) := fun H1 e Q q =>
  ha H1 e _ fun v H2 e2 ⟨a, ea, sa⟩ => hb H2 (e.trans e2) _ fun w H3 e3 ⟨b, eb, sb⟩ => by
    subst ea eb
    refine ⟨a, b, xs, ys, rfl, rfl, ex_t e3 sa, sb, sz_of hl, fun hx => ?_, fun _ hy => ?_, fun _ _ p hp => q _ _ ((e2.trans e3).trans (Ex.new hp)) ⟨p, rfl, st_of upd_same⟩⟩
    · subst hx
      exact q _ H3 (e2.trans e3) ⟨b, rfl, sb⟩
    · subst hy
      rw [List.append_nil] at q
      exact q _ H3 (e2.trans e3) ⟨a, rfl, ex_t e3 sa⟩
theorem ep_rep {a : Addr} {xs : List V} {k : Int} (ha : Ev ta σ H (.ref a)) (hs : SqT K H a xs) (hb : Ev tb σ H (.int k)) (h0 : xs ≠ []) (hk : 2 ≤ k ∧ k ≤ 1000) (hl : xs.length ≤ 1000) : EvP (tOp (rRepT K) ta tb) σ H (TupV K (List.replicate k.toNat xs).flatten) := fun H1 e Q q =>
  ha H1 e _ fun H2 e2 => hb H2 (e.trans e2) _ fun H3 e3 => ⟨a, k, xs, rfl, rfl, ex_t ((e.trans e2).trans e3) hs, h0, hk.1, hk.2, hl, fun p hp => q _ _ ((e2.trans e3).trans (Ex.new hp)) ⟨p, rfl, st_of upd_same⟩⟩
/-! what is told of a crossing -/
def ResF (H : Hp) (v : V) : Option (List Str) → Prop
  | none => v = .non
  | some F => ∃ q, v = .ref q ∧ H q = some (.tup (F.map V.str))
def ResX (H : Hp) (v : V) : Option (Nat × Nat × List Str) → Prop
  | none => v = .non
  | some (i, j, F) => ∃ p q, v = .ref p ∧ H p = some (.tup [.int i, .int j, .ref q]) ∧ H q = some (.tup (F.map V.str))
theorem ResX.ex {v : V} : ∀ {r : Option (Nat × Nat × List Str)}, Ex H H' → ResX H v r → ResX H' v r
  | none, _, h => h
  | some (i, j, F), e, h => let ⟨p, q, h1, h2, h3⟩ := h; ⟨p, q, h1, e _ _ h2, e _ _ h3⟩
def dX : Option (Nat × Nat × List Str) → PyData
  | none => .none
  | some (i, j, F) => .tuple [.int i, .int j, .tuple (F.map PyData.str)]
theorem strs_dp : ∀ F : List Str, DpAll K H (F.map V.str) (F.map PyData.str)
  | [] => .nil
  | x :: F => .cons (.str x) (strs_dp F)
theorem ResX.dp {v : V} : ∀ {r : Option (Nat × Nat × List Str)}, ResX H v r → Dp K H v (dX r)
  | none, h => by
    cases h
    exact .non
  | some (i, j, F), h => by
    obtain ⟨p, q, rfl, h2, h3⟩ := h
    exact .tup (st_of h2) (.cons (.int _) (.cons (.int _) (.cons (.tup (st_of h3) (strs_dp F)) .nil)))
theorem four_shape {rs : List Str} {i j : Nat} {F : List Str} (h : four rs i j = some F) : ∃ a b c d, F = [a, b, c, d] := by
  unfold four at h
  split at h
  · cases h
    exact ⟨_, _, _, _, rfl⟩
  · cases h
theorem four_mem {rs : List Str} {i j : Nat} {F : List Str} (h : four rs i j = some F) : ∀ x ∈ F, x ∈ rs := by
  unfold four at h
  split at h
  · rename_i a b c d h1 h2 h3 h4
    cases h
    have g : ∀ {p : Str} {y : Str}, fstAt rs i j p = some y → y ∈ rs := fun e => List.mem_of_find?_eq_some e
    intro x hx
    simp only [List.mem_cons, List.not_mem_nil, or_false] at hx
    rcases hx with rfl | rfl | rfl | rfl
    · exact g h1
    · exact g h2
    · exact g h3
    · exact g h4
  · cases h
theorem strOk_sm {l : List Nat} (h : ∀ c ∈ l, c < 200) : PyData.strOk (tx l) = true := by
  unfold PyData.strOk; rw [Array.all_eq_true]; intro i hi
  have hi' : i < l.length := by simpa [tx] using hi
  have := h l[i] (List.getElem_mem hi')
  exact decide_eq_true (by show l[i] < 0x110000; omega)
theorem half_strOk {m : Nat} {h : Str} (hh : HalfS m h) : PyData.canLay0 (.str h) = true := by
  have e : h = tx h.cps.toList := by cases h; simp [tx]
  rw [e]
  simp [PyData.canLay0]
  exact strOk_sm fun c hc => by rcases hh.2 c hc with z | z <;> omega
theorem dX_shaped {rs : List Str} {m m2 : Nat} (hr : ∀ h ∈ rs, HalfS m2 h) : ∀ {r : Option (Nat × Nat × List Str)}, IsCross (four rs) m r → SeqAt.shaped (dX r) = true
  | none, _ => rfl
  | some (i, j, F), h => by
    have hm := four_mem h.2.2.1
    obtain ⟨a, b, c, d, rfl⟩ := four_shape h.2.2.1
    have g : ∀ x ∈ [a, b, c, d], PyData.canLay0 (.str x) = true := fun x hx => half_strOk (hr x (hm x hx))
    have ga := g a (by simp)
    have gb := g b (by simp)
    have gc := g c (by simp)
    have gd := g d (by simp)
    unfold SeqAt.shaped
    simp only [PyData.canLay0] at ga gb gc gd
    simp [dX, PyData.canLay0, PyData.canLayAll0, PyData.depth, PyData.depthAll, ga, gb, gc, gd]
end
end Hid

namespace Hid
open PySem PySem.Spec PyProof.Rows L2
/-! a code object's table, held by its form -/
def TabOk (P : Addr) (h : Heap) : Prop := ∃ ps : Array Value, h.get? P = some (PySem.W.tabObj ps) ∧ TriplesOk ps.toList
def TabX (P : Addr) : HO := .ext (TabOk P)
theorem tabX_ok {Pr : Program} {w : World} {H : Hp} {h : Heap} {P : Addr} (x : TabOk P h) : ObjOk Pr w H h P (TabX P) := by
  obtain ⟨ps, e, t⟩ := x
  exact ⟨⟨ps, e, t⟩, ⟨_, e⟩, fun h1 h2 p k => let ⟨ps, e, t⟩ := p; ⟨ps, k _ e, t⟩⟩
theorem upd_id {H : Hp} {a : Addr} {o : HO} (h : H a = some o) : upd H a o = H := by
  funext b
  by_cases e : b = a
  · rw [e, upd_same, h]
  · exact upd_ne e
section
variable {X : Cx} {pins : List (Addr × Obj)} {σ : L2.St} {H : Hp} {s : Shared}
theorem inv_code {P : Addr} {h' : Heap} {t : Nat} (I : Inv X pins σ H s) (hP : H P = some (TabX P)) (k : ∀ b o, b ≠ P → s.heap.get? b = some o → h'.get? b = some o) (hn : TabOk P h') : Inv X pins σ H { s with heap := h', toks := t } := by
  have J := I.write (x := P) (e := P) (o := TabX P) (h' := h') (t' := t) (by rw [hP]; trivial) (.inl rfl) k (let ⟨_, e, _⟩ := hn; ⟨_, e⟩) (tabX_ok hn)
  rwa [upd_id hP] at J
/-- the context of a generator expression's own frame -/
abbrev gx (X : Cx) (s : Shared) (H : Hp) (A' : Around) (cenv : Env) (fp : List Addr) (pn : List (Addr × Obj)) : Cx :=
  { X with A := A', s_0 := s, H_0 := H, env := cenv, outer := X.stack, stack := cenv :: X.stack, ex := fp, fn := fun _ => false, pn := pn, xe := fun _ _ => False }
/-- it stands at its start -/
theorem gx_start {scope : Scope} {own : List (Str × Nat)} {fp : List Addr} {A' : Around} {code : Value} {s6 : Shared} {a : Addr} {go : Obj} {m0 : Str → Option Value} (I : Inv X pins σ H s) (hN : X.N.Nodup) (ok : BlkOk X.N X.env.scope scope own) (hnc : ∀ y ∈ scope.names, y.2 ≠ .cell)
    (hfp : ∀ b ∈ fp, FpOk X pins H b ∧ b < s.heap.objs.size) (hA : A'.handled = none) (hF : A'.frames = some (genEnv scope (cloFrom X.env.cells scope.names []) s.heap.objs.size code builtinsNs X.env :: X.stack))
    (kp : ∀ b o, s.heap.get? b = some o → s6.heap.get? b = some o) (hns : s6.heap.Ns s.heap.objs.size m0) (hos : s6.os = s.os) (hb : AllBare s6.gens) (ha : s.heap.objs.size < a) (hgo : s6.heap.get? a = some go) (hgc : ∀ v, go.data ≠ .cell v) :
    Inv (gx X s H A' (genEnv scope (cloFrom X.env.cells scope.names []) s.heap.objs.size code builtinsNs X.env) fp [(a, go)]) [] (wipe σ (own.map (·.2))) H s6 := by
  have hcl : ∀ {y c}, (cloFrom X.env.cells scope.names []).lookup y = some c → scope.names.lookup y = some .free ∧ X.env.cells.lookup y = some c := fun {y c} e => by
    rcases cloFrom_mem (PySem.mem_of_lookup e) with z | ⟨z, hc⟩
    · cases z
    · refine ⟨ok.uniq _ z, ?_⟩
      have hx : ∃ d, X.env.cells.lookup y = some d := by
        rcases ok.free _ z rfl with q | q
        · exact I.ok.has _ (.inl q)
        · exact I.ok.has _ (.inr q)
      obtain ⟨d, hd⟩ := hx
      rw [hc, hd]
      rfl
  have hfr : ∀ {y}, scope.names.lookup y = some .free → ∃ c, (cloFrom X.env.cells scope.names []).lookup y = some c := fun {y} e => mem_lookup (cloFrom_has (PySem.mem_of_lookup e))
  have hcs : ∀ {y c}, X.env.cells.lookup y = some c → c < s.heap.objs.size := fun {y c} e => by
    obtain ⟨v, z⟩ := I.cell y c e
    exact z.lt
  have okG : (gx X s H A' (genEnv scope (cloFrom X.env.cells scope.names []) s.heap.objs.size code builtinsNs X.env) fp [(a, go)]).Ok := by
    refine ⟨I.ok.mod, ok.kind, I.ok.glob, rfl, Nat.le_refl _, fun y z c e1 e2 => I.ok.inj y z c (hcl e1).2 (hcl e2).2, fun y hy => ?_, (fun y c z => Bool.noConfusion (show false = true from z)), fun _ => hA, hF, .inr ⟨rfl, rfl⟩, fun b hb => ⟨Nat.ne_of_lt (hfp b hb).2, fun y c e => ?_⟩,
      I.bs, Nat.le_trans I.ok.bsz I.sz, fun b o e hb => ?_, fun b hb z => ?_, I.stack, I.stkFree⟩
    · rcases hy with hy | hy
      · exact absurd rfl (hnc _ (PySem.mem_of_lookup (show scope.names.lookup y = _ from hy)))
      · exact hfr hy
    · obtain ⟨_, _, _, _, f5, _⟩ := (hfp b hb).1
      exact f5 y c (hcl e).2
    · obtain ⟨_, _, _, f4, _, _⟩ := (hfp b hb).1
      rcases f4 with z | z
      · exact I.ok.noex b o e z
      · have h1 := Heap.lt_size e
        have h2 := I.ok.bsz
        exact Nat.lt_irrefl _ (Nat.lt_of_lt_of_le h1 (Nat.le_trans h2 z))
    · obtain ⟨_, f2, f3, _, _, _⟩ := (hfp b hb).1
      rcases List.mem_cons.mp (I.stkSub b z) with q | q
      · exact f2 q
      · exact f3 q
  have hCn : H s.heap.objs.size = none := I.hok.fresh (Nat.le_refl _)
  refine ⟨okG, hos, hb, Un.kept kp, ⟨m0, hns, fun i y av e1 e2 e3 => ?_⟩, fun y c e => ?_, hCn, fun y c e => I.freeC y c (hcl e).2, fun p hp => ?_, I.hok.kept kp, by rw [wipe_length]; exact I.len⟩
  · obtain ⟨e2, hne⟩ := wipe_some e2
    have e3' : Vis scope y := e3
    have hfree : scope.names.lookup y = some .free := by
      have no : ∀ k, (k = NameKind.local ∨ k = .cell) → scope.names.lookup y = some k → False := fun k hk e => by
        rcases ok.own _ (PySem.mem_of_lookup e) hk with q | q
        · obtain ⟨p, hp, hpy⟩ := List.mem_map.mp q
          have e5 := ok.ix p hp
          rw [show p.1 = y from hpy] at e5
          exact hne (List.mem_map.mpr ⟨p, hp, nodup_ix hN e5 e1⟩)
        · exact q (List.mem_of_getElem? e1)
      rcases e3' with q | q | q
      · exact (no _ (.inl rfl) q).elim
      · exact (no _ (.inr rfl) q).elim
      · exact q
    obtain ⟨m, _, hl⟩ := I.loc
    have up := ok.free _ (PySem.mem_of_lookup hfree) rfl
    obtain ⟨w, r, q⟩ := hl i y av e1 e2 (up.elim (fun k => .inr (.inl k)) fun k => .inr (.inr k))
    obtain ⟨c, hc⟩ := hfr hfree
    refine ⟨w, r, .inr ⟨.inr hfree, c, hc, ?_⟩⟩
    rcases q with ⟨k, _⟩ | ⟨_, c', e', z⟩
    · have k' : X.env.scope.names.lookup y = some .local := k
      rcases up with u | u <;> rw [show X.env.scope.names.lookup y = _ from u] at k' <;> cases k'
    · rw [(hcl hc).2] at e'
      cases e'
      exact z.keeps kp
  · obtain ⟨w, z⟩ := I.cell y c (hcl e).2
    exact ⟨w, z.keeps kp⟩
  · have : p = (a, go) := by simpa using hp
    subst this
    exact ⟨hgo, I.hok.fresh (Nat.le_of_lt ha), Nat.ne_of_gt ha, fun z => by
      rcases List.mem_cons.mp (I.stkSub a z) with q | q
      · have := I.lt
        rw [← q] at this
        exact Nat.lt_irrefl _ (Nat.lt_trans this ha)
      · exact I.nofs (Nat.le_of_lt ha) q, hgc⟩
end
end Hid

namespace Hid
open PySem PySem.Spec PyProof.Rows L2
/-- nothing but the generators' table and the tokens are other -/
def Near (s s' : Shared) : Prop := ∃ g t, s' = { s with gens := g, toks := t } ∧ AllBare g
theorem Near.trans {s s' s'' : Shared} (a : Near s s') (b : Near s' s'') : Near s s'' := by
  obtain ⟨g, t, rfl, _⟩ := a
  obtain ⟨g2, t2, rfl, h⟩ := b
  exact ⟨g2, t2, rfl, h⟩
theorem near_set {s : Shared} {g : Nat} {x : GenState} (h : AllBare s.gens) (hx : x.bare = true) : Near s (s.setGen g x) := ⟨_, s.toks, rfl, allBare_setGen h hx⟩
theorem inv_near {X : Cx} {pins : List (Addr × Obj)} {σ : L2.St} {H : Hp} {s s' : Shared} (I : Inv X pins σ H s) (n : Near s s') : Inv X pins σ H s' := by
  obtain ⟨g, t, rfl, h⟩ := n
  exact I.call' (ch := []) rfl Un.refl I.hok h fun b z => nomatch z
section
variable {X : Cx}
/-- what is left of a generator expression: handed out truths b; b = cont goes on, else QE; at the end QD -/
def gxR (X : Cx) (σ : L2.St) (QD : Hp → Prop) : Nat → Shared → Shared → Prop := fun _ _ s₁ => ∃ H', Inv X [] σ H' s₁ ∧ QD H'
def gxY (X : Cx) (cont : Bool) (QE : Hp → Prop) : Protocol := fun n s₀ v s kap => ∃ (b : Bool) (σ' : L2.St) (pins : List (Addr × Obj)) (H' : Hp), v = .bool b ∧ Inv X pins σ' H' s ∧ (b = cont → ∀ s'', Near s s'' → kap (.send .none) s'') ∧ (b ≠ cont → QE H')
theorem gx_loop {A : Around} {elt tg iter : Expr} {scope : Scope} {pos : Pos} {it : Addr} {J : It} {fp : List Addr} {tn : Nat → Heap → Prop} {σ : L2.St} {vs : List Nat} {g : TG} {te : TE} {cont : Bool} {QD QE : Hp → Prop} {W : Nat → Nat → Hp → Prop}
    (hA : A.over (.compLoop (.GeneratorExp elt [⟨tg, iter, [], 0⟩] scope pos) 0 (.ref it) .none X.env) [] = X.A) (hc : X.calm = true) (hpn : ∀ p ∈ X.pn, p.1 ∉ fp) (hex : X.ex = fp) (hxe : X.xe = fun _ _ => False) (hco : X.env.scope.isCoroutine = false)
    (T : Turn X.prog X.w X.K tg J fp it tn) (pg : PG X tg g) (pe : PE X elt te)
    (turn : ∀ i m H, W i m H → (J.stop i H ∧ QD H) ∨ (J.go i H ∧ ∃ Nx : Hp → Prop, (∀ H', Nx H' → ∃ m', m' < m ∧ W (i + 1) m' H') ∧ ∀ x H', J.yld i H x H' → g x (wipe σ vs) H' fun σ2 H2 => wipe σ2 vs = wipe σ vs ∧ te σ2 H2 fun y H3 => ∃ b, y = .bl b ∧ (b = cont → Nx H3) ∧ (b ≠ cont → QE H3))) :
    ∀ (m n i : Nat) (s₀ s : Shared) (H5 : Hp), m < n → Inv X [] (wipe σ vs) H5 s → tn i s.heap → (∀ b ∈ fp, H5 b = none) → W i m H5 →
      Seg (model X.prog X.w) A (fun n s₀ r s₁ => r = .ok .next ∧ gxR X (wipe σ vs) QD n s₀ s₁) (gxY X cont QE) n s₀ (.compLoop (.GeneratorExp elt [⟨tg, iter, [], 0⟩] scope pos) 0 (.ref it) .none X.env)
        ((model X.prog X.w).den (.compLoop (.GeneratorExp elt [⟨tg, iter, [], 0⟩] scope pos) 0 (.ref it) .none X.env)) [] s := by
  have fpok : ∀ {σ' : L2.St} {H' : Hp} {s' : Shared}, Inv X [] σ' H' s' → (∀ b ∈ fp, H' b = none) → ∀ b ∈ fp, FpOk X [] H' b := fun {σ' H' s'} I' hn b hb =>
    ⟨hn b hb, (I'.ok.exf b (hex ▸ hb)).1, I'.ok.exfs b (hex ▸ hb), .inl (hex ▸ hb), fun x c e => (I'.ok.exf b (hex ▸ hb)).2 x c e, fun p hp => by
      rw [List.append_nil] at hp
      exact fun z => hpn p hp (z ▸ hb)⟩
  intro m
  induction m using Nat.strongRecOn with
  | ind m ih =>
    intro n i s₀ s H5 hmn I st hn w
    show Seg _ A _ _ _ s₀ _ ((compTurn (.GeneratorExp elt [⟨tg, iter, [], 0⟩] scope pos) 0 (.ref it) .none X.env).onRaise (leaving X.env)) [] s
    rw [compTurn_gen, Sem.onRaise_eq_wrap]
    refine seg_bind_wrap (wpAny_standAt ?_)
    rcases turn i m H5 w with ⟨stop, qd⟩ | ⟨go, Nx, hNx, step⟩
    · refine seg_bind_wrap ?_
      rw [hA]
      refine wpAny_mono (T.done X rfl rfl rfl hc i [] s _ H5 (fun _ _ => False) I (fpok I hn) st stop) (fun r s1 ⟨hr, I1⟩ => ?_) fun _ _ z => z.elim
      subst hr
      exact seg_end (.ok .next) ⟨rfl, H5, I1, qd⟩
    · refine seg_bind_wrap ?_
      rw [hA]
      refine wpAny_mono (T.item X rfl rfl rfl hc i [] s _ H5 (fun _ _ => False) I (fpok I hn) st go) (fun r s1 ⟨u, hr, h1⟩ => ?_) fun _ _ z => z.elim
      subst hr
      refine seg_bind_wrap ?_
      rw [hA]
      refine wpAny_mono h1 (fun _ s2 ⟨x, H2, I2, r2, y2, st2, n2⟩ => ?_) fun _ _ z => z.elim
      have I2' := I2.pinned (fpok I2 n2) (T.obj _ _ st2)
      refine seg_bind_wrap ?_
      rw [hA]
      refine wpAny_mono (pg.run _ s2 _ H2 x u _ I2' r2 (step x H2 y2)) (fun _ s3 ⟨σ3, H3, I3, hw3, q3⟩ => ?_) fun _ _ z => by rw [hxe] at z; exact z.elim
      refine seg_bind_wrap (wpAny_tests_nil ?_)
      obtain ⟨n', rfl⟩ : ∃ n', n = n' + 1 := ⟨n - 1, by omega⟩
      have hy : ∀ v, yieldOut X.env v = yieldValue v := fun v => by simp only [yieldOut, hco, Bool.false_eq_true, if_false]
      simp only [if_true, hy]
      rw [Sem.bind_eq_wrap', Sem.bind_eq_wrap', Sem.wrap_wrap, Sem.wrap_wrap]
      refine seg_wrap ?_
      rw [hA]
      refine wpAny_mono (pe.run _ s3 σ3 H3 _ I3 q3) (fun z s4 ⟨yv, H4, I4, r4, b, hyb, qc, qe⟩ => ?_) fun _ _ z => by rw [hxe] at z; exact z.elim
      subst hyb
      obtain rfl : z = Value.bool b := r4
      refine seg_at (seg_yield rfl rfl rfl ⟨b, σ3, _, H4, rfl, I4, fun hb s'' near => ?_, qe⟩)
      obtain ⟨m', hm, w'⟩ := hNx H4 (qc hb)
      have I5 := inv_near I4 near
      have keepF : ∀ b ∈ fp, ∀ o, s2.heap.get? b = some o → s''.heap.get? b = some o ∧ H4 b = none := fun b hb o e =>
        let z := I5.pin (b, o) (List.mem_append_right _ (List.mem_append_right _ (mem_pinsAt hb e)))
        ⟨z.1, z.2.1⟩
      have hl : (wipe σ vs).length = σ3.length := by rw [← hw3, wipe_length]
      refine seg_again rfl (ih m' hm n' (i + 1) s'' s'' H4 (by omega) ((I5.unpinned (pins := [])).weak hl fun j v e => ?_) (T.keep _ _ _ st2 fun b hb o e => (keepF b hb o e).1) (fun b hb => ?_) w')
      · rw [← hw3] at e
        exact (wipe_some e).1
      · obtain ⟨o, e, _⟩ := T.obj _ _ st2 b hb
        exact (keepF b hb o e).2
/-- from the start -/
theorem gx_begin {A : Around} {elt tg iter : Expr} {scope : Scope} {pos : Pos} {it : Addr} {tn : Nat → Heap → Prop} {J : It} {fp : List Addr} {R : GenEnd} {Y : Protocol} {n : Nat} {s₀ s : Shared}
    (T : Turn X.prog X.w X.K tg J fp it tn) (st : tn 0 s.heap)
    (loop : Seg (model X.prog X.w) A R Y n s₀ (.compLoop (.GeneratorExp elt [⟨tg, iter, [], 0⟩] scope pos) 0 (.ref it) .none X.env) ((model X.prog X.w).den (.compLoop (.GeneratorExp elt [⟨tg, iter, [], 0⟩] scope pos) 0 (.ref it) .none X.env)) [] s) :
    Seg (model X.prog X.w) A R Y n s₀ (.compStart (.GeneratorExp elt [⟨tg, iter, [], 0⟩] scope pos) 0 (.ref it) .none X.env) ((model X.prog X.w).den (.compStart (.GeneratorExp elt [⟨tg, iter, [], 0⟩] scope pos) 0 (.ref it) .none X.env)) [] s := by
  show Seg _ A _ _ _ s₀ _ ((compStart (.GeneratorExp elt [⟨tg, iter, [], 0⟩] scope pos) 0 (.ref it) .none X.env).onRaise (leaving X.env)) [] s
  unfold compStart
  rw [Sem.onRaise_eq_wrap]
  show Seg _ A _ _ _ s₀ _ ((ask >>= _).wrap _ _ _ _) [] s
  refine seg_bind_wrap (wpAny_askSetting ?_)
  split
  · exact seg_again rfl loop
  · refine seg_bind_wrap (wpAny_rule ?_)
    show Seg _ A _ _ _ s₀ _ ((standAt iter.pos >>= _).wrap _ _ _ _) [] s
    exact seg_bind_wrap (wpAny_standAt (seg_bind_wrap (T.self _ 0 s _ _ st (seg_again rfl loop))))
end
end Hid

namespace Hid
open PySem PySem.Spec PyProof.Rows L2
section
variable {X : Cx} {G : Cx} {σ : L2.St} {QD QE : Hp → Prop} {a : Addr} {g : Nat} {go : Obj}
/-- the generator's object at a, number g: n and more turns may follow -/
def gxAt (G : Cx) (A : Around) (σ : L2.St) (cont : Bool) (QD QE : Hp → Prop) (a : Addr) (g n : Nat) (s : Shared) : Prop :=
  s.heap.IsGen a g ∧ s.heap.NoLimit ∧ AllBare s.gens ∧ ∃ gs, s.gens[g]? = some gs ∧ ∀ s'', Near s s'' → gs.Goes (model G.prog G.w) A.in1 (fun n s₀ r s₁ => r = .ok .next ∧ gxR G σ QD n s₀ s₁) (gxY G cont QE) n (.send .none) s''
theorem set_at {s : Shared} {x : GenState} (h : g + 1 ≤ s.gens.size) : (s.setGen g x).gens[g]? = some x := by
  have hlt : g < s.gens.size := h
  simp [Shared.setGen, hlt]
theorem gx_next {A : Around} {cont : Bool} {n : Nat} {s : Shared} {Q : Option Value → Shared → Prop} {E : Value → Shared → Prop} (hh : A.handled = none) (hroom : A.depth < recursionLimit) (hpn : (a, go) ∈ G.pn) (hgo : ∀ h : Heap, h.get? a = some go → h.IsGen a g) (h : gxAt G A σ cont QD QE a g n s)
    (hE : ∀ b σ' pins H' s₁ gs', b ≠ cont → Inv G pins σ' H' s₁ → QE H' → gs'.bare = true → Q (some (.bool b)) (s₁.setGen g gs'))
    (hC : ∀ s' n', n = n' + 1 → gxAt G A σ cont QD QE a g n' s' → Q (some (.bool cont)) s')
    (hD : ∀ s₁ h' H', Inv G [] σ H' s₁ → QD H' → (∀ b o, s₁.heap.get? b = some o → h'.get? b = some o) → Q none { s₁.setGen g .finished with heap := h' }) :
    wpAny (model G.prog G.w) A (pyNext (.ref a)) Q E s := by
  obtain ⟨hg, hl, hb, gs, hgs, goes⟩ := h
  have hsz : g + 1 ≤ s.gens.size := (Array.getElem?_eq_some_iff.mp hgs).1
  refine GenW.wpAny_gsz (n := g + 1) hsz ?_
  refine wpAny_pyNext_genexpQ (P := gxR G σ QD) hh hl hroom hg hgs (goes _ (near_set hb rfl)) (fun v s₁ gs' hb' hv hz => ?_) (fun s₁ hp h' hk hz => ?_)
  · obtain ⟨b, σ', pins, H', rfl, I1, hc, he⟩ := hv
    have hz1 : g + 1 ≤ s₁.gens.size := by rw [GenW.setGen_size] at hz; exact hz
    by_cases hbc : b = cont
    · subst hbc
      cases n with
      | zero => exact (hc rfl s₁ ⟨s₁.gens, s₁.toks, rfl, I1.bare⟩).elim
      | succ n' =>
        refine hC _ n' rfl ⟨hgo _ (I1.pin (a, go) (List.mem_append_left _ hpn)).1, I1.nolimit, allBare_setGen I1.bare hb', gs', set_at hz1, fun s'' near => ?_⟩
        exact hc rfl s'' ((near_set I1.bare hb').trans near)
    · exact hE b σ' pins H' s₁ gs' hbc I1 (he hbc) hb'
  · obtain ⟨H', I1, qd⟩ := hp
    exact hD s₁ h' H' I1 qd hk
theorem gx_all {A : Around} {R : Result → Shared → Prop} (hh : A.handled = none) (hroom : A.depth < recursionLimit) (hpn : (a, go) ∈ G.pn) (hgo : ∀ h : Heap, h.get? a = some go → h.IsGen a g)
    (hE : ∀ σ' pins H' s₁ gs', Inv G pins σ' H' s₁ → QE H' → gs'.bare = true → R (.ok (.ret (.bool false))) (s₁.setGen g gs'))
    (hD : ∀ s₁ h' H', Inv G [] σ H' s₁ → QD H' → (∀ b o, s₁.heap.get? b = some o → h'.get? b = some o) → R (.ok (.ret (.bool true))) { s₁.setGen g .finished with heap := h' }) :
    ∀ (n : Nat) (s : Shared), gxAt G A.in1 σ true QD QE a g n s → codeAny (model G.prog G.w) A (.builtin "all.loop" ⟨[.ref a], []⟩) R s := by
  intro n
  induction n with
  | zero =>
    intro s h
    refine codeAny_builtin F.entry_all_loop ?_
    rw [Around.under_plainId F.plain_all_loop _]
    refine wpAny_bind (m := pyNext (.ref a)) (gx_next (A := A.in1) hh hroom hpn hgo h (fun b σ' pins H' s₁ gs' hb I1 q hbr => ?_) (fun s' n' e _ => nomatch e) fun s₁ h' H' I1 q hk => wpAny_bind (wpAny_rule (wpAny_pure (hD s₁ h' H' I1 q hk))))
    refine wpAny_bind (wpAny_holding (wpAny_truthy_bool (wpAny_bind (wpAny_letGo ?_))))
    cases b with
    | true => exact absurd rfl hb
    | false =>
      simp only [Bool.false_eq_true, if_false]
      exact wpAny_bind (wpAny_rule (wpAny_pure (hE σ' pins H' s₁ gs' I1 q hbr)))
  | succ n ih =>
    intro s h
    refine codeAny_builtin F.entry_all_loop ?_
    rw [Around.under_plainId F.plain_all_loop _]
    refine wpAny_bind (m := pyNext (.ref a)) (gx_next (A := A.in1) hh hroom hpn hgo h (fun b σ' pins H' s₁ gs' hb I1 q hbr => ?_) (fun s' n' e h' => ?_) fun s₁ h' H' I1 q hk => wpAny_bind (wpAny_rule (wpAny_pure (hD s₁ h' H' I1 q hk))))
    · refine wpAny_bind (wpAny_holding (wpAny_truthy_bool (wpAny_bind (wpAny_letGo ?_))))
      cases b with
      | true => exact absurd rfl hb
      | false =>
        simp only [Bool.false_eq_true, if_false]
        exact wpAny_bind (wpAny_rule (wpAny_pure (hE σ' pins H' s₁ gs' I1 q hbr)))
    · cases e
      refine wpAny_bind (wpAny_holding (wpAny_truthy_bool (wpAny_bind (wpAny_letGo ?_))))
      simp only [if_true]
      exact wpAny_pure ⟨plainId_quiet F.plain_all_loop _, ih s' h'⟩
theorem gx_any {A : Around} {R : Result → Shared → Prop} (hh : A.handled = none) (hroom : A.depth < recursionLimit) (hpn : (a, go) ∈ G.pn) (hgo : ∀ h : Heap, h.get? a = some go → h.IsGen a g)
    (hE : ∀ σ' pins H' s₁ gs', Inv G pins σ' H' s₁ → QE H' → gs'.bare = true → R (.ok (.ret (.bool true))) (s₁.setGen g gs'))
    (hD : ∀ s₁ h' H', Inv G [] σ H' s₁ → QD H' → (∀ b o, s₁.heap.get? b = some o → h'.get? b = some o) → R (.ok (.ret (.bool false))) { s₁.setGen g .finished with heap := h' }) :
    ∀ (n : Nat) (s : Shared), gxAt G A.in1 σ false QD QE a g n s → codeAny (model G.prog G.w) A (.builtin "any.loop" ⟨[.ref a], []⟩) R s := by
  intro n
  induction n with
  | zero =>
    intro s h
    refine codeAny_builtin F.entry_any_loop ?_
    rw [Around.under_plainId F.plain_any_loop _]
    refine wpAny_bind (m := pyNext (.ref a)) (gx_next (A := A.in1) hh hroom hpn hgo h (fun b σ' pins H' s₁ gs' hb I1 q hbr => ?_) (fun s' n' e _ => nomatch e) fun s₁ h' H' I1 q hk => wpAny_bind (wpAny_rule (wpAny_pure (hD s₁ h' H' I1 q hk))))
    refine wpAny_bind (wpAny_holding (wpAny_truthy_bool (wpAny_bind (wpAny_letGo ?_))))
    cases b with
    | false => exact absurd rfl hb
    | true =>
      simp only [if_true]
      exact wpAny_bind (wpAny_rule (wpAny_pure (hE σ' pins H' s₁ gs' I1 q hbr)))
  | succ n ih =>
    intro s h
    refine codeAny_builtin F.entry_any_loop ?_
    rw [Around.under_plainId F.plain_any_loop _]
    refine wpAny_bind (m := pyNext (.ref a)) (gx_next (A := A.in1) hh hroom hpn hgo h (fun b σ' pins H' s₁ gs' hb I1 q hbr => ?_) (fun s' n' e h' => ?_) fun s₁ h' H' I1 q hk => wpAny_bind (wpAny_rule (wpAny_pure (hD s₁ h' H' I1 q hk))))
    · refine wpAny_bind (wpAny_holding (wpAny_truthy_bool (wpAny_bind (wpAny_letGo ?_))))
      cases b with
      | false => exact absurd rfl hb
      | true =>
        simp only [if_true]
        exact wpAny_bind (wpAny_rule (wpAny_pure (hE σ' pins H' s₁ gs' I1 q hbr)))
    · cases e
      refine wpAny_bind (wpAny_holding (wpAny_truthy_bool (wpAny_bind (wpAny_letGo ?_))))
      simp only [Bool.false_eq_true, if_false]
      exact wpAny_pure ⟨plainId_quiet F.plain_any_loop _, ih s' h'⟩
/-- back in the def -/
theorem gx_back {pins : List (Addr × Obj)} {τ : L2.St} {H H' : Hp} {s4 s1 s' : Shared} {A' : Around} {cenv : Env} {fp : List Addr} {pn pins' : List (Addr × Obj)} {σ' : L2.St} (I4 : Inv X pins τ H s4) (hfp : ∀ b ∈ fp, FpOk X pins H b) (IG : Inv (gx X s4 H A' cenv fp pn) pins' σ' H' s1)
    (kp : ∀ b o, s1.heap.get? b = some o → s'.heap.get? b = some o) (ho : s'.os = s1.os) (hb : AllBare s'.gens) : Inv X pins τ H' s' := by
  have Jb : Inv (gx X s4 H A' cenv fp pn) pins' σ' H' s' := IG.call' (ch := []) ho (Un.kept kp) (IG.hok.kept kp) hb fun b z => nomatch z
  exact I4.call' (ch := fp) Jb.os Jb.base Jb.hok Jb.bare fun b hb => let ⟨_, f2, _, f4, f5, f6⟩ := hfp b hb; ⟨f4, f2, f5, f6⟩
/-- all(..), any(..) of a generator expression -/
def tGx (cont : Bool) (P : Addr) (wi : TI) (g : TG) (te : TE) (vs : List Nat) : TE := fun σ H Q => wi σ H fun J H1 => H1 P = some (TabX P) ∧ ∃ W : Nat → Nat → Hp → Prop, (∃ m, W 0 m H1) ∧ ∀ i m H, W i m H → (J.stop i H ∧ Q (.bl cont) H) ∨ (J.go i H ∧ ∃ Nx : Hp → Prop, (∀ H', Nx H' → ∃ m', m' < m ∧ W (i + 1) m' H') ∧
  ∀ x H', J.yld i H x H' → g x (wipe σ vs) H' fun σ2 H2 => wipe σ2 vs = wipe σ vs ∧ te σ2 H2 fun y H3 => ∃ b, y = .bl b ∧ (b = cont → Nx H3) ∧ (b ≠ cont → Q (.bl (!cont)) H3))
theorem gx_room {k : Nat} {A : Around} {c : Code} (h : Room (k + 1) A) (hw : c.weight = 1) (hu : c.cUnits = 3) : Room k (A.in1.in1.over c []) := by
  refine ⟨h.hd, ?_, ?_⟩
  · have := h.dp
    show A.depth + 0 + c.weight + 3 * k + 5 < _
    omega
  · have := h.un
    show A.units + 1 + 1 + 0 + c.cUnits + 16 * k + 200 < _
    omega
theorem gx_make {c P : Addr} {elt tg iter : Expr} {scope : Scope} {own : List (Str × Nat)} {gpos : Pos} {wi : TI} {gg : TG} {te : TE} {k : Nat} {cont : Bool} {pins : List (Addr × Obj)} {τ : L2.St} {H : Hp} {s : Shared} {Q : VK} {Q' : Value → Shared → Prop}
    (hr : Room (k + 1) X.A) (hc : X.calm = true) (hN : X.N.Nodup) (TB : GxR.TabB X.base X.mg c P) (hcode : X.env.code = .ref c) (hi : PI X tg iter wi) (ok : BlkOk X.N X.env.scope scope own) (hdot : scope.names.lookup (".0" : Str) = some NameKind.local) (hnc : ∀ y ∈ scope.names, y.2 ≠ .cell) (hco : scope.isCoroutine = false)
    (hg : ∀ s H A' C cl code fp pn, PG (gx X s H A' (genEnv scope cl C code builtinsNs X.env) fp pn) tg gg) (he : ∀ s H A' C cl code fp pn, Room k A' → PE (gx X s H A' (genEnv scope cl C code builtinsNs X.env) fp pn) elt te) (hs : ∀ v, genFold iter X.env v = pure v)
    (I : Inv X pins τ H s) (h : tGx cont P wi gg te (own.map (·.2)) τ H Q)
    (hQ : ∀ (G : Cx) (σ : L2.St) (QD QE : Hp → Prop) (a : Addr) (g n : Nat) (go : Obj) (s5 : Shared), G.prog = X.prog → G.w = X.w → (a, go) ∈ G.pn → (∀ h : Heap, h.get? a = some go → h.IsGen a g) → gxAt G X.A.in1 σ cont QD QE a g n s5 →
      (∀ pins' σ' H' s1 s', Inv G pins' σ' H' s1 → (∀ b o, s1.heap.get? b = some o → s'.heap.get? b = some o) → s'.os = s1.os → AllBare s'.gens → Inv X pins τ H' s') → (∀ H', QD H' → Q (.bl cont) H') → (∀ H', QE H' → Q (.bl (!cont)) H') → Q' (.ref a) s5) :
    wpAny (model X.prog X.w) X.A (eval (.GeneratorExp elt [⟨tg, iter, [], 0⟩] scope gpos) X.env) Q' X.xe s := by
  have hfree : ∀ y ∈ scope.names, y.2 = .free → ∃ c, X.env.cells.lookup y.1 = some c := fun y hy e => (ok.free y hy e).elim (fun q => I.ok.has _ (.inl q)) fun q => I.ok.has _ (.inr q)
  refine wpAny_GeneratorExp_make hco (closure_ok hfree) hnc hdot ok.kind (by have := hr.dp; omega) ?_ hs
  refine thn (hi.run pins s τ H _ I h) fun xv s1 hx => thn hx fun itv s2 h2 => ?_
  obtain ⟨it, fp, tn, J, H2, e, I2, T, st2, f2, hP, W, ⟨m0, w0⟩, turn⟩ := h2
  subst e
  obtain ⟨ps, hPs, htr⟩ : TabOk P s2.heap := (I2.hok P _ hP).1
  have cd : PySem.W.CodeHd s2.heap c P := TB.code.keeps fun b u e => I2.bk b u e
  have nP : ∀ b ∈ fp, b ≠ P := fun b hb z => by
    have := (f2 b hb).1
    rw [z, hP] at this
    cases this
  refine ⟨I2.nolimit, ?_⟩
  have go_on : ∀ (code : Value) (h3 : Heap) (tk : Nat), (∀ b o, b ≠ P → s2.heap.get? b = some o → h3.get? b = some o) → s2.heap.objs.size ≤ h3.objs.size → TabOk P h3 → wpAny (model X.prog X.w) X.A (builtinsFor X.env.globals X.env.builtins) (fun bi s₄ =>
      ∀ h', h'.Ns s₄.heap.objs.size (fun y => if y = ".0" then some (.ref it) else none) → Heap.SameBut s₄.heap.objs.size (s₄.heap.push { cls := .type "frame", data := .dict #[] }) h' →
        Q' (.ref h'.objs.size) { s₄ with gens := s₄.gens.push (.fresh (.compStart (.GeneratorExp elt [⟨tg, iter, [], 0⟩] scope gpos) 0 (.ref it) .none (genEnv scope (cloFrom X.env.cells scope.names []) s₄.heap.objs.size code bi X.env))), toks := s₄.toks + 1 + 1 + 1, heap := h'.push { cls := .type "generator", data := .fields #[.int s₄.gens.size 0, .str "<genexpr>" (s₄.toks + 1), .str (X.env.qual ++ "<genexpr>") (s₄.toks + 1 + 1)] } }) X.xe { s2 with heap := h3, toks := tk } := by
    intro code h3 tk k3 sz3 t3
    have I3 : Inv X pins τ H2 { s2 with heap := h3, toks := tk } := inv_code I2 hP k3 t3
    have st3 : tn 0 h3 := T.keep _ _ _ st2 fun b hb o e => k3 b o (nP b hb) e
    obtain ⟨bm, ob, e1, e2, e3, e4, e5, e6, e7, e8⟩ := TB.bm
    refine wpAny_builtinsFor (m := X.mg) (by rw [I3.ok.glob]; exact I3.mod.glob.keeps I3.bk) e1 e2 (I3.bk _ _ e5) e6 e7 e8 ?_
    generalize hs3 : ({ s2 with heap := h3, toks := tk } : Shared) = s3 at I3 ⊢
    have st3' : tn 0 s3.heap := by rw [← hs3]; exact st3
    intro h' hn' hs'
    have szp : h'.objs.size = s3.heap.objs.size + 1 := by rw [hs'.1, Heap.size_push]
    generalize hgo : ({ cls := .type "generator", data := .fields #[.int s3.gens.size 0, .str "<genexpr>" (s3.toks + 1), .str (X.env.qual ++ "<genexpr>") (s3.toks + 1 + 1)] } : Obj) = go
    have isg : ∀ h : Heap, h.get? h'.objs.size = some go → h.IsGen h'.objs.size s3.gens.size := fun h e => ⟨go, _, _, e, by rw [← hgo], by rw [← hgo], by rw [← hgo]⟩
    have gof : (h'.push go).get? h'.objs.size = some go := Heap.get?_push_size _ (by rw [← hgo]; rfl)
    have kp : ∀ b o, s3.heap.get? b = some o → (h'.push go).get? b = some o := fun b o e => Heap.get?_push_of_some _ (hs'.extBut b o (Nat.ne_of_lt (Heap.lt_size e)) (Heap.get?_push_of_some _ e))
    have hA' : (X.A.in1.in1.over (.compLoop (.GeneratorExp elt [⟨tg, iter, [], 0⟩] scope gpos) 0 (.ref it) .none (genEnv scope (cloFrom X.env.cells scope.names []) s3.heap.objs.size code builtinsNs X.env)) []).frames = some (genEnv scope (cloFrom X.env.cells scope.names []) s3.heap.objs.size code builtinsNs X.env :: X.stack) := by
      show pushEnvs [_] (pushEnvs [] X.A.frames) = _
      rw [I3.ok.frames]
      rfl
    have lt3 : ∀ b ∈ fp, b < s3.heap.objs.size := fun b hb => by
      obtain ⟨o, e, _⟩ := T.obj _ _ st3' b hb
      exact Heap.lt_size e
    have bare5 : AllBare (s3.gens.push (.fresh (.compStart (.GeneratorExp elt [⟨tg, iter, [], 0⟩] scope gpos) 0 (.ref it) .none (genEnv scope (cloFrom X.env.cells scope.names []) s3.heap.objs.size code builtinsNs X.env)))) := I3.bare.push rfl
    refine hQ (gx X s3 H2 (X.A.in1.in1.over (.compLoop (.GeneratorExp elt [⟨tg, iter, [], 0⟩] scope gpos) 0 (.ref it) .none (genEnv scope (cloFrom X.env.cells scope.names []) s3.heap.objs.size code builtinsNs X.env)) []) (genEnv scope (cloFrom X.env.cells scope.names []) s3.heap.objs.size code builtinsNs X.env) fp [(h'.objs.size, go)]) (wipe τ (own.map (·.2))) (fun H' => Q (.bl cont) H') (fun H' => Q (.bl (!cont)) H') h'.objs.size s3.gens.size (m0 + 1) go _ rfl rfl (List.mem_singleton.mpr rfl) isg ?_ (fun pins' σ' H' s1 s' IG k' o' b' => gx_back I3 f2 IG k' o' b') (fun _ q => q) fun _ q => q
    refine ⟨isg _ gof, I3.nolimit.keeps kp, bare5, _, Array.getElem?_push_size .., fun s'' near => ⟨rfl, ?_⟩⟩
    obtain ⟨g', t', rfl, bare'⟩ := near
    have IG := gx_start (s6 := { s3 with gens := g', toks := t', heap := h'.push go }) I3 hN ok hnc (fun b hb => ⟨f2 b hb, lt3 b hb⟩) (show (X.A.in1.in1.over (.compLoop (.GeneratorExp elt [⟨tg, iter, [], 0⟩] scope gpos) 0 (.ref it) .none (genEnv scope (cloFrom X.env.cells scope.names []) s3.heap.objs.size code builtinsNs X.env)) []).handled = none from I3.ok.hd hc) hA' kp (hn'.push _) rfl bare' (by rw [szp]; exact Nat.lt_succ_self _) gof (fun v z => by rw [← hgo] at z; cases z)
    have st5 : tn 0 (h'.push go) := T.keep _ _ _ st3' fun b _ o e => kp b o e
    refine gx_begin (X := gx X s3 H2 (X.A.in1.in1.over (.compLoop (.GeneratorExp elt [⟨tg, iter, [], 0⟩] scope gpos) 0 (.ref it) .none (genEnv scope (cloFrom X.env.cells scope.names []) s3.heap.objs.size code builtinsNs X.env)) []) (genEnv scope (cloFrom X.env.cells scope.names []) s3.heap.objs.size code builtinsNs X.env) fp [(h'.objs.size, go)]) T st5 ?_
    refine gx_loop (X := gx X s3 H2 (X.A.in1.in1.over (.compLoop (.GeneratorExp elt [⟨tg, iter, [], 0⟩] scope gpos) 0 (.ref it) .none (genEnv scope (cloFrom X.env.cells scope.names []) s3.heap.objs.size code builtinsNs X.env)) []) (genEnv scope (cloFrom X.env.cells scope.names []) s3.heap.objs.size code builtinsNs X.env) fp [(h'.objs.size, go)]) rfl hc (fun p hp hm => ?_) rfl rfl hco T (hg _ _ _ _ _ _ _ _) (he _ _ _ _ _ _ _ _ (gx_room hr rfl rfl)) turn m0 (m0 + 1) 0 _ _ H2 (Nat.lt_succ_self _) IG st5 (fun b hb => (f2 b hb).1) w0
    have : p = (h'.objs.size, go) := List.mem_singleton.mp hp
    subst this
    have h9 : h'.objs.size < s3.heap.objs.size := lt3 _ hm
    rw [szp] at h9
    exact absurd h9 (Nat.not_lt.mpr (Nat.le_succ _))
  cases hf : codeAmong gpos ps.toList with
  | none =>
    refine wpAny_genexprCodeX hcode (cd.code hPs htr) (cd.tab hPs) hf fun c' h' tk hx hge hlt hco' _ htab' _ => ?_
    obtain ⟨o1, vs, f1, tf, fl, tg1, inF, tx, tt, op, _, _, _, _, _, _, _, _, _, htr', _⟩ := hco'
    exact go_on _ h' tk (fun b o hb e => hx b o hb e) (Nat.le_trans hge (Nat.le_of_lt hlt)) ⟨_, htab'.2, htr'⟩
  | some cv =>
    refine wpAny_genexprCode_hit hcode (cd.code hPs htr) hf ?_
    exact go_on cv s2.heap s2.toks (fun _ _ _ e => e) (Nat.le_refl _) ⟨ps, hPs, htr⟩
theorem pe_allG {c P : Addr} {elt tg iter : Expr} {scope : Scope} {own : List (Str × Nat)} {p pos gpos : Pos} {wi : TI} {gg : TG} {te : TE} {k : Nat}
    (hr : Room (k + 1) X.A) (hc : X.calm = true) (hN : X.N.Nodup) (hgl : Gl X "all") (hm : X.mg "all" = none) (TB : GxR.TabB X.base X.mg c P) (hcode : X.env.code = .ref c) (hi : PI X tg iter wi) (ok : BlkOk X.N X.env.scope scope own)
    (hg : ∀ s H A' C cl code fp pn, PG (gx X s H A' (genEnv scope cl C code builtinsNs X.env) fp pn) tg gg) (he : ∀ s H A' C cl code fp pn, Room k A' → PE (gx X s H A' (genEnv scope cl C code builtinsNs X.env) fp pn) elt te)
    (hdot : scope.names.lookup (".0" : Str) = some NameKind.local := by rfl) (hnc : (scope.names.all fun y => y.2 != .cell) = true := by rfl) (hco : scope.isCoroutine = false := by rfl) (hs : ∀ v, genFold iter X.env v = pure v := by intro _; rfl)
    (hst : starEach [.GeneratorExp elt [⟨tg, iter, [], 0⟩] scope gpos] X.env = (false, eval (.GeneratorExp elt [⟨tg, iter, [], 0⟩] scope gpos) X.env) :: starEach [] X.env := by rfl) :
    PE X (.Call (.Name "all" p) [.GeneratorExp elt [⟨tg, iter, [], 0⟩] scope gpos] [] pos) (tGx true P wi gg te (own.map (·.2))) := by
  refine ⟨fun pins s σ H Q I h => ?_⟩
  refine wpAny_Call_Name_kw (ld_blt I hgl hm boot_all ?_)
  refine PyProof.Rows.callWith_builtin1 ?_ hst (by rfl)
  rw [hst]
  show wpAny _ _ (spliced ((false, eval (.GeneratorExp elt [⟨tg, iter, [], 0⟩] scope gpos) X.env) :: backTo pos (starEach [] X.env))) _ _ s
  refine Calls.spliced_cons (gx_make hr hc hN TB hcode hi ok hdot (fun y hy e => ?_) hco hg he hs I h fun G τ QD QE a g n go s5 eP eW hpn hgo hat back hD hE => Calls.spliced_nil ?_)
  · have := List.all_eq_true.mp hnc y hy
    rw [e] at this
    exact absurd this (by decide)
  refine call_function_tree F.kind_all F.plain_all F.entry_all (F.args_all1 _) ?_
  unfold Builtin.«all»
  refine wpAny_bind (m := oneArg "all" _) (wpAny_pure (wpAny_bind (wpAny_pyIter_gen hat.1 ?_)))
  have L := gx_all (G := G) (A := X.A) (σ := τ) (QD := QD) (QE := QE) (a := a) (g := g) (go := go) (R := fun r s' => ∃ v, r = .ok (.ret v) ∧ EP X pins σ Q v s') hr.hd (by have := hr.dp; omega) hpn hgo (fun σ' pins' H' s1 gs' IG q hb => ⟨_, rfl, .bl false, H', back _ _ _ _ _ IG (fun _ _ e => e) rfl (allBare_setGen IG.bare hb), rfl, hE _ q⟩)
    (fun s1 h' H' IG q hk => ⟨_, rfl, .bl true, H', back _ _ _ _ _ IG hk rfl (allBare_setGen IG.bare rfl), rfl, hD _ q⟩) n s5 hat
  rw [eP, eW] at L
  exact wpAny_pure ⟨plainId_quiet F.plain_all_loop _, codeAny_mono L fun r s' ⟨v, e, q⟩ => by subst e; simpa using q⟩
theorem pe_anyG {c P : Addr} {elt tg iter : Expr} {scope : Scope} {own : List (Str × Nat)} {p pos gpos : Pos} {wi : TI} {gg : TG} {te : TE} {k : Nat}
    (hr : Room (k + 1) X.A) (hc : X.calm = true) (hN : X.N.Nodup) (hgl : Gl X "any") (hm : X.mg "any" = none) (TB : GxR.TabB X.base X.mg c P) (hcode : X.env.code = .ref c) (hi : PI X tg iter wi) (ok : BlkOk X.N X.env.scope scope own)
    (hg : ∀ s H A' C cl code fp pn, PG (gx X s H A' (genEnv scope cl C code builtinsNs X.env) fp pn) tg gg) (he : ∀ s H A' C cl code fp pn, Room k A' → PE (gx X s H A' (genEnv scope cl C code builtinsNs X.env) fp pn) elt te)
    (hdot : scope.names.lookup (".0" : Str) = some NameKind.local := by rfl) (hnc : (scope.names.all fun y => y.2 != .cell) = true := by rfl) (hco : scope.isCoroutine = false := by rfl) (hs : ∀ v, genFold iter X.env v = pure v := by intro _; rfl)
    (hst : starEach [.GeneratorExp elt [⟨tg, iter, [], 0⟩] scope gpos] X.env = (false, eval (.GeneratorExp elt [⟨tg, iter, [], 0⟩] scope gpos) X.env) :: starEach [] X.env := by rfl) :
    PE X (.Call (.Name "any" p) [.GeneratorExp elt [⟨tg, iter, [], 0⟩] scope gpos] [] pos) (tGx false P wi gg te (own.map (·.2))) := by
  refine ⟨fun pins s σ H Q I h => ?_⟩
  refine wpAny_Call_Name_kw (ld_blt I hgl hm boot_any ?_)
  refine PyProof.Rows.callWith_builtin1 ?_ hst (by rfl)
  rw [hst]
  show wpAny _ _ (spliced ((false, eval (.GeneratorExp elt [⟨tg, iter, [], 0⟩] scope gpos) X.env) :: backTo pos (starEach [] X.env))) _ _ s
  refine Calls.spliced_cons (gx_make hr hc hN TB hcode hi ok hdot (fun y hy e => ?_) hco hg he hs I h fun G τ QD QE a g n go s5 eP eW hpn hgo hat back hD hE => Calls.spliced_nil ?_)
  · have := List.all_eq_true.mp hnc y hy
    rw [e] at this
    exact absurd this (by decide)
  refine call_function_tree F.kind_any F.plain_any F.entry_any (F.args_any1 _) ?_
  unfold Builtin.«any»
  refine wpAny_bind (m := oneArg "any" _) (wpAny_pure (wpAny_bind (wpAny_pyIter_gen hat.1 ?_)))
  have L := gx_any (G := G) (A := X.A) (σ := τ) (QD := QD) (QE := QE) (a := a) (g := g) (go := go) (R := fun r s' => ∃ v, r = .ok (.ret v) ∧ EP X pins σ Q v s') hr.hd (by have := hr.dp; omega) hpn hgo (fun σ' pins' H' s1 gs' IG q hb => ⟨_, rfl, .bl true, H', back _ _ _ _ _ IG (fun _ _ e => e) rfl (allBare_setGen IG.bare hb), rfl, hE _ q⟩)
    (fun s1 h' H' IG q hk => ⟨_, rfl, .bl false, H', back _ _ _ _ _ IG hk rfl (allBare_setGen IG.bare rfl), rfl, hD _ q⟩) n s5 hat
  rw [eP, eW] at L
  exact wpAny_pure ⟨plainId_quiet F.plain_any_loop _, codeAny_mono L fun r s' ⟨v, e, q⟩ => by subst e; simpa using q⟩
end
end Hid

namespace Hid
open PySem PySem.Spec PyProof.Rows L2 Evl
/-! the tables of a law: held by their form within, as they grew at the end -/
def xtab (ts : List Addr) (H : Hp) : Hp := fun b => if b ∈ ts then some (TabX b) else H b
theorem xtab_in {ts : List Addr} {H : Hp} {b : Addr} (h : b ∈ ts) : xtab ts H b = some (TabX b) := if_pos h
theorem xtab_out {ts : List Addr} {H : Hp} {b : Addr} (h : b ∉ ts) : xtab ts H b = H b := if_neg h
/-- back to the tables' contents -/
def grown (ts : List Addr) (h : Heap) (H : Hp) : Hp := fun b => if b ∈ ts then (match h.get? b with | some ⟨_, _, .fields ps, _⟩ => some (.tbl ps) | _ => none) else H b
theorem grown_in {ts : List Addr} {h : Heap} {H : Hp} {b : Addr} {ps : Array Value} (hb : b ∈ ts) (e : h.get? b = some (PySem.W.tabObj ps)) : grown ts h H b = some (.tbl ps) := by
  unfold grown
  rw [if_pos hb, e]
theorem grown_out {ts : List Addr} {h : Heap} {H : Hp} {b : Addr} (hb : b ∉ ts) : grown ts h H b = H b := if_neg hb
/-- all tables stand -/
def TB (ts : List Addr) (H : Hp) : Prop := ∀ P ∈ ts, H P = some (TabX P)
theorem TB.ex {ts : List Addr} {H H' : Hp} (h : TB ts H) (e : Ex H H') : TB ts H' := fun P hP => e _ _ (h P hP)
section
variable {P : Program} {w : World} {K : PySem.W.Frag} {mg : Str → Option Value} {base : Heap} {k : Nat} {f : Addr} {fd : FuncData} {ps : List Str} {sp : Sp} {ts : List Addr}
/-- a promise with tables held by their form, told with the tables' own contents -/
def spT (ts : List Addr) (sp : Sp) : Sp := fun vs H Q E => (∀ b ∈ ts, H b = some (.tbl #[])) ∧ sp vs (xtab ts H) (fun v H' => TB ts H' ∧ ∀ H'', (∀ b, b ∉ ts → H'' b = H' b) → Q v H'') E
theorem tab_law (F : FnOk P w K mg base CX0 k f fd ps sp) : FnOk P w K mg base CX0 k f fd ps (spT ts sp) := by
  refine ⟨fun vs H Q E h => F.len _ _ _ _ h.2, fun A outer s H args us vs Q E hr e0 hb hv h => ?_⟩
  obtain ⟨hT, h⟩ := h
  have out : ∀ {b : Addr}, H b = none → b ∉ ts := fun {b} e m => by
    rw [hT b m] at e
    cases e
  have outK : ∀ {b : Addr} {u : HO}, H b = some u → (∀ q, u ≠ .tbl q) → b ∉ ts := fun {b u} e n m => by
    rw [hT b m] at e
    exact n _ (Option.some.inj e).symm
  have hok : HOk P w (xtab ts H) s.heap := fun b u e => by
    by_cases m : b ∈ ts
    · rw [xtab_in m] at e
      cases e
      have q := e0.hok b _ (hT b m)
      exact tabX_ok ⟨#[], q, by first | trivial | exact .nil | constructor⟩
    · rw [xtab_out m] at e
      refine (e0.hok b u e).stay (fun c v _ q => q) (fun c q => ?_) fun c xs q => ?_
      · rw [xtab_out (outK q fun _ z => nomatch z)]
        exact q
      · rw [xtab_out (outK q fun _ z => nomatch z)]
        exact q
  have e1 : Env0 P w K mg base A outer s (xtab ts H) := ⟨e0.frames, e0.mod, fun b o e => ⟨(e0.bs b o e).1, by rw [xtab_out (out (e0.bs b o e).2)]; exact (e0.bs b o e).2⟩, e0.bsz, e0.funs, fun b hb => by rw [xtab_out (out (e0.frf b hb))]; exact e0.frf b hb, hok, e0.bare⟩
  refine codeAny_mono (F.run A outer s (xtab ts H) args us vs _ E hr e1 hb hv h) fun r s' hq => ?_
  cases r with
  | error e => exact hq.elim
  | ok fl =>
    cases fl with
    | next => exact hq.elim
    | brk => exact hq.elim
    | cont => exact hq.elim
    | ret u =>
      obtain ⟨v, H', os, bare, un, hok', rv, tb, q⟩ := hq
      have at' : ∀ b ∈ ts, ∃ qs, s'.heap.get? b = some (PySem.W.tabObj qs) := fun b m => by
        obtain ⟨⟨qs, e, _⟩, _⟩ := hok' b _ (tb b m)
        exact ⟨qs, e⟩
      have outK' : ∀ {b : Addr} {u : HO}, H' b = some u → (∀ φ, u ≠ .ext φ) → b ∉ ts := fun {b u} e n m => by
        rw [tb b m] at e
        exact n _ (Option.some.inj e).symm
      refine ⟨v, grown ts s'.heap H', os, bare, ⟨fun b o e n => ?_, fun b o e n => ?_, fun b o e n hx => ?_, un.there, fun b xs e => ?_, fun b o u e => ?_, fun b qs e => ?_⟩, fun b u e => ?_, rv, q _ fun b hb => grown_out hb⟩
      · exact un.keep b o e (by rw [xtab_out (out n)]; exact n)
      · exact un.slot b o e (by rw [xtab_out (out n)]; exact n)
      · rw [grown_out (out n)]
        exact un.free b o e (by rw [xtab_out (out n)]; exact n) hx
      · have m := outK e fun _ z => nomatch z
        rw [grown_out m]
        exact un.tups b xs (by rw [xtab_out m]; exact e)
      · have m := outK e fun _ z => nomatch z
        rw [grown_out m]
        exact un.frzs b o u (by rw [xtab_out m]; exact e)
      · by_cases m : b ∈ ts
        · obtain ⟨rs, er⟩ := at' b m
          rw [hT b m] at e
          cases e
          exact ⟨rs, by rw [grown_in m er, Array.empty_append]⟩
        · obtain ⟨more, z⟩ := un.tbls b qs (by rw [xtab_out m]; exact e)
          exact ⟨more, by rw [grown_out m]; exact z⟩
      · by_cases m : b ∈ ts
        · obtain ⟨rs, er⟩ := at' b m
          rw [grown_in m er] at e
          cases e
          exact er
        · rw [grown_out m] at e
          refine (hok' b u e).stay (fun c v _ q => q) (fun c q => ?_) fun c xs q => ?_
          · rw [grown_out (outK' q fun _ z => nomatch z)]
            exact q
          · rw [grown_out (outK' q fun _ z => nomatch z)]
            exact q
/-- a def by its body, the code object known -/
theorem okC {x qual : Str} {st : Stmt} {N : List Str} {c : Addr} (F : Fun K x qual st f fd) (hc : fd.code = .ref c) (S : FnScope N ps (defScope st)) (len : ∀ vs H Q E, sp vs H Q E → vs.length = ps.length)
    (hbody : ∀ (A : Around) (outer : List Env) (s : Shared) (H : Hp) (vs : List V) (Q : VK) (E : XK), Room k (A.deeper (envOfC qual (defScope st) s.heap.objs.size f (.ref c))) → sp vs H Q E →
      ∃ t, PSs (cxOf CX0 P w K mg base N qual (defScope st) f (.ref c) A outer s H E).nox (defBody st) t ∧ t { nx := fun _ H' => Q .non H', rt := Q } (start N vs) H) : FnOk P w K mg base CX0 (k + 1) f fd ps sp := by
  obtain ⟨oc, od, kV, doc, pm, an, cdv, ct, osl, rfl, lk, hcd⟩ := F.ex
  obtain rfl : cdv = .ref c := hc
  exact fn_of lk hcd S len fun A outer s H vs Q E hr hsp => let ⟨t, h, q⟩ := hbody A outer s H vs Q E hr hsp; ⟨t, h.nox, q⟩
end
theorem xtab_sq {K : PySem.W.Frag} {ts : List Addr} {H : Hp} {a : Addr} {xs : List V} (hT : ∀ b ∈ ts, H b = some (.tbl #[])) (h : SqL K H a xs) : SqL K (xtab ts H) a xs := by
  rcases h with (h | ⟨o, h⟩) | h
  · refine .inl (.inl ?_)
    rw [xtab_out fun m => by rw [hT a m] at h; cases h]; exact h
  · refine .inl (.inr ⟨o, ?_⟩)
    rw [xtab_out fun m => by rw [hT a m] at h; cases h]; exact h
  · exact .inr h
/-- a def with a code object that is asked for -/
def DfC (K : PySem.W.Frag) (mg : Str → Option Value) (x : Str) (st : Stmt) (ps : List Str) (c : Addr) : Prop := ∃ (f : Addr) (fd : FuncData), Fun K x x st f fd ∧ Binds K fd ps [] ∧ mg x = some (.ref f) ∧ fd.code = .ref c
theorem tabIn_mk {K : PySem.W.Frag} {x : Str} {f c P : Addr} {oc o1 : Value} {od o2 : Option Addr} {sl sl2 : Array (Option Value)} {fd : FuncData} {vs : Array Value} (a : PySem.W.nsIn K mainGlobals x = some (some (.ref f))) (b : K.lookup f = some ⟨oc, od, .func fd, sl⟩) (d : fd.code = .ref c) (e : K.lookup c = some ⟨o1, o2, .fields vs, sl2⟩) (g : vs[11]? = some (.ref P)) : PySem.W.tabIn K x = some (c, P) := by
  unfold PySem.W.tabIn
  simp only [a, b, d, e, g]
theorem walk_ofG {l : PySem.W.OpenLaw} {n k : Nat} {q : Program} {loose : List Str} {XP : (Str → Option Value) → Heap → Prop} {YP : World → Heap → Prop} {d : DefRec} {K : Params → PySem.W.Frag} {CX : World → CXT} {x : Str}
    (hn : l.most = some n) (hn2 : n ≤ sizeLine) (hdf : d.params.defaults = []) (hr : Room k callerA) (hY : ∀ (w : World) (h : Heap), YP w h → (K w.params).In h)
    (F : ∀ (w : World) (mg : Str → Option Value) (fa : Addr) (h : Heap), (K w.params).In h → h.Ns mainGlobals mg → mg d.name = some (.ref fa) → (∀ (y : Str) (c P : Addr), ((recsOf q).find? fun e => e.name == y).isSome = true → PySem.W.tabIn (K w.params) y = some (c, P) → PySem.W.CodeHd h c P ∧ h.get? P = some (PySem.W.tabObj #[])) → LamX.LawAtS l w (K w.params) (CX w) k n x mg fa h)
    (hCX : ∀ (w : World) (H : Hp) (s : Shared) (e : Value) (s' : Shared), CX w [] H s (fun _ _ _ => False) e s' → False) : PySem.W.WalkO q loose XP YP l.row.toRowW d [] (fun f vs => PySem.call f vs) := by
  refine Att.attach_callB hn hdf fun w s₀ s₁ mg mb fa o pm cd doc a vs ns G Y ho hd hcd hmg hobj hints hlen hbits hg => ?_
  have KX := hY w _ Y
  obtain ⟨fd, cs, sp, hT, nT, C, hb, hsp, hF⟩ := F w mg fa _ KX G.T.g hmg fun y c P hr ht => by
    obtain ⟨e, he⟩ := Option.isSome_iff_exists.mp hr
    exact PySem.W.tab_of G.T KX he ht
  exact LamX.law_callTs KX G.T.g G.T.b G.T.builtins G.T.nolimit hg hT nT C G.T.bmain hobj hints (Nat.le_trans hlen hn2) hr hF hb (fun H hH hS => hsp H a ns hlen hbits hH hS) fun H e s' => hCX w H s₁ e s'
end Hid

namespace Hid
open PySem PySem.Spec PyProof.Rows L2
section
variable {prog : Program} {w : World} {A : Around} {E : Value → Shared → Prop} {s : Shared}
/-- tuple(text): the code of tuple.__new__ -/
theorem tupStr_code {z : Str} {t : Tok} {Q₁ : Value → Shared → Prop} (hh : A.handled = none) (hl : z.cps.size ≤ 100000)
    (h : ∀ (h' : Heap) (tk : Nat) (acc : Array Value), (∀ b o, s.heap.get? b = some o → h'.get? b = some o) → ItemsOf (SignAt z) acc z.cps.size → Q₁ (.ref h'.objs.size) { s with heap := h'.push { cls := .type "tuple", data := .seq acc }, toks := tk }) :
    codeAny (model prog w) A (.call (.builtin "tuple.__new__") ⟨[.type "tuple", .str z t], []⟩) (wants Q₁ E) s := by
  have hsz : z.cps.size ≤ sizeLine := Nat.le_trans hl (by decide)
  refine codeAny_of_tree ?_
  show wpAny _ A.in1 (do checkBuiltinCall "tuple.__new__" ⟨[.type "tuple", .str z t], []⟩; again (.builtin "tuple.__new__" ⟨[.type "tuple", .str z t], []⟩)) _ _ s
  refine wpAny_bind (wpAny_of_eq (F.newCall_tuple_1 _) (wpAny_pure ⟨plainId_quiet F.plain_tuple_new _, codeAny_builtin F.entry_tuple_new ?_⟩))
  rw [Around.under_plainId F.plain_tuple_new _]
  have hsub := sub_tuple_self; have hinit := init_tuple_lookup; have hmh := madeHere_tuple
  have hTI : s.TypeIs (.str z t) "str" := typeIs_str _ _ _
  have hh1 : A.in1.handled = none := hh
  wp_walk using wpAny_typeOf hTI, wpAny_collect_str (A := A.in1) hh1 z t (hn := hsz)
  intro s' acc hk hg hd ho hacc
  obtain ⟨h', g', d', tk, o'⟩ := s'
  obtain rfl : g' = s.gens := hg
  obtain rfl : d' = s.drawn := hd
  obtain rfl : o' = s.os := ho
  show wpAny _ _ (Builtin.Tuple.tupleExact acc.toList.toArray >>= fun v => ret v) _ _ (⟨h', s.gens, s.drawn, tk, s.os⟩ : Shared)
  unfold Builtin.Tuple.tupleExact
  refine wpAny_bind (wpAny_newObj_type ?_ (by show acc.toList.toArray.size ≤ sizeLine; simp only [Array.toArray_toList]; rw [hacc.1]; exact hsz)) <;> refine wpAny_pure ?_
  rw [show acc.toList.toArray = acc by simp]
  exact h h' tk acc hk hacc
theorem tupStr {z : Str} {t : Tok} {Q : Value → Shared → Prop} (hh : A.handled = none) (hl : z.cps.size ≤ 100000)
    (hQ : ∀ (h' : Heap) (tk : Nat) (acc : Array Value), (∀ b o, s.heap.get? b = some o → h'.get? b = some o) → ItemsOf (SignAt z) acc z.cps.size → Q (.ref h'.objs.size) { s with heap := h'.push { cls := .type "tuple", data := .seq acc }, toks := tk }) :
    wpAny (model prog w) A (call (.type "tuple") [.str z t]) Q E s := by
  refine callType_codes (Q₁ := fun obj s₁ => s₁.TypeIs obj "tuple" ∧ Q obj s₁) F.called_tuple (F.typeCall_tuple_1 _) F.entry_object_init (tupStr_code (A := A.in1) hh hl fun h' tk acc hk hacc => ⟨⟨_, Heap.get?_push_size _ rfl, rfl⟩, hQ h' tk acc hk hacc⟩) fun obj s₁ h₁ => ?_
  exact ⟨h₁.1, F.args_object_init_2 obj _, object_init_meets F.called_tuple.init.lookup F.called_tuple.made (by decide) prog w A.in1 _ s₁ ⟨h₁.1, rfl, h₁.2⟩⟩
end
def signsV (z : Str) : List V := z.cps.toList.map fun c => V.str ⟨#[c]⟩
theorem cr_tupS {X : Cx} (hc : X.calm = true) : CallR X (.type "tuple") (fun vs H Q => ∃ z : Str, vs = [.str z] ∧ z.cps.size ≤ 100000 ∧ ∀ p, H p = none → Q (.ref p) (upd H p (.tup (signsV z)))) := by
  intro pins s σ H vs us Q I r h
  obtain ⟨z, rfl, hl, q⟩ := h
  obtain ⟨u, rfl, t, rfl⟩ := r.one
  refine tupStr (I.ok.hd hc) hl fun h' tk acc hk hacc => ?_
  have I2 : Inv X pins σ H { s with heap := h', toks := tk } := I.kept hk
  have rv : Vals (signsV z) acc.toList := by
    have e : signsV z = (List.range acc.toList.length).map fun i => V.str ⟨#[z.cps.toList.getD i 0]⟩ := by
      unfold signsV
      rw [Array.length_toList, hacc.1, ← Array.length_toList]
      conv => lhs; rw [← map_range_getD' z.cps.toList 0]
      rw [List.map_map]; rfl
    rw [e]
    refine vals_of_get acc.toList _ fun j u hj => ?_
    obtain ⟨c, t, hc, rfl⟩ := hacc.2 j u (by rw [← hj, Array.getElem?_toList])
    refine ⟨t, ?_⟩
    rw [List.getD_eq_getElem?_getD, Array.getElem?_toList, hc]; rfl
  have hlen : (signsV z).length ≤ sizeLine := by unfold signsV; rw [List.length_map, Array.length_toList]; exact Nat.le_trans hl (by decide)
  refine ⟨.ref h'.objs.size, upd H h'.objs.size (.tup (signsV z)), I2.laid (t' := tk) (o := .tup (signsV z)) (fun c o e => Heap.get?_push_of_some _ e) (Nat.le_refl _) ⟨hlen, acc.toList, rv, ?_⟩, rfl, q _ (I2.hok.fresh (Nat.le_refl _))⟩
  rw [Array.toArray_toList]; exact IsTup.new _ _
end Hid

namespace Hid
open PySem PySem.Spec PyProof.Rows L2 Evl
section
variable {J : It} {n : Nat} {Gd : Hp → Prop} {Y : Nat → Hp → V → Hp → Prop}
/-- all, any over a walk: Pv by the turn and the heap -/
theorem gx_it (w : Walk J n Gd Y) {cont : Bool} {g : TG} {te : TE} {vs : List Nat} {σ : L2.St} {H1 : Hp} {Q : VK} (Pv : Nat → Hp → Prop) (h0 : Pv 0 H1) (hG : ∀ i H, i ≤ n → Pv i H → Gd H)
    (hs : ∀ i x H H', i < n → Pv i H → Y i H x H' → g x (wipe σ vs) H' fun σ2 H2 => wipe σ2 vs = wipe σ vs ∧ te σ2 H2 fun y H3 => ∃ b, y = .bl b ∧ (b = cont → Pv (i + 1) H3) ∧ (b ≠ cont → Q (.bl (!cont)) H3)) (hd : ∀ H, Pv n H → Q (.bl cont) H) :
    ∃ W : Nat → Nat → Hp → Prop, (∃ m, W 0 m H1) ∧ ∀ i m H, W i m H → (J.stop i H ∧ Q (.bl cont) H) ∨ (J.go i H ∧ ∃ Nx : Hp → Prop, (∀ H', Nx H' → ∃ m', m' < m ∧ W (i + 1) m' H') ∧
      ∀ x H', J.yld i H x H' → g x (wipe σ vs) H' fun σ2 H2 => wipe σ2 vs = wipe σ vs ∧ te σ2 H2 fun y H3 => ∃ b, y = .bl b ∧ (b = cont → Nx H3) ∧ (b ≠ cont → Q (.bl (!cont)) H3)) := by
  refine ⟨fun i m H => m = n - i ∧ i ≤ n ∧ Pv i H, ⟨n, by simp, Nat.zero_le _, h0⟩, fun i m H hw => ?_⟩
  obtain ⟨rfl, hi, p⟩ := hw
  rcases Nat.lt_or_ge i n with hlt | hge
  · exact .inr ⟨w.goes i H hlt (hG i H hi p), Pv (i + 1), fun H' p' => ⟨n - (i + 1), by omega, rfl, hlt, p'⟩, fun x H' y => hs i x H H' hlt p (w.yields i H x H' hlt (hG i H hi p) y)⟩
  · obtain rfl : i = n := by omega
    exact .inl ⟨w.stops H (hG i H hi p), hd H p⟩
end
theorem of_not {b : Bool} (h : (!b) = true) : b = false := by cases b; rfl; cases h
theorem of_not' {b : Bool} (h : (!b) = false) : b = true := by cases b; cases h; rfl
/-! things of any kind: a text, or no text -/
def NotS (K : PySem.W.Frag) (H : Hp) (v : V) : Prop := ∃ t, kitB t "str" = some false ∧ ∀ H1, Ex H H1 → TyX K H1 v (.type t)
theorem NotS.ex {K : PySem.W.Frag} {H H' : Hp} {v : V} (h : NotS K H v) (e : Ex H H') : NotS K H' v := let ⟨t, a, b⟩ := h; ⟨t, a, fun H1 e1 => b H1 (e.trans e1)⟩
def Th (K : PySem.W.Frag) (H : Hp) (v : V) : Option (List Nat) → Prop
  | some z => v = .str (tx z) ∧ z.length ≤ 1000
  | none => NotS K H v
theorem Th.ex {K : PySem.W.Frag} {H H' : Hp} {v : V} : ∀ {o : Option (List Nat)}, Th K H v o → Ex H H' → Th K H' v o
  | some _, h, _ => h
  | none, h, e => NotS.ex h e
theorem th_str {K : PySem.W.Frag} {H : Hp} (z : List Nat) (h : z.length ≤ 1000) : Th K H (.str (tx z)) (some z) := ⟨rfl, h⟩
theorem th_non {K : PySem.W.Frag} {H : Hp} : Th K H .non none := ⟨"NoneType", by decide +kernel, fun _ _ => .base .non⟩
theorem th_bl {K : PySem.W.Frag} {H : Hp} (b : Bool) : Th K H (.bl b) none := ⟨"bool", by decide +kernel, fun _ _ => .base (.bl b)⟩
theorem th_int {K : PySem.W.Frag} {H : Hp} (i : Int) : Th K H (.int i) none := ⟨"int", by decide +kernel, fun _ _ => .base (.int i)⟩
theorem th_tup {K : PySem.W.Frag} {H : Hp} {a : Addr} {xs : List V} (h : H a = some (.tup xs)) : Th K H (.ref a) none := ⟨"tuple", by decide +kernel, fun _ e => .base (.tup (e _ _ h))⟩
theorem th_lst {K : PySem.W.Frag} {H : Hp} {a : Addr} {xs : List V} (h : H a = some (.lst xs)) : Th K H (.ref a) none := ⟨"list", by decide +kernel, fun _ e => .base (.lst (e _ _ h))⟩
theorem th_dict {K : PySem.W.Frag} {H : Hp} {a : Addr} {xs : List (Key × V)} (h : H a = some (.dK xs)) : Th K H (.ref a) none := ⟨"dict", by decide +kernel, fun _ e => .base (.dK (e _ _ h))⟩
section
variable {K : PySem.W.Frag} {σ : L2.St} {H : Hp} {ta : TE}
theorem ev_isS {v : V} {o : Option (List Nat)} (ha : Ev ta σ H v) (h : Th K H v o) : Ev (tCB (rIsi K) (tCons ta (tCons (tC (.ty "str")) tNil))) σ H (.bl o.isSome) := by
  cases o with
  | none => obtain ⟨t, hk, ht⟩ := h; exact ev_isi ha ht hk
  | some z => obtain ⟨rfl, _⟩ := h; exact ev_isi (b := true) ha (fun _ _ => .base (.str _)) (by decide +kernel)
end
/-! what is a text of one to eight of these signs; what fits a row -/
def wr (o : Option (List Nat)) (g : List Nat) : Bool := match o with
  | none => false
  | some z => decide (1 ≤ z.length ∧ z.length ≤ 8) && z.all fun c => decide (c ∈ g)
def lt1 (c d : Nat) : Bool := decide (c = 98) || decide (c = d)
def fitsO (r : List Nat) (o : Option (List Nat)) : Bool := match o with
  | none => false
  | some z => decide (z.length = r.length) && (z.all fun c => decide (c ∈ [110, 121])) && (List.zipWith lt1 r z).all id
def otherO (r : List Nat) (o : Option (List Nat)) : V := match o with
  | none => .non
  | some z => if fitsO r (some z) = true then .str (tx (turned r z)) else .non
theorem otherO_no {r : List Nat} {o : Option (List Nat)} (h : fitsO r o = false) : otherO r o = .non := by
  cases o with
  | none => rfl
  | some z => show (if fitsO r (some z) = true then V.str (tx (turned r z)) else V.non) = V.non; rw [h]; rfl
theorem otherO_yes {r z : List Nat} (h : fitsO r (some z) = true) : otherO r (some z) = .str (tx (turned r z)) := by
  show (if fitsO r (some z) = true then V.str (tx (turned r z)) else V.non) = _; rw [if_pos h]
theorem row_wr {r : List Nat} (h : RowL r) : wr (some r) [110, 98, 121] = true := by
  unfold wr
  rw [Bool.and_eq_true]
  refine ⟨decide_eq_true h.1, List.all_eq_true.mpr fun c hc => decide_eq_true ?_⟩
  rcases h.2 c hc with z | z | z <;> rw [z] <;> simp
/-- fits, step by step -/
theorem fits_step {r : List Nat} (hr : RowL r) (o : Option (List Nat)) : fitsO r o = (wr o [110, 121] && match o with | none => false | some z => decide (r.length = z.length) && (List.zipWith lt1 r z).all id) := by
  cases o with
  | none => rfl
  | some z =>
    show ((decide (z.length = r.length) && z.all fun c => decide (c ∈ [110, 121])) && (List.zipWith lt1 r z).all id) = ((decide (1 ≤ z.length ∧ z.length ≤ 8) && z.all fun c => decide (c ∈ [110, 121])) && (decide (r.length = z.length) && (List.zipWith lt1 r z).all id))
    by_cases h : z.length = r.length
    · have h1 : 1 ≤ z.length ∧ z.length ≤ 8 := by have := hr.1; omega
      simp only [decide_eq_true h, decide_eq_true h1, decide_eq_true h.symm, Bool.true_and]
    · have h' : ¬ r.length = z.length := fun q => h q.symm
      simp only [decide_eq_false h, decide_eq_false h', Bool.false_and, Bool.and_false]
end Hid

namespace Hid
open PySem PySem.Spec PyProof.Rows L2
/-! the greater, the lesser of two texts -/
theorem two_at {a b : Str} {t u : Tok} : ∀ (i : Nat) (v : Value), (#[Value.str a t, .str b u] : Array Value)[i]? = some v → ∃ t', v = .str (if i = 0 then a else b) t'
  | 0, v, h => ⟨t, by simpa using h.symm⟩
  | 1, v, h => ⟨u, by simpa using h.symm⟩
  | n + 2, v, h => by simp at h
section
variable {prog : Program} {w : World} {A : Around} {E : Value → Shared → Prop} {s : Shared}
theorem far {h : Heap} {c : Addr} {o : Obj} (e : h.get? c = some o) (z : c = h.objs.size + 1) : False := by
  have q := Heap.lt_size e
  rw [z] at q
  exact Nat.lt_irrefl _ (Nat.lt_of_succ_lt q)
theorem strs_gt {P : Nat → Value → Prop} (val : Nat → Str) (hval : ∀ i v, P i v → ∃ t, v = .str (val i) t) : CmpOf prog w A .Gt P (fun i j => decide ((val j).cps.toList < (val i).cps.toList)) := fun i j vi vj s Q E hi hj h => by
  obtain ⟨t, rfl⟩ := hval i vi hi; obtain ⟨u, rfl⟩ := hval j vj hj
  exact PySem.P.gt_str h
theorem strs_lt {P : Nat → Value → Prop} (val : Nat → Str) (hval : ∀ i v, P i v → ∃ t, v = .str (val i) t) : CmpOf prog w A .Lt P (fun i j => decide ((val i).cps.toList < (val j).cps.toList)) := fun i j vi vj s Q E hi hj h => by
  obtain ⟨t, rfl⟩ := hval i vi hi; obtain ⟨u, rfl⟩ := hval j vj hj
  exact lt_str h
theorem max2S {a b : Str} {t u : Tok} {Q : Value → Shared → Prop} (hh : A.handled = none) (h : ∀ h' tk, (∀ c o, s.heap.get? c = some o → h'.get? c = some o) → Q (if a.cps.toList < b.cps.toList then .str b u else .str a t) { s with heap := h', toks := tk }) :
    wpAny (model prog w) A (call (.builtin "max") [.str a t, .str b u]) Q E s := by
  have hT : (s.heap.push { cls := .type "tuple", data := .seq #[.str a t, .str b u] }).IsTuple s.heap.objs.size #[.str a t, .str b u] := ⟨_, Heap.get?_push_size _ rfl, rfl, 0, rfl⟩
  have hsz : (s.heap.push { cls := .type "tuple", data := .seq #[.str a t, .str b u] }).objs.size = s.heap.objs.size + 1 := Heap.size_push ..
  refine call_max_two (wpAny_pyIter_tuple hT ⟨_, [_, s.heap.objs.size], [_], _, _, _, _, rfl, Walks.tuple (A := A.in1) hh _ s.heap.objs.size (by rw [hsz]; exact Nat.ne_of_lt (Nat.lt_succ_self _)) #[.str a t, .str b u], ⟨⟨_, Heap.get?_push_size _ rfl, rfl, rfl⟩, hT.push _⟩, fun c hc => ?_, (by show 0 < 2; decide), strs_gt (fun i => if i = 0 then a else b) two_at, fun v h' tk hP hk => ?_⟩)
  · show c < ((s.heap.push _).push _).objs.size
    rw [Heap.size_push, hsz]
    have hc' : c = s.heap.objs.size + 1 ∨ c = s.heap.objs.size := by simpa [hsz] using hc
    rcases hc' with z | z <;> rw [z]
    · exact Nat.lt_succ_self _
    · exact Nat.lt_succ_of_lt (Nat.lt_succ_self _)
  · have hold : ∀ c o, s.heap.get? c = some o → h'.get? c = some o := fun c o e => hk c o (fun hm => far e (by simpa [hsz] using hm)) (Heap.get?_push_of_some _ (Heap.get?_push_of_some _ e))
    have hq := h h' tk hold
    have hP' : (#[Value.str a t, .str b u] : Array Value)[argBest (fun i j => decide ((if j = 0 then a else b).cps.toList < (if i = 0 then a else b).cps.toList)) 1]? = some v := hP
    by_cases hba : a.cps.toList < b.cps.toList
    · rw [if_pos hba] at hq
      have e : v = .str b u := by simpa [argBest, hba] using hP'.symm
      rw [e]; exact hq
    · rw [if_neg hba] at hq
      have e : v = .str a t := by simpa [argBest, hba] using hP'.symm
      rw [e]; exact hq
theorem min2S {a b : Str} {t u : Tok} {Q : Value → Shared → Prop} (hh : A.handled = none) (h : ∀ h' tk, (∀ c o, s.heap.get? c = some o → h'.get? c = some o) → Q (if b.cps.toList < a.cps.toList then .str b u else .str a t) { s with heap := h', toks := tk }) :
    wpAny (model prog w) A (call (.builtin "min") [.str a t, .str b u]) Q E s := by
  have hT : (s.heap.push { cls := .type "tuple", data := .seq #[.str a t, .str b u] }).IsTuple s.heap.objs.size #[.str a t, .str b u] := ⟨_, Heap.get?_push_size _ rfl, rfl, 0, rfl⟩
  have hsz : (s.heap.push { cls := .type "tuple", data := .seq #[.str a t, .str b u] }).objs.size = s.heap.objs.size + 1 := Heap.size_push ..
  refine call_min_two (wpAny_pyIter_tuple hT ⟨_, [_, s.heap.objs.size], [_], _, _, _, _, rfl, Walks.tuple (A := A.in1) hh _ s.heap.objs.size (by rw [hsz]; exact Nat.ne_of_lt (Nat.lt_succ_self _)) #[.str a t, .str b u], ⟨⟨_, Heap.get?_push_size _ rfl, rfl, rfl⟩, hT.push _⟩, fun c hc => ?_, (by show 0 < 2; decide), strs_lt (fun i => if i = 0 then a else b) two_at, fun v h' tk hP hk => ?_⟩)
  · show c < ((s.heap.push _).push _).objs.size
    rw [Heap.size_push, hsz]
    have hc' : c = s.heap.objs.size + 1 ∨ c = s.heap.objs.size := by simpa [hsz] using hc
    rcases hc' with z | z <;> rw [z]
    · exact Nat.lt_succ_self _
    · exact Nat.lt_succ_of_lt (Nat.lt_succ_self _)
  · have hold : ∀ c o, s.heap.get? c = some o → h'.get? c = some o := fun c o e => hk c o (fun hm => far e (by simpa [hsz] using hm)) (Heap.get?_push_of_some _ (Heap.get?_push_of_some _ e))
    have hq := h h' tk hold
    have hP' : (#[Value.str a t, .str b u] : Array Value)[argBest (fun i j => decide ((if i = 0 then a else b).cps.toList < (if j = 0 then a else b).cps.toList)) 1]? = some v := hP
    by_cases hba : b.cps.toList < a.cps.toList
    · rw [if_pos hba] at hq
      have e : v = .str b u := by simpa [argBest, hba] using hP'.symm
      rw [e]; exact hq
    · rw [if_neg hba] at hq
      have e : v = .str a t := by simpa [argBest, hba] using hP'.symm
      rw [e]; exact hq
end
section
variable {X : Cx}
def rMaxS : List V → Hp → VK → Prop := fun xs H Q => ∃ a b, xs = [.str a, .str b] ∧ Q (.str (if a.cps.toList < b.cps.toList then b else a)) H
def rMinS : List V → Hp → VK → Prop := fun xs H Q => ∃ a b, xs = [.str a, .str b] ∧ Q (.str (if b.cps.toList < a.cps.toList then b else a)) H
theorem call_max2S (hc : X.calm = true) : CallR X (.builtin "max") rMaxS := by
  intro pins s σ H xs us Q I r h
  obtain ⟨a, b, rfl, q⟩ := h
  obtain ⟨u, w', rfl, ⟨t, rfl⟩, ⟨t', rfl⟩⟩ := vals2 r
  refine max2S (I.ok.hd hc) fun h' tk k => ⟨_, H, I.kept k, ?_, q⟩
  split <;> exact ⟨_, rfl⟩
theorem call_min2S (hc : X.calm = true) : CallR X (.builtin "min") rMinS := by
  intro pins s σ H xs us Q I r h
  obtain ⟨a, b, rfl, q⟩ := h
  obtain ⟨u, w', rfl, ⟨t, rfl⟩, ⟨t', rfl⟩⟩ := vals2 r
  refine min2S (I.ok.hd hc) fun h' tk k => ⟨_, H, I.kept k, ?_, q⟩
  split <;> exact ⟨_, rfl⟩
/-! a pair of texts in a list of such -/
def pT (p : List Nat × List Nat) : List V := [.str (tx p.1), .str (tx p.2)]
def rInP (K : PySem.W.Frag) (neg : Bool) : R2 := fun x y H Q => ∃ (p t0 : Addr) (vs : List V) (ps : List (List Nat × List Nat)) (p0 : List Nat × List Nat), x = .ref t0 ∧ y = .ref p ∧ H t0 = some (.tup (pT p0)) ∧ SqL K H p vs ∧ Prs K H vs ps ∧ Q (.bl (if neg then !decide (p0 ∈ ps) else decide (p0 ∈ ps))) H
noncomputable def eP (H : Hp) (p0 : List Nat × List Nat) (u : Value) : Bool := match u with
  | .ref t => @decide (H t = some (.tup (pT p0))) (Classical.propDecidable _)
  | _ => false
theorem pT_inj {p q : List Nat × List Nat} (h : pT p = pT q) : p = q := by
  unfold pT at h
  injection h with h1 h2
  injection h2 with h2 _
  exact Prod.ext (tx_inj (V.str.inj h1)) (tx_inj (V.str.inj h2))
theorem eP_ref {H : Hp} {p p0 : List Nat × List Nat} {t : Addr} (c : H t = some (.tup (pT p))) : eP H p0 (.ref t) = decide (p = p0) := by
  show @decide (H t = some (.tup (pT p0))) (Classical.propDecidable _) = _
  by_cases h : p = p0
  · rw [decide_eq_true h]
    exact @decide_eq_true _ (Classical.propDecidable _) (by rw [c, h])
  · rw [decide_eq_false h]
    refine @decide_eq_false _ (Classical.propDecidable _) fun z => ?_
    rw [c] at z
    injection z with z
    injection z with z
    exact h (pT_inj z)
theorem any_eP {K : PySem.W.Frag} {H : Hp} {p0 : List Nat × List Nat} : ∀ {vs : List V} {its : List Value} {ps : List (List Nat × List Nat)}, Vals vs its → Prs K H vs ps → its.any (eP H p0) = decide (p0 ∈ ps)
  | _, _, _, .nil, .nil => by simp
  | _, _, _, .cons r rs, .cons (b := p) ⟨t, ht, c⟩ ps => by
    subst ht
    cases r
    rw [List.any_cons, any_eP rs ps]
    rw [eP_ref (p := p) c]
    by_cases h : p = p0
    · simp [h]
    · have h' : ¬ p0 = p := fun z => h z.symm
      simp [h, h']
theorem each_eP {pins : List (Addr × Obj)} {s : Shared} {σ : L2.St} {H : Hp} (I : Inv X pins σ H s) (hu : X.A.units + 64 < cLine) {t0 : Addr} {p0 : List Nat × List Nat} (h0 : H t0 = some (.tup (pT p0))) : ∀ {vs : List V} {its : List Value} {ps : List (List Nat × List Nat)}, Vals vs its → Prs X.K H vs ps → ∀ u ∈ its, SeqAt.EqAt X.A.in1 s u (.ref t0) (eP H p0 u)
  | _, _, _, .nil, .nil => fun u hu => by cases hu
  | _, _, _, .cons r rs, .cons (b := p) q ps => fun u' hu' => by
    rcases List.mem_cons.mp hu' with z | z
    · subst z
      obtain ⟨t, ht, c⟩ := id q
      subst ht
      cases r
      obtain ⟨as, r1⟩ := Dp.reads I (dSS p) _ _ q.dp rfl
      obtain ⟨bs, r2⟩ := Dp.reads I (dSS p0) (.ref t0) (.ref t0) (PrT.dp (p := p0) ⟨t0, rfl, h0⟩) rfl
      have key := PySem.W.eqAt_alike (dSS p) (dSS p0) X.A.in1 s _ _ as bs r1 r2 (by simp [dSS, PySem.W.alike, PySem.W.alikeAll]) (by
        have : (dSS p).depth ≤ 8 := by simp [dSS, PyData.depth, PyData.depthAll]
        show X.A.units + 1 + min (dSS p).depth (dSS p0).depth < cLine
        omega)
      have e : PyData.eqv (dSS p) (dSS p0) = eP H p0 (.ref t) := by
        rw [eP_ref (p := p) c]
        by_cases h : p = p0
        · subst h
          rw [PySem.W.eqv_refl_alike _ (by simp [dSS, PySem.W.alike, PySem.W.alikeAll]), decide_eq_true rfl]
        · rw [decide_eq_false h]
          have : ¬ (tx p.1 = tx p0.1 ∧ tx p.2 = tx p0.2) := fun ⟨a, b⟩ => h (Prod.ext (tx_inj a) (tx_inj b))
          simpa [dSS, PyData.eqv, PyData.eqvAll] using this
      rw [← e]
      exact key
    · exact each_eP I hu h0 rs ps u' z
theorem op_niP (hu : X.A.units + 64 < cLine) : OpR X (compareOp .NotIn) (rInP X.K true) := by
  intro pins s σ H x y v u Q I rx ry h
  obtain ⟨p, t0, vs, ps, p0, rfl, rfl, h0, hq, hp, q⟩ := h
  cases ry; cases rx
  obtain ⟨its, r, pl, hz⟩ := I.list hq
  refine SeqAt.notIn_listAt (eP H p0) pl.isList (fun w hw => each_eP I hu h0 r hp w (by simpa using hw)) ⟨.bl _, H, I, rfl, ?_⟩
  rw [show its.toArray.any (eP H p0) = its.any (eP H p0) by simp, any_eP r hp]; exact q
theorem op_inP (hu : X.A.units + 64 < cLine) : OpR X (compareOp .In) (rInP X.K false) := by
  intro pins s σ H x y v u Q I rx ry h
  obtain ⟨p, t0, vs, ps, p0, rfl, rfl, h0, hq, hp, q⟩ := h
  cases ry; cases rx
  obtain ⟨its, r, pl, hz⟩ := I.list hq
  refine SeqAt.in_listAt (eP H p0) pl.isList (fun w hw => each_eP I hu h0 r hp w (by simpa using hw)) ⟨.bl _, H, I, rfl, ?_⟩
  rw [show its.toArray.any (eP H p0) = its.any (eP H p0) by simp, any_eP r hp]; exact q
/-! sorted of a list of texts, of any length -/
def rSortLS (K : PySem.W.Frag) : List V → Hp → VK → Prop := fun vs H Q => ∃ (a : Addr) (xs : List Str), vs = [.ref a] ∧ SqL K H a (xs.map V.str) ∧ ∀ p, H p = none → Q (.ref p) (upd H p (.lst ((srt xs).map V.str)))
theorem paired_strs : ∀ xs : List Str, Paired (fun (v : V) (z : Str) => v = .str z) (xs.map V.str) xs
  | [] => .nil
  | x :: xs => .cons rfl (paired_strs xs)
theorem paired_strs' : ∀ {ys : List V} {xs : List Str}, Paired (fun (v : V) (z : Str) => v = .str z) ys xs → ys = xs.map V.str
  | _, _, .nil => rfl
  | _, _, .cons e t => by rw [paired_strs' t, e]; rfl
theorem cr_sortLS (hu : X.A.units + 64 < cLine) : CallR X (.builtin "sorted") (rSortLS X.K) := by
  intro pins s σ H vs us Q I r h
  obtain ⟨a, xs, rfl, hs, q⟩ := h
  refine cr_sortD (enc := fun k : Str => PyData.str k) hu pins s σ H _ us Q I r ⟨a, _, xs, fun v z => v = .str z, rfl, hs, paired_strs xs, fun v b e => by rw [e]; exact .str _, PySem.W.AllAlike.of fun _ _ => by simp [PySem.W.alike], PySem.W.Sortable.others fun _ => ⟨by simp, by simp⟩, fun b _ => by simp [PyData.depth], fun ys p hp hn => ?_⟩
  rw [PySem.W.dataLe_str (β := Str) (fun k => k)] at hp
  rw [paired_strs' hp]
  exact q p hn
end
end Hid

namespace Hid
open PySem PySem.Spec PyProof.Rows L2 Evl
/-! half-rows that fit a row, and its partings -/
abbrev Fit (r h : List Nat) : Prop := fitsO r (some h) = true
theorem fit_snoc (r h : List Nat) (c d : Nat) : fitsO (r ++ [c]) (some (h ++ [d])) = (fitsO r (some h) && (decide (d ∈ [110, 121]) && lt1 c d)) := by
  show ((decide ((h ++ [d]).length = (r ++ [c]).length) && ((h ++ [d]).all fun c => decide (c ∈ [110, 121]))) && (List.zipWith lt1 (r ++ [c]) (h ++ [d])).all id) = (((decide (h.length = r.length) && h.all fun c => decide (c ∈ [110, 121])) && (List.zipWith lt1 r h).all id) && (decide (d ∈ [110, 121]) && lt1 c d))
  by_cases hl : h.length = r.length
  · have e : (h ++ [d]).length = (r ++ [c]).length := by simp [hl]
    rw [List.zipWith_append hl.symm, List.all_append, List.all_append, decide_eq_true e, decide_eq_true hl]
    have e1 : ([d].all fun c => decide (c ∈ [110, 121])) = decide (d ∈ [110, 121]) := Bool.and_true _
    have e2 : (List.zipWith lt1 [c] [d]).all id = lt1 c d := Bool.and_true _
    rw [e1, e2]
    ac_rfl
  · have e : ¬ (h ++ [d]).length = (r ++ [c]).length := by simp [hl]
    rw [decide_eq_false e, decide_eq_false hl]
    simp only [Bool.false_and]
theorem fit_len {r h : List Nat} (f : Fit r h) : h.length = r.length ∧ ∀ c ∈ h, c = 110 ∨ c = 121 := by
  have h1 : (decide (h.length = r.length) && (h.all fun c => decide (c ∈ [110, 121])) && (List.zipWith lt1 r h).all id) = true := f
  rw [Bool.and_eq_true, Bool.and_eq_true] at h1
  refine ⟨of_decide_eq_true h1.1.1, fun c hc => ?_⟩
  have := List.all_eq_true.mp h1.1.2 c hc
  simpa using this
theorem sgn_or (k : Nat) : sgn k = 110 ∨ sgn k = 121 := by
  unfold sgn; split <;> simp
theorem tw_or (k : Nat) : tw 98 (sgn k) = 110 ∨ tw 98 (sgn k) = 121 := by
  rcases sgn_or k with h | h <;> rw [h] <;> decide
abbrev NBY (r : List Nat) : Prop := ∀ c ∈ r, c = 110 ∨ c = 98 ∨ c = 121
theorem last_of {n : Nat} {r : List Nat} (h : r.length = n + 1) : ∃ q c, r = q ++ [c] ∧ q.length = n := by
  have hne : r ≠ [] := fun z => by rw [z] at h; cases h
  exact ⟨r.dropLast, r.getLast hne, (List.dropLast_concat_getLast hne).symm, by rw [List.length_dropLast]; omega⟩
theorem fit_part : ∀ (n : Nat) (r : List Nat), r.length = n → NBY r → ∀ h : List Nat, Fit r h ↔ ∃ k, k < many r ∧ (h = (part r k).1 ∨ h = (part r k).2) := by
  intro n
  induction n with
  | zero =>
    intro r hn _ h
    have : r = [] := List.length_eq_zero_iff.mp hn
    subst this
    constructor
    · intro f
      exact ⟨0, by decide, .inl (List.length_eq_zero_iff.mp (fit_len f).1)⟩
    · rintro ⟨k, _, e | e⟩ <;> subst e <;> rfl
  | succ n ih =>
    intro r hn hr h
    obtain ⟨q, c, rfl, hq⟩ := last_of hn
    have hc := hr c (by simp)
    have ihq := ih q hq fun c hc => hr c (List.mem_append_left _ hc)
    constructor
    · intro f
      obtain ⟨fl, fc⟩ := fit_len f
      obtain ⟨g, d, rfl, _⟩ := last_of (fl.trans hn)
      have f' : fitsO (q ++ [c]) (some (g ++ [d])) = true := f
      rw [fit_snoc, Bool.and_eq_true, Bool.and_eq_true] at f'
      obtain ⟨f1, f2, f3⟩ := f'
      have hd : d = 110 ∨ d = 121 := fc d (by simp)
      obtain ⟨k, hk, hg⟩ := (ihq g).mp f1
      by_cases h98 : c = 98
      · subst h98
        by_cases h0 : q.count 98 = 0
        · have hm : many q = 1 := by unfold many; rw [h0]
          have k0 : k = 0 := by omega
          subst k0
          refine ⟨0, by rw [many_snoc, if_neg (fun h => h.2 h0)]; omega, ?_⟩
          rw [part_b]
          show g ++ [d] = (part q 0).1 ++ [110] ∨ g ++ [d] = (part q 0).2 ++ [121]
          rw [part_no_b q 0 h0] at hg ⊢
          have hg' : g = q := hg.elim id id
          rw [hg']
          rcases hd with e | e <;> rw [e]
          · exact .inl rfl
          · exact .inr rfl
        · have hm : many (q ++ [98]) = 2 * many q := by rw [many_snoc, if_pos ⟨rfl, h0⟩]
          have e0 : 2 * k / 2 = k := by omega
          have e1 : (2 * k + 1) / 2 = k := by omega
          rcases hg with e | e <;> rcases hd with e2 | e2
          · refine ⟨2 * k, by omega, .inl ?_⟩
            rw [part_b, e, e2, e0, (sgn_two k).1]
          · refine ⟨2 * k + 1, by omega, .inl ?_⟩
            rw [part_b, e, e2, e1, (sgn_two k).2]
          · refine ⟨2 * k + 1, by omega, .inr ?_⟩
            rw [part_b, e, e2, e1, (sgn_two k).2, tw_b.2]
          · refine ⟨2 * k, by omega, .inr ?_⟩
            rw [part_b, e, e2, e0, (sgn_two k).1, tw_b.1]
      · have hcd : c = d := by
          unfold lt1 at f3
          rw [decide_eq_false h98, Bool.false_or] at f3
          exact of_decide_eq_true f3
        refine ⟨k, by rw [many_snoc, if_neg (fun h => h98 h.1)]; exact hk, ?_⟩
        rw [part_o _ _ _ h98, ← hcd]
        rcases hg with e | e <;> rw [e]
        · exact .inl rfl
        · exact .inr rfl
    · rintro ⟨k, hk, e⟩
      by_cases h98 : c = 98
      · subst h98
        have hk2 : k / 2 < many q := by
          rw [many_snoc] at hk
          by_cases h0 : q.count 98 = 0
          · rw [if_neg (fun h => h.2 h0)] at hk; omega
          · rw [if_pos ⟨rfl, h0⟩] at hk; omega
        rw [part_b] at e
        rcases e with e | e <;> rw [e]
        · show fitsO _ _ = true
          rw [fit_snoc, show fitsO q (some (part q (k / 2)).1) = true from (ihq _).mpr ⟨k / 2, hk2, .inl rfl⟩]
          rcases sgn_or k with z | z <;> rw [z] <;> rfl
        · show fitsO _ _ = true
          rw [fit_snoc, show fitsO q (some (part q (k / 2)).2) = true from (ihq _).mpr ⟨k / 2, hk2, .inr rfl⟩]
          rcases tw_or k with z | z <;> rw [z] <;> rfl
      · have hc2 : c = 110 ∨ c = 121 := by
          rcases hc with z | z | z
          · exact .inl z
          · exact absurd z h98
          · exact .inr z
        rw [many_snoc, if_neg (fun h => h98 h.1)] at hk
        rw [part_o _ _ _ h98] at e
        rcases e with e | e <;> rw [e]
        · show fitsO _ _ = true
          rw [fit_snoc, show fitsO q (some (part q k).1) = true from (ihq _).mpr ⟨k, hk, .inl rfl⟩]
          rcases hc2 with z | z <;> rw [z] <;> rfl
        · show fitsO _ _ = true
          rw [fit_snoc, show fitsO q (some (part q k).2) = true from (ihq _).mpr ⟨k, hk, .inr rfl⟩]
          rcases hc2 with z | z <;> rw [z] <;> rfl
/-! the number read off the lesser half -/
def numB (r h : List Nat) : Nat := (r.zip h).foldl (fun n p => if p.1 = 98 then 2 * n + (if p.2 = 121 then 1 else 0) else n) 0
theorem numB_snoc (r h : List Nat) (c d : Nat) (e : h.length = r.length) : numB (r ++ [c]) (h ++ [d]) = if c = 98 then 2 * numB r h + (if d = 121 then 1 else 0) else numB r h := by
  unfold numB
  rw [List.zip_append e.symm, List.foldl_append]
  rfl
theorem numB_part : ∀ (n : Nat) (r : List Nat), r.length = n → ∀ k, k < 2 ^ r.count 98 → numB r (part r k).1 = k := by
  intro n
  induction n with
  | zero =>
    intro r hn k hk
    have : r = [] := List.length_eq_zero_iff.mp hn
    subst this
    have k0 : k = 0 := by simpa using hk
    subst k0
    rfl
  | succ n ih =>
    intro r hn k hk
    obtain ⟨q, c, rfl, hq⟩ := last_of hn
    by_cases h98 : c = 98
    · subst h98
      rw [part_b]
      show numB (q ++ [98]) ((part q (k / 2)).1 ++ [sgn k]) = k
      rw [List.count_append, show List.count 98 [98] = 1 from rfl, Nat.pow_succ] at hk
      rw [numB_snoc _ _ _ _ (show (part q (k / 2)).1.length = q.length from lesser_len _ _), if_pos rfl, ih q hq (k / 2) (by omega)]
      unfold sgn
      by_cases h2 : k % 2 = 0
      · rw [if_pos h2, if_neg (by decide)]; omega
      · rw [if_neg h2, if_pos rfl]; omega
    · have h0 : List.count 98 [c] = 0 := List.count_eq_zero.mpr (by simpa using fun z => h98 z.symm)
      rw [List.count_append, h0] at hk
      rw [part_o _ _ _ h98]
      show numB (q ++ [c]) ((part q k).1 ++ [c]) = k
      rw [numB_snoc _ _ _ _ (show (part q k).1.length = q.length from lesser_len _ _), if_neg h98]
      exact ih q hq k hk
theorem many_le (r : List Nat) : many r ≤ 2 ^ r.count 98 := Nat.pow_le_pow_right (by decide) (by omega)
theorem turned_back : ∀ (r h : List Nat), h.length = r.length → (∀ c ∈ h, c = 110 ∨ c = 121) → turned r (turned r h) = h
  | [], [], _, _ => rfl
  | [], _ :: _, e, _ => nomatch e
  | _ :: _, [], e, _ => nomatch e
  | c :: r, d :: h, e, hc => by
    show tw c (tw c d) :: turned r (turned r h) = d :: h
    rw [turned_back r h (by simpa using e) fun x hx => hc x (List.mem_cons_of_mem _ hx)]
    congr 1
    by_cases h98 : c = 98 <;> rcases hc d List.mem_cons_self with z | z <;> simp [tw, h98, z]
theorem fit_of {r : List Nat} (hr : NBY r) {h : List Nat} : Fit r h ↔ ∃ k, k < many r ∧ (h = (part r k).1 ∨ h = (part r k).2) := fit_part _ r rfl hr h
theorem part_back {r : List Nat} (hr : NBY r) {k : Nat} (hk : k < many r) : turned r (part r k).2 = (part r k).1 := by
  obtain ⟨h1, h2⟩ := fit_len ((fit_of hr).mpr ⟨k, hk, .inl rfl⟩)
  exact turned_back r _ h1 h2
theorem fit_turned {r h : List Nat} (hr : NBY r) (f : Fit r h) : Fit r (turned r h) ∧ turned r (turned r h) = h := by
  obtain ⟨h1, h2⟩ := fit_len f
  refine ⟨?_, turned_back r h h1 h2⟩
  obtain ⟨k, hk, e | e⟩ := (fit_of hr).mp f
  · exact (fit_of hr).mpr ⟨k, hk, .inr (by rw [e]; rfl)⟩
  · exact (fit_of hr).mpr ⟨k, hk, .inl (by rw [e, part_back hr hk])⟩
theorem part_lt : ∀ (n : Nat) (r : List Nat), r.length = n → 98 ∈ r → ∀ k l, k < many r → l < many r → (part r k).1 < (part r l).2 := by
  intro n
  induction n with
  | zero =>
    intro r hn h
    have : r = [] := List.length_eq_zero_iff.mp hn
    subst this
    cases h
  | succ n ih =>
    intro r hn hm k l hk hl
    obtain ⟨q, c, rfl, hq⟩ := last_of hn
    have ln : ∀ i j, (part q i).1.length = (part q j).2.length := fun i j => ((part_good q).1 i).1.trans ((part_good q).1 j).2.1.symm
    by_cases h98 : c = 98
    · subst h98
      rw [part_b, part_b]
      rw [many_snoc] at hk hl
      by_cases h0 : q.count 98 = 0
      · rw [if_neg (fun h => h.2 h0)] at hk hl
        have hm : many q = 1 := by unfold many; rw [h0]
        have k0 : k = 0 := by omega
        have l0 : l = 0 := by omega
        subst k0 l0
        rw [part_no_b q _ h0]
        exact app_same q 110 121 (by decide)
      · rw [if_pos ⟨rfl, h0⟩] at hk hl
        exact app_lt _ _ _ _ (ln _ _) (ih q hq (List.count_pos_iff.mp (by omega)) _ _ (by omega) (by omega))
    · rw [many_snoc, if_neg (fun h => h98 h.1)] at hk hl
      rw [part_o _ _ _ h98, part_o _ _ _ h98]
      have hq98 : 98 ∈ q := by
        rcases List.mem_append.mp hm with z | z
        · exact z
        · exact absurd (List.mem_singleton.mp z).symm h98
      exact app_lt _ _ _ _ (ln _ _) (ih q hq hq98 _ _ hk hl)
theorem lt_ne {a b : List Nat} (h : a < b) : a ≠ b := fun e => by rw [e] at h; exact List.lt_irrefl _ h
/-! all that is told of the partings -/
def tolds (p : List Nat × List Nat) : List (List Nat) := if p.1 ≠ p.2 then [p.1, p.2] else [p.1]
def told (r : List Nat) (n : Nat) : List (List Nat) := (List.range n).flatMap fun k => tolds (part r k)
theorem told_succ (r : List Nat) (n : Nat) : told r (n + 1) = told r n ++ tolds (part r n) := by
  unfold told
  rw [List.range_succ, List.flatMap_append]
  simp
theorem mem_tolds {x : List Nat} {p : List Nat × List Nat} : x ∈ tolds p ↔ x = p.1 ∨ x = p.2 := by
  unfold tolds
  by_cases h : p.1 = p.2
  · rw [if_neg (by simpa using h)]; simp [h]
  · rw [if_pos h]; simp
theorem mem_told {r : List Nat} (hr : NBY r) {x : List Nat} : x ∈ told r (many r) ↔ Fit r x := by
  unfold told
  rw [List.mem_flatMap, fit_of hr]
  constructor
  · rintro ⟨k, hk, e⟩; exact ⟨k, List.mem_range.mp hk, mem_tolds.mp e⟩
  · rintro ⟨k, hk, e⟩; exact ⟨k, List.mem_range.mpr hk, mem_tolds.mpr e⟩
theorem one_many {r : List Nat} (h : 98 ∉ r) : many r = 1 ∧ ∀ k, part r k = (r, r) := by
  have h0 : r.count 98 = 0 := List.count_eq_zero.mpr h
  exact ⟨by unfold many; rw [h0], fun k => part_no_b r k h0⟩
theorem told_one {r : List Nat} (h : 98 ∉ r) : told r (many r) = [r] := by
  obtain ⟨h1, h2⟩ := one_many h
  rw [h1]
  show tolds (part r 0) ++ [] = [r]
  rw [h2, List.append_nil]
  unfold tolds
  rw [if_neg (by simp)]
theorem part_ne {r : List Nat} (h : 98 ∈ r) (k : Nat) : (part r k).1 ≠ (part r k).2 := turned_ne r _ (lesser_len _ _) h
theorem told_nodup {r : List Nat} (hr : NBY r) : (told r (many r)).Nodup := by
  by_cases h : 98 ∈ r
  · unfold told
    refine List.pairwise_flatMap.mpr ⟨fun k hk => ?_, ?_⟩
    · unfold tolds
      rw [if_pos (part_ne h k)]
      exact List.pairwise_cons.mpr ⟨fun x hx => by rw [List.mem_singleton.mp hx]; exact part_ne h k, List.pairwise_singleton _ _⟩
    · refine List.Pairwise.imp_of_mem ?_ (List.pairwise_lt_range (n := many r))
      intro k l hk hl hkl x hx y hy
      have hk' := List.mem_range.mp hk
      have hl' := List.mem_range.mp hl
      have h1 := lt_ne ((part_good r).2.2 k l hkl hl')
      rcases mem_tolds.mp hx with e | e <;> rcases mem_tolds.mp hy with e2 | e2 <;> rw [e, e2]
      · exact h1
      · exact lt_ne (part_lt _ r rfl h k l hk' hl')
      · exact (lt_ne (part_lt _ r rfl h l k hl' hk')).symm
      · intro z
        refine h1 ?_
        rw [← part_back hr hk', ← part_back hr hl', z]
  · rw [told_one h]
    exact List.pairwise_singleton _ _
theorem told_len (r : List Nat) (h : 98 ∈ r) : ∀ n, (told r n).length = 2 * n
  | 0 => rfl
  | n + 1 => by
    rw [told_succ, List.length_append, told_len r h n]
    unfold tolds
    rw [if_pos (part_ne h n)]
    show 2 * n + 2 = _
    omega
theorem told_le (r : List Nat) : ∀ n, (told r n).length ≤ 2 * n
  | 0 => Nat.le_refl _
  | n + 1 => by
    rw [told_succ, List.length_append]
    have := told_le r n
    have h2 : (tolds (part r n)).length ≤ 2 := by unfold tolds; split <;> simp
    omega
/-! the lesser and the greater -/
def mn (a b : List Nat) : List Nat := if b < a then b else a
def mx (a b : List Nat) : List Nat := if a < b then b else a
theorem mnmx {a b : List Nat} (h : a = b ∨ a < b) : (mn a b, mx a b) = (a, b) ∧ (mn b a, mx b a) = (a, b) := by
  unfold mn mx
  rcases h with e | e
  · subst e
    rw [if_neg (List.lt_irrefl _)]
    exact ⟨rfl, rfl⟩
  · have n : ¬ b < a := fun z => List.lt_irrefl _ (List.lt_trans e z)
    simp only [if_neg n, if_pos e, and_self]
theorem fit_pair {r h : List Nat} (hr : NBY r) (f : Fit r h) : ∃ k, k < many r ∧ part r k = (mn h (turned r h), mx h (turned r h)) := by
  obtain ⟨k, hk, e⟩ := (fit_of hr).mp f
  refine ⟨k, hk, ?_⟩
  obtain ⟨m1, m2⟩ := mnmx ((part_good r).2.1 k hk)
  rcases e with e | e
  · have e2 : turned r h = (part r k).2 := by rw [e]; rfl
    rw [e2, e]
    exact m1.symm
  · have e2 : turned r h = (part r k).1 := by rw [e]; exact part_back hr hk
    rw [e2, e]
    exact m2.symm
/-! two half-rows and their row -/
theorem rowBy_lt : ∀ a b : List Nat, (List.zipWith lt1 (rowBy a b) a).all id = true
  | [], _ => by cases ‹List Nat› <;> rfl
  | _ :: _, [] => rfl
  | s :: a, t :: b => by
    show (lt1 (rb s t) s && (List.zipWith lt1 (rowBy a b) a).all id) = true
    rw [rowBy_lt a b, Bool.and_true]
    unfold lt1 rb
    by_cases h : s = t
    · rw [if_pos h, decide_eq_true rfl, Bool.or_true]
    · rw [if_neg h, decide_eq_true rfl, Bool.true_or]
theorem rowBy_turn : ∀ a b : List Nat, a.length = b.length → (∀ c ∈ a, c = 110 ∨ c = 121) → (∀ c ∈ b, c = 110 ∨ c = 121) → turned (rowBy a b) a = b
  | [], [], _, _, _ => rfl
  | [], _ :: _, e, _, _ => nomatch e
  | _ :: _, [], e, _, _ => nomatch e
  | s :: a, t :: b, e, ha, hb => by
    show tw (rb s t) s :: turned (rowBy a b) a = t :: b
    rw [rowBy_turn a b (by simpa using e) (fun x hx => ha x (List.mem_cons_of_mem _ hx)) fun x hx => hb x (List.mem_cons_of_mem _ hx)]
    congr 1
    rcases ha s List.mem_cons_self with z | z <;> rcases hb t List.mem_cons_self with y | y <;> rw [z, y] <;> decide
theorem rowBy_nby : ∀ a b : List Nat, (∀ c ∈ a, c = 110 ∨ c = 121) → NBY (rowBy a b)
  | [], _, _ => by intro c hc; cases ‹List Nat› <;> cases hc
  | _ :: _, [], _ => by intro c hc; cases hc
  | s :: a, t :: b, ha => by
    intro c hc
    rcases List.mem_cons.mp (show c ∈ rb s t :: rowBy a b from hc) with e | e
    · rw [e]
      unfold rb
      split
      · rcases ha s List.mem_cons_self with z | z <;> simp [z]
      · exact .inr (.inl rfl)
    · exact rowBy_nby a b (fun x hx => ha x (List.mem_cons_of_mem _ hx)) c e
abbrev HalfN (m : Nat) (h : List Nat) : Prop := h.length = m ∧ ∀ c ∈ h, c = 110 ∨ c = 121
theorem fit_mk {r h : List Nat} (hl : h.length = r.length) (hc : ∀ c ∈ h, c = 110 ∨ c = 121) : fitsO r (some h) = (List.zipWith lt1 r h).all id := by
  show ((decide (h.length = r.length) && h.all fun c => decide (c ∈ [110, 121])) && (List.zipWith lt1 r h).all id) = _
  have h2 : (h.all fun c => decide (c ∈ [110, 121])) = true := List.all_eq_true.mpr fun c hx => decide_eq_true (by simpa using hc c hx)
  rw [decide_eq_true hl, h2]
  rfl
theorem two_part {m : Nat} {a b : List Nat} (ha : HalfN m a) (hb : HalfN m b) : ∃ k, k < many (rowBy a b) ∧ part (rowBy a b) k = (mn a b, mx a b) := by
  have hl : a.length = (rowBy a b).length := by unfold rowBy; rw [List.length_zipWith, ha.1, hb.1, Nat.min_self]
  obtain ⟨k, hk, e⟩ := fit_pair (rowBy_nby a b ha.2) (show Fit (rowBy a b) a from (fit_mk hl ha.2).trans (rowBy_lt a b))
  rw [rowBy_turn a b (ha.1.trans hb.1.symm) ha.2 hb.2] at e
  exact ⟨k, hk, e⟩
/-! all half-rows of a length -/
def allH : Nat → List (List Nat)
  | 0 => [[]]
  | n + 1 => (allH n).map (· ++ [110]) ++ (allH n).map (· ++ [121])
theorem allH_mem : ∀ {n : Nat} {h : List Nat}, h ∈ allH n ↔ HalfN n h
  | 0, h => by
    constructor
    · intro q
      rw [List.mem_singleton.mp q]
      exact ⟨rfl, fun c hc => nomatch hc⟩
    · intro q
      rw [List.length_eq_zero_iff.mp q.1]
      exact List.mem_singleton.mpr rfl
  | n + 1, h => by
    have mk : ∀ {g : List Nat} {d : Nat}, (d = 110 ∨ d = 121) → g ∈ allH n → HalfN (n + 1) (g ++ [d]) := fun {g d} hd hg => by
      obtain ⟨l, c⟩ := allH_mem.mp hg
      refine ⟨by rw [List.length_append, l]; rfl, fun x hx => ?_⟩
      rcases List.mem_append.mp hx with z | z
      · exact c x z
      · rw [List.mem_singleton.mp z]; exact hd
    constructor
    · intro q
      rcases List.mem_append.mp q with z | z <;> obtain ⟨g, hg, rfl⟩ := List.mem_map.mp z
      · exact mk (.inl rfl) hg
      · exact mk (.inr rfl) hg
    · rintro ⟨l, c⟩
      obtain ⟨g, d, rfl, hg⟩ := last_of l
      have hm : g ∈ allH n := allH_mem.mpr ⟨hg, fun x hx => c x (List.mem_append_left _ hx)⟩
      rcases c d (by simp) with z | z <;> rw [z]
      · exact List.mem_append_left _ (List.mem_map.mpr ⟨g, hm, rfl⟩)
      · exact List.mem_append_right _ (List.mem_map.mpr ⟨g, hm, rfl⟩)
theorem allH_nodup : ∀ n, (allH n).Nodup
  | 0 => List.pairwise_singleton _ _
  | n + 1 => by
    have hm : ∀ d : Nat, ((allH n).map (· ++ [d])).Nodup := fun d => List.pairwise_map.mpr ((allH_nodup n).imp fun ne e => ne (List.append_cancel_right e))
    refine List.nodup_append.mpr ⟨hm _, hm _, fun x hx y hy e => ?_⟩
    obtain ⟨g, _, rfl⟩ := List.mem_map.mp hx
    obtain ⟨g2, _, rfl⟩ := List.mem_map.mp hy
    have := congrArg List.getLast? e
    simp at this
theorem allH_len : ∀ n, (allH n).length = 2 ^ n
  | 0 => rfl
  | n + 1 => by
    show ((allH n).map _ ++ (allH n).map _).length = _
    rw [List.length_append, List.length_map, List.length_map, allH_len n, Nat.pow_succ]
    omega
theorem rise_uniq : ∀ {l m : List Str}, Rise l → Rise m → (∀ x, x ∈ l ↔ x ∈ m) → l = m
  | [], [], _, _, _ => rfl
  | [], y :: m, _, _, e => absurd ((e y).mpr List.mem_cons_self) (by simp)
  | x :: l, [], _, _, e => absurd ((e x).mp List.mem_cons_self) (by simp)
  | x :: l, y :: m, hl, hm, e => by
    obtain ⟨l1, l2⟩ := List.pairwise_cons.mp hl
    obtain ⟨m1, m2⟩ := List.pairwise_cons.mp hm
    have hxy : x = y := by
      rcases List.mem_cons.mp ((e x).mp List.mem_cons_self) with z | z
      · exact z
      · rcases List.mem_cons.mp ((e y).mpr List.mem_cons_self) with z2 | z2
        · exact z2.symm
        · exact absurd (List.lt_trans (m1 x z) (l1 y z2)) (List.lt_irrefl _)
    subst hxy
    rw [rise_uniq l2 m2 fun z => ?_]
    constructor
    · intro hz
      rcases List.mem_cons.mp ((e z).mp (List.mem_cons_of_mem _ hz)) with w | w
      · have := l1 z hz
        rw [w] at this
        exact absurd this (List.lt_irrefl _)
      · exact w
    · intro hz
      rcases List.mem_cons.mp ((e z).mpr (List.mem_cons_of_mem _ hz)) with w | w
      · have := m1 z hz
        rw [w] at this
        exact absurd this (List.lt_irrefl _)
      · exact w
theorem nodup_tx {l : List (List Nat)} (h : l.Nodup) : (l.map tx).Nodup := List.pairwise_map.mpr (h.imp fun ne e => ne (tx_inj e))
def HL (n : Nat) : List (List Nat) := (srt ((allH n).map tx)).map fun z => z.cps.toList
theorem HL_tx (n : Nat) : (HL n).map tx = srt ((allH n).map tx) := by
  unfold HL
  rw [List.map_map]
  conv => rhs; rw [← List.map_id (srt ((allH n).map tx))]
  exact List.map_congr_left fun z _ => tx_cps z
theorem HL_mem {n : Nat} {h : List Nat} : h ∈ HL n ↔ HalfN n h := by
  rw [← allH_mem]
  constructor
  · intro q
    have : tx h ∈ (HL n).map tx := List.mem_map.mpr ⟨h, q, rfl⟩
    rw [HL_tx, mem_srt] at this
    obtain ⟨g, hg, e⟩ := List.mem_map.mp this
    rw [← tx_inj e]
    exact hg
  · intro q
    have : tx h ∈ srt ((allH n).map tx) := mem_srt.mpr (List.mem_map.mpr ⟨h, q, rfl⟩)
    rw [← HL_tx] at this
    obtain ⟨g, hg, e⟩ := List.mem_map.mp this
    rw [← tx_inj e]
    exact hg
theorem HL_len (n : Nat) : (HL n).length = 2 ^ n := by
  unfold HL
  rw [List.length_map, srt_len, List.length_map, allH_len]
theorem told_sorted {r : List Nat} (hr : NBY r) : srt ((told r (many r)).map tx) = ((HL r.length).filter fun h => fitsO r (some h)).map tx := by
  refine rise_uniq (rise_of (nodup_tx (told_nodup hr))).1 ?_ fun x => ?_
  · have h1 : Rise ((HL r.length).map tx) := by rw [HL_tx]; exact (rise_of (nodup_tx (allH_nodup _))).1
    exact List.Pairwise.sublist (List.filter_sublist.map tx) h1
  · rw [mem_srt, List.mem_map, List.mem_map]
    constructor
    · rintro ⟨h, hm, e⟩
      have f := (mem_told hr).mp hm
      exact ⟨h, List.mem_filter.mpr ⟨HL_mem.mpr (fit_len f), f⟩, e⟩
    · rintro ⟨h, hm, e⟩
      exact ⟨h, (mem_told hr).mpr (List.mem_filter.mp hm).2, e⟩
end Hid

namespace Hid
open PySem PySem.Spec PyProof.Rows L2 Evl
/-! families: what a thing is, as far as it is looked at -/
def NotU (K : PySem.W.Frag) (H : Hp) (v : V) : Prop := ∃ t, kitB t "tuple" = some false ∧ ∀ H1, Ex H H1 → TyX K H1 v (.type t)
section
variable {K : PySem.W.Frag} {H H' : Hp} {v : V}
theorem NotU.ex (h : NotU K H v) (e : Ex H H') : NotU K H' v := let ⟨t, a, b⟩ := h; ⟨t, a, fun H1 e1 => b H1 (e.trans e1)⟩
theorem nu_non : NotU K H .non := ⟨"NoneType", by decide +kernel, fun _ _ => .base .non⟩
theorem nu_str (x : Str) : NotU K H (.str x) := ⟨"str", by decide +kernel, fun _ _ => .base (.str x)⟩
theorem nu_lst {a : Addr} {xs : List V} (h : H a = some (.lst xs)) : NotU K H (.ref a) := ⟨"list", by decide +kernel, fun _ e => .base (.lst (e _ _ h))⟩
theorem nu_dict {a : Addr} {xs : List (Key × V)} (h : H a = some (.dK xs)) : NotU K H (.ref a) := ⟨"dict", by decide +kernel, fun _ e => .base (.dK (e _ _ h))⟩
end
abbrev nby : List Nat := [110, 98, 121]
def rowO (o : Option (List Nat)) (n : Nat) : Bool := wr o nby && (match o with | none => false | some z => decide (z.length = n))
inductive Fm where
  | non
  | len (n : Nat)
  | three (x y : Option (List Nat)) (z : Option (List (Option (List Nat))))
def YgOk (K : PySem.W.Frag) (H : Hp) (v : V) : Option (List (Option (List Nat))) → Prop
  | none => NotU K H v
  | some os => ∃ b vs, v = .ref b ∧ H b = some (.tup vs) ∧ Paired (Th K H) vs os
def FmOk (K : PySem.W.Frag) (H : Hp) (v : V) : Fm → Prop
  | .non => NotU K H v
  | .len n => n ≠ 3 ∧ ∃ a xs, v = .ref a ∧ H a = some (.tup xs) ∧ xs.length = n
  | .three ox oy oz => ∃ a x y z, v = .ref a ∧ H a = some (.tup [x, y, z]) ∧ Th K H x ox ∧ Th K H y oy ∧ YgOk K H z oz
def famB : Fm → Bool
  | .three (some z) oy (some os) => wr (some z) nby && (rowO oy z.length && (decide (1 ≤ os.length ∧ os.length ≤ 3) && os.all fun o => rowO o z.length))
  | _ => false
section
variable {K : PySem.W.Frag} {H H' : Hp} {v : V}
theorem YgOk.ex : ∀ {o : Option (List (Option (List Nat)))}, YgOk K H v o → Ex H H' → YgOk K H' v o
  | none, h, e => NotU.ex h e
  | some os, h, e => let ⟨b, vs, a, c, d⟩ := h; ⟨b, vs, a, e _ _ c, paired_mono (fun _ _ q => q.ex e) d⟩
theorem FmOk.ex : ∀ {f : Fm}, FmOk K H v f → Ex H H' → FmOk K H' v f
  | .non, h, e => NotU.ex h e
  | .len n, h, e => let ⟨h0, a, xs, h1, h2, h3⟩ := h; ⟨h0, a, xs, h1, e _ _ h2, h3⟩
  | .three ox oy oz, h, e => let ⟨a, x, y, z, h1, h2, h3, h4, h5⟩ := h; ⟨a, x, y, z, h1, e _ _ h2, h3.ex e, h4.ex e, h5.ex e⟩
end
theorem rowO_none (n : Nat) : rowO none n = false := rfl
theorem rowO_len {z : List Nat} {n : Nat} (h : z.length ≠ n) : rowO (some z) n = false := by
  unfold rowO
  show (_ && decide (z.length = n)) = false
  rw [decide_eq_false h, Bool.and_false]
theorem rowO_wr {o : Option (List Nat)} {n : Nat} (h : wr o nby = false) : rowO o n = false := by unfold rowO; rw [h, Bool.false_and]
theorem rowO_row {r : List Nat} (h : RowL r) : rowO (some r) r.length = true := by
  unfold rowO
  rw [row_wr h]
  show (true && decide (r.length = r.length)) = true
  rw [decide_eq_true rfl]
  rfl
theorem bad_x {ox oy : Option (List Nat)} {oz : Option (List (Option (List Nat)))} (h : wr ox nby = false) : famB (.three ox oy oz) = false := by
  cases ox with
  | none => rfl
  | some z =>
    cases oz with
    | none => rfl
    | some os =>
      show (wr (some z) nby && _) = false
      rw [h, Bool.false_and]
theorem bad_y {z : List Nat} {oy : Option (List Nat)} {oz : Option (List (Option (List Nat)))} (h : rowO oy z.length = false) : famB (.three (some z) oy oz) = false := by
  cases oz with
  | none => rfl
  | some os =>
    show (_ && (rowO oy z.length && _)) = false
    rw [h, Bool.false_and, Bool.and_false]
theorem bad_z {ox oy : Option (List Nat)} : famB (.three ox oy none) = false := by cases ox <;> rfl
theorem bad_l {ox oy : Option (List Nat)} {os : List (Option (List Nat))} (h : ¬ (1 ≤ os.length ∧ os.length ≤ 3)) : famB (.three ox oy (some os)) = false := by
  cases ox with
  | none => rfl
  | some z =>
    show (_ && (_ && (decide (1 ≤ os.length ∧ os.length ≤ 3) && _))) = false
    rw [decide_eq_false h, Bool.false_and, Bool.and_false, Bool.and_false]
theorem bad_o {z : List Nat} {oy o : Option (List Nat)} {os : List (Option (List Nat))} (ho : o ∈ os) (h : rowO o z.length = false) : famB (.three (some z) oy (some os)) = false := by
  show (_ && (_ && (_ && os.all fun o => rowO o z.length))) = false
  have : (os.all fun o => rowO o z.length) = false := by
    rw [Bool.eq_false_iff]
    intro hall
    have := List.all_eq_true.mp hall o ho
    rw [h] at this
    cases this
  rw [this, Bool.and_false, Bool.and_false, Bool.and_false]
theorem fam_good {r1 r2 : List Nat} {ys : List (List Nat)} (h1 : RowL r1) (h2 : RowL r2) (hl : r2.length = r1.length) (hn : 1 ≤ ys.length ∧ ys.length ≤ 3) (hy : ∀ y ∈ ys, RowL y ∧ y.length = r1.length) : famB (.three (some r1) (some r2) (some (ys.map some))) = true := by
  show (wr (some r1) nby && (rowO (some r2) r1.length && (decide (1 ≤ (ys.map some).length ∧ (ys.map some).length ≤ 3) && (ys.map some).all fun o => rowO o r1.length))) = true
  have h3 := rowO_row h2
  rw [hl] at h3
  have h4 : ((ys.map some).all fun o => rowO o r1.length) = true := List.all_eq_true.mpr fun o ho => by
    obtain ⟨y, hm, rfl⟩ := List.mem_map.mp ho
    obtain ⟨a, b⟩ := hy y hm
    rw [← b]
    exact rowO_row a
  rw [row_wr h1, h3, h4, List.length_map, decide_eq_true hn]
  rfl
/-! what is no family -/
def Bad (K : PySem.W.Frag) (v : V) (H : Hp) : Prop := ∃ f, FmOk K H v f ∧ famB f = false
theorem Bad.ex {K : PySem.W.Frag} {H H' : Hp} {v : V} (h : Bad K v H) (e : Ex H H') : Bad K v H' := let ⟨f, a, b⟩ := h; ⟨f, a.ex e, b⟩
def Bads (K : PySem.W.Frag) (n : Nat) (vs : List V) (H : Hp) : Prop := vs.length = n ∧ ∀ v ∈ vs, Bad K v H
theorem Bads.ex {K : PySem.W.Frag} {H H' : Hp} {n : Nat} {vs : List V} (h : Bads K n vs H) (e : Ex H H') : Bads K n vs H' := ⟨h.1, fun v hv => (h.2 v hv).ex e⟩
theorem Bads.app {K : PySem.W.Frag} {H : Hp} {m n : Nat} {vs ws : List V} (h : Bads K m vs H) (h' : Bads K n ws H) : Bads K (m + n) (vs ++ ws) H := ⟨by rw [List.length_append, h.1, h'.1], fun v hv => by
  rcases List.mem_append.mp hv with z | z
  · exact h.2 v z
  · exact h'.2 v z⟩
section
variable {K : PySem.W.Frag} {σ : L2.St} {H H' : Hp} {ta tb tc te : TE} {ts : TA} {D : Ends} {tz : TS}
abbrev EvX (K : PySem.W.Frag) (te : TE) (σ : L2.St) (H : Hp) (o : Option (List Nat)) : Prop := EvP te σ H fun v H => Th K H v o
abbrev EvY (K : PySem.W.Frag) (te : TE) (σ : L2.St) (H : Hp) (o : Option (List (Option (List Nat)))) : Prop := EvP te σ H fun v H => YgOk K H v o
theorem ep_ev {v : V} {P : V → Hp → Prop} (h : Ev te σ H v) (hp : ∀ H1, Ex H H1 → P v H1) : EvP te σ H P := fun H1 e Q q => h H1 e _ fun H2 e2 => q _ H2 e2 (hp H2 (e.trans e2))
theorem ep_mono {P : V → Hp → Prop} (h : EvP te σ H P) (e : Ex H H') : EvP te σ H' P := fun H1 e1 Q q => h H1 (e.trans e1) Q q
theorem ex_ev {v : V} {o : Option (List Nat)} (h : Ev te σ H v) (hp : Th K H v o) : EvX K te σ H o := ep_ev h fun _ e => hp.ex e
theorem ey_ev {v : V} {o : Option (List (Option (List Nat)))} (h : Ev te σ H v) (hp : YgOk K H v o) : EvY K te σ H o := ep_ev h fun _ e => hp.ex e
theorem bad3 {ox oy : Option (List Nat)} {oz : Option (List (Option (List Nat)))} (h1 : EvX K ta σ H ox) (h2 : EvX K tb σ H oy) (h3 : EvY K tc σ H oz) (hb : famB (.three ox oy oz) = false) : EvP (tTup (tCons ta (tCons tb (tCons tc tNil)))) σ H (Bad K) := fun H1 e Q q =>
  h1 H1 e _ fun x H2 e2 hx => h2 H2 (e.trans e2) _ fun y H3 e3 hy => h3 H3 ((e.trans e2).trans e3) _ fun z H4 e4 hz => ⟨by show 3 ≤ sizeLine; decide, fun p hp => q _ _ ((e2.trans (e3.trans e4)).trans (Ex.new hp)) ⟨.three ox oy oz, ⟨p, x, y, z, rfl, upd_same, hx.ex ((e3.trans e4).trans (Ex.new hp)), hy.ex (e4.trans (Ex.new hp)), hz.ex (Ex.new hp)⟩, hb⟩⟩
/-- so many of any kind -/
def Any (n : Nat) (vs : List V) (_ : Hp) : Prop := vs.length = n
theorem an_nil : EvPs tNil σ H (Any 0) := fun H1 _ Q q => q [] H1 (Ex.refl _) rfl
theorem an_cons {P : V → Hp → Prop} {n : Nat} (h : EvP ta σ H P) (hr : EvPs ts σ H (Any n)) : EvPs (tCons ta ts) σ H (Any (n + 1)) := fun H1 e Q q =>
  h H1 e _ fun v H2 e2 _ => hr H2 (e.trans e2) _ fun vs H3 e3 hv => q _ H3 (e2.trans e3) (congrArg Nat.succ hv)
theorem badN {n : Nat} (h : EvPs ts σ H (Any n)) (hn : n ≠ 3) (hl : n ≤ 100000) : EvP (tTup ts) σ H (Bad K) := fun H1 e Q q =>
  h H1 e _ fun vs H2 e2 hv => ⟨sz_of (by have : vs.length = n := hv; omega), fun p hp => q _ _ (e2.trans (Ex.new hp)) ⟨.len n, ⟨hn, p, vs, rfl, upd_same, hv⟩, rfl⟩⟩
theorem badL {n : Nat} (h : EvPs ts σ H (Any n)) (hl : n ≤ 100000) : EvP (tLst ts) σ H (Bad K) := fun H1 e Q q =>
  h H1 e _ fun vs H2 e2 hv => ⟨sz_of (by have : vs.length = n := hv; omega), fun p hp => q _ _ (e2.trans (Ex.new hp)) ⟨.non, nu_lst upd_same, rfl⟩⟩
theorem yg0 : EvY K (tTup tNil) σ H (some []) := fun H1 e Q q => ⟨by show 0 ≤ sizeLine; decide, fun p hp => q _ _ (Ex.new hp) ⟨p, [], rfl, upd_same, .nil⟩⟩
theorem yg1 {o : Option (List Nat)} (h : EvX K ta σ H o) : EvY K (tTup (tCons ta tNil)) σ H (some [o]) := fun H1 e Q q =>
  h H1 e _ fun x H2 e2 hx => ⟨by show 1 ≤ sizeLine; decide, fun p hp => q _ _ (e2.trans (Ex.new hp)) ⟨p, [x], rfl, upd_same, .cons (hx.ex (Ex.new hp)) .nil⟩⟩
theorem yg4 {o : Option (List Nat)} (h : EvX K ta σ H o) : EvY K (tOp (rRepT K) (tTup (tCons ta tNil)) (tC (.int 4))) σ H (some [o, o, o, o]) := fun H1 e Q q =>
  h H1 e _ fun x H2 e2 hx => ⟨by show 1 ≤ sizeLine; decide, fun p hp => ⟨p, 4, [x], rfl, rfl, st_of upd_same, by simp, by decide, by decide, by show 1 ≤ 1000; decide, fun p2 hp2 => by
    have e3 := Ex.new (o := .tup [x]) hp
    have e4 := Ex.new (o := .tup (List.replicate (4 : Int).toNat [x]).flatten) hp2
    have hx' := hx.ex (e3.trans e4)
    exact q _ _ (e2.trans (e3.trans e4)) ⟨p2, [x, x, x, x], rfl, upd_same, .cons hx' (.cons hx' (.cons hx' (.cons hx' .nil)))⟩⟩⟩
theorem ygA {a : Addr} {vs : List V} {os : List (Option (List Nat))} {o : Option (List Nat)} (ha : Ev ta σ H (.ref a)) (hs : H a = some (.tup vs)) (hp : Paired (Th K H) vs os) (h0 : vs ≠ []) (hl : vs.length ≤ 1000) (h : EvX K tb σ H o) :
    EvY K (tOp (rCatA K) ta (tTup (tCons tb tNil))) σ H (some (os ++ [o])) := fun H1 e Q q =>
  ha H1 e _ fun H2 e2 => h H2 (e.trans e2) _ fun x H3 e3 hx => ⟨by show 1 ≤ sizeLine; decide, fun p np => by
    have e4 := Ex.new (o := .tup [x]) np
    have e14 : Ex H (upd H3 p (.tup [x])) := e.trans (e2.trans (e3.trans e4))
    refine ⟨a, p, vs, [x], rfl, rfl, st_of (e14 _ _ hs), st_of upd_same, sz_of (by show vs.length + 1 ≤ 100000; omega), fun z => absurd z h0, fun _ z => by simp at z, fun _ _ p2 np2 => ?_⟩
    have e5 := Ex.new (o := .tup (vs ++ [x])) np2
    exact q _ _ ((e2.trans (e3.trans e4)).trans e5) ⟨p2, vs ++ [x], rfl, upd_same, paired_app (paired_mono (fun _ _ z => z.ex (e14.trans e5)) hp) (.cons (hx.ex (e4.trans e5)) .nil)⟩⟩
theorem bps_nil : EvPs tNil σ H (Bads K 0) := fun H1 _ Q q => q [] H1 (Ex.refl _) ⟨rfl, fun _ z => nomatch z⟩
theorem bps_cons {n : Nat} (h : EvP ta σ H (Bad K)) (hr : EvPs ts σ H (Bads K n)) : EvPs (tCons ta ts) σ H (Bads K (n + 1)) := fun H1 e Q q =>
  h H1 e _ fun v H2 e2 hv => hr H2 (e.trans e2) _ fun vs H3 e3 hvs => q _ H3 (e2.trans e3) ⟨congrArg Nat.succ hvs.1, fun x hx => by
    rcases List.mem_cons.mp hx with z | z
    · rw [z]; exact hv.ex e3
    · exact hvs.2 x z⟩
theorem q_asgBs {i n : Nat} (h : EvPs ts σ H (Bads K n)) (hn : n ≤ 1000) (k : ∀ p vs H1, H1 p = none → Ex H H1 → Bads K n vs H1 → tz D (σ.set i (some (.ref p))) (upd H1 p (.lst vs))) : tSeq (tAsg (tLst ts) (gName i)) tz D σ H :=
  h H (Ex.refl _) _ fun vs H1 e1 hv => ⟨sz_of (by have := hv.1; omega), fun p hp => k p vs H1 hp e1 hv⟩
theorem q_asgCt {i j n m : Nat} {l : Addr} {xs : List V} (hx : σ[j]? = some (some (.ref l))) (hl : H l = some (.lst xs)) (hb : Bads K m xs H) (h : EvPs ts σ H (Bads K n)) (hn : m + n ≤ 1000) (k : ∀ p vs H1, H1 p = none → Ex H H1 → Bads K (m + n) vs H1 → tz D (σ.set i (some (.ref p))) (upd H1 p (.lst vs))) :
    tSeq (tAsg (tOp rCat (tVar j) (tLst ts)) (gName i)) tz D σ H :=
  ⟨_, hx, h H (Ex.refl _) _ fun vs H1 e1 hv => ⟨sz_of (by have := hv.1; omega), fun p np => by
    have e2 := Ex.new (o := .lst vs) np
    refine ⟨l, p, xs, vs, rfl, rfl, e2 _ _ (e1 _ _ hl), upd_same, sz_of (by rw [hb.1, hv.1]; omega), fun r hr => k r _ _ hr (e1.trans e2) ((hb.ex (e1.trans e2)).app (hv.ex e2))⟩⟩⟩
end
/-- a family as it stands -/
structure FamAt (H : Hp) (t b : Addr) (n : Nat) (r1 r2 : List Nat) (ys : List (List Nat)) : Prop where
  ht : H t = some (.tup [.str (tx r1), .str (tx r2), .ref b])
  hb : H b = some (.tup (ys.map fun y => .str (tx y)))
  h1 : RowL r1
  h2 : RowL r2
  l1 : r1.length = n
  l2 : r2.length = n
  hn : 1 ≤ ys.length ∧ ys.length ≤ 3
  hy : ∀ y ∈ ys, RowL y ∧ y.length = n
theorem FamAt.ex {H H' : Hp} {t b : Addr} {n : Nat} {r1 r2 : List Nat} {ys : List (List Nat)} (h : FamAt H t b n r1 r2 ys) (e : Ex H H') : FamAt H' t b n r1 r2 ys := { h with ht := e _ _ h.ht, hb := e _ _ h.hb }
theorem rows_th {K : PySem.W.Frag} {H : Hp} : ∀ {ys : List (List Nat)}, (∀ y ∈ ys, y.length ≤ 1000) → Paired (Th K H) (ys.map fun y => V.str (tx y)) (ys.map some)
  | [], _ => .nil
  | y :: ys, h => .cons (th_str y (h y List.mem_cons_self)) (rows_th fun z hz => h z (List.mem_cons_of_mem _ hz))
theorem FamAt.fm {K : PySem.W.Frag} {H : Hp} {t b : Addr} {n : Nat} {r1 r2 : List Nat} {ys : List (List Nat)} (h : FamAt H t b n r1 r2 ys) : FmOk K H (.ref t) (.three (some r1) (some r2) (some (ys.map some))) :=
  ⟨t, _, _, _, rfl, h.ht, th_str r1 (by have := h.h1.1; omega), th_str r2 (by have := h.h2.1; omega), b, _, rfl, h.hb, rows_th fun y hy => by have := (h.hy y hy).1.1; omega⟩
theorem FamAt.good {H : Hp} {t b : Addr} {n : Nat} {r1 r2 : List Nat} {ys : List (List Nat)} (h : FamAt H t b n r1 r2 ys) : famB (.three (some r1) (some r2) (some (ys.map some))) = true :=
  fam_good h.h1 h.h2 (by rw [h.l1, h.l2]) h.hn fun y hy => ⟨(h.hy y hy).1, by rw [(h.hy y hy).2, h.l1]⟩
end Hid

namespace Hid
open PySem PySem.Spec PyProof.Rows L2 Evl
/-! books as the laws draw them -/
theorem tx_sn (a : List Nat) (c : Nat) : tx a ++ (⟨#[c]⟩ : Str) = tx (a ++ [c]) := by
  show (⟨a.toArray ++ #[c]⟩ : Str) = ⟨(a ++ [c]).toArray⟩
  simp
theorem tx_app (a b : List Nat) : tx a ++ tx b = tx (a ++ b) := by
  show (⟨a.toArray ++ b.toArray⟩ : Str) = ⟨(a ++ b).toArray⟩
  simp
theorem tx_len (a : List Nat) : (tx a).length = a.length := by simp [tx, Str.length]
theorem tx_sz (a : List Nat) : (tx a).cps.size = a.length := by simp [tx]
theorem tx_toList (a : List Nat) : (tx a).cps.toList = a := by simp [tx]
theorem cutS_take (z : List Nat) (k : Nat) (h : k ≤ z.length) : cutS (tx z) none (some (k : Int)) = tx (z.take k) := by
  unfold cutS
  rw [HT.sIx_nat, tx_len, Nat.min_eq_left h]
  show (⟨((tx z).cps.toList.drop 0 |>.take (k - 0)).toArray⟩ : Str) = _
  simp [tx]
theorem cutS_drop (z : List Nat) (k : Nat) : cutS (tx z) (some (k : Int)) none = tx (z.drop k) := by
  unfold cutS
  rw [HT.sIx_nat, tx_len]
  show (⟨((tx z).cps.toList.drop (min k z.length) |>.take (z.length - min k z.length)).toArray⟩ : Str) = _
  rw [tx_toList]
  by_cases h : k ≤ z.length
  · rw [Nat.min_eq_left h, List.take_of_length_le (by rw [List.length_drop]; exact Nat.le_refl _)] <;> rfl
  · rw [Nat.min_eq_right (by omega), Nat.sub_self, List.drop_eq_nil_of_le (by omega : z.length ≤ k)] <;> rfl
theorem cut_drop {xs : List V} (n : Nat) : cutV xs (some (n : Int)) none = xs.drop n := by
  unfold cutV
  rw [HT.sIx_nat]
  show List.take (xs.length - min n xs.length) (List.drop (min n xs.length) xs) = _
  by_cases h : n ≤ xs.length
  · rw [Nat.min_eq_left h, List.take_of_length_le (by rw [List.length_drop]; exact Nat.le_refl _)]
  · rw [Nat.min_eq_right (by omega), Nat.sub_self, List.drop_eq_nil_of_le (by omega : xs.length ≤ n)] <;> rfl
theorem mul_c (c : Nat) (n : Int) (h : 1 ≤ n) : Txt.mul (sg1 c) n = tx (List.replicate n.toNat c) := by
  unfold Txt.mul
  rw [if_neg (by omega)]
  by_cases h1 : n = 1
  · subst h1
    rfl
  · have hc : (n == 1 || (sg1 c).length == 0) = false := by
      have : (n == 1) = false := by simpa using h1
      rw [this]
      rfl
    rw [hc, if_neg Bool.false_ne_true]
    have : ∀ (k : Nat) (acc : Array Nat), (List.replicate k (sg1 c).cps).foldl (· ++ ·) acc = acc ++ (List.replicate k c).toArray := by
      intro k
      induction k with
      | zero => intro acc; simp
      | succ k ih =>
        intro acc
        rw [List.replicate_succ, List.foldl_cons, ih, List.replicate_succ]
        have : (sg1 c).cps = #[c] := rfl
        rw [this]
        exact Array.toList_inj.mp (by simp)
    rw [this]
    simp [tx]
abbrev rJoin (K : PySem.W.Frag) : V → List V → Hp → VK → Prop := fun x xs H Q => ∃ a p, ∃ ys : List Str, x = .str a ∧ xs = [.ref p] ∧ (SqL K H p (ys.map V.str) ∨ SqT K H p (ys.map V.str)) ∧ (ys.map (·.length)).sum + ys.length * a.length ≤ 16777216 ∧ Q (.str (Txt.join a ys)) H
theorem ev_join {K : PySem.W.Frag} {te : TE} {σ : L2.St} {H : Hp} {l : List Nat} (h : EvL te σ H (vs1 l)) (hl : l.length ≤ 1000000) : Ev (tM1 (rJoin K) (tC (.str (tx []))) te) σ H (.str (tx l)) := fun H1 e Q q =>
  ⟨⟨_, rfl⟩, h H1 e _ fun p H2 hp e2 h2 => r_join (K := K) (Q := Q) (sq_of h2) hl (q H2 e2)⟩
theorem erase_map {α β : Type} (f : α → β) : ∀ (l : List α) (k : Nat), (l.eraseIdx k).map f = (l.map f).eraseIdx k
  | [], _ => rfl
  | _ :: _, 0 => rfl
  | x :: l, k + 1 => by
    show f x :: (l.eraseIdx k).map f = f x :: (l.map f).eraseIdx k
    rw [erase_map f l k]
/-! names -/
def nSuf (b : Nat) : List Nat := [[], [98], [98, 97], [97, 98, 99, 100, 101, 102, 103]].getD b []
def nPre (b : Nat) : List Nat := [[], [100], [100, 100], [99, 99, 99, 99, 99, 99, 99]].getD b []
def nLet (a k : Nat) : Nat := 97 + (k + a) % 10
def nameOf (a b c k : Nat) : List Nat := if c = 1 then List.replicate (1 + k % 8) (97 + k / 8) else if c = 2 then nPre b ++ [nLet a k] else nLet a k :: nSuf b
def NameL (z : List Nat) : Prop := (1 ≤ z.length ∧ z.length ≤ 8) ∧ ∀ c ∈ z, 97 ≤ c ∧ c ≤ 122
instance (z : List Nat) : Decidable (NameL z) := by unfold NameL; infer_instance
theorem names_ok : ∀ a < 10, ∀ b < 4, ∀ c < 3, ((List.range 10).map (nameOf a b c)).Nodup ∧ ∀ k < 10, NameL (nameOf a b c k) := by decide +kernel
/-! lists of ints, of pairs, against [] -/
theorem ints_dp {K : PySem.W.Frag} {H : Hp} : ∀ ns : List Int, DpAll K H (ns.map V.int) (ns.map PyData.int)
  | [] => .nil
  | n :: ns => .cons (.int n) (ints_dp ns)
theorem shaped_ints (ns : List Int) : SeqAt.shaped (.list (ns.map PyData.int)) = true := by
  have h1 : ∀ ns : List Int, PyData.canLayAll0 (ns.map PyData.int) = true := by
    intro ns
    induction ns with
    | nil => rfl
    | cons n ns ih => show (PyData.canLay0 (.int n) && PyData.canLayAll0 (ns.map PyData.int)) = true; rw [ih]; rfl
  have h2 : ∀ ns : List Int, PyData.depthAll (ns.map PyData.int) ≤ 2 := by
    intro ns
    induction ns with
    | nil => exact Nat.zero_le _
    | cons n ns ih =>
      show max (PyData.depth (.int n)) (PyData.depthAll (ns.map PyData.int)) ≤ 2
      have : PyData.depth (.int n) ≤ 2 := by simp [PyData.depth]
      omega
  unfold SeqAt.shaped
  rw [Bool.and_eq_true]
  refine ⟨h1 ns, decide_eq_true ?_⟩
  have := h2 ns
  simp only [PyData.depth]
  omega
theorem shaped_prs (ps : List (List Nat × List Nat)) (hs : ∀ p ∈ ps, (∀ c ∈ p.1, c < 200) ∧ ∀ c ∈ p.2, c < 200) : SeqAt.shaped (.list (ps.map dSS)) = true ∧ SeqAt.shaped (.tuple (ps.map dSS)) = true := by
  have h1 : ∀ ps : List (List Nat × List Nat), (∀ p ∈ ps, (∀ c ∈ p.1, c < 200) ∧ ∀ c ∈ p.2, c < 200) → PyData.canLayAll0 (ps.map dSS) = true := by
    intro ps
    induction ps with
    | nil => intro _; rfl
    | cons p ps ih =>
      intro hh
      have hp := hh p List.mem_cons_self
      show (PyData.canLay0 (dSS p) && PyData.canLayAll0 (ps.map dSS)) = true
      rw [ih fun q hq => hh q (List.mem_cons_of_mem _ hq)]
      simp [dSS, PyData.canLay0, PyData.canLayAll0, strOk_sm hp.1, strOk_sm hp.2]
  have h2 : ∀ ps : List (List Nat × List Nat), PyData.depthAll (ps.map dSS) ≤ 4 := by
    intro ps
    induction ps with
    | nil => exact Nat.zero_le _
    | cons p ps ih =>
      show max (PyData.depth (dSS p)) (PyData.depthAll (ps.map dSS)) ≤ 4
      have : PyData.depth (dSS p) ≤ 4 := by simp [dSS, PyData.depth, PyData.depthAll]
      omega
  have a := h1 ps hs
  have b := h2 ps
  unfold SeqAt.shaped
  simp [PyData.canLay0, PyData.depth, a]
  omega
theorem eqv_nil (ds : List PyData) : PyData.eqv (.list ds) (.list []) = decide (ds = []) := by
  cases ds with
  | nil => rfl
  | cons d ds =>
    rw [decide_eq_false (by simp)]
    simp [PyData.eqv, PyData.eqvAll]
theorem shaped_nil : SeqAt.shaped (.list []) = true := by decide
section
variable {K : PySem.W.Frag} {σ : L2.St} {H : Hp} {ta tb : TE}
theorem ev_neN {l : Addr} {vs : List V} {ds : List PyData} (ha : Ev ta σ H (.ref l)) (hl : H l = some (.lst vs)) (hd : DpAll K H vs ds) (hs : SeqAt.shaped (.list ds) = true) (hmono : ∀ H1, Ex H H1 → DpAll K H1 vs ds) : Ev (tOp (rNeD K) ta (tLst tNil)) σ H (.bl (!decide (ds = []))) := fun H1 e Q q =>
  ha H1 e _ fun H2 e2 => ⟨by show 0 ≤ sizeLine; decide, fun p np => ⟨.list ds, .list [], .lst (sq_of ((Ex.new np) _ _ (e2 _ _ (e _ _ hl)))) (hmono _ (e.trans (e2.trans (Ex.new np)))), .lst (sq_of upd_same) .nil, hs, shaped_nil, by rw [eqv_nil]; exact q _ (e2.trans (Ex.new np))⟩⟩
theorem ev_eqN {l : Addr} {vs : List V} {ds : List PyData} (ha : Ev ta σ H (.ref l)) (hl : H l = some (.lst vs)) (hs : SeqAt.shaped (.list ds) = true) (hmono : ∀ H1, Ex H H1 → DpAll K H1 vs ds) : Ev (tOp (rEqD K) ta (tLst tNil)) σ H (.bl (decide (ds = []))) := fun H1 e Q q =>
  ha H1 e _ fun H2 e2 => ⟨by show 0 ≤ sizeLine; decide, fun p np => ⟨.list ds, .list [], .lst (sq_of ((Ex.new np) _ _ (e2 _ _ (e _ _ hl)))) (hmono _ (e.trans (e2.trans (Ex.new np)))), .lst (sq_of upd_same) .nil, hs, shaped_nil, by rw [eqv_nil]; exact q _ (e2.trans (Ex.new np))⟩⟩
end
/-! a book as it stands -/
structure BookOk (n : Nat) (rs : List (List Nat × List Nat)) : Prop where
  hn : 1 ≤ n ∧ n ≤ 8
  hl : rs.length ≤ 10
  hr : ∀ p ∈ rs, RowL p.2 ∧ p.2.length = n
  hm : ∀ p ∈ rs, NameL p.1
  hd : (rs.map (·.1)).Nodup
def BookAt (K : PySem.W.Frag) (H : Hp) (v : V) (n : Nat) (rs : List (List Nat × List Nat)) : Prop := ∃ t b vs, v = .ref t ∧ H t = some (.tup [.int (n : Nat), .ref b]) ∧ H b = some (.tup vs) ∧ Prs K H vs rs
theorem BookAt.ex {K : PySem.W.Frag} {H H' : Hp} {v : V} {n : Nat} {rs : List (List Nat × List Nat)} (h : BookAt K H v n rs) (e : Ex H H') : BookAt K H' v n rs := let ⟨t, b, vs, a, c, d, f⟩ := h; ⟨t, b, vs, a, e _ _ c, e _ _ d, f.ex e⟩
theorem BookOk.small {n : Nat} {rs : List (List Nat × List Nat)} (h : BookOk n rs) : ∀ p ∈ rs, (∀ c ∈ p.1, c < 200) ∧ ∀ c ∈ p.2, c < 200 := fun p hp => ⟨fun c hc => by have := (h.hm p hp).2 c hc; omega, fun c hc => by rcases (h.hr p hp).1.2 c hc with z | z | z <;> omega⟩
theorem tup_lst {H : Hp} {t l : Addr} {xs ys : List V} (ht : H t = some (.tup xs)) (hl : H l = some (.lst ys)) : t ≠ l := fun z => by rw [z, hl] at ht; cases ht
end Hid

namespace Hid
open PySem PySem.Spec PyProof.Rows L2 Evl
/-! zip of two tuples, as a walk -/
theorem walk_zipT {K : PySem.W.Frag} {a b : Addr} {xs ys : List V} {n : Nat} (hn : n = min xs.length ys.length) : Walk (RZ.ItzT K a b) n (fun H => SqT K H a xs ∧ SqT K H b ys) (YPair (fun i => xs[i]?) (fun i => ys[i]?)) := by
  subst hn
  constructor
  · intro i H hi q
    have hx : i < xs.length := Nat.lt_of_lt_of_le hi (Nat.min_le_left _ _)
    have hy : i < ys.length := Nat.lt_of_lt_of_le hi (Nat.min_le_right _ _)
    exact ⟨xs, ys, xs[i], ys[i], q.1, q.2, List.getElem?_eq_getElem hx, List.getElem?_eq_getElem hy⟩
  · intro H q
    exact ⟨xs, ys, q.1, q.2, by omega⟩
  · rintro i H v H' _ q ⟨T, x, z, e, n, u, hx, hy⟩
    exact ⟨T, x, z, e, n, u, hx xs q.1, hy ys q.2⟩
/-! xs.remove(z), texts -/
def eqz (z : Str) (v : Value) : Bool := match v with
  | .str y _ => y.cps.toList == z.cps.toList
  | _ => false
theorem eqz_gives {z : Str} {t : Tok} : ∀ {us : List Value} {ys : List Str}, StrsAre us ys → ∀ v ∈ us, MeetsSeq.EqGives v (.str z t) (eqz z v)
  | _, _, .nil => fun _ h => nomatch h
  | _, _, .cons y t' r => fun v h => (List.mem_cons.mp h).elim (fun e => by rw [e]; exact SeqRoads2.EqGives.str y z t' t) (eqz_gives r v)
theorem strs_at' : ∀ {us : List Value} {ys : List Str}, StrsAre us ys → ∀ (j : Nat) (y : Str), ys[j]? = some y → ∃ t, us[j]? = some (.str y t)
  | _, _, .nil, j, y, h => by simp at h
  | _, _, .cons x t r, 0, y, h => by cases h; exact ⟨t, rfl⟩
  | _, _, .cons x t r, j + 1, y, h => strs_at' r j y h
theorem erase_at {z : Str} : ∀ {ys : List Str}, z ∈ ys → ∃ j, ys[j]? = some z ∧ (∀ (m : Nat) y, m < j → ys[m]? = some y → y ≠ z) ∧ ys.eraseIdx j = ys.erase z
  | [], h => nomatch h
  | y :: ys, h => by
    by_cases e : y = z
    · subst e
      exact ⟨0, rfl, fun m _ hm _ => absurd hm (Nat.not_lt_zero _), by simp⟩
    · have h' : z ∈ ys := (List.mem_cons.mp h).resolve_left fun q => e q.symm
      obtain ⟨j, a, b, c⟩ := erase_at h'
      refine ⟨j + 1, a, fun m x hm hx => ?_, ?_⟩
      · cases m with
        | zero => cases hx; exact e
        | succ m => exact b m x (Nat.lt_of_succ_lt_succ hm) hx
      · rw [List.erase_cons_tail (by simpa using e), ← c]
        rfl
section
variable {X : Cx}
def rRemS : V → List V → Hp → VK → Prop := fun x xs H Q => ∃ (l : Addr) (ys : List Str) (z : Str), x = .ref l ∧ xs = [.str z] ∧ H l = some (.lst (ys.map V.str)) ∧ z ∈ ys ∧ Q .non (upd H l (.lst ((ys.erase z).map V.str)))
theorem mt_removeS : MtM X "list.remove" rRemS := by
  rintro pins s σ H x xs v us Q I rx rxs ⟨l, ys, z, rfl, rfl, hH, hz, q⟩
  obtain ⟨j, hj, hno, he⟩ := erase_at hz
  obtain ⟨u, rfl, t, rfl⟩ := rxs.one
  cases rx
  obtain ⟨sz, its, n, r, hl, e⟩ := I.lstM hH
  have hi : StrsAre its ys := strs_of_vals r
  have hjy := (List.getElem?_eq_some_iff.mp hj).1
  rw [List.length_map] at hl sz
  have hjl : j < its.toArray.size := by rw [List.size_toArray, ← hl]; exact hjy
  refine call_meets PySem.F.slot_list_remove ⟨_, e, rfl⟩ PySem.F.entry_list_remove (PySem.F.args_list_remove_2 _ _) (MeetsSeq.list_remove l its.toArray n (.str z t) (eqz z) (fun y hy => eqz_gives hi y (by simpa using hy)) j hjl ?_ (fun m hm hmj => ?_) (by rw [List.size_toArray, ← hl]; exact sz)) ⟨e, ?_⟩
  · obtain ⟨tj, a⟩ := strs_at' hi j z hj
    have b : its.toArray[j] = .str z tj := by have := (List.getElem?_eq_some_iff.mp a).2; simpa using this
    rw [b]
    show (z.cps.toList == z.cps.toList) = true
    exact beq_self_eq_true _
  · have hmy : m < ys.length := by rw [List.size_toArray, ← hl] at hm; exact hm
    obtain ⟨tm, a⟩ := strs_at' hi m _ (List.getElem?_eq_getElem hmy)
    have b : its.toArray[m] = .str ys[m] tm := by have := (List.getElem?_eq_some_iff.mp a).2; simpa using this
    rw [b]
    show (ys[m].cps.toList == z.cps.toList) = false
    exact beq_eq_false_iff_ne.mpr fun c => hno m _ hmj (List.getElem?_eq_getElem hmy) (str_ext c)
  · have rr := r.eraseIdx j
    rw [← erase_map, he] at rr
    refine ⟨.non, _, I.lset (its' := its.eraseIdx j) (t' := s.toks) hH e ?_ rr ?_, rfl, q⟩
    · rw [List.eraseIdxIfInBounds_toArray]
    · rw [List.length_map]
      exact Nat.le_trans (List.length_erase_le) sz
/-! tuples whose object is known to be a plain one -/
def TD (o : Obj) : Prop := o.cls = .type "tuple" ∧ o.dict = none
def TupF (H : Hp) (a : Addr) (xs : List V) : Prop := ∃ o, TD o ∧ H a = some (.frz o (.tup xs))
theorem TupF.ex {H H' : Hp} {a : Addr} {xs : List V} (h : TupF H a xs) (e : Ex H H') : TupF H' a xs := let ⟨o, d, c⟩ := h; ⟨o, d, e _ _ c⟩
theorem TupF.sq {K : PySem.W.Frag} {H : Hp} {a : Addr} {xs : List V} (h : TupF H a xs) : SqT K H a xs := let ⟨o, _, c⟩ := h; .inl (.inr ⟨o, c⟩)
theorem TupF.ne {H : Hp} {a b : Addr} {xs ys : List V} (h : TupF H a xs) (hb : H b = some (.lst ys)) : a ≠ b := fun z => by
  obtain ⟨o, _, c⟩ := h
  rw [z, hb] at c
  cases c
theorem TupF.upd {H : Hp} {a b : Addr} {xs ys : List V} {u : HO} (h : TupF H a xs) (hb : H b = some (.lst ys)) : TupF (upd H b u) a xs := by
  have n := h.ne hb
  obtain ⟨o, d, c⟩ := h
  exact ⟨o, d, by rw [upd_ne n]; exact c⟩
def rTupF (K : PySem.W.Frag) : List V → Hp → VK → Prop := fun xs H Q => ∃ p ys, xs = [.ref p] ∧ SqL K H p ys ∧ ∀ l o, H l = none → TD o → Q (.ref l) (upd H l (.frz o (.tup ys)))
theorem cr_tupF : CallR X (.type "tuple") (rTupF X.K) := by
  rintro pins s σ H xs us Q I r ⟨p, ys, rfl, hq, q⟩
  obtain ⟨u, rfl, rx⟩ := vals1 r
  cases rx
  obtain ⟨its, r', pl, hz⟩ := I.list hq
  have hlen := r'.length
  refine call_tuple_list pl.isList (fun h' kp => ?_) (by rw [List.size_toArray, ← hlen]; exact hz)
  have I1 : Inv X pins σ H { s with heap := h' } := I.kept (t' := s.toks) kp
  have hn := I1.hok.fresh (a := h'.objs.size) (Nat.le_refl _)
  refine ⟨.ref h'.objs.size, _, I1.laid (t' := s.toks) (fun b o e => Heap.get?_push_of_some _ e) (Nat.le_refl _) ?_, rfl, q _ { cls := .type "tuple", data := .seq its.toArray } hn ⟨rfl, rfl⟩⟩
  exact ⟨Heap.get?_push_size _ rfl, hz, its, r', IsTup.new _ _⟩
def tTupF (t : TA) : TE := fun σ H Q => t σ H fun xs H1 => xs.length ≤ sizeLine ∧ ∀ p o, H1 p = none → TD o → Q (.ref p) (upd H1 p (.frz o (.tup xs)))
theorem pe_tupF {es : List Expr} {k : Nat} {pos : Pos} {t : TA} (h : PA X es t) : PE X (.Tuple es k pos) (tTupF t) := by
  refine ⟨fun pins s σ H Q I hq => ?_⟩
  refine wpAny_Tuple_spliced (thn (h.run pos pins s σ H _ I hq) fun us s1 ⟨xs, H1, I1, r, z, q⟩ => ⟨by rw [← r.length]; exact z, ?_⟩)
  have hf := I1.hok.fresh (a := s1.heap.objs.size) (Nat.le_refl _)
  refine ⟨.ref s1.heap.objs.size, _, I1.laid (t' := s1.toks) (fun b u e => Heap.get?_push_of_some _ e) (Nat.le_refl _) ?_, rfl, q _ { cls := .type "tuple", data := .seq us.toArray } hf ⟨rfl, rfl⟩⟩
  exact ⟨Heap.get?_push_size _ rfl, z, us, r, ⟨_, Heap.get?_push_size _ rfl, rfl, _, rfl⟩⟩
/-! dict(t), t a tuple of pairs of texts -/
def kS (p : List Nat × List Nat) : Key × V := (.inr (tx p.1), .str (tx p.2))
theorem prs_vals {pins : List (Addr × Obj)} {σ : L2.St} {H : Hp} {s : Shared} (I : Inv X pins σ H s) : ∀ {vs : List V} {its : List Value} {ps : List (List Nat × List Nat)}, Vals vs its → Prs X.K H vs ps →
    ∃ (Ts : Nat → Addr) (prs : List (Value × Value)) (kvs : List (Key × Value)), prs.length = its.length ∧ KV (ps.map kS) kvs ∧ (∀ (j : Nat) k v, prs[j]? = some (k, v) → its[j]? = some (.ref (Ts j)) ∧ IsTup s.heap (Ts j) #[k, v]) ∧ kvs.length = prs.length ∧ ∀ (i : Nat) key v, prs[i]? = some (key, v) → ∃ k, kvs[i]? = some (k, v) ∧ keyIs k key = true
  | _, _, _, .nil, .nil => ⟨fun _ => 0, [], [], rfl, .nil, fun j k v h => by simp at h, rfl, fun i k v h => by simp at h⟩
  | _, _, _, .cons rv rvs, .cons (b := p) ⟨t, ht, c⟩ ps => by
    subst ht
    cases rv
    obtain ⟨Ts, prs, kvs, h1, h2, h3, h4, h5⟩ := prs_vals I rvs ps
    obtain ⟨us, ru, pt, _⟩ := I.tuple (st_of c)
    obtain ⟨u, y, rfl, hu, hy⟩ := vals2 ru
    refine ⟨fun j => match j with | 0 => t | j + 1 => Ts j, (u, y) :: prs, (.inr (tx p.1), y) :: kvs, by rw [List.length_cons, List.length_cons, h1], .cons ⟨rfl, hy⟩ h2, fun j k v h => ?_, by rw [List.length_cons, List.length_cons, h4], fun i k v h => ?_⟩
    · cases j with
      | zero => cases h; exact ⟨rfl, pt⟩
      | succ j => exact h3 j k v h
    · cases i with
      | zero => cases h; exact ⟨_, rfl, kV_is (P := X.prog) (w := X.w) (k := .inr (tx p.1)) hu⟩
      | succ i => exact h5 i k v h
def rDictF (K : PySem.W.Frag) : List V → Hp → VK → Prop := fun xs H Q => ∃ (a : Addr) (vs : List V) (ps : List (List Nat × List Nat)), xs = [.ref a] ∧ TupF H a vs ∧ Prs K H vs ps ∧ ∀ p, H p = none → Q (.ref p) (upd H p (.dK (mergeK [] (ps.map kS))))
theorem cr_dictF (hc : X.calm = true) : CallR X (.type "dict") (rDictF X.K) := by
  rintro pins s σ H xs us Q I r ⟨a, vs, ps, rfl, ⟨o, ⟨hcl, hdi⟩, ha⟩, hp, q⟩
  obtain ⟨u, rfl, rx⟩ := vals1 r
  cases rx
  obtain ⟨hget, hz, its, rv, ob, hob, _, n, hdat⟩ := I.hok a _ ha
  rw [hget] at hob
  cases hob
  obtain ⟨Ts, prs, kvs, h1, h2, h3, h4, h5⟩ := prs_vals I rv hp
  have hl : its.length ≤ sizeLine := by rw [← rv.length]; exact hz
  refine PySem.call_dict_pairs (knd := mixKind X.prog X.w) (kvs := kvs) (PairArg.tuple a its.toArray Ts prs) (I.ok.hd hc) ⟨⟨o, n, hget, hcl, hdi, hdat⟩, by rw [List.size_toArray, h1], fun j k v h => ?_⟩ ⟨h4, fun i k v h => h5 i k v h⟩ (by rw [h1]; exact hl) fun h' tk hd' kp => ?_
  · obtain ⟨b, c⟩ := h3 j k v h
    exact ⟨by simpa using b, .inl c⟩
  · have hm : (s.heap.objs.size == sysModules) = false := beq_eq_false_iff_ne.mpr (Nat.ne_of_gt I.big)
    have hlen : (mergeK [] (ps.map kS)).length ≤ sizeLine := by
      have z := length_mergeK (ps.map kS) []
      rw [List.length_nil, Nat.zero_add, List.length_map, ← paired_len hp] at z
      exact Nat.le_trans z hz
    exact ⟨.ref s.heap.objs.size, _, I.laid (t' := tk) (fun b o e => kp b o (by simp) e) (Nat.le_refl _) (show ObjOk X.prog X.w _ _ _ (.dK (mergeK [] (ps.map kS))) from ⟨hlen, hm, merged [] kvs, KV.merge h2 .nil, hd'⟩), rfl, q _ (I.hok.fresh (Nat.le_refl _))⟩
end
/-! what the dict of a book tells of a name -/
theorem merge_out : ∀ (ps : List (List Nat × List Nat)) (acc : List (Key × V)) (z : Str), (∀ p ∈ ps, tx p.1 ≠ z) → valV (mergeK acc (ps.map kS)) (.inr z) = valV acc (.inr z)
  | [], _, _, _ => rfl
  | p :: ps, acc, z, h => by
    show valV (mergeK (putK acc (.inr (tx p.1)) (.str (tx p.2))) (ps.map kS)) (.inr z) = _
    rw [merge_out ps _ z fun q hq => h q (List.mem_cons_of_mem _ hq), valV_put, if_neg]
    intro e
    exact h p List.mem_cons_self (Sum.inr.inj e).symm
theorem merge_in : ∀ (ps : List (List Nat × List Nat)) (acc : List (Key × V)), (ps.map (·.1)).Nodup → ∀ p ∈ ps, valV (mergeK acc (ps.map kS)) (.inr (tx p.1)) = some (.str (tx p.2))
  | [], _, _, p, h => nomatch h
  | q :: ps, acc, nd, p, h => by
    show valV (mergeK (putK acc (.inr (tx q.1)) (.str (tx q.2))) (ps.map kS)) (.inr (tx p.1)) = _
    obtain ⟨n1, n2⟩ := List.nodup_cons.mp (show (q.1 :: ps.map (·.1)).Nodup from nd)
    rcases List.mem_cons.mp h with e | e
    · subst e
      rw [merge_out ps _ _ fun r hr z => n1 (List.mem_map.mpr ⟨r, hr, tx_inj z⟩), valV_put, if_pos rfl]
    · exact merge_in ps _ n2 p e
def rowOf (rs : List (List Nat × List Nat)) (x : Str) : List Nat := ((rs.find? fun p => decide (tx p.1 = x)).map (·.2)).getD []
theorem rowOf_in : ∀ {rs : List (List Nat × List Nat)}, (rs.map (·.1)).Nodup → ∀ p ∈ rs, rowOf rs (tx p.1) = p.2
  | [], _, p, h => nomatch h
  | q :: rs, nd, p, h => by
    obtain ⟨n1, n2⟩ := List.nodup_cons.mp (show (q.1 :: rs.map (·.1)).Nodup from nd)
    unfold rowOf
    rw [List.find?_cons]
    rcases List.mem_cons.mp h with e | e
    · subst e
      simp
    · have hne : ¬ tx q.1 = tx p.1 := fun z => n1 (List.mem_map.mpr ⟨p, e, (tx_inj z).symm⟩)
      rw [decide_eq_false hne]
      exact rowOf_in n2 p e
theorem book_get {rs : List (List Nat × List Nat)} {H : Hp} {d : Addr} (nd : (rs.map (·.1)).Nodup) (hd : H d = some (.dK (mergeK [] (rs.map kS)))) {p : List Nat × List Nat} (hp : p ∈ rs) : DGet H d (.str (tx p.1)) (some (.str (tx (rowOf rs (tx p.1))))) := by
  have := DGet.k (k := .inr (tx p.1)) hd
  rw [merge_in rs [] nd p hp] at this
  rw [rowOf_in nd p hp]
  exact this
/-! a book whose rows' tuple is a plain one -/
def BookF (K : PySem.W.Frag) (H : Hp) (v : V) (n : Nat) (rs : List (List Nat × List Nat)) : Prop := ∃ t b vs, v = .ref t ∧ H t = some (.tup [.int (n : Nat), .ref b]) ∧ TupF H b vs ∧ Prs K H vs rs
theorem BookF.ex {K : PySem.W.Frag} {H H' : Hp} {v : V} {n : Nat} {rs : List (List Nat × List Nat)} (h : BookF K H v n rs) (e : Ex H H') : BookF K H' v n rs := let ⟨t, b, vs, a, c, d, f⟩ := h; ⟨t, b, vs, a, e _ _ c, d.ex e, f.ex e⟩
end Hid

namespace Hid
open PySem PySem.Spec PyProof.Rows L2
/-! enumerate(x) of a text -/
def EsIt (x : Str) : It := ⟨fun i _ => i < x.cps.size, fun i G v G' => ∃ T c, v = .ref T ∧ G T = none ∧ G' = upd G T (.tup [.int (i : Nat), .str ⟨#[c]⟩]) ∧ x.cps[i]? = some c, fun i _ => x.cps.size ≤ i⟩
def EsAt (e it : Addr) (x : Str) (t : Tok) (i : Nat) (h : Heap) : Prop := i ≤ x.cps.size ∧ (∃ old, IsEnum h e it (0 + (i : Int)) old) ∧ h.IsStrIter it (strIterType x) x t i
theorem es_turn {P : Program} {w : World} {K : PySem.W.Frag} {es : List Expr} {kk : Nat} {tp : Pos} {e it : Addr} {x : Str} {t : Tok} (hei : e ≠ it) : Turn P w K (.Tuple es kk tp) (EsIt x) (e :: [it]) e (EsAt e it x t) where
  mem := List.mem_cons_self
  obj := fun i h st b hb => by
    obtain ⟨_, ⟨old, he⟩, ⟨o1, e1, _, d1⟩⟩ := st
    have e' : b = e ∨ b = it := by simpa using hb
    rcases e' with r | r <;> rw [r]
    · exact ⟨_, he, fun v n => nomatch n⟩
    · exact ⟨o1, e1, fun v n => by rw [d1] at n; cases n⟩
  keep := fun i h h' st k => let ⟨hi, ⟨old, he⟩, ⟨o1, e1, r1⟩⟩ := st; ⟨hi, ⟨old, k e (by simp) _ he⟩, ⟨o1, k it (by simp) _ e1, r1⟩⟩
  item := by
    intro X hP hw hK hc i pins s σ H E I hf st hg
    subst hP hw hK
    have G := GoesN.enumFrom (prog := X.prog) (w := X.w) (A := X.A) (elts := es) (x1 := kk) (pos := tp) 0 (Draws.text (A := X.A.in1) (I.ok.hd hc) it x t) e hei (by simpa using hei) (by simp)
    obtain ⟨hi, st⟩ := st
    refine wpAny_mono (G.goes i s (fun v s2 => ∃ xv H', Inv X pins σ H' s2 ∧ RelV xv v ∧ (EsIt x).yld i H xv H' ∧ EsAt e it x t (i + 1) s2.heap ∧ ∀ b ∈ e :: [it], H' b = none) E hg st fun v h' tk hY st' hk htk => ?_) (fun r s1 h1 => ?_) fun _ _ e => e
    · obtain ⟨T, tt, v2, rfl, hT, ⟨c, u1, hc1, rfl⟩, o, ho, ho1, n, ho2⟩ := hY
      have new : ObjOk X.prog X.w (upd H T (.tup [.int (i : Nat), .str ⟨#[c]⟩])) h' T (.tup [.int (i : Nat), .str ⟨#[c]⟩]) := ⟨by show 2 ≤ sizeLine; decide, [_, _], .cons ⟨tt, by rw [Int.zero_add]⟩ (.cons ⟨u1, rfl⟩ .nil), ⟨o, ho, ho1, n, ho2⟩⟩
      have J := I.turnedNew (t' := tk) (ch := [e, it]) hk (fun b hb => hf b hb) hT new
      refine ⟨.ref T, _, J, rfl, ⟨T, c, rfl, I.hok.fresh hT, rfl, hc1⟩, ⟨hg, by rw [Int.natCast_add] at *; exact st'⟩, fun b hb => ?_⟩
      have hb1 : b < s.heap.objs.size := by
        obtain ⟨⟨old, he⟩, ⟨o1, e1, r1⟩⟩ := st
        have e' : b = e ∨ b = it := by simpa using hb
        rcases e' with r | r <;> rw [r]
        · exact Heap.lt_size he
        · exact Heap.lt_size e1
      rw [upd_ne (Nat.ne_of_lt (Nat.lt_of_lt_of_le hb1 hT))]
      exact (hf b hb).1
    · exact h1
  done := by
    intro X hP hw hK hc i pins s σ H E I hf st hg
    subst hP hw hK
    have G := GoesN.enumFrom (prog := X.prog) (w := X.w) (A := X.A) (elts := es) (x1 := kk) (pos := tp) 0 (Draws.text (A := X.A.in1) (I.ok.hd hc) it x t) e hei (by simpa using hei) (by simp)
    obtain ⟨hi, st⟩ := st
    obtain rfl : i = x.cps.size := Nat.le_antisymm hi hg
    exact G.stops s (fun s1 => Inv X pins σ H s1) E st fun h' tk hk htk => I.turnedL (t' := tk) (ch := [e, it]) hk fun b hb => hf b hb
  self := fun A i s Q E st h => let ⟨_, ⟨_, he⟩, _⟩ := st; wpAny_pyIter_enum he h
def iEs (ta : TA) : TI := fun σ H R => ta σ H fun vs H1 => ∃ x, vs = [.str x] ∧ R (EsIt x) H1
theorem pi_es {X : Cx} {e : Expr} {ta : TA} {p pos tp : Pos} {es : List Expr} {kk : Nat} (hg : Gl X "enumerate") (hm : X.mg "enumerate" = none) (ha : PA X [e] ta) (hs : starEach [e] X.env = [(false, eval e X.env)] := by rfl) :
    PI X (.Tuple es kk tp) (.Call (.Name "enumerate" p) [e] [] pos) (iEs ta) := by
  refine ⟨fun pins s σ H R I h => ?_⟩
  refine Call_ (ld_blt I hg hm boot_enumerate (callWith_type1 (thn (ha.run pos pins s σ H _ I h) fun us s1 ⟨vs, H1, I1, r1, x, ex, q⟩ => ?_) hs rfl))
  subst ex
  cases r1 with
  | cons r rr =>
    cases rr
    obtain ⟨t, rfl⟩ := r
    refine call_enumerate_str fun h' he hit hsz hk => wpAny_pyIter_enum he ?_
    refine ⟨s1.heap.objs.size + 1, _, _, _, H1, rfl, I1.kept (t' := s1.toks) hk, es_turn (Nat.succ_ne_self _), ⟨Nat.zero_le _, ⟨.none, he⟩, hit⟩, fun b hb => ?_, q⟩
    have e' : b = s1.heap.objs.size + 1 ∨ b = s1.heap.objs.size := by simpa using hb
    have hle : s1.heap.objs.size ≤ b := by rcases e' with z | z <;> rw [z]; exact Nat.le_add_right _ _; exact Nat.le_refl _
    exact I1.fpOk hle (I1.hok.fresh hle)
end Hid

namespace Hid
open PySem PySem.Spec PyProof.Rows L2 Evl
/-! enumerate(l, start=k) of a list -/
def EkIt (a : Addr) (k : Int) : It := ⟨fun i G => ∃ xs x, G a = some (.lst xs) ∧ xs[i]? = some x, fun i G v G' => ∃ T x, v = .ref T ∧ G T = none ∧ G' = upd G T (.tup [.int (k + (i : Int)), x]) ∧ ∀ xs, G a = some (.lst xs) → xs[i]? = some x, fun i G => ∃ xs, G a = some (.lst xs) ∧ xs.length = i⟩
def EkAt (e it a : Addr) (k : Int) (i : Nat) (h : Heap) : Prop := (∃ old, IsEnum h e it (k + (i : Int)) old) ∧ h.IsListIter it a i
theorem ek_turn {P : Program} {w : World} {K : PySem.W.Frag} {es : List Expr} {kk : Nat} {tp : Pos} {e it a : Addr} {k : Int} (hei : e ≠ it) : Turn P w K (.Tuple es kk tp) (EkIt a k) (e :: [it]) e (EkAt e it a k) where
  mem := List.mem_cons_self
  obj := fun i h st b hb => by
    obtain ⟨⟨old, he⟩, ⟨o1, e1, _, d1⟩⟩ := st
    have e' : b = e ∨ b = it := by simpa using hb
    rcases e' with r | r <;> rw [r]
    · exact ⟨_, he, fun v n => nomatch n⟩
    · exact ⟨o1, e1, fun v n => by rw [d1] at n; cases n⟩
  keep := fun i h h' st k => let ⟨⟨old, he⟩, ⟨o1, e1, r1⟩⟩ := st; ⟨⟨old, k e (by simp) _ he⟩, ⟨o1, k it (by simp) _ e1, r1⟩⟩
  item := by
    intro X hP hw hK hc i pins s σ H E I hf st hg
    subst hP hw hK
    obtain ⟨xs, x, hq, hx⟩ := hg
    have nai : a ≠ it := ne_of_none hq (hf it (by simp)).1
    have nae : a ≠ e := ne_of_none hq (hf e (by simp)).1
    obtain ⟨its, rv, p, hz⟩ := I.list (SqL.of hq)
    obtain ⟨u, hu, ru⟩ := rv.get hx
    have G := GoesN.enumFrom (prog := X.prog) (w := X.w) (A := X.A) (elts := es) (x1 := kk) (pos := tp) k (Draws.list (A := X.A.in1) (I.ok.hd hc) it a nai its.toArray) e hei (by simp; exact ⟨hei, nae.symm⟩) (by simp)
    have hi : i < its.toArray.size := by rw [List.size_toArray]; exact (List.getElem?_eq_some_iff.mp hu).1
    refine wpAny_mono (G.goes i s (fun v s2 => ∃ xv H', Inv X pins σ H' s2 ∧ RelV xv v ∧ (EkIt a k).yld i H xv H' ∧ EkAt e it a k (i + 1) s2.heap ∧ ∀ b ∈ e :: [it], H' b = none) E hi ⟨st.1, st.2, p.isList⟩ fun v h' tk hY st' hk htk => ?_) (fun r s1 h1 => h1) fun _ _ e => e
    obtain ⟨T, tt, v2, rfl, hT, hv2, o, ho, ho1, n, ho2⟩ := hY
    obtain rfl : v2 = u := by
      have hv3 : its.toArray[i]? = some v2 := hv2
      rw [List.getElem?_toArray, hu] at hv3
      exact (Option.some.inj hv3).symm
    have new : ObjOk X.prog X.w (upd H T (.tup [.int (k + (i : Int)), x])) h' T (.tup [.int (k + (i : Int)), x]) := ⟨by show 2 ≤ sizeLine; decide, [_, _], .cons ⟨tt, rfl⟩ (.cons ru .nil), ⟨o, ho, ho1, n, ho2⟩⟩
    have J := I.turnedNew (t' := tk) (ch := [e, it]) hk (fun b hb => hf b hb) hT new
    refine ⟨.ref T, _, J, rfl, ⟨T, x, rfl, I.hok.fresh hT, rfl, fun ys hy => ?_⟩, ⟨by have := st'.1; rw [Int.natCast_add] at *; exact this, st'.2.1⟩, fun b hb => ?_⟩
    · rw [hq] at hy
      cases hy
      exact hx
    · have hb1 : b < s.heap.objs.size := by
        obtain ⟨⟨old, he⟩, ⟨o1, e1, r1⟩⟩ := st
        have e' : b = e ∨ b = it := by simpa using hb
        rcases e' with r | r <;> rw [r]
        · exact Heap.lt_size he
        · exact Heap.lt_size e1
      rw [upd_ne (Nat.ne_of_lt (Nat.lt_of_lt_of_le hb1 hT))]
      exact (hf b hb).1
  done := by
    intro X hP hw hK hc i pins s σ H E I hf st hg
    subst hP hw hK
    obtain ⟨xs, hq, hx⟩ := hg
    have nai : a ≠ it := ne_of_none hq (hf it (by simp)).1
    have nae : a ≠ e := ne_of_none hq (hf e (by simp)).1
    obtain ⟨its, rv, p, hz⟩ := I.list (SqL.of hq)
    have G := GoesN.enumFrom (prog := X.prog) (w := X.w) (A := X.A) (elts := es) (x1 := kk) (pos := tp) k (Draws.list (A := X.A.in1) (I.ok.hd hc) it a nai its.toArray) e hei (by simp; exact ⟨hei, nae.symm⟩) (by simp)
    obtain rfl : i = its.toArray.size := by rw [List.size_toArray, ← rv.length]; exact hx.symm
    exact G.stops s (fun s1 => Inv X pins σ H s1) E ⟨st.1, st.2, p.isList⟩ fun h' tk hk htk => I.turnedL (t' := tk) (ch := [e, it]) hk fun b hb => hf b hb
  self := fun A i s Q E st h => let ⟨⟨_, he⟩, _⟩ := st; wpAny_pyIter_enum he h
theorem walk_ek {a : Addr} {k : Int} {xs : List V} : Walk (EkIt a k) xs.length (fun H => H a = some (.lst xs)) (YPair (fun i => some (.int (k + (i : Int)))) (fun i => xs[i]?)) := by
  refine ⟨fun i G hi q => ⟨xs, xs[i], q, List.getElem?_eq_getElem hi⟩, fun G q => ⟨xs, q, rfl⟩, fun i G v G' hi q y => ?_⟩
  obtain ⟨T, x, h1, h2, h3, h4⟩ := y
  exact ⟨T, _, x, h1, h2, h3, rfl, h4 xs q⟩
theorem callWith_typeK {M : Model} {A : Around} {E : Value → Shared → Prop} {s : Shared} {pos : Pos} {T : String} {args : List (Bool × Sem Value)} {keywords : List (Option Str × Sem Value)} {Q : Value → Shared → Prop} (hp : args.any (·.1) = false) (hk : keywords.any (·.1.isNone) = false)
    (h : wpAny M A (evalArgs (.type T) true args keywords) (fun a s₁ => wpAny M A (call (.type T) a.pos a.kw) Q E s₁) E s) : wpAny M A (callWith pos (.type T) [] args keywords) Q E s := by
  unfold callWith; refine wpAny_bind (wpAny_holding (wpAny_mono h (fun a s₁ h₁ => wpAny_bind (wpAny_standAt ?_)) fun _ _ x => x)); simp only [hp, hk, Bool.or_false]
  refine wpAny_bind (wpAny_pure ?_); exact wpAny_bind (wpAny_mono h₁ (fun r s₂ hr => wpAny_bind (wpAny_holding (wpAny_point (wpAny_pure hr)))) fun _ _ x => x)
def iEk (ta tk : TA) : TI := fun σ H R => ta σ H fun vs H1 => tk σ H1 fun ws H2 => ∃ a xs k, vs = [.ref a] ∧ ws = [.int k] ∧ H2 a = some (.lst xs) ∧ (-1000 ≤ k ∧ k ≤ 1000) ∧ R (EkIt a k) H2
theorem pi_ek {X : Cx} {e c : Expr} {ta tk : TA} {p pos tp kp : Pos} {es : List Expr} {kk : Nat} (hg : Gl X "enumerate") (hm : X.mg "enumerate" = none) (ha : PA X [e] ta) (hk : PK X [⟨some "start", c, kp⟩] tk) (hs : starEach [e] X.env = [(false, eval e X.env)] := by rfl)
    (hks : (backToKw pos (keywordEach [⟨some "start", c, kp⟩] X.env)).filterMap (·.1) = [Str.ofString "start"] := by rfl) (hall : (backToKw pos (keywordEach [⟨some "start", c, kp⟩] X.env)).all (·.1.isSome) = true := by rfl) (hno : (backToKw pos (keywordEach [⟨some "start", c, kp⟩] X.env)).any (·.1.isNone) = false := by rfl) :
    PI X (.Tuple es kk tp) (.Call (.Name "enumerate" p) [e] [⟨some "start", c, kp⟩] pos) (iEk ta tk) := by
  refine ⟨fun pins s σ H R I h => ?_⟩
  have hA := ha.run pos pins s σ H _ I h
  rw [hs] at hA
  refine wpAny_Call_Name_kw (ld_blt I hg hm boot_enumerate ?_)
  rw [hs]
  refine callWith_typeK rfl hno (evalArgs_kwB hall (thn hA fun us s1 ⟨vs, H1, I1, r1, q1⟩ => thn (hk.run pos pins s1 σ H1 _ I1 q1) fun ws s2 ⟨zs, H2, I2, r2, q2⟩ => ?_))
  rw [hks]
  obtain ⟨a, xs, k, ex, ez, hq, ⟨k0, k1⟩, q⟩ := q2
  subst ex ez
  obtain ⟨u, rfl, ru⟩ := vals1 r1
  obtain ⟨v, rfl, t, rfl⟩ := vals1 r2
  cases ru
  obtain ⟨its, rv, p', hz⟩ := I2.list (SqL.of hq)
  refine enum_begins_start (begins_list a its.toArray) p'.isList (by omega) (by omega) fun h' he hit hsz hkp => wpAny_pyIter_enum he ?_
  refine ⟨s2.heap.objs.size + 1, _, _, _, H2, rfl, I2.kept (t' := s2.toks) hkp, ek_turn (Nat.succ_ne_self _), ⟨⟨.none, by rw [show k + ((0 : Nat) : Int) = k by omega]; exact he⟩, ⟨_, hit, rfl, rfl⟩⟩, fun b hb => ?_, q⟩
  have e' : b = s2.heap.objs.size + 1 ∨ b = s2.heap.objs.size := by simpa using hb
  have hle : s2.heap.objs.size ≤ b := by rcases e' with z | z <;> rw [z]; exact Nat.le_add_right _ _; exact Nat.le_refl _
  exact I2.fpOk hle (I2.hok.fresh hle)
/-! tuple(d.values()) -/
section
variable {prog : Program} {w : World} {A : Around} {E : Value → Shared → Prop} {s : Shared} {T : String} {r d : Addr} {n : Nat} {P : Nat → Value → Prop} {OK : Heap → Prop}
theorem collect_src {Q : List Value → Shared → Prop} (K : PySem.W.KdlSrc prog w T r d n P OK) (hh : A.handled = none) (hok : OK s.heap) (hn : n ≤ sizeLine)
    (hQ : ∀ h' tk acc, (∀ b o, s.heap.get? b = some o → h'.get? b = some o) → ItemsOf P acc n → Q acc.toList { s with heap := h', toks := tk }) : wpAny (model prog w) A (collect (.ref r)) Q E s := by
  have hlt := K.there _ hok
  unfold collect
  refine wpAny_bind (wpAny_runValue ((?_ : ∀ R : Result → Shared → Prop, (∀ h' tk acc' c', (∀ b o, s.heap.get? b = some o → h'.get? b = some o) → h'.get? s.heap.objs.size = some { cls := .type "list", dict := none, data := .seq acc' c', slots := #[] } → ItemsOf P acc' n → R (.ok (.ret (.ref s.heap.objs.size))) { s with heap := h', toks := tk }) → codeAny (model prog w) A _ R s) _ fun h' tk acc' c' hk hS' hacc => ?_))
  · intro R hR
    refine codeAny_builtin F.entry_proto_collect ?_
    rw [Around.under_plainId F.plain_proto_collect _]
    show wpAny _ A.in1 (newList [] >>= fun l => again (.builtin "list.__iadd__" ⟨[l, .ref r], []⟩)) _ _ s
    refine wpAny_bind (wpAny_newObj_type ?_); refine wpAny_pure ⟨plainId_quiet F.plain_list_iadd _, codeAny_builtin F.entry_list_iadd ?_⟩; rw [Around.under_plainId F.plain_list_iadd _]
    show wpAny _ A.in1 (Builtin.List.listExtendWith (.ref s.heap.objs.size) (.ref r) (.ref s.heap.objs.size)) _ _ _
    exact PySem.W.kdl_extend (R := R) (s := { s with heap := s.heap.push { cls := .type "list", data := .seq ([] : List Value).toArray } }) K hh (K.keep _ _ hok fun b _ o e => Heap.get?_push_of_some _ e) _ (Nat.ne_of_gt hlt.1) (Nat.ne_of_gt hlt.2) _ 0 (Heap.get?_push_size _ rfl) (fun h' tk acc' c' hk hS' hacc => hR h' tk acc' c' (fun b o e => hk b o (Nat.ne_of_lt (Heap.lt_size e)) (Heap.get?_push_of_some _ e)) hS' hacc) hn
  · show wpAny _ A (load s.heap.objs.size >>= _) _ _ _
    refine wpAny_bind (wpAny_load hS' ?_)
    exact wpAny_pure (hQ h' tk acc' hk hacc)
theorem tupSrc {Q : Value → Shared → Prop} (K : PySem.W.KdlSrc prog w T r d n P OK) (hh : A.handled = none) (hok : OK s.heap) (hn : n ≤ sizeLine)
    (hQ : ∀ (h' : Heap) (tk : Nat) (acc : Array Value), (∀ b o, s.heap.get? b = some o → h'.get? b = some o) → ItemsOf P acc n → Q (.ref h'.objs.size) { s with heap := h'.push { cls := .type "tuple", data := .seq acc }, toks := tk }) :
    wpAny (model prog w) A (call (.type "tuple") [.ref r]) Q E s := by
  have code : codeAny (model prog w) A.in1 (.call (.builtin "tuple.__new__") ⟨[.type "tuple", .ref r], []⟩) (wants (fun obj s₁ => s₁.TypeIs obj "tuple" ∧ Q obj s₁) E) s := by
    refine codeAny_of_tree ?_
    show wpAny _ A.in1.in1 (do checkBuiltinCall "tuple.__new__" ⟨[.type "tuple", .ref r], []⟩; again (.builtin "tuple.__new__" ⟨[.type "tuple", .ref r], []⟩)) _ _ s
    refine wpAny_bind (wpAny_of_eq (F.newCall_tuple_1 _) (wpAny_pure ⟨plainId_quiet F.plain_tuple_new _, codeAny_builtin F.entry_tuple_new ?_⟩)); rw [Around.under_plainId F.plain_tuple_new _]
    have hsub := sub_tuple_self; have hinit := init_tuple_lookup; have hmh := madeHere_tuple
    have hTI : s.TypeIs (.ref r) T := K.type s hok
    have hnt := K.notTuple
    wp_walk using wpAny_typeOf hTI, collect_src (A := A.in1.in1) K hh hok hn
    intro h' tk acc hk hacc
    show wpAny _ _ (Builtin.Tuple.tupleExact acc.toList.toArray >>= fun v => ret v) _ _ _
    unfold Builtin.Tuple.tupleExact; refine wpAny_bind (wpAny_newObj_type ?_ (by show acc.toList.toArray.size ≤ sizeLine; simp only [Array.toArray_toList]; rw [hacc.1]; exact hn)) <;> refine wpAny_pure ?_
    rw [show acc.toList.toArray = acc by simp]
    exact ⟨⟨_, Heap.get?_push_size _ rfl, rfl⟩, hQ h' tk acc hk hacc⟩
  refine callType_codes (Q₁ := fun obj s₁ => s₁.TypeIs obj "tuple" ∧ Q obj s₁) F.called_tuple (F.typeCall_tuple_1 _) F.entry_object_init code fun obj s₁ h₁ => ?_
  exact ⟨h₁.1, F.args_object_init_2 obj _, object_init_meets F.called_tuple.init.lookup F.called_tuple.made (by decide) prog w A.in1 _ s₁ ⟨h₁.1, rfl, h₁.2⟩⟩
end
def tTupVals (te : TE) : TE := fun σ H Q => te σ H fun x H1 => ∃ d kvs, x = .ref d ∧ H1 d = some (.dK kvs) ∧ ∀ p o, H1 p = none → TD o → Q (.ref p) (upd H1 p (.frz o (.tup (kvs.map (·.2)))))
theorem pe_tupVals {X : Cx} {e : Expr} {te : TE} {p pos apos cpos : Pos} (hc : X.calm = true) (hg : Gl X "tuple") (hm : X.mg "tuple" = none) (he : PE X e te) (hbase : attributeBase e "values" X.env (eval e X.env) = eval e X.env := by rfl) (hline : (apos.endLine == cpos.line) = true := by rfl)
    (hs : starEach [.Call (.Attribute e "values" apos) [] [] cpos] X.env = (false, eval (.Call (.Attribute e "values" apos) [] [] cpos) X.env) :: starEach [] X.env := by rfl) :
    PE X (.Call (.Name "tuple" p) [.Call (.Attribute e "values" apos) [] [] cpos] [] pos) (tTupVals te) := by
  refine ⟨fun pins s σ H Q I h => ?_⟩
  refine Call_ (ld_blt I hg hm (by decide +kernel : bootBuiltins "tuple" = some (.type "tuple")) (callWith_type1 (args_cons ?_ hs) hs rfl))
  refine wpAny_Call_method (T := "dict") (id := "dict.values") hbase rfl hline PySem.F.plainAttrs_dict PySem.F.slot_dict_values PySem.F.type_dict_values (thn (he.run pins s σ H _ I h) fun u s1 ⟨x, H1, I1, rx, d, kvs, ex, hd, q⟩ => ?_)
  subst ex
  obtain rfl : u = Value.ref d := rx
  obtain ⟨hz, hsy, vs, kv, hD⟩ := I1.hok d _ hd
  have hl : kvs.length = vs.length := Paired.length kv
  refine ⟨hD.typeIs, hD.mapOf.noDict, ?_⟩
  have I2 : Inv X pins σ H1 { s1 with heap := s1.heap.push { cls := .type "dict_values", data := .fields #[.ref d] } } := I1.kept (t' := s1.toks) fun b ob q => Heap.get?_push_of_some _ q
  have hh := I1.ok.hd hc
  have fin : wpAny (model X.prog X.w) X.A (call (.type "tuple") [.ref s1.heap.objs.size]) (EP X pins σ Q) X.xe { s1 with heap := s1.heap.push { cls := .type "dict_values", data := .fields #[.ref d] } } := by
    obtain ⟨o, es, ep, ho, hx⟩ := hD
    refine tupSrc (n := vs.length) (PySem.W.kdl_values (knd := mixKind X.prog X.w) (kvs := vs) (ep := ep) (d := d) (r := s1.heap.objs.size)) hh ⟨⟨_, Heap.get?_push_size _ rfl, rfl, rfl⟩, ?_⟩ (by rw [← hl]; exact hz) fun h' tk acc hk hacc => ?_
    · exact ⟨o, es, Heap.get?_push_of_some _ ho, hx⟩
    · have I3 : Inv X pins σ H1 { s1 with heap := h', toks := tk } := I1.kept (t' := tk) fun b ob e => hk b ob (Heap.get?_push_of_some _ e)
      have rv : Vals (kvs.map (·.2)) acc.toList := by
        have key : ∀ {kvs : List (Key × V)} {vs : List (Key × Value)}, KV kvs vs → ∀ us : List Value, us.length = vs.length → (∀ (j : Nat) v, us[j]? = some v → ∃ k, vs[j]? = some (k, v)) → Vals (kvs.map (·.2)) us := by
          intro kvs vs kv
          induction kv with
          | nil =>
            intro us hl _
            cases us with
            | nil => exact .nil
            | cons u us => cases hl
          | @cons a b l m r t ih =>
            intro us hl hu
            cases us with
            | nil => cases hl
            | cons u us =>
              obtain ⟨k, hk⟩ := hu 0 u rfl
              have hb : b = (k, u) := Option.some.inj hk
              subst hb
              exact .cons r.2 (ih us (by simpa using hl) fun j v hj => hu (j + 1) v hj)
        refine key kv acc.toList (by rw [Array.length_toList]; exact hacc.1) fun j v hj => hacc.2 j v (by rw [← Array.getElem?_toList]; exact hj)
      have hlen : (kvs.map (·.2)).length ≤ sizeLine := by rw [List.length_map]; exact hz
      refine ⟨.ref h'.objs.size, _, I3.laid (t' := tk) (fun c o e => Heap.get?_push_of_some _ e) (Nat.le_refl _) ?_, rfl, q _ { cls := .type "tuple", data := .seq acc } (I3.hok.fresh (Nat.le_refl _)) ⟨rfl, rfl⟩⟩
      refine ⟨Heap.get?_push_size _ rfl, hlen, acc.toList, rv, ?_⟩
      rw [Array.toArray_toList]; exact IsTup.new _ _
  show wpAny _ _ (callWith cpos (.builtin "dict.values") [.ref d] [] []) _ X.xe s1
  exact method_meetsIn PySem.F.slot_dict_values PySem.F.entry_dict_values rfl (PySem.evalArgs_none ⟨rfl, hD.typeIs, PySem.F.args_dict_values_1 _, _, meets_dict_values (mixKind X.prog X.w) d hsy, ⟨vs, hD⟩, args_nil fin⟩)
end Hid

namespace Hid
open PySem PySem.Spec PyProof.Rows L2
/-! texts laid together with one sign between, and parted again -/
def jn (c : Nat) : List (List Nat) → List Nat
  | [] => []
  | [l] => l
  | l :: m :: r => l ++ c :: jn c (m :: r)
theorem join_jn (c : Nat) : ∀ ls : List (List Nat), Txt.join (sg1 c) (ls.map tx) = tx (jn c ls) := by
  intro ls
  show Builtin.Str.glued _ _ = _
  rw [StrLaws.glued_eq_join]
  induction ls with
  | nil => rfl
  | cons l r ih =>
    cases r with
    | nil => rfl
    | cons m r =>
      have e : Str.join (sg1 c) ((l :: m :: r).map tx) = tx l ++ sg1 c ++ Str.join (sg1 c) ((m :: r).map tx) := rfl
      rw [e, ih]
      show (⟨(l.toArray ++ #[c]) ++ (jn c (m :: r)).toArray⟩ : Str) = ⟨(l ++ c :: jn c (m :: r)).toArray⟩
      simp
theorem cut_at {c : Nat} : ∀ {l m r s : List Nat}, c ∉ l → c ∉ m → l ++ c :: r = m ++ c :: s → l = m ∧ r = s
  | [], [], r, s, _, _, e => by simp at e; exact ⟨rfl, e⟩
  | [], y :: m, r, s, _, hm, e => by
    simp at e
    exact absurd (by rw [e.1]; exact List.mem_cons_self) hm
  | x :: l, [], r, s, hl, _, e => by
    simp at e
    exact absurd (by rw [e.1]; exact List.mem_cons_self) hl
  | x :: l, y :: m, r, s, hl, hm, e => by
    simp at e
    obtain ⟨a, b⟩ := cut_at (fun z => hl (List.mem_cons_of_mem _ z)) (fun z => hm (List.mem_cons_of_mem _ z)) e.2
    exact ⟨by rw [e.1, a], b⟩
theorem jn_inj {c : Nat} : ∀ {ls ms : List (List Nat)}, ls ≠ [] → ms ≠ [] → (∀ l ∈ ls, c ∉ l) → (∀ l ∈ ms, c ∉ l) → jn c ls = jn c ms → ls = ms
  | [], _, h, _, _, _, _ => absurd rfl h
  | _ :: _, [], _, h, _, _, _ => absurd rfl h
  | [l], [m], _, _, _, _, e => by
    have : l = m := e
    rw [this]
  | [l], m :: m' :: r, _, _, hl, _, e => by
    have e' : l = m ++ c :: jn c (m' :: r) := e
    exact absurd (by rw [e']; simp) (hl l List.mem_cons_self)
  | l :: l' :: r, [m], _, _, _, hm, e => by
    have e' : l ++ c :: jn c (l' :: r) = m := e
    exact absurd (by rw [← e']; simp) (hm m List.mem_cons_self)
  | l :: l' :: r, m :: m' :: s, _, _, hl, hm, e => by
    have e' : l ++ c :: jn c (l' :: r) = m ++ c :: jn c (m' :: s) := e
    obtain ⟨a, b⟩ := cut_at (hl l List.mem_cons_self) (hm m List.mem_cons_self) e'
    rw [a, jn_inj (by simp) (by simp) (fun x hx => hl x (List.mem_cons_of_mem _ hx)) (fun x hx => hm x (List.mem_cons_of_mem _ hx)) b]
theorem split_jn {c : Nat} {ls : List (List Nat)} (h0 : ls ≠ []) (hf : ∀ l ∈ ls, c ∉ l) : Txt.split (tx (jn c ls)) (sg1 c) = ls.map tx := by
  have h1 := StrLaws.join_split (tx (jn c ls)) (sg1 c)
  have h2 := StrLaws.split_free (tx (jn c ls)) c
  have h3 : 1 ≤ (Txt.split (tx (jn c ls)) (sg1 c)).length := PyProof.Rows.split_pos _ _
  generalize hP : Txt.split (tx (jn c ls)) (sg1 c) = parts at h1 h3
  rw [show (⟨#[c]⟩ : Str) = sg1 c from rfl, hP] at h2
  have hm : parts = (parts.map fun p => p.cps.toList).map tx := by
    rw [List.map_map, show (tx ∘ fun p : Str => p.cps.toList) = id from funext fun z => tx_cps z, List.map_id]
  have h4 : Txt.join (sg1 c) ((parts.map fun p => p.cps.toList).map tx) = tx (jn c ls) := by
    rw [← hm]
    show Builtin.Str.glued _ _ = _
    rw [StrLaws.glued_eq_join]
    exact h1
  rw [join_jn] at h4
  have h5 := jn_inj (c := c) (by intro z; rw [List.map_eq_nil_iff] at z; rw [z] at h3; exact absurd h3 (by decide)) h0 (fun l hl => by
    obtain ⟨p, hp, rfl⟩ := List.mem_map.mp hl
    exact h2 p hp) hf (tx_inj h4)
  rw [hm, h5]
/-! a book as a text -/
def lineP (n : Nat) : List Nat := [112, 108, 97, 99, 101, 115, 32, 48 + n]
def lineR (p : List Nat × List Nat) : List Nat := p.1 ++ 32 :: p.2
def bookT (n : Nat) (rs : List (List Nat × List Nat)) : List Nat := jn 10 (lineP n :: rs.map lineR)
theorem jn_snoc (c : Nat) : ∀ (l : List Nat) (r : List (List Nat)) (m : List Nat), jn c (l :: r ++ [m]) = jn c (l :: r) ++ c :: m
  | l, [], m => rfl
  | l, x :: r, m => by
    show l ++ c :: jn c (x :: r ++ [m]) = (l ++ c :: jn c (x :: r)) ++ c :: m
    rw [jn_snoc c x r m]
    simp
theorem bookT_snoc (n : Nat) (rs : List (List Nat × List Nat)) (p : List Nat × List Nat) : bookT n (rs ++ [p]) = bookT n rs ++ 10 :: lineR p := by
  unfold bookT
  rw [List.map_append]
  exact jn_snoc 10 _ _ _
theorem lineR_split {p : List Nat × List Nat} (h1 : 32 ∉ p.1) (h2 : 32 ∉ p.2) : Txt.split (tx (lineR p)) (sg1 32) = [tx p.1, tx p.2] := by
  have := split_jn (c := 32) (ls := [p.1, p.2]) (by simp) (by
    intro l hl
    rcases List.mem_cons.mp hl with e | e
    · rw [e]; exact h1
    · rw [List.mem_singleton.mp e]; exact h2)
  exact this
theorem name_free {z : List Nat} (h : NameL z) {c : Nat} (hc : c < 97) : c ∉ z := fun hm => by have := (h.2 c hm).1; omega
theorem row_free {z : List Nat} (h : RowL z) {c : Nat} (hc : c < 97) : c ∉ z := fun hm => by rcases h.2 c hm with e | e | e <;> omega
theorem bookT_split {n : Nat} {rs : List (List Nat × List Nat)} (h : BookOk n rs) : Txt.split (tx (bookT n rs)) (sg1 10) = (lineP n :: rs.map lineR).map tx := by
  refine split_jn (by simp) fun l hl => ?_
  rcases List.mem_cons.mp hl with e | e
  · rw [e]
    unfold lineP
    simp
    omega
  · obtain ⟨p, hp, rfl⟩ := List.mem_map.mp e
    unfold lineR
    intro hm
    rcases List.mem_append.mp hm with z | z
    · exact name_free (h.hm p hp) (by decide) z
    · rcases List.mem_cons.mp z with z | z
      · cases z
      · exact row_free (h.hr p hp).1 (by decide) z
theorem bookT_len {n : Nat} {rs : List (List Nat × List Nat)} (h : BookOk n rs) : (bookT n rs).length ≤ 8 + 18 * rs.length := by
  have key : ∀ (l : List Nat) (ls : List (List Nat)), (∀ x ∈ ls, x.length ≤ 17) → (jn 10 (l :: ls)).length ≤ l.length + 18 * ls.length := by
    intro l ls
    induction ls generalizing l with
    | nil => intro _; exact Nat.le_refl _
    | cons m r ih =>
      intro hh
      have := ih m fun x hx => hh x (List.mem_cons_of_mem _ hx)
      have h2 := hh m List.mem_cons_self
      show (l ++ 10 :: jn 10 (m :: r)).length ≤ _
      rw [List.length_append, List.length_cons, List.length_cons]
      omega
  have := key (lineP n) (rs.map lineR) fun x hx => by
    obtain ⟨p, hp, rfl⟩ := List.mem_map.mp hx
    have a := (h.hm p hp).1
    have b := (h.hr p hp).1.1
    unfold lineR
    rw [List.length_append, List.length_cons]
    omega
  rw [List.length_map] at this
  exact this
theorem digit_str {n : Nat} (h : 1 ≤ n ∧ n ≤ 8) : (Str.ofString (toString (n : Int))) = sg1 (48 + n) := by
  have : n = 1 ∨ n = 2 ∨ n = 3 ∨ n = 4 ∨ n = 5 ∨ n = 6 ∨ n = 7 ∨ n = 8 := by omega
  rcases this with e | e | e | e | e | e | e | e <;> subst e <;> decide +kernel
end Hid

namespace Hid
open PySem PySem.Spec PyProof.Rows L2 Evl
/-! values told by their data -/
section
variable {K : PySem.W.Frag} {σ : L2.St} {H H' : Hp} {ta tb te tl : TE}
def EvD (K : PySem.W.Frag) (te : TE) (σ : L2.St) (H : Hp) (d : PyData) : Prop := ∀ H1, Ex H H1 → ∀ Q : VK, (∀ v H2, Ex H1 H2 → (∀ H3, Ex H2 H3 → Dp K H3 v d) → Q v H2) → te σ H1 Q
theorem ed_ev {v : V} {d : PyData} (h : Ev te σ H v) (hd : ∀ H1, Ex H H1 → Dp K H1 v d) : EvD K te σ H d := fun H1 e Q q => h H1 e _ fun H2 e2 => q v H2 e2 fun H3 e3 => hd H3 (e.trans (e2.trans e3))
theorem ed_tup2 {x : V} {dx d : PyData} (ha : Ev ta σ H x) (hx : ∀ G, Dp K G x dx) (hb : EvD K tb σ H d) : EvD K (tTup (tCons ta (tCons tb tNil))) σ H (.tuple [dx, d]) := fun H1 e Q q =>
  ha H1 e _ fun H2 e2 => hb H2 (e.trans e2) _ fun v H3 e3 hv => ⟨by show 2 ≤ sizeLine; decide, fun p np => q _ _ (e2.trans (e3.trans (Ex.new np))) fun H4 e4 => .tup (st_of (e4 _ _ upd_same)) (.cons (hx _) (.cons (hv H4 ((Ex.new np).trans e4)) .nil))⟩
theorem ev_eqD {d : PyData} (ha : EvD K ta σ H d) (hb : EvD K tb σ H d) (hs : SeqAt.shaped d = true) : Ev (tOp (rEqD K) ta tb) σ H (.bl true) := fun H1 e Q q =>
  ha H1 e _ fun v H2 e2 hv => hb H2 (e.trans e2) _ fun u H3 e3 hu => ⟨d, d, hv H3 e3, hu H3 (Ex.refl _), hs, hs, by rw [SeqAt.eqv_refl _ (SeqAt.canLay_of_shaped hs)]; exact q H3 (e2.trans e3)⟩
theorem ev_neD {d : PyData} (ha : EvD K ta σ H d) (hb : EvD K tb σ H d) (hs : SeqAt.shaped d = true) : Ev (tOp (rNeD K) ta tb) σ H (.bl false) := fun H1 e Q q =>
  ha H1 e _ fun v H2 e2 hv => hb H2 (e.trans e2) _ fun u H3 e3 hu => ⟨d, d, hv H3 e3, hu H3 (Ex.refl _), hs, hs, by rw [SeqAt.eqv_refl _ (SeqAt.canLay_of_shaped hs)]; exact q H3 (e2.trans e3)⟩
end
/-! books as data -/
def dBook (n : Nat) (rs : List (List Nat × List Nat)) : PyData := .tuple [.int (n : Nat), .tuple (rs.map dSS)]
theorem BookF.dp {K : PySem.W.Frag} {H : Hp} {v : V} {n : Nat} {rs : List (List Nat × List Nat)} (h : BookF K H v n rs) : Dp K H v (dBook n rs) := by
  obtain ⟨t, b, vs, rfl, c, d, p⟩ := h
  exact .tup (st_of c) (.cons (.int _) (.cons (.tup d.sq (Prs.dp p)) .nil))
theorem shaped_book {n : Nat} {rs : List (List Nat × List Nat)} (h : ∀ p ∈ rs, (∀ c ∈ p.1, c < 200) ∧ ∀ c ∈ p.2, c < 200) : SeqAt.shaped (dBook n rs) = true := by
  have a := (shaped_prs rs h).2
  unfold SeqAt.shaped at a ⊢
  rw [Bool.and_eq_true] at a ⊢
  obtain ⟨a1, a2⟩ := a
  have a2' := of_decide_eq_true a2
  have b2 : ∀ ps : List (List Nat × List Nat), PyData.depthAll (ps.map dSS) ≤ 4 := by
    intro ps
    induction ps with
    | nil => exact Nat.zero_le _
    | cons p ps ih =>
      show max (PyData.depth (dSS p)) (PyData.depthAll (ps.map dSS)) ≤ 4
      have : PyData.depth (dSS p) ≤ 4 := by simp [dSS, PyData.depth, PyData.depthAll]
      omega
  have b3 := b2 rs
  refine ⟨?_, decide_eq_true ?_⟩
  · show (PyData.canLayAll0 [.int (n : Nat), .tuple (rs.map dSS)]) = true
    show (PyData.canLay0 (.int (n : Nat)) && (PyData.canLay0 (.tuple (rs.map dSS)) && true)) = true
    rw [a1]
    rfl
  · simp only [dBook, PyData.depth, PyData.depthAll]
    omega
theorem BookOk.sub {n : Nat} {rs qs : List (List Nat × List Nat)} (h : BookOk n rs) (hl : qs.length ≤ 10) (hm : ∀ p ∈ qs, p ∈ rs) (hd : (qs.map (·.1)).Nodup) : BookOk n qs := ⟨h.hn, hl, fun p hp => h.hr p (hm p hp), fun p hp => h.hm p (hm p hp), hd⟩
theorem BookOk.perm {n : Nat} {rs qs : List (List Nat × List Nat)} (h : BookOk n rs) (p : qs.Perm rs) : BookOk n qs := h.sub (by rw [p.length_eq]; exact h.hl) (fun x hx => p.mem_iff.mp hx) ((p.map (·.1)).nodup_iff.mpr h.hd)
theorem BookOk.subl {n : Nat} {rs qs : List (List Nat × List Nat)} (h : BookOk n rs) (s : qs.Sublist rs) : BookOk n qs := h.sub (Nat.le_trans s.length_le h.hl) (fun x hx => s.subset hx) (h.hd.sublist (s.map _))
def NoN (K : PySem.W.Frag) (H : Hp) (t : Addr) (xs : List V) : Prop := H t = some (.tup xs) ∨ TupF H t xs
theorem NoN.sq {K : PySem.W.Frag} {H : Hp} {t : Addr} {xs : List V} (h : NoN K H t xs) : SqT K H t xs := h.elim st_of TupF.sq
theorem NoN.ty {K : PySem.W.Frag} {H : Hp} {t : Addr} {xs : List V} (h : NoN K H t xs) : TyX K H (.ref t) (.type "tuple") := h.elim (fun e => .base (.tup e)) fun ⟨o, _, c⟩ => .fTuple c
theorem NoN.ex {K : PySem.W.Frag} {H H' : Hp} {t : Addr} {xs : List V} (h : NoN K H t xs) (e : Ex H H') : NoN K H' t xs := h.elim (fun c => .inl (e _ _ c)) fun c => .inr (c.ex e)
end Hid

namespace Hid
open PySem PySem.Spec PyProof.Rows L2
/-! ### set comprehensions of one clause and of two: a clause's loop over any work at its turn's end -/
abbrev No : Value → Shared → Prop := fun _ _ => False
/-- a clause's turn, the work at its end told apart -/
def turnOf (p : Pos) (t : Expr) (ifs : List Expr) (it : Value) (env : Env) (work : Sem Unit) (nxt : Sem PySem.Fin) : Sem PySem.Fin := do
  standAt p
  match ← pyNext it with
  | none => pure (.done .next)
  | some v =>
    letOwnedTupleGo t it v
    assign t env v
    let mut ok := true
    for c in ifs do
      if ok then ok ← isTrue c env (eval c env)
    if ok then work
    nxt
section
variable {prog : Program} {w : World} {A : Around} {R : Result → Shared → Prop} {s : Shared} {elt t : Expr} {gens : List Comprehension} {scope : Scope} {spos : Pos} {k : Nat} {it acc : Value} {env : Env} {p : Pos} {ifs : List Expr} {work : Sem Unit}
theorem own_loop (hturn : compTurn (.SetComp elt gens scope spos) k it acc env = turnOf p t ifs it env work (again (.compLoop (.SetComp elt gens scope spos) k it acc env))) (I : Nat → Shared → Prop)
    (turn : ∀ n s, I n s → wpAny (model prog w) A (pyNext it) (fun r s1 => match r with
      | none => R (.ok .next) s1
      | some v => wpAny (model prog w) A (letOwnedTupleGo t it v) (fun _ s2 => wpAny (model prog w) A (assign t env v) (fun _ s3 =>
        wpAny (model prog w) A (forIn ifs true fun c r => if r = true then do let ok ← isTrue c env (eval c env); pure (ForInStep.yield ok) else pure (ForInStep.yield r)) (fun ok s4 =>
          if ok = true then wpAny (model prog w) A work (fun _ s5 => ∃ m, m < n ∧ I m s5) No s4 else ∃ m, m < n ∧ I m s4) No s3) No s2) No s1) No s) (n : Nat) (h : I n s) :
    codeAny (model prog w) A (.compLoop (.SetComp elt gens scope spos) k it acc env) R s := by
  refine codeAny_loop rfl I (fun n s hI => ?_) n h
  show wpAny _ A ((compTurn (.SetComp elt gens scope spos) k it acc env).onRaise fun x => do noteFrame x env; theTreesLotGoes x) _ _ s
  refine wpAny_noted ?_
  rw [hturn]
  refine wpAny_bind (wpAny_standAt (wpAny_bind (thnF (turn n s hI) fun r s1 h1 => ?_)))
  cases r with
  | none => exact wpAny_pure h1
  | some v =>
    refine wpAny_bind (thnF h1 fun _ s2 h2 => wpAny_bind (thnF h2 fun _ s3 h3 => wpAny_bind (thnF h3 fun ok s4 h4 => ?_)))
    cases ok with
    | false => exact wpAny_pure ⟨rfl, h4⟩
    | true => exact wpAny_bind (thnF h4 fun _ s5 h5 => wpAny_pure ⟨rfl, h5⟩)
end
/-- the work at a turn's end reads so: what is known of the slots outside vs stays -/
def PB (Y : Cx) (vs : List Nat) (work : Sem Unit) (tb : L2.St → Hp → (Hp → Prop) → Prop) : Prop := ∀ (pins : List (Addr × Obj)) (s : Shared) (σ : L2.St) (H : Hp) (Nx : Hp → Prop), Inv Y pins σ H s → tb σ H Nx →
  wpAny (model Y.prog Y.w) Y.A work (fun _ s' => ∃ σ' H', Inv Y pins σ' H' s' ∧ (σ'.length = σ.length ∧ ∀ (j : Nat) v, (wipe σ vs)[j]? = some (some v) → σ'[j]? = some (some v)) ∧ Nx H') No s
/-- what a clause wishes: W over the turns -/
def Cla (J : It) (g : TG) (tt : TT) (tb : L2.St → Hp → (Hp → Prop) → Prop) (vs : List Nat) (σ : L2.St) (QD : Hp → Prop) (W : Nat → Nat → Hp → Prop) : Prop := ∀ i m H, W i m H → (J.stop i H ∧ QD H) ∨ (J.go i H ∧ ∃ Nx : Hp → Prop, (∀ H', Nx H' → ∃ m', m' < m ∧ W (i + 1) m' H') ∧
  ∀ x H', J.yld i H x H' → g x (wipe σ vs) H' fun σ2 H2 => wipe σ2 vs = wipe σ vs ∧ tt σ2 H2 fun b H3 => if b = true then tb σ2 H3 Nx else Nx H3)
section
variable {Y : Cx} {elt tg : Expr} {gens : List Comprehension} {scope : Scope} {spos : Pos} {k : Nat} {acc : Value} {p : Pos} {ifs : List Expr} {work : Sem Unit} {g : TG} {tt : TT} {tb : L2.St → Hp → (Hp → Prop) → Prop} {vs : List Nat} {σ : L2.St} {J : It} {fp : List Addr} {it : Addr} {tn : Nat → Heap → Prop} {QD : Hp → Prop} {W : Nat → Nat → Hp → Prop}
theorem cla_loop (hc : Y.calm = true) (hxe : Y.xe = No) (hturn : compTurn (.SetComp elt gens scope spos) k (.ref it) acc Y.env = turnOf p tg ifs (.ref it) Y.env work (again (.compLoop (.SetComp elt gens scope spos) k (.ref it) acc Y.env))) (pg : PG Y tg g) (pt : PTs Y ifs tt) (pb : PB Y vs work tb)
    (T : Turn Y.prog Y.w Y.K tg J fp it tn) (pins : List (Addr × Obj)) (hfp : ∀ H' : Hp, (∀ b ∈ fp, H' b = none) → ∀ b ∈ fp, FpOk Y pins H' b) (cla : Cla J g tt tb vs σ QD W)
    (m i : Nat) (s : Shared) (H : Hp) (I : Inv Y pins (wipe σ vs) H s) (st : tn i s.heap) (hn : ∀ b ∈ fp, H b = none) (w0 : W i m H) {R : Result → Shared → Prop} (hR : ∀ s' H', Inv Y pins (wipe σ vs) H' s' → QD H' → R (.ok .next) s') :
    codeAny (model Y.prog Y.w) Y.A (.compLoop (.SetComp elt gens scope spos) k (.ref it) acc Y.env) R s := by
  refine own_loop hturn (fun n s' => ∃ i H', Inv Y pins (wipe σ vs) H' s' ∧ tn i s'.heap ∧ (∀ b ∈ fp, H' b = none) ∧ W i n H') (fun n s5 hI => ?_) m ⟨i, H, I, st, hn, w0⟩
  obtain ⟨i, H5, I5, st5, n5, w5⟩ := hI
  rcases cla i n H5 w5 with ⟨stop, qd⟩ | ⟨go, Nx, hNx, step⟩
  · exact wpAny_mono (T.done Y rfl rfl rfl hc i pins s5 _ H5 No I5 (hfp H5 n5) st5 stop) (fun r s6 ⟨hr, I6⟩ => by subst hr; exact hR s6 H5 I6 qd) fun _ _ z => z
  · refine wpAny_mono (T.item Y rfl rfl rfl hc i pins s5 _ H5 No I5 (hfp H5 n5) st5 go) (fun r s6 ⟨u, hr, h6⟩ => ?_) fun _ _ z => z
    subst hr
    refine wpAny_mono h6 (fun _ s7 ⟨x, H7, I7, r7, y7, st7, n7⟩ => ?_) fun _ _ z => z
    have J7 := I7.pinned (hfp H7 n7) (T.obj _ _ st7)
    refine wpAny_mono (pg.run _ s7 _ H7 x u _ J7 r7 (step x H7 y7)) (fun _ s8 ⟨σ8, H8, I8, hw8, q8⟩ => ?_) fun _ _ z => by rw [hxe] at z; exact z
    refine wpAny_mono (pt.run _ s8 σ8 H8 _ I8 q8) (fun b s9 ⟨H9, I9, q9⟩ => ?_) fun _ _ z => by rw [hxe] at z; exact z
    have back : ∀ {σ9 : L2.St} {s' : Shared} {H' : Hp}, Inv Y (pins ++ pinsAt fp s7.heap) σ9 H' s' → σ9.length = σ8.length → (∀ (j : Nat) v, (wipe σ8 vs)[j]? = some (some v) → σ9[j]? = some (some v)) → Nx H' →
        ∃ m, m < n ∧ ∃ i H', Inv Y pins (wipe σ vs) H' s' ∧ tn i s'.heap ∧ (∀ b ∈ fp, H' b = none) ∧ W i m H' := fun {σ9 s' H'} I' hl hk nx => by
      obtain ⟨m', hm, w'⟩ := hNx H' nx
      have at7 : ∀ b ∈ fp, ∀ o, s7.heap.get? b = some o → s'.heap.get? b = some o ∧ H' b = none := fun b hb o eo => (I'.pin (b, o) (List.mem_append_right _ (List.mem_append_right _ (mem_pinsAt hb eo)))).imp id fun z => z.1
      refine ⟨m', hm, i + 1, H', (I'.unpinned (pins := pins)).weak (by rw [← hw8, wipe_length, hl]) (fun j v ej => hk j v (by rw [hw8]; exact ej)), T.keep _ _ _ st7 fun b hb o eo => (at7 b hb o eo).1, fun b hb => ?_, w'⟩
      obtain ⟨o, eo, _⟩ := T.obj _ _ st7 b hb
      exact (at7 b hb o eo).2
    cases b with
    | false => exact back I9 rfl (fun j v ej => (wipe_some ej).1) (by simpa using q9)
    | true => exact wpAny_mono (pb _ s9 σ8 H9 Nx I9 (by simpa using q9)) (fun _ s' ⟨σ', H', I', ⟨hl, hk⟩, nx⟩ => back I' hl hk nx) fun _ _ z => z
end
end Hid

namespace Hid
open PySem PySem.Spec PyProof.Rows L2
/-! sets of texts as tracked things -/
def SetX (w : World) (a : Addr) (xs : List Str) : HO := .ext fun h => SetT w h a xs
theorem setX_ok {w : World} {P : Program} {H : Hp} {h : Heap} {a : Addr} {xs : List Str} (R : SetT w h a xs) : ObjOk P w H h a (SetX w a xs) :=
  ⟨R, let ⟨o, _, _, _, ho, _⟩ := R; ⟨o, ho⟩, fun h1 h2 q k => SetT.keep q k⟩
theorem setT_type {w : World} {s : Shared} {a : Addr} {xs : List Str} (R : SetT w s.heap a xs) : s.TypeIs (.ref a) "set" := let ⟨o, _, _, _, ho, hex, _⟩ := R; ⟨o, ho, hex.1⟩
theorem tAddCall {P : Program} {w : World} {A : Around} {E : Value → Shared → Prop} {s : Shared} {a : Addr} {xs : List Str} {k : Str} {tk : Tok} {Q : Value → Shared → Prop} (R : SetT w s.heap a xs) (room : xs.length + 1 < scanBound)
    (hQ : ∀ h', Heap.SameBut a s.heap h' → SetT w h' a (putT k xs) → Q .none { s with heap := h', toks := s.toks + 1 }) : wpAny (model P w) A (call (.builtin "set.add") [.ref a, .str k tk]) Q E s := by
  refine wpAny_call_entry F.slot_set_add (setT_type R) F.entry_set_add ?_ (F.args_set_add_2 _ _)
  unfold Builtin.«set.add» Builtin.Frozenset.oneOther <;> simp only [List.isEmpty_nil, bind_assoc] <;> unfold Builtin.Frozenset.addrOf setAdd
  refine wpAny_bind (wpAny_pure (wpAny_bind (wpAny_pure (wpAny_bind (wpAny_holding (wpAny_bind ((PySem.strKind P w).pyHash (k := k) (strKind_is P w k tk) ?_)))))))
  refine tAdd (s := { s with toks := s.toks + 1 }) R room fun b h' sb r => ?_
  exact wpAny_pure ⟨_, rfl, hQ h' sb r⟩
section
variable {Y : Cx} {pins : List (Addr × Obj)} {σ : L2.St} {H : Hp} {s : Shared}
theorem addT_ok {E : Value → Shared → Prop} {D : Addr} {xs : List Str} {k : Str} {tk : Tok} {Q : Value → Shared → Prop} (I : Inv Y pins σ H s) (hD : H D = some (SetX Y.w D xs)) (room : xs.length + 1 < scanBound) (h : ∀ s', Inv Y pins σ (upd H D (SetX Y.w D (putT k xs))) s' → Q .none s') :
    wpAny (model Y.prog Y.w) Y.A (call (.builtin "set.add") [.ref D, .str k tk]) Q E s := by
  refine tAddCall (I.hok D _ hD).1 room fun h' sb new => h _ ?_
  exact I.write (e := D) (t' := s.toks + 1) (by rw [hD]; trivial) (.inl rfl) (fun b u hb hu => (sb.2 b hb).trans hu) (let ⟨o, _, _, _, ho, _⟩ := new; ⟨o, ho⟩) (setX_ok new)
end
/-! the works -/
def addWork (elt : Expr) (acc : Value) (env : Env) : Sem Unit := do let v ← eval elt env; standAt elt.pos; let _ ← call (.builtin "set.add") [acc, v]
def inWork (e i1 : Expr) (acc : Value) (env : Env) : Sem Unit := do let x ← eval i1 env; standAt i1.pos; let x ← foldedSetIterable i1 env x; let _ ← runOwn (.compStart e 1 (← holding [x] (pyIter x)) acc env) env
section
variable (elt t0 i0 t1 i1 : Expr) (ifs0 ifs1 : List Expr) (scope : Scope) (pos : Pos) (it acc : Value) (env : Env)
theorem sc_turn : compTurn (.SetComp elt [⟨t0, i0, ifs0, 0⟩] scope pos) 0 it acc env = turnOf i0.pos t0 ifs0 it env (addWork elt acc env) (again (.compLoop (.SetComp elt [⟨t0, i0, ifs0, 0⟩] scope pos) 0 it acc env)) := rfl
theorem sc2_turn0 : compTurn (.SetComp elt [⟨t0, i0, ifs0, 0⟩, ⟨t1, i1, ifs1, 0⟩] scope pos) 0 it acc env = turnOf i0.pos t0 ifs0 it env (inWork (.SetComp elt [⟨t0, i0, ifs0, 0⟩, ⟨t1, i1, ifs1, 0⟩] scope pos) i1 acc env) (again (.compLoop (.SetComp elt [⟨t0, i0, ifs0, 0⟩, ⟨t1, i1, ifs1, 0⟩] scope pos) 0 it acc env)) := by
  unfold turnOf inWork
  simp only [bind_assoc]
  rfl
theorem sc2_turn1 : compTurn (.SetComp elt [⟨t0, i0, ifs0, 0⟩, ⟨t1, i1, ifs1, 0⟩] scope pos) 1 it acc env = turnOf i1.pos t1 ifs1 it env (addWork elt acc env) (again (.compLoop (.SetComp elt [⟨t0, i0, ifs0, 0⟩, ⟨t1, i1, ifs1, 0⟩] scope pos) 1 it acc env)) := rfl
end
abbrev TB2 := L2.St → Hp → (Hp → Prop) → Prop
def tAddT (w : World) (D : Addr) (te : TE) : TB2 := fun σ H Nx => te σ H fun y H1 => ∃ (x : Str) (xs : List Str), y = .str x ∧ H1 D = some (SetX w D xs) ∧ xs.length + 1 < scanBound ∧ Nx (upd H1 D (SetX w D (putT x xs)))
def tIn (wi1 : TI) (g1 : TG) (tt1 : TT) (tb1 : TB2) (vs1 : List Nat) : TB2 := fun σ H Nx => wi1 σ H fun J1 H4 => ∃ W1 : Nat → Nat → Hp → Prop, (∃ m, W1 0 m H4) ∧ Cla J1 g1 tt1 tb1 vs1 σ Nx W1
section
variable {Y : Cx} {elt tg : Expr} {te : TE} {vs : List Nat}
theorem pb_addT {D : Addr} (hxe : Y.xe = No) (pe : PE Y elt te) : PB Y vs (addWork elt (.ref D) Y.env) (tAddT Y.w D te) := fun pins s σ H Nx I h => by
  unfold addWork
  refine wpAny_bind (wpAny_mono (pe.run pins s σ H _ I h) (fun z s1 ⟨y, H1, I1, r1, x, xs, ey, hD, hl, nx⟩ => ?_) fun _ _ z => by rw [hxe] at z; exact z)
  subst ey
  obtain ⟨tk, rfl⟩ := r1
  exact wpAny_bind (wpAny_standAt (wpAny_bind (addT_ok I1 hD hl fun s2 I2 => wpAny_pure ⟨σ, _, I2, ⟨rfl, fun j v e => (wipe_some e).1⟩, nx⟩)))
end
section
variable {prog : Program} {w : World} {A : Around} {R : Result → Shared → Prop} {s : Shared} {elt t1 i1 : Expr} {c0 : Comprehension} {ifs1 : List Expr} {scope : Scope} {pos : Pos} {it acc : Value} {env : Env}
/-- the second clause's start -/
theorem sc_start1 (h0 : codeAny (model prog w) A (.compLoop (.SetComp elt [c0, ⟨t1, i1, ifs1, 0⟩] scope pos) 1 it acc env) R s)
    (h : wpAny (model prog w) A (pyIter it) (fun it' s' => codeAny (model prog w) A (.compLoop (.SetComp elt [c0, ⟨t1, i1, ifs1, 0⟩] scope pos) 1 it' acc env) R s') No s) : codeAny (model prog w) A (.compStart (.SetComp elt [c0, ⟨t1, i1, ifs1, 0⟩] scope pos) 1 it acc env) R s := by
  refine codeAny_of_tree ?_
  show wpAny _ _ ((compStart (.SetComp elt [c0, ⟨t1, i1, ifs1, 0⟩] scope pos) 1 it acc env).onRaise fun x => do noteFrame x env; standAt theWindowsPlace) _ _ s
  refine wpAny_notedAt ?_ <;> unfold compStart
  show wpAny _ _ (ask >>= _) _ _ s
  refine wpAny_bind (wpAny_askSetting (wpAny_ite ?_)) <;> split
  · first | exact wpAny_bind (wpAny_pure (wpAny_pure ⟨rfl, h0⟩)) | exact wpAny_pure ⟨rfl, h0⟩
  · refine wpAny_bind (wpAny_rule ?_); show wpAny _ _ (standAt i1.pos >>= _) _ _ s; exact wpAny_bind (wpAny_standAt (wpAny_bind (thnF h fun it' s' h' => wpAny_pure ⟨rfl, h'⟩)))
end
section
variable {Y : Cx} {elt t1 i1 : Expr} {c0 : Comprehension} {ifs1 : List Expr} {scope : Scope} {pos : Pos} {acc : Value} {work1 : Sem Unit} {wi1 : TI} {g1 : TG} {tt1 : TT} {tb1 : TB2} {vs vs1 : List Nat}
theorem pb_in (hc : Y.calm = true) (hxe : Y.xe = No) (hturn : ∀ it, compTurn (.SetComp elt [c0, ⟨t1, i1, ifs1, 0⟩] scope pos) 1 it acc Y.env = turnOf i1.pos t1 ifs1 it Y.env work1 (again (.compLoop (.SetComp elt [c0, ⟨t1, i1, ifs1, 0⟩] scope pos) 1 it acc Y.env)))
    (pi : PI Y t1 i1 wi1) (pg : PG Y t1 g1) (pt : PTs Y ifs1 tt1) (pb : PB Y vs1 work1 tb1) (hv : ∀ i ∈ vs1, i ∈ vs) (hs : ∀ x, foldedSetIterable i1 Y.env x = pure x) : PB Y vs (inWork (.SetComp elt [c0, ⟨t1, i1, ifs1, 0⟩] scope pos) i1 acc Y.env) (tIn wi1 g1 tt1 tb1 vs1) := fun pins s σ H Nx I h => by
  have no : ∀ {u : Value} {s' : Shared}, Y.xe u s' → No u s' := fun z => by rw [hxe] at z; exact z
  unfold inWork
  refine wpAny_bind (wpAny_mono (pi.run pins s σ H _ I h) (fun x s1 hx => ?_) fun _ _ z => no z)
  refine wpAny_bind (wpAny_standAt (wpAny_bind (wpAny_of_eq (hs x) (wpAny_bind (wpAny_holding (wpAny_mono hx (fun itv s2 h2 => ?_) fun _ _ z => no z))))))
  obtain ⟨it, fp, tn, J, H2, rfl, I2, T, st2, f2, W1, ⟨m1, w1⟩, cla⟩ := h2
  refine wpAny_bind (wpAny_runOwn ?_)
  rw [Around.mark_none]
  have lp : ∀ {R : Result → Shared → Prop}, (∀ s' H', Inv Y pins (wipe σ vs1) H' s' → Nx H' → R (.ok .next) s') → codeAny (model Y.prog Y.w) Y.A (.compLoop (.SetComp elt [c0, ⟨t1, i1, ifs1, 0⟩] scope pos) 1 (.ref it) acc Y.env) R s2 := fun hR =>
    cla_loop hc hxe (hturn _) pg pt pb T pins (fun H' hn b hb => ⟨hn b hb, (f2 b hb).2⟩) cla m1 0 s2 H2 (I2.weak (wipe_length _ _) fun j v e => (wipe_some e).1) st2 (fun b hb => (f2 b hb).1) w1 hR
  have fin : ∀ s' H', Inv Y pins (wipe σ vs1) H' s' → Nx H' → ∃ σ' H', Inv Y pins σ' H' s' ∧ (σ'.length = σ.length ∧ ∀ (j : Nat) v, (wipe σ vs)[j]? = some (some v) → σ'[j]? = some (some v)) ∧ Nx H' := fun s' H' I' nx => ⟨wipe σ vs1, H', I', ⟨wipe_length _ _, fun j v e => by
    obtain ⟨a, b⟩ := wipe_some e
    rw [wipe_out fun z => b (hv j z)]
    exact a⟩, nx⟩
  refine codeAny_mono (sc_start1 (R := fun r s' => r = .ok .next ∧ ∃ σ' H', Inv Y pins σ' H' s' ∧ (σ'.length = σ.length ∧ ∀ (j : Nat) v, (wipe σ vs)[j]? = some (some v) → σ'[j]? = some (some v)) ∧ Nx H') (lp fun s' H' I' nx => ⟨rfl, fin s' H' I' nx⟩) (T.self Y.A 0 _ _ _ st2 (lp fun s' H' I' nx => ⟨rfl, fin s' H' I' nx⟩))) fun r s' hr => ?_
  obtain ⟨rfl, hr⟩ := hr
  first | exact wpAny_pure hr | exact wpAny_bind (wpAny_pure (wpAny_pure hr)) | exact hr
end
end Hid

namespace Hid
open PySem PySem.Spec PyProof.Rows L2
/-- {.. for tg in iter if .. ..}: D the new set, S0 as it is at first, tb the work at the first clause's turn's end -/
def tSetC (S0 : Addr → HO) (wi : TI) (g : TG) (tt : TT) (tb : Addr → TB2) (vs : List Nat) : TE := fun σ H Q => wi σ H fun J H1 => ∀ D, H1 D = none → ∃ W : Nat → Nat → Hp → Prop, (∃ m, W 0 m (upd H1 D (S0 D))) ∧ Cla J g tt (tb D) vs σ (fun H' => Q (.ref D) H') W
abbrev newSetO (w : World) : Obj := { cls := .type "set", dict := none, data := .set #[] 0 (.fresh 0 0 (!w.params.followText "set-order")) }
section
variable {X : Cx} {elt tg iter : Expr} {ifs : List Expr} {rest : List Comprehension} {scope : Scope} {own : List (Str × Nat)} {pos : Pos} {wi : TI} {g : TG} {tt : TT} {work : Value → Env → Sem Unit} {tb : Addr → TB2} {S0 : Addr → HO}
theorem pe_setC (hc : X.calm = true) (hN : X.N.Nodup) (hi : PI X tg iter wi) (ok : BlkOk X.N X.env.scope scope own) (hS : ∀ (H : Hp) (h : Heap) (D : Addr), h.get? D = some (newSetO X.w) → ObjOk X.prog X.w H h D (S0 D))
    (hturn : ∀ it acc env, compTurn (.SetComp elt (⟨tg, iter, ifs, 0⟩ :: rest) scope pos) 0 it acc env = turnOf iter.pos tg ifs it env (work acc env) (again (.compLoop (.SetComp elt (⟨tg, iter, ifs, 0⟩ :: rest) scope pos) 0 it acc env)))
    (hg : ∀ (s : Shared) (H : Hp) (C : Addr) (cl : List (Str × Addr)) (fp : List Addr), PG (X.blk s H scope (compEnvC scope cl C X.env) fp) tg g) (ht : ∀ (s : Shared) (H : Hp) (C : Addr) (cl : List (Str × Addr)) (fp : List Addr), PTs (X.blk s H scope (compEnvC scope cl C X.env) fp) ifs tt)
    (hb : ∀ (s : Shared) (H : Hp) (C : Addr) (cl : List (Str × Addr)) (fp : List Addr) (D : Addr), PB (X.blk s H scope (compEnvC scope cl C X.env) fp) (own.map (·.2)) (work (.ref D) (compEnvC scope cl C X.env)) (tb D)) (hs : ∀ x, foldedSetIterable iter X.env x = pure x := by intro _; rfl) :
    PE X (.SetComp elt (⟨tg, iter, ifs, 0⟩ :: rest) scope pos) (tSetC S0 wi g tt tb (own.map (·.2))) := by
  refine ⟨fun pins s σ H Q I h => ?_⟩
  rw [PpSet.eval_SetComp]
  have hfree : ∀ y ∈ scope.names, y.2 = .free → ∃ c, X.env.cells.lookup y.1 = some c := fun y hy e => (ok.free y hy e).elim (fun k => I.ok.has _ (.inl k)) fun k => I.ok.has _ (.inr k)
  refine wpAny_comprehension_free (use := none) rfl hs (closure_ok hfree) ok.kind (fun y hy e => by rw [ok.uniq y hy, e]) (thn (hi.run pins s σ H _ I h) fun xv s1 hx => thn hx fun itv s2 h2 => ?_)
  obtain ⟨it, fp, tn, J, H2, rfl, I2, T, st2, f2, q⟩ := h2
  refine PpSet.newSet_ok (newEnv_comp ?_)
  generalize hD : s2.heap.objs.size = D; generalize hs3 : ({ s2 with heap := s2.heap.push (newSetO X.w) } : Shared) = s3
  have h3 : s3.heap = s2.heap.push (newSetO X.w) := by rw [← hs3]
  have hget : s3.heap.get? D = some (newSetO X.w) := by rw [h3, ← hD]; exact Heap.get?_push_size _ rfl
  obtain ⟨W, ⟨m0, w0⟩, cla⟩ := q D (I2.hok.fresh (Nat.le_of_eq hD))
  have I3 : Inv X pins σ (upd H2 D (S0 D)) s3 := by
    rw [← hs3] at hget ⊢
    exact I2.laid (t' := s2.toks) (fun b o e => Heap.get?_push_of_some _ e) (Nat.le_of_eq hD) (hS _ _ D hget)
  have f3 : ∀ b ∈ fp, FpOk X pins (upd H2 D (S0 D)) b ∧ b < s3.heap.objs.size := fun b hb => by
    obtain ⟨o, eo, _⟩ := T.obj _ _ st2 b hb
    have hlt := Heap.lt_size eo
    exact ⟨⟨by rw [upd_ne (by rw [← hD]; exact Nat.ne_of_lt hlt)]; exact (f2 b hb).1, (f2 b hb).2⟩, by rw [h3, Heap.size_push]; exact Nat.lt_succ_of_lt hlt⟩
  have I4 := block_start I3 ok hN f3
  obtain ⟨cl, hcl⟩ : ∃ cl, cellsFrom (s3.heap.objs.size + 1) scope.names (cloFrom X.env.cells scope.names []) = cl := ⟨_, rfl⟩
  rw [hcl] at I4
  have pg := hg s3 (upd H2 D (S0 D)) s3.heap.objs.size cl fp
  have pt := ht s3 (upd H2 D (S0 D)) s3.heap.objs.size cl fp
  have pb := hb s3 (upd H2 D (S0 D)) s3.heap.objs.size cl fp D
  show codeAny _ _ (.compStart _ 0 (.ref it) (.ref D) (compEnvC scope (cellsFrom (s3.heap.objs.size + 1) scope.names (cloFrom X.env.cells scope.names [])) s3.heap.objs.size X.env)) (compPost (model X.prog X.w) X.A X.xe none _ (.ref D) s3.heap.objs.size) { s3 with heap := pushCells (s3.heap.push { cls := .type "dict", data := .dict #[] }) scope.names }
  rw [hcl]
  obtain ⟨s4, hs4⟩ : ∃ s4 : Shared, ({ s3 with heap := pushCells (s3.heap.push { cls := .type "dict", data := .dict #[] }) scope.names } : Shared) = s4 := ⟨_, rfl⟩
  rw [hs4] at I4 ⊢
  have st4 : tn 0 s4.heap := T.keep _ _ _ st2 fun b _ o eo => by rw [← hs4]; exact pushCells_keeps _ _ _ _ (Heap.get?_push_of_some _ (by rw [h3]; exact Heap.get?_push_of_some _ eo))
  have lp : codeAny (model X.prog X.w) X.A (.compLoop (.SetComp elt (⟨tg, iter, ifs, 0⟩ :: rest) scope pos) 0 (.ref it) (.ref D) (compEnvC scope cl s3.heap.objs.size X.env)) (compPost (model X.prog X.w) X.A X.xe none (EP X pins σ Q) (.ref D) s3.heap.objs.size) s4 := by
    refine cla_loop (Y := X.blk s3 (upd H2 D (S0 D)) scope (compEnvC scope cl s3.heap.objs.size X.env) fp) hc rfl (hturn _ _ _) pg pt pb T [] (fun H' hn b hb => ?_) cla m0 0 s4 _ I4 st4 (fun b hb => (f3 b hb).1.1) w0 fun s6 H6 I6 qq => ?_
    · exact ⟨hn b hb, (I4.ok.exf b hb).1, I4.ok.exfs b hb, .inl hb, fun x c e => (I4.ok.exf b hb).2 x c e, fun p hp => absurd (show p ∈ ([] : List (Addr × Obj)) ++ [] from hp) (by simp)⟩
    · have I7 : Inv X pins σ H6 s6 := I3.call' (ch := fp) I6.os I6.base I6.hok I6.bare fun b hb => ⟨(f3 b hb).1.2.2.2.1, (f3 b hb).1.2.1, (f3 b hb).1.2.2.2.2.1, (f3 b hb).1.2.2.2.2.2⟩
      have nC : H6 s3.heap.objs.size = none := I6.free
      obtain ⟨m, hn, _⟩ := I6.loc
      refine ⟨m, hn, fun h'' sb => ?_⟩
      obtain ⟨f0, f1, f2', f3', f4, f5⟩ := I3.fpOk (Nat.le_refl _) nC
      exact ⟨.ref D, H6, I7.turned (t' := s6.toks) (fun b o hb eo => (sb.2 b hb).trans eo) f0 f1 f3' f4 f5, rfl, qq⟩
  exact PpSet.codeAny_compStart_set lp (T.self X.A 0 _ _ _ st4 lp)
end
section
variable {X : Cx} {elt tg iter tg1 iter1 : Expr} {ifs ifs1 : List Expr} {scope : Scope} {own : List (Str × Nat)} {pos : Pos} {wi wi1 : TI} {g g1 : TG} {tt tt1 : TT} {te : TE} {vs1 : List Nat}
theorem setX_new (X : Cx) (H : Hp) (h : Heap) (D : Addr) (e : h.get? D = some (newSetO X.w)) : ObjOk X.prog X.w H h D (SetX X.w D []) := setX_ok (newSet_ok (by cases X.w.params.followText "set-order" <;> simp) e)
/-- {text for .. in .. if ..} -/
theorem pe_scT (hc : X.calm = true) (hN : X.N.Nodup) (hi : PI X tg iter wi) (ok : BlkOk X.N X.env.scope scope own) (hg : ∀ (s : Shared) (H : Hp) (C : Addr) (cl : List (Str × Addr)) (fp : List Addr), PG (X.blk s H scope (compEnvC scope cl C X.env) fp) tg g)
    (ht : ∀ (s : Shared) (H : Hp) (C : Addr) (cl : List (Str × Addr)) (fp : List Addr), PTs (X.blk s H scope (compEnvC scope cl C X.env) fp) ifs tt) (he : ∀ (s : Shared) (H : Hp) (C : Addr) (cl : List (Str × Addr)) (fp : List Addr), PE (X.blk s H scope (compEnvC scope cl C X.env) fp) elt te) (hs : ∀ x, foldedSetIterable iter X.env x = pure x := by intro _; rfl) :
    PE X (.SetComp elt [⟨tg, iter, ifs, 0⟩] scope pos) (tSetC (fun D => SetX X.w D []) wi g tt (fun D => tAddT X.w D te) (own.map (·.2))) :=
  pe_setC (work := addWork elt) hc hN hi ok (setX_new X) (fun it acc env => sc_turn _ _ _ _ _ _ _ _ _) hg ht (fun s H C cl fp D => pb_addT rfl (he s H C cl fp)) hs
/-- {text for .. in .. if .. for .. in .. if ..} -/
theorem pe_scT2 (hc : X.calm = true) (hN : X.N.Nodup) (hi : PI X tg iter wi) (ok : BlkOk X.N X.env.scope scope own) (hv : ∀ i ∈ vs1, i ∈ own.map (·.2)) (hg : ∀ (s : Shared) (H : Hp) (C : Addr) (cl : List (Str × Addr)) (fp : List Addr), PG (X.blk s H scope (compEnvC scope cl C X.env) fp) tg g)
    (ht : ∀ (s : Shared) (H : Hp) (C : Addr) (cl : List (Str × Addr)) (fp : List Addr), PTs (X.blk s H scope (compEnvC scope cl C X.env) fp) ifs tt) (hi1 : ∀ (s : Shared) (H : Hp) (C : Addr) (cl : List (Str × Addr)) (fp : List Addr), PI (X.blk s H scope (compEnvC scope cl C X.env) fp) tg1 iter1 wi1)
    (hg1 : ∀ (s : Shared) (H : Hp) (C : Addr) (cl : List (Str × Addr)) (fp : List Addr), PG (X.blk s H scope (compEnvC scope cl C X.env) fp) tg1 g1) (ht1 : ∀ (s : Shared) (H : Hp) (C : Addr) (cl : List (Str × Addr)) (fp : List Addr), PTs (X.blk s H scope (compEnvC scope cl C X.env) fp) ifs1 tt1)
    (he : ∀ (s : Shared) (H : Hp) (C : Addr) (cl : List (Str × Addr)) (fp : List Addr), PE (X.blk s H scope (compEnvC scope cl C X.env) fp) elt te) (hs : ∀ x, foldedSetIterable iter X.env x = pure x := by intro _; rfl) (hs1 : ∀ env x, foldedSetIterable iter1 env x = pure x := by intro _ _; rfl) :
    PE X (.SetComp elt [⟨tg, iter, ifs, 0⟩, ⟨tg1, iter1, ifs1, 0⟩] scope pos) (tSetC (fun D => SetX X.w D []) wi g tt (fun D => tIn wi1 g1 tt1 (tAddT X.w D te) vs1) (own.map (·.2))) :=
  pe_setC (work := inWork _ iter1) hc hN hi ok (setX_new X) (fun it acc env => sc2_turn0 _ _ _ _ _ _ _ _ _ _ _ _) hg ht (fun s H C cl fp D => pb_in hc rfl (fun it => sc2_turn1 _ _ _ _ _ _ _ _ _ _ _ _) (hi1 s H C cl fp) (hg1 s H C cl fp) (ht1 s H C cl fp) (pb_addT rfl (he s H C cl fp)) hv (hs1 _)) hs
end
/-- sorted of a set of texts that is tracked -/
def rSortX (w : World) : List V → Hp → VK → Prop := fun vs H Q => ∃ (a : Addr) (xs : List Str), vs = [.ref a] ∧ H a = some (SetX w a xs) ∧ xs.length ≤ 100000 ∧ ∀ (ys : List Str) (p : Addr), Rise ys → ys.Perm xs → H p = none → Q (.ref p) (upd H p (.lst (ys.map V.str)))
theorem cr_sortX {X : Cx} (hc : X.calm = true) (hu : X.A.units + 64 < cLine) : CallR X (.builtin "sorted") (rSortX X.w) := by
  intro pins s σ H vs us Q I r h
  obtain ⟨a, xs, rfl, ha, hz, q⟩ := h
  cases r with
  | cons rx rr =>
    cases rr
    cases rx
    refine tSorted (I.hok a _ ha).1 (I.ok.hd hc) hu fun s' p out c ys k g o hp hget hst hri hpm => ?_
    have hn : H p = none := I.hok.fresh hp
    have e : s' = { s with heap := s'.heap, gens := s'.gens, drawn := s'.drawn, toks := s'.toks } := by
      have o2 : s'.os = s.os := o
      obtain ⟨x1, x2, x3, x4, x5⟩ := s'; dsimp only at o2 ⊢; rw [o2]
    rw [e]
    refine ⟨.ref p, upd H p (.lst (ys.map V.str)), I.call (ch := []) (Un.laid k hp hn) (I.hok.laid k hp (show ObjOk X.prog X.w _ _ _ (.lst (ys.map V.str)) from ⟨by rw [List.length_map, hpm.length_eq, sizeLine_eq]; omega, out.toList, c, vals_of_strs hst, hget⟩)) (by rw [g]; exact I.bare) (fun _ z => nomatch z), rfl, q ys p hri hpm hn⟩
end Hid

namespace Hid
open PySem PySem.Spec PyProof.Rows L2
section
variable {prog : Program} {w : World} {A : Around} {E : Value → Shared → Prop} {s : Shared}
theorem tSetOfL {l : Addr} {items : Array Value} {xs : List Str} {Q : Value → Shared → Prop} (hh : A.handled = none) (hl : s.heap.IsList l items) (hi : StrsAre items.toList xs) (hsm : xs.length < 4000)
    (h : ∀ (h' : Heap) (tk : Nat), SetT w h' s.heap.objs.size (putAll [] xs) → (∀ b o, b < s.heap.objs.size → s.heap.get? b = some o → h'.get? b = some o) → Q (.ref s.heap.objs.size) { s with heap := h', toks := tk }) :
    wpAny (model prog w) A (call (.type "set") [.ref l]) Q E s := by
  obtain ⟨c, tl, hmro⟩ := PySem.F.called_set.mro
  have hmade := PySem.F.called_set.made; have hsub := PySem.F.called_set.sub
  refine wpAny_call (codeAny_of_tree ?_)
  show wpAny _ _ (callAny (.type "set") _) _ _ _
  refine wpAny_pure ⟨Code.quiet_builtin _ (by decide +kernel), codeAny_builtin PySem.F.entry_type_call ?_⟩
  rw [Around.under_plain (weight_type_call_type "set" [.ref l] []) rfl]
  have h1 := PySem.F.called_set.notType; have h2 := PySem.F.called_set.canCreate; have hct := PySem.F.typeCall_set_1 (.ref l)
  repeat any_goals (first | assumption | wp_step)
  refine codeAny_mono (tSetNew (.ref l) (E := E) (Q₁ := fun obj s₁ => obj = .ref s.heap.objs.size ∧ s₁ = { s with heap := s.heap.push (newSet (!w.params.followText "set-order")) }) ⟨rfl, rfl⟩) fun r s₁ hr => ?_
  cases r with
  | error e => exact hr
  | ok fl =>
    cases fl with
    | next => exact hr.elim
    | brk => exact hr.elim
    | cont => exact hr.elim
    | ret obj =>
      obtain ⟨rfl, rfl⟩ := hr
      generalize hled : (!w.params.followText "set-order") = led
      have hlo : w.params.followText "set-order" = true ∨ led = true := by
        rw [← hled]
        cases w.params.followText "set-order" <;> simp
      have hS : (s.heap.push (newSet led)).get? s.heap.objs.size = some (newSet led) := Heap.get?_push_size _ rfl
      have hT : Shared.TypeIs { s with heap := s.heap.push (newSet led) } (.ref s.heap.objs.size) "set" := ⟨_, hS, rfl⟩
      have hli := PySem.F.called_set.init.lookup; have hbi := PySem.F.called_set.init.bind (.ref s.heap.objs.size)
      repeat any_goals (first | assumption | wp_step)
      refine codeAny_mono (codeAny_call_builtin (R := wants (fun r s₂ => r = .none ∧ ∃ h' tk, s₂ = { s with heap := h', toks := tk } ∧ SetT w h' s.heap.objs.size (putAll [] xs) ∧ (∀ b o, b < s.heap.objs.size → s.heap.get? b = some o → h'.get? b = some o)) E) PySem.F.called_set.init.plain PySem.F.entry_set_init (check_set_init_1 hT ?_)) fun r₂ s₂ hr₂ => ?_
      · obtain ⟨⟨ocls, odict, odata, oslots⟩, hol, hcl, nl, hdl⟩ := hl
        simp only at hcl hdl
        subst hcl; subst hdl
        have hol' : (s.heap.push (newSet led)).get? l = some { cls := .type "list", dict := odict, data := .seq items nl, slots := oslots } := Heap.get?_push_of_some _ hol
        have hsls := PySem.F.sub_list_set; have hslf := PySem.F.sub_list_frozenset
        have hne : (Value.type "list" == Value.type "dict") = false := by decide
        have hl1 : (s.heap.push (newSet led)).IsList l items := ⟨_, hol', rfl, nl, rfl⟩
        unfold Builtin.«set.__init__» noKeywords Builtin.Frozenset.updateFrom
        generalize hPI : pyIter = PI
        wp_walk
        subst hPI
        refine wpAny_pyIter_list hl1 (wpAny_bind (wpAny_runValue ?_))
        have hlS : l < s.heap.objs.size := Heap.lt_size hol
        have hh3 : A.in1.in1.in1.handled = none := by simp [hh]
        have hneI : l ≠ (s.heap.push (newSet led)).objs.size := by
          rw [Heap.size_push]
          exact Nat.ne_of_lt (Nat.lt_succ_of_lt hlS)
        have hSf : s.heap.objs.size ∉ [(s.heap.push (newSet led)).objs.size, l] := by
          rw [Heap.size_push]
          simp only [List.mem_cons, List.not_mem_nil, or_false, not_or]
          exact ⟨Nat.ne_of_lt (Nat.lt_succ_self _), Nat.ne_of_gt hlS⟩
        have hsz : xs.length = items.size := by rw [← StrsAre.len_eq hi, Array.length_toList]
        refine tFill ((Walks.list hh3 _ l hneI items).toS) s.heap.objs.size hSf xs hsz (by omega) (fun i v hv => SS.strs_at hi i v (by rw [Array.getElem?_toList]; exact hv)) (items.size - 0) 0 _ (by omega) (Nat.zero_le _)
          ⟨⟨_, Heap.get?_push_size _ rfl, rfl, rfl⟩, (hl1.push _)⟩ (newSet_ok hlo (Heap.get?_push_of_some _ hS)) fun s' hm hS' => ?_
        obtain ⟨h', g', d', tk', os'⟩ := s'
        obtain rfl : g' = s.gens := hm.gens
        obtain rfl : d' = s.drawn := hm.drawn
        obtain rfl : os' = s.os := hm.os
        show wpAny _ _ _ _ _ _
        refine wpAny_pure ?_
        show wpAny _ _ (ret Value.none) _ _ _
        refine wpAny_pure ⟨rfl, h', tk', rfl, hS', fun b o hb e => hm.heap b o ?_ (Heap.get?_push_of_some _ (Heap.get?_push_of_some _ e))⟩
        simp only [List.mem_cons, List.not_mem_nil, or_false, not_or]
        refine ⟨Nat.ne_of_lt hb, ?_⟩
        rw [Heap.size_push]
        exact Nat.ne_of_lt (Nat.lt_succ_of_lt hb)
      · cases r₂ with
        | error e => exact hr₂
        | ok fl₂ =>
          cases fl₂ with
          | next => exact hr₂.elim
          | brk => exact hr₂.elim
          | cont => exact hr₂.elim
          | ret r =>
            obtain ⟨rfl, h', tk, rfl, hS', hk'⟩ := hr₂
            repeat any_goals (first | assumption | wp_step)
            exact h _ _ hS' hk'
end
/-- sorted(set(e)), e a list of texts -/
def tSortSetL (K : PySem.W.Frag) (te : TE) : TE := fun σ H Q => te σ H fun v H1 => ∃ (a : Addr) (xs : List Str), v = .ref a ∧ SqL K H1 a (xs.map V.str) ∧ xs.length < 4000 ∧ ∀ (ys : List Str) (p : Addr), Rise ys → ys.length ≤ xs.length → (∀ x, x ∈ ys ↔ x ∈ xs) → H1 p = none → Q (.ref p) (upd H1 p (.lst (ys.map V.str)))
theorem pe_sortSetL {X : Cx} {e : Expr} {te : TE} {p p2 pos pos2 : Pos} (hc : X.calm = true) (hu : X.A.units + 64 < cLine) (hg : Gl X "sorted") (hm : X.mg "sorted" = none) (hg2 : Gl X "set") (hm2 : X.mg "set" = none) (he : PE X e te)
    (hs : starEach [e] X.env = (false, eval e X.env) :: starEach [] X.env := by rfl)
    (hs2 : starEach [.Call (.Name "set" p2) [e] [] pos2] X.env = (false, eval (.Call (.Name "set" p2) [e] [] pos2) X.env) :: starEach [] X.env := by rfl) :
    PE X (.Call (.Name "sorted" p) [.Call (.Name "set" p2) [e] [] pos2] [] pos) (tSortSetL X.K te) := by
  refine ⟨fun pins s σ H Q I h => ?_⟩
  refine wpAny_Call_Name_kw (ld_blt I hg hm (by decide +kernel : bootBuiltins "sorted" = some (.builtin "sorted")) ?_)
  refine callWith_builtin1 (args_cons (Call_ (ld_blt I hg2 hm2 (by decide +kernel : bootBuiltins "set" = some (.type "set")) (callWith_type1 (args_cons (thn (he.run pins s σ H _ I h) fun u s1 ⟨v, H1, I1, r1, q1⟩ => args_nil ?_) hs) hs rfl))) hs2) hs2 rfl
  obtain ⟨a, xs, ev, hq, hsm, q⟩ := q1
  subst ev
  obtain rfl : u = Value.ref a := r1
  obtain ⟨its, rv, p', hz⟩ := I1.list hq
  have hh := I1.ok.hd hc
  obtain ⟨o0, n0, e0, c0, _, d0⟩ := p'
  refine tSetOfL hh ⟨o0, e0, c0, n0, d0⟩ (by rw [List.toList_toArray]; exact strs_of_vals rv) hsm fun h' tk hS hk => args_nil ?_
  have I2 : Inv X pins σ H1 { s1 with heap := h', toks := tk } := I1.kept (t' := tk) fun b o e => hk b o (Heap.lt_size e) e
  refine tSorted (s := { s1 with heap := h', toks := tk }) hS hh hu fun s' p3 out c ys k g o hp hget hst hri hpm => ?_
  have hn : H1 p3 = none := I2.hok.fresh hp
  have hys : ys.length ≤ sizeLine := by
    have h1 := putAll_len xs []
    rw [hpm.length_eq, sizeLine_eq]
    rw [List.length_nil] at h1
    omega
  have J : Inv X pins σ (upd H1 p3 (.lst (ys.map V.str))) { ({ s1 with heap := h', toks := tk } : Shared) with heap := s'.heap, gens := s'.gens, drawn := s'.drawn, toks := s'.toks } :=
    I2.call (ch := []) (Un.laid k hp hn) (I2.hok.laid k hp ⟨by rw [List.length_map]; exact hys, out.toList, c, vals_of_strs hst, hget⟩) (by rw [g]; exact I2.bare) (fun _ z => nomatch z)
  have e : s' = { ({ s1 with heap := h', toks := tk } : Shared) with heap := s'.heap, gens := s'.gens, drawn := s'.drawn, toks := s'.toks } := by
    have o2 : s'.os = s1.os := o
    obtain ⟨x1, x2, x3, x4, x5⟩ := s'
    dsimp only at o2 ⊢
    rw [o2]
  rw [e]
  refine ⟨.ref p3, _, J, rfl, q ys p3 hri (by have h1 := putAll_len xs []; rw [List.length_nil] at h1; rw [hpm.length_eq]; omega) (fun x => ?_) hn⟩
  rw [hpm.mem_iff, putAll_mem]
  simp
end Hid

namespace Hid
open PySem PySem.Spec PyProof.Rows L2 Evl
section
variable {J : It} {n : Nat} {Gd : Hp → Prop} {Y : Nat → Hp → V → Hp → Prop}
/-- a clause over a walk: Pv by the turn and the heap -/
theorem cla_it (w : Walk J n Gd Y) {g : TG} {tt : TT} {tb : TB2} {vs : List Nat} {σ : L2.St} {H1 : Hp} {QD : Hp → Prop} (Pv : Nat → Hp → Prop) (h0 : Pv 0 H1) (hG : ∀ i H, i ≤ n → Pv i H → Gd H)
    (hs : ∀ i x H H', i < n → Pv i H → Y i H x H' → g x (wipe σ vs) H' fun σ2 H2 => wipe σ2 vs = wipe σ vs ∧ tt σ2 H2 fun b H3 => if b = true then tb σ2 H3 (Pv (i + 1)) else Pv (i + 1) H3) (hd : ∀ H, Pv n H → QD H) :
    ∃ W : Nat → Nat → Hp → Prop, (∃ m, W 0 m H1) ∧ Cla J g tt tb vs σ QD W := by
  refine ⟨fun i m H => m = n - i ∧ i ≤ n ∧ Pv i H, ⟨n, by simp, Nat.zero_le _, h0⟩, fun i m H hw => ?_⟩
  obtain ⟨rfl, hi, p⟩ := hw
  rcases Nat.lt_or_ge i n with hlt | hge
  · exact .inr ⟨w.goes i H hlt (hG i H hi p), Pv (i + 1), fun H' p' => ⟨n - (i + 1), by omega, rfl, hlt, p'⟩, fun x H' y => hs i x H H' hlt p (w.yields i H x H' hlt (hG i H hi p) y)⟩
  · obtain rfl : i = n := by omega
    exact .inl ⟨w.stops H (hG i H hi p), hd H p⟩
end
def halvesL (ps : List (List Nat × List Nat)) : List Str := ps.flatMap fun p => [tx p.1, tx p.2]
theorem halvesL_len (ps : List (List Nat × List Nat)) : (halvesL ps).length = 2 * ps.length := by
  unfold halvesL
  induction ps with
  | nil => rfl
  | cons p ps ih =>
    rw [List.flatMap_cons, List.length_append, ih]
    show 2 + 2 * ps.length = 2 * (ps.length + 1)
    omega
theorem halvesL_snoc (ps : List (List Nat × List Nat)) (p : List Nat × List Nat) : halvesL (ps ++ [p]) = halvesL ps ++ [tx p.1, tx p.2] := by
  unfold halvesL
  rw [List.flatMap_append]
  rfl
theorem halvesL_mem {ps : List (List Nat × List Nat)} {x : Str} : x ∈ halvesL ps ↔ ∃ p ∈ ps, x = tx p.1 ∨ x = tx p.2 := by
  unfold halvesL
  rw [List.mem_flatMap]
  constructor
  · rintro ⟨p, hp, hx⟩
    refine ⟨p, hp, ?_⟩
    simpa using hx
  · rintro ⟨p, hp, hx⟩
    exact ⟨p, hp, by simpa using hx⟩
def RetT (xs : List V) (H : Hp) (Q : VK) : Prop := ∀ p H2, Ex H H2 → H2 p = some (.tup xs) → Q (.ref p) H2
def SmallP (ps : List (List Nat × List Nat)) : Prop := ∀ p ∈ ps, (∀ c ∈ p.1, c < 200) ∧ ∀ c ∈ p.2, c < 200
theorem shaped_strT {ys : List Str} (h : ∀ y ∈ ys, ∃ l : List Nat, y = tx l ∧ ∀ c ∈ l, c < 200) : SeqAt.shaped (.tuple (ys.map PyData.str)) = true := by
  have h1 : ∀ ys : List Str, (∀ y ∈ ys, ∃ l : List Nat, y = tx l ∧ ∀ c ∈ l, c < 200) → PyData.canLayAll0 (ys.map PyData.str) = true := by
    intro ys
    induction ys with
    | nil => intro _; rfl
    | cons y ys ih =>
      intro hh
      obtain ⟨l, rfl, hl⟩ := hh y List.mem_cons_self
      show (PyData.canLay0 (.str (tx l)) && PyData.canLayAll0 (ys.map PyData.str)) = true
      rw [ih fun q hq => hh q (List.mem_cons_of_mem _ hq)]
      simp [PyData.canLay0, strOk_sm hl]
  have h2 : ∀ ys : List Str, PyData.depthAll (ys.map PyData.str) ≤ 2 := by
    intro ys
    induction ys with
    | nil => exact Nat.zero_le _
    | cons y ys ih =>
      show max (PyData.depth (.str y)) (PyData.depthAll (ys.map PyData.str)) ≤ 2
      have : PyData.depth (.str y) ≤ 2 := by simp [PyData.depth]
      omega
  have a := h1 ys h
  have b := h2 ys
  unfold SeqAt.shaped
  simp [PyData.canLay0, PyData.depth, a]
  omega
theorem eqv_strT (D : List Str) : PyData.eqv (.tuple (D.map PyData.str)) (.tuple (D.map PyData.str)) = true := by
  have h : ∀ D : List Str, PySem.W.alikeAll (D.map PyData.str) (D.map PyData.str) = true := by
    intro D
    induction D with
    | nil => simp [PySem.W.alikeAll]
    | cons x D ih => simpa [PySem.W.alikeAll, PySem.W.alike] using ih
  exact PySem.W.eqv_refl_alike _ (by simpa [PySem.W.alike] using h D)
theorem small_mem {ps : List (List Nat × List Nat)} (h : SmallP ps) {ys : List Str} (hm : ∀ x, x ∈ ys ↔ x ∈ halvesL ps) : ∀ y ∈ ys, ∃ l : List Nat, y = tx l ∧ ∀ c ∈ l, c < 200 := fun y hy => by
  obtain ⟨p, hp, e | e⟩ := halvesL_mem.mp ((hm y).mp hy)
  · exact ⟨p.1, e, (h p hp).1⟩
  · exact ⟨p.2, e, (h p hp).2⟩
end Hid

namespace Hid
open PySem PySem.Spec PyProof.Rows L2 Evl
/-! one sign replaced by another, sign by sign -/
theorem str_tx (s : Str) : s = tx s.cps.toList := by
  cases s
  simp [tx]
theorem repl_1 (y z : Nat) : ∀ l : List Nat, StrLaws.replS [y] [z] 0 l = l.map fun c => if c = y then z else c
  | [] => rfl
  | c :: r => by
    rw [StrLaws.replS, List.map_cons]
    by_cases h : c = y
    · rw [if_pos (by rw [h]; rfl), if_pos h]
      show z :: StrLaws.replS [y] [z] 0 r = _
      rw [repl_1 y z r]
    · rw [if_neg (fun e => h (by injection e)), if_neg h, repl_1 y z r]
theorem repl_tx (y z : Nat) (l : List Nat) : Txt.replace (tx l) (tx [y]) (tx [z]) = tx (l.map fun c => if c = y then z else c) := by
  rw [str_tx (Txt.replace _ _ _), StrLaws.replace_list (show 1 ≤ (tx [y]).length by rw [tx_len]; exact Nat.le_refl 1), tx_toList, tx_toList, tx_toList]
  unfold StrLaws.replL
  rw [repl_1]
end Hid

namespace Hid
open PySem PySem.Spec PyProof.Rows L2 Evl
/-! things of any kind, told whole: tuples by what stands in them, lists and dicts by their kind alone -/
inductive Tg where
  | non
  | bl (b : Bool)
  | int (z : Int)
  | str (l : List Nat)
  | tup (ts : List Tg)
  | lst
  | dct
/-- tuples and dicts kept, lists kept as lists -/
def Kpg (H H' : Hp) : Prop := (∀ b us, H b = some (.tup us) → H' b = some (.tup us)) ∧ (∀ b xs, H b = some (.lst xs) → ∃ ys, H' b = some (.lst ys)) ∧ ∀ b d, H b = some (.dK d) → H' b = some (.dK d)
theorem Kpg.ex {H H' : Hp} (e : Ex H H') : Kpg H H' := ⟨fun b us h => e _ _ h, fun b xs h => ⟨xs, e _ _ h⟩, fun b d h => e _ _ h⟩
theorem Kpg.upd {H : Hp} {a : Addr} {xs ys : List V} (h : H a = some (.lst xs)) : Kpg H (upd H a (.lst ys)) := ⟨fun b us hb => by
  rw [upd_ne fun e => by rw [e, h] at hb; cases hb]
  exact hb, fun b zs hb => by
  by_cases e : b = a
  · subst e
    exact ⟨ys, upd_same⟩
  · exact ⟨zs, by rw [upd_ne e]; exact hb⟩, fun b d hb => by
  rw [upd_ne fun e => by rw [e, h] at hb; cases hb]
  exact hb⟩
mutual
/-- v is the thing; no text in it is longer than m, no tuple -/
inductive TgR (m : Nat) (H : Hp) : V → Tg → Prop
  | non : TgR m H .non .non
  | bl (b : Bool) : TgR m H (.bl b) (.bl b)
  | int (z : Int) : TgR m H (.int z) (.int z)
  | str {l : List Nat} (h : l.length ≤ m) : TgR m H (.str (tx l)) (.str l)
  | tup {t : Addr} {xs : List V} {ts : List Tg} (h : H t = some (.tup xs)) (hl : xs.length ≤ m) (r : TgRs m H xs ts) : TgR m H (.ref t) (.tup ts)
  | lst {a : Addr} {xs : List V} (h : H a = some (.lst xs)) : TgR m H (.ref a) .lst
  | dct {a : Addr} {d : List (Key × V)} (h : H a = some (.dK d)) : TgR m H (.ref a) .dct
inductive TgRs (m : Nat) (H : Hp) : List V → List Tg → Prop
  | nil : TgRs m H [] []
  | cons {x : V} {xs : List V} {T : Tg} {ts : List Tg} (h : TgR m H x T) (r : TgRs m H xs ts) : TgRs m H (x :: xs) (T :: ts)
end
mutual
theorem TgR.kp {m n : Nat} {H H' : Hp} {v : V} {T : Tg} (e : Kpg H H') (hn : m ≤ n) : TgR m H v T → TgR n H' v T
  | .non => .non
  | .bl b => .bl b
  | .int z => .int z
  | .str h => .str (Nat.le_trans h hn)
  | .tup h hl r => .tup (e.1 _ _ h) (Nat.le_trans hl hn) (TgRs.kp e hn r)
  | .lst h => let ⟨_, hy⟩ := e.2.1 _ _ h; .lst hy
  | .dct h => .dct (e.2.2 _ _ h)
theorem TgRs.kp {m n : Nat} {H H' : Hp} {xs : List V} {ts : List Tg} (e : Kpg H H') (hn : m ≤ n) : TgRs m H xs ts → TgRs n H' xs ts
  | .nil => .nil
  | .cons h r => .cons (TgR.kp e hn h) (TgRs.kp e hn r)
end
theorem TgR.ex {m : Nat} {H H' : Hp} {v : V} {T : Tg} (h : TgR m H v T) (e : Ex H H') : TgR m H' v T := h.kp (Kpg.ex e) (Nat.le_refl _)
theorem TgRs.ex {m : Nat} {H H' : Hp} {xs : List V} {ts : List Tg} (h : TgRs m H xs ts) (e : Ex H H') : TgRs m H' xs ts := h.kp (Kpg.ex e) (Nat.le_refl _)
theorem TgRs.len {m : Nat} {H : Hp} : ∀ {xs : List V} {ts : List Tg}, TgRs m H xs ts → xs.length = ts.length
  | _, _, .nil => rfl
  | _, _, .cons _ r => congrArg Nat.succ r.len
theorem TgRs.get {m : Nat} {H : Hp} : ∀ {xs : List V} {ts : List Tg}, TgRs m H xs ts → ∀ (i : Nat) (x : V), xs[i]? = some x → ∃ T, ts[i]? = some T ∧ TgR m H x T
  | _, _, .cons h _, 0, x, e => by cases e; exact ⟨_, rfl, h⟩
  | _, _, .cons _ r, i + 1, x, e => r.get i x (by simpa using e)
/-- a word for such a thing -/
def TgW (m : Nat) (v : V) (H : Hp) : Prop := ∃ T, TgR m H v T
theorem TgW.ex {m : Nat} {v : V} {H H' : Hp} (h : TgW m v H) (e : Ex H H') : TgW m v H' := let ⟨T, h⟩ := h; ⟨T, h.ex e⟩
theorem TgW.kp {m n : Nat} {v : V} {H H' : Hp} (h : TgW m v H) (e : Kpg H H') (hn : m ≤ n) : TgW n v H' := let ⟨T, h⟩ := h; ⟨T, h.kp e hn⟩
theorem tgs_of {m : Nat} {H : Hp} : ∀ {xs : List V}, (∀ x ∈ xs, TgW m x H) → ∃ ts, TgRs m H xs ts
  | [], _ => ⟨[], .nil⟩
  | x :: xs, h => let ⟨T, hT⟩ := h x List.mem_cons_self; let ⟨ts, hts⟩ := tgs_of fun z hz => h z (List.mem_cons_of_mem x hz); ⟨T :: ts, .cons hT hts⟩
theorem TgRs.mem {m : Nat} {H : Hp} : ∀ {xs : List V} {ts : List Tg}, TgRs m H xs ts → ∀ x ∈ xs, TgW m x H
  | _, _, .cons h r, x, hx => (List.mem_cons.mp hx).elim (fun z => z ▸ ⟨_, h⟩) fun z => r.mem x z
/-! what a thing is -/
def Tg.txO : Tg → Option (List Nat)
  | .str l => some l
  | _ => none
def Tg.inO : Tg → Option Int
  | .int z => some z
  | _ => none
def Tg.tpO : Tg → Option (List Tg)
  | .tup ts => some ts
  | _ => none
section
variable {K : PySem.W.Frag} {m : Nat} {H : Hp} {v : V} {T : Tg}
theorem TgR.th (hm : m ≤ 1000) (h : TgR m H v T) : Th K H v T.txO := by
  cases h with
  | non => exact th_non
  | bl b => exact th_bl b
  | int z => exact th_int z
  | str h => exact th_str _ (Nat.le_trans h hm)
  | tup h hl r => exact th_tup h
  | lst h => exact th_lst h
  | dct h => exact th_dict h
/-- no tuple -/
theorem TgR.nu (h : TgR m H v T) (ht : T.tpO = none) : NotU K H v := by
  cases h with
  | non => exact nu_non
  | bl b => exact ⟨"bool", by decide +kernel, fun _ _ => .base (.bl b)⟩
  | int z => exact ⟨"int", by decide +kernel, fun _ _ => .base (.int z)⟩
  | str h => exact nu_str _
  | tup h hl r => cases ht
  | lst h => exact nu_lst h
  | dct h => exact nu_dict h
theorem TgR.tp {ts : List Tg} (h : TgR m H v T) (ht : T.tpO = some ts) : ∃ t xs, v = .ref t ∧ H t = some (.tup xs) ∧ xs.length ≤ m ∧ TgRs m H xs ts := by
  cases h with
  | tup h hl r => cases ht; exact ⟨_, _, rfl, h, hl, r⟩
  | _ => cases ht
/-- the type that isinstance sees -/
theorem TgR.ty (h : TgR m H v T) : ∃ t : String, (∀ H1, Ex H H1 → TyX K H1 v (.type t)) ∧ kitB t "str" = some T.txO.isSome ∧ kitB t "tuple" = some T.tpO.isSome ∧ ∃ b1 b2, kitB t "int" = some b1 ∧ kitB t "bool" = some b2 ∧ (b1 && !b2) = T.inO.isSome := by
  cases h with
  | non => exact ⟨"NoneType", fun _ _ => .base .non, by decide +kernel, by decide +kernel, false, false, by decide +kernel, by decide +kernel, rfl⟩
  | bl b => exact ⟨"bool", fun _ _ => .base (.bl b), (by decide +kernel : kitB "bool" "str" = some false), (by decide +kernel : kitB "bool" "tuple" = some false), true, true, by decide +kernel, by decide +kernel, rfl⟩
  | int z => exact ⟨"int", fun _ _ => .base (.int z), (by decide +kernel : kitB "int" "str" = some false), (by decide +kernel : kitB "int" "tuple" = some false), true, false, by decide +kernel, by decide +kernel, rfl⟩
  | str h => exact ⟨"str", fun _ _ => .base (.str _), (by decide +kernel : kitB "str" "str" = some true), (by decide +kernel : kitB "str" "tuple" = some false), false, false, by decide +kernel, by decide +kernel, rfl⟩
  | tup h hl r => exact ⟨"tuple", fun _ e => .base (.tup (e _ _ h)), (by decide +kernel : kitB "tuple" "str" = some false), (by decide +kernel : kitB "tuple" "tuple" = some true), false, false, by decide +kernel, by decide +kernel, rfl⟩
  | lst h => exact ⟨"list", fun _ e => .base (.lst (e _ _ h)), by decide +kernel, by decide +kernel, false, false, by decide +kernel, by decide +kernel, rfl⟩
  | dct h => exact ⟨"dict", fun _ e => .base (.dK (e _ _ h)), by decide +kernel, by decide +kernel, false, false, by decide +kernel, by decide +kernel, rfl⟩
theorem TgR.isI {z : Int} (h : TgR m H v T) (hz : T.inO = some z) : v = .int z := by
  cases h with
  | int z => cases hz; rfl
  | _ => cases hz
theorem TgR.isT {l : List Nat} (h : TgR m H v T) (hl : T.txO = some l) : v = .str (Hid.tx l) ∧ l.length ≤ m := by
  cases h with
  | str h => cases hl; exact ⟨rfl, h⟩
  | _ => cases hl
end
/-! names, rows, books among things of any kind -/
def wrG (T : Tg) (g : List Nat) : Bool := wr T.txO g
def az : List Nat := [97, 98, 99, 100, 101, 102, 103, 104, 105, 106, 107, 108, 109, 110, 111, 112, 113, 114, 115, 116, 117, 118, 119, 120, 121, 122]
def rowG (p : Int) : Tg → Bool
  | .tup [a, b] => wrG a az && (wrG b [110, 98, 121] && decide (((b.txO.getD []).length : Int) = p))
  | _ => false
def nmG : Tg → List Nat
  | .tup (a :: _) => a.txO.getD []
  | _ => []
def bookG : Tg → Bool
  | .tup [.int p, .tup rows] => decide (1 ≤ p ∧ p ≤ 8) && (decide (rows.length ≤ 10) && (rows.all (rowG p) && decide ((rows.map nmG).Nodup)))
  | _ => false
theorem rowG_shape {p : Int} {T : Tg} (h : rowG p T = true) : ∃ a b, T = .tup [.str a, .str b] ∧ wr (some a) az = true ∧ wr (some b) [110, 98, 121] = true ∧ (b.length : Int) = p := by
  match T, h with
  | .tup [x, y], h =>
    unfold rowG at h
    rw [Bool.and_eq_true, Bool.and_eq_true, decide_eq_true_iff] at h
    obtain ⟨h1, h2, h3⟩ := h
    cases x with
    | str a =>
      cases y with
      | str b => exact ⟨a, b, rfl, h1, h2, h3⟩
      | _ => cases h2
    | _ => cases h1
theorem put_len (xs : List Str) : (putAll [] xs).length = xs.length ↔ xs.Nodup := by
  constructor
  · intro h
    refine Classical.byContradiction fun hn => ?_
    -- somewhere an item stands twice: the set is smaller
    have key : ∀ (ys acc : List Str), (∀ y ∈ ys, y ∉ acc) → (putAll acc ys).length = acc.length + ys.length → ys.Nodup := by
      intro ys
      induction ys with
      | nil => intro acc _ _; exact List.nodup_nil
      | cons z ys ih =>
        intro acc ha hl
        have hz : z ∉ acc := ha z List.mem_cons_self
        have e1 : (putAll (putT z acc) ys).length = acc.length + (ys.length + 1) := hl
        have l1 := putAll_len ys (putT z acc)
        have l2 := putT_len z acc
        have e2 : (putT z acc).length = acc.length + 1 := by omega
        have hzy : z ∉ ys := fun hm => by
          have hin : z ∈ putT z acc := putT_mem.mpr (.inl rfl)
          -- z put again adds nothing
          have less : ∀ (ws bs : List Str), z ∈ bs → z ∈ ws → (putAll bs ws).length < bs.length + ws.length := by
            intro ws
            induction ws with
            | nil => intro bs _ h; cases h
            | cons w ws ihw =>
              intro bs hb hw
              have lw := putAll_len ws (putT w bs)
              have lt := putT_len w bs
              show (putAll (putT w bs) ws).length < bs.length + (ws.length + 1)
              by_cases hzw : z = w
              · subst hzw
                have e0 : (putT z bs).length = bs.length := by unfold putT; rw [if_pos hb]
                omega
              · have := ihw (putT w bs) (putT_mem.mpr (.inr hb)) ((List.mem_cons.mp hw).elim (fun e => absurd e hzw) id)
                omega
          have := less ys (putT z acc) hin hm
          omega
        refine List.nodup_cons.mpr ⟨hzy, ih (putT z acc) (fun y hy hp => ?_) (by omega)⟩
        rcases putT_mem.mp hp with e | e
        · exact hzy (e ▸ hy)
        · exact ha y (List.mem_cons_of_mem _ hy) e
    exact hn (key xs [] (fun y _ h => by cases h) (by rw [h]; simp))
  · intro h
    exact ((List.perm_ext_iff_of_nodup (putAll_nodup xs [] List.nodup_nil) h).mpr fun x => by rw [putAll_mem]; simp).length_eq
end Hid

namespace Hid
open PySem PySem.Spec PyProof.Rows L2
/-! any text parted at a sign -/
def spl (c : Nat) : List Nat → List (List Nat)
  | [] => [[]]
  | x :: l => if x = c then [] :: spl c l else ((x :: (spl c l).headD []) :: (spl c l).tail)
theorem spl_ne (c : Nat) : ∀ l, spl c l ≠ []
  | [] => by simp [spl]
  | x :: l => by unfold spl; split <;> simp
theorem spl_pos (c : Nat) (l : List Nat) : 0 < (spl c l).length := List.length_pos_iff.mpr (spl_ne c l)
theorem spl_jn (c : Nat) : ∀ l, jn c (spl c l) = l
  | [] => rfl
  | x :: l => by
    have ih := spl_jn c l
    have hn := spl_ne c l
    unfold spl
    generalize spl c l = s at ih hn
    cases s with
    | nil => exact absurd rfl hn
    | cons h t =>
      by_cases hx : x = c
      · rw [if_pos hx]
        show [] ++ c :: jn c (h :: t) = _
        rw [ih, hx]
        rfl
      · rw [if_neg hx]
        show jn c ((x :: h) :: t) = _
        cases t with
        | nil =>
          show x :: h = x :: l
          rw [← ih]
          rfl
        | cons m r =>
          show (x :: h) ++ c :: jn c (m :: r) = x :: l
          rw [← ih]
          rfl
theorem spl_free (c : Nat) : ∀ l, ∀ w ∈ spl c l, c ∉ w
  | [], w, hw => by
    rw [List.mem_singleton.mp hw]
    exact fun h => nomatch h
  | x :: l, w, hw => by
    have ih := spl_free c l
    have hn := spl_ne c l
    unfold spl at hw
    generalize spl c l = s at ih hn hw
    cases s with
    | nil => exact absurd rfl hn
    | cons h t =>
      by_cases hx : x = c
      · rw [if_pos hx] at hw
        rcases List.mem_cons.mp hw with e | e
        · rw [e]; exact fun h => nomatch h
        · exact ih w e
      · rw [if_neg hx] at hw
        rcases List.mem_cons.mp hw with e | e
        · rw [e]
          intro z
          rcases List.mem_cons.mp z with e | e
          · exact hx e.symm
          · exact ih h List.mem_cons_self e
        · exact ih w (List.mem_cons_of_mem _ e)
theorem split_spl (c : Nat) (l : List Nat) : Txt.split (tx l) (sg1 c) = (spl c l).map tx := by
  have h := split_jn (c := c) (spl_ne c l) (spl_free c l)
  rw [spl_jn] at h
  exact h
theorem spl_one {c : Nat} : ∀ {l : List Nat}, c ∉ l → spl c l = [l]
  | [], _ => rfl
  | x :: l, h => by
    have hx : ¬ x = c := fun e => h (by rw [e]; exact List.mem_cons_self)
    unfold spl
    rw [if_neg hx, spl_one fun z => h (List.mem_cons_of_mem _ z)]
    rfl
theorem spl_two {c : Nat} {b : List Nat} : ∀ {a : List Nat}, c ∉ a → spl c (a ++ c :: b) = a :: spl c b
  | [], _ => by
    show spl c (c :: b) = _
    rw [spl, if_pos rfl]
  | x :: a, h => by
    have hx : ¬ x = c := fun e => h (by rw [e]; exact List.mem_cons_self)
    show spl c (x :: (a ++ c :: b)) = _
    rw [spl, if_neg hx, spl_two fun z => h (List.mem_cons_of_mem _ z)]
    rfl
theorem in_two {c : Nat} : ∀ {l : List Nat}, c ∈ l → ∃ a b, l = a ++ c :: b ∧ c ∉ a
  | x :: l, h => by
    by_cases hx : x = c
    · exact ⟨[], l, by rw [hx]; rfl, fun z => nomatch z⟩
    · obtain ⟨a, b, e, n⟩ := in_two ((List.mem_cons.mp h).resolve_left fun z => hx z.symm)
      exact ⟨x :: a, b, by rw [e]; rfl, fun z => (List.mem_cons.mp z).elim (fun w => hx w.symm) n⟩
/-- what all words weigh: their signs and one more each -/
def wgt (ls : List (List Nat)) : Nat := (ls.map fun l => l.length + 1).sum
theorem wgt_app (a b : List (List Nat)) : wgt (a ++ b) = wgt a + wgt b := by unfold wgt; rw [List.map_append, List.sum_append]
theorem wgt_cons (a : List Nat) (b : List (List Nat)) : wgt (a :: b) = a.length + 1 + wgt b := rfl
theorem jn_len (c : Nat) : ∀ {ls : List (List Nat)}, ls ≠ [] → (jn c ls).length + 1 = wgt ls
  | [], h => absurd rfl h
  | [l], _ => by show l.length + 1 = (l.length + 1) + 0; omega
  | l :: m :: r, _ => by
    have := jn_len c (ls := m :: r) (by simp)
    show (l ++ c :: jn c (m :: r)).length + 1 = l.length + 1 + wgt (m :: r)
    rw [List.length_append, List.length_cons]
    omega
theorem jn_le (c : Nat) (ls : List (List Nat)) : (jn c ls).length ≤ wgt ls := by
  cases ls with
  | nil => exact Nat.le_refl 0
  | cons l r => have := jn_len c (ls := l :: r) (by simp); omega
theorem spl_wgt (c : Nat) (l : List Nat) : wgt (spl c l) = l.length + 1 := by
  have := jn_len c (spl_ne c l)
  rw [spl_jn] at this
  omega
theorem wgt_mem : ∀ {ls : List (List Nat)} {w : List Nat}, w ∈ ls → w.length + 1 ≤ wgt ls
  | l :: ls, w, h => by
    rw [wgt_cons]
    rcases List.mem_cons.mp h with e | e
    · rw [e]; omega
    · have := wgt_mem e; omega
theorem wgt_many : ∀ (ls : List (List Nat)), ls.length ≤ wgt ls
  | [] => Nat.le_refl _
  | l :: ls => by rw [wgt_cons, List.length_cons]; have := wgt_many ls; omega
theorem wgt_take (ls : List (List Nat)) (j k : Nat) (h : j < ls.length) : wgt (ls.take j) + wgt (ls.drop (j + 1)) ≤ wgt ls := by
  have e : ls = ls.take j ++ (ls[j] :: ls.drop (j + 1)) := by rw [List.getElem_cons_drop, List.take_append_drop]
  have := congrArg wgt e
  rw [wgt_app, wgt_cons] at this
  omega
theorem jn_mem (c : Nat) : ∀ {ls : List (List Nat)} {x : Nat}, x ∈ jn c ls → x = c ∨ ∃ w ∈ ls, x ∈ w
  | [], _, h => nomatch h
  | [l], x, h => .inr ⟨l, List.mem_cons_self, h⟩
  | l :: m :: r, x, h => by
    rcases List.mem_append.mp (show x ∈ l ++ c :: jn c (m :: r) from h) with e | e
    · exact .inr ⟨l, List.mem_cons_self, e⟩
    · rcases List.mem_cons.mp e with e | e
      · exact .inl e
      · exact (jn_mem c e).imp id fun ⟨w, a, b⟩ => ⟨w, List.mem_cons_of_mem _ a, b⟩
theorem mem_jn (c : Nat) : ∀ {ls : List (List Nat)} {x : Nat} {w : List Nat}, w ∈ ls → x ∈ w → x ∈ jn c ls
  | [l], x, w, h, hx => by rw [List.mem_singleton.mp h] at hx; exact hx
  | l :: m :: r, x, w, h, hx => by
    show x ∈ l ++ c :: jn c (m :: r)
    rcases List.mem_cons.mp h with e | e
    · rw [e] at hx; exact List.mem_append_left _ hx
    · exact List.mem_append_right _ (List.mem_cons_of_mem _ (mem_jn c e hx))
theorem spl_mem {c : Nat} {l w : List Nat} {x : Nat} (h : w ∈ spl c l) (hx : x ∈ w) : x ∈ l := by
  have := mem_jn c h hx
  rw [spl_jn] at this
  exact this
/-- where a sign first stands -/
theorem find_tx (c : Nat) (l : List Nat) : (c ∉ l ∧ Txt.find (tx l) (sg1 c) = -1) ∨ ∃ a b, l = a ++ c :: b ∧ c ∉ a ∧ Txt.find (tx l) (sg1 c) = (a.length : Nat) := by
  rw [PyProof.Rows.find_is_find3]
  have hx : (tx l).length = l.length := tx_len l
  have gd : ∀ v, v < l.length → (tx l).cps.getD v 0 = l.getD v 0 := fun v hv => by simp [tx]
  have f0 : PySem.fromIndex (tx l).length 0 = 0 := by simp [PySem.fromIndex]
  rcases StrLaws.find3_spec (tx l) c 0 with ⟨e, h⟩ | ⟨k, e, _, hk, hc, h⟩
  · refine .inl ⟨fun z => ?_, e⟩
    obtain ⟨i, hi, he⟩ := List.getElem_of_mem z
    refine h i (by rw [f0]; exact Nat.zero_le _) (by rw [hx]; exact hi) ?_
    rw [gd i hi, List.getD_eq_getElem?_getD, List.getElem?_eq_getElem hi]
    exact he
  · rw [hx] at hk
    refine .inr ⟨l.take k, l.drop (k + 1), ?_, fun z => ?_, ?_⟩
    · rw [gd k hk, List.getD_eq_getElem?_getD, List.getElem?_eq_getElem hk] at hc
      have hc : l[k] = c := hc
      rw [← hc, List.getElem_cons_drop, List.take_append_drop]
    · obtain ⟨i, hi, he⟩ := List.getElem_of_mem z
      rw [List.length_take] at hi
      rw [List.getElem_take] at he
      refine h i (by rw [f0]; exact Nat.zero_le _) (by omega) ?_
      rw [gd i (by omega), List.getD_eq_getElem?_getD, List.getElem?_eq_getElem (by omega)]
      exact he
    · exact e.trans (by rw [List.length_take, Nat.min_eq_left (by omega)])
/-! one sign replaced by two -/
theorem repl_2 (y z w : Nat) : ∀ l : List Nat, StrLaws.replS [y] [z, w] 0 l = l.flatMap fun c => if c = y then [z, w] else [c]
  | [] => rfl
  | c :: r => by
    rw [StrLaws.replS, List.flatMap_cons]
    by_cases h : c = y
    · rw [if_pos (by rw [h]; rfl), if_pos h]
      show z :: w :: StrLaws.replS [y] [z, w] 0 r = _
      rw [repl_2 y z w r]
      rfl
    · rw [if_neg (fun e => h (by injection e)), if_neg h, repl_2 y z w r]
      rfl
theorem repl2_tx (y z w : Nat) (l : List Nat) : Txt.replace (tx l) (tx [y]) (tx [z, w]) = tx (l.flatMap fun c => if c = y then [z, w] else [c]) := by
  rw [str_tx (Txt.replace _ _ _), StrLaws.replace_list (show 1 ≤ (tx [y]).length by rw [tx_len]; exact Nat.le_refl 1), tx_toList, tx_toList, tx_toList]
  unfold StrLaws.replL
  rw [repl_2]
theorem repl2_len (y z w : Nat) : ∀ l : List Nat, (l.flatMap fun c => if c = y then [z, w] else [c]).length ≤ 2 * l.length
  | [] => Nat.le_refl _
  | c :: r => by
    rw [List.flatMap_cons, List.length_append, List.length_cons]
    have := repl2_len y z w r
    have : (if c = y then [z, w] else [c]).length ≤ 2 := by split <;> simp
    omega
/-! what a text is read as -/
def nbyS : List Nat := [110, 98, 121]
def rwOf (n : Nat) (l : List Nat) : Option (List Nat × List Nat) := match spl 32 l with
  | [a, b] => if (wr (some a) az && (wr (some b) nbyS && decide (b.length = n))) = true then some (a, b) else none
  | _ => none
def plcO (l : List Nat) : Option Nat := (List.range 8).findSome? fun k => if l = lineP (k + 1) then some (k + 1) else none
def rdB (n : Nat) : Nat → List (List Nat) → List (List Nat × List Nat) → Nat ⊕ List (List Nat × List Nat)
  | _, [], acc => .inr acc
  | k, l :: ls, acc => match rwOf n l with
    | none => .inl k
    | some p => if p.1 ∈ acc.map (·.1) ∨ 10 < k then .inl k else rdB n (k + 1) ls (acc ++ [p])
def readT (t : List Nat) : Nat ⊕ (Nat × List (List Nat × List Nat)) := match plcO ((spl 10 t).headD []) with
  | none => .inl 0
  | some n => match rdB n 1 (spl 10 t).tail [] with
    | .inl k => .inl k
    | .inr rs => .inr (n, rs)
def resO : Option (List Nat) → Nat ⊕ (Nat × List (List Nat × List Nat))
  | none => .inl 0
  | some t => readT t
theorem rwOf_some {n : Nat} {l a b : List Nat} (h : rwOf n l = some (a, b)) : spl 32 l = [a, b] ∧ wr (some a) az = true ∧ wr (some b) nbyS = true ∧ b.length = n := by
  unfold rwOf at h
  split at h
  · rename_i a' b' he
    split at h
    · rename_i hc
      cases h
      rw [Bool.and_eq_true, Bool.and_eq_true, decide_eq_true_iff] at hc
      exact ⟨he, hc.1, hc.2.1, hc.2.2⟩
    · cases h
  · cases h
theorem rwOf_two {n : Nat} {l a b : List Nat} (h : spl 32 l = [a, b]) : rwOf n l = if (wr (some a) az && (wr (some b) nbyS && decide (b.length = n))) = true then some (a, b) else none := by
  unfold rwOf
  rw [h]
theorem rwOf_no {n : Nat} {l : List Nat} (h : (spl 32 l).length ≠ 2) : rwOf n l = none := by
  unfold rwOf
  split
  · rename_i a b e
    rw [e] at h
    exact absurd rfl h
  · rfl
theorem wr_free {g l : List Nat} {c : Nat} (h : wr (some l) g = true) (hc : c ∉ g) : c ∉ l := by
  have h : (decide (1 ≤ l.length ∧ l.length ≤ 8) && l.all fun c => decide (c ∈ g)) = true := h
  rw [Bool.and_eq_true] at h
  exact fun z => hc (of_decide_eq_true (List.all_eq_true.mp h.2 c z))
/-- a line, looked at by its first blank -/
theorem rwOf_find {n : Nat} {l : List Nat} : (32 ∉ l → rwOf n l = none) ∧ ∀ a b, l = a ++ 32 :: b → 32 ∉ a → rwOf n l = if (wr (some a) az && (wr (some b) nbyS && decide (b.length = n))) = true then some (a, b) else none := by
  refine ⟨fun h => rwOf_no (by rw [spl_one h]; show 1 ≠ 2; decide), fun a b e ha => ?_⟩
  subst e
  by_cases hb : 32 ∈ b
  · have h2 : (wr (some b) nbyS) = false := by
      cases h : wr (some b) nbyS with
      | false => rfl
      | true => exact absurd hb (wr_free h (by decide))
    rw [h2, Bool.false_and, Bool.and_false, if_neg (by decide)]
    refine rwOf_no ?_
    rw [spl_two ha]
    obtain ⟨a2, b2, e, n2⟩ := in_two hb
    rw [e, spl_two n2, List.length_cons, List.length_cons]
    have := spl_pos 32 b2
    omega
  · exact rwOf_two (by rw [spl_two ha, spl_one hb])
theorem plcO_some {l : List Nat} {n : Nat} (h : plcO l = some n) : l = lineP n ∧ 1 ≤ n ∧ n ≤ 8 := by
  unfold plcO at h
  obtain ⟨k, hk, he⟩ := List.exists_of_findSome?_eq_some h
  have := List.mem_range.mp hk
  by_cases e : l = lineP (k + 1)
  · rw [if_pos e] at he
    cases he
    exact ⟨e, by omega, by omega⟩
  · rw [if_neg e] at he
    cases he
theorem lineP_inj {m n : Nat} (h : lineP m = lineP n) : m = n := by
  unfold lineP at h
  simp at h
  omega
theorem plcO_line {n : Nat} (h1 : 1 ≤ n) (h8 : n ≤ 8) : plcO (lineP n) = some n := by
  cases h : plcO (lineP n) with
  | some m =>
    obtain ⟨e, _⟩ := plcO_some h
    rw [lineP_inj e]
  | none =>
    unfold plcO at h
    have := List.findSome?_eq_none_iff.mp h (n - 1) (List.mem_range.mpr (by omega))
    rw [if_pos (by rw [show n - 1 + 1 = n by omega])] at this
    cases this
theorem plcO_none {l : List Nat} (h : plcO l = none) (n : Nat) (h1 : 1 ≤ n) (h8 : n ≤ 8) : l ≠ lineP n := fun e => by
  rw [e, plcO_line h1 h8] at h
  cases h
/-- rows as they are read: names and rows -/
def RdOk (n : Nat) (rs : List (List Nat × List Nat)) : Prop := ∀ p ∈ rs, wr (some p.1) az = true ∧ wr (some p.2) nbyS = true ∧ p.2.length = n
theorem rd_small {n : Nat} {rs : List (List Nat × List Nat)} (h : RdOk n rs) : ∀ p ∈ rs, (∀ c ∈ p.1, c < 200) ∧ ∀ c ∈ p.2, c < 200 := fun p hp => by
  obtain ⟨a, b, _⟩ := h p hp
  have key : ∀ g : List Nat, (∀ c ∈ g, c < 200) → ∀ l : List Nat, wr (some l) g = true → ∀ c ∈ l, c < 200 := fun g hg l hl c hc => by
    have hl : (decide (1 ≤ l.length ∧ l.length ≤ 8) && l.all fun c => decide (c ∈ g)) = true := hl
    rw [Bool.and_eq_true] at hl
    exact hg c (of_decide_eq_true (List.all_eq_true.mp hl.2 c hc))
  exact ⟨key az (by decide) _ a, key nbyS (by decide) _ b⟩
theorem rdB_ok {n : Nat} : ∀ {ls : List (List Nat)} {k : Nat} {acc rs : List (List Nat × List Nat)}, RdOk n acc → rdB n k ls acc = .inr rs → RdOk n rs
  | [], k, acc, rs, h, e => by
    cases e
    exact h
  | l :: ls, k, acc, rs, h, e => by
    unfold rdB at e
    cases hr : rwOf n l with
    | none => rw [hr] at e; cases e
    | some p =>
      rw [hr] at e
      dsimp only at e
      split at e
      · cases e
      · refine rdB_ok (fun q hq => ?_) e
        rcases List.mem_append.mp hq with z | z
        · exact h q z
        · rw [List.mem_singleton.mp z]
          obtain ⟨_, a, b, c⟩ := rwOf_some hr
          exact ⟨a, b, c⟩
end Hid

namespace Hid
open PySem PySem.Spec PyProof.Rows L2
/-- a comprehension within another's block: the outer block's scope stands around -/
theorem blkOk_in {N : List Str} {sc0 outer scope : Scope} {own : List (Str × Nat)} {env : Env} (he : env.scope = sc0) (h : blkC N (relS outer sc0) scope own = true) : BlkOk N (relabel outer env) scope own := by
  subst he
  exact blkOk_by h
end Hid

namespace Hid
open PySem PySem.Spec PyProof.Rows L2
/-! len of a set of texts -/
def rLenX (w : World) : List V → Hp → VK → Prop := fun vs H Q => ∃ (a : Addr) (xs : List Str), vs = [.ref a] ∧ H a = some (SetX w a xs) ∧ Q (.int (xs.length : Nat)) H
theorem cr_lenX {X : Cx} : CallR X (.builtin "len") (rLenX X.w) := by
  rintro pins s σ H vs us Q I r ⟨a, xs, rfl, ha, q⟩
  obtain ⟨u, rfl, rx⟩ := vals1 r
  cases rx
  obtain ⟨o, es, ep, t, ho, hex, hd, g, pm, nd, hb, hf, hr, hl⟩ := (I.hok a _ ha).1
  have hsz : es.size = xs.length := by rw [← Array.length_toList, ← List.length_map (f := tKey), pm.length_eq]
  have hsb : scanBound ≤ 4096 := by decide
  refine PySem.call_len_set ho hex hd hf (by omega) ⟨.int (xs.length : Nat), H, I.kept (t' := s.toks + 1 + 1) fun _ _ e => e, ⟨_, by rw [hsz]⟩, q⟩
end Hid

namespace Hid
open PySem PySem.Spec PyProof.Rows L2 Evl
/-! lists of ints that are known only to be such -/
section
variable {K : PySem.W.Frag} {σ : L2.St} {H : Hp} {ta tb te : TE} {D : Ends} {tz tu : TS}
def EvZ (te : TE) (σ : L2.St) (H : Hp) : Prop := ∀ H1, Ex H H1 → ∀ Q : VK, (∀ (c : Int) H2, Ex H1 H2 → Q (.int c) H2) → te σ H1 Q
def EvI (te : TE) (σ : L2.St) (H : Hp) : Prop := ∀ H1, Ex H H1 → ∀ Q : VK, (∀ p (zs : List Int) H2, Ex H1 H2 → H2 p = some (.lst (zs.map V.int)) → zs.length ≤ 1000 → Q (.ref p) H2) → te σ H1 Q
theorem cut_ints (ns : List Int) (lo hi : Option Int) : ∃ zs : List Int, cutV (ns.map V.int) lo hi = zs.map V.int ∧ zs.length ≤ ns.length := by
  unfold cutV
  refine ⟨(ns.drop (HT.sIx (ns.map V.int).length 0 lo)).take (HT.sIx (ns.map V.int).length (ns.map V.int).length hi - HT.sIx (ns.map V.int).length 0 lo), by rw [List.map_take, List.map_drop], ?_⟩
  rw [List.length_take, List.length_drop]
  omega
theorem ei_cells {tl th : TO} {a : Addr} {ns : List Int} {lo hi : Option Int} (hz : EvZ ta σ H) (h : Ev te σ H (.ref a)) (hs : SqL K H a (ns.map V.int)) (hn : ns.length ≤ 900) (h1 : EvO tl σ H lo) (h2 : EvO th σ H hi) : EvI (tOp rCat (tLst (tCons ta tNil)) (tSl (rSlL K) te tl th)) σ H := fun H1 e Q q =>
  hz H1 e _ fun c H2 e2 => ⟨by show 1 ≤ sizeLine; decide, fun p1 np1 => by
    have f2 := Ex.new (o := .lst [.int c]) np1
    refine (el_sl h h1 h2 hs) _ (e.trans (e2.trans f2)) _ fun p2 H3 np2 e3 h3 => ⟨p1, p2, _, _, rfl, rfl, e3 _ _ upd_same, h3, ?_, fun pl npl => ?_⟩
    · obtain ⟨zs, hz, hl⟩ := cut_ints ns lo hi
      rw [hz, List.length_map]
      exact sz_of (by show 1 + zs.length ≤ 100000; omega)
    · obtain ⟨zs, hz, hl⟩ := cut_ints ns lo hi
      refine q pl (c :: zs) _ (e2.trans (f2.trans (e3.trans (Ex.new npl)))) ?_ (by rw [List.length_cons]; omega)
      rw [upd_same, hz]
      rfl⟩
theorem q_forI {j : Nat} (h : EvI te σ H) (Pv : Hp → Nat → L2.St → Hp → Prop) (h0 : ∀ G, Ex H G → Pv G 0 σ G) (hE : ∀ G i σ' H', Pv G i σ' H' → Ex G H')
    (hs : ∀ G i (z : Int) σ' H', Ex H G → Pv G i σ' H' → tu { D with nx := Pv G (i + 1), ct := Pv G (i + 1), bk := tz D } (σ'.set j (some (.int z))) H') (hd : ∀ G m σ' H', Ex H G → Pv G m σ' H' → tz D σ' H') : tSeq (tFor (iList K te) (gName j) tu) tz D σ H :=
  h H (Ex.refl _) _ fun p zs G g hp hl => ⟨p, rfl, ⟨_, sq_of hp⟩, for_list (K := K) (xs := zs.map V.int) (Pv G) (h0 G g) (fun i σ' H' _ hP => sq_of (hE G i σ' H' hP _ _ hp)) (fun i x σ' H' hx hP => by
    rw [List.getElem?_map] at hx
    obtain ⟨z, _, rfl⟩ := Option.map_eq_some_iff.mp hx
    exact hs G i z σ' H' g hP) (fun σ' H' hP => hd G _ σ' H' g hP)⟩
end
end Hid

namespace Hid
open PySem PySem.Spec PyProof.Rows L2 Evl
def topS (i : Nat) : Stmt := PySem.Challenge.pw_hidhalves_k04_texts_of_no_books.main.body.getD i (.Pass ⟨0, 0, 0, 0⟩)
abbrev st_is_written_in : Stmt := topS 23
theorem sc_is_written_in : FnScope ["thing", "signs", "sign"] ["thing", "signs"] (defScope st_is_written_in) := ⟨rfl, rfl, rfl, by decide +kernel, rfl, by decide +kernel, by decide +kernel⟩
abbrev st_is_name : Stmt := topS 24
theorem sc_is_name : FnScope ["thing"] ["thing"] (defScope st_is_name) := ⟨rfl, rfl, rfl, by decide +kernel, rfl, by decide +kernel, by decide +kernel⟩
abbrev st_is_row : Stmt := topS 25
theorem sc_is_row : FnScope ["thing"] ["thing"] (defScope st_is_row) := ⟨rfl, rfl, rfl, by decide +kernel, rfl, by decide +kernel, by decide +kernel⟩
abbrev st_is_row_of : Stmt := topS 26
theorem sc_is_row_of : FnScope ["thing", "places"] ["thing", "places"] (defScope st_is_row_of) := ⟨rfl, rfl, rfl, by decide +kernel, rfl, by decide +kernel, by decide +kernel⟩
abbrev st_is_tuple_of : Stmt := topS 27
theorem sc_is_tuple_of : FnScope ["thing", "many"] ["thing", "many"] (defScope st_is_tuple_of) := ⟨rfl, rfl, rfl, by decide +kernel, rfl, by decide +kernel, by decide +kernel⟩
abbrev st_is_named_row : Stmt := topS 28
theorem sc_is_named_row : FnScope ["thing", "places"] ["thing", "places"] (defScope st_is_named_row) := ⟨rfl, rfl, rfl, by decide +kernel, rfl, by decide +kernel, by decide +kernel⟩
abbrev st_places_line : Stmt := topS 30
theorem sc_places_line : FnScope ["places"] ["places"] (defScope st_places_line) := ⟨rfl, rfl, rfl, by decide +kernel, rfl, by decide +kernel, by decide +kernel⟩
abbrev st_read_places : Stmt := topS 31
theorem sc_read_places : FnScope ["line", "places"] ["line"] (defScope st_read_places) := ⟨rfl, rfl, rfl, by decide +kernel, rfl, by decide +kernel, by decide +kernel⟩
abbrev st_read_book : Stmt := topS 32
theorem sc_read_book : FnScope ["text", "lines", "places", "rows", "at", "line", "named"] ["text"] (defScope st_read_book) := ⟨rfl, rfl, rfl, by decide +kernel, rfl, by decide +kernel, by decide +kernel⟩
abbrev st__law_cell : Stmt := topS 34
theorem sc__law_cell : FnScope ["_law_script", "_law_k", "_law_state", "_law_cell_here"] ["_law_script", "_law_k"] (defScope st__law_cell) := ⟨rfl, rfl, rfl, by decide +kernel, rfl, by decide +kernel, by decide +kernel⟩
abbrev st__law_numbers : Stmt := topS 35
theorem sc__law_numbers : FnScope ["_law_cell_here", "_law_many", "_law_found", "_law_state", "_law_digits", "_law_k"] ["_law_cell_here", "_law_many"] (defScope st__law_numbers) := ⟨rfl, rfl, rfl, by decide +kernel, rfl, by decide +kernel, by decide +kernel⟩
abbrev st__law_names : Stmt := topS 36
theorem sc__law_names : FnScope ["_law_xs", "_law_many", "_law_found", "_law_k", "_law_letter", "_law_name"] ["_law_xs", "_law_many"] (defScope st__law_names) := ⟨rfl, rfl, rfl, by decide +kernel, rfl, by decide +kernel, by decide +kernel⟩
abbrev st__law_any_row : Stmt := topS 37
theorem sc__law_any_row : FnScope ["_law_xs", "_law_places", "_law_k"] ["_law_xs", "_law_places"] (defScope st__law_any_row) := ⟨rfl, rfl, rfl, by decide +kernel, rfl, by decide +kernel, by decide +kernel⟩
abbrev st__law_turned_at : Stmt := topS 38
theorem sc__law_turned_at : FnScope ["_law_half", "_law_place", "_law_sign"] ["_law_half", "_law_place"] (defScope st__law_turned_at) := ⟨rfl, rfl, rfl, by decide +kernel, rfl, by decide +kernel, by decide +kernel⟩
abbrev st__law_tree_halves : Stmt := topS 39
theorem sc__law_tree_halves : FnScope ["_law_xs", "_law_places", "_law_left", "_law_found", "_law_k", "_law_place", "_law_half"] ["_law_xs", "_law_places"] (defScope st__law_tree_halves) := ⟨rfl, rfl, rfl, by decide +kernel, rfl, by decide +kernel, by decide +kernel⟩
abbrev st__law_joined_row : Stmt := topS 40
theorem sc__law_joined_row : FnScope ["_law_one", "_law_other", "_law_signs", "_law_k"] ["_law_one", "_law_other"] (defScope st__law_joined_row) := ⟨rfl, rfl, rfl, by decide +kernel, rfl, by decide +kernel, by decide +kernel⟩
abbrev st__law_book : Stmt := topS 41
theorem sc__law_book : FnScope ["_law_script", "_law_at", "_law_many", "_law_places", "_law_head", "_law_wide", "_law_amount", "_law_names_here", "_law_halves", "_law_rows", "_law_k", "_law_xs", "_law_row", "_law_place"] ["_law_script", "_law_at", "_law_many", "_law_places"] (defScope st__law_book) := ⟨rfl, rfl, rfl, by decide +kernel, rfl, by decide +kernel, by decide +kernel⟩
abbrev st__law_written : Stmt := topS 42
theorem sc__law_written : FnScope ["_law_thing", "_law_signs", "_law_most", "_law_sign"] ["_law_thing", "_law_signs", "_law_most"] (defScope st__law_written) := ⟨rfl, rfl, rfl, by decide +kernel, rfl, by decide +kernel, by decide +kernel⟩
abbrev st__law_is_name : Stmt := topS 43
theorem sc__law_is_name : FnScope ["_law_thing"] ["_law_thing"] (defScope st__law_is_name) := ⟨rfl, rfl, rfl, by decide +kernel, rfl, by decide +kernel, by decide +kernel⟩
abbrev st__law_text : Stmt := topS 44
theorem sc__law_text : FnScope ["_law_book_here", "_law_text_here", "_law_name", "_law_row"] ["_law_book_here"] (defScope st__law_text) := ⟨rfl, rfl, rfl, by decide +kernel, rfl, by decide +kernel, by decide +kernel⟩
abbrev st__law_due : Stmt := topS 45
theorem sc__law_due : FnScope ["_law_text_here", "_law_rows", "_law_firsts", "_law_places", "_law_found", "_law_k", "_law_at", "_law_name", "_law_row", "_law_own"] ["_law_text_here"] (defScope st__law_due) := ⟨rfl, rfl, rfl, by decide +kernel, rfl, by decide +kernel, by decide +kernel⟩
abbrev st__law_told : Stmt := topS 46
theorem sc__law_told : FnScope ["_law_thing", "_law_caught", "_law_found", "e", "_law_others"] ["_law_thing"] (defScope st__law_told) := ⟨rfl, rfl, rfl, by decide +kernel, rfl, by decide +kernel, by decide +kernel⟩
abbrev st__law_spoilt : Stmt := topS 47
theorem sc__law_spoilt : FnScope ["_law_rows", "_law_xs", "_law_some", "_law_at", "_law_words", "_law_k", "_law_odd", "_law_way", "_law_row", "_law_left", "_law_spot", "_law_last", "_law_name"] ["_law_rows", "_law_xs"] (defScope st__law_spoilt) := ⟨rfl, rfl, rfl, by decide +kernel, rfl, by decide +kernel, by decide +kernel⟩
abbrev st_law : Stmt := topS 48
theorem sc_law : FnScope ["_law_script", "_law_letters", "_law_rows", "_law_cell_here", "_law_xs", "_law_some", "_law_k", "_law_name", "_law_turn", "_law_text_here", "_law_full", "_law_fixed", "_law_thing"] ["_law_script"] (defScope st_law) := ⟨rfl, rfl, rfl, by decide +kernel, rfl, by decide +kernel, by decide +kernel⟩
section
variable {P : Program} {w : World} {K : PySem.W.Frag} {mg : Str → Option Value} {base : Heap}
def sp__law_cell (K : PySem.W.Frag) (ts : List Addr) : Sp := fun vs H Q _ => ∃ (a : Addr) (ns : List Int) (k : Int), vs = [.ref a, .int k] ∧ SqL K H a (ns.map V.int) ∧ (0 ≤ k ∧ k ≤ 1000) ∧ ∀ (c : Int) H2, Ex H H2 → Q (.int c) H2
theorem ok__law_cell {ts : List Addr} (D : Df K mg "_law_cell" st__law_cell ["_law_script", "_law_k"]) (m_len : mg "len" = none) : At P w K mg base "_law_cell" st__law_cell 1 ["_law_script", "_law_k"] (sp__law_cell K ts) := by
  obtain ⟨f, fd, F, b, g⟩ := D
  refine ⟨f, fd, F, b, g, F.ok sc__law_cell (fun vs H Q E h => ?_) (fun cdv A outer s H vs Q E hr h => ?_)⟩
  · obtain ⟨a, ns, k, rfl, _⟩ := h
    rfl
  · obtain ⟨a, ns, k, rfl, hS, hk, q⟩ := h
    refine ⟨_, (pss_cons (ps_if (pt_cmpR op_lt (pv 1) (pe_callB call_len_seq (by rfl) m_len (by decide +kernel) (pa_cons (pv 0) pa_nil)) (nomark _))
      (pss_one (ps_ret (pe_ix ix_list (pv 0) (pv 1) (fun _ _ => rfl))))
      pss_nil)
      (pss_cons (ps_set (i := 2) sc__law_cell.nd rfl (.inl rfl) (pe_op op_mod (pe_op op_mul pe_int (pe_op op_add (pe_op op_add (pe_op op_mul (pv 1) (pv 1)) (pe_op op_mul pe_int (pv 1))) pe_int)) pe_int))
      (pss_cons (ps_for PassesOwn.never rfl (pi_list (pe_slice sl_list (pv 0) po_none (po_some pe_int))) (pg_name (i := 3) sc__law_cell.nd rfl (.inl rfl))
      (pss_one (ps_set (i := 2) sc__law_cell.nd rfl (.inl rfl) (pe_op op_mod (pe_op op_add (pe_op op_mul (pv 2) pe_int) (pv 3)) pe_int))))
      (pss_one (ps_ret (pv 2)))))), ?_⟩
    refine q_when (et_test (ev_op (ev_var rfl) (ev_len (ev_var rfl) hS) rv_I0)) (fun hb H1 e1 => ?_) (fun hb H1 e1 => ?_)
    · have hb' : k < ((ns.map V.int).length : Int) := of_decide_eq_true hb
      have hj : k.toNat < ns.length := by rw [List.length_map] at hb'; omega
      have hat : atI (ns.map V.int) k = some (.int ns[k.toNat]) := by
        have := atI_nat (xs := ns.map V.int) (j := k.toNat) (v := .int ns[k.toNat]) (by rw [List.getElem?_map, List.getElem?_eq_getElem hj]; rfl)
        rwa [Int.toNat_of_nonneg hk.1] at this
      exact s_ret (ev_op (ev_var rfl) (ev_var rfl) (rv_ixL (ex_l e1 hS) hat)) fun H2 e2 => q _ _ (e1.trans e2)
    · refine q_asg (ev_op (ev_op ev_c (ev_op (ev_op (ev_op (ev_var rfl) (ev_var rfl) (rv_I (.inl ⟨by omega, by omega⟩))) (ev_op ev_c (ev_var rfl) (rv_I (.inl ⟨by omega, by omega⟩))) rv_I0) ev_c rv_I0) (rv_I (.inl ⟨by omega, by omega⟩))) ev_c (rv_I (by show (0 : Int) < 2147483647; decide))) fun H2 e2 => ?_
      refine q_forNLn (el_sl (ev_var rfl) eo_none (eo_some ev_c) (ex_l (e1.trans e2) hS)) (fun p i σ' H' => ∃ (c : Int) (y3 : Option V), σ' = [some (.ref a), some (.int k), some (.int c), y3] ∧ (0 ≤ c ∧ c < 2147483647) ∧ Ex H H' ∧ H' p = some (.lst (cutV (ns.map V.int) none (some 3)))) (fun p H3 hp e3 h3 => ⟨_, _, rfl, ⟨by omega, by omega⟩, (e1.trans e2).trans e3, h3⟩) (fun p i σ' H' _ hP => ?_) (fun p i x σ' H' hx hP => ?_) (fun p σ' H' hP => ?_)
      · obtain ⟨c, y3, _, _, _, h3⟩ := hP
        exact sq_of h3
      · obtain ⟨c, y3, rfl, hc, e3, h3⟩ := hP
        have hm : x ∈ ns.map V.int := List.mem_of_mem_drop (List.mem_of_mem_take (List.mem_of_getElem? hx))
        obtain ⟨z, _, rfl⟩ := List.mem_map.mp hm
        refine s_asg (ev_op (ev_op (ev_op (ev_var rfl) ev_c (rv_I (.inl ⟨by omega, by omega⟩))) (ev_var rfl) rv_I0) ev_c (rv_I (by show (0 : Int) < 2147483647; decide))) fun H4 e4 => ?_
        exact ⟨_, _, rfl, ⟨by omega, by omega⟩, e3.trans e4, e4 _ _ h3⟩
      · obtain ⟨c, y3, rfl, hc, e3, h3⟩ := hP
        exact s_ret (ev_var rfl) fun H4 e4 => q _ _ (e3.trans e4)
def sp__law_numbers (K : PySem.W.Frag) (ts : List Addr) : Sp := fun vs H Q _ => ∃ (c n : Int), vs = [.int c, .int n] ∧ (0 ≤ n ∧ n ≤ 1000) ∧ ∀ xs : List Int, (xs.length : Int) = n → (∀ x ∈ xs, 0 ≤ x) → RetL (xs.map V.int) H Q
theorem ok__law_numbers {ts : List Addr} (D : Df K mg "_law_numbers" st__law_numbers ["_law_cell_here", "_law_many"]) (m_abs : mg "abs" = none) (m_range : mg "range" = none) (m_int : mg "int" = none) : At P w K mg base "_law_numbers" st__law_numbers 1 ["_law_cell_here", "_law_many"] (sp__law_numbers K ts) := by
  obtain ⟨f, fd, F, b, g⟩ := D
  refine ⟨f, fd, F, b, g, F.ok sc__law_numbers (fun vs H Q E h => ?_) (fun cdv A outer s H vs Q E hr h => ?_)⟩
  · obtain ⟨c, n, rfl, _⟩ := h
    rfl
  · obtain ⟨c, n, rfl, hn, q⟩ := h
    refine ⟨_, (pss_cons (ps_set (i := 2) sc__law_numbers.nd rfl (.inl rfl) (pe_lst pa_nil))
      (pss_cons (ps_set (i := 3) sc__law_numbers.nd rfl (.inl rfl) (pe_op op_mod (pe_op op_mul (pe_op op_add (pe_op op_mod (pv 0) pe_int) pe_int) pe_int) pe_int))
      (pss_cons (ps_set (i := 4) sc__law_numbers.nd rfl (.inl rfl) pe_int)
      (pss_cut (ps_if (PW.pt (pw_or (pt_cmpR op_lt (pv 0) pe_int (nomark _)) (pw_or1 (pt_cmpR op_ge (pv 0) (pe_op op_pow pe_int pe_int) (nomark _)))))
      (pss_one (ps_set (i := 4) sc__law_numbers.nd rfl (.inl rfl) (pe_callB call_abs (by rfl) m_abs (by decide +kernel) (pa_cons (pv 0) pa_nil))))
      pss_nil)
      (pss_cons (ps_for PassesOwn.never rfl (pi_range1 (by rfl) m_range (pa_cons (pv 1) pa_nil)) (pg_name (i := 5) sc__law_numbers.nd rfl (.inl rfl))
      (pss_cons (ps_set (i := 3) sc__law_numbers.nd rfl (.inl rfl) (pe_op op_mod (pe_op op_add (pe_op op_add (pe_op op_mul (pv 3) (pe_op op_add (pe_op op_mod (pv 3) pe_int) pe_int)) (pe_op op_mul pe_int (pv 5))) pe_int) pe_int))
      (pss_cons (ps_expr (pe_bm PySem.F.plainAttrs_list PySem.F.slot_list_append PySem.F.type_list_append mt_append (pv 2) (pa_cons (pe_ix ix_list (pe_lst (pa_cons (pv 3) (pa_cons (pe_op op_mod (pv 4) pe_int) pa_nil))) (pe_callTy call_int1 (by rfl) m_int (by decide +kernel) (pa_cons (pe_cmpR op_gt (pv 4) pe_int (nomark _)) pa_nil)) (fun _ _ => rfl)) pa_nil)))
      (pss_one (ps_set (i := 4) sc__law_numbers.nd rfl (.inl rfl) (pe_op op_fdiv (pv 4) pe_int))))))
      (pss_one (ps_ret (pv 2)))))))), ?_⟩
    refine q_asgL (el_lst ea_nil (by decide)) fun l H1 hl e1 h1 => ?_
    refine q_asg (ev_op (ev_op (ev_op (ev_op (ev_var rfl) ev_c (rv_I (by show (0 : Int) < 1999999973; decide))) ev_c rv_I0) ev_c (rv_I (.inl ⟨by omega, by omega⟩))) ev_c (rv_I (by show (0 : Int) < 1999999973; decide))) fun H2 e2 => ?_
    refine q_asg ev_c fun H3 e3 => ?_
    have e13 : Ex H H3 := (e1.trans e2).trans e3
    have h3 : H3 l = some (.lst []) := e3 _ _ (e2 _ _ h1)
    generalize hst : ((c % 1999999973 + 31) * 765432101) % 1999999973 = st
    have hst1 : 0 ≤ st ∧ st < 1999999973 := by omega
    refine q_cut (M := fun σ' H' => ∃ d : Int, σ' = [some (.int c), some (.int n), some (.ref l), some (.int st), some (.int d), none] ∧ 0 ≤ d ∧ Ex H H' ∧ H' l = some (.lst [])) ?_ ?_
    · refine s_when (et_or (et_test (ev_op (ev_var rfl) ev_c rv_I0)) fun _ => et_test (ev_op (ev_var rfl) (ev_op ev_c ev_c (rv_I ⟨by decide, by decide, by decide⟩)) rv_I0)) (fun hb H4 e4 => ?_) (fun hb H4 e4 => ?_)
      · refine s_asg (ev_cb (ea_cons (ev_var rfl) ea_nil) (z := .int (if c < 0 then -c else c)) (fun Hx ex Qx qx => ⟨c, rfl, qx Hx (Ex.refl _)⟩)) fun H5 e5 => ?_
        exact ⟨_, rfl, by split <;> omega, (e13.trans e4).trans e5, e5 _ _ (e4 _ _ h3)⟩
      · exact ⟨0, rfl, Int.le_refl _, e13.trans e4, e4 _ _ h3⟩
    · rintro σ' H' ⟨d, rfl, hd, e4, h4⟩
      refine q_forR1 (ea_cons (ev_var rfl) ea_nil) ⟨hn.1, by omega⟩ (fun i σ' H' => ∃ (xs : List Int) (st d : Int) (y5 : Option V), σ' = [some (.int c), some (.int n), some (.ref l), some (.int st), some (.int d), y5] ∧ (0 ≤ st ∧ st < 1999999973) ∧ 0 ≤ d ∧ xs.length = i ∧ (∀ x ∈ xs, 0 ≤ x) ∧ Ex H H' ∧ H' l = some (.lst (xs.map V.int))) (fun H5 e5 => ⟨[], st, d, _, rfl, hst1, hd, rfl, (fun _ m => nomatch m), e4.trans e5, e5 _ _ h4⟩) (fun i σ' H' hi hP => ?_) (fun σ' H' hP => ?_)
      · obtain ⟨xs, st, d, y5, rfl, hs, hd, hx, hpos, e6, h6⟩ := hP
        refine q_asg (ev_op (ev_op (ev_op (ev_op (ev_var rfl) (ev_op (ev_op (ev_var rfl) ev_c (rv_I (by show (0 : Int) < 65521; decide))) ev_c rv_I0) (rv_I (.inl ⟨by omega, by omega⟩))) (ev_op ev_c (ev_var rfl) (rv_I (.inl ⟨by omega, by omega⟩))) rv_I0) ev_c rv_I0) ev_c (rv_I (by show (0 : Int) < 1999999973; decide))) fun H7 e7 => ?_
        generalize hst2 : (st * (st % 65521 + 40487) + 7 * (i : Int) + 5) % 1999999973 = st2
        have hb2 : 0 ≤ st2 ∧ st2 < 1999999973 := by rw [← hst2]; exact ⟨Int.emod_nonneg _ (by decide), Int.emod_lt_of_pos _ (by decide)⟩
        have h7 : H7 l = some (.lst (xs.map V.int)) := e7 _ _ h6
        refine q_app (v := .int (if d > 0 then d % 1000000 else st2)) h7 (ev_var rfl) ?_ (by rw [List.length_map]; omega) fun H8 e8 => ?_
        · refine ev_opL1 (el_lst (ea_cons (ev_var rfl) (ea_cons (ev_op (ev_var rfl) ev_c (rv_I (by show (0 : Int) < 1000000; decide))) ea_nil)) (by show 2 ≤ 100000; decide)) (y := .int (if decide (d > 0) = true then 1 else 0)) (fun Hx ex => ev_cb (ea_cons (ev_op (ev_var rfl) ev_c rv_I0) ea_nil) fun Hy ey Qy qy => .inr ⟨_, rfl, qy Hy (Ex.refl _)⟩) fun p Hx hp ex => rv_ixL (sq_of hp) ?_
          by_cases hd0 : d > 0
          · rw [decide_eq_true hd0, if_pos hd0] <;> rfl
          · rw [decide_eq_false hd0, if_neg hd0] <;> rfl
        · refine s_asg (ev_op (ev_var rfl) ev_c (rv_I ⟨by decide, by decide⟩)) fun H9 e9 => ?_
          have ne : H l = none := hl
          refine ⟨xs ++ [if d > 0 then d % 1000000 else st2], st2, d / 1000000, _, rfl, hb2, by omega, by rw [List.length_append, hx]; rfl, fun x hx2 => ?_, ?_, ?_⟩
          · rcases List.mem_append.mp hx2 with h | h
            · exact hpos x h
            · rw [List.mem_singleton.mp h]
              split <;> omega
          · exact ((e6.trans e7).trans e8 |>.mut ne).trans e9
          · refine e9 _ _ ?_
            rw [upd_same, List.map_append] <;> rfl
      · obtain ⟨xs, st, d, y5, rfl, hs, hd, hx, hpos, e6, h6⟩ := hP
        exact s_ret (ev_var rfl) fun H7 e7 => q xs (by omega) hpos l H7 hl (e6.trans e7) (e7 _ _ h6)
def sp__law_any_row (K : PySem.W.Frag) (ts : List Addr) : Sp := fun vs H Q _ => ∃ (a : Addr) (xs : List Int) (n : Nat), vs = [.ref a, .int (n : Nat)] ∧ SqL K H a (xs.map V.int) ∧ (n ≤ xs.length ∧ n ≤ 1000) ∧ ∀ l : List Nat, l.length = n → (∀ c ∈ l, c = 110 ∨ c = 98 ∨ c = 121) → RetV (.str (tx l)) H Q
theorem ok__law_any_row {ts : List Addr} (D : Df K mg "_law_any_row" st__law_any_row ["_law_xs", "_law_places"]) (m_range : mg "range" = none) : At P w K mg base "_law_any_row" st__law_any_row 1 ["_law_xs", "_law_places"] (sp__law_any_row K ts) := by
  obtain ⟨f, fd, F, b, g⟩ := D
  refine ⟨f, fd, F, b, g, F.ok sc__law_any_row (fun vs H Q E h => ?_) (fun cdv A outer s H vs Q E hr h => ?_)⟩
  · obtain ⟨a, xs, n, rfl, _⟩ := h
    rfl
  · obtain ⟨a, xs, n, rfl, hS, hn, q⟩ := h
    refine ⟨_, (pss_one (ps_ret (pe_join pe_str (pe_lc (own := [("_law_k", 2)]) (g := gName 2) (by rfl) sc__law_any_row.nd (pi_range1 (by rfl) m_range (pa_cons (pv 1) pa_nil)) (blkOk_by (N := ["_law_xs", "_law_places", "_law_k"]) (sc := defScope st__law_any_row) (by decide +kernel)) (fun _ _ _ _ _ => (pg_name (i := 2) sc__law_any_row.nd rfl (.inl rfl))) (fun _ _ _ _ _ => pts_nil) (fun _ _ _ _ _ => (pe_ix ix_str pe_str (pe_op op_mod (pe_ix (show IxR _ (rIxL K) from ix_list) (pv 0) (pv 2) (fun _ _ => rfl)) pe_int) (fun _ _ => rfl))))))), ?_⟩
    refine ⟨⟨_, rfl⟩, ?_⟩
    have hcd : ∀ x : Int, atI ("nbybn" : Str).cps.toList (x % 5) = some ([110, 98, 121, 98, 110].getD (x % 5).toNat 110) := fun x => by
      have h0 := Int.emod_nonneg x (show (5 : Int) ≠ 0 by decide)
      have h1 := Int.emod_lt_of_pos x (show (0 : Int) < 5 by decide)
      generalize x % 5 = y at h0 h1
      have : y = 0 ∨ y = 1 ∨ y = 2 ∨ y = 3 ∨ y = 4 := by omega
      rcases this with h | h | h | h | h <;> subst h <;> rfl
    have hcm : ∀ x : Int, ([110, 98, 121, 98, 110].getD (x % 5).toNat 110 = 110 ∨ [110, 98, 121, 98, 110].getD (x % 5).toNat 110 = 98 ∨ [110, 98, 121, 98, 110].getD (x % 5).toNat 110 = 121) := fun x => by
      have h0 := Int.emod_nonneg x (show (5 : Int) ≠ 0 by decide)
      have h1 := Int.emod_lt_of_pos x (show (0 : Int) < 5 by decide)
      generalize x % 5 = y at h0 h1
      have : y = 0 ∨ y = 1 ∨ y = 2 ∨ y = 3 ∨ y = 4 := by omega
      rcases this with h | h | h | h | h <;> subst h <;> decide
    refine (el_lcR1 (fun _ => true) (fun i => V.str (sg1 ([110, 98, 121, 98, 110].getD (xs.getD i 0 % 5).toNat 110))) (ea_cons (ev_var rfl) ea_nil) ⟨by omega, by omega⟩ (fun _ => rfl) (fun i H1 e1 hi => et_yes) (fun i H1 e1 hi _ => ?_)) H (Ex.refl _) _ fun p H2 hp e2 h2 => ?_
    · have hi' : i < xs.length := by omega
      refine ev_op ev_c (ev_op (ev_op (ev_var rfl) (ev_var rfl) (rv_ixL (ex_l e1 hS) (v := .int (xs.getD i 0)) ?_)) ev_c (rv_I (by show (0 : Int) < 5; decide))) (rv_ixS (by decide) (hcd _))
      refine atI_nat ?_
      rw [List.getElem?_map, List.getD_eq_getElem?_getD, List.getElem?_eq_getElem hi']
      rfl
    · rw [Int.toNat_natCast, given_true] at h2
      have e : (List.range n).map (fun i => V.str (sg1 ([110, 98, 121, 98, 110].getD (xs.getD i 0 % 5).toNat 110))) = vs1 ((List.range n).map fun i => [110, 98, 121, 98, 110].getD (xs.getD i 0 % 5).toNat 110) := by
        show _ = List.map _ _
        rw [List.map_map]
        rfl
      rw [e] at h2
      refine r_join (sq_of h2) (by rw [List.length_map, List.length_range]; omega) (q _ (by rw [List.length_map, List.length_range]) (fun c hc => ?_) H2 e2)
      obtain ⟨i, _, rfl⟩ := List.mem_map.mp hc
      exact hcm _
def sp__law_joined_row (K : PySem.W.Frag) (ts : List Addr) : Sp := fun vs H Q _ => ∃ a o : List Nat, vs = [.str (tx a), .str (tx o)] ∧ (a.length = o.length ∧ o.length ≤ 1000) ∧ RetV (.str (tx (rowBy a o))) H Q
theorem ok__law_joined_row {ts : List Addr} (D : Df K mg "_law_joined_row" st__law_joined_row ["_law_one", "_law_other"]) (m_range : mg "range" = none) (m_len : mg "len" = none) : At P w K mg base "_law_joined_row" st__law_joined_row 1 ["_law_one", "_law_other"] (sp__law_joined_row K ts) := by
  obtain ⟨f, fd, F, b, g⟩ := D
  refine ⟨f, fd, F, b, g, F.ok sc__law_joined_row (fun vs H Q E h => ?_) (fun cdv A outer s H vs Q E hr h => ?_)⟩
  · obtain ⟨a, o, rfl, _⟩ := h
    rfl
  · obtain ⟨a, o, rfl, hl, q⟩ := h
    refine ⟨_, (pss_cons (ps_set (i := 2) sc__law_joined_row.nd rfl (.inl rfl) (pe_lst pa_nil))
      (pss_cons (ps_for PassesOwn.never rfl (pi_range1 (by rfl) m_range (pa_cons (pe_callB call_len_str (by rfl) m_len (by decide +kernel) (pa_cons (pv 0) pa_nil)) pa_nil)) (pg_name (i := 3) sc__law_joined_row.nd rfl (.inl rfl))
      (pss_one (ps_expr (pe_bm PySem.F.plainAttrs_list PySem.F.slot_list_append PySem.F.type_list_append mt_append (pv 2) (pa_cons (pe_ifExp (pt_cmpR op_eq (pe_ix ix_str (pv 0) (pv 3) (fun _ _ => rfl)) (pe_ix ix_str (pv 1) (pv 3) (fun _ _ => rfl)) (nomark _)) (pe_ix ix_str (pv 0) (pv 3) (fun _ _ => rfl)) pe_str) pa_nil)))))
      (pss_one (ps_ret (pe_join pe_str (pv 2)))))), ?_⟩
    have hla : (tx a).length = a.length := by simp [tx, Str.length]
    have hlo : (tx o).length = o.length := by simp [tx, Str.length]
    have hrl : (rowBy a o).length = a.length := by unfold rowBy; rw [List.length_zipWith]; omega
    refine q_asgL (el_lst ea_nil (by decide)) fun l H1 nl e1 h1 => ?_
    refine q_forR1 (n := (a.length : Int)) (ea_cons (ev_is (ev_lenS (ev_var rfl) (by omega)) (by rw [hla])) ea_nil) ⟨by omega, by omega⟩ (fun i σ' H' => ∃ y3 : Option V, σ' = [some (.str (tx a)), some (.str (tx o)), some (.ref l), y3] ∧ Ex H H' ∧ H' l = some (.lst (vs1 ((rowBy a o).take i)))) (fun H2 e2 => ⟨_, rfl, e1.trans e2, e2 _ _ h1⟩) (fun i σ' H2 hi hP => ?_) (fun σ' H2 hP => ?_)
    · obtain ⟨y3, rfl, e2, h2⟩ := hP
      have hia : i < a.length := by omega
      have hio : i < o.length := by omega
      have aa : atI (tx a).cps.toList (i : Int) = some a[i] := atI_nat (by simp [tx, hia])
      have ao : atI (tx o).cps.toList (i : Int) = some o[i] := atI_nat (by simp [tx, hio])
      have hg : (rowBy a o)[i]? = some (rb a[i] o[i]) := by unfold rowBy; rw [List.getElem?_zipWith, List.getElem?_eq_getElem hia, List.getElem?_eq_getElem hio]
      refine s_app (v := .str (sg1 (rb a[i] o[i]))) h2 (ev_var rfl) (ev_if (et_is (et_test (ev_op (ev_op (ev_var rfl) (ev_var rfl) (rv_ixS (by omega) aa)) (ev_op (ev_var rfl) (ev_var rfl) (rv_ixS (by omega) ao)) (rv_eq rfl))) (str1_dec a[i] o[i])) (fun hb => ev_is (ev_op (ev_var rfl) (ev_var rfl) (rv_ixS (by omega) aa)) ?_) (fun hb => ev_is ev_c ?_)) (by rw [List.length_map, List.length_take]; omega) fun H3 e3 => ⟨_, rfl, (e2.trans e3).mut nl, ?_⟩
      · unfold rb; rw [if_pos (of_decide_eq_true hb)]; rfl
      · unfold rb; rw [if_neg (of_decide_eq_false hb)]; rfl
      · rw [upd_same, List.take_add_one, hg]
        show _ = some (HO.lst (List.map _ _))
        rw [List.map_append]
        rfl
    · obtain ⟨y3, rfl, e2, h2⟩ := hP
      rw [List.take_of_length_le (by omega)] at h2
      exact ⟨⟨_, rfl⟩, _, rfl, r_join (sq_of h2) (by omega) (q H2 e2)⟩
def sp__law_names (K : PySem.W.Frag) (ts : List Addr) : Sp := fun vs H Q _ => ∃ (a : Addr) (xs : List Int) (m : Nat), vs = [.ref a, .int (m : Nat)] ∧ SqL K H a (xs.map V.int) ∧ (3 ≤ xs.length ∧ m ≤ 10) ∧ ∀ x y z : Nat, x < 10 → y < 4 → z < 3 → RetL ((List.range m).map fun k => .str (tx (nameOf x y z k))) H Q
theorem ok__law_names {ts : List Addr} (D : Df K mg "_law_names" st__law_names ["_law_xs", "_law_many"]) (m_range : mg "range" = none) : At P w K mg base "_law_names" st__law_names 1 ["_law_xs", "_law_many"] (sp__law_names K ts) := by
  obtain ⟨f, fd, F, b, g⟩ := D
  refine ⟨f, fd, F, b, g, F.ok sc__law_names (fun vs H Q E h => ?_) (fun cdv A outer s H vs Q E hr h => ?_)⟩
  · obtain ⟨a, xs, m, rfl, _⟩ := h
    rfl
  · obtain ⟨a, xs, m, rfl, hS, ⟨hxl, hm⟩, q⟩ := h
    refine ⟨_, (pss_cons (ps_set (i := 2) sc__law_names.nd rfl (.inl rfl) (pe_lst pa_nil))
      (pss_cons (ps_for PassesOwn.never rfl (pi_range1 (by rfl) m_range (pa_cons (pv 1) pa_nil)) (pg_name (i := 3) sc__law_names.nd rfl (.inl rfl))
      (pss_cons (ps_set (i := 4) sc__law_names.nd rfl (.inl rfl) (pe_ix ix_str pe_str (pe_op op_mod (pe_op op_add (pv 3) (pe_ix ix_list (pv 0) pe_int (fun _ _ => rfl))) pe_int) (fun _ _ => rfl)))
      (pss_cons (ps_set (i := 5) sc__law_names.nd rfl (.inl rfl) (pe_op op_add_str (pv 4) (pe_ix ix_list (pe_lst (pa_cons pe_str (pa_cons pe_str (pa_cons pe_str (pa_cons pe_str pa_nil))))) (pe_op op_mod (pe_ix ix_list (pv 0) pe_int (fun _ _ => rfl)) pe_int) (fun _ _ => rfl))))
      (pss_cons (ps_if (pt_cmpR op_eq (pe_op op_mod (pe_ix ix_list (pv 0) pe_int (fun _ _ => rfl)) pe_int) pe_int (nomark _))
      (pss_one (ps_set (i := 5) sc__law_names.nd rfl (.inl rfl) (pe_op Hid.op_mul_str (pe_ix ix_str pe_str (pe_op op_fdiv (pv 3) pe_int) (fun _ _ => rfl)) (pe_op op_add pe_int (pe_op op_mod (pv 3) pe_int)))))
      pss_nil)
      (pss_cons (ps_if (pt_cmpR op_eq (pe_op op_mod (pe_ix ix_list (pv 0) pe_int (fun _ _ => rfl)) pe_int) pe_int (nomark _))
      (pss_one (ps_set (i := 5) sc__law_names.nd rfl (.inl rfl) (pe_op op_add_str (pe_ix ix_list (pe_lst (pa_cons pe_str (pa_cons pe_str (pa_cons pe_str (pa_cons pe_str pa_nil))))) (pe_op op_mod (pe_ix ix_list (pv 0) pe_int (fun _ _ => rfl)) pe_int) (fun _ _ => rfl)) (pv 4))))
      pss_nil)
      (pss_one (ps_expr (pe_bm PySem.F.plainAttrs_list PySem.F.slot_list_append PySem.F.type_list_append mt_append (pv 2) (pa_cons (pv 5) pa_nil)))))))))
      (pss_one (ps_ret (pv 2))))), ?_⟩
    have ax : ∀ (j : Nat) (hj : j < 3), atI (xs.map V.int) (j : Int) = some (.int (xs.getD j 0)) := fun j hj => atI_nat (by rw [List.getElem?_map, List.getD_eq_getElem?_getD, List.getElem?_eq_getElem (by omega)]; rfl)
    have md : ∀ (v : Int) (d : Nat), 0 < d → ∃ r : Nat, v % (d : Int) = (r : Nat) ∧ r < d := fun v d hd => ⟨(v % (d : Int)).toNat, by
      have := Int.emod_nonneg v (show (d : Int) ≠ 0 by omega)
      have := Int.emod_lt_of_pos v (show (0 : Int) < d by omega)
      omega⟩
    obtain ⟨x, hx, hx10⟩ := md (xs.getD 0 0) 10 (by decide)
    obtain ⟨y, hy, hy4⟩ := md (xs.getD 1 0) 4 (by decide)
    obtain ⟨z, hz, hz3⟩ := md (xs.getD 2 0) 3 (by decide)
    refine q_asgL (el_lst ea_nil (by decide)) fun l H1 nl e1 h1 => ?_
    refine q_forR1 (n := (m : Int)) (ea_cons (ev_var rfl) ea_nil) ⟨by omega, by omega⟩ (fun i σ' H' => ∃ y3 y4 y5 : Option V, σ' = [some (.ref a), some (.int (m : Nat)), some (.ref l), y3, y4, y5] ∧ Ex H H' ∧ H' l = some (.lst ((List.range i).map fun k => .str (tx (nameOf x y z k))))) (fun H2 e2 => ⟨_, _, _, rfl, e1.trans e2, e2 _ _ h1⟩) (fun i σ' H2 hi hP => ?_) (fun σ' H2 hP => ?_)
    · obtain ⟨y3, y4, y5, rfl, e2, h2⟩ := hP
      have hi10 : i < 10 := by omega
      have hlt : atI ("abcdefghij" : Str).cps.toList (((i : Int) + xs.getD 0 0) % 10) = some (nLet x i) := by
        have e : ((i : Int) + xs.getD 0 0) % 10 = (((i + x) % 10 : Nat) : Int) := by have : xs.getD 0 0 % 10 = (x : Int) := hx; omega
        have h10 : (i + x) % 10 < 10 := Nat.mod_lt _ (by decide)
        unfold nLet
        rw [e]
        generalize (i + x) % 10 = r at h10
        have : r = 0 ∨ r = 1 ∨ r = 2 ∨ r = 3 ∨ r = 4 ∨ r = 5 ∨ r = 6 ∨ r = 7 ∨ r = 8 ∨ r = 9 := by omega
        rcases this with h | h | h | h | h | h | h | h | h | h <;> subst h <;> rfl
      refine q_asg (v := .str (sg1 (nLet x i))) (ev_op ev_c (ev_op (ev_op (ev_var rfl) (ev_op (ev_var rfl) ev_c (rv_ixL (ex_l e2 hS) (ax 0 (by decide)))) rv_I0) ev_c (rv_I (by show (0 : Int) < 10; decide))) (rv_ixS (by decide) hlt)) fun H3 e3 => ?_
      have hS3 := ex_l (e2.trans e3) hS
      have hsuf : atI [V.str "", V.str "b", V.str "ba", V.str "abcdefg"] (xs.getD 1 0 % 4) = some (.str (tx (nSuf y))) := by
        rw [show xs.getD 1 0 % 4 = (y : Int) from hy]
        have : y = 0 ∨ y = 1 ∨ y = 2 ∨ y = 3 := by omega
        rcases this with h | h | h | h <;> subst h <;> rfl
      have hpre : atI [V.str "", V.str "d", V.str "dd", V.str "ccccccc"] (xs.getD 1 0 % 4) = some (.str (tx (nPre y))) := by
        rw [show xs.getD 1 0 % 4 = (y : Int) from hy]
        have : y = 0 ∨ y = 1 ∨ y = 2 ∨ y = 3 := by omega
        rcases this with h | h | h | h <;> subst h <;> rfl
      have lsuf : (tx (nSuf y)).length ≤ 1000 := by
        rw [tx_len]
        have : y = 0 ∨ y = 1 ∨ y = 2 ∨ y = 3 := by omega
        rcases this with h | h | h | h <;> subst h <;> decide
      have lpre : (tx (nPre y)).length ≤ 1000 := by
        rw [tx_len]
        have : y = 0 ∨ y = 1 ∨ y = 2 ∨ y = 3 := by omega
        rcases this with h | h | h | h <;> subst h <;> decide
      refine q_asg (v := .str (tx (nLet x i :: nSuf y))) (ev_is (ev_op (ev_var rfl) (ev_opL1 (el_lst (ea_cons ev_c (ea_cons ev_c (ea_cons ev_c (ea_cons ev_c ea_nil)))) (by show 4 ≤ 100000; decide)) (fun G g => ev_op (ev_op (ev_var rfl) ev_c (rv_ixL (ex_l g hS3) (ax 1 (by decide)))) ev_c (rv_I (by show (0 : Int) < 4; decide))) (fun p G hp g => rv_ixL (sq_of hp) hsuf)) (rv_catS (by show 1 ≤ 1000; decide) lsuf)) (congrArg V.str (tx_app [nLet x i] (nSuf y)))) fun H4 e4 => ?_
      have hS4 := ex_l e4 hS3
      have hab : atI ("ab" : Str).cps.toList ((i : Int) / 8) = some (97 + i / 8) := by
        have : i / 8 = 0 ∨ i / 8 = 1 := by omega
        rcases this with h | h
        · rw [show (i : Int) / 8 = ((0 : Nat) : Int) by omega, h]; rfl
        · rw [show (i : Int) / 8 = ((1 : Nat) : Int) by omega, h]; rfl
      refine q_ifAsg (v := .str (tx (if z = 1 then List.replicate (1 + i % 8) (97 + i / 8) else nLet x i :: nSuf y))) (b := decide (z = 1)) (et_is (et_test (ev_op (ev_op (ev_op (ev_var rfl) ev_c (rv_ixL hS4 (ax 2 (by decide)))) ev_c (rv_I (by show (0 : Int) < 3; decide))) ev_c (rv_eq rfl))) ?_) (fun hb => ev_is (ev_op (ev_op ev_c (ev_op (ev_var rfl) ev_c (rv_I ⟨by decide, by decide⟩)) (rv_ixS (by decide) hab)) (ev_op ev_c (ev_op (ev_var rfl) ev_c (rv_I (by show (0 : Int) < 8; decide))) rv_I0) (rv_val fun Hx ex Qx qx => ⟨_, _, rfl, rfl, by omega, by omega, by show 1 ≤ 1000; decide, qx⟩)) ?_) (fun hb => ?_) fun H5 e5 => ?_
      · exact decide_eq_decide.mpr ⟨fun q => by have := V.int.inj q; have h3 : xs.getD 2 0 % 3 = (z : Int) := hz; omega, fun q => by rw [show xs.getD 2 0 % 3 = (z : Int) from hz, q]; rfl⟩
      · rw [if_pos (of_decide_eq_true hb)]
        exact congrArg V.str ((mul_c (97 + i / 8) (1 + (i : Int) % 8) (by omega)).trans (congrArg (fun k => tx (List.replicate k (97 + i / 8))) (by omega)))
      · rw [if_neg (of_decide_eq_false hb)]
        rfl
      have hS5 := ex_l e5 hS4
      refine q_ifAsg (v := .str (tx (nameOf x y z i))) (b := decide (z = 2)) (et_is (et_test (ev_op (ev_op (ev_op (ev_var rfl) ev_c (rv_ixL hS5 (ax 2 (by decide)))) ev_c (rv_I (by show (0 : Int) < 3; decide))) ev_c (rv_eq rfl))) ?_) (fun hb => ev_is (ev_op (ev_opL1 (el_lst (ea_cons ev_c (ea_cons ev_c (ea_cons ev_c (ea_cons ev_c ea_nil)))) (by show 4 ≤ 100000; decide)) (fun G g => ev_op (ev_op (ev_var rfl) ev_c (rv_ixL (ex_l g hS5) (ax 1 (by decide)))) ev_c (rv_I (by show (0 : Int) < 4; decide))) (fun p G hp g => rv_ixL (sq_of hp) hpre)) (ev_var rfl) (rv_catS lpre (by show 1 ≤ 1000; decide))) ?_) (fun hb => ?_) fun H6 e6 => ?_
      · exact decide_eq_decide.mpr ⟨fun q => by have := V.int.inj q; have h3 : xs.getD 2 0 % 3 = (z : Int) := hz; omega, fun q => by rw [show xs.getD 2 0 % 3 = (z : Int) from hz, q]; rfl⟩
      · unfold nameOf
        rw [if_neg (by have := of_decide_eq_true hb; omega), if_pos (of_decide_eq_true hb)]
        exact congrArg V.str (tx_sn _ _)
      · unfold nameOf
        rw [if_neg (of_decide_eq_false hb)]
        rfl
      · have h6 : H6 l = some (.lst ((List.range i).map fun k => .str (tx (nameOf x y z k)))) := e6 _ _ (e5 _ _ (e4 _ _ (e3 _ _ h2)))
        refine s_app h6 (ev_var rfl) (ev_var rfl) (by rw [List.length_map, List.length_range]; omega) fun H7 e7 => ⟨_, _, _, rfl, (e2.trans (e3.trans (e4.trans (e5.trans (e6.trans e7))))).mut nl, ?_⟩
        rw [upd_same, List.range_succ, List.map_append]
        rfl
    · obtain ⟨y3, y4, y5, rfl, e2, h2⟩ := hP
      rw [Int.toNat_natCast] at h2
      exact s_ret (ev_var rfl) fun H3 e3 => q x y z hx10 hy4 hz3 l H3 nl (e2.trans e3) (e3 _ _ h2)
def sp__law_turned_at (K : PySem.W.Frag) (ts : List Addr) : Sp := fun vs H Q _ => ∃ (n k : Nat) (h : List Nat), vs = [.str (tx h), .int (k : Nat)] ∧ (HalfN n h ∧ k < n ∧ n ≤ 8) ∧ ∀ z : List Nat, HalfN n z → RetV (.str (tx z)) H Q
theorem ok__law_turned_at {ts : List Addr} (D : Df K mg "_law_turned_at" st__law_turned_at ["_law_half", "_law_place"]) (m_int : mg "int" = none) : At P w K mg base "_law_turned_at" st__law_turned_at 1 ["_law_half", "_law_place"] (sp__law_turned_at K ts) := by
  obtain ⟨f, fd, F, b, g⟩ := D
  refine ⟨f, fd, F, b, g, F.ok sc__law_turned_at (fun vs H Q E h => ?_) (fun cdv A outer s H vs Q E hr h => ?_)⟩
  · obtain ⟨n, k, h, rfl, _⟩ := h
    rfl
  · obtain ⟨n, k, h, rfl, ⟨hh, hk, hn⟩, q⟩ := h
    refine ⟨_, (pss_cons (ps_set (i := 2) sc__law_turned_at.nd rfl (.inl rfl) (pe_ix ix_str pe_str (pe_callTy call_int1 (by rfl) m_int (by decide +kernel) (pa_cons (pe_cmpR op_eq (pe_ix ix_str (pv 0) (pv 1) (fun _ _ => rfl)) pe_str (nomark _)) pa_nil)) (fun _ _ => rfl)))
      (pss_one (ps_ret (pe_op op_add_str (pe_op op_add_str (pe_slice sl_str (pv 0) po_none (po_some (pv 1))) (pv 2)) (pe_slice sl_str (pv 0) (po_some (pe_op op_add (pv 1) pe_int)) po_none))))), ?_⟩
    have hl := hh.1
    have hkh : k < h.length := by omega
    have ak : atI (tx h).cps.toList (k : Int) = some h[k] := atI_nat (by simp [tx, hkh])
    have l8 : (tx h).length ≤ 100000 := by rw [tx_len]; omega
    obtain ⟨c, hc, hac⟩ : ∃ c : Nat, (c = 110 ∨ c = 121) ∧ atI ("ny" : Str).cps.toList (if decide (V.str (sg1 h[k]) = V.str "n") = true then 1 else 0) = some c := by
      split
      · exact ⟨121, .inr rfl, rfl⟩
      · exact ⟨110, .inl rfl, rfl⟩
    refine q_asg (v := .str (sg1 c)) (ev_op ev_c (ev_cb (ea_cons (ev_op (ev_op (ev_var rfl) (ev_var rfl) (rv_ixS l8 ak)) ev_c (rv_eq rfl)) ea_nil) fun G g Q1 q1 => .inr ⟨_, rfl, q1 G (Ex.refl _)⟩) (rv_ixS (by decide) hac)) fun H1 e1 => ?_
    have ct := cutS_take h k (by omega)
    have cd := cutS_drop h (k + 1)
    rw [Int.natCast_add] at cd
    refine s_ret (ev_is (ev_op (ev_is (ev_op (ev_is (ev_slS (ev_var rfl) eo_none (eo_some (ev_var rfl)) l8) (congrArg V.str ct)) (ev_var rfl) (rv_catS (by show (tx _).length ≤ 1000; rw [tx_len, List.length_take]; omega) (by show 1 ≤ 1000; decide))) (congrArg V.str (tx_sn _ _))) (ev_is (ev_slS (ev_var rfl) (eo_some (ev_op (ev_var rfl) ev_c rv_I0)) eo_none l8) (congrArg V.str cd)) (rv_catS (by rw [tx_len, List.length_append, List.length_take]; show _ + 1 ≤ 1000; omega) (by rw [tx_len, List.length_drop]; omega))) (congrArg V.str (tx_app _ _))) fun H2 e2 => q _ ⟨by simp; omega, fun d hd => ?_⟩ H2 (e1.trans e2)
    rcases List.mem_append.mp hd with z | z
    · rcases List.mem_append.mp z with z | z
      · exact hh.2 d (List.mem_of_mem_take z)
      · rw [List.mem_singleton.mp z]; exact hc
    · exact hh.2 d (List.mem_of_mem_drop z)
def sp__law_tree_halves (K : PySem.W.Frag) (ts : List Addr) : Sp := fun vs H Q _ => ∃ (a : Addr) (xs : List Int) (n : Nat), vs = [.ref a, .int (n : Nat)] ∧ SqL K H a (xs.map V.int) ∧ (12 ≤ xs.length ∧ 1 ≤ n ∧ n ≤ 8) ∧ ∀ hs : List (List Nat), hs ≠ [] → hs.length ≤ 9 → (∀ h ∈ hs, HalfN n h) → RetL (hs.map fun h => .str (tx h)) H Q
theorem ok__law_tree_halves {ts : List Addr} (D : Df K mg "_law_tree_halves" st__law_tree_halves ["_law_xs", "_law_places"]) (m_list : mg "list" = none) (m_range : mg "range" = none) (m_len : mg "len" = none) (A__law_turned_at : At P w K mg base "_law_turned_at" st__law_turned_at 1 ["_law_half", "_law_place"] (sp__law_turned_at K ts)) : At P w K mg base "_law_tree_halves" st__law_tree_halves 2 ["_law_xs", "_law_places"] (sp__law_tree_halves K ts) := by
  obtain ⟨f, fd, F, b, g⟩ := D
  obtain ⟨f__law_turned_at, fd__law_turned_at, F__law_turned_at, b__law_turned_at, g__law_turned_at, G__law_turned_at⟩ := A__law_turned_at
  refine ⟨f, fd, F, b, g, F.ok sc__law_tree_halves (fun vs H Q E h => ?_) (fun cdv A outer s H vs Q E hr h => ?_)⟩
  · obtain ⟨a, xs, n, rfl, _⟩ := h
    rfl
  · obtain ⟨a, xs, n, rfl, hS, ⟨hxl, hn1, hn8⟩, q⟩ := h
    refine ⟨_, (pss_cons (ps_set (i := 2) sc__law_tree_halves.nd rfl (.inl rfl) (pe_listRg rfl (by rfl) m_list (prg_1 (by rfl) m_range (pv 1))))
      (pss_cons (ps_set (i := 3) sc__law_tree_halves.nd rfl (.inl rfl) (pe_lst (pa_cons (pe_join pe_str (pe_lc (own := [("_law_k", 4)]) (g := gName 4) (by rfl) sc__law_tree_halves.nd (pi_range1 (by rfl) m_range (pa_cons (pv 1) pa_nil)) (blkOk_by (N := ["_law_xs", "_law_places", "_law_left", "_law_found", "_law_k", "_law_place", "_law_half"]) (sc := defScope st__law_tree_halves) (by decide +kernel)) (fun _ _ _ _ _ => (pg_name (i := 4) sc__law_tree_halves.nd rfl (.inl rfl))) (fun _ _ _ _ _ => pts_nil) (fun _ _ _ _ _ => (pe_ix ix_str pe_str (pe_op op_mod (pe_op op_fdiv (pe_op op_fdiv (pe_ix (show IxR _ (rIxL K) from ix_list) (pv 0) pe_int (fun _ _ => rfl)) pe_int) (pe_ix (show IxR _ (rIxL K) from ix_list) (pe_lst (pa_cons pe_int (pa_cons pe_int (pa_cons pe_int (pa_cons pe_int (pa_cons pe_int (pa_cons pe_int (pa_cons pe_int (pa_cons pe_int pa_nil))))))))) (pv 4) (fun _ _ => rfl))) pe_int) (fun _ _ => rfl))))) pa_nil)))
      (pss_cons (ps_for PassesOwn.never rfl (pi_range1 (by rfl) m_range (pa_cons (pv 1) pa_nil)) (pg_name (i := 4) sc__law_tree_halves.nd rfl (.inl rfl))
      (pss_cons (ps_set (i := 5) sc__law_tree_halves.nd rfl (.inl rfl) (pe_bm PySem.F.plainAttrs_list PySem.F.slot_list_pop PySem.F.type_list_pop mt_popAt (pv 2) (pa_cons (pe_op op_mod (pe_ix ix_list (pv 0) (pv 4) (fun _ _ => rfl)) (pe_callB call_len_seq (by rfl) m_len (by decide +kernel) (pa_cons (pv 2) pa_nil))) pa_nil)))
      (pss_cons (ps_set (i := 6) sc__law_tree_halves.nd rfl (.inl rfl) (pe_call G__law_turned_at (hr.mono (by decide)) (by rfl) g__law_turned_at F__law_turned_at.kp b__law_turned_at .nil pass0 (pa_cons (pe_ix ix_list (pv 3) (pe_op op_mod (pe_op op_fdiv (pe_ix ix_list (pv 0) (pv 4) (fun _ _ => rfl)) pe_int) (pe_callB call_len_seq (by rfl) m_len (by decide +kernel) (pa_cons (pv 3) pa_nil))) (fun _ _ => rfl)) (pa_cons (pv 5) pa_nil))))
      (pss_cut (ps_if (PW.pt (pw_and (pt_cmpR (op_neD hr.units) (pv 2) (pe_lst pa_nil) (nomark _)) (pw_and1 (pt_cmpR op_eq (pe_op op_mod (pe_op op_fdiv (pe_ix ix_list (pv 0) (pv 4) (fun _ _ => rfl)) pe_int) pe_int) pe_int (nomark _)))))
      (pss_one (ps_set (i := 6) sc__law_tree_halves.nd rfl (.inl rfl) (pe_call G__law_turned_at (hr.mono (by decide)) (by rfl) g__law_turned_at F__law_turned_at.kp b__law_turned_at .nil pass0 (pa_cons (pv 6) (pa_cons (pe_bm PySem.F.plainAttrs_list PySem.F.slot_list_pop PySem.F.type_list_pop mt_popAt (pv 2) (pa_cons pe_int pa_nil)) pa_nil)))))
      pss_nil)
      (pss_cons (ps_expr (pe_bm PySem.F.plainAttrs_list PySem.F.slot_list_append PySem.F.type_list_append mt_append (pv 3) (pa_cons (pv 6) pa_nil)))
      (pss_one (ps_if (pt_cmpR (op_eqD hr.units) (pv 2) (pe_lst pa_nil) (nomark _))
      (pss_one (ps_ret (pv 3)))
      pss_nil)))))))
      (pss_one (ps_ret (pv 3)))))), ?_⟩
    have ax : ∀ (j : Nat) (hj : j < 12), atI (xs.map V.int) (j : Int) = some (.int (xs.getD j 0)) := fun j hj => atI_nat (by rw [List.getElem?_map, List.getD_eq_getElem?_getD, List.getElem?_eq_getElem (by omega)]; rfl)
    refine ⟨_, rfl, (n : Int), rfl, ⟨by omega, by omega, by omega, by omega, by omega⟩, fun l nl => ?_⟩
    have eL := Ex.new (o := .lst (rgV 0 (n : Int))) nl
    have hlR : (upd H l (.lst (rgV 0 (n : Int)))) l = some (.lst (((List.range n).map fun i : Nat => (i : Int)).map V.int)) := by
      rw [upd_same]
      unfold rgV
      rw [List.map_map]
      refine congrArg (fun z => some (HO.lst z)) ?_
      rw [show ((n : Int) - 0).toNat = n by omega]
      refine List.map_congr_left fun i _ => ?_
      show V.int (0 + (i : Int)) = V.int (i : Int)
      rw [Int.zero_add]
    have hmL : ∀ x ∈ (List.range n).map fun i : Nat => (i : Int), 0 ≤ x ∧ x < (n : Int) := fun x hx => by
      obtain ⟨i, hi, rfl⟩ := List.mem_map.mp hx
      have := List.mem_range.mp hi
      omega
    have hlL : ((List.range n).map fun i : Nat => (i : Int)).length = n := by rw [List.length_map, List.length_range]
    generalize upd H l (.lst (rgV 0 (n : Int))) = HL0 at eL hlR
    generalize (List.range n).map (fun i : Nat => (i : Int)) = ls0 at hlR hmL hlL
    -- the first half
    have h8 : ∀ k : Nat, k < 8 → ∃ d : Int, 1 ≤ d ∧ d ≤ 128 ∧ atI [V.int 1, V.int 2, V.int 4, V.int 8, V.int 16, V.int 32, V.int 64, V.int 128] (k : Int) = some (.int d) := fun k hk => by
      have : k = 0 ∨ k = 1 ∨ k = 2 ∨ k = 3 ∨ k = 4 ∨ k = 5 ∨ k = 6 ∨ k = 7 := by omega
      rcases this with h | h | h | h | h | h | h | h <;> subst h
      · exact ⟨1, by decide, by decide, rfl⟩
      · exact ⟨2, by decide, by decide, rfl⟩
      · exact ⟨4, by decide, by decide, rfl⟩
      · exact ⟨8, by decide, by decide, rfl⟩
      · exact ⟨16, by decide, by decide, rfl⟩
      · exact ⟨32, by decide, by decide, rfl⟩
      · exact ⟨64, by decide, by decide, rfl⟩
      · exact ⟨128, by decide, by decide, rfl⟩
    obtain ⟨f, hf⟩ : ∃ f : Nat → Nat, ∀ k, k < n → (f k = 110 ∨ f k = 121) ∧ ∃ d : Int, 1 ≤ d ∧ d ≤ 128 ∧ atI [V.int 1, V.int 2, V.int 4, V.int 8, V.int 16, V.int 32, V.int 64, V.int 128] (k : Int) = some (.int d) ∧ atI ("ny" : Str).cps.toList (xs.getD 11 0 / 2 / d % 2) = some (f k) := by
      have each : ∀ k, k < n → ∃ c : Nat, (c = 110 ∨ c = 121) ∧ ∃ d : Int, 1 ≤ d ∧ d ≤ 128 ∧ atI [V.int 1, V.int 2, V.int 4, V.int 8, V.int 16, V.int 32, V.int 64, V.int 128] (k : Int) = some (.int d) ∧ atI ("ny" : Str).cps.toList (xs.getD 11 0 / 2 / d % 2) = some c := fun k hk => by
        obtain ⟨d, d1, d2, hd⟩ := h8 k (by omega)
        rcases Int.emod_two_eq (xs.getD 11 0 / 2 / d) with z | z
        · exact ⟨110, .inl rfl, d, d1, d2, hd, by rw [z]; rfl⟩
        · exact ⟨121, .inr rfl, d, d1, d2, hd, by rw [z]; rfl⟩
      exact ⟨fun k => if h : k < n then (each k h).choose else 0, fun k hk => by simp only [dif_pos hk]; exact (each k hk).choose_spec⟩
    have hz0 : HalfN n ((List.range n).map f) := ⟨by rw [List.length_map, List.length_range], fun c hc => by
      obtain ⟨k, hk, rfl⟩ := List.mem_map.mp hc
      exact (hf k (List.mem_range.mp hk)).1⟩
    have first : EvL (tLst (tCons (tM1 (rJoin K) (tC (.str (tx []))) (tLc (iRng1 (tCons (tVar 1) tNil)) (gName 4) tYes (tOp rIxS (tC (.str "ny")) (tOp (rI (fun x j => 0 < j) fun i j => V.int (i % j)) (tOp (rI CDiv fun i j => .int (i / j)) (tOp (rI CDiv fun i j => .int (i / j)) (tOp (rIxL K) (tVar 0) (tC (.int 11))) (tC (.int 2))) (tOp (rIxL K) (tLst (tCons (tC (.int 1)) (tCons (tC (.int 2)) (tCons (tC (.int 4)) (tCons (tC (.int 8)) (tCons (tC (.int 16)) (tCons (tC (.int 32)) (tCons (tC (.int 64)) (tCons (tC (.int 128)) tNil))))))))) (tVar 4))) (tC (.int 2)))) [4])) tNil)) ([some (.ref a), some (.int (n : Nat)), some (.ref l), none, none, none, none] : L2.St) HL0 [.str (tx ((List.range n).map f))] := el_lst (ea_cons (ev_join (by
      have r := el_lcR1 (ta := tCons (tVar 1) tNil) (n := (n : Int)) (σ := ([some (.ref a), some (.int (n : Nat)), some (.ref l), none, none, none, none] : L2.St)) (H := HL0) (j := 4) (vs := [4]) (t := tYes) (fun _ => true) (fun k => V.str (sg1 (f k))) (ea_cons (ev_var rfl) ea_nil) ⟨by omega, by omega⟩ (fun y => rfl) (fun k H6 e6 hk => et_yes) (fun k H6 e6 hk _ => ?_) (te := tOp rIxS (tC (.str "ny")) (tOp (rI (fun x j => 0 < j) fun i j => V.int (i % j)) (tOp (rI CDiv fun i j => .int (i / j)) (tOp (rI CDiv fun i j => .int (i / j)) (tOp (rIxL K) (tVar 0) (tC (.int 11))) (tC (.int 2))) (tOp (rIxL K) (tLst (tCons (tC (.int 1)) (tCons (tC (.int 2)) (tCons (tC (.int 4)) (tCons (tC (.int 8)) (tCons (tC (.int 16)) (tCons (tC (.int 32)) (tCons (tC (.int 64)) (tCons (tC (.int 128)) tNil))))))))) (tVar 4))) (tC (.int 2))))
      · rw [given_true, Int.toNat_natCast] at r
        show EvL _ _ _ (List.map _ _)
        rw [List.map_map]
        exact r
      · obtain ⟨_, d, d1, d2, hd, hc⟩ := hf k (by omega)
        exact ev_op ev_c (ev_op (ev_op (ev_op (ev_op (ev_var rfl) ev_c (rv_ixL (ex_l (eL.trans e6) hS) (ax 11 (by decide)))) ev_c (rv_I ⟨by decide, by decide⟩)) (ev_opL1 (el_lst (ea_cons ev_c (ea_cons ev_c (ea_cons ev_c (ea_cons ev_c (ea_cons ev_c (ea_cons ev_c (ea_cons ev_c (ea_cons ev_c ea_nil)))))))) (by show 8 ≤ 100000; decide)) (fun G g => ev_var rfl) (fun p G hp g => rv_ixL (sq_of hp) hd)) (rv_I ⟨by omega, by omega⟩)) ev_c (rv_I (by show (0 : Int) < 2; decide))) (rv_ixS (by decide) hc)) (by rw [List.length_map, List.length_range]; omega)) ea_nil) (by show 1 ≤ 100000; decide)
    refine q_asgL first fun p H2 np e2 h2 => ?_
    have hlp : l ≠ p := fun z => by rw [z] at hlR; rw [np] at hlR; cases hlR
    refine q_forR1 (n := (n : Int)) (ea_cons (ev_var rfl) ea_nil) ⟨by omega, by omega⟩ (fun i σ' H' => ∃ (ls : List Int) (hs : List (List Nat)) (y4 y5 y6 : Option V), σ' = [some (.ref a), some (.int (n : Nat)), some (.ref l), some (.ref p), y4, y5, y6] ∧ Ex H H' ∧ H' l = some (.lst (ls.map V.int)) ∧ H' p = some (.lst (hs.map fun h => .str (tx h))) ∧ (ls ≠ [] ∧ ls.length ≤ n ∧ ∀ x ∈ ls, 0 ≤ x ∧ x < (n : Int)) ∧ (hs ≠ [] ∧ hs.length ≤ 1 + i ∧ ∀ h ∈ hs, HalfN n h)) (fun H3 e3 => ⟨ls0, [(List.range n).map f], _, _, _, rfl, eL.trans (e2.trans e3), e3 _ _ (e2 _ _ hlR), e3 _ _ h2, ⟨by intro z; rw [z] at hlL; simp at hlL; omega, by omega, hmL⟩, by simp, by simp, fun h hh => by rw [List.mem_singleton.mp hh]; exact hz0⟩) (fun i σ' H3 hi hP => ?_) (fun σ' H3 hP => ?_)
    · obtain ⟨ls, hs, y4, y5, y6, rfl, e3, h3l, h3p, ⟨l0, ln, lm⟩, ⟨s0, sn, sm⟩⟩ := hP
      have hll : 0 < ls.length := List.length_pos_iff.mpr l0
      have hsl : 0 < hs.length := List.length_pos_iff.mpr s0
      obtain ⟨k, hk, hkl⟩ : ∃ k : Nat, xs.getD i 0 % ((ls.map V.int).length : Int) = (k : Nat) ∧ k < ls.length := ⟨(xs.getD i 0 % ((ls.map V.int).length : Int)).toNat, by
        rw [List.length_map]
        have := Int.emod_nonneg (xs.getD i 0) (show (ls.length : Int) ≠ 0 by omega)
        have := Int.emod_lt_of_pos (xs.getD i 0) (show (0 : Int) < ls.length by omega)
        omega⟩
      have sq1 : ∀ (k len : Nat), k < len → seqIndex? (k : Int) len = some k := fun k len h => by
        unfold seqIndex?
        have h0 : ¬ ((k : Int) < 0) := by omega
        simp only [if_neg h0]
        have : (decide (0 ≤ (k : Int)) && decide ((k : Int) < (len : Int))) = true := by simp; omega
        rw [this]
        simp
      -- the place
      have pidx : Ev (tOp (rI (fun x j => 0 < j) fun i j => V.int (i % j)) (tOp (rIxL K) (tVar 0) (tVar 4)) (tCB (rLenS K) (tCons (tVar 2) tNil))) [some (.ref a), some (.int (n : Nat)), some (.ref l), some (.ref p), some (.int (i : Nat)), y5, y6] H3 (.int (k : Nat)) := ev_is (ev_op (ev_op (ev_var rfl) (ev_var rfl) (rv_ixL (ex_l e3 hS) (ax i (by omega)))) (ev_len (ev_var rfl) (sq_of h3l)) (rv_I (by show (0 : Int) < _; rw [List.length_map]; omega))) (congrArg V.int hk)
      refine ⟨_, rfl, .inl ⟨rfl, _, sq_of h3l⟩, pidx _ (Ex.refl _) _ fun H4 e4 => ⟨l, ls.map V.int, (k : Int), k, .int ls[k], rfl, rfl, e4 _ _ h3l, by omega, by omega, by rw [List.length_map]; exact sq1 k ls.length hkl, by rw [List.getElem?_map, List.getElem?_eq_getElem hkl]; rfl, ?_⟩⟩
      have hpl := lm _ (List.getElem_mem hkl)
      obtain ⟨pc, hpc, hpn⟩ : ∃ pc : Nat, ls[k] = (pc : Nat) ∧ pc < n := ⟨ls[k].toNat, by omega, by omega⟩
      rw [hpc]
      have eM : Ex H (upd H4 l (.lst ((ls.map V.int).eraseIdx k))) := (e3.trans e4).mut nl
      have h5l : (upd H4 l (.lst ((ls.map V.int).eraseIdx k))) l = some (.lst ((ls.eraseIdx k).map V.int)) := by rw [upd_same, ← erase_map]
      have h5p : (upd H4 l (.lst ((ls.map V.int).eraseIdx k))) p = some (.lst (hs.map fun h => .str (tx h))) := by rw [upd_ne (Ne.symm hlp)]; exact e4 _ _ h3p
      generalize upd H4 l (.lst ((ls.map V.int).eraseIdx k)) = H5 at eM h5l h5p
      have lm' : ∀ x ∈ ls.eraseIdx k, 0 ≤ x ∧ x < (n : Int) := fun x hx => lm x (List.mem_of_mem_eraseIdx hx)
      have ll' : (ls.eraseIdx k).length ≤ n := by rw [List.length_eraseIdx]; split <;> omega
      generalize ls.eraseIdx k = ls' at h5l lm' ll'
      -- the half
      obtain ⟨j, hj, hjl⟩ : ∃ j : Nat, xs.getD i 0 / 16 % ((hs.map fun h => V.str (tx h)).length : Int) = (j : Nat) ∧ j < hs.length := ⟨(xs.getD i 0 / 16 % ((hs.map fun h => V.str (tx h)).length : Int)).toNat, by
        rw [List.length_map]
        have := Int.emod_nonneg (xs.getD i 0 / 16) (show (hs.length : Int) ≠ 0 by omega)
        have := Int.emod_lt_of_pos (xs.getD i 0 / 16) (show (0 : Int) < hs.length by omega)
        omega⟩
      refine c_call (ea_cons (ev_op (ev_var rfl) (ev_is (ev_op (ev_op (ev_op (ev_var rfl) (ev_var rfl) (rv_ixL (ex_l eM hS) (ax i (by omega)))) ev_c (rv_I ⟨by decide, by decide⟩)) (ev_len (ev_var rfl) (sq_of h5p)) (rv_I (by show (0 : Int) < _; rw [List.length_map]; omega))) (congrArg V.int hj)) (rv_ixL (sq_of h5p) (v := .str (tx hs[j])) (atI_nat (by rw [List.getElem?_map, List.getElem?_eq_getElem hjl]; rfl)))) (ea_cons (ev_var rfl) ea_nil)) fun H6 e6 => ⟨n, pc, hs[j], rfl, ⟨sm _ (List.getElem_mem hjl), hpn, hn8⟩, fun z1 hz1 H7 e7 => ?_⟩
      have h7l : H7 l = some (.lst (ls'.map V.int)) := e7 _ _ (e6 _ _ h5l)
      have h7p : H7 p = some (.lst (hs.map fun h => .str (tx h))) := e7 _ _ (e6 _ _ h5p)
      have e07 : Ex H H7 := eM.trans (e6.trans e7)
      refine q_cut (M := fun σ' H' => ∃ (ls : List Int) (z : List Nat), σ' = [some (.ref a), some (.int (n : Nat)), some (.ref l), some (.ref p), some (.int (i : Nat)), some (.int (pc : Nat)), some (.str (tx z))] ∧ HalfN n z ∧ Ex H H' ∧ H' l = some (.lst (ls.map V.int)) ∧ H' p = some (.lst (hs.map fun h => .str (tx h))) ∧ (ls.length ≤ n ∧ ∀ x ∈ ls, 0 ≤ x ∧ x < (n : Int))) ?_ ?_
      · refine s_when (et_and (et_test (ev_neN (ev_var rfl) h7l (ints_dp _) (shaped_ints ls') fun _ _ => ints_dp _)) fun _ => et_test (ev_op (ev_op (ev_op (ev_op (ev_var rfl) (ev_var rfl) (rv_ixL (ex_l e07 hS) (ax i (by omega)))) ev_c (rv_I ⟨by decide, by decide⟩)) ev_c (rv_I (by show (0 : Int) < 4; decide))) ev_c (rv_eq rfl))) (fun hb H8 e8 => ?_) (fun hb H8 e8 => ⟨ls', z1, rfl, hz1, e07.trans e8, e8 _ _ h7l, e8 _ _ h7p, ll', lm'⟩)
        have hne : ls' ≠ [] := fun z => by
          rw [Bool.and_eq_true] at hb
          have := hb.1
          rw [z] at this
          simp at this
        have h0l : 0 < ls'.length := List.length_pos_iff.mpr hne
        have h8l := e8 _ _ h7l
        refine ⟨_, rfl, _, rfl, .inl ⟨rfl, _, sq_of h8l⟩, l, ls'.map V.int, 0, 0, .int ls'[0], rfl, rfl, h8l, by omega, by omega, by rw [List.length_map]; exact sq1 0 _ h0l, by rw [List.getElem?_map, List.getElem?_eq_getElem h0l]; rfl, ?_⟩
        have hp0 := lm' _ (List.getElem_mem h0l)
        obtain ⟨pd, hpd, hpdn⟩ : ∃ pd : Nat, ls'[0] = (pd : Nat) ∧ pd < n := ⟨ls'[0].toNat, by omega, by omega⟩
        rw [hpd]
        refine ⟨n, pd, z1, rfl, ⟨hz1, hpdn, hn8⟩, fun z2 hz2 H9 e9 => ⟨ls'.eraseIdx 0, z2, rfl, hz2, (((e07.trans e8)).mut nl).trans e9, e9 _ _ (by rw [upd_same, ← erase_map]), e9 _ _ (by rw [upd_ne (Ne.symm hlp)]; exact e8 _ _ h7p), by rw [List.length_eraseIdx]; split <;> omega, fun x hx => lm' x (List.mem_of_mem_eraseIdx hx)⟩⟩
      · rintro σ' H8 ⟨ls2, z, rfl, hz, e8, h8l, h8p, ll2, lm2⟩
        refine q_app h8p (ev_var rfl) (ev_var rfl) (by rw [List.length_map]; omega) fun H9 e9 => ?_
        have nH : H p = none := fresh_back (eL) np
        have eN : Ex H (upd H9 p (.lst ((hs.map fun h => V.str (tx h)) ++ [.str (tx z)]))) := (e8.trans e9).mut nH
        have h9l : (upd H9 p (.lst ((hs.map fun h => V.str (tx h)) ++ [.str (tx z)]))) l = some (.lst (ls2.map V.int)) := by rw [upd_ne hlp]; exact e9 _ _ h8l
        have h9p : (upd H9 p (.lst ((hs.map fun h => V.str (tx h)) ++ [.str (tx z)]))) p = some (.lst ((hs ++ [z]).map fun h => .str (tx h))) := by rw [upd_same, List.map_append]; rfl
        generalize upd H9 p (.lst ((hs.map fun h => V.str (tx h)) ++ [.str (tx z)])) = H10 at eN h9l h9p
        have sm2 : ∀ h ∈ hs ++ [z], HalfN n h := fun h hh => by
          rcases List.mem_append.mp hh with w | w
          · exact sm h w
          · rw [List.mem_singleton.mp w]; exact hz
        have hlen2 : (hs ++ [z]).length ≤ 1 + (i + 1) := by rw [List.length_append]; show hs.length + 1 ≤ _; omega
        refine s_when (b := decide (ls2 = [])) (et_is (et_test (ev_eqN (ev_var rfl) h9l (shaped_ints ls2) fun _ _ => ints_dp _)) (decide_eq_decide.mpr ⟨fun w => List.map_eq_nil_iff.mp w, fun w => by rw [w]; rfl⟩)) (fun hb H11 e11 => ?_) (fun hb H11 e11 => ?_)
        · exact s_ret (ev_var rfl) fun H12 e12 => q (hs ++ [z]) (by simp) (by omega) sm2 p H12 nH (eN.trans (e11.trans e12)) (e12 _ _ (e11 _ _ h9p))
        · exact ⟨ls2, hs ++ [z], _, _, _, rfl, eN.trans e11, e11 _ _ h9l, e11 _ _ h9p, ⟨of_decide_eq_false hb, ll2, lm2⟩, by simp, hlen2, sm2⟩
    · obtain ⟨ls, hs, y4, y5, y6, rfl, e3, h3l, h3p, _, ⟨s0, sn, sm⟩⟩ := hP
      exact s_ret (ev_var rfl) fun H4 e4 => q hs s0 (by rw [Int.toNat_natCast] at sn; omega) sm p H4 (fresh_back eL np) (e3.trans e4) (e4 _ _ h3p)
def sp__law_book (K : PySem.W.Frag) (ts : List Addr) : Sp := fun vs H Q _ => ∃ (a : Addr) (ns : List Int) (at0 ma pl : Nat), vs = [.ref a, .int (at0 : Nat), .int (ma : Nat), .int (pl : Nat)] ∧ SqL K H a (ns.map V.int) ∧ (at0 ≤ 900 ∧ ma ≤ 10 ∧ 1 ≤ pl ∧ pl ≤ 8) ∧ ∀ (n : Nat) (rs : List (List Nat × List Nat)) (v : V) H2, Ex H H2 → BookF K H2 v n rs → BookOk n rs → rs.length ≤ ma → n ≤ pl → Q v H2
theorem ok__law_book {ts : List Addr} (D : Df K mg "_law_book" st__law_book ["_law_script", "_law_at", "_law_many", "_law_places"]) (m_range : mg "range" = none) (m_len : mg "len" = none) (m_tuple : mg "tuple" = none) (A__law_numbers : At P w K mg base "_law_numbers" st__law_numbers 1 ["_law_cell_here", "_law_many"] (sp__law_numbers K ts)) (A__law_cell : At P w K mg base "_law_cell" st__law_cell 1 ["_law_script", "_law_k"] (sp__law_cell K ts)) (A__law_names : At P w K mg base "_law_names" st__law_names 1 ["_law_xs", "_law_many"] (sp__law_names K ts)) (A__law_tree_halves : At P w K mg base "_law_tree_halves" st__law_tree_halves 2 ["_law_xs", "_law_places"] (sp__law_tree_halves K ts)) (A__law_joined_row : At P w K mg base "_law_joined_row" st__law_joined_row 1 ["_law_one", "_law_other"] (sp__law_joined_row K ts)) (A__law_any_row : At P w K mg base "_law_any_row" st__law_any_row 1 ["_law_xs", "_law_places"] (sp__law_any_row K ts)) : At P w K mg base "_law_book" st__law_book 3 ["_law_script", "_law_at", "_law_many", "_law_places"] (sp__law_book K ts) := by
  obtain ⟨f, fd, F, b, g⟩ := D
  obtain ⟨f__law_numbers, fd__law_numbers, F__law_numbers, b__law_numbers, g__law_numbers, G__law_numbers⟩ := A__law_numbers
  obtain ⟨f__law_cell, fd__law_cell, F__law_cell, b__law_cell, g__law_cell, G__law_cell⟩ := A__law_cell
  obtain ⟨f__law_names, fd__law_names, F__law_names, b__law_names, g__law_names, G__law_names⟩ := A__law_names
  obtain ⟨f__law_tree_halves, fd__law_tree_halves, F__law_tree_halves, b__law_tree_halves, g__law_tree_halves, G__law_tree_halves⟩ := A__law_tree_halves
  obtain ⟨f__law_joined_row, fd__law_joined_row, F__law_joined_row, b__law_joined_row, g__law_joined_row, G__law_joined_row⟩ := A__law_joined_row
  obtain ⟨f__law_any_row, fd__law_any_row, F__law_any_row, b__law_any_row, g__law_any_row, G__law_any_row⟩ := A__law_any_row
  refine ⟨f, fd, F, b, g, F.ok sc__law_book (fun vs H Q E h => ?_) (fun cdv A outer s H vs Q E hr h => ?_)⟩
  · obtain ⟨a, ns, at0, ma, pl, rfl, _⟩ := h
    rfl
  · obtain ⟨a, ns, at0, ma, pl, rfl, hS, ⟨hat, hma, hp1, hp8⟩, q⟩ := h
    refine ⟨_, (pss_cons (ps_set (i := 4) sc__law_book.nd rfl (.inl rfl) (pe_call G__law_numbers (hr.mono (by decide)) (by rfl) g__law_numbers F__law_numbers.kp b__law_numbers .nil pass0 (pa_cons (pe_call G__law_cell (hr.mono (by decide)) (by rfl) g__law_cell F__law_cell.kp b__law_cell .nil pass0 (pa_cons (pv 0) (pa_cons (pv 1) pa_nil))) (pa_cons pe_int pa_nil))))
      (pss_cons (ps_set (i := 5) sc__law_book.nd rfl (.inl rfl) (pe_op op_add pe_int (pe_op op_mod (pe_ix ix_list (pv 4) pe_int (fun _ _ => rfl)) (pv 3))))
      (pss_cons (ps_set (i := 6) sc__law_book.nd rfl (.inl rfl) (pe_op op_mod (pe_ix ix_list (pv 4) pe_int (fun _ _ => rfl)) (pe_op op_add (pv 2) pe_int)))
      (pss_cons (ps_set (i := 7) sc__law_book.nd rfl (.inl rfl) (pe_call G__law_names (hr.mono (by decide)) (by rfl) g__law_names F__law_names.kp b__law_names .nil pass0 (pa_cons (pe_slice sl_list (pv 4) (po_some pe_int) po_none) (pa_cons pe_int pa_nil))))
      (pss_cons (ps_set (i := 8) sc__law_book.nd rfl (.inl rfl) (pe_call G__law_tree_halves (hr.mono (by decide)) (by rfl) g__law_tree_halves F__law_tree_halves.kp b__law_tree_halves .nil pass0 (pa_cons (pv 4) (pa_cons (pv 5) pa_nil))))
      (pss_cons (ps_set (i := 9) sc__law_book.nd rfl (.inl rfl) (pe_lst pa_nil))
      (pss_cons (ps_for PassesOwn.never rfl (pi_range1 (by rfl) m_range (pa_cons (pv 6) pa_nil)) (pg_name (i := 10) sc__law_book.nd rfl (.inl rfl))
      (pss_cons (ps_set (i := 11) sc__law_book.nd rfl (.inl rfl) (pe_call G__law_numbers (hr.mono (by decide)) (by rfl) g__law_numbers F__law_numbers.kp b__law_numbers .nil pass0 (pa_cons (pe_call G__law_cell (hr.mono (by decide)) (by rfl) g__law_cell F__law_cell.kp b__law_cell .nil pass0 (pa_cons (pv 0) (pa_cons (pe_op op_add (pe_op op_add (pv 1) pe_int) (pv 10)) pa_nil))) (pa_cons pe_int pa_nil))))
      (pss_cons (ps_set (i := 12) sc__law_book.nd rfl (.inl rfl) (pe_call G__law_joined_row (hr.mono (by decide)) (by rfl) g__law_joined_row F__law_joined_row.kp b__law_joined_row .nil pass0 (pa_cons (pe_ix ix_list (pv 8) (pe_op op_mod (pe_ix ix_list (pv 11) pe_int (fun _ _ => rfl)) (pe_callB call_len_seq (by rfl) m_len (by decide +kernel) (pa_cons (pv 8) pa_nil))) (fun _ _ => rfl)) (pa_cons (pe_ix ix_list (pv 8) (pe_op op_mod (pe_ix ix_list (pv 11) pe_int (fun _ _ => rfl)) (pe_callB call_len_seq (by rfl) m_len (by decide +kernel) (pa_cons (pv 8) pa_nil))) (fun _ _ => rfl)) pa_nil))))
      (pss_cut (ps_if (PW.pt (pw_and (pt_cmpR op_eq (pe_op op_mod (pe_ix ix_list (pv 4) pe_int (fun _ _ => rfl)) pe_int) pe_int (nomark _)) (pw_and1 (pt_cmpR op_eq (pv 10) (pe_op op_mod (pe_ix ix_list (pv 4) pe_int (fun _ _ => rfl)) (pv 6)) (nomark _)))))
      (pss_cons (ps_set (i := 13) sc__law_book.nd rfl (.inl rfl) (pe_op op_mod (pe_ix ix_list (pv 11) pe_int (fun _ _ => rfl)) (pv 5)))
      (pss_one (ps_set (i := 12) sc__law_book.nd rfl (.inl rfl) (pe_op op_add_str (pe_op op_add_str (pe_slice sl_str (pv 12) po_none (po_some (pv 13))) (pe_ix ix_str pe_str (pe_op op_mod (pe_ix ix_list (pv 11) pe_int (fun _ _ => rfl)) pe_int) (fun _ _ => rfl))) (pe_slice sl_str (pv 12) (po_some (pe_op op_add (pv 13) pe_int)) po_none)))))
      pss_nil)
      (pss_cut (ps_if (pt_cmpR op_eq (pe_op op_mod (pe_ix ix_list (pv 4) pe_int (fun _ _ => rfl)) pe_int) pe_int (nomark _))
      (pss_one (ps_set (i := 12) sc__law_book.nd rfl (.inl rfl) (pe_call G__law_any_row (hr.mono (by decide)) (by rfl) g__law_any_row F__law_any_row.kp b__law_any_row .nil pass0 (pa_cons (pe_slice sl_list (pv 11) (po_some pe_int) po_none) (pa_cons (pv 5) pa_nil)))))
      pss_nil)
      (pss_cut (ps_if (PW.pt (pw_and (pt_cmpR op_eq (pe_op op_mod (pe_ix ix_list (pv 11) pe_int (fun _ _ => rfl)) pe_int) pe_int (nomark _)) (pw_and1 (pt_cmpR (op_neD hr.units) (pv 9) (pe_lst pa_nil) (nomark _)))))
      (pss_one (ps_set (i := 12) sc__law_book.nd rfl (.inl rfl) (pe_ix ix_tup (pe_ix ix_list (pv 9) (pe_op op_mod (pe_ix ix_list (pv 11) pe_int (fun _ _ => rfl)) (pe_callB call_len_seq (by rfl) m_len (by decide +kernel) (pa_cons (pv 9) pa_nil))) (fun _ _ => rfl)) pe_int (fun _ _ => rfl))))
      pss_nil)
      (pss_one (ps_expr (pe_bm PySem.F.plainAttrs_list PySem.F.slot_list_append PySem.F.type_list_append mt_append (pv 9) (pa_cons (pe_tup (pa_cons (pe_ix ix_list (pv 7) (pv 10) (fun _ _ => rfl)) (pa_cons (pv 12) pa_nil))) pa_nil))))))))))
      (pss_one (ps_ret (pe_tup (pa_cons (pv 5) (pa_cons (pe_callTy Hid.cr_tupF (by rfl) m_tuple (by decide +kernel) (pa_cons (pv 9) pa_nil)) pa_nil)))))))))))), ?_⟩
    refine ⟨_, rfl, _, rfl, a, ns, (at0 : Int), rfl, hS, by omega, fun c G1 g1 => ⟨c, 24, rfl, by decide, fun hd hdl hdp ph H1 nph g1' h1 => ?_⟩⟩
    have e1 : Ex H H1 := g1.trans g1'
    have hdl' : hd.length = 24 := by omega
    have ad : ∀ (j : Nat) (hj : j < 24), atI (hd.map V.int) (j : Int) = some (.int (hd.getD j 0)) := fun j hj => atI_nat (by rw [List.getElem?_map, List.getD_eq_getElem?_getD, List.getElem?_eq_getElem (by omega)]; rfl)
    have md : ∀ (v : Int) (d : Nat), 0 < d → ∃ r : Nat, v % (d : Int) = (r : Nat) ∧ r < d := fun v d hd => ⟨(v % (d : Int)).toNat, by
      have := Int.emod_nonneg v (show (d : Int) ≠ 0 by omega)
      have := Int.emod_lt_of_pos v (show (0 : Int) < d by omega)
      omega⟩
    obtain ⟨n0, hn0, hn0l⟩ := md (hd.getD 12 0) pl (by omega)
    obtain ⟨n, rfl⟩ : ∃ n, n = n0 + 1 := ⟨_, rfl⟩
    have hnn : (1 : Int) + hd.getD 12 0 % (pl : Int) = ((n0 + 1 : Nat) : Int) := by omega
    generalize hN : n0 + 1 = n at hnn
    have hn1 : 1 ≤ n ∧ n ≤ 8 ∧ n ≤ pl := by omega
    refine q_asg (v := .int (n : Nat)) (ev_is (ev_op ev_c (ev_op (ev_op (ev_var rfl) ev_c (rv_ixL (sq_of h1) (ad 12 (by decide)))) (ev_var rfl) (rv_I (by show (0 : Int) < pl; omega))) rv_I0) (congrArg V.int hnn)) fun H2 e2 => ?_
    obtain ⟨m, hm, hml⟩ := md (hd.getD 13 0) (ma + 1) (by omega)
    refine q_asg (v := .int (m : Nat)) (ev_is (ev_op (ev_op (ev_var rfl) ev_c (rv_ixL (sq_of (e2 _ _ h1)) (ad 13 (by decide)))) (ev_op (ev_var rfl) ev_c rv_I0) (rv_I (by show (0 : Int) < (ma : Int) + 1; omega))) (congrArg V.int hm)) fun H3 e3 => ?_
    have h3 : H3 ph = some (.lst (hd.map V.int)) := e3 _ _ (e2 _ _ h1)
    have c14 : cutV (hd.map V.int) (some 14) none = (hd.drop 14).map V.int := by have := cut_drop (xs := hd.map V.int) 14; rw [List.map_drop]; exact this
    refine (el_sl (ev_var rfl) (eo_some ev_c) eo_none (sq_of h3)) _ (Ex.refl _) _ fun q14 H4 nq14 e4 h4 => ⟨q14, hd.drop 14, 10, rfl, by rw [← c14]; exact sq_of h4, ⟨by rw [List.length_drop]; omega, by decide⟩, fun nx ny nz hx10 hy4 hz3 pn H5 npn e5 h5 => ?_⟩
    have h5h : H5 ph = some (.lst (hd.map V.int)) := e5 _ _ (e4 _ _ h3)
    refine c_call (ea_cons (ev_var rfl) (ea_cons (ev_var rfl) ea_nil)) fun G6 g6 => ⟨ph, hd, n, rfl, sq_of (g6 _ _ h5h), ⟨by omega, hn1.1, hn1.2.1⟩, fun hs s0 sl sm pv H6 npv g6' h6 => ?_⟩
    have e6 : Ex H5 H6 := g6.trans g6'
    have hsl : 0 < hs.length := List.length_pos_iff.mpr s0
    refine q_asgL (el_lst ea_nil (by decide)) fun l H7 nl e7 h7 => ?_
    have e06 : Ex H H6 := e1.trans (e2.trans (e3.trans (e4.trans (e5.trans e6))))
    have h6h : H6 ph = some (.lst (hd.map V.int)) := e6 _ _ h5h
    have h6n : H6 pn = some (.lst ((List.range 10).map fun k => .str (tx (nameOf nx ny nz k)))) := e6 _ _ h5
    obtain ⟨hNd, hNl⟩ := names_ok nx hx10 ny hy4 nz hz3
    refine q_forR1 (n := (m : Int)) (ea_cons (ev_var rfl) ea_nil) ⟨by omega, by omega⟩ (fun i σ' H' => ∃ (rs : List (List Nat × List Nat)) (vs : List V) (y10 y11 y12 y13 : Option V), σ' = [some (.ref a), some (.int (at0 : Nat)), some (.int (ma : Nat)), some (.int (pl : Nat)), some (.ref ph), some (.int (n : Nat)), some (.int (m : Nat)), some (.ref pn), some (.ref pv), some (.ref l), y10, y11, y12, y13] ∧ Ex H6 H' ∧ H' l = some (.lst vs) ∧ Prs K H' vs rs ∧ rs.map (·.1) = (List.range i).map (nameOf nx ny nz) ∧ ∀ p ∈ rs, RowL p.2 ∧ p.2.length = n) (fun H8 e8 => ⟨[], [], _, _, _, _, rfl, e7.trans e8, e8 _ _ h7, .nil, rfl, fun _ z => nomatch z⟩) (fun i σ' H8 hi hP => ?_) (fun σ' H8 hP => ?_)
    · obtain ⟨rs, vs, y10, y11, y12, y13, rfl, e8, h8, hprs, hnm, hrw⟩ := hP
      have hlr : rs.length = i := by have := congrArg List.length hnm; rw [List.length_map, List.length_map, List.length_range] at this; exact this
      have hlv : vs.length = i := by rw [paired_len hprs, hlr]
      have e08 : Ex H H8 := e06.trans e8
      have i10 : i < 10 := by omega
      refine ⟨_, rfl, _, rfl, _, _, rfl, rfl, _, rfl, _, _, rfl, rfl, a, ns, ((at0 : Int) + 1 + (i : Int)), rfl, ex_l e08 hS, by omega, fun c G9 g9 => ⟨c, 14, rfl, by decide, fun xs hxl hxp px H9 npx g9' h9 => ?_⟩⟩
      have e9 : Ex H8 H9 := g9.trans g9'
      have hxl' : xs.length = 14 := by omega
      have ax : ∀ (j : Nat) (hj : j < 14), atI (xs.map V.int) (j : Int) = some (.int (xs.getD j 0)) := fun j hj => atI_nat (by rw [List.getElem?_map, List.getD_eq_getElem?_getD, List.getElem?_eq_getElem (by omega)]; rfl)
      have e69 : Ex H6 H9 := e8.trans e9
      have hpick : ∀ (j : Nat) (hj : j < 14) (σ : L2.St), σ[8]? = some (some (.ref pv)) → σ[11]? = some (some (.ref px)) → ∃ h : List Nat, HalfN n h ∧ Ev (tOp (rIxL K) (tVar 8) (tOp (rI (fun x j => 0 < j) fun i j => V.int (i % j)) (tOp (rIxL K) (tVar 11) (tC (.int (j : Nat)))) (tCB (rLenS K) (tCons (tVar 8) tNil)))) σ H9 (.str (tx h)) := fun j hj σ s8 s11 => by
        obtain ⟨r, hr, hrl⟩ := md (xs.getD j 0) hs.length hsl
        refine ⟨hs[r], sm _ (List.getElem_mem hrl), ev_op (ev_var s8) (ev_is (ev_op (ev_op (ev_var s11) ev_c (rv_ixL (sq_of h9) (ax j hj))) (ev_len (ev_var s8) (sq_of (e69 _ _ h6))) (rv_I (by show (0 : Int) < _; rw [List.length_map]; omega))) (congrArg V.int (by rw [List.length_map]; exact hr))) (rv_ixL (sq_of (e69 _ _ h6)) (atI_nat (by rw [List.getElem?_map, List.getElem?_eq_getElem hrl]; rfl)))⟩
      obtain ⟨g1, hg1, v1⟩ := hpick 0 (by decide) [some (.ref a), some (.int (at0 : Nat)), some (.int (ma : Nat)), some (.int (pl : Nat)), some (.ref ph), some (.int (n : Nat)), some (.int (m : Nat)), some (.ref pn), some (.ref pv), some (.ref l), some (.int (i : Nat)), some (.ref px), y12, y13] rfl rfl
      obtain ⟨g2, hg2, v2⟩ := hpick 1 (by decide) [some (.ref a), some (.int (at0 : Nat)), some (.int (ma : Nat)), some (.int (pl : Nat)), some (.ref ph), some (.int (n : Nat)), some (.int (m : Nat)), some (.ref pn), some (.ref pv), some (.ref l), some (.int (i : Nat)), some (.ref px), y12, y13] rfl rfl
      have hgl1 := hg1.1
      have hgl2 := hg2.1
      refine q_asg (v := .str (tx (rowBy g1 g2))) (ev_call (ea_cons v1 (ea_cons v2 ea_nil)) fun G g Q1 q1 E1 => ⟨g1, g2, rfl, ⟨by omega, by omega⟩, q1⟩) fun H10 e10 => ?_
      have hr10 : (rowBy g1 g2).length = n := by unfold rowBy; rw [List.length_zipWith]; omega
      have hR10 : RowL (rowBy g1 g2) := ⟨by omega, rowBy_nby _ _ hg1.2⟩
      generalize rowBy g1 g2 = row0 at hr10 hR10
      have e610 : Ex H6 H10 := e69.trans e10
      -- a sign put otherwise
      refine q_cut (M := fun σ' H' => ∃ (row : List Nat) (y13 : Option V), RowL row ∧ row.length = n ∧ σ' = [some (.ref a), some (.int (at0 : Nat)), some (.int (ma : Nat)), some (.int (pl : Nat)), some (.ref ph), some (.int (n : Nat)), some (.int (m : Nat)), some (.ref pn), some (.ref pv), some (.ref l), some (.int (i : Nat)), some (.ref px), some (.str (tx row)), y13] ∧ Ex H9 H') ?_ ?_
      · refine s_when (et_and (et_test (ev_op (ev_op (ev_op (ev_var rfl) ev_c (rv_ixL (sq_of (e610 _ _ h6h)) (ad 17 (by decide)))) ev_c (rv_I (by show (0 : Int) < 4; decide))) ev_c (rv_eq rfl))) fun _ => et_test (ev_op (ev_var rfl) (ev_op (ev_op (ev_var rfl) ev_c (rv_ixL (sq_of (e610 _ _ h6h)) (ad 18 (by decide)))) (ev_var rfl) (rv_I (by show (0 : Int) < m; omega))) (rv_eq rfl))) (fun hb H11 e11 => ?_) (fun hb H11 e11 => ⟨row0, _, hR10, hr10, rfl, e10.trans e11⟩)
        obtain ⟨pc, hpc, hpn⟩ := md (xs.getD 2 0) n (by omega)
        refine q_asg (v := .int (pc : Nat)) (ev_is (ev_op (ev_op (ev_var rfl) ev_c (rv_ixL (sq_of (e11 _ _ (e10 _ _ h9))) (ax 2 (by decide)))) (ev_var rfl) (rv_I (by show (0 : Int) < n; omega))) (congrArg V.int hpc)) fun H12 e12 => ?_
        obtain ⟨c, hc, hac⟩ : ∃ c : Nat, (c = 110 ∨ c = 98 ∨ c = 121) ∧ atI ("nby" : Str).cps.toList (xs.getD 3 0 % 3) = some c := by
          obtain ⟨y, hy, hy3⟩ := md (xs.getD 3 0) 3 (by decide)
          rw [show xs.getD 3 0 % 3 = (y : Int) from hy]
          have : y = 0 ∨ y = 1 ∨ y = 2 := by omega
          rcases this with h | h | h <;> subst h
          · exact ⟨110, .inl rfl, rfl⟩
          · exact ⟨98, .inr (.inl rfl), rfl⟩
          · exact ⟨121, .inr (.inr rfl), rfl⟩
        have ct := cutS_take row0 pc (by omega)
        have cd := cutS_drop row0 (pc + 1)
        rw [Int.natCast_add] at cd
        have lr0 : (tx row0).length ≤ 100000 := by rw [tx_len]; omega
        refine s_asg (v := .str (tx (row0.take pc ++ [c] ++ row0.drop (pc + 1)))) (ev_is (ev_op (ev_is (ev_op (ev_is (ev_slS (ev_var rfl) eo_none (eo_some (ev_var rfl)) lr0) (congrArg V.str ct)) (ev_op ev_c (ev_op (ev_op (ev_var rfl) ev_c (rv_ixL (sq_of (e12 _ _ (e11 _ _ (e10 _ _ h9)))) (ax 3 (by decide)))) ev_c (rv_I (by show (0 : Int) < 3; decide))) (rv_ixS (by decide) hac)) (rv_catS (by rw [tx_len, List.length_take]; omega) (by show 1 ≤ 1000; decide))) (congrArg V.str (tx_sn _ _))) (ev_is (ev_slS (ev_var rfl) (eo_some (ev_op (ev_var rfl) ev_c rv_I0)) eo_none lr0) (congrArg V.str cd)) (rv_catS (by rw [tx_len, List.length_append, List.length_take]; show _ + 1 ≤ 1000; omega) (by rw [tx_len, List.length_drop]; omega))) (congrArg V.str (tx_app _ _))) fun H13 e13 => ?_
        have hL : (row0.take pc ++ [c] ++ row0.drop (pc + 1)).length = n := by simp; omega
        refine ⟨_, _, ⟨by omega, fun d hd => ?_⟩, hL, rfl, e10.trans (e11.trans (e12.trans e13))⟩
        rcases List.mem_append.mp hd with z | z
        · rcases List.mem_append.mp z with z | z
          · exact hR10.2 d (List.mem_of_mem_take z)
          · rw [List.mem_singleton.mp z]; exact hc
        · exact hR10.2 d (List.mem_of_mem_drop z)
      · rintro σ' H11 ⟨row1, z13, hR1, hr1, rfl, e11⟩
        have e611 : Ex H6 H11 := e69.trans e11
        refine q_cut (M := fun σ' H' => ∃ (row : List Nat) (y13 : Option V), RowL row ∧ row.length = n ∧ σ' = [some (.ref a), some (.int (at0 : Nat)), some (.int (ma : Nat)), some (.int (pl : Nat)), some (.ref ph), some (.int (n : Nat)), some (.int (m : Nat)), some (.ref pn), some (.ref pv), some (.ref l), some (.int (i : Nat)), some (.ref px), some (.str (tx row)), y13] ∧ Ex H9 H') ?_ ?_
        · refine s_when (et_test (ev_op (ev_op (ev_op (ev_var rfl) ev_c (rv_ixL (sq_of (e611 _ _ h6h)) (ad 17 (by decide)))) ev_c (rv_I (by show (0 : Int) < 4; decide))) ev_c (rv_eq rfl))) (fun hb H12 e12 => ?_) (fun hb H12 e12 => ⟨row1, _, hR1, hr1, rfl, e11.trans e12⟩)
          have c4 : cutV (xs.map V.int) (some 4) none = (xs.drop 4).map V.int := by have := cut_drop (xs := xs.map V.int) 4; rw [List.map_drop]; exact this
          refine (el_sl (ev_var rfl) (eo_some ev_c) eo_none (sq_of (e12 _ _ (e11 _ _ h9)))) _ (Ex.refl _) _ fun q4 H13 nq4 e13 h13 => ⟨_, rfl, q4, xs.drop 4, n, rfl, by rw [← c4]; exact sq_of h13, ⟨by rw [List.length_drop]; omega, by omega⟩, fun r hrl hrc H14 e14 => ⟨r, _, ⟨by omega, hrc⟩, hrl, rfl, e11.trans (e12.trans (e13.trans e14))⟩⟩
        · rintro σ' H12 ⟨row2, w13, hR2, hr2, rfl, e12⟩
          have e912 : Ex H8 H12 := e9.trans e12
          have hp12 : Prs K H12 vs rs := hprs.ex e912
          have hsm : ∀ p ∈ rs, (∀ c ∈ p.1, c < 200) ∧ ∀ c ∈ p.2, c < 200 := fun p hp => ⟨fun c hc => by
            have hmem : p.1 ∈ (List.range i).map (nameOf nx ny nz) := by rw [← hnm]; exact List.mem_map.mpr ⟨p, hp, rfl⟩
            obtain ⟨k, hk, hke⟩ := List.mem_map.mp hmem
            rw [← hke] at hc
            have := (hNl k (by have := List.mem_range.mp hk; omega)).2 c hc
            omega, fun c hc => by rcases (hrw p hp).1.2 c hc with z | z | z <;> omega⟩
          refine q_cut (M := fun σ' H' => ∃ (row : List Nat) (y13 : Option V), RowL row ∧ row.length = n ∧ σ' = [some (.ref a), some (.int (at0 : Nat)), some (.int (ma : Nat)), some (.int (pl : Nat)), some (.ref ph), some (.int (n : Nat)), some (.int (m : Nat)), some (.ref pn), some (.ref pv), some (.ref l), some (.int (i : Nat)), some (.ref px), some (.str (tx row)), y13] ∧ Ex H9 H') ?_ ?_
          · refine s_when (et_and (et_test (ev_op (ev_op (ev_op (ev_var rfl) ev_c (rv_ixL (sq_of (e12 _ _ h9)) (ax 12 (by decide)))) ev_c (rv_I (by show (0 : Int) < 8; decide))) ev_c (rv_eq rfl))) fun _ => et_test (ev_neN (ev_var rfl) (e912 _ _ h8) hp12.dp (shaped_prs rs hsm).1 fun _ e => (hp12.ex e).dp)) (fun hb H13 e13 => ?_) (fun hb H13 e13 => ⟨row2, _, hR2, hr2, rfl, e12.trans e13⟩)
            have hne : rs ≠ [] := fun z => by
              rw [Bool.and_eq_true] at hb
              have := hb.2
              rw [z] at this
              simp at this
            have h0r : 0 < rs.length := List.length_pos_iff.mpr hne
            obtain ⟨r, hr, hrl⟩ := md (xs.getD 13 0) vs.length (by omega)
            have hvr : vs[r]? = some vs[r] := List.getElem?_eq_getElem hrl
            obtain ⟨p, hp, t, ht, hT⟩ := paired_get hp12 r _ hvr
            obtain ⟨hRp, hrp⟩ := hrw p (List.mem_of_getElem? hp)
            refine s_asg (v := .str (tx p.2)) (ev_op (ev_op (ev_var rfl) (ev_is (ev_op (ev_op (ev_var rfl) ev_c (rv_ixL (sq_of (e13 _ _ (e12 _ _ h9))) (ax 13 (by decide)))) (ev_len (ev_var rfl) (sq_of (e13 _ _ (e912 _ _ h8)))) (rv_I (by show (0 : Int) < _; omega))) (congrArg V.int hr)) (rv_ixL (sq_of (e13 _ _ (e912 _ _ h8))) (v := .ref t) (atI_nat (by rw [hvr, ht])))) ev_c (rv_ixT (st_of (e13 _ _ hT)) (atI_nat (j := 1) rfl))) fun H14 e14 => ⟨p.2, _, hRp, hrp, rfl, e12.trans (e13.trans e14)⟩
          · rintro σ' H13 ⟨row3, u13, hR3, hr3, rfl, e13⟩
            have e913 : Ex H8 H13 := e9.trans e13
            have h13l : H13 l = some (.lst vs) := e913 _ _ h8
            have an : atI ((List.range 10).map fun k => V.str (tx (nameOf nx ny nz k))) (i : Int) = some (.str (tx (nameOf nx ny nz i))) := atI_nat (by rw [List.getElem?_map, List.getElem?_range i10]; rfl)
            refine s_appU (ys := [.str (tx (nameOf nx ny nz i)), .str (tx row3)]) h13l (ev_var rfl) (eu_tup (ea_cons (ev_op (ev_var rfl) (ev_var rfl) (rv_ixL (sq_of ((e8.trans e913) _ _ h6n)) an)) (ea_cons (ev_var rfl) ea_nil)) (by show 2 ≤ 100000; decide)) (by omega) fun p4 H14 np4 e14 h14 => ?_
            have nl6 : H6 l = none := nl
            refine ⟨rs ++ [(nameOf nx ny nz i, row3)], vs ++ [.ref p4], _, _, _, _, rfl, ((e8.trans e913).trans e14).mut nl6, upd_same, ?_, ?_, fun p hp => ?_⟩
            · have hpa : Prs K H14 (vs ++ [.ref p4]) (rs ++ [(nameOf nx ny nz i, row3)]) := paired_app (hprs.ex (e913.trans e14)) (.cons ⟨p4, rfl, h14⟩ .nil)
              exact hpa.upd (e14 _ _ h13l)
            · rw [List.map_append, hnm, List.range_succ, List.map_append]
              rfl
            · rcases List.mem_append.mp hp with z | z
              · exact hrw p z
              · rw [List.mem_singleton.mp z]
                exact ⟨hR3, hr3⟩
    · obtain ⟨rs, vs, y10, y11, y12, y13, rfl, e8, h8, hprs, hnm, hrw⟩ := hP
      rw [Int.toNat_natCast] at hnm
      have hlr : rs.length = m := by have := congrArg List.length hnm; rw [List.length_map, List.length_map, List.length_range] at this; exact this
      refine ⟨_, rfl, _, rfl, l, vs, rfl, sq_of h8, fun pb ob npb tdb => ⟨by show 2 ≤ sizeLine; decide, fun pt npt => ?_⟩⟩
      have eb := Ex.new (o := .frz ob (.tup vs)) npb
      have et := Ex.new (o := .tup [.int (n : Nat), .ref pb]) npt
      refine q n rs (.ref pt) _ ((e06.trans e8).trans (eb.trans et)) ⟨pt, pb, vs, rfl, upd_same, ⟨ob, tdb, et _ _ upd_same⟩, hprs.ex (eb.trans et)⟩ ⟨⟨hn1.1, hn1.2.1⟩, by omega, hrw, fun p hp => ?_, ?_⟩ (by omega) hn1.2.2
      · have hmem : p.1 ∈ (List.range m).map (nameOf nx ny nz) := by rw [← hnm]; exact List.mem_map.mpr ⟨p, hp, rfl⟩
        obtain ⟨k, hk, hke⟩ := List.mem_map.mp hmem
        rw [← hke]
        exact hNl k (by have := List.mem_range.mp hk; omega)
      · rw [hnm]
        exact List.Nodup.sublist ((List.range_sublist.mpr (by omega)).map _) hNd
def sp_is_written_in (K : PySem.W.Frag) (ts : List Addr) : Sp := fun vs H Q _ => ∃ (v : V) (o : Option (List Nat)) (g : List Nat), vs = [v, .str (tx g)] ∧ Th K H v o ∧ TB ts H ∧ RetV (.bl (wr o g)) H Q
theorem ok_is_written_in {cc pp : Addr} {ts : List Addr} {tMS : Tok} (D : DfC K mg "is_written_in" st_is_written_in ["thing", "signs"] cc) (B_is_written_in : GxR.TabB base mg cc pp) (hpp : pp ∈ ts) (m_len : mg "len" = none) (m_isinstance : mg "isinstance" = none) (m_str : mg "str" = none) (m_all : mg "all" = none) (c_MOST_SIGNS : mg "MOST_SIGNS" = some (.int 8 tMS)) : At P w K mg base "is_written_in" st_is_written_in 2 ["thing", "signs"] (sp_is_written_in K ts) := by
  obtain ⟨f, fd, F, b, g, hcd⟩ := D
  refine ⟨f, fd, F, b, g, okC F hcd sc_is_written_in (fun vs H Q E h => ?_) (fun A outer s H vs Q E hr h => ?_)⟩
  · obtain ⟨v, o, g, rfl, _⟩ := h
    rfl
  · obtain ⟨v, o, g0, rfl, hv, hT, q⟩ := h
    refine ⟨_, (pss_cons (ps_if (PW.pt (pw_or (pt_not (pt_val (pe_callB call_isi (by rfl) m_isinstance (by decide +kernel) (pa_cons (pv 0) (pa_cons (pe_bltn (v := .ty "str") (by rfl) m_str (by decide +kernel) rfl) pa_nil))))) (pw_or1 (pt_not (pt_chain op_le op_le pe_int (pe_callB call_len_str (by rfl) m_len (by decide +kernel) (pa_cons (pv 0) pa_nil)) (pe_glob (v := .int 8) (by rfl) c_MOST_SIGNS ⟨_, rfl⟩))))))
      (pss_one (ps_ret pe_bl))
      pss_nil)
      (pss_one (ps_ret (Hid.pe_allG (own := [("sign", 2)]) (gg := gName 2) hr rfl sc_is_written_in.nd (by rfl) m_all B_is_written_in rfl (pi_str (pv 0)) (blkOk_by (N := ["thing", "signs", "sign"]) (sc := defScope st_is_written_in) (by decide +kernel)) (fun _ _ _ _ _ _ _ _ => (pg_name (i := 2) sc_is_written_in.nd rfl (.inl rfl))) (fun _ _ _ _ _ _ _ _ hr => (pe_cmpR op_in_sign (pv 2) (pv 1) rfl)))))), ?_⟩
    cases o with
    | none =>
      refine q_when (b := true) (et_or (b := false) (et_not (et_B (ev_isS (ev_var rfl) hv))) fun z => absurd z (by decide)) (fun hb H1 e1 => ?_) (fun hb H1 e1 => absurd hb (by decide))
      exact s_ret ev_c fun H2 e2 => q H2 (e1.trans e2)
    | some z =>
      obtain ⟨rfl, hz⟩ := id hv
      have hlen : (tx z).length = z.length := by simp [tx, Str.length]
      refine q_when (b := !decide (1 ≤ z.length ∧ z.length ≤ 8)) (et_is (et_or (et_not (et_B (ev_isS (ev_var rfl) hv))) fun _ => et_not (et_test (ev_chain (b := decide ((1 : Int) ≤ z.length)) (b' := decide ((z.length : Int) ≤ 8)) ev_c (ev_is (ev_lenS (ev_var rfl) (by omega)) (by rw [hlen])) rv_I0 (fun _ => ev_c) fun _ => rv_I0))) ?_) (fun hb H1 e1 => ?_) (fun hb H1 e1 => ?_)
      · show (!true || !(decide ((1 : Int) ≤ z.length) && decide ((z.length : Int) ≤ 8))) = _
        rw [Bool.not_true, Bool.false_or]
        congr 1
        by_cases h1 : 1 ≤ z.length <;> by_cases h2 : z.length ≤ 8 <;> simp [h1, h2] <;> omega
      · have hw : wr (some z) g0 = false := by
          have : decide (1 ≤ z.length ∧ z.length ≤ 8) = false := of_not hb
          show (decide (1 ≤ z.length ∧ z.length ≤ 8) && _) = false
          rw [this, Bool.false_and]
        rw [hw] at q
        exact s_ret ev_c fun H2 e2 => q H2 (e1.trans e2)
      · have hd : decide (1 ≤ z.length ∧ z.length ≤ 8) = true := of_not' hb
        have hw : wr (some z) g0 = z.all fun c => decide (c ∈ g0) := by
          show (decide (1 ≤ z.length ∧ z.length ≤ 8) && _) = _
          rw [hd, Bool.true_and]
        rw [hw] at q
        have hsz : (tx z).cps.size = z.length := by simp [tx]
        refine ⟨_, rfl, tx z, rfl, hT.ex e1 _ hpp, gx_it walk_str (fun i H' => Ex H H' ∧ ((z.take i).all fun c => decide (c ∈ g0)) = true) ⟨e1, rfl⟩ (fun _ _ _ _ => trivial) (fun i x H2 H2' hi hP hY => ?_) (fun H2 hP => ?_)⟩
        · obtain ⟨e2, hall⟩ := hP
          obtain ⟨rfl, c, hc, rfl⟩ := hY
          have hc' : z[i]? = some c := by simpa [tx] using hc
          refine ⟨rfl, _, rfl, _, rfl, c, tx g0, rfl, rfl, _, rfl, fun hb2 => ⟨e2, ?_⟩, fun hb2 => ?_⟩
          · rw [List.take_add_one, hc']
            show ((z.take i ++ [c]).all _) = true
            rw [List.all_append, hall, Bool.true_and]
            show (decide (c ∈ g0) && true) = true
            rw [Bool.and_true]
            simpa [tx] using hb2
          · have hf : (z.all fun c => decide (c ∈ g0)) = false := by
              rw [Bool.eq_false_iff]
              intro ha
              have := List.all_eq_true.mp ha c (List.mem_of_getElem? hc')
              exact hb2 (by simpa [tx] using this)
            rw [hf] at q
            exact q _ e2
        · obtain ⟨e2, hall⟩ := hP
          rw [List.take_of_length_le (by omega)] at hall
          rw [hall] at q
          exact q H2 e2
def sp_is_row (K : PySem.W.Frag) (ts : List Addr) : Sp := fun vs H Q _ => ∃ (v : V) (o : Option (List Nat)), vs = [v] ∧ Th K H v o ∧ TB ts H ∧ RetV (.bl (wr o [110, 98, 121])) H Q
theorem ok_is_row {ts : List Addr} {tRS : Tok} (D : Df K mg "is_row" st_is_row ["thing"]) (c_ROW_SIGNS : mg "ROW_SIGNS" = some (.str "nby" tRS)) (A_is_written_in : At P w K mg base "is_written_in" st_is_written_in 2 ["thing", "signs"] (sp_is_written_in K ts)) : At P w K mg base "is_row" st_is_row 3 ["thing"] (sp_is_row K ts) := by
  obtain ⟨f, fd, F, b, g⟩ := D
  obtain ⟨f_is_written_in, fd_is_written_in, F_is_written_in, b_is_written_in, g_is_written_in, G_is_written_in⟩ := A_is_written_in
  refine ⟨f, fd, F, b, g, F.ok sc_is_row (fun vs H Q E h => ?_) (fun cdv A outer s H vs Q E hr h => ?_)⟩
  · obtain ⟨v, o, rfl, _⟩ := h
    rfl
  · obtain ⟨v, o, rfl, hv, hT, q⟩ := h
    refine ⟨_, (pss_one (ps_ret (pe_call G_is_written_in (hr.mono (by decide)) (by rfl) g_is_written_in F_is_written_in.kp b_is_written_in .nil pass0 (pa_cons (pv 0) (pa_cons (pe_glob (v := .str "nby") (by rfl) c_ROW_SIGNS ⟨_, rfl⟩) pa_nil))))), ?_⟩
    exact c_call (ea_cons (ev_var rfl) (ea_cons ev_c ea_nil)) fun H1 e1 => ⟨v, o, [110, 98, 121], rfl, hv.ex e1, hT.ex e1, fun H2 e2 => q H2 (e1.trans e2)⟩
def sp_is_name (K : PySem.W.Frag) (ts : List Addr) : Sp := fun vs H Q _ => ∃ (v : V) (o : Option (List Nat)), vs = [v] ∧ Th K H v o ∧ TB ts H ∧ RetV (.bl (wr o az)) H Q
theorem ok_is_name {ts : List Addr} {tSL : Tok} (D : Df K mg "is_name" st_is_name ["thing"]) (c_SMALL_LETTERS : mg "SMALL_LETTERS" = some (.str "abcdefghijklmnopqrstuvwxyz" tSL)) (A_is_written_in : At P w K mg base "is_written_in" st_is_written_in 2 ["thing", "signs"] (sp_is_written_in K ts)) : At P w K mg base "is_name" st_is_name 3 ["thing"] (sp_is_name K ts) := by
  obtain ⟨f, fd, F, b, g⟩ := D
  obtain ⟨f_is_written_in, fd_is_written_in, F_is_written_in, b_is_written_in, g_is_written_in, G_is_written_in⟩ := A_is_written_in
  refine ⟨f, fd, F, b, g, F.ok sc_is_name (fun vs H Q E h => ?_) (fun cdv A outer s H vs Q E hr h => ?_)⟩
  · obtain ⟨v, o, rfl, _⟩ := h
    rfl
  · obtain ⟨v, o, rfl, hv, hT, q⟩ := h
    refine ⟨_, (pss_one (ps_ret (pe_call G_is_written_in (hr.mono (by decide)) (by rfl) g_is_written_in F_is_written_in.kp b_is_written_in .nil pass0 (pa_cons (pv 0) (pa_cons (pe_glob (v := .str "abcdefghijklmnopqrstuvwxyz") (by rfl) c_SMALL_LETTERS ⟨_, rfl⟩) pa_nil))))), ?_⟩
    exact c_call (ea_cons (ev_var rfl) (ea_cons ev_c ea_nil)) fun H1 e1 => ⟨v, o, az, rfl, hv.ex e1, hT.ex e1, fun H2 e2 => q H2 (e1.trans e2)⟩
end
end Hid

namespace Hid
open PySem PySem.Spec PyProof.Rows L2 Evl
/-! C.m(e, ..), C a class of the text's, m a def of its: the def itself is called -/
def tCDef (C : Addr) (sp : Sp) (dvs : List V) (E : XK) (ta : TE) (t : TA) : TE := fun σ H Q => ta σ H fun x H1 => x = .ref C ∧ t σ H1 fun vs H2 => sp (vs ++ dvs) H2 Q E
theorem pe_cdef {X : Cx} {CX : CXT} {o e : Expr} {es : List Expr} {ta : TE} {t : TA} {m : Str} {C f : Addr} {mc : Value} {fd : FuncData} {ps : List Str} {sp : Sp} {ds : List Value} {dvs : List V} {E : XK} {k : Nat} {pos apos : Pos} {pl : Sem Bool} (he : PE X o ta) (r : ClX.CRead X.K C mc) (at_ : PySem.W.findCls X.K (.ref C) mc m = some (.val (.ref f))) (F : FnOk X.prog X.w X.K X.mg X.base CX k f fd ps sp) (hr : Room k X.A) (hk : PySem.W.keepIn X.K (.ref f) = true) (hb : Binds X.K fd ps ds) (hd : Vals dvs ds) (hx : Passes CX X E) (ha : PA X (e :: es) t)
    (hst : starEach (e :: es) X.env = (false, eval e X.env) :: starEach es X.env := by rfl) (hpl : (backTo pos (starEach es X.env)).any (·.1) = false := by rfl)
    (ht : eval (.Call (.Attribute o m apos) (e :: es) [] pos) X.env = (do
      let ov ← eval o X.env
      standAt apos.atName
      let (f, first) ← holding [ov] (getMethod ov m pl)
      callWith pos f first (backTo pos (starEach (e :: es) X.env)) (backToKw pos (keywordEach [] X.env))) := by rfl) :
    PE X (.Call (.Attribute o m apos) (e :: es) [] pos) (tCDef C sp dvs E ta t) := by
  refine ⟨fun pins s σ H Q I h => ?_⟩
  refine PySem.W.methodCall_KW (pl := pl) (thn (he.run pins s σ H _ I h) fun u s1 ⟨x, H1, I1, rx, ex, q⟩ => ?_) ht
  subst ex
  obtain rfl : u = Value.ref C := rx
  refine PySem.W.method_cls I1.kIn r.ga (ClX.getcval_ok (v := .ref f) I1 r ⟨at_, rfl⟩ fun s2 I2 => ?_)
  refine PySem.W.callWith_K (h₀ := X.base) I2.ok.mod.kin hk (thn (ha.run pos pins s2 σ H1 _ I2 q) fun us s3 ⟨vs, H2, I3, r3, q2⟩ => ⟨I3.kIn, ?_⟩) hst hpl
  exact run_fn F hr hb hd hx I3 r3 q2
end Hid

namespace Hid
open PySem PySem.Spec PyProof.Rows L2
/-! an exception kept as a value behind its suite -/
def ExcH (a : Addr) (cls : Value) (d : Option Addr) (h : Heap) : Prop := ∃ oe vs, h.get? a = some oe ∧ Zc cls d oe ∧ oe.data = .fields vs
def ExcX (a : Addr) (cls : Value) (d : Option Addr) : HO := .ext (ExcH a cls d)
theorem excX_ok {Pr : Program} {w : World} {H : Hp} {h : Heap} {a : Addr} {cls : Value} {d : Option Addr} (x : ExcH a cls d h) : ObjOk Pr w H h a (ExcX a cls d) := by
  obtain ⟨oe, vs, e, z⟩ := x
  exact ⟨⟨oe, vs, e, z⟩, ⟨_, e⟩, fun h1 h2 p k => let ⟨oe, vs, e, z⟩ := p; ⟨oe, vs, k _ e, z⟩⟩
section
variable {X : Cx} {pins : List (Addr × Obj)} {σ : L2.St} {H : Hp} {s : Shared}
/-- an object that came within this def, untracked until now, is tracked -/
theorem inv_track {a : Addr} {oe : Obj} {φ : Heap → Prop} (I : Inv X ((a, oe) :: pins) σ H s) (h0 : X.s_0.heap.get? a = none) (hp : ∀ p ∈ X.pn ++ pins, p.1 ≠ a) (new : ObjOk X.prog X.w (upd H a (.ext φ)) s.heap a (.ext φ)) : Inv X pins σ (upd H a (.ext φ)) s := by
  obtain ⟨ea, na, nL, nF, nc⟩ := I.pin (a, oe) (List.mem_append_right _ List.mem_cons_self)
  have ne : ∀ {b : Addr}, b ≠ a → upd H a (.ext φ) b = H b := fun h => upd_ne h
  have nH : ∀ {b : Addr} {u : HO}, H b = some u → b ≠ a := fun {b u} e z => by rw [z, show H a = none from na] at e; cases e
  have n0 : ∀ {b : Addr} {o : Obj}, X.s_0.heap.get? b = some o → b ≠ a := fun {b o} e z => by rw [z, h0] at e; cases e
  refine ⟨I.ok, I.os, I.bare, ⟨I.base.keep, I.base.slot, fun b o e n hx => ?_, I.base.there, fun b xs e => ?_, fun b o u e => ?_, fun b ps e => ?_⟩, I.loc, I.cell, ?_, fun x c e => ?_, fun p hp' => ?_, fun b u e => ?_, I.len⟩
  · rw [ne (n0 e)]; exact I.base.free b o e n hx
  · have q := I.base.tups b xs e; rw [ne (nH q)]; exact q
  · have q := I.base.frzs b o u e; rw [ne (nH q)]; exact q
  · obtain ⟨more, q⟩ := I.base.tbls b ps e; exact ⟨more, by rw [ne (nH q)]; exact q⟩
  · rw [ne fun z => nL z.symm]; exact I.free
  · have hc : c ≠ a := fun z => by
      obtain ⟨v, o, e1, e2⟩ := I.cell x c e
      rw [z] at e1
      have e3 : some o = some oe := e1.symm.trans ea
      cases e3
      exact nc _ e2
    rw [ne hc]; exact I.freeC x c e
  · have hpa := hp p hp'
    obtain ⟨q1, q2, q3⟩ := I.pin p ((List.mem_append.mp hp').elim (fun z => List.mem_append_left _ z) fun z => List.mem_append_right _ (List.mem_cons_of_mem _ z))
    exact ⟨q1, by rw [ne hpa]; exact q2, q3⟩
  · by_cases hb : b = a
    · subst hb
      rw [upd_same] at e
      cases e
      exact new
    · rw [ne hb] at e
      exact (I.hok b u e).stay (fun c v _ q => q) (fun c q => by rw [ne (nH q)]; exact q) fun c xs q => by rw [ne (nH q)]; exact q
end
/-- what 'except x as n' wishes, the exception tracked behind it -/
def wKeep (K : PySem.W.Frag) (c : Value) (i : Nat) (ts : Addr → Value → Option Addr → TS) (Wout : WX) (D : Ends) : WX := fun cls d σ H =>
  ∃ b, PySem.W.exmOne K cls c = some b ∧ (b = true → ∀ a, H a = none → ts a cls d { nx := fun σ' H' => D.nx (σ'.set i none) (upd H' a (ExcX a cls d)), rt := fun _ _ => False, bk := fun _ _ => False, ct := fun _ _ => False } (σ.set i (some (.ref a))) H) ∧ (b = false → Wout cls d σ H)
section
variable {X : Cx} {x n : Str} {c : Value} {i : Nat} {body suite : List Stmt} {b₀ : Stmt} {np pos pos' : Pos} {tb : WX → TS} {ts : Addr → Value → Option Addr → TS} {Wout : WX}
theorem ps_try_keep (hs : X.stack = X.env :: X.outer) (hf : X.env.frame = some X.env.locals) (hex : X.ex = []) (hN : X.N.Nodup) (hi : X.N[i]? = some n) (hln : X.env.kindOf n = some .local) (hc : Names X x c) (tk : Takes X Wout)
    (hb : ∀ (W : WX) (pn : List (Addr × Obj)) (xe : Value → Shared → Prop), Takes (X.tr pn xe) W → PassesOwn (model X.prog X.w) X.A X.env xe → PSs (X.tr pn xe) body (tb W))
    (hsu : ∀ (a : Addr) (oe : Obj) (cls : Value) (d : Option Addr) (pn : List (Addr × Obj)), Zc cls d oe → (∃ vs, oe.data = .fields vs) → PSs (X.suite a ((a, oe) :: pn)) (b₀ :: suite) (ts a cls d)) :
    PS X (.Try body [.ExceptHandler (some (.Name x np)) (some n) (b₀ :: suite) pos'] [] [] pos) (fun D σ H => tb (wKeep X.K c i ts Wout D) D σ H) := by
  refine ⟨fun pins s σ H D I h => ?_⟩
  have ok := I.ok
  have hfr : X.A.frames = some (X.env :: X.outer) := by rw [ok.frames, hs]
  have hloc : Loc X.env.scope n := .inl hln
  refine wpAny_Try_except (wpAny_mono ((hb (wKeep X.K c i ts Wout D) (X.pn ++ pins) (fun e s₁ => wpAny (model X.prog X.w) X.A (noteFrame e X.env) (fun _ s₂ => wpAny (model X.prog X.w) X.A (setFlight e none) (fun _ s₃ =>
    wpAny (model X.prog X.w) X.A (handleBy e X.env [.ExceptHandler (some (.Name x np)) (some n) (b₀ :: suite) pos']) (SP X pins D) X.xe s₃) X.xe s₂) X.xe s₁) (fun u s' xx => ?_) PassesOwn.looking).run [] s σ H D (I.toTry _) h) (fun f s1 hsp => ?_) (fun e s1 he => he))
  · obtain ⟨a, B, sI, pins', σ', H', cls, d, rfl, J', nb, up, sky, na, os, ag, b, hb1, hyes, hno⟩ := xx
    have J : Inv X pins σ' H' sI := J'.ofTry ok
    have sky' : Sky B (X.env :: X.outer) a (Zc cls d) X.env.locals s'.heap := by rw [← hs]; exact sky
    show wpAny (model X.prog X.w) X.A (noteFrame (.ref a) X.env) _ _ (s' : Shared)
    refine Sky.land Zc.steady hfr hf sky' fun h3 fl3 up3 => ?_
    have J3 : Inv X pins σ' H' { s' with heap := h3 } := J.landed nb fl3.1 (up.trans up3) os ag
    obtain ⟨oe3, vs3, he3, hz3, hd3⟩ := fl3.there
    have nfr : a ∉ frs (X.env :: X.outer) := fun hm => by
      obtain ⟨_, o', e', hnf⟩ := fl3.2.2.1.mem hm
      rw [he3] at e'; cases e'
      exact hnf _ hd3
    have nL : a ≠ X.env.locals := fun z => nfr (List.mem_filterMap.mpr ⟨X.env, List.mem_cons_self, by rw [hf, z]⟩)
    have nF : a ∉ X.fs := fun hm => by
      obtain ⟨e, he, q⟩ := List.mem_filterMap.mp hm
      exact nfr (List.mem_filterMap.mpr ⟨e, List.mem_cons_of_mem _ he, q⟩)
    have hBa : B.get? a = none := fl3.2.1
    have hI : sI.heap.get? a = none := by
      cases q : sI.heap.get? a with
      | none => rfl
      | some o => rw [nb a o q (by rw [hs]; exact nfr)] at hBa; cases hBa
    have h00 : X.s_0.heap.get? a = none := by
      cases q : X.s_0.heap.get? a with
      | none => rfl
      | some o =>
        obtain ⟨o', e'⟩ := J.base.there a o q (by rw [hex]; simp)
        rw [hI] at e'; cases e'
    have hpa : ∀ p ∈ X.pn ++ pins, p.1 ≠ a := fun p hp z => by
      have e := (J.pin p hp).1
      rw [z, hI] at e; cases e
    have S3 := J3.suite he3 hd3 na nL nF
    refine wpAny_handleBy_cons (codeAny_handlers_test ?_) (by intro q; cases q)
    have LT : PySem.W.Looks (model X.prog X.w) h3 (typeOf (.ref a)) cls := fun A Q E s k q => wpAny_typeOf_ref (k _ _ he3) (by rw [hz3.1]; exact q)
    have LM := PySem.W.exm_one (M := model X.prog X.w) (J3.kIn) LT hb1
    have test : ∀ {Q : Value → Shared → Prop} {E : Value → Shared → Prop}, Q c { s' with heap := h3 } → wpAny (model X.prog X.w) (X.A.mark (some (.ref a))) (eval (.Name x np) X.env) Q E { s' with heap := h3 } := fun {Q E} q => by
      obtain ⟨hg, hdbg, hm | ⟨hm, hv, hnn⟩⟩ := hc
      · exact ld_glob (X := X.suite a ((a, oe3) :: (X.pn ++ pins))) S3 hg hm q hdbg
      · exact ld_blt (X := X.suite a ((a, oe3) :: (X.pn ++ pins))) S3 hg hm hv q hnn hdbg
    refine test (LM.here ?_)
    cases b with
    | true =>
      refine codeAny_handlers_suite_as (HandSPX.lands_againZ fl3 fun h4 fl4 up4 => ?_)
      have J4 : Inv X pins σ' H' { s' with heap := h4 } := J.landed nb fl4.1 ((up.trans up3).trans up4) os ag
      obtain ⟨oe4, vs4, he4, hz4, hd4⟩ := fl4.there
      have S4 := J4.suite he4 hd4 na nL nF
      refine store_ok (X := X.suite a ((a, oe4) :: (X.pn ++ pins))) (v := .ref a) S4 hN hi hloc rfl (fun s5 S5 => ?_) (.inr hln)
      refine wpAny_mono ((hsu a oe4 cls d (X.pn ++ pins) hz4 ⟨_, hd4⟩).run [] s5 _ H' _ S5 (hyes rfl a na)) (fun f s6 hsp => ?_) (fun _ _ z => False.elim z)
      cases f with
      | next =>
        obtain ⟨σ6, H6, S6, q6⟩ := hsp
        have P6 := S6.pin (a, oe4) (by rw [List.append_nil]; exact List.mem_cons_self)
        have J6 : Inv X ((a, oe4) :: pins) σ6 H6 s6 := (S6.unsuite ok).pins_of fun p hp => (List.mem_cons.mp hp).elim (fun z => by rw [z]; exact P6) fun z => (S6.unsuite ok).pin p (List.mem_append_right _ z)
        refine gone_ok J6 hN hi hln fun s7 J7 => ?_
        have P7 := J7.pin (a, oe4) (List.mem_append_right _ List.mem_cons_self)
        exact ⟨_, _, inv_track J7 h00 hpa (excX_ok ⟨oe4, vs4, P7.1, hz4, hd4⟩), q6⟩
      | brk => obtain ⟨_, _, _, q6⟩ := hsp; exact q6.elim
      | cont => obtain ⟨_, _, _, q6⟩ := hsp; exact q6.elim
      | ret u => obtain ⟨_, _, _, _, _, q6⟩ := hsp; exact q6.elim
    | false =>
      show wpAny _ X.A (handleBy (.ref a) X.env []) _ _ _
      refine wpAny_handleBy_nil ?_
      obtain ⟨k1, k2, k3, oe, vs, T, oT, ts', he, hz, hd, h1, hr⟩ := id fl3
      unfold PySem.passOn
      refine wpAny_bind (wpAny_field he hd h1 ?_)
      rw [if_neg (show ¬ ((Value.ref T == Value.none) = true) from by simp)]
      have fin : wpAny (model X.prog X.w) X.A (setFlight (.ref a) X.env.frame) (fun _ s4 => wpAny (model X.prog X.w) X.A (throw (.ref a) : Sem Flow) (SP X pins D) X.xe s4) X.xe { s' with heap := h3 } := by
        rw [hf]
        refine HandSPX.setFlight_upZ fl3 fun h4 hh4 up4 => wpAny_throw (tk _ _ ?_)
        exact ⟨a, B, sI, pins, σ', H', cls, d, rfl, J, nb, (up.trans up3).trans up4, .inr (.inr (by rw [hs]; exact hh4)), na, os, ag, hno rfl⟩
      first
        | exact wpAny_bind (wpAny_pure (wpAny_bind fin))
        | exact wpAny_bind fin
  · cases f with
    | next => obtain ⟨σ', H', J', q⟩ := hsp; exact wpAny_execs_nil ⟨σ', H', J'.ofTry ok, q⟩
    | brk => obtain ⟨σ', H', J', q⟩ := hsp; exact ⟨σ', H', J'.ofTry ok, q⟩
    | cont => obtain ⟨σ', H', J', q⟩ := hsp; exact ⟨σ', H', J'.ofTry ok, q⟩
    | ret u => obtain ⟨v, σ', H', J', r, q⟩ := hsp; exact ⟨v, σ', H', J'.ofTry ok, r, q⟩
/-- isinstance(e, c), e an exception that was kept -/
def rIsX (K : PySem.W.Frag) : List V → Hp → VK → Prop := fun xs H Q => ∃ (a D : Addr) (c : V) (cv : Value) (b : Bool), xs = [.ref a, c] ∧ H a = some (ExcX a (.ref D) none) ∧ ExcC K D ∧ (∀ u, RelV c u → u = cv) ∧ PySem.W.kitOne K (.ref D) cv = some b ∧ Q (.bl b) H
theorem call_isX {X : Cx} : CallR X (.builtin "isinstance") (rIsX X.K) := by
  intro pins s σ H xs us Q I r h
  obtain ⟨a, D, c, cv, b, rfl, ha, C, hcv, e, q⟩ := h
  cases r with
  | cons rx rr =>
    cases rr with
    | cons rt rr =>
      cases rr
      cases rx
      obtain rfl := hcv _ rt
      obtain ⟨⟨oe, vs, hget, hz, hv⟩, _⟩ := I.hok a _ ha
      have J : PySem.W.InstAt s.heap a oe D none := by
        obtain ⟨oc, od, oda, osl⟩ := oe
        obtain ⟨h1, h2⟩ := hz
        dsimp only at h1 h2 hv
        subst h1 h2 hv
        exact ⟨hget, rfl, rfl, trivial⟩
      exact PySem.W.kia_one (PySem.W.handS_kitx_exc C.hg C.hk C.hs C.hd C.ha C.hn C.ht C.hm) I.kIn J e (fun z => nomatch z) fun tk => ⟨.bl b, H, I.kept (t' := tk) fun _ _ z => z, rfl, q⟩
end
end Hid

namespace Hid
open PySem PySem.Spec PyProof.Rows L2
/-- C(e, ..), C an own exception class whose __init__ is a def of the text (its own or one above it) and lays no field -/
def tMk0 (C : Addr) (sp : Sp) (dvs : List V) (ta : TA) : L2.St → Hp → XK → Prop := fun σ H Q => ta σ H fun vs H1 => vs.length ≤ 1000 ∧ ∀ a, H1 a = none → sp (.ref a :: (vs ++ dvs)) (upd H1 a (exo a C none)) (fun v H2 => v = .non ∧ H2 a = some (exo a C none) ∧ Q (.ref C) none (del H2 a)) (fun _ _ _ => False)
section
variable {X : Cx} {e : Expr} {es : List Expr} {ta : TA} {p pos : Pos}
theorem mk_none {pins : List (Addr × Obj)} {σ : L2.St} {H1 H2 : Hp} {Q : XK} {hp hp2 h2 : Heap} {g1 g2 : Array GenState} {d1 d2 : Drawn} {t1 t2 : Nat} {os1 os2 : OsState} {a C : Addr} (T : Raises X (.ref C)) (I1 : Inv X pins σ H1 ⟨hp, g1, d1, t1, os1⟩)
    (ha : hp.objs.size ≤ a) (k : ∀ b o, hp.get? b = some o → hp2.get? b = some o) (un : Un (frs X.stack) [] (upd H1 a (exo a C none)) H2 hp2 h2) (hok : HOk X.prog X.w H2 h2) (ho : os2 = os1) (hb : AllBare g2)
    (ea : H2 a = some (exo a C none)) (q : Q (.ref C) none (del H2 a)) : MkP X pins σ Q (.ref a) ⟨h2, g2, d2, t2, os2⟩ := by
  obtain ⟨t0, hoe⟩ := exo_at hok ea
  have hn : H1 a = none := I1.hok.fresh ha
  obtain ⟨G, gIn, gOut⟩ := restrict h2 fun b => decide (b ≠ a)
  have gk : ∀ b, b ≠ a → G.get? b = h2.get? b := fun b hb => gIn b (decide_eq_true hb)
  have ge : G.get? a = none := gOut a (by simp)
  have nh : ∀ {b : Addr} {o : Obj}, hp.get? b = some o → b ≠ a := fun {b o} z => Nat.ne_of_lt (Nat.lt_of_lt_of_le (Heap.lt_size z) ha)
  have up : ∀ {b : Addr}, b ≠ a → H1 b = none → upd H1 a (exo a C none) b = none := fun {b} hb n => (upd_ne hb).trans n
  have U : Un (frs X.stack) [] H1 (del H2 a) hp G := by
    refine ⟨fun b o z n hf hx => ?_, fun b o z n hf hx => ?_, fun b o z n hx => ?_, fun b o z hx => ?_, fun b xs z => ?_, fun b o v z => ?_, fun b ps z => ?_⟩
    · exact (gk b (nh z)).trans (un.keep b o (k b o z) (up (nh z) n) hf hx)
    · obtain ⟨sl, w⟩ := un.slot b o (k b o z) (up (nh z) n) hf hx
      exact ⟨sl, (gk b (nh z)).trans w⟩
    · exact (del_ne (nh z)).trans (un.free b o (k b o z) (up (nh z) n) hx)
    · obtain ⟨o', w⟩ := un.there b o (k b o z) hx
      exact ⟨o', (gk b (nh z)).trans w⟩
    · exact (del_ne (ne_of_none z hn)).trans (un.tups b xs ((upd_ne (ne_of_none z hn)).trans z))
    · exact (del_ne (ne_of_none z hn)).trans (un.frzs b o v ((upd_ne (ne_of_none z hn)).trans z))
    · obtain ⟨more, w⟩ := un.tbls b ps ((upd_ne (ne_of_none z hn)).trans z)
      exact ⟨more, (del_ne (ne_of_none z hn)).trans w⟩
  have hok3 : HOk X.prog X.w (del H2 a) G := fun b o z => by
    have hba : b ≠ a := fun e => by rw [e, del_same] at z; cases z
    rw [del_ne hba] at z
    have noa : ∀ {c : Addr}, H2 c = some (.own b) → c ≠ a := fun {c} hc => at_ne ea hc exo_own
    refine (hok b o z).stay (fun c v hc y => ?_) (fun c hc => (del_ne (noa hc)).trans hc) fun c xs hc => (del_ne (at_ne ea hc exo_tup)).trans hc
    refine (gk c ?_).trans y
    rcases hc with hc | hc
    · rw [hc]; exact hba
    · exact noa hc
  have J : Inv X pins σ (del H2 a) ⟨G, g2, d2, t2, os2⟩ := I1.call' (ch := []) ho U hok3 hb fun b z => nomatch z
  refine ⟨a, _, _, ⟨G, g2, d2, t2, os2⟩, _, .ref C, none, rfl, J, fun b o z => ?_, ge, hoe, ⟨rfl, rfl⟩, rfl, rfl, del_same, rfl, hb, T, q⟩
  by_cases hba : b = a
  · rw [hba, ge] at z; cases z
  · exact (gk b hba).symm.trans z
theorem pmk_none {CX : CXT} {x : Str} {C fI : Addr} {k : Nat} {fd : FuncData} {ps : List Str} {sp : Sp} {ds : List Value} {dvs : List V} (T : OexC X.K C) (iC : PySem.W.findIn X.K (.ref C) "__init__" = some (some (.ref fI))) (tI : PySem.W.typeIn X.K (.ref fI) = some (.type "function"))
    (F1 : FnOk X.prog X.w X.K X.mg X.base CX k fI fd ps sp) (hr : Room (k + 1) X.A) (hb : Binds X.K fd ps ds) (hd : Vals dvs ds) (hx : Passes CX X (fun _ _ _ => False)) (hg : Gl X x) (hm : X.mg x = some (.ref C)) (ha : PA X (e :: es) ta)
    (hdb : (x == ("__debug__" : Str)) = false := by decide) (he : starEach (e :: es) X.env = (false, eval e X.env) :: starEach es X.env := by rfl) (hpl : (backTo pos (starEach es X.env)).any (·.1) = false := by rfl) :
    PMk X (.Call (.Name x p) (e :: es) [] pos) (tMk0 C sp dvs ta) := by
  intro pins s σ H Q I h
  obtain ⟨nm, q, N, bs, bm, sn, sub, ab, col, dd, k0, k1, k2, k3, k5, hC, hbm⟩ := T.cls
  refine wpAny_Call_Name_kw (ld_glob I hg hm (PySem.W.callWith_K (h₀ := X.base) I.ok.mod.kin T.kC (thn (ha.run pos pins s σ H _ I h) fun us s1 ⟨vs, H1, I1, r1, hz, q1⟩ => ⟨I1.kIn, ?_⟩) he hpl) hdb)
  show wpAny _ _ (call (.ref C) us) _ _ s1
  obtain ⟨hp, g, dr, tk, os⟩ := s1
  have hsz : hp.objs.size ≤ hp.objs.size + 1 := Nat.le_succ _
  have hq := q1 (hp.objs.size + 1) (I1.hok.fresh hsz)
  have kk : ∀ b o, hp.get? b = some o → ((hp.push (PySem.W.kdv_tup us)).push (PySem.HandSPX.excO C hp.objs.size)).get? b = some o := fun b o e => Heap.get?_push_of_some _ (Heap.get?_push_of_some _ e)
  have hget : ((hp.push (PySem.W.kdv_tup us)).push (PySem.HandSPX.excO C hp.objs.size)).get? (hp.objs.size + 1) = some (PySem.HandSPX.excO C hp.objs.size) := by heap_get
  have I2 : Inv X pins σ (upd H1 (hp.objs.size + 1) (exo (hp.objs.size + 1) C none)) ⟨(hp.push (PySem.W.kdv_tup us)).push (PySem.HandSPX.excO C hp.objs.size), g, dr, tk, os⟩ := I1.laid (t' := tk) (o := exo (hp.objs.size + 1) C none) kk hsz (exo_ok hget)
  have r2 : Vals (V.ref (hp.objs.size + 1) :: (vs ++ dvs)) (Value.ref (hp.objs.size + 1) :: (us ++ ds)) := .cons rfl (r1.append hd)
  have hl : (Value.ref (hp.objs.size + 1) :: us ++ ds).length = ps.length := by
    have e := r2.length
    rw [F1.len _ _ _ _ hq] at e; exact e.symm
  have hus : us.length ≤ sizeLine := by rw [← Paired.length r1, sizeLine_eq]; omega
  refine wpAny_call (PySem.HandSPX.call_own F.excBase_ValueError (fun Y => PySem.HandSPX.refsVE_contains Y bm hbm) (I1.kIn _ _ hC) (PySem.W.looks_findIn I1.kIn iC) (fun self => PySem.W.bind_fn I1.kIn self tI) hus
    (codeAny_mono (F1.run _ X.stack _ _ ⟨Value.ref (hp.objs.size + 1) :: us, []⟩ (Value.ref (hp.objs.size + 1) :: (us ++ ds)) _ _ (fun _ _ _ => False) (hr.make C us []) (I2.env0.make C us []) (hb _ (Value.ref (hp.objs.size + 1) :: us) I2.kIn hl) r2 hq) fun r s' hq' => ?_))
  cases r with
  | error er => exact hx pins σ _ _ er s' I2 hq'
  | ok fl =>
    cases fl with
    | ret u =>
      obtain ⟨v, H2, os2, bare2, un2, hok2, rv, ev, ea, q2⟩ := hq'
      subst ev
      obtain ⟨h2, g2, d2, t2, os'⟩ := s'
      exact ⟨rv, mk_none (raises_own T.exC T.tyC) I1 hsz kk un2 hok2 os2 bare2 ea q2⟩
    | next => exact False.elim hq'
    | brk => exact False.elim hq'
    | cont => exact False.elim hq'
end
end Hid

namespace Hid
open PySem PySem.Spec PyProof.Rows L2 Evl
/-- what the written part says of a class of refusals without a field -/
structure ErrC (K : PySem.W.Frag) (mg : Str → Option Value) (x : Str) (C fI : Addr) : Prop where
  oex : OexC K C
  ini : PySem.W.findIn K (.ref C) "__init__" = some (some (.ref fI))
  glob : mg x = some (.ref C)
  exc : ExcC K C
def sp_hinit (K : PySem.W.Frag) : Sp := fun vs H Q _ => ∃ (a C : Addr) (y : V), vs = [.ref a, y] ∧ OexC K C ∧ H a = some (exo a C none) ∧ Q .non H
/-- the base's __init__ -/
def HIn (P : Program) (w : World) (K : PySem.W.Frag) (mg : Str → Option Value) (base : Heap) (fI : Addr) (fd : FuncData) : Prop :=
  Binds K fd ["self", "why"] [] ∧ PySem.W.typeIn K (.ref fI) = some (.type "function") ∧ FnOk P w K mg base CX0 1 fI fd ["self", "why"] (sp_hinit K)
/-- a def that may raise, and what it promises -/
def AtX (P : Program) (w : World) (K : PySem.W.Frag) (mg : Str → Option Value) (base : Heap) (x : Str) (st : Stmt) (n : Nat) (ps : List Str) (sp : Sp) : Prop :=
  ∃ (f : Addr) (fd : FuncData), Fun K x x st f fd ∧ Binds K fd ps [] ∧ mg x = some (.ref f) ∧ FnOk P w K mg base (L2.CX P w) n f fd ps sp
section
variable {K : PySem.W.Frag} {σ : L2.St} {H : Hp} {ta tb tc : TE}
theorem ev_isX {a D : Addr} {c : V} {cv : Value} {b : Bool} (ha : Ev ta σ H (.ref a)) (hc : Ev tc σ H c) (hx : H a = some (ExcX a (.ref D) none)) (C : ExcC K D) (hcv : ∀ u, RelV c u → u = cv) (e : PySem.W.kitOne K (.ref D) cv = some b) : Ev (tCB (rIsX K) (tCons ta (tCons tc tNil))) σ H (.bl b) := fun H1 e1 Q q =>
  ha H1 e1 _ fun H2 e2 => hc H2 (e1.trans e2) _ fun H3 e3 => ⟨a, D, c, cv, b, rfl, e3 _ _ (e2 _ _ (e1 _ _ hx)), C, hcv, e, q H3 (e2.trans e3)⟩
theorem ev_isXr {a D C' : Addr} {b : Bool} (ha : Ev ta σ H (.ref a)) (hx : H a = some (ExcX a (.ref D) none)) (C : ExcC K D) (e : PySem.W.kitOne K (.ref D) (.ref C') = some b) : Ev (tCB (rIsX K) (tCons ta (tCons (tC (.ref C')) tNil))) σ H (.bl b) := ev_isX ha ev_c hx C (fun u r => r) e
theorem ev_isXt {a D : Addr} {n : String} {b : Bool} (ha : Ev ta σ H (.ref a)) (hx : H a = some (ExcX a (.ref D) none)) (C : ExcC K D) (e : PySem.W.kitOne K (.ref D) (.type n) = some b) : Ev (tCB (rIsX K) (tCons ta (tCons (tC (.ty n)) tNil))) σ H (.bl b) := ev_isX ha ev_c hx C (fun u r => r) e
theorem el_catV {l : Addr} {xs ys : List V} (ha : Ev ta σ H (.ref l)) (hx : H l = some (.lst xs)) (hb : EvL tb σ H ys) (hl : xs.length + ys.length ≤ 100000) : EvL (tOp rCat ta tb) σ H (xs ++ ys) := fun H1 e Q q =>
  ha H1 e _ fun H2 e2 => hb H2 (e.trans e2) _ fun p' H3 hp' e3 h3 => ⟨l, p', xs, ys, rfl, rfl, e3 _ _ (e2 _ _ (e _ _ hx)), h3, sz_of hl, fun r hr => q r _ (fresh_back (e2.trans e3) hr) ((e2.trans e3).trans (Ex.new hr)) upd_same⟩
end
theorem bools_dp {K : PySem.W.Frag} {H : Hp} : ∀ ns : List Bool, DpAll K H (ns.map V.bl) (ns.map PyData.bool)
  | [] => .nil
  | n :: ns => .cons (.bl n) (bools_dp ns)
theorem shaped_bools (ns : List Bool) : SeqAt.shaped (.list (ns.map PyData.bool)) = true := by
  have h1 : ∀ ns : List Bool, PyData.canLayAll0 (ns.map PyData.bool) = true := by
    intro ns
    induction ns with
    | nil => rfl
    | cons n ns ih => show (PyData.canLay0 (.bool n) && PyData.canLayAll0 (ns.map PyData.bool)) = true; rw [ih]; rfl
  have h2 : ∀ ns : List Bool, PyData.depthAll (ns.map PyData.bool) ≤ 2 := by
    intro ns
    induction ns with
    | nil => exact Nat.zero_le _
    | cons n ns ih =>
      show max (PyData.depth (.bool n)) (PyData.depthAll (ns.map PyData.bool)) ≤ 2
      have : PyData.depth (.bool n) ≤ 2 := by simp [PyData.depth]
      omega
  unfold SeqAt.shaped
  rw [Bool.and_eq_true]
  refine ⟨h1 ns, decide_eq_true ?_⟩
  have := h2 ns
  simp only [PyData.depth]
  omega
theorem eqv_bools (D : List Bool) : PyData.eqv (.list (D.map PyData.bool)) (.list (D.map PyData.bool)) = true := by
  have h : ∀ D : List Bool, PySem.W.alikeAll (D.map PyData.bool) (D.map PyData.bool) = true := by
    intro D
    induction D with
    | nil => simp [PySem.W.alikeAll]
    | cons x D ih => simpa [PySem.W.alikeAll, PySem.W.alike] using ih
  exact PySem.W.eqv_refl_alike _ (by simpa [PySem.W.alike] using h D)
end Hid

namespace Hid
open PySem PySem.Spec PyProof.Rows L2 Evl
/-! refusals with one field: the class's own __init__ calls the base's and lays the field -/
/-- __init__ of a class whose one argument becomes the field f -/
def sp_finit (K : PySem.W.Frag) (f : Str) : Sp := fun vs H Q _ => ∃ (a C : Addr) (y : V), vs = [.ref a, y] ∧ OexC K C ∧ PySem.W.findIn K (.ref C) f = some none ∧ H a = some (exo a C none) ∧
  ∀ (d : Addr) (H2 : Hp), H d = none → d ≠ a → H2 = upd (upd H d (exd d [(f, y)])) a (exo a C (some d)) → Q .non H2
structure ErrF (P : Program) (w : World) (K : PySem.W.Frag) (mg : Str → Option Value) (base : Heap) (x f : Str) (C fX : Addr) (fdX : FuncData) : Prop where
  oex : OexC K C
  ini : PySem.W.findIn K (.ref C) "__init__" = some (some (.ref fX))
  glob : mg x = some (.ref C)
  ty : PySem.W.typeIn K (.ref fX) = some (.type "function")
  fn : FnOk P w K mg base CX0 2 fX fdX ["self", f] (sp_finit K f)
  bn : Binds K fdX ["self", f] []
  nof : PySem.W.findIn K (.ref C) f = some none
section
variable {K : PySem.W.Frag} {σ : L2.St} {H : Hp} {te : TE}
theorem mk_fld {C : Addr} {f : Str} {y : V} {Q : XK} (hO : OexC K C) (hf : PySem.W.findIn K (.ref C) f = some none) (h : Ev te σ H y)
    (q : ∀ (d : Addr) (H2 : Hp), H d = none → Ex H H2 → H2 d = some (.xd [(f, y)]) → Q (.ref C) (some d) H2) : tMkO C (sp_finit K f) [] (tCons te tNil) σ H Q := h H (Ex.refl H) _ fun H1 e1 =>
  ⟨by show 1 ≤ 1000; decide, fun a na => ⟨a, C, y, rfl, hO, hf, upd_same, fun d H2 hd hda e2 => by
    subst e2
    have hd1 : H1 d = none := by rw [upd_ne hda] at hd; exact hd
    refine ⟨rfl, d, [(f, y)], upd_same, by rw [upd_ne hda]; exact upd_same, hd1, q d _ (fresh_back e1 hd1) ?_ upd_same⟩
    intro b o hb
    have hb1 := e1 _ _ hb
    have hbd : b ≠ d := fun z => by rw [z, hd1] at hb1; cases hb1
    have hba : b ≠ a := fun z => by rw [z, na] at hb1; cases hb1
    rw [upd_ne hbd, del_ne hba, upd_ne hba, upd_ne hbd, upd_ne hba]
    exact hb1⟩⟩
/-- the field read in the suite that holds the refusal -/
theorem ev_fld {a d C : Addr} {f : Str} {y : V} (h : Ev te σ H (.ref a)) (hd : H d = some (.xd [(f, y)])) : Ev (tXf a (.ref C) (some d) C f te) σ H y := fun H1 e Q q =>
  h H1 e _ fun H2 e2 => ⟨rfl, rfl, d, _, y, rfl, e2 _ _ (e _ _ hd), by simp [List.lookup], q H2 e2⟩
end
end Hid

namespace Hid
open PySem PySem.Spec PyProof.Rows L2 Evl
theorem name_wr {z : List Nat} (h : NameL z) : wr (some z) az = true := by
  unfold wr
  rw [Bool.and_eq_true]
  refine ⟨decide_eq_true h.1, List.all_eq_true.mpr fun c hc => decide_eq_true ?_⟩
  obtain ⟨a, b⟩ := h.2 c hc
  unfold az
  simp
  omega
theorem putAll_nd : ∀ {l : List Str}, l.Nodup → (putAll [] l).length = l.length := by
  have : ∀ (l acc : List Str), l.Nodup → (∀ x ∈ l, x ∉ acc) → (putAll acc l).length = acc.length + l.length := by
    intro l
    induction l with
    | nil => intro acc _ _; rfl
    | cons x l ih =>
      intro acc nd h
      obtain ⟨n1, n2⟩ := List.nodup_cons.mp nd
      show (putAll (putT x acc) l).length = _
      have e : putT x acc = x :: acc := if_neg (h x List.mem_cons_self)
      rw [e, ih (x :: acc) n2 fun y hy hm => ?_, List.length_cons, List.length_cons]
      · omega
      · rcases List.mem_cons.mp hm with z | z
        · exact n1 (z ▸ hy)
        · exact h y (List.mem_cons_of_mem _ hy) z
  intro l nd
  have := this l [] nd (fun _ _ z => nomatch z)
  rw [this, List.length_nil, Nat.zero_add]
theorem val_none {kvs : List (Key × V)} {ks : List (List Nat × List Nat)} {z : Str} (h : kvs.map (·.1) = ks.map fun p => (.inr (tx p.1) : Key)) (hn : ∀ p ∈ ks, tx p.1 ≠ z) : valV kvs (.inr z) = none := by
  unfold valV
  rw [List.find?_eq_none.mpr, Option.map_none]
  intro kv hkv
  have hm : kv.1 ∈ ks.map fun p => (.inr (tx p.1) : Key) := by rw [← h]; exact List.mem_map.mpr ⟨kv, hkv, rfl⟩
  obtain ⟨p, hp, e⟩ := List.mem_map.mp hm
  rw [← e]
  intro z2
  exact hn p hp (Sum.inr.inj (of_decide_eq_true z2))
theorem prs_upd {K : PySem.W.Frag} {H : Hp} {vs : List V} {ps : List (List Nat × List Nat)} {D : Addr} {o : HO} (hD : ∀ t xs, H t = some (.tup xs) → t ≠ D) (h : Prs K H vs ps) : Prs K (upd H D o) vs ps := paired_mono (fun v p ⟨t, a, c⟩ => ⟨t, a, by rw [upd_ne (hD t _ c)]; exact c⟩) h
section
variable {K : PySem.W.Frag} {σ : L2.St} {H : Hp} {ta tb te tl : TE}
theorem ev_din {d : Addr} {y : V} {o : Option V} (ha : Ev ta σ H y) (hb : Ev tb σ H (.ref d)) (h : ∀ G, Ex H G → DGet G d y o) : Ev (tDIn ta tb) σ H (.bl o.isSome) := fun H1 e Q q =>
  ha H1 e _ fun H2 e2 => hb H2 (e.trans e2) _ fun H3 e3 => ⟨d, o, rfl, h H3 (e.trans (e2.trans e3)), q H3 (e2.trans e3)⟩
theorem el_isL {xs ys : List V} (h : EvL ta σ H xs) (e : xs = ys) : EvL ta σ H ys := e ▸ h
theorem el_sortLS {xs : List Str} (h : EvL tl σ H (xs.map V.str)) : EvL (tCB (rSortLS K) (tCons tl tNil)) σ H ((srt xs).map V.str) := fun H1 e Q q =>
  h H1 e _ fun p H2 np e2 h2 => ⟨p, xs, rfl, sq_of h2, fun p2 np2 => q p2 _ (fresh_back e2 np2) (e2.trans (Ex.new np2)) upd_same⟩
theorem ev_dget {d : Addr} {y v : V} (ha : Ev ta σ H (.ref d)) (hb : Ev tb σ H y) (h : ∀ G, Ex H G → DGet G d y (some v)) : Ev (tDGet ta tb) σ H v := fun H1 e Q q =>
  ha H1 e _ fun H2 e2 => hb H2 (e.trans e2) _ fun H3 e3 => ⟨d, v, rfl, h H3 (e.trans (e2.trans e3)), q H3 (e2.trans e3)⟩
theorem el_lcPT {a : Addr} {xs : List V} {i j : Nat} {vs : List Nat} (v : Nat → V) (h : Ev tl σ H (.ref a)) (hx : SqT K H a xs) (hz : xs.length ≤ 40000)
    (hw : ∀ p q, wipe (((wipe σ vs).set i (some p)).set j (some q)) vs = wipe σ vs)
    (hp : ∀ n x, xs[n]? = some x → ∃ t p q, x = .ref t ∧ SqT K H t [p, q] ∧ Ev te (((wipe σ vs).set i (some p)).set j (some q)) H (v n)) :
    EvL (tLc (iTup K tl) (gTup K 2 (gCons (gName i) (gCons (gName j) gNil))) tYes te vs) σ H ((List.range xs.length).map v) := fun H0 e Q q => h H0 e _ fun H1 e1 => ⟨a, rfl, ⟨xs, ex_t (e.trans e1) hx⟩, fun Dl hD =>
  lc_it (walk_tup (xs := xs)) (Cw H1 (fun _ => true) v Dl) ⟨hD, Ex.new hD, upd_same⟩ (fun i H' _ p => ex_t ((e.trans e1).trans p.2.1) hx) (fun n x H' H'' hn p hY => by
      obtain ⟨rfl, hxn⟩ := hY
      obtain ⟨t, x1, x2, rfl, hT, hE⟩ := hp n x hxn
      exact ⟨t, [x1, x2], rfl, ex_t ((e.trans e1).trans p.2.1) hT, rfl, x1, [x2], rfl, x2, [], rfl, rfl, hw x1 x2, cw_turn (f := fun _ => true) p (by omega) et_yes fun _ => hE.mono (e.trans e1)⟩)
    (fun H' p => q Dl H' (fresh_back e1 p.1) (e1.trans p.2.1) (by rw [p.2.2, given_true]))⟩
theorem el_cat {xs ys : List V} (ha : EvL ta σ H xs) (hb : EvL tb σ H ys) (hl : xs.length + ys.length ≤ 100000) : EvL (tOp rCat ta tb) σ H (xs ++ ys) := fun H1 e Q q =>
  ha H1 e _ fun p H2 hp e2 h2 => hb H2 (e.trans e2) _ fun p' H3 hp' e3 h3 => ⟨p, p', xs, ys, rfl, rfl, e3 _ _ h2, h3, sz_of hl, fun r hr => q r _ (fresh_back (e2.trans e3) hr) ((e2.trans e3).trans (Ex.new hr)) upd_same⟩
theorem ev_joinS {ls : List (List Nat)} (c : Nat) (h : EvL te σ H (ls.map fun l => V.str (tx l))) (hz : ((ls.map tx).map (·.length)).sum + ls.length ≤ 100000) : Ev (tM1 (rJoin K) (tC (.str (sg1 c))) te) σ H (.str (tx (jn c ls))) := fun H1 e Q q =>
  ⟨⟨_, rfl⟩, h H1 e _ fun p H2 hp e2 h2 => ⟨sg1 c, p, ls.map tx, rfl, rfl, .inl (sq_of (by rw [List.map_map]; exact h2)), by
    rw [List.length_map]
    show _ + ls.length * 1 ≤ 16777216
    omega, by rw [join_jn]; exact q H2 e2⟩⟩
end
theorem ex_del {H : Hp} {a : Addr} {o : HO} (na : H a = none) : Ex H (del (upd H a o) a) := fun b u hb => by
  rw [del_ne (ne_of_none hb na), upd_ne (ne_of_none hb na)]; exact hb
/-- a text of any length, or no text -/
def TxO (K : PySem.W.Frag) (H : Hp) (v : V) : Option (List Nat) → Prop
  | some z => v = .str (tx z) ∧ z.length ≤ 50000 ∧ ∀ w ∈ spl 10 z, w.length ≤ 1000
  | none => NotS K H v
theorem TxO.ex {K : PySem.W.Frag} {H H' : Hp} {v : V} : ∀ {o : Option (List Nat)}, TxO K H v o → Ex H H' → TxO K H' v o
  | some _, h, _ => h
  | none, h, e => NotS.ex h e
def nrB (n : Nat) (ws : List (List Nat)) : Bool := match ws with
  | [a, b] => wr (some a) az && (wr (some b) nbyS && decide (b.length = n))
  | _ => false
theorem nrB_two {n : Nat} {ws : List (List Nat)} (h : nrB n ws = true) : ∃ a b, ws = [a, b] := by
  unfold nrB at h
  split at h
  · exact ⟨_, _, rfl⟩
  · cases h
theorem rwOf_nr {n : Nat} {l : List Nat} (h : nrB n (spl 32 l) = false) : rwOf n l = none := by
  by_cases h2 : (spl 32 l).length = 2
  · match hs : spl 32 l, h2 with
    | [a, b], _ =>
      rw [rwOf_two hs]
      rw [hs] at h
      rw [if_neg (by rw [show (wr (some a) az && (wr (some b) nbyS && decide (b.length = n))) = false from h]; decide)]
  · exact rwOf_no h2
theorem rwOf_yes {n : Nat} {l a b : List Nat} (hs : spl 32 l = [a, b]) (h : nrB n (spl 32 l) = true) : rwOf n l = some (a, b) ∧ wr (some a) az = true ∧ wr (some b) nbyS = true ∧ b.length = n := by
  rw [hs] at h
  have h : (wr (some a) az && (wr (some b) nbyS && decide (b.length = n))) = true := h
  refine ⟨by rw [rwOf_two hs, if_pos h], ?_⟩
  rw [Bool.and_eq_true, Bool.and_eq_true, decide_eq_true_iff] at h
  exact ⟨h.1, h.2.1, h.2.2⟩
theorem val_some {kvs : List (Key × V)} {ks : List (List Nat × List Nat)} {z : List Nat} (h : kvs.map (·.1) = ks.map fun p => (.inr (tx p.1) : Key)) : (valV kvs (.inr (tx z))).isSome = decide (z ∈ ks.map (·.1)) := by
  by_cases hz : z ∈ ks.map (·.1)
  · rw [decide_eq_true hz]
    obtain ⟨p, hp, rfl⟩ := List.mem_map.mp hz
    have hm : (.inr (tx p.1) : Key) ∈ kvs.map (·.1) := by rw [h]; exact List.mem_map.mpr ⟨p, hp, rfl⟩
    obtain ⟨kv, hkv, e⟩ := List.mem_map.mp hm
    unfold valV
    rw [Option.isSome_map]
    exact List.find?_isSome.mpr ⟨kv, hkv, decide_eq_true e⟩
  · rw [decide_eq_false hz, val_none h fun p hp e => hz (List.mem_map.mpr ⟨p, hp, tx_inj e⟩)]
    rfl
theorem wr_len {l g : List Nat} (h : wr (some l) g = true) : 1 ≤ l.length ∧ l.length ≤ 8 := by
  have h : (decide (1 ≤ l.length ∧ l.length ≤ 8) && l.all fun c => decide (c ∈ g)) = true := h
  rw [Bool.and_eq_true] at h
  exact of_decide_eq_true h.1
theorem readT_cons {z w0 : List Nat} {ws : List (List Nat)} (h : spl 10 z = w0 :: ws) : readT z = match plcO w0 with
  | none => .inl 0
  | some n => match rdB n 1 ws [] with
    | .inl k => .inl k
    | .inr rs => .inr (n, rs) := by
  unfold readT
  rw [h]
  rfl
/-- what is told, as data -/
def resD : Nat ⊕ (Nat × List (List Nat × List Nat)) → PyData
  | .inl k => .int (k : Nat)
  | .inr (n, rs) => dBook n rs
section
variable {K : PySem.W.Frag} {σ : L2.St} {H : Hp} {ta : TE} {D : Ends} {tz : L2.TS}
theorem q_asgS {sp : Sp} {E : L2.St → XK} {ts : TA} {vs : List V} {i : Nat} (h : EvA ts σ H vs) (k : ∀ G, Ex H G → sp vs G (fun v H2 => tz D (σ.set i (some v)) H2) (E σ)) : tSeq (tAsg (tCallS sp E ts) (gName i)) tz D σ H := h H (Ex.refl _) _ k
theorem et_or_t {t1 t2 : TT} (h : EvT t1 σ H true) : EvT (tOr t1 t2) σ H true := fun H1 e Q q => h H1 e _ fun H2 e2 => by
  rw [if_pos rfl]
  exact q H2 e2
theorem ev_isTx {v : V} {o : Option (List Nat)} (ha : Ev ta σ H v) (h : TxO K H v o) : Ev (tCB (rIsi K) (tCons ta (tCons (tC (.ty "str")) tNil))) σ H (.bl o.isSome) := by
  cases o with
  | none => obtain ⟨t, hk, ht⟩ := h; exact ev_isi ha ht hk
  | some z => obtain ⟨rfl, _⟩ := h; exact ev_isi (b := true) ha (fun _ _ => .base (.str _)) (by decide +kernel)
end
section
variable {P : Program} {w : World} {K : PySem.W.Frag} {mg : Str → Option Value} {base : Heap}
def sp_places_line (K : PySem.W.Frag) (ts : List Addr) : Sp := fun vs H Q _ => ∃ n : Nat, vs = [.int (n : Nat)] ∧ (1 ≤ n ∧ n ≤ 8) ∧ RetV (.str (tx (lineP n))) H Q
theorem ok_places_line {ts : List Addr} (D : Df K mg "places_line" st_places_line ["places"]) : At P w K mg base "places_line" st_places_line 1 ["places"] (sp_places_line K ts) := by
  obtain ⟨f, fd, F, b, g⟩ := D
  refine ⟨f, fd, F, b, g, F.ok sc_places_line (fun vs H Q E h => ?_) (fun cdv A outer s H vs Q E hr h => ?_)⟩
  · obtain ⟨n, rfl, _⟩ := h
    rfl
  · obtain ⟨n, rfl, hn, q⟩ := h
    refine ⟨_, (pss_one (ps_ret (pe_joined (.cons pe_str (.cons (pe_fmt (pv 0)) .nil))))), ?_⟩
    refine ⟨_, rfl, by show (Str.empty ++ ("places " : Str)).length ≤ sizeLine; decide, _, rfl, .inr ⟨(n : Int), rfl, ?_, _, rfl, ?_, ?_⟩⟩
    · have : n = 1 ∨ n = 2 ∨ n = 3 ∨ n = 4 ∨ n = 5 ∨ n = 6 ∨ n = 7 ∨ n = 8 := by omega
      rcases this with e | e | e | e | e | e | e | e <;> subst e <;> decide
    · rw [show (toString (n : Int) : Str) = sg1 (48 + n) from digit_str hn]
      show 8 ≤ sizeLine
      decide
    · rw [show (toString (n : Int) : Str) = sg1 (48 + n) from digit_str hn]
      exact q H (Ex.refl _)
def sp_is_tuple_of (K : PySem.W.Frag) (ts : List Addr) : Sp := fun vs H Q _ => ∃ (t : Addr) (xs : List V) (k : Int), vs = [.ref t, .int k] ∧ H t = some (.tup xs) ∧ xs.length ≤ 100000 ∧ RetV (.bl (decide ((xs.length : Int) = k))) H Q
theorem ok_is_tuple_of {ts : List Addr} (D : Df K mg "is_tuple_of" st_is_tuple_of ["thing", "many"]) (m_len : mg "len" = none) (m_isinstance : mg "isinstance" = none) (m_tuple : mg "tuple" = none) : At P w K mg base "is_tuple_of" st_is_tuple_of 1 ["thing", "many"] (sp_is_tuple_of K ts) := by
  obtain ⟨f, fd, F, b, g⟩ := D
  refine ⟨f, fd, F, b, g, F.ok sc_is_tuple_of (fun vs H Q E h => ?_) (fun cdv A outer s H vs Q E hr h => ?_)⟩
  · obtain ⟨t, xs, k, rfl, _⟩ := h
    rfl
  · obtain ⟨t, xs, k, rfl, ht, hl, q⟩ := h
    refine ⟨_, (pss_one (ps_ret (pe_and (pe_callB call_isi (by rfl) m_isinstance (by decide +kernel) (pa_cons (pv 0) (pa_cons (pe_bltn (v := .ty "tuple") (by rfl) m_tuple (by decide +kernel) rfl) pa_nil))) (pe_one (pe_cmpR op_eq (pe_callB call_len_seq (by rfl) m_len (by decide +kernel) (pa_cons (pv 0) pa_nil)) (pv 1) (nomark _)))))), ?_⟩
    exact s_ret (ev_is (ev_andV (a := true) (b := decide ((xs.length : Int) = k)) (ev_isi (ev_var rfl) (fun H1 e => .base (.tup (e _ _ ht))) (b := true) (by decide +kernel)) fun _ => ev_is (ev_op (ev_lenT (ev_var rfl) (st_of ht)) (ev_var rfl) (rv_eq rfl)) (congrArg V.bl (decide_eq_decide.mpr ⟨fun z => V.int.inj z, fun z => by rw [z]⟩))) rfl) fun H1 e1 => q H1 e1
def sp_is_row_of (K : PySem.W.Frag) (ts : List Addr) : Sp := fun vs H Q _ => ∃ (v : V) (o : Option (List Nat)) (p : Int), vs = [v, .int p] ∧ Th K H v o ∧ TB ts H ∧ RetV (.bl (wr o [110, 98, 121] && decide (((o.getD []).length : Int) = p))) H Q
theorem ok_is_row_of {ts : List Addr} (D : Df K mg "is_row_of" st_is_row_of ["thing", "places"]) (m_len : mg "len" = none) (A_is_row : At P w K mg base "is_row" st_is_row 3 ["thing"] (sp_is_row K ts)) : At P w K mg base "is_row_of" st_is_row_of 4 ["thing", "places"] (sp_is_row_of K ts) := by
  obtain ⟨f, fd, F, b, g⟩ := D
  obtain ⟨f_is_row, fd_is_row, F_is_row, b_is_row, g_is_row, G_is_row⟩ := A_is_row
  refine ⟨f, fd, F, b, g, F.ok sc_is_row_of (fun vs H Q E h => ?_) (fun cdv A outer s H vs Q E hr h => ?_)⟩
  · obtain ⟨v, o, p, rfl, _⟩ := h
    rfl
  · obtain ⟨v, o, p, rfl, hv, hT, q⟩ := h
    refine ⟨_, (pss_one (ps_ret (pe_and (pe_call G_is_row (hr.mono (by decide)) (by rfl) g_is_row F_is_row.kp b_is_row .nil pass0 (pa_cons (pv 0) pa_nil)) (pe_one (pe_cmpR op_eq (pe_callB call_len_str (by rfl) m_len (by decide +kernel) (pa_cons (pv 0) pa_nil)) (pv 1) (nomark _)))))), ?_⟩
    refine s_ret (ev_andV (a := wr o [110, 98, 121]) (b := decide (((o.getD []).length : Int) = p)) (ev_call (ea_cons (ev_var rfl) ea_nil) fun G g Q1 q1 E1 => ⟨v, o, rfl, hv.ex g, hT.ex g, q1⟩) fun hw => ?_) fun H1 e1 => q H1 e1
    cases o with
    | none => cases hw
    | some z =>
      obtain ⟨rfl, hz⟩ := hv
      exact ev_is (ev_op (ev_is (ev_lenS (ev_var rfl) (by rw [tx_len]; omega)) (by rw [tx_len]; rfl)) (ev_var rfl) (rv_eq rfl)) (congrArg V.bl (decide_eq_decide.mpr ⟨fun e => V.int.inj e, fun e => by rw [← e]⟩))
def sp_is_named_row (K : PySem.W.Frag) (ts : List Addr) : Sp := fun vs H Q _ => ∃ (t : Addr) (ws : List (List Nat)) (n : Nat), vs = [.ref t, .int (n : Nat)] ∧ H t = some (.tup (ws.map fun w => V.str (tx w))) ∧ (ws.length ≤ 10000 ∧ ∀ w ∈ ws, w.length ≤ 1000) ∧ TB ts H ∧ RetV (.bl (nrB n ws)) H Q
theorem ok_is_named_row {ts : List Addr} (D : Df K mg "is_named_row" st_is_named_row ["thing", "places"]) (A_is_row_of : At P w K mg base "is_row_of" st_is_row_of 4 ["thing", "places"] (sp_is_row_of K ts)) (A_is_name : At P w K mg base "is_name" st_is_name 3 ["thing"] (sp_is_name K ts)) (A_is_tuple_of : At P w K mg base "is_tuple_of" st_is_tuple_of 1 ["thing", "many"] (sp_is_tuple_of K ts)) : At P w K mg base "is_named_row" st_is_named_row 5 ["thing", "places"] (sp_is_named_row K ts) := by
  obtain ⟨f, fd, F, b, g⟩ := D
  obtain ⟨f_is_row_of, fd_is_row_of, F_is_row_of, b_is_row_of, g_is_row_of, G_is_row_of⟩ := A_is_row_of
  obtain ⟨f_is_name, fd_is_name, F_is_name, b_is_name, g_is_name, G_is_name⟩ := A_is_name
  obtain ⟨f_is_tuple_of, fd_is_tuple_of, F_is_tuple_of, b_is_tuple_of, g_is_tuple_of, G_is_tuple_of⟩ := A_is_tuple_of
  refine ⟨f, fd, F, b, g, F.ok sc_is_named_row (fun vs H Q E h => ?_) (fun cdv A outer s H vs Q E hr h => ?_)⟩
  · obtain ⟨t, ws, n, rfl, _⟩ := h
    rfl
  · obtain ⟨t, ws, n, rfl, ht, ⟨hw1, hw2⟩, hT, q⟩ := h
    refine ⟨_, (pss_one (ps_ret (pe_and (pe_call G_is_tuple_of (hr.mono (by decide)) (by rfl) g_is_tuple_of F_is_tuple_of.kp b_is_tuple_of .nil pass0 (pa_cons (pv 0) (pa_cons pe_int pa_nil))) (pe_and (pe_call G_is_name (hr.mono (by decide)) (by rfl) g_is_name F_is_name.kp b_is_name .nil pass0 (pa_cons (pe_ix ix_tup (pv 0) pe_int (fun _ _ => rfl)) pa_nil)) (pe_one (pe_call G_is_row_of (hr.mono (by decide)) (by rfl) g_is_row_of F_is_row_of.kp b_is_row_of .nil pass0 (pa_cons (pe_ix ix_tup (pv 0) pe_int (fun _ _ => rfl)) (pa_cons (pv 1) pa_nil)))))))), ?_⟩
    by_cases h2 : ws.length = 2
    · match ws, h2 with
      | [a, b], _ =>
        refine s_ret (v := .bl (nrB n [a, b])) (ev_is (ev_andV (a := true) (b := wr (some a) az && (wr (some b) [110, 98, 121] && decide ((((some b).getD []).length : Int) = ((n : Nat) : Int)))) (ev_call (ea_cons (ev_var rfl) (ea_cons ev_c ea_nil)) fun G g Q1 q1 E1 => ⟨t, _, 2, rfl, g _ _ ht, by show 2 ≤ 100000; decide, q1⟩) fun _ => ev_andV (a := wr (some a) az) (b := wr (some b) [110, 98, 121] && decide ((((some b).getD []).length : Int) = ((n : Nat) : Int))) (ev_call (ea_cons (ev_op (ev_var rfl) ev_c (rv_ixT (v := .str (tx a)) (st_of ht) (atI_nat (j := 0) rfl))) ea_nil) fun G g Q1 q1 E1 => ⟨_, some a, rfl, th_str a (hw2 a List.mem_cons_self), hT.ex g, q1⟩) fun _ => ev_call (ea_cons (ev_op (ev_var rfl) ev_c (rv_ixT (v := .str (tx b)) (st_of ht) (atI_nat (j := 1) rfl))) (ea_cons (ev_var rfl) ea_nil)) fun G g Q1 q1 E1 => ⟨_, some b, (n : Int), rfl, th_str b (hw2 b (List.mem_cons_of_mem _ List.mem_cons_self)), hT.ex g, q1⟩) ?_) fun H1 e1 => q H1 e1
        refine congrArg V.bl ?_
        show (true && (wr (some a) az && (wr (some b) [110, 98, 121] && decide (((b.length : Nat) : Int) = ((n : Nat) : Int))))) = (wr (some a) az && (wr (some b) [110, 98, 121] && decide (b.length = n)))
        rw [Bool.true_and, show decide (((b.length : Nat) : Int) = ((n : Nat) : Int)) = decide (b.length = n) from decide_eq_decide.mpr (by omega)]
    · have hf : nrB n ws = false := by
        cases h : nrB n ws with
        | false => rfl
        | true =>
          obtain ⟨a, b, rfl⟩ := nrB_two h
          exact absurd rfl h2
      rw [hf] at q
      refine s_ret (v := .bl false) (ev_is (ev_andV (a := false) (b := false) (ev_call (z := .bl false) (ea_cons (ev_var rfl) (ea_cons ev_c ea_nil)) fun G g Q1 q1 E1 => ⟨t, _, 2, rfl, g _ _ ht, by rw [List.length_map]; omega, by rw [decide_eq_false (show ¬ (((ws.map fun w => V.str (tx w)).length : Nat) : Int) = 2 by rw [List.length_map]; omega)]; exact q1⟩) fun h => absurd h (by decide)) rfl) fun H1 e1 => q H1 e1
def sp_read_places (K : PySem.W.Frag) (ts : List Addr) (c_NoText : Addr) : Sp := fun vs H Q E => ∃ l : List Nat, vs = [.str (tx l)] ∧ (plcO l = none → ∀ (d : Addr) (H2 : Hp), Ex H H2 → H2 d = some (.xd [("row", .int 0)]) → E (.ref c_NoText) (some d) H2) ∧ ∀ n : Nat, plcO l = some n → RetV (.int (n : Nat)) H Q
theorem ok_read_places {ts : List Addr} {tMS : Tok} {c_NoText : Addr} {fN_NoText : Addr} {fdN_NoText : FuncData} (D : Df K mg "read_places" st_read_places ["line"]) (m_range : mg "range" = none) (c_MOST_SIGNS : mg "MOST_SIGNS" = some (.int 8 tMS)) (E_NoText : ErrF P w K mg base "NoText" "row" c_NoText fN_NoText fdN_NoText) (A_places_line : At P w K mg base "places_line" st_places_line 1 ["places"] (sp_places_line K ts)) : AtX P w K mg base "read_places" st_read_places 4 ["line"] (sp_read_places K ts c_NoText) := by
  obtain ⟨f, fd, F, b, g⟩ := D
  obtain ⟨f_places_line, fd_places_line, F_places_line, b_places_line, g_places_line, G_places_line⟩ := A_places_line
  refine ⟨f, fd, F, b, g, F.okX sc_read_places (fun vs H Q E h => ?_) (fun cdv A outer s H vs Q E hr h => ?_)⟩
  · obtain ⟨l, rfl, _⟩ := h
    rfl
  · obtain ⟨l, rfl, qe, q⟩ := h
    have tk : Takes (cxOf (L2.CX P w) P w K mg base ["line", "places"] "read_places" (defScope st_read_places) f cdv A outer s H E) (fun cls d _ H => E cls d H) := takes_of rfl rfl rfl rfl
    have psO : PassesOwn (model P w) (cxOf (L2.CX P w) P w K mg base ["line", "places"] "read_places" (defScope st_read_places) f cdv A outer s H E).A (cxOf (L2.CX P w) P w K mg base ["line", "places"] "read_places" (defScope st_read_places) f cdv A outer s H E).env (cxOf (L2.CX P w) P w K mg base ["line", "places"] "read_places" (defScope st_read_places) f cdv A outer s H E).xe := passes_of rfl
    refine ⟨_, (pss_cons (ps_for psO rfl (pi_range2 (by rfl) m_range (pa_cons pe_int (pa_cons (pe_op op_add (pe_glob (v := .int 8) (by rfl) c_MOST_SIGNS ⟨_, rfl⟩) pe_int) pa_nil))) (pg_name (i := 1) sc_read_places.nd rfl (.inl rfl))
      (pss_one (ps_if (pt_cmpR op_eq (pv 0) (pe_call G_places_line (hr.mono (by decide)) (by rfl) g_places_line F_places_line.kp b_places_line .nil pass0 (pa_cons (pv 1) pa_nil)) (nomark _))
      (pss_one (ps_ret (pv 1)))
      pss_nil)))
      (pss_one (ps_raise rfl tk (L2.pmk_oex E_NoText.oex E_NoText.ini E_NoText.ty E_NoText.fn (hr.mono (by decide)) E_NoText.bn .nil pass0 (by rfl) E_NoText.glob (pa_cons pe_int pa_nil))))), ?_⟩
    refine q_forR2 (lo := 1) (n := 9) (ea_cons ev_c (ea_cons (ev_op ev_c ev_c rv_I0) ea_nil)) (by decide) (fun i σ' H' => ∃ y1 : Option V, σ' = [some (.str (tx l)), y1] ∧ Ex H H' ∧ ∀ k, k < i → l ≠ lineP (k + 1)) (fun H1 e1 => ⟨_, rfl, e1, fun k hk => absurd hk (Nat.not_lt_zero _)⟩) (fun i σ' H1 hi hP => ?_) (fun σ' H1 hP => ?_)
    · obtain ⟨y1, rfl, e1, hno⟩ := hP
      have hi8 : (i : Int) + 1 ≤ 8 := by omega
      have he : (1 : Int) + (i : Int) = ((i + 1 : Nat) : Int) := by omega
      rw [he]
      refine s_when (b := decide (l = lineP (i + 1))) (et_is (et_test (ev_op (ev_var rfl) (ev_call (z := .str (tx (lineP (i + 1)))) (ea_cons (ev_var rfl) ea_nil) fun G g Q1 q1 E1 => ⟨i + 1, rfl, by omega, q1⟩) (rv_eq rfl))) (strtx_dec _ _)) (fun hb H2 e2 => ?_) (fun hb H2 e2 => ?_)
      · have hni := of_decide_eq_true hb
        exact s_ret (ev_var rfl) fun H3 e3 => q (i + 1) (by rw [hni]; exact plcO_line (by omega) (by omega)) H3 (e1.trans (e2.trans e3))
      · have hni := of_decide_eq_false hb
        refine ⟨_, rfl, e1.trans e2, fun k hk => ?_⟩
        rcases Nat.lt_or_eq_of_le (Nat.le_of_lt_succ hk) with z | z
        · exact hno k z
        · rw [z]; exact hni
    · obtain ⟨y1, rfl, e1, hno⟩ := hP
      have h0 : plcO l = none := by
        cases h : plcO l with
        | none => rfl
        | some n =>
          obtain ⟨e, h1, h8⟩ := plcO_some h
          exact absurd (by rw [e, show n - 1 + 1 = n by omega]) (hno (n - 1) (by show n - 1 < ((9 : Int) - 1).toNat; have : ((9 : Int) - 1).toNat = 8 := rfl; omega))
      exact mk_fld E_NoText.oex E_NoText.nof ev_c fun d9 H3 nd e3 h3 => qe h0 d9 H3 (e1.trans e3) h3
def sp_read_book (K : PySem.W.Frag) (ts : List Addr) (c_NoText : Addr) : Sp := fun vs H Q E => ∃ (v : V) (o : Option (List Nat)), vs = [v] ∧ TxO K H v o ∧ TB ts H ∧ (∀ k : Nat, resO o = .inl k → ∀ (d : Addr) (H2 : Hp), Ex H H2 → H2 d = some (.xd [("row", .int (k : Nat))]) → E (.ref c_NoText) (some d) H2) ∧ ∀ n rs, resO o = .inr (n, rs) → ∀ v H2, Ex H H2 → (∀ G, Ex H2 G → Dp K G v (dBook n rs)) → Q v H2
theorem ok_read_book {ts : List Addr} {tMR : Tok} {c_NoText : Addr} {fN_NoText : Addr} {fdN_NoText : FuncData} (D : Df K mg "read_book" st_read_book ["text"]) (m_isinstance : mg "isinstance" = none) (m_str : mg "str" = none) (m_enumerate : mg "enumerate" = none) (m_tuple : mg "tuple" = none) (c_MOST_ROWS : mg "MOST_ROWS" = some (.int 10 tMR)) (E_NoText : ErrF P w K mg base "NoText" "row" c_NoText fN_NoText fdN_NoText) (A_read_places : AtX P w K mg base "read_places" st_read_places 4 ["line"] (sp_read_places K ts c_NoText)) (A_is_named_row : At P w K mg base "is_named_row" st_is_named_row 5 ["thing", "places"] (sp_is_named_row K ts)) : AtX P w K mg base "read_book" st_read_book 6 ["text"] (sp_read_book K ts c_NoText) := by
  obtain ⟨f, fd, F, b, g⟩ := D
  obtain ⟨f_read_places, fd_read_places, F_read_places, b_read_places, g_read_places, G_read_places⟩ := A_read_places
  obtain ⟨f_is_named_row, fd_is_named_row, F_is_named_row, b_is_named_row, g_is_named_row, G_is_named_row⟩ := A_is_named_row
  refine ⟨f, fd, F, b, g, F.okX sc_read_book (fun vs H Q E h => ?_) (fun cdv A outer s H vs Q E hr h => ?_)⟩
  · obtain ⟨v, o, rfl, _⟩ := h
    rfl
  · obtain ⟨v, o, rfl, hv, hT, qe, q⟩ := h
    have tk : Takes (cxOf (L2.CX P w) P w K mg base ["text", "lines", "places", "rows", "at", "line", "named"] "read_book" (defScope st_read_book) f cdv A outer s H E) (fun cls d _ H => E cls d H) := takes_of rfl rfl rfl rfl
    have psO : PassesOwn (model P w) (cxOf (L2.CX P w) P w K mg base ["text", "lines", "places", "rows", "at", "line", "named"] "read_book" (defScope st_read_book) f cdv A outer s H E).A (cxOf (L2.CX P w) P w K mg base ["text", "lines", "places", "rows", "at", "line", "named"] "read_book" (defScope st_read_book) f cdv A outer s H E).env (cxOf (L2.CX P w) P w K mg base ["text", "lines", "places", "rows", "at", "line", "named"] "read_book" (defScope st_read_book) f cdv A outer s H E).xe := passes_of rfl
    refine ⟨_, (pss_cons (ps_if (pt_not (pt_val (pe_callB call_isi (by rfl) m_isinstance (by decide +kernel) (pa_cons (pv 0) (pa_cons (pe_bltn (v := .ty "str") (by rfl) m_str (by decide +kernel) rfl) pa_nil)))))
      (pss_one (ps_raise rfl tk (L2.pmk_oex E_NoText.oex E_NoText.ini E_NoText.ty E_NoText.fn (hr.mono (by decide)) E_NoText.bn .nil pass0 (by rfl) E_NoText.glob (pa_cons pe_int pa_nil))))
      pss_nil)
      (pss_cons (ps_set (i := 1) sc_read_book.nd rfl (.inl rfl) (pe_m1 PySem.F.slot_str_split PySem.F.type_str_split mt_split (pv 0) pe_str))
      (pss_cons (ps_set (i := 2) sc_read_book.nd rfl (.inl rfl) (pe_callS G_read_places (hr.mono (by decide)) (by rfl) g_read_places F_read_places.kp b_read_places (fun σ => passAt tk σ) (pa_cons (pe_ix ix_list (pv 1) pe_int (fun _ _ => rfl)) pa_nil)))
      (pss_cons (ps_set (i := 3) sc_read_book.nd rfl (.inl rfl) pe_dnewK)
      (pss_cons (ps_for psO rfl (Hid.pi_ek (by rfl) m_enumerate (pa_cons (pe_slice sl_list (pv 1) (po_some pe_int) po_none) pa_nil) (pk_cons pe_int pk_nil)) (pg_tup (by rfl) (pgs_cons (pg_name (i := 4) sc_read_book.nd rfl (.inl rfl)) (pgs_cons (pg_name (i := 5) sc_read_book.nd rfl (.inl rfl)) pgs_nil)))
      (pss_cons (ps_set (i := 6) sc_read_book.nd rfl (.inl rfl) (pe_callTy call_tuple_of (by rfl) m_tuple (by decide +kernel) (pa_cons (pe_m1 PySem.F.slot_str_split PySem.F.type_str_split mt_split (pv 5) pe_str) pa_nil)))
      (pss_cons (ps_if (PW.pt (pw_or (pt_not (pt_val (pe_call G_is_named_row (hr.mono (by decide)) (by rfl) g_is_named_row F_is_named_row.kp b_is_named_row .nil pass0 (pa_cons (pv 6) (pa_cons (pv 2) pa_nil))))) (pw_or (pt_cmp (pc_din (Hid.u1 hr) (pe_ix ix_tup (pv 6) pe_int (fun _ _ => rfl)) (pv 3))) (pw_or1 (pt_cmpR op_gt (pv 4) (pe_glob (v := .int 10) (by rfl) c_MOST_ROWS ⟨_, rfl⟩) (nomark _))))))
      (pss_one (ps_raise rfl tk (L2.pmk_oex E_NoText.oex E_NoText.ini E_NoText.ty E_NoText.fn (hr.mono (by decide)) E_NoText.bn .nil pass0 (by rfl) E_NoText.glob (pa_cons (pv 4) pa_nil))))
      pss_nil)
      (pss_one (ps_dput (Hid.u1 hr) (pv 3) (pe_ix ix_tup (pv 6) pe_int (fun _ _ => rfl)) (pv 6) rfl)))))
      (pss_one (ps_ret (pe_tup (pa_cons (pv 2) (pa_cons (Hid.pe_tupVals rfl (by rfl) m_tuple (pv 3)) pa_nil)))))))))), ?_⟩
    refine q_when (b := !o.isSome) (et_not (et_B (ev_isTx (ev_var rfl) hv))) (fun hb H1 e1 => ?_) (fun hb H1 e1 => ?_)
    · cases o with
      | some z => cases hb
      | none => exact mk_fld E_NoText.oex E_NoText.nof ev_c fun d9 H3 nd e3 h3 => qe 0 rfl d9 H3 (e1.trans e3) h3
    obtain ⟨z, rfl⟩ : ∃ z, o = some z := by
      cases o with
      | none => cases hb
      | some z => exact ⟨z, rfl⟩
    obtain ⟨rfl, hz1, hz2⟩ := hv
    have hwm := wgt_many (spl 10 z)
    have hwz := spl_wgt 10 z
    refine ⟨_, rfl, ⟨_, rfl⟩, _, sg1 10, rfl, rfl, rfl, sz_of (by rw [tx_len]; omega), fun l nl => ?_⟩
    have hl2 : (upd H1 l (.lst ((Txt.split (tx z) (sg1 10)).map V.str))) l = some (.lst ((spl 10 z).map fun x => V.str (tx x))) := by rw [upd_same, split_spl, List.map_map]; rfl
    have e2 : Ex H (upd H1 l (.lst ((Txt.split (tx z) (sg1 10)).map V.str))) := e1.trans (Ex.new nl)
    generalize upd H1 l (.lst ((Txt.split (tx z) (sg1 10)).map V.str)) = H2 at hl2 e2
    have hres := fun (w0 : List Nat) (ws : List (List Nat)) (h : spl 10 z = w0 :: ws) => readT_cons h
    have hne := spl_ne 10 z
    change (∀ k : Nat, readT z = .inl k → ∀ (d : Addr) (H2 : Hp), Ex H H2 → H2 d = some (.xd [("row", .int (k : Nat))]) → E (.ref c_NoText) (some d) H2) at qe
    change (∀ n rs, readT z = .inr (n, rs) → ∀ v H2, Ex H H2 → (∀ G, Ex H2 G → Dp K G v (dBook n rs)) → Q v H2) at q
    generalize spl 10 z = S at hl2 hres hne hz2 hwm hwz
    cases S with
    | nil => exact absurd rfl hne
    | cons w0 ws =>
    have hres := hres w0 ws rfl
    refine q_asgS (ea_cons (ev_op (z := .str (tx w0)) (ev_var rfl) ev_c (rv_ixL (sq_of hl2) (atI_nat (j := 0) rfl))) ea_nil) fun H3 e3 => ⟨w0, rfl, fun hn d H4 e4 h4 => qe 0 (by rw [hres, hn]) d H4 (e2.trans (e3.trans e4)) h4, fun n hn H3' e3' => ?_⟩
    replace e3 := e3.trans e3'
    obtain ⟨_, hn1, hn8⟩ := plcO_some hn
    rw [hn] at hres
    have hres : readT z = match rdB n 1 ws [] with
      | .inl k => .inl k
      | .inr rs => .inr (n, rs) := hres
    refine fun d nd => ?_
    have hd4 : (upd H3' d (.dK [])) d = some (.dK []) := upd_same
    have e4 : Ex H2 (upd H3' d (.dK [])) := e3.trans (Ex.new nd)
    generalize upd H3' d (.dK []) = H4 at hd4 e4
    have hcut : cutV ((w0 :: ws).map fun x => V.str (tx x)) (some 1) none = ws.map fun x => V.str (tx x) := cut_drop (xs := (w0 :: ws).map fun x => V.str (tx x)) 1
    refine (el_sl (ev_var rfl) (eo_some ev_c) eo_none (sq_of (e4 _ _ hl2))) H4 (Ex.refl _) _ fun l5 H5 nl5 e5 h5 => ?_
    rw [hcut] at h5
    have hlen : (ws.map fun x => V.str (tx x)).length = ws.length := List.length_map _
    refine ⟨l5, _, 1, rfl, rfl, h5, by decide, ?_⟩
    refine for_it (walk_ek (xs := ws.map fun x => V.str (tx x))) (fun i σ' H' => ∃ (kvs : List (Key × V)) (y4 y5 y6 : Option V) (acc : List (List Nat × List Nat)), σ' = [some (.str (tx z)), some (.ref l), some (.int (n : Nat)), some (.ref d), y4, y5, y6] ∧ Ex H H' ∧ H' l5 = some (.lst (ws.map fun x => V.str (tx x))) ∧ H' d = some (.dK kvs) ∧ kvs.map (·.1) = acc.map (fun p => (.inr (tx p.1) : Key)) ∧ Prs K H' (kvs.map (·.2)) acc ∧ acc.length = i ∧ i ≤ 10 ∧ rdB n 1 ws [] = rdB n (1 + i) (ws.drop i) acc) ⟨[], _, _, _, [], rfl, e2.trans (e4.trans e5), h5, e5 _ _ hd4, rfl, .nil, rfl, by decide, rfl⟩ (fun i σ' H' _ hP => ?_) (fun i x σ' H6 H6' hi hP hY => ?_) (fun σ' H6 hP => ?_)
    · obtain ⟨kvs, y4, y5, y6, acc, _, _, h5', _⟩ := hP
      exact h5'
    · obtain ⟨kvs, y4, y5, y6, acc, rfl, e6, h56, hd6, hks, hps, hal, hi10, hrd⟩ := hP
      obtain ⟨T, x1, x2, rfl, hTn, rfl, hx1, hx2⟩ := hY
      cases hx1
      rw [hlen] at hi
      replace hx2 : (ws.map fun x => V.str (tx x))[i]? = some x2 := hx2
      rw [List.getElem?_map, List.getElem?_eq_getElem hi] at hx2
      cases hx2
      have hwi : ws[i].length ≤ 1000 := hz2 _ (List.mem_cons_of_mem _ (List.getElem_mem hi))
      rw [show ws.drop i = ws[i] :: ws.drop (i + 1) from (List.getElem_cons_drop hi).symm] at hrd
      generalize ws[i] = w at hwi hrd
      refine ⟨T, [.int (1 + (i : Int)), .str (tx w)], rfl, st_of upd_same, rfl, _, _, rfl, _, _, rfl, rfl, ?_⟩
      have f7 := Ex.new (o := .tup [.int (1 + (i : Int)), .str (tx w)]) hTn
      have h57 := f7 _ _ h56
      have hd7 := f7 _ _ hd6
      have hps7 := hps.ex f7
      have e7 := e6.trans f7
      generalize upd H6 T (.tup [.int (1 + (i : Int)), .str (tx w)]) = H7 at h57 hd7 hps7 e7
      have hwm2 := wgt_many (spl 32 w)
      have hww := spl_wgt 32 w
      refine ⟨_, rfl, ⟨_, rfl⟩, _, sg1 32, rfl, rfl, rfl, sz_of (by rw [tx_len]; omega), fun l8 nl8 => ⟨l8, (spl 32 w).map fun x => V.str (tx x), rfl, .inl ⟨sq_of (by rw [upd_same, split_spl, List.map_map]; rfl), fun t9 nt9 => ?_⟩⟩⟩
      have f8 := Ex.new (o := .lst ((Txt.split (tx w) (sg1 32)).map V.str)) nl8
      have f9 := Ex.new (o := .tup ((spl 32 w).map fun x => V.str (tx x))) nt9
      have ht9 : (upd (upd H7 l8 (.lst ((Txt.split (tx w) (sg1 32)).map V.str))) t9 (.tup ((spl 32 w).map fun x => V.str (tx x)))) t9 = some (.tup ((spl 32 w).map fun x => V.str (tx x))) := upd_same
      have f79 := f8.trans f9
      generalize upd (upd H7 l8 (.lst ((Txt.split (tx w) (sg1 32)).map V.str))) t9 (.tup ((spl 32 w).map fun x => V.str (tx x))) = H9 at ht9 f79
      have e9 := e7.trans f79
      have hd9 := f79 _ _ hd7
      have kvl : kvs.length = i := by have := congrArg List.length hks; rw [List.length_map, List.length_map] at this; omega
      dsimp only [gName]
      cases hnr : nrB n (spl 32 w) with
      | false =>
        have hbad : rdB n 1 ws [] = .inl (1 + i) := by rw [hrd, rdB, rwOf_nr hnr]
        refine q_when (b := true) (et_or_t (et_is (b := !false) (et_not (et_B (b := false) (ev_call (ea_cons (ev_var rfl) (ea_cons (ev_var rfl) ea_nil)) fun G2 g2 Q1 q1 E1 => ⟨t9, spl 32 w, n, rfl, g2 _ _ ht9, ⟨by omega, fun x hx => by have := wgt_mem hx; omega⟩, hT.ex (e9.trans g2), by rw [hnr]; exact q1⟩))) rfl)) (fun _ H10 e10 => ?_) (fun hb => absurd hb (by decide))
        exact mk_fld E_NoText.oex E_NoText.nof (ev_is (ev_var rfl) (congrArg V.int (show (1 : Int) + (i : Int) = ((1 + i : Nat) : Int) by omega))) fun d9 H3 nd e3 h3 => qe (1 + i) (by rw [hres, hbad]) d9 H3 (e9.trans (e10.trans e3)) h3
      | true =>
        obtain ⟨a, b, hs⟩ := nrB_two hnr
        obtain ⟨hro, hwa, hwb, hbl⟩ := rwOf_yes hs hnr
        have ha8 := wr_len hwa
        have hb8 := wr_len hwb
        rw [hs] at ht9
        rw [rdB, hro] at hrd
        dsimp only at hrd
        have nm9 : ∀ {σ : L2.St} {G : Hp}, σ[6]? = some (some (.ref t9)) → Ex H9 G → Ev (tOp (rIxT K) (tVar 6) (tC (.int 0))) σ G (.str (tx a)) := fun s6 g => ev_op (ev_var s6) ev_c (rv_ixT (v := .str (tx a)) (st_of (g _ _ ht9)) (atI_nat (j := 0) rfl))
        refine q_when (b := decide (a ∈ acc.map (·.1)) || decide (10 < 1 + i)) (et_is (et_or (a := !true) (b := decide (a ∈ acc.map (·.1)) || decide (10 < 1 + i)) (et_not (et_B (b := true) (ev_call (ea_cons (ev_var rfl) (ea_cons (ev_var rfl) ea_nil)) fun G2 g2 Q1 q1 E1 => ⟨t9, spl 32 w, n, rfl, by rw [hs]; exact g2 _ _ ht9, ⟨by omega, fun x hx => by have := wgt_mem hx; omega⟩, hT.ex (e9.trans g2), by rw [hnr]; exact q1⟩))) fun _ => et_or (a := decide (a ∈ acc.map (·.1))) (b := decide (10 < 1 + i)) (et_B (ev_is (ev_din (y := .str (tx a)) (d := d) (o := valV kvs (.inr (tx a))) (ev_op (ev_var rfl) ev_c (rv_ixT (v := .str (tx a)) (st_of ht9) (atI_nat (j := 0) rfl))) (ev_var rfl) fun G g => DGet.k (k := .inr (tx a)) (g _ _ hd9)) (congrArg V.bl (val_some hks)))) fun _ => et_is (et_test (ev_op (ev_var rfl) ev_c rv_I0)) (decide_eq_decide.mpr (by omega))) rfl) (fun hb H10 e10 => ?_) (fun hb H10 e10 => ?_)
        · have hbad : rdB n 1 ws [] = .inl (1 + i) := by
            rw [hrd, if_pos]
            rw [Bool.or_eq_true, decide_eq_true_iff, decide_eq_true_iff] at hb
            exact hb
          exact mk_fld E_NoText.oex E_NoText.nof (ev_is (ev_var rfl) (congrArg V.int (show (1 : Int) + (i : Int) = ((1 + i : Nat) : Int) by omega))) fun d9 H3 nd e3 h3 => qe (1 + i) (by rw [hres, hbad]) d9 H3 (e9.trans (e10.trans e3)) h3
        rw [Bool.or_eq_false_iff, decide_eq_false_iff_not, decide_eq_false_iff_not] at hb
        rw [if_neg (by rintro (z | z); exact hb.1 z; exact hb.2 z)] at hrd
        have hnin : valV kvs (.inr (tx a)) = none := val_none hks fun p hp z => hb.1 (by rw [← tx_inj z]; exact List.mem_map.mpr ⟨p, hp, rfl⟩)
        refine ⟨_, rfl, _, rfl, (nm9 rfl e10) H10 (Ex.refl _) _ fun H11 e11 => ⟨d, _, rfl, .inl ⟨kvs, .inr (tx a), (e10.trans e11) _ _ hd9, rfl, sz_lt (by omega), rfl⟩, ?_⟩⟩
        have g11 := e10.trans e11
        have nH : H d = none := by
          cases hq : H d with
          | none => rfl
          | some o => exact absurd ((e2.trans e3) _ _ hq) (by rw [nd]; simp)
        have n5 : l5 ≠ d := ne_of ((f79.trans g11) _ _ h57) (g11 _ _ hd9) (by simp)
        refine ⟨putK kvs (.inr (tx a)) (.ref t9), _, _, _, acc ++ [(a, b)], rfl, (e9.trans g11).mut nH, by rw [upd_ne n5]; exact (f79.trans g11) _ _ h57, upd_same, ?_, ?_, by rw [List.length_append]; show acc.length + 1 = i + 1; omega, by omega, ?_⟩
        · rw [putK_new _ hnin, List.map_append, hks, List.map_append]
          rfl
        · rw [putK_new _ hnin, List.map_append]
          refine prs_upd (fun t xs hx => ?_) (paired_app (hps7.ex (f79.trans g11)) (.cons ⟨t9, rfl, g11 _ _ ht9⟩ .nil))
          exact ne_of hx (g11 _ _ hd9) (by simp)
        · rw [hrd, show 1 + i + 1 = 1 + (i + 1) by omega]
    · obtain ⟨kvs, y4, y5, y6, acc, rfl, e6, h56, hd6, hks, hps, hal, hi10, hrd⟩ := hP
      rw [hlen, List.drop_length, rdB] at hrd
      refine ⟨_, rfl, _, rfl, d, kvs, rfl, hd6, fun b7 o7 nb7 td7 => ⟨by show 2 ≤ sizeLine; decide, fun t8 nt8 => ?_⟩⟩
      have f7 := Ex.new (o := .frz o7 (.tup (kvs.map (·.2)))) nb7
      have f8 := Ex.new (o := .tup [.int (n : Nat), .ref b7]) nt8
      refine q n acc (by rw [hres, hrd]) (.ref t8) _ (e6.trans (f7.trans f8)) fun G g => ?_
      have hB : BookF K (upd (upd _ b7 (.frz o7 (.tup (kvs.map (·.2))))) t8 (.tup [.int (n : Nat), .ref b7])) (.ref t8) n acc := ⟨t8, b7, _, rfl, upd_same, ⟨o7, td7, f8 _ _ upd_same⟩, hps.ex (f7.trans f8)⟩
      exact (hB.ex g).dp
end
end Hid

namespace Hid
open PySem PySem.Spec PyProof.Rows L2 Evl
/-- isinstance(e, (C, ..)), e an exception that was kept -/
def rIsXT (K : PySem.W.Frag) : List V → Hp → VK → Prop := fun xs H Q => ∃ (a D p : Addr) (cs : List Addr) (b : Bool), xs = [.ref a, .ref p] ∧ H a = some (ExcX a (.ref D) none) ∧ ExcC K D ∧ H p = some (.tup (cs.map V.ref)) ∧ PySem.W.kitAny K (.ref D) (cs.map Value.ref) = some b ∧ Q (.bl b) H
theorem refs_vals : ∀ {cs : List Addr} {its : List Value}, Vals (cs.map V.ref) its → its = cs.map Value.ref
  | [], _, .nil => rfl
  | _ :: _, _, .cons rx rr => by
    cases rx
    rw [refs_vals rr]
    rfl
theorem call_isXT {X : Cx} : CallR X (.builtin "isinstance") (rIsXT X.K) := by
  intro pins s σ H xs us Q I r h
  obtain ⟨a, D, p, cs, b, rfl, ha, C, hp, e, q⟩ := h
  cases r with
  | cons rx rr =>
    cases rr with
    | cons rt rr =>
      cases rr
      cases rx
      cases rt
      obtain ⟨⟨oe, vs, hget, hz, hv⟩, _⟩ := I.hok a _ ha
      have J : PySem.W.InstAt s.heap a oe D none := by
        obtain ⟨oc, od, oda, osl⟩ := oe
        obtain ⟨h1, h2⟩ := hz
        dsimp only at h1 h2 hv
        subst h1 h2 hv
        exact ⟨hget, rfl, rfl, trivial⟩
      obtain ⟨hlen, its, hv2, ⟨⟨tc, td, tda, tsl⟩, ho, hc, n, hd⟩⟩ := I.hok p _ hp
      dsimp only at hc hd
      subst hc hd
      obtain rfl := refs_vals hv2
      exact PySem.W.kia_tup (PySem.W.handS_kitx_exc C.hg C.hk C.hs C.hd C.ha C.hn C.ht C.hm) I.kIn J ho e (fun z => nomatch z) fun tk => ⟨.bl b, H, I.kept (t' := tk) fun _ _ z => z, rfl, q⟩
/-- l.count(x), by data -/
def rCountD (K : PySem.W.Frag) : V → List V → Hp → VK → Prop := fun x xs H Q => ∃ (a : Addr) (y : V) (d : PyData) (ds : List PyData), x = V.ref a ∧ xs = [y] ∧ Dp K H (V.ref a) (.list ds) ∧ Dp K H y d ∧
  SeqAt.shaped (.list ds) = true ∧ SeqAt.shaped d = true ∧ Q (.int (ds.countP fun z => PyData.eqv z d : Nat)) H
theorem mt_countD {X : Cx} (hu : X.A.units + 65 < cLine) : MtR X "list.count" (rCountD X.K) := by
  intro pins s σ H x xs v us Q I rx rxs h
  obtain ⟨a, y, d, ds, rfl, rfl, hl, hy, sl, sd, q⟩ := h
  cases rx
  cases rxs with
  | cons ry rt =>
    rename_i uy ut
    cases rt
    obtain ⟨bs, r1⟩ := Dp.reads I d y uy hy ry
    have hxs : PyData.canLayAll0 ds = true := SeqAt.canLay_of_shaped sl
    have hroom : X.A.units + 1 + min (PyData.depthAll ds) d.depth < cLine := room_in_shaped sd hu
    cases hl with
    | lst hs ha =>
      obtain ⟨its, rv, ⟨⟨cls, dd, data, sls⟩, n, ho, hc, hdn, hdt⟩, hlen⟩ := I.list hs
      simp only at hc hdt
      subst hc hdt
      obtain ⟨as, h4⟩ := Dp.readsAll I ds _ its ha rv
      have hmap : its.map (SeqAt.readOf s.heap) = ds := SeqAt.readsAll_map ds its as hxs h4
      refine call_meets PySem.F.slot_list_count ⟨_, ho, rfl⟩ PySem.F.entry_list_count (PySem.F.args_list_count_2 _ _)
        (SeqAt.list_countAt a its.toArray n dd sls uy (fun u => PyData.eqv (SeqAt.readOf s.heap u) d)) ⟨ho, SeqAt.items_eqAt (vs := its.toArray) (show ReadsAll s.heap its.toArray.toList ds as from h4) r1 hxs (SeqAt.canLay_of_shaped sd) hroom, ?_⟩
      have ec : its.toArray.toList.countP (fun u => PyData.eqv (SeqAt.readOf s.heap u) d) = ds.countP fun z => PyData.eqv z d := by
        rw [← hmap, List.countP_map]
        rfl
      refine ⟨.int (ds.countP fun z => PyData.eqv z d : Nat), H, I.tok _, ⟨s.toks, ?_⟩, q⟩
      rw [← ec]
/-- the i-th slot holds the def at f, which may raise -/
def tCallLS (i : Nat) (f : Addr) (sp : Sp) (E : L2.St → XK) (t : TA) : TE := fun σ H Q => σ[i]? = some (some (.ref f)) ∧ t σ H fun vs H1 => sp vs H1 Q (E σ)
section
variable {X : Cx} {CX : CXT} {k i : Nat} {f : Addr} {fd : FuncData} {ps : List Str} {sp : Sp} {E : L2.St → XK} {x : Str} {p pos : Pos} {e : Expr} {es : List Expr} {t : TA} {t1 t2 : TE}
theorem pe_callLS (F : FnOk X.prog X.w X.K X.mg X.base CX k f fd ps sp) (hr : Room k X.A) (hN : X.N[i]? = some x) (hv : Vis X.env.scope x) (hk : PySem.W.keepIn X.K (.ref f) = true) (hb : Binds X.K fd ps []) (hx : ∀ σ, PassesAt CX X σ (E σ)) (ha : PA X (e :: es) t)
    (hdb : (x == ("__debug__" : Str)) = false := by decide) (hcd : (x == ("__classdict__" : Str)) = false := by decide)
    (he : starEach (e :: es) X.env = (false, eval e X.env) :: starEach es X.env := by rfl) (hpl : (backTo pos (starEach es X.env)).any (·.1) = false := by rfl) : PE X (.Call (.Name x p) (e :: es) [] pos) (tCallLS i f sp E t) := by
  refine ⟨fun pins s σ H Q I h => ?_⟩
  obtain ⟨hs, ht⟩ := h
  refine wpAny_Call_Name_kw (thn ((pe_var (pos := p) hN hv hdb hcd).run pins s σ H (fun v H1 => v = .ref f ∧ H1 = H) I ⟨.ref f, hs, rfl, rfl⟩) fun u s1 ⟨v, H1, I1, r1, q1⟩ => ?_)
  obtain ⟨rfl, rfl⟩ := q1
  cases r1
  refine PySem.W.callWith_K (h₀ := X.base) I.ok.mod.kin hk (thn (ha.run pos pins s1 σ _ _ I1 ht) fun us s2 ⟨vs, H2, I2, r, q⟩ => ⟨I2.kIn, ?_⟩) he hpl
  exact run_fnS F hr hb (hx σ) I2 r q
def tOrE (t1 t2 : TE) : TE := fun σ H Q => t1 σ H Q ∨ t2 σ H Q
theorem pe_orE {e : Expr} (h1 : PE X e t1) (h2 : PE X e t2) : PE X e (tOrE t1 t2) := ⟨fun pins s σ H Q I h => h.elim (fun z => h1.run pins s σ H Q I z) fun z => h2.run pins s σ H Q I z⟩
end
/-- a def at an address that may raise, and what it promises -/
def HeldX (P : Program) (w : World) (K : PySem.W.Frag) (mg : Str → Option Value) (base : Heap) (k : Nat) (f : Addr) (ps : List Str) (sp : Sp) : Prop := ∃ fd, FnOk P w K mg base (L2.CX P w) k f fd ps sp ∧ PySem.W.keepIn K (.ref f) = true ∧ Binds K fd ps []
section
variable {K : PySem.W.Frag} {σ : L2.St} {H : Hp} {ta : TE} {tc : TA}
theorem ev_isXT {a D : Addr} {cs : List Addr} {b : Bool} (ha : Ev ta σ H (.ref a)) (hc : EvA tc σ H (cs.map V.ref)) (hl : cs.length ≤ 100) (hx : H a = some (ExcX a (.ref D) none)) (C : ExcC K D) (e : PySem.W.kitAny K (.ref D) (cs.map Value.ref) = some b) : Ev (tCB (rIsXT K) (tCons ta (tCons (tTup tc) tNil))) σ H (.bl b) := fun H1 e1 Q q =>
  ha H1 e1 _ fun H2 e2 => (eu_tup hc (by rw [List.length_map]; omega)) H2 (e1.trans e2) _ fun p H3 np e3 h3 => ⟨a, D, p, cs, b, rfl, e3 _ _ (e2 _ _ (e1 _ _ hx)), C, h3, e, q H3 (e2.trans e3)⟩
end
end Hid
namespace Hid
open L2
theorem u65 {k : Nat} {A : PySem.Around} (r : Room k A) : A.units + 65 < PySem.cLine := by have := r.un; omega
end Hid

namespace Hid
open PySem PySem.Spec PyProof.Rows L2 Evl
open L2H (RoomH PinOk cxH inv_startH)
/-! defs called from an except suite, with the refusal that the suite holds among what they are handed: p is that refusal -/
structure FnP (P : Program) (w : World) (K : PySem.W.Frag) (mg : Str → Option Value) (base : Heap) (k : Nat) (f : Addr) (fd : FuncData) (ps : List Str) (sp : Addr × Obj → Sp) : Prop where
  len : ∀ p vs H Q, sp p vs H Q E0 → vs.length = ps.length
  run : ∀ (A : Around) (outer : List Env) (s : Shared) (H : Hp) (us : List Value) (vs : List V) (Q : VK) (p : Addr × Obj), RoomH k A → PinOk outer H s p → Env0 P w K mg base A outer s H →
    BindsTo s fd ⟨us, []⟩ (ps.zip us) → Vals vs us → sp p vs H Q E0 → codeAny (model P w) A (.call (.ref f) ⟨us, []⟩) (CR CX0 outer P w H s Q E0) s
def AtP (P : Program) (w : World) (K : PySem.W.Frag) (mg : Str → Option Value) (base : Heap) (x : Str) (st : Stmt) (n : Nat) (ps : List Str) (sp : Addr × Obj → Sp) : Prop :=
  ∃ (f : Addr) (fd : FuncData), Fun K x x st f fd ∧ Binds K fd ps [] ∧ mg x = some (.ref f) ∧ FnP P w K mg base n f fd ps sp
theorem rmH {k : Nat} {A : Around} {v : Option Value} (r : Room k A) : RoomH k (A.mark v) := ⟨r.dp, r.un⟩
section
variable {P : Program} {w : World} {K : PySem.W.Frag} {mg : Str → Option Value} {base : Heap}
theorem okP {x qual : Str} {st : Stmt} {f : Addr} {fd : FuncData} {N ps : List Str} {k : Nat} {sp : Addr × Obj → Sp} (F : Fun K x qual st f fd) (S : FnScope N ps (defScope st)) (len : ∀ p vs H Q, sp p vs H Q E0 → vs.length = ps.length)
    (body : ∀ (cdv : Value) (A : Around) (outer : List Env) (s : Shared) (H : Hp) (vs : List V) (Q : VK) (p : Addr × Obj), RoomH k (A.deeper (envOfC qual (defScope st) s.heap.objs.size f cdv)) → sp p vs H Q E0 →
      ∃ t, PSs (cxH CX0 P w K mg base N qual (defScope st) f cdv A outer s H E0 p) (defBody st) t ∧ t { nx := fun _ H' => Q .non H', rt := Q } (L2.start N vs) H) : FnP P w K mg base (k + 1) f fd ps sp := by
  obtain ⟨oc, od, kV, doc, pm, an, cdv, ct, osl, rfl, lk, hcd⟩ := F.ex
  refine ⟨len, fun A outer s H us vs Q p hr pin e0 hb r h => ?_⟩
  have nl := len _ _ _ _ h
  have kin : K.In s.heap := e0.mod.kin.keeps fun b o z => (e0.bs b o z).1
  have nolim : s.heap.NoLimit := e0.mod.nolimit.keeps fun b o z => (e0.bs b o z).1
  refine codeAny_call_function hr.depth (kin _ _ lk) rfl S.co S.gen rfl (PySem.W.codeRec_of kin hcd) (hb _ _ _ _ (wpAny_newFunctionEnv_cells S.kind (fun y hy => ?_) fun env he s1 x => ?_))
  · exact (S.par y.1 (List.of_mem_zip (show (y.1, y.2) ∈ ps.zip us from hy)).1).elim .inl fun z => .inr ⟨z, PySem.W.cellsFrom_some _ _ _ (.inl z)⟩
  · subst he
    obtain ⟨t, ht, q⟩ := body cdv A outer s H vs Q p (hr.deeper _) h
    have J := inv_startH (CX := CX0) (P := P) (w := w) (K := K) (mg := mg) (base := base) (N := N) (f := f) (A := A) (E := E0) S pin e0 nl r x
    refine ⟨nolim.keeps x.toInCall.keep, codeAny_func (wpAny_mono (ht.run [] s1 (L2.start N vs) H _ J q) (fun fl s' z => ?_) fun e s' z => z)⟩
    cases fl with
    | ret u => obtain ⟨v, σ', H', J', rv, q'⟩ := z; exact ⟨v, H', J'.os, J'.bare, J'.base, J'.hok, rv, q'⟩
    | next => obtain ⟨σ', H', J', q'⟩ := z; exact ⟨V.non, H', J'.os, J'.bare, J'.base, J'.hok, rfl, q'⟩
    | brk => exact z.elim fun _ z => z.elim fun _ z => z.2.elim
    | cont => exact z.elim fun _ z => z.elim fun _ z => z.2.elim
end
def tCallP (sp : Addr × Obj → Sp) (a : Addr) (cls : Value) (d : Option Addr) (t : TA) : TE := fun σ H Q => t σ H fun vs H1 => ∀ oe : Obj, Zc cls d oe → (∃ us, oe.data = .fields us) → sp (a, oe) vs H1 Q E0
section
variable {X : Cx} {k : Nat} {f : Addr} {fd : FuncData} {ps : List Str} {sp : Addr × Obj → Sp} {x : Str} {q pos : Pos} {e : Expr} {es : List Expr} {t : TA} {a : Addr} {oe : Obj} {cls : Value} {d : Option Addr}
theorem pe_callP (F : FnP X.prog X.w X.K X.mg X.base k f fd ps sp) (hr : RoomH k X.A) (hp : (a, oe) ∈ X.pn) (hz : Zc cls d oe) (hf : ∃ us, oe.data = .fields us) (hg : Gl X x) (hm : X.mg x = some (.ref f)) (hk : PySem.W.keepIn X.K (.ref f) = true) (hb : Binds X.K fd ps [])
    (ha : PA X (e :: es) t) (hdb : (x == ("__debug__" : Str)) = false := by decide) (he : starEach (e :: es) X.env = (false, eval e X.env) :: starEach es X.env := by rfl) (hpl : (backTo pos (starEach es X.env)).any (·.1) = false := by rfl) :
    PE X (.Call (.Name x q) (e :: es) [] pos) (tCallP sp a cls d t) := by
  refine ⟨fun pins s σ H Q I h => wpAny_Call_Name_kw (ld_glob I hg hm (PySem.W.callWith_K (h₀ := X.base) I.ok.mod.kin hk (thn (ha.run pos pins s σ H _ I h) fun us s1 ⟨vs, H1, I1, r, q0⟩ => ⟨I1.kIn, ?_⟩) he hpl) hdb)⟩
  have q1 := q0 oe hz hf
  have b := hb s1 us I1.kIn (by rw [List.append_nil, ← r.length]; exact F.len _ _ _ _ q1)
  rw [List.append_nil] at b
  obtain ⟨g1, g2, g3, g4, g5⟩ := I1.pin (a, oe) (List.mem_append_left _ hp)
  refine wpAny_call (codeAny_mono (F.run X.A X.stack s1 H1 us vs Q (a, oe) hr ⟨g1, g2, fun z => (List.mem_cons.mp (I1.stkSub a z)).elim g3 g4, g5⟩ I1.env0 b r q1) fun r' s' z => ?_)
  cases r' with
  | error er => exact z.elim
  | ok fl =>
    cases fl with
    | ret u => exact I1.after z
    | next => exact z.elim
    | brk => exact z.elim
    | cont => exact z.elim
end
/-! what the refusal's own dict is: none, or one that is told -/
def DxOk (d : Option Addr) (H : Hp) : Prop := d = none ∨ ∃ dd fs, d = some dd ∧ H dd = some (.xd fs)
theorem DxOk.ex {d : Option Addr} {H H' : Hp} (h : DxOk d H) (e : Ex H H') : DxOk d H' := h.imp id fun ⟨dd, fs, h1, h2⟩ => ⟨dd, fs, h1, e _ _ h2⟩
theorem inst_of {X : Cx} {a D : Addr} {oe : Obj} {d : Option Addr} {pins : List (Addr × Obj)} {σ : L2.St} {H : Hp} {s : Shared} (hp : (a, oe) ∈ X.pn) (hz : Zc (.ref D) d oe) (hf : ∃ vs, oe.data = .fields vs) (I : Inv X pins σ H s) (hd : DxOk d H) :
    ∃ od, PySem.W.InstAt s.heap a oe D od := by
  obtain ⟨g1, _⟩ := I.pin (a, oe) (List.mem_append_left _ hp)
  obtain ⟨vs, hv⟩ := hf
  have nc : PySem.W.notCls oe = true := by unfold PySem.W.notCls; rw [hv] <;> rfl
  rcases hd with rfl | ⟨dd, fs, rfl, hx⟩
  · exact ⟨none, g1, hz.1, nc, by rw [hz.2]; exact trivial⟩
  · have ox : ObjOk X.prog X.w H s.heap dd (.xd fs) := I.hok dd _ hx
    obtain ⟨mA, hns, _⟩ := ox
    obtain ⟨od, ho, _⟩ := lookIn_ns hns
    exact ⟨some od, g1, hz.1, nc, by rw [hz.2]; exact ho⟩
def rIsP (K : PySem.W.Frag) (cls : Value) (d : Option Addr) (a : Addr) : List V → Hp → VK → Prop := fun xs H Q => ∃ (D : Addr) (c : V) (cv : Value) (b : Bool), (cls = .ref D ∧ ExcC K D ∧ DxOk d H) ∧ xs = [.ref a, c] ∧ (∀ u, RelV c u → u = cv) ∧ PySem.W.kitOne K (.ref D) cv = some b ∧ Q (.bl b) H
def rIsPT (K : PySem.W.Frag) (cls : Value) (d : Option Addr) (a : Addr) : List V → Hp → VK → Prop := fun xs H Q => ∃ (D p : Addr) (cs : List Addr) (b : Bool), (cls = .ref D ∧ ExcC K D ∧ DxOk d H) ∧ xs = [.ref a, .ref p] ∧ H p = some (.tup (cs.map V.ref)) ∧ PySem.W.kitAny K (.ref D) (cs.map Value.ref) = some b ∧ Q (.bl b) H
theorem kit_of {K : PySem.W.Frag} {D : Addr} {x : Addr} {ox : Obj} {od : Option Obj} (C : ExcC K D) : PySem.W.KitX K (.ref x) (.ref D) (fun h => PySem.W.InstAt h x ox D od) :=
  PySem.W.kitx_exc (by obtain ⟨cd, hc, _⟩ := PySem.W.any_some C.hd; rw [hc]; rfl) C.hg C.hk C.hs C.ha C.hn C.ht C.hm
theorem call_isP {X : Cx} {a : Addr} {cls : Value} {d : Option Addr} {oe : Obj} (hp : (a, oe) ∈ X.pn) (hz : Zc cls d oe) (hf : ∃ vs, oe.data = .fields vs) : CallR X (.builtin "isinstance") (rIsP X.K cls d a) := by
  intro pins s σ H xs us Q I r h
  obtain ⟨D, c, cv, b, ⟨rfl, C, hd⟩, rfl, hcv, e, q⟩ := h
  match us, r with
  | [_, u], .cons rx (.cons rt .nil) =>
    cases rx
    obtain rfl := hcv _ rt
    obtain ⟨od, J⟩ := inst_of hp hz hf I hd
    exact PySem.W.kia_one (kit_of C) I.kIn J e (fun z => nomatch z) fun tk => ⟨.bl b, H, I.kept (t' := tk) fun _ _ z => z, rfl, q⟩
theorem call_isPT {X : Cx} {a : Addr} {cls : Value} {d : Option Addr} {oe : Obj} (hp : (a, oe) ∈ X.pn) (hz : Zc cls d oe) (hf : ∃ vs, oe.data = .fields vs) : CallR X (.builtin "isinstance") (rIsPT X.K cls d a) := by
  intro pins s σ H xs us Q I r h
  obtain ⟨D, p, cs, b, ⟨rfl, C, hd⟩, rfl, ht, e, q⟩ := h
  match us, r with
  | [_, u], .cons rx (.cons rt .nil) =>
    cases rx
    cases rt
    obtain ⟨od, J⟩ := inst_of hp hz hf I hd
    obtain ⟨hlen, its, hv2, ⟨⟨tc, td, tda, tsl⟩, ho, hc, n, hdt⟩⟩ := I.hok p _ ht
    dsimp only at hc hdt
    subst hc hdt
    obtain rfl := refs_vals hv2
    exact PySem.W.kia_tup (kit_of C) I.kIn J ho e (fun z => nomatch z) fun tk => ⟨.bl b, H, I.kept (t' := tk) fun _ _ z => z, rfl, q⟩
/-- e.f, e the refusal -/
theorem pe_fldP {X : Cx} {a C : Addr} {oe : Obj} {cls : Value} {d : Option Addr} {e : Expr} {te : TE} {pos : Pos} {n : Str} (T : XfC X.K C) (hno : PySem.W.findIn X.K (.ref C) n = some none) (hp : (a, oe) ∈ X.pn)
    (hz : Zc cls d oe) (hf : ∃ vs, oe.data = .fields vs) (he : PE X e te) (hb : attributeBase e n X.env (eval e X.env) = eval e X.env := by rfl) : PE X (.Attribute e n pos) (tXf a cls d C n te) := by
  refine ⟨fun pins s σ H Q I h => attr_of hb (thn (he.run pins s σ H _ I h) fun u s1 z => ?_)⟩
  obtain ⟨x, H1, I1, rx, rfl, rfl, dd, fs, v, rfl, ea, l, q⟩ := z
  obtain rfl : u = Value.ref a := rx
  obtain ⟨g1, _⟩ := I1.pin (a, oe) (List.mem_append_left _ hp)
  obtain ⟨vs, hv⟩ := hf
  have ox : ObjOk X.prog X.w H1 s1.heap dd (.xd fs) := I1.hok dd _ ea
  obtain ⟨mA, hns, hr⟩ := ox
  obtain ⟨od, ho, hl⟩ := lookIn_ns hns
  obtain ⟨u, hu, ru⟩ := RelO.some_of (v := v) (o := mA n) (by rw [← l]; exact hr n)
  exact HandSPX.exc_get I1.kIn (⟨g1, hz.1, (by unfold PySem.W.notCls; rw [hv] <;> rfl), by rw [hz.2]; exact ho⟩ : PySem.W.InstAt s1.heap a oe C (some od)) T.ga T.gg T.exC (PySem.W.findObj_own T.hdC hno rfl (by rw [hl, hu])) (handed_of ru) ⟨v, H1, I1.tok _, ru, q⟩
section
variable {K : PySem.W.Frag} {σ : L2.St} {H : Hp} {ta tb tc : TE} {a D : Addr} {d : Option Addr}
theorem ev_isP {c : V} {cv : Value} {b : Bool} (ha : Ev ta σ H (.ref a)) (hc : Ev tc σ H c) (C : ExcC K D) (hd : DxOk d H) (hcv : ∀ u, RelV c u → u = cv) (e : PySem.W.kitOne K (.ref D) cv = some b) : Ev (tCB (rIsP K (.ref D) d a) (tCons ta (tCons tc tNil))) σ H (.bl b) := fun H1 e1 Q q =>
  ha H1 e1 _ fun H2 e2 => hc H2 (e1.trans e2) _ fun H3 e3 => ⟨D, c, cv, b, ⟨rfl, C, hd.ex (e1.trans (e2.trans e3))⟩, rfl, hcv, e, q H3 (e2.trans e3)⟩
theorem ev_isPr {C' : Addr} {b : Bool} (ha : Ev ta σ H (.ref a)) (C : ExcC K D) (hd : DxOk d H) (e : PySem.W.kitOne K (.ref D) (.ref C') = some b) : Ev (tCB (rIsP K (.ref D) d a) (tCons ta (tCons (tC (.ref C')) tNil))) σ H (.bl b) := ev_isP ha ev_c C hd (fun u r => r) e
theorem ev_isPt {n : String} {b : Bool} (ha : Ev ta σ H (.ref a)) (C : ExcC K D) (hd : DxOk d H) (e : PySem.W.kitOne K (.ref D) (.type n) = some b) : Ev (tCB (rIsP K (.ref D) d a) (tCons ta (tCons (tC (.ty n)) tNil))) σ H (.bl b) := ev_isP ha ev_c C hd (fun u r => r) e
theorem ev_isPT {ts : TA} {cs : List Addr} {b : Bool} (ha : Ev ta σ H (.ref a)) (ht : EvA ts σ H (cs.map V.ref)) (hl : cs.length ≤ 100) (C : ExcC K D) (hd : DxOk d H) (e : PySem.W.kitAny K (.ref D) (cs.map Value.ref) = some b) : Ev (tCB (rIsPT K (.ref D) d a) (tCons ta (tCons (tTup ts) tNil))) σ H (.bl b) := fun H1 e1 Q q =>
  ha H1 e1 _ fun H2 e2 => (eu_tup ht (by rw [List.length_map]; omega)) H2 (e1.trans e2) _ fun p H3 np e3 h3 => ⟨D, p, cs, b, ⟨rfl, C, hd.ex (e1.trans (e2.trans e3))⟩, rfl, h3, e, q H3 (e2.trans e3)⟩
theorem ev_callP {sp : Addr × Obj → Sp} {cls : Value} {ts : TA} {vs : List V} {z : V} (h : EvA ts σ H vs) (hs : ∀ H1, Ex H H1 → ∀ oe : Obj, Zc cls d oe → (∃ us, oe.data = .fields us) → ∀ Q : VK, (∀ H2, Ex H1 H2 → Q z H2) → sp (a, oe) vs H1 Q E0) : Ev (tCallP sp a cls d ts) σ H z := fun H1 e Q q =>
  h H1 e _ fun H2 e2 oe hz hf => hs H2 (e.trans e2) oe hz hf _ fun H3 e3 => q H3 (e2.trans e3)
end
end Hid

namespace Hid
open PySem PySem.Spec PyProof.Rows L2 Evl
/-! the field of a refusal that is kept behind its suite -/
def tFldX (K : PySem.W.Frag) (n : Str) (te : TE) : TE := fun σ H Q => te σ H fun x H1 => ∃ (a C dd : Addr) (fs : List (Str × V)) (v : V), x = .ref a ∧ H1 a = some (ExcX a (.ref C) (some dd)) ∧ XfC K C ∧ PySem.W.findIn K (.ref C) n = some none ∧ H1 dd = some (.xd fs) ∧ fs.lookup n = some v ∧ Q v H1
theorem pe_fldX {X : Cx} {e : Expr} {te : TE} {pos : Pos} {n : Str} (he : PE X e te) (hb : attributeBase e n X.env (eval e X.env) = eval e X.env := by rfl) : PE X (.Attribute e n pos) (tFldX X.K n te) := by
  refine ⟨fun pins s σ H Q I h => attr_of hb (thn (he.run pins s σ H _ I h) fun u s1 z => ?_)⟩
  obtain ⟨x, H1, I1, rx, a, C, dd, fs, v, rfl, ha, T, hno, ea, l, q⟩ := z
  obtain rfl : u = Value.ref a := rx
  obtain ⟨⟨oe, vs, hget, hz, hv⟩, _⟩ := I1.hok a _ ha
  have ox : ObjOk X.prog X.w H1 s1.heap dd (.xd fs) := I1.hok dd _ ea
  obtain ⟨mA, hns, hr⟩ := ox
  obtain ⟨od, ho, hl⟩ := lookIn_ns hns
  obtain ⟨u, hu, ru⟩ := RelO.some_of (v := v) (o := mA n) (by rw [← l]; exact hr n)
  exact HandSPX.exc_get I1.kIn (⟨hget, hz.1, (by unfold PySem.W.notCls; rw [hv] <;> rfl), by rw [hz.2]; exact ho⟩ : PySem.W.InstAt s1.heap a oe C (some od)) T.ga T.gg T.exC (PySem.W.findObj_own T.hdC hno rfl (by rw [hl, hu])) (handed_of ru) ⟨v, H1, I1.tok _, ru, q⟩
end Hid

namespace Hid
open PySem PySem.Spec PyProof.Rows L2 Evl
/-! isinstance of a kept refusal that has a field, behind its suite -/
theorem instX {X : Cx} {a D dd : Addr} {fs : List (Str × V)} {pins : List (Addr × Obj)} {σ : L2.St} {H : Hp} {s : Shared} (I : Inv X pins σ H s) (ha : H a = some (ExcX a (.ref D) (some dd))) (hd : H dd = some (.xd fs)) : ∃ oe od, PySem.W.InstAt s.heap a oe D od := by
  obtain ⟨⟨oe, vs, hget, hz, hv⟩, _⟩ := I.hok a _ ha
  have ox : ObjOk X.prog X.w H s.heap dd (.xd fs) := I.hok dd _ hd
  obtain ⟨mA, hns, _⟩ := ox
  obtain ⟨od, ho, _⟩ := lookIn_ns hns
  exact ⟨oe, some od, hget, hz.1, (by unfold PySem.W.notCls; rw [hv] <;> rfl), by rw [hz.2]; exact ho⟩
def rIsXD (K : PySem.W.Frag) : List V → Hp → VK → Prop := fun xs H Q => ∃ (a D dd : Addr) (fs : List (Str × V)) (c : V) (cv : Value) (b : Bool), xs = [.ref a, c] ∧ H a = some (ExcX a (.ref D) (some dd)) ∧ H dd = some (.xd fs) ∧ ExcC K D ∧ (∀ u, RelV c u → u = cv) ∧ PySem.W.kitOne K (.ref D) cv = some b ∧ Q (.bl b) H
def rIsXDT (K : PySem.W.Frag) : List V → Hp → VK → Prop := fun xs H Q => ∃ (a D dd p : Addr) (fs : List (Str × V)) (cs : List Addr) (b : Bool), xs = [.ref a, .ref p] ∧ H a = some (ExcX a (.ref D) (some dd)) ∧ H dd = some (.xd fs) ∧ ExcC K D ∧ H p = some (.tup (cs.map V.ref)) ∧ PySem.W.kitAny K (.ref D) (cs.map Value.ref) = some b ∧ Q (.bl b) H
theorem call_isXD {X : Cx} : CallR X (.builtin "isinstance") (rIsXD X.K) := by
  intro pins s σ H xs us Q I r h
  obtain ⟨a, D, dd, fs, c, cv, b, rfl, ha, hd, C, hcv, e, q⟩ := h
  match us, r with
  | [_, u], .cons rx (.cons rt .nil) =>
    cases rx
    obtain rfl := hcv _ rt
    obtain ⟨oe, od, J⟩ := instX I ha hd
    exact PySem.W.kia_one (kit_of C) I.kIn J e (fun z => nomatch z) fun tk => ⟨.bl b, H, I.kept (t' := tk) fun _ _ z => z, rfl, q⟩
theorem call_isXDT {X : Cx} : CallR X (.builtin "isinstance") (rIsXDT X.K) := by
  intro pins s σ H xs us Q I r h
  obtain ⟨a, D, dd, p, fs, cs, b, rfl, ha, hd, C, ht, e, q⟩ := h
  match us, r with
  | [_, u], .cons rx (.cons rt .nil) =>
    cases rx
    cases rt
    obtain ⟨oe, od, J⟩ := instX I ha hd
    obtain ⟨hlen, its, hv2, ⟨⟨tc, td, tda, tsl⟩, ho, hc, n, hdt⟩⟩ := I.hok p _ ht
    dsimp only at hc hdt
    subst hc hdt
    obtain rfl := refs_vals hv2
    exact PySem.W.kia_tup (kit_of C) I.kIn J ho e (fun z => nomatch z) fun tk => ⟨.bl b, H, I.kept (t' := tk) fun _ _ z => z, rfl, q⟩
section
variable {K : PySem.W.Frag} {σ : L2.St} {H : Hp} {ta tc : TE} {ts : TA} {a D dd : Addr} {fs : List (Str × V)}
theorem ev_isXD {c : V} {cv : Value} {b : Bool} (ha : Ev ta σ H (.ref a)) (hc : Ev tc σ H c) (hx : H a = some (ExcX a (.ref D) (some dd))) (hd : H dd = some (.xd fs)) (C : ExcC K D) (hcv : ∀ u, RelV c u → u = cv) (e : PySem.W.kitOne K (.ref D) cv = some b) : Ev (tCB (rIsXD K) (tCons ta (tCons tc tNil))) σ H (.bl b) := fun H1 e1 Q q =>
  ha H1 e1 _ fun H2 e2 => hc H2 (e1.trans e2) _ fun H3 e3 => ⟨a, D, dd, fs, c, cv, b, rfl, (e1.trans (e2.trans e3)) _ _ hx, (e1.trans (e2.trans e3)) _ _ hd, C, hcv, e, q H3 (e2.trans e3)⟩
theorem ev_isXDr {C' : Addr} {b : Bool} (ha : Ev ta σ H (.ref a)) (hx : H a = some (ExcX a (.ref D) (some dd))) (hd : H dd = some (.xd fs)) (C : ExcC K D) (e : PySem.W.kitOne K (.ref D) (.ref C') = some b) : Ev (tCB (rIsXD K) (tCons ta (tCons (tC (.ref C')) tNil))) σ H (.bl b) := ev_isXD ha ev_c hx hd C (fun u r => r) e
theorem ev_isXDt {n : String} {b : Bool} (ha : Ev ta σ H (.ref a)) (hx : H a = some (ExcX a (.ref D) (some dd))) (hd : H dd = some (.xd fs)) (C : ExcC K D) (e : PySem.W.kitOne K (.ref D) (.type n) = some b) : Ev (tCB (rIsXD K) (tCons ta (tCons (tC (.ty n)) tNil))) σ H (.bl b) := ev_isXD ha ev_c hx hd C (fun u r => r) e
theorem ev_isXDT {cs : List Addr} {b : Bool} (ha : Ev ta σ H (.ref a)) (ht : EvA ts σ H (cs.map V.ref)) (hl : cs.length ≤ 100) (hx : H a = some (ExcX a (.ref D) (some dd))) (hd : H dd = some (.xd fs)) (C : ExcC K D) (e : PySem.W.kitAny K (.ref D) (cs.map Value.ref) = some b) : Ev (tCB (rIsXDT K) (tCons ta (tCons (tTup ts) tNil))) σ H (.bl b) := fun H1 e1 Q q =>
  ha H1 e1 _ fun H2 e2 => (eu_tup ht (by rw [List.length_map]; omega)) H2 (e1.trans e2) _ fun p H3 _ e3 hp => ⟨a, D, dd, p, fs, cs, b, rfl, (e1.trans (e2.trans e3)) _ _ hx, (e1.trans (e2.trans e3)) _ _ hd, C, hp, e, q H3 (e2.trans e3)⟩
theorem ev_fldX {f : Str} {v : V} (h : Ev ta σ H (.ref a)) (ha : H a = some (ExcX a (.ref D) (some dd))) (T : XfC K D) (hno : PySem.W.findIn K (.ref D) f = some none) (hd : H dd = some (.xd [(f, v)])) : Ev (tFldX K f ta) σ H v := fun H1 e Q q =>
  h H1 e _ fun H2 e2 => ⟨a, D, dd, _, v, rfl, (e.trans e2) _ _ ha, T, hno, (e.trans e2) _ _ hd, by simp [List.lookup], q H2 e2⟩
end
end Hid

namespace Hid
open PySem PySem.Spec PyProof.Rows L2 Evl
theorem rv_cat {H : Hp} {a o : List Nat} (ha : a.length ≤ 1000) (ho : o.length ≤ 1000) : RV (fun x y H Q => ∃ i j, x = .str i ∧ y = .str j ∧ i.length + j.length ≤ sizeLine ∧ Q (.str (i ++ j)) H) (.str (tx a)) (.str (tx o)) H (.str (tx (a ++ o))) := fun H1 e Q q => by
  refine ⟨tx a, tx o, rfl, rfl, ?_, ?_⟩
  · show a.toArray.size + o.toArray.size ≤ sizeLine
    rw [List.size_toArray, List.size_toArray]
    exact Nat.le_trans (Nat.add_le_add ha ho) (by decide)
  · have : tx a ++ tx o = tx (a ++ o) := by
      show (⟨a.toArray ++ o.toArray⟩ : Str) = ⟨(a ++ o).toArray⟩
      rw [List.append_toArray]
    rw [this]
    exact q H1 (Ex.refl _)
theorem flat_tx : ∀ l : List (List Nat), (l.map fun h => V.str (tx h)).all flatV = true
  | [] => rfl
  | _ :: l => flat_tx l
theorem inV_tx (k : List Nat) : ∀ l : List (List Nat), inV (.str (tx k)) (l.map fun h => V.str (tx h)) = decide (k ∈ l)
  | [] => rfl
  | a :: l => by
    show (decide (tx a = tx k) || inV (.str (tx k)) (l.map fun h => V.str (tx h))) = _
    rw [inV_tx k l]
    by_cases h : k = a
    · rw [h]; simp
    · have : ¬ tx a = tx k := fun z => h (tx_inj z).symm
      simp [h, this]
theorem idxL_at {L : List (List Nat)} {p : List Nat} (h : p ∈ L) : L[L.idxOf p]? = some p := by
  have hl := List.idxOf_lt_length_of_mem h
  rw [List.getElem?_eq_getElem hl, List.getElem_idxOf]
theorem idxL_before {L : List (List Nat)} {p z : List Nat} {m : Nat} (h : m < L.idxOf p) (hz : L[m]? = some z) : z ≠ p := by
  intro e
  obtain ⟨a, b⟩ := List.getElem?_eq_some_iff.mp hz
  have := List.not_of_lt_findIdx (p := (· == p)) (xs := L) h
  rw [b, e] at this
  simp at this
theorem txs_flat (U : List (List Nat)) : (U.map fun r => V.str (tx r)).all flatV = true := by
  rw [List.all_eq_true]
  intro v hv
  obtain ⟨r, _, rfl⟩ := List.mem_map.mp hv
  rfl
def firsts : List (List Nat) := (List.range 8).map fun k => lineP (k + 1)
theorem plc_in {l : List Nat} {n : Nat} (h : plcO l = some n) : l ∈ firsts ∧ 1 + firsts.idxOf l = n := by
  obtain ⟨e, h1, h8⟩ := plcO_some h
  have key : ∀ k < 8, lineP (k + 1) ∈ firsts ∧ 1 + firsts.idxOf (lineP (k + 1)) = k + 1 := by decide
  have := key (n - 1) (by omega)
  rw [show n - 1 + 1 = n by omega, ← e] at this
  exact this
theorem plc_out {l : List Nat} (h : plcO l = none) : l ∉ firsts := fun hm => by
  obtain ⟨k, hk, e⟩ := List.mem_map.mp hm
  have := List.mem_range.mp hk
  exact plcO_none h (k + 1) (by omega) (by omega) e.symm
section
variable {K : PySem.W.Frag} {σ : L2.St} {H : Hp} {ta tb tc te tl : TE} {t : TT} {D : Ends} {tu tz : L2.TS} {ts : TA}
theorem el_lcS {z : Str} {j : Nat} {vs : List Nat} (f : Nat → Bool) (v : Nat → V) (h : Ev tl σ H (.str z)) (hz : z.cps.size ≤ 40000) (hw : ∀ x, wipe ((wipe σ vs).set j (some x)) vs = wipe σ vs)
    (ht : ∀ (i c : Nat) H1, Ex H H1 → z.cps[i]? = some c → EvT t ((wipe σ vs).set j (some (.str ⟨#[c]⟩))) H1 (f i)) (he : ∀ (i c : Nat) H1, Ex H H1 → z.cps[i]? = some c → f i = true → Ev te ((wipe σ vs).set j (some (.str ⟨#[c]⟩))) H1 (v i)) :
    EvL (tLc (iStr tl) (gName j) t te vs) σ H (given z.cps.size f v) := fun H0 e Q q => h H0 e _ fun H1 e1 => ⟨z, rfl, fun Dl hD =>
  lc_it walk_str (Cw H1 f v Dl) ⟨hD, Ex.new hD, upd_same⟩ (fun _ _ _ _ => trivial) (fun i x H2 H2' hi p hY => by
      obtain ⟨rfl, c, hc, rfl⟩ := hY
      exact ⟨hw _, cw_turn p (by omega) (ht i c H1 (e.trans e1) hc) (fun hf => he i c H1 (e.trans e1) hc hf)⟩)
    (fun H' p => q Dl H' (fresh_back e1 p.1) (e1.trans p.2.1) p.2.2)⟩
theorem ev_indexT {a : Addr} {U : List (List Nat)} {r : List Nat} (hl : Ev tl σ H (.ref a)) (hy : Ev te σ H (.str (tx r))) (ha : SqL K H a (U.map fun r => V.str (tx r))) (hm : r ∈ U) : Ev (tBM K "list" (rIndex K) tl (tCons te tNil)) σ H (.int (U.idxOf r : Nat)) := fun H1 e Q q =>
  hl H1 e _ fun H2 e2 => ⟨.inl ⟨rfl, _, ex_l (e.trans e2) ha⟩, hy H2 (e.trans e2) _ fun H3 e3 => by
    have E := e.trans (e2.trans e3)
    refine ⟨a, U.map fun r => V.str (tx r), .str (tx r), U.idxOf r, .str (tx r), rfl, rfl, ex_l E ha, rfl, txs_flat U, ?_, ?_, fun m z' hm' hz => ?_, q H3 (e2.trans e3)⟩
    · rw [List.getElem?_map, idxL_at hm]; rfl
    · show (tx r == tx r) = true
      exact beq_self_eq_true _
    · rw [List.getElem?_map] at hz
      obtain ⟨w, hw, rfl⟩ := Option.map_eq_some_iff.mp hz
      show (tx w == tx r) = false
      refine beq_eq_false_iff_ne.mpr fun e9 => idxL_before hm' hw ?_
      have := congrArg (fun z : Str => z.cps.toList) e9
      simpa [tx_toList] using this⟩
theorem q_par2 {i j : Nat} {x y : V} (h : Ev ta σ H x) (h2 : Ev tb σ H y) (k : ∀ H1, Ex H H1 → tz D ((σ.set i (some x)).set j (some y)) H1) : tSeq (tPar i j (tCons ta (tCons tb tNil))) tz D σ H :=
  h H (Ex.refl _) _ fun H1 e1 => h2 H1 e1 _ fun H2 e2 => ⟨x, y, rfl, k H2 (e1.trans e2)⟩
theorem ev_strI {n : Nat} (hn : 1 ≤ n ∧ n ≤ 8) (ha : Ev ta σ H (.int (n : Nat))) : Ev (tCB (fun xs H Q => ∃ i : Int, xs = [V.int i] ∧ i.natAbs.log2 < 1920 ∧ Q (.str (toString i)) H) (tCons ta tNil)) σ H (.str (sg1 (48 + n))) := fun H1 e Q q =>
  ha H1 e _ fun H2 e2 => ⟨(n : Int), rfl, by
    have : n = 1 ∨ n = 2 ∨ n = 3 ∨ n = 4 ∨ n = 5 ∨ n = 6 ∨ n = 7 ∨ n = 8 := by omega
    rcases this with e | e | e | e | e | e | e | e <;> subst e <;> decide, by
    rw [show (toString (n : Int) : Str) = sg1 (48 + n) from digit_str hn]
    exact q H2 e2⟩
theorem el_split {z : List Nat} {c : Nat} (h : Ev ta σ H (.str (tx z))) (hz : z.length ≤ 90000) : EvL (tM1 (fun x xs H Q => ∃ a b, x = .str a ∧ xs = [.str b] ∧ (b.length == 0) = false ∧ a.length + 2 ≤ sizeLine ∧ rNewStrs (Txt.split a b) H Q) ta (tC (.str (sg1 c)))) σ H ((spl c z).map fun x => V.str (tx x)) := fun H1 e Q q =>
  h H1 e _ fun H2 e2 => ⟨⟨_, rfl⟩, _, sg1 c, rfl, rfl, rfl, sz_of (by rw [tx_len]; omega), fun p np => q p _ (fresh_back e2 np) (e2.trans (Ex.new np)) (by rw [upd_same, split_spl, List.map_map]; rfl)⟩
theorem ev_find {a b : Str} (h : Ev ta σ H (.str a)) (h2 : Ev tb σ H (.str b)) : Ev (tM1 (fun x xs H Q => ∃ a b, x = .str a ∧ xs = [.str b] ∧ Q (.int (Txt.find a b)) H) ta tb) σ H (.int (Txt.find a b)) := fun H1 e Q q =>
  h H1 e _ fun H2 e2 => ⟨⟨_, rfl⟩, h2 H2 (e.trans e2) _ fun H3 e3 => ⟨_, _, rfl, rfl, q H3 (e2.trans e3)⟩⟩
theorem q_tryA {sp : Sp} {E : Ends → L2.St → XK} {i : Nat} {ts : TA} {vs : List V} (h : EvA ts σ H vs) (k : ∀ G, Ex H G → sp vs G (fun v H' => tz D (σ.set i (some v)) H') (E { D with nx := tz D } σ)) : tSeq (fun D σ H => tAsg (tCallS sp (E D) ts) (gName i) D σ H) tz D σ H := h H (Ex.refl _) _ k
end
section
variable {P : Program} {w : World} {K : PySem.W.Frag} {mg : Str → Option Value} {base : Heap}
def sp__law_written (K : PySem.W.Frag) (ts : List Addr) : Sp := fun vs H Q _ => ∃ (v : V) (o : Option (List Nat)) (g : List Nat), vs = [v, .str (tx g), .int 8] ∧ Th K H v o ∧ g.length ≤ 1000 ∧ RetV (.bl (wr o g)) H Q
theorem ok__law_written {ts : List Addr} (D : Df K mg "_law_written" st__law_written ["_law_thing", "_law_signs", "_law_most"]) (m_all : mg "all" = none) (m_len : mg "len" = none) (m_isinstance : mg "isinstance" = none) (m_str : mg "str" = none) : At P w K mg base "_law_written" st__law_written 1 ["_law_thing", "_law_signs", "_law_most"] (sp__law_written K ts) := by
  obtain ⟨f, fd, F, b, g⟩ := D
  refine ⟨f, fd, F, b, g, F.ok sc__law_written (fun vs H Q E h => ?_) (fun cdv A outer s H vs Q E hr h => ?_)⟩
  · obtain ⟨v, o, g, rfl, _⟩ := h
    rfl
  · obtain ⟨v, o, g0, rfl, hv, hg, q⟩ := h
    refine ⟨_, (pss_one (ps_ret (pe_and (pe_callB call_isi (by rfl) m_isinstance (by decide +kernel) (pa_cons (pv 0) (pa_cons (pe_bltn (v := .ty "str") (by rfl) m_str (by decide +kernel) rfl) pa_nil))) (pe_and (pe_chain op_lt op_le pe_int (pe_callB call_len_str (by rfl) m_len (by decide +kernel) (pa_cons (pv 0) pa_nil)) (pv 2)) (pe_one (pe_callB (cr_all rfl) (by rfl) m_all (by decide +kernel) (pa_cons (pe_lc (own := [("_law_sign", 3)]) (g := gName 3) (by rfl) sc__law_written.nd (pi_str (pv 0)) (blkOk_by (N := ["_law_thing", "_law_signs", "_law_most", "_law_sign"]) (sc := defScope st__law_written) (by decide +kernel)) (fun _ _ _ _ _ => (pg_name (i := 3) sc__law_written.nd rfl (.inl rfl))) (fun _ _ _ _ _ => pts_nil) (fun _ _ _ _ _ => (pe_cmpR op_in_sign (pv 3) (pv 1) rfl))) pa_nil))))))), ?_⟩
    cases o with
    | none => exact s_ret (ev_is (ev_andV (a := false) (b := false) (ev_isS (ev_var rfl) hv) fun z => absurd z (by decide)) rfl) fun H1 e1 => q H1 e1
    | some z =>
      obtain ⟨rfl, hz⟩ := id hv
      have hlen : (tx z).length = z.length := tx_len z
      have hall : (List.replicate z.length ()).length = z.length := List.length_replicate
      refine s_ret (ev_is (ev_andV (a := true) (b := decide (1 ≤ z.length ∧ z.length ≤ 8) && z.all fun c => decide (c ∈ g0)) (ev_isS (ev_var rfl) hv) fun _ => ev_andV (a := decide (1 ≤ z.length ∧ z.length ≤ 8)) (b := z.all fun c => decide (c ∈ g0)) (ev_is (ev_chain (b := decide ((0 : Int) < z.length)) (b' := decide ((z.length : Int) ≤ 8)) ev_c (ev_is (ev_lenS (ev_var rfl) (by omega)) (by rw [hlen])) rv_I0 (fun _ => ev_var rfl) fun _ => rv_I0) ?_) fun hd => ?_) rfl) fun H1 e1 => q H1 e1
      · rw [← Bool.decide_and]
        exact congrArg V.bl (decide_eq_decide.mpr (by omega))
      · have h8 := (of_decide_eq_true hd).2
        refine ev_is (ev_all (bs := z.map fun c => decide (c ∈ g0)) (el_isL (el_lcS (z := tx z) (fun _ => true) (fun i => .bl (decide (z.getD i 0 ∈ g0))) (ev_var rfl) (by show (tx z).length ≤ 40000; omega) (fun _ => rfl) (fun i c G g hc => et_yes) fun i c G g hc _ => ?_) ?_)) ?_
        · have hc' : z[i]? = some c := by simpa [tx] using hc
          refine ev_is (ev_op (ev_var rfl) (ev_var rfl) (z := .bl (decide (c ∈ g0))) (fun G1 g1 Q1 q1 => ⟨c, tx g0, rfl, rfl, by rw [tx_toList]; exact q1 G1 (Ex.refl _)⟩)) ?_
          rw [List.getD_eq_getElem?_getD, hc']
          rfl
        · rw [given_true, List.map_map]
          refine List.ext_getElem? fun i => ?_
          rw [List.getElem?_map, List.getElem?_map]
          have hs : (tx z).cps.size = z.length := hlen
          rcases Nat.lt_or_ge i z.length with h | h
          · rw [List.getElem?_range (by omega), List.getElem?_eq_getElem h, Option.map_some, Option.map_some, List.getD_eq_getElem?_getD, List.getElem?_eq_getElem h]
            rfl
          · rw [List.getElem?_eq_none (by rw [List.length_range]; omega), List.getElem?_eq_none h]
            rfl
        · rw [List.all_map]
          rfl
def sp__law_is_name (K : PySem.W.Frag) (ts : List Addr) : Sp := fun vs H Q _ => ∃ (v : V) (o : Option (List Nat)), vs = [v] ∧ Th K H v o ∧ RetV (.bl (wr o az)) H Q
theorem ok__law_is_name {ts : List Addr} (D : Df K mg "_law_is_name" st__law_is_name ["_law_thing"]) (A__law_written : At P w K mg base "_law_written" st__law_written 1 ["_law_thing", "_law_signs", "_law_most"] (sp__law_written K ts)) : At P w K mg base "_law_is_name" st__law_is_name 2 ["_law_thing"] (sp__law_is_name K ts) := by
  obtain ⟨f, fd, F, b, g⟩ := D
  obtain ⟨f__law_written, fd__law_written, F__law_written, b__law_written, g__law_written, G__law_written⟩ := A__law_written
  refine ⟨f, fd, F, b, g, F.ok sc__law_is_name (fun vs H Q E h => ?_) (fun cdv A outer s H vs Q E hr h => ?_)⟩
  · obtain ⟨v, o, rfl, _⟩ := h
    rfl
  · obtain ⟨v, o, rfl, hv, q⟩ := h
    refine ⟨_, (pss_one (ps_ret (pe_call G__law_written (hr.mono (by decide)) (by rfl) g__law_written F__law_written.kp b__law_written .nil pass0 (pa_cons (pv 0) (pa_cons pe_str (pa_cons pe_int pa_nil)))))), ?_⟩
    exact c_call (ea_cons (ev_var rfl) (ea_cons ev_c (ea_cons ev_c ea_nil))) fun H1 e1 => ⟨v, o, az, rfl, hv.ex e1, by decide, fun H2 e2 => q H2 (e1.trans e2)⟩
def sp__law_text (K : PySem.W.Frag) (ts : List Addr) : Sp := fun vs H Q _ => ∃ (bv : V) (n : Nat) (rs : List (List Nat × List Nat)), vs = [bv] ∧ BookF K H bv n rs ∧ BookOk n rs ∧ RetV (.str (tx (bookT n rs))) H Q
theorem ok__law_text {ts : List Addr} (D : Df K mg "_law_text" st__law_text ["_law_book_here"]) (m_str : mg "str" = none) : At P w K mg base "_law_text" st__law_text 1 ["_law_book_here"] (sp__law_text K ts) := by
  obtain ⟨f, fd, F, b, g⟩ := D
  refine ⟨f, fd, F, b, g, F.ok sc__law_text (fun vs H Q E h => ?_) (fun cdv A outer s H vs Q E hr h => ?_)⟩
  · obtain ⟨bv, n, rs, rfl, _⟩ := h
    rfl
  · obtain ⟨bv, n, rs, rfl, hB, hBk, q⟩ := h
    refine ⟨_, (pss_cons (ps_set (i := 1) sc__law_text.nd rfl (.inl rfl) (pe_op op_add_str pe_str (pe_callTy call_str_int (by rfl) m_str (by decide +kernel) (pa_cons (pe_ix ix_tup (pv 0) pe_int (fun _ _ => rfl)) pa_nil))))
      (pss_cons (ps_for PassesOwn.never rfl (pi_tup (pe_ix ix_tup (pv 0) pe_int (fun _ _ => rfl))) (pg_tup (by rfl) (pgs_cons (pg_name (i := 2) sc__law_text.nd rfl (.inl rfl)) (pgs_cons (pg_name (i := 3) sc__law_text.nd rfl (.inl rfl)) pgs_nil)))
      (pss_one (ps_set (i := 1) sc__law_text.nd rfl (.inl rfl) (pe_op op_add_str (pe_op op_add_str (pe_op op_add_str (pe_op op_add_str (pv 1) pe_str) (pv 2)) pe_str) (pv 3)))))
      (pss_one (ps_ret (pv 1))))), ?_⟩
    obtain ⟨t, b, vs, rfl, hBt, hBb, hBp⟩ := id hB
    have hvl : vs.length = rs.length := paired_len hBp
    have hrl := hBk.hl
    have hn := hBk.hn
    have okt : ∀ i, BookOk n (rs.take i) := fun i => hBk.subl (List.take_sublist i rs)
    refine q_asg (v := .str (tx (lineP n))) (ev_is (ev_op ev_c (ev_strI hn (ev_op (ev_var rfl) ev_c (rv_ixT (st_of hBt) (atI_nat (j := 0) rfl)))) (rv_catS (by decide) (by show 1 ≤ 1000; decide))) rfl) fun H1 e1 => ?_
    refine q_forT (K := K) (xs := vs) (ev_op (ev_var rfl) ev_c (rv_ixT (st_of (e1 _ _ hBt)) (atI_nat (j := 1) rfl))) (hBb.ex e1).sq (fun i σ' H' => ∃ y2 y3 : Option V, σ' = [some (.ref t), some (.str (tx (bookT n (rs.take i)))), y2, y3] ∧ Ex H H') (fun H2 e2 => ⟨_, _, by rw [List.take_zero]; rfl, e1.trans e2⟩) (fun i σ' H' _ hP => ?_) (fun i x σ' H2 hx hP => ?_) (fun σ' H2 hP => ?_)
    · obtain ⟨_, _, _, e⟩ := hP
      exact (hBb.ex e).sq
    · obtain ⟨y2, y3, rfl, e2⟩ := hP
      obtain ⟨p, hpi, tp, rfl, hTp⟩ := paired_get hBp i x hx
      have hpm := List.mem_of_getElem? hpi
      have n1 := (hBk.hm p hpm).1
      have r1 := (hBk.hr p hpm).1.1
      have hbl := bookT_len (okt i)
      have hll : (rs.take i).length ≤ 10 := (okt i).hl
      refine ⟨tp, [.str (tx p.1), .str (tx p.2)], rfl, st_of (e2 _ _ hTp), rfl, _, _, rfl, _, _, rfl, rfl, ?_⟩
      refine s_asg (v := .str (tx (bookT n (rs.take (i + 1))))) (ev_is (ev_op (ev_op (ev_op (ev_op (ev_var rfl) (ev_is ev_c rfl) (rv_cat (o := [10]) (by omega) (by decide))) (ev_var rfl) (rv_cat (o := p.1) (by rw [List.length_append]; show _ + 1 ≤ 1000; omega) (by omega))) (ev_is ev_c rfl) (rv_cat (o := [32]) (by rw [List.length_append, List.length_append]; show _ + 1 + _ ≤ 1000; omega) (by decide))) (ev_var rfl) (rv_cat (o := p.2) (by rw [List.length_append, List.length_append, List.length_append]; show _ + 1 + _ + 1 ≤ 1000; omega) (by omega))) ?_) fun H3 e3 => ⟨_, _, rfl, e2.trans e3⟩
      rw [List.take_add_one, hpi, Option.toList_some, bookT_snoc]
      unfold lineR
      simp
    · obtain ⟨y2, y3, rfl, e2⟩ := hP
      rw [hvl, List.take_length]
      exact s_ret (ev_var rfl) fun H3 e3 => q H3 (e2.trans e3)
def sp__law_due (K : PySem.W.Frag) (ts : List Addr) : Sp := fun vs H Q _ => ∃ z : List Nat, vs = [.str (tx z)] ∧ (z.length ≤ 50000 ∧ ∀ w ∈ spl 10 z, w.length ≤ 1000) ∧ TB ts H ∧ ∀ v H2, Ex H H2 → (∀ G, Ex H2 G → Dp K G v (resD (readT z))) → Q v H2
theorem ok__law_due {ts : List Addr} (D : Df K mg "_law_due" st__law_due ["_law_text_here"]) (m_range : mg "range" = none) (m_len : mg "len" = none) (m_max : mg "max" = none) (m_tuple : mg "tuple" = none) (A__law_written : At P w K mg base "_law_written" st__law_written 1 ["_law_thing", "_law_signs", "_law_most"] (sp__law_written K ts)) (A__law_is_name : At P w K mg base "_law_is_name" st__law_is_name 2 ["_law_thing"] (sp__law_is_name K ts)) : At P w K mg base "_law_due" st__law_due 3 ["_law_text_here"] (sp__law_due K ts) := by
  obtain ⟨f, fd, F, b, g⟩ := D
  obtain ⟨f__law_written, fd__law_written, F__law_written, b__law_written, g__law_written, G__law_written⟩ := A__law_written
  obtain ⟨f__law_is_name, fd__law_is_name, F__law_is_name, b__law_is_name, g__law_is_name, G__law_is_name⟩ := A__law_is_name
  refine ⟨f, fd, F, b, g, F.ok sc__law_due (fun vs H Q E h => ?_) (fun cdv A outer s H vs Q E hr h => ?_)⟩
  · obtain ⟨z, rfl, _⟩ := h
    rfl
  · obtain ⟨z, rfl, ⟨hz1, hz2⟩, hT, q⟩ := h
    refine ⟨_, (pss_cons (ps_set (i := 1) sc__law_due.nd rfl (.inl rfl) (pe_m1 PySem.F.slot_str_split PySem.F.type_str_split mt_split (pv 0) pe_str))
      (pss_cons (ps_set (i := 2) sc__law_due.nd rfl (.inl rfl) (pe_lst (pa_cons pe_str (pa_cons pe_str (pa_cons pe_str (pa_cons pe_str (pa_cons pe_str (pa_cons pe_str (pa_cons pe_str (pa_cons pe_str pa_nil))))))))))
      (pss_cons (ps_if (pt_cmpR op_notIn_seq (pe_ix ix_list (pv 1) pe_int (fun _ _ => rfl)) (pv 2) rfl)
      (pss_one (ps_ret pe_int))
      pss_nil)
      (pss_cons (ps_set (i := 3) sc__law_due.nd rfl (.inl rfl) (pe_op op_add pe_int (pe_bm PySem.F.plainAttrs_list PySem.F.slot_list_index PySem.F.type_list_index mt_index (pv 2) (pa_cons (pe_ix ix_list (pv 1) pe_int (fun _ _ => rfl)) pa_nil))))
      (pss_cons (ps_set (i := 4) sc__law_due.nd rfl (.inl rfl) (pe_lst pa_nil))
      (pss_cons (ps_for PassesOwn.never rfl (pi_range2 (by rfl) m_range (pa_cons pe_int (pa_cons (pe_callB call_len_seq (by rfl) m_len (by decide +kernel) (pa_cons (pv 1) pa_nil)) pa_nil))) (pg_name (i := 5) sc__law_due.nd rfl (.inl rfl))
      (pss_cons (ps_set (i := 6) sc__law_due.nd rfl (.inl rfl) (pe_m1 PySem.F.slot_str_find PySem.F.type_str_find mt_find (pe_ix ix_list (pv 1) (pv 5) (fun _ _ => rfl)) pe_str))
      (pss_cons (ps_par (i := 7) (j := 8) rfl sc__law_due.nd rfl rfl (by decide) rfl rfl (pa_cons (pe_slice sl_str (pe_ix ix_list (pv 1) (pv 5) (fun _ _ => rfl)) po_none (po_some (pe_callB (call_max2 rfl) (by rfl) m_max (by decide +kernel) (pa_cons pe_int (pa_cons (pv 6) pa_nil))))) (pa_cons (pe_slice sl_str (pe_ix ix_list (pv 1) (pv 5) (fun _ _ => rfl)) (po_some (pe_op op_add (pv 6) pe_int)) po_none) pa_nil)) rfl)
      (pss_cons (ps_if (PW.pt (pw_or (pt_not (pt_val (pe_call G__law_is_name (hr.mono (by decide)) (by rfl) g__law_is_name F__law_is_name.kp b__law_is_name .nil pass0 (pa_cons (pv 7) pa_nil)))) (pw_or (pt_not (pt_val (pe_call G__law_written (hr.mono (by decide)) (by rfl) g__law_written F__law_written.kp b__law_written .nil pass0 (pa_cons (pv 8) (pa_cons pe_str (pa_cons pe_int pa_nil)))))) (pw_or1 (pt_cmpR op_ne (pe_callB call_len_str (by rfl) m_len (by decide +kernel) (pa_cons (pv 8) pa_nil)) (pv 3) (nomark _))))))
      (pss_one (ps_ret (pv 5)))
      pss_nil)
      (pss_cons (ps_if (PW.pt (pw_or (pt_cmpR op_in_seq (pv 7) (pe_lc (own := [("_law_own", 9)]) (g := gName 9) (by rfl) sc__law_due.nd (pi_list (pv 4)) (blkOk_by (N := ["_law_text_here", "_law_rows", "_law_firsts", "_law_places", "_law_found", "_law_k", "_law_at", "_law_name", "_law_row", "_law_own"]) (sc := defScope st__law_due) (by decide +kernel)) (fun _ _ _ _ _ => (pg_name (i := 9) sc__law_due.nd rfl (.inl rfl))) (fun _ _ _ _ _ => pts_nil) (fun _ _ _ _ _ => (pe_ix (show IxR _ (rIxT K) from ix_tup) (pv 9) pe_int (fun _ _ => rfl)))) rfl) (pw_or1 (pt_cmpR op_gt (pv 5) pe_int (nomark _)))))
      (pss_one (ps_ret (pv 5)))
      pss_nil)
      (pss_one (ps_expr (pe_bm PySem.F.plainAttrs_list PySem.F.slot_list_append PySem.F.type_list_append mt_append (pv 4) (pa_cons (pe_tup (pa_cons (pv 7) (pa_cons (pv 8) pa_nil))) pa_nil)))))))))
      (pss_one (ps_ret (pe_tup (pa_cons (pv 3) (pa_cons (pe_callTy call_tuple_of (by rfl) m_tuple (by decide +kernel) (pa_cons (pv 4) pa_nil)) pa_nil))))))))))), ?_⟩
    have hwm := wgt_many (spl 10 z)
    have hwz := spl_wgt 10 z
    refine q_asgL (xs := (spl 10 z).map fun x => V.str (tx x)) (el_split (c := 10) (ev_var rfl) (by omega)) fun l H2 nl e2 hl2 => ?_
    have qk : ∀ {k : Nat} {u : Int}, readT z = .inl k → u = (k : Nat) → RetV (.int u) H Q := fun h hu G e => q _ G e fun G2 g2 => by rw [h, hu]; exact .int _
    have hres := fun (w0 : List Nat) (ws : List (List Nat)) (h : spl 10 z = w0 :: ws) => readT_cons h
    have hne := spl_ne 10 z
    generalize spl 10 z = S at hl2 hres hne hz2 hwm hwz
    cases S with
    | nil => exact absurd rfl hne
    | cons w0 ws =>
    have hres := hres w0 ws rfl
    refine q_asgL (xs := firsts.map fun x => V.str (tx x)) (el_isL (el_lst (ea_cons ev_c (ea_cons ev_c (ea_cons ev_c (ea_cons ev_c (ea_cons ev_c (ea_cons ev_c (ea_cons ev_c (ea_cons ev_c ea_nil)))))))) (by show 8 ≤ 100000; decide)) rfl) fun l2 H3 nl2 e3 h3 => ?_
    have r0 : ∀ {σ : L2.St} {G : Hp}, σ[1]? = some (some (.ref l)) → Ex H2 G → Ev (tOp (rIxL K) (tVar 1) (tC (.int 0))) σ G (.str (tx w0)) := fun s1 g => ev_op (ev_var s1) ev_c (rv_ixL (sq_of (g _ _ hl2)) (atI_nat (j := 0) rfl))
    refine q_when (b := !decide (w0 ∈ firsts)) (et_is (et_test (ev_op (r0 rfl e3) (ev_var rfl) (rv_niL (sq_of h3) rfl (flat_tx _)))) (by rw [inV_tx])) (fun hb H4 e4 => ?_) (fun hb H4 e4 => ?_)
    · have hno : plcO w0 = none := by
        cases h : plcO w0 with
        | none => rfl
        | some n => rw [decide_eq_true (plc_in h).1] at hb; cases hb
      exact s_ret ev_c fun H5 e5 => qk (by rw [hres, hno]) rfl H5 (e2.trans (e3.trans (e4.trans e5)))
    have hin : w0 ∈ firsts := of_decide_eq_true (of_not' hb)
    obtain ⟨n, hn⟩ : ∃ n, plcO w0 = some n := by
      cases h : plcO w0 with
      | none => exact absurd hin (plc_out h)
      | some n => exact ⟨n, rfl⟩
    obtain ⟨_, hn1, hn8⟩ := plcO_some hn
    rw [hn] at hres
    dsimp only at hres
    have hix := (plc_in hn).2
    refine q_asg (v := .int (n : Nat)) (ev_is (ev_op ev_c (ev_indexT (ev_var rfl) (r0 rfl (e3.trans e4)) (sq_of (e4 _ _ h3)) hin) rv_I0) (congrArg V.int (by show (1 : Int) + ((firsts.idxOf w0 : Nat) : Int) = (n : Nat); omega))) fun H5 e5 => ?_
    refine q_asgL (xs := []) (el_lst ea_nil (by decide)) fun l4 H6 nl4 e6 h6 => ?_
    have e26 : Ex H2 H6 := e3.trans (e4.trans (e5.trans e6))
    have hlc : (((w0 :: ws).map fun x => V.str (tx x)).length : Int) = ((ws.length + 1 : Nat) : Int) := by rw [List.length_map]; rfl
    have hwl : ws.length ≤ 50001 := by rw [List.length_cons] at hwm; omega
    refine q_forR2 (lo := 1) (n := ((ws.length + 1 : Nat) : Int)) (ea_cons ev_c (ea_cons (ev_is (ev_len (ev_var rfl) (sq_of (e26 _ _ hl2))) (congrArg V.int hlc)) ea_nil)) ⟨by decide, by decide, by omega, by omega⟩ (fun i σ' H' => ∃ (vs : List V) (y5 y6 y7 y8 : Option V) (acc : List (List Nat × List Nat)), σ' = [some (.str (tx z)), some (.ref l), some (.ref l2), some (.int (n : Nat)), some (.ref l4), y5, y6, y7, y8, none] ∧ Ex H2 H' ∧ H' l4 = some (.lst vs) ∧ Prs K H' vs acc ∧ acc.length = i ∧ i ≤ 10 ∧ rdB n 1 ws [] = rdB n (1 + i) (ws.drop i) acc) (fun H7 e7 => ⟨[], _, _, _, _, [], rfl, e26.trans e7, e7 _ _ h6, .nil, rfl, by decide, rfl⟩) (fun i σ' H7 hi hP => ?_) (fun σ' H7 hP => ?_)
    · obtain ⟨vs, y5, y6, y7, y8, acc, rfl, e7, h7, hps, hal, hi10, hrd⟩ := hP
      have hi : i < ws.length := by omega
      have hwi : ws[i].length ≤ 1000 := hz2 _ (List.mem_cons_of_mem _ (List.getElem_mem hi))
      rw [show ws.drop i = ws[i] :: ws.drop (i + 1) from (List.getElem_cons_drop hi).symm] at hrd
      have hat : atI ((w0 :: ws).map fun x => V.str (tx x)) (((1 + i : Nat)) : Int) = some (.str (tx ws[i])) := atI_nat (by rw [List.getElem?_map, show 1 + i = i + 1 by omega, List.getElem?_cons_succ, List.getElem?_eq_getElem hi]; rfl)
      generalize ws[i] = w at hwi hrd hat
      have hci : (1 : Int) + (i : Int) = ((1 + i : Nat) : Int) := by omega
      rw [hci]
      have rk : ∀ {σ : L2.St} {G : Hp}, σ[1]? = some (some (.ref l)) → σ[5]? = some (some (.int ((1 + i : Nat) : Int))) → Ex H2 G → Ev (tOp (rIxL K) (tVar 1) (tVar 5)) σ G (.str (tx w)) := fun s1 s5 g => ev_op (ev_var s1) (ev_var s5) (rv_ixL (sq_of (g _ _ hl2)) hat)
      have hwt : (tx w).length ≤ 100000 := by rw [tx_len]; omega
      obtain ⟨nm, rw', at_, hfi, h1, h2, h3, hro⟩ : ∃ (nm rw' : List Nat) (at_ : Int), Txt.find (tx w) (sg1 32) = at_ ∧ cutS (tx w) none (some (if at_ > 0 then at_ else 0)) = tx nm ∧ cutS (tx w) (some (at_ + 1)) none = tx rw' ∧ (nm.length ≤ 1000 ∧ rw'.length ≤ 1000) ∧ rwOf n w = if (wr (some nm) az && (wr (some rw') nbyS && decide (rw'.length = n))) = true then some (nm, rw') else none := by
        rcases find_tx 32 w with ⟨hno, hf⟩ | ⟨a, b, hab, ha, hf⟩
        · refine ⟨[], w, -1, hf, cutS_take w 0 (Nat.zero_le _), cutS_drop w 0, ⟨Nat.zero_le _, hwi⟩, ?_⟩
          rw [rwOf_find.1 hno, if_neg (by rw [show wr (some []) az = false from rfl, Bool.false_and]; decide)]
        · have hal2 : a.length + 1 + b.length = w.length := by rw [hab, List.length_append, List.length_cons]; omega
          refine ⟨a, b, (a.length : Nat), hf, ?_, ?_, ⟨by omega, by omega⟩, rwOf_find.2 a b hab ha⟩
          · rw [show (if ((a.length : Nat) : Int) > 0 then ((a.length : Nat) : Int) else 0) = ((a.length : Nat) : Int) by split <;> omega, cutS_take w a.length (by omega), hab, List.take_left]
          · rw [show ((a.length : Nat) : Int) + 1 = ((a.length + 1 : Nat) : Int) by omega, cutS_drop, hab, show a ++ 32 :: b = (a ++ [32]) ++ b by simp, show a.length + 1 = (a ++ [32]).length by simp, List.drop_left]
      refine q_asg (v := .int at_) (ev_is (ev_find (rk rfl rfl e7) ev_c) (congrArg V.int hfi)) fun H8 e8 => ?_
      refine q_par2 (x := .str (tx nm)) (y := .str (tx rw')) (ev_is (ev_slS (rk rfl rfl (e7.trans e8)) eo_none (eo_some (ev_max2 ev_c (ev_var rfl))) hwt) (congrArg V.str h1)) (ev_is (ev_slS (rk rfl rfl (e7.trans e8)) (eo_some (ev_op (ev_var rfl) ev_c rv_I0)) eo_none hwt) (congrArg V.str h2)) fun H9 e9 => ?_
      have e79 := e8.trans e9
      have bad : ∀ {G : Hp} {D : Ends} {σ' : L2.St}, D.rt = Q → σ'[5]? = some (some (.int ((1 + i : Nat) : Int))) → Ex H9 G → rdB n 1 ws [] = .inl (1 + i) → tRet (tVar 5) D σ' G := fun hD s5 g hr => s_ret (ev_var s5) fun G2 g2 => by
        rw [hD]
        exact qk (by rw [hres, hr]) rfl G2 (e2.trans (e7.trans (e79.trans (g.trans g2))))
      refine q_when (b := !(wr (some nm) az && (wr (some rw') nbyS && decide (rw'.length = n)))) (et_is (et_or (a := !wr (some nm) az) (b := !(wr (some rw') nbyS && decide (rw'.length = n))) (et_not (et_B (ev_call (ea_cons (ev_var rfl) ea_nil) fun G g Q1 q1 E1 => ⟨_, some nm, rfl, th_str nm h3.1, q1⟩))) fun _ => et_is (et_or (a := !wr (some rw') nbyS) (b := !decide (rw'.length = n)) (et_not (et_B (ev_call (ea_cons (ev_var rfl) (ea_cons ev_c (ea_cons ev_c ea_nil))) fun G g Q1 q1 E1 => ⟨_, some rw', nbyS, rfl, th_str rw' h3.2, by decide, q1⟩))) fun _ => et_is (et_test (ev_op (ev_lenS (ev_var rfl) (by rw [tx_len]; omega)) (ev_var rfl) (rv_ne rfl))) ?_) ?_) ?_) (fun hb H10 e10 => ?_) (fun hb H10 e10 => ?_)
      · rw [tx_len]
        exact congrArg Bool.not (decide_eq_decide.mpr ⟨fun z => by have := V.int.inj z; omega, fun z => by rw [z]⟩)
      · cases wr (some rw') nbyS <;> rfl
      · cases wr (some nm) az <;> rfl
      · refine bad rfl rfl e10 ?_
        rw [hrd, rdB, hro, if_neg (by rw [of_not hb]; decide)]
      have hgood := of_not' hb
      rw [if_pos hgood] at hro
      rw [rdB, hro] at hrd
      dsimp only at hrd
      have kvl : vs.length = i := by rw [← hal]; exact paired_len hps
      have h10 := (e79.trans e10) _ _ h7
      have hps10 := hps.ex (e79.trans e10)
      refine q_when (b := decide (nm ∈ acc.map (·.1)) || decide (10 < 1 + i)) (et_or (a := decide (nm ∈ acc.map (·.1))) (b := decide (10 < 1 + i)) (et_is (et_test (ev_opL (xs := (acc.map (·.1)).map fun x => V.str (tx x)) (ev_var rfl) (el_isL (el_lcL (fun _ => true) (fun m => V.str (tx (acc.getD m ([], [])).1)) (ev_var rfl) (sq_of h10) (by omega) (fun _ => rfl) (fun _ _ _ _ _ => et_yes) (fun m x G2 g2 hx2 _ => ?_)) ?_) fun q2 G3 hq2 g3 => rv_isL (sq_of hq2) rfl (flat_tx _))) (by rw [inV_tx])) fun _ => et_is (et_test (ev_op (ev_var rfl) ev_c rv_I0)) (decide_eq_decide.mpr (by omega))) (fun hb H11 e11 => ?_) (fun hb H11 e11 => ?_)
      · obtain ⟨p, hp, t9, rfl, c9⟩ := paired_get hps10 m x hx2
        rw [List.getD_eq_getElem?_getD, hp]
        exact ev_op (ev_var rfl) ev_c (rv_ixT (st_of (g2 _ _ c9)) (atI_nat (j := 0) rfl))
      · rw [given_true, kvl, ← hal, List.map_map]
        conv => rhs; rw [← map_range_getD' acc ([], [])]
        rw [List.map_map]
        rfl
      · refine bad rfl rfl (e10.trans e11) ?_
        rw [hrd, if_pos]
        rw [Bool.or_eq_true, decide_eq_true_iff, decide_eq_true_iff] at hb
        exact hb
      rw [Bool.or_eq_false_iff, decide_eq_false_iff_not, decide_eq_false_iff_not] at hb
      rw [if_neg (by rintro (z | z); exact hb.1 z; exact hb.2 z)] at hrd
      have e711 := e79.trans (e10.trans e11)
      refine s_appU (xs := vs) (ys := [.str (tx nm), .str (tx rw')]) (e711 _ _ h7) (ev_var rfl) (eu_tup (ea_cons (ev_var rfl) (ea_cons (ev_var rfl) ea_nil)) (by show 2 ≤ 100000; decide)) (by omega) fun t9 H12 nt9 e12 h12 => ?_
      have n4 : H2 l4 = none := by
        cases hq : H2 l4 with
        | none => rfl
        | some o => exact absurd ((e3.trans (e4.trans e5)) _ _ hq) (by rw [nl4]; simp)
      have hl4 : H12 l4 = some (.lst vs) := (e711.trans e12) _ _ h7
      refine ⟨vs ++ [.ref t9], _, _, _, _, acc ++ [(nm, rw')], rfl, (e7.trans (e711.trans e12)).mut n4, upd_same, ?_, by rw [List.length_append, hal]; rfl, by omega, ?_⟩
      · refine prs_upd (fun t xs hx => ?_) (paired_app (hps.ex (e711.trans e12)) (.cons ⟨t9, rfl, h12⟩ .nil))
        exact ne_of hx hl4 (by simp)
      · rw [hrd, show 1 + i + 1 = 1 + (i + 1) by omega]
    · obtain ⟨vs, y5, y6, y7, y8, acc, rfl, e7, h7, hps, hal, hi10, hrd⟩ := hP
      rw [show (((ws.length + 1 : Nat) : Int) - 1).toNat = ws.length by omega, List.drop_length, rdB] at hrd
      refine ⟨_, rfl, _, rfl, l4, vs, rfl, .inl ⟨sq_of h7, fun t5 nt5 => ⟨by show 2 ≤ sizeLine; decide, fun t6 nt6 => ?_⟩⟩⟩
      have f7 := Ex.new (o := .tup vs) nt5
      have f8 := Ex.new (o := .tup [.int (n : Nat), .ref t5]) nt6
      refine q _ _ (e2.trans (e7.trans (f7.trans f8))) fun G g => ?_
      rw [hres, hrd]
      exact .tup (st_of (g _ _ upd_same)) (.cons (.int _) (.cons (.tup (st_of ((f8.trans g) _ _ upd_same)) (Prs.dp (hps.ex (f7.trans (f8.trans g))))) .nil))
def sp__law_told (K : PySem.W.Frag) (ts : List Addr) (c_HalvesError : Addr) (c_NoCall : Addr) (c_NoFit : Addr) (c_NoHalf : Addr) (c_NoKnot : Addr) (c_NoLikeness : Addr) (c_NoName : Addr) (c_NoNumber : Addr) (c_NoOrder : Addr) (c_NoParting : Addr) (c_NoPlace : Addr) (c_NoRoom : Addr) (c_NoRow : Addr) (c_NoRule : Addr) (c_NoTree : Addr) (c_NoUndo : Addr) (c_NoText : Addr) : Sp := fun vs H Q _ => ∃ (v : V) (o : Option (List Nat)), vs = [v] ∧ TxO K H v o ∧ TB ts H ∧ ∀ v2 H2, Ex H H2 → (∀ G, Ex H2 G → Dp K G v2 (resD (resO o))) → Q v2 H2
theorem ok__law_told {ts : List Addr} {c_HalvesError : Addr} {c_NoParting : Addr} {c_NoOrder : Addr} {c_NoNumber : Addr} {c_NoName : Addr} {c_NoLikeness : Addr} {c_NoKnot : Addr} {c_NoHalf : Addr} {c_NoFit : Addr} {c_NoCall : Addr} {c_NoUndo : Addr} {c_NoTree : Addr} {c_NoRule : Addr} {c_NoRow : Addr} {c_NoRoom : Addr} {c_NoPlace : Addr} {c_NoText : Addr} (D : Df K mg "_law_told" st__law_told ["_law_thing"]) (m_isinstance : mg "isinstance" = none) (m_ValueError : mg "ValueError" = none) (m_bool : mg "bool" = none) (gc_HalvesError : mg "HalvesError" = some (.ref c_HalvesError)) (gc_NoParting : mg "NoParting" = some (.ref c_NoParting)) (gc_NoOrder : mg "NoOrder" = some (.ref c_NoOrder)) (gc_NoNumber : mg "NoNumber" = some (.ref c_NoNumber)) (gc_NoName : mg "NoName" = some (.ref c_NoName)) (gc_NoLikeness : mg "NoLikeness" = some (.ref c_NoLikeness)) (gc_NoKnot : mg "NoKnot" = some (.ref c_NoKnot)) (gc_NoHalf : mg "NoHalf" = some (.ref c_NoHalf)) (gc_NoFit : mg "NoFit" = some (.ref c_NoFit)) (gc_NoCall : mg "NoCall" = some (.ref c_NoCall)) (gc_NoUndo : mg "NoUndo" = some (.ref c_NoUndo)) (gc_NoTree : mg "NoTree" = some (.ref c_NoTree)) (gc_NoRule : mg "NoRule" = some (.ref c_NoRule)) (gc_NoRow : mg "NoRow" = some (.ref c_NoRow)) (gc_NoRoom : mg "NoRoom" = some (.ref c_NoRoom)) (gc_NoPlace : mg "NoPlace" = some (.ref c_NoPlace)) (gc_NoText : mg "NoText" = some (.ref c_NoText)) (XF_NoText : L2.XfC K c_NoText ∧ PySem.W.findIn K (.ref c_NoText) "row" = some none) (xc_NoText : ExcC K c_NoText) (xm_NoText : PySem.W.exmOne K (.ref c_NoText) (.ref c_HalvesError) = some true) (ka_NoText : PySem.W.kitAny K (.ref c_NoText) [.ref c_NoCall, .ref c_NoFit, .ref c_NoHalf, .ref c_NoKnot, .ref c_NoLikeness, .ref c_NoName, .ref c_NoNumber, .ref c_NoOrder, .ref c_NoParting] = some false) (kb_NoText : PySem.W.kitAny K (.ref c_NoText) [.ref c_NoPlace, .ref c_NoRoom, .ref c_NoRow, .ref c_NoRule, .ref c_NoTree, .ref c_NoUndo] = some false) (kv_NoText : PySem.W.kitOne K (.ref c_NoText) (.type "ValueError") = some true) (ks_NoText : PySem.W.kitOne K (.ref c_NoText) (.ref c_NoText) = some true) (A_read_book : AtX P w K mg base "read_book" st_read_book 6 ["text"] (sp_read_book K ts c_NoText)) : At P w K mg base "_law_told" st__law_told 7 ["_law_thing"] (sp__law_told K ts c_HalvesError c_NoCall c_NoFit c_NoHalf c_NoKnot c_NoLikeness c_NoName c_NoNumber c_NoOrder c_NoParting c_NoPlace c_NoRoom c_NoRow c_NoRule c_NoTree c_NoUndo c_NoText) := by
  obtain ⟨f, fd, F, b, g⟩ := D
  obtain ⟨f_read_book, fd_read_book, F_read_book, b_read_book, g_read_book, G_read_book⟩ := A_read_book
  refine ⟨f, fd, F, b, g, F.ok sc__law_told (fun vs H Q E h => ?_) (fun cdv A outer s H vs Q E hr h => ?_)⟩
  · obtain ⟨v, o, rfl, _⟩ := h
    rfl
  · obtain ⟨v, o, rfl, hv, hT, q⟩ := h
    refine ⟨_, (pss_cons (ps_set (i := 1) sc__law_told.nd rfl (.inl rfl) pe_non)
      (pss_cons (ps_set (i := 2) sc__law_told.nd rfl (.inl rfl) pe_non)
      (pss_cons (Hid.ps_try_keep (i := 3) rfl rfl rfl sc__law_told.nd rfl rfl ⟨by rfl, by decide, .inl gc_HalvesError⟩ takes0 (fun W pn xe tkW psW => (pss_one (ps_set (i := 2) sc__law_told.nd rfl (.inl rfl) (pe_callS G_read_book (hr.mono (by decide)) (by rfl) g_read_book F_read_book.kp b_read_book (fun σ => passAt tkW σ) (pa_cons (pv 0) pa_nil))))) (fun _ _ _ _ _ _ _ => (pss_one (ps_set (i := 1) sc__law_told.nd rfl (.inl rfl) (pv 3)))))
      (pss_cons (ps_if (pt_cmpR op_isN (pv 1) pe_non (nomark _))
      (pss_one (ps_ret (pv 2)))
      pss_nil)
      (pss_cons (ps_set (i := 4) sc__law_told.nd rfl (.inl rfl) (pe_callB Hid.call_isXDT (by rfl) m_isinstance (by decide +kernel) (pa_cons (pv 1) (pa_cons (pe_tup (pa_cons (pe_glob (v := .ref c_NoCall) (by rfl) gc_NoCall rfl) (pa_cons (pe_glob (v := .ref c_NoFit) (by rfl) gc_NoFit rfl) (pa_cons (pe_glob (v := .ref c_NoHalf) (by rfl) gc_NoHalf rfl) (pa_cons (pe_glob (v := .ref c_NoKnot) (by rfl) gc_NoKnot rfl) (pa_cons (pe_glob (v := .ref c_NoLikeness) (by rfl) gc_NoLikeness rfl) (pa_cons (pe_glob (v := .ref c_NoName) (by rfl) gc_NoName rfl) (pa_cons (pe_glob (v := .ref c_NoNumber) (by rfl) gc_NoNumber rfl) (pa_cons (pe_glob (v := .ref c_NoOrder) (by rfl) gc_NoOrder rfl) (pa_cons (pe_glob (v := .ref c_NoParting) (by rfl) gc_NoParting rfl) pa_nil)))))))))) pa_nil))))
      (pss_cons (ps_if (PW.pt (pw_or (pt_val (pv 4)) (pw_or1 (pt_val (pe_callB Hid.call_isXDT (by rfl) m_isinstance (by decide +kernel) (pa_cons (pv 1) (pa_cons (pe_tup (pa_cons (pe_glob (v := .ref c_NoPlace) (by rfl) gc_NoPlace rfl) (pa_cons (pe_glob (v := .ref c_NoRoom) (by rfl) gc_NoRoom rfl) (pa_cons (pe_glob (v := .ref c_NoRow) (by rfl) gc_NoRow rfl) (pa_cons (pe_glob (v := .ref c_NoRule) (by rfl) gc_NoRule rfl) (pa_cons (pe_glob (v := .ref c_NoTree) (by rfl) gc_NoTree rfl) (pa_cons (pe_glob (v := .ref c_NoUndo) (by rfl) gc_NoUndo rfl) pa_nil))))))) pa_nil)))))))
      (pss_one (ps_ret pe_str))
      pss_nil)
      (pss_cons (ps_if (pt_not (pt_val (pe_callB Hid.call_isXD (by rfl) m_isinstance (by decide +kernel) (pa_cons (pv 1) (pa_cons (pe_bltn (v := .ty "ValueError") (by rfl) m_ValueError (by decide +kernel) rfl) pa_nil)))))
      (pss_one (ps_ret pe_str))
      pss_nil)
      (pss_cons (ps_if (PW.pt (pw_or (pt_not (pt_val (pe_callB Hid.call_isXD (by rfl) m_isinstance (by decide +kernel) (pa_cons (pv 1) (pa_cons (pe_glob (v := .ref c_NoText) (by rfl) gc_NoText rfl) pa_nil))))) (pw_or1 (pt_val (pe_callB call_isi (by rfl) m_isinstance (by decide +kernel) (pa_cons (Hid.pe_fldX (pv 1)) (pa_cons (pe_bltn (v := .ty "bool") (by rfl) m_bool (by decide +kernel) rfl) pa_nil)))))))
      (pss_one (ps_ret pe_str))
      pss_nil)
      (pss_one (ps_ret (Hid.pe_fldX (pv 1)))))))))))), ?_⟩
    refine q_asg ev_c fun H1 e1 => ?_
    refine q_asg ev_c fun H2 e2 => ?_
    refine q_tryA (ea_cons (ev_var rfl) ea_nil) fun H3 e3' => ⟨v, o, rfl, hv.ex (e1.trans (e2.trans e3')), hT.ex (e1.trans (e2.trans e3')), fun k hk d H3 e3 hd => ⟨true, xm_NoText, fun _ a na => ⟨_, rfl, ?_⟩, fun h => absurd h (by decide)⟩, fun n rs hr v2 H4 e4 hdp => ?_⟩
    · have e03 := (e1.trans (e2.trans e3')).trans e3
      have hx : (upd H3 a (ExcX a (.ref c_NoText) (some d))) a = some (ExcX a (.ref c_NoText) (some d)) := upd_same
      have ex : Ex H (upd H3 a (ExcX a (.ref c_NoText) (some d))) := e03.trans (Ex.new na)
      have hd := (Ex.new (o := ExcX a (.ref c_NoText) (some d)) na) _ _ hd
      refine q_when (b := false) (et_is (et_test (ev_op (ev_var rfl) ev_c rv_isN)) (decide_eq_false (by simp))) (fun hb H5 e5 => absurd hb (by decide)) (fun hb H5 e5 => ?_)
      refine q_asg (v := .bl false) (ev_isXDT (cs := [c_NoCall, c_NoFit, c_NoHalf, c_NoKnot, c_NoLikeness, c_NoName, c_NoNumber, c_NoOrder, c_NoParting]) (ev_var rfl) (ea_cons ev_c (ea_cons ev_c (ea_cons ev_c (ea_cons ev_c (ea_cons ev_c (ea_cons ev_c (ea_cons ev_c (ea_cons ev_c (ea_cons ev_c ea_nil))))))))) (by show 9 ≤ 100; decide) (e5 _ _ hx) (e5 _ _ hd) xc_NoText ka_NoText) fun H6 e6 => ?_
      have f6 := e5.trans e6
      refine q_when (b := false) (et_is (et_or (a := false) (b := false) (et_B (ev_var rfl)) fun _ => et_B (ev_isXDT (cs := [c_NoPlace, c_NoRoom, c_NoRow, c_NoRule, c_NoTree, c_NoUndo]) (ev_var rfl) (ea_cons ev_c (ea_cons ev_c (ea_cons ev_c (ea_cons ev_c (ea_cons ev_c (ea_cons ev_c ea_nil)))))) (by show 6 ≤ 100; decide) (f6 _ _ hx) (f6 _ _ hd) xc_NoText kb_NoText)) rfl) (fun hb H7 e7 => absurd hb (by decide)) (fun hb H7 e7 => ?_)
      have f7 := f6.trans e7
      refine q_when (b := false) (et_is (et_not (et_B (ev_isXDt (ev_var rfl) (f7 _ _ hx) (f7 _ _ hd) xc_NoText kv_NoText))) rfl) (fun hb H8 e8 => absurd hb (by decide)) (fun hb H8 e8 => ?_)
      have f8 := f7.trans e8
      refine q_when (b := false) (et_is (et_or (a := !true) (b := false) (et_not (et_B (ev_isXDr (ev_var rfl) (f8 _ _ hx) (f8 _ _ hd) xc_NoText ks_NoText))) fun _ => et_B (ev_isi (b := false) (t := "int") (ev_fldX (v := .int (k : Nat)) (ev_var rfl) (f8 _ _ hx) XF_NoText.1 XF_NoText.2 (f8 _ _ hd)) (fun _ _ => .base (.int _)) (by decide +kernel))) rfl) (fun hb H9 e9 => absurd hb (by decide)) (fun hb H9 e9 => ?_)
      have f9 := f8.trans e9
      exact s_ret (v := .int (k : Nat)) (ev_fldX (ev_var rfl) (f9 _ _ hx) XF_NoText.1 XF_NoText.2 (f9 _ _ hd)) fun H10 e10 => q _ _ (ex.trans (f9.trans e10)) fun G g => by rw [hk]; exact .int _
    · refine q_when (b := true) (et_is (et_test (ev_op (ev_var rfl) ev_c rv_isN)) (decide_eq_true rfl)) (fun hb H5 e5 => ?_) (fun hb H5 e5 => absurd hb (by decide))
      exact s_ret (ev_var rfl) fun H6 e6 => q v2 H6 ((e1.trans (e2.trans e3')).trans (e4.trans (e5.trans e6))) fun G g => by rw [hr]; exact hdp G (e5.trans (e6.trans g))
end
end Hid

namespace Hid
open PySem PySem.Spec PyProof.Rows L2 Evl CwR
/-! expressions behind which a token is out; written texts replaced within displays -/
def PEK (X : Cx) (e : Expr) (t : TE) : Prop := ∀ (pins : List (Addr × Obj)) (s : Shared) (σ : L2.St) (H : Hp) (Q : VK), Inv X pins σ H s → t σ H Q → wpAny (model X.prog X.w) X.A (eval e X.env) (fun v s' => 1 ≤ s'.toks ∧ EP X pins σ Q v s') X.xe s
section
variable {X : Cx} {a e f : Expr} {te tf ta : TE} {pos p0 c : Pos} {es : List Expr} {st : Stmt} {rest : List Stmt} {u : L2.TS}
theorem pek_ixI {r : R2} {k : Int} {j : Nat} (hr : IxR X r) (ha : PE X a ta) : PEK X (.Subscript a (.Constant (.int k) j c) pos) (tOp r ta (tC (.int k))) := by
  intro pins s σ H Q I h
  refine Subscript_ (thn (ha.run pins s σ H _ I h) fun v s1 ⟨x, H1, I1, rx, q1⟩ => wpAny_Constant_int ?_)
  have key := hr a (.Constant (.int k) j c) pins { s1 with toks := s1.toks + 1 } σ H1 x (.int k) v (.int k s1.toks) Q (I1.tok _) rx ⟨_, rfl⟩ q1 rfl
  exact wpAny_mono (PySem.wpAny_toks key) (fun v s' q => ⟨by have h1 : s1.toks + 1 ≤ s'.toks := q.1; omega, q.2⟩) fun _ _ z => z.2
theorem pek_opL {op : Operator} {r : R2} (ho : OpR X (binaryOp op) r) (ha : PEK X e te) (hb : PE X f tf) : PEK X (.BinOp e op f pos) (tOp r te tf) := by
  intro pins s σ H Q I h
  refine wpAny_BinOp (wpAny_mono (ha pins s σ H _ I h) (fun v s1 ⟨hk, x, H1, I1, r1, q1⟩ => ?_) fun _ _ z => z)
  refine wpAny_mono (PySem.wpAny_toks (hb.run pins s1 σ H1 _ I1 q1)) (fun w s2 ⟨hk2, y, H2, I2, r2, q2⟩ => ?_) fun _ _ z => z.2
  exact wpAny_mono (PySem.wpAny_toks (ho pins s2 σ H2 x y v w Q I2 r1 r2 q2)) (fun _ s' q => ⟨by have := q.1; omega, q.2⟩) fun _ _ z => z.2
/-- x = e, e gives a token: behind it one is out -/
theorem pss_setK {i : Nat} {x : Str} {pos' : Pos} (hN : X.N.Nodup) (hi : X.N[i]? = some x) (hx : Loc X.env.scope x) (he : PEK X e te) (h2 : PSsT X rest u) (hs : swapsWith e (some (.Name x pos')) pos.line X.env = pure false := by rfl) (hf : X.fn x = true ∨ X.env.scope.names.lookup x = some .local := by first | exact .inl rfl | exact .inr rfl | assumption) :
    PSs X (.Assign [.Name x pos'] e pos :: rest) (tSeq (tAsg te (gName i)) u) := by
  refine ⟨fun pins s σ H D I h => ?_⟩
  refine wpAny_execs_cons (wpAny_Assign_Name (wpAny_mono (he pins s σ H _ I h) (fun v s1 ⟨hk, y, H1, I1, r1, q1⟩ => ?_) fun _ _ z => z) hs)
  refine wpAny_mono (PySem.wpAny_toks (store_ok (v := y) (u := v) (Q := fun _ s2 => Inv X pins (σ.set i (some y)) H1 s2) I1 hN hi hx r1 (fun _ I2 => I2) hf)) (fun _ s2 q => ?_) fun _ _ z => z.2
  exact h2 pins s2 _ H1 D (Nat.le_trans hk q.1) q.2 q1
theorem pst_set {i : Nat} {x : Str} {pos' : Pos} (hN : X.N.Nodup) (hi : X.N[i]? = some x) (hx : Loc X.env.scope x) (he : PET X e te) (hs : swapsWith e (some (.Name x pos')) pos.line X.env = pure false := by rfl) (hf : X.fn x = true ∨ X.env.scope.names.lookup x = some .local := by first | exact .inl rfl | exact .inr rfl | assumption) :
    PST X (.Assign [.Name x pos'] e pos) (tAsg te (gName i)) := by
  intro pins s σ H D h0 I h
  refine wpAny_Assign_Name (thn (he pins s σ H _ h0 I h) fun v s1 ⟨y, H1, I1, r1, q1⟩ => ?_) hs
  exact store_ok I1 hN hi hx r1 (fun s2 I2 => ⟨_, H1, I2, q1⟩) hf
theorem pet_tup {x1} {ta : TA} (h : PAT X es ta) : PET X (.Tuple es x1 pos) (tTup ta) := by
  intro pins s σ H Q h0 I hq
  refine wpAny_Tuple_spliced (thn (h pos pins s σ H _ h0 I hq) fun us s1 ⟨xs, H1, I1, r, z, q⟩ => ⟨by rw [← r.length]; exact z, ?_⟩)
  have hf : H1 s1.heap.objs.size = none := I1.hok.fresh (Nat.le_refl _)
  refine ⟨.ref s1.heap.objs.size, upd H1 s1.heap.objs.size (.tup xs), I1.laid (t' := s1.toks) (fun b u e => Heap.get?_push_of_some _ e) (Nat.le_refl _) ?_, rfl, q _ hf⟩
  exact ⟨z, us, r, ⟨_, Heap.get?_push_size _ rfl, rfl, _, rfl⟩⟩
theorem pat_of {ta : TA} (h : PA X es ta) : PAT X es ta := fun pos pins s σ H Q _ I q => h.run pos pins s σ H Q I q
end
section
variable {K : PySem.W.Frag} {σ : L2.St} {H : Hp} {te : TE}
theorem ev_replC {x y z : Str} (h : Ev te σ H (.str x)) (hl : x.length + (x.length + 1) * z.length ≤ 16777216) : Ev (tReplC te y z) σ H (.str (Txt.replace x y z)) := fun H1 e Q q =>
  h H1 e _ fun H2 e2 => ⟨x, rfl, hl, q H2 e2⟩
end
end Hid

namespace Hid
open PySem PySem.Spec PyProof.Rows L2 Evl
/-! lists told by a word -/
theorem given_repW (n : Nat) : given n (fun _ => true) (fun _ => V.bl true) = (List.replicate n true).map V.bl := by
  rw [given_true, List.map_const', List.length_range, List.map_replicate]
def UpP (P : V → Hp → Prop) : Prop := ∀ v H H', Ex H H' → P v H → P v H'
def AllP (P : V → Hp → Prop) (n : Nat) (vs : List V) (H : Hp) : Prop := vs.length = n ∧ ∀ v ∈ vs, P v H
def LstP (P : V → Hp → Prop) (n : Nat) (v : V) (H : Hp) : Prop := ∃ p vs, v = .ref p ∧ H p = some (.lst vs) ∧ AllP P n vs H
theorem AllP.ex {P : V → Hp → Prop} {n : Nat} {vs : List V} {H H' : Hp} (u : UpP P) (h : AllP P n vs H) (e : Ex H H') : AllP P n vs H' := ⟨h.1, fun v hv => u v H H' e (h.2 v hv)⟩
theorem lst_up {P : V → Hp → Prop} {n : Nat} (u : UpP P) : UpP (LstP P n) := fun v H H' e ⟨p, vs, a, b, c⟩ => ⟨p, vs, a, e _ _ b, c.ex u e⟩
theorem cutV_mem {xs : List V} {lo hi : Option Int} {x : V} (h : x ∈ cutV xs lo hi) : x ∈ xs := by
  unfold cutV at h
  exact List.mem_of_mem_drop (List.mem_of_mem_take h)
section
variable {K : PySem.W.Frag} {σ : L2.St} {H : Hp} {ta tb tc te tl ty : TE} {t : TT} {D : Ends} {tu tz : L2.TS} {ts : TA} {b : Nat} {P P' : V → Hp → Prop}
theorem ap_nil : EvPs tNil σ H (AllP P 0) := fun H1 _ Q q => q [] H1 (Ex.refl _) ⟨rfl, fun _ z => nomatch z⟩
theorem ap_cons {n : Nat} (u : UpP P) (h : EvP ta σ H P) (hr : EvPs ts σ H (AllP P n)) : EvPs (tCons ta ts) σ H (AllP P (n + 1)) := fun H1 e Q q =>
  h H1 e _ fun v H2 e2 hv => hr H2 (e.trans e2) _ fun vs H3 e3 hvs => q _ H3 (e2.trans e3) ⟨congrArg Nat.succ hvs.1, fun x hx => (List.mem_cons.mp hx).elim (fun z => z ▸ u _ _ _ e3 hv) (hvs.2 x)⟩
theorem lp_lst {n : Nat} (u : UpP P) (h : EvPs ts σ H (AllP P n)) (hn : n ≤ 1000) : EvP (tLst ts) σ H (LstP P n) := fun H1 e Q q =>
  h H1 e _ fun vs H2 e2 hv => ⟨sz_of (by have := hv.1; omega), fun p hp => q _ _ (e2.trans (Ex.new hp)) ⟨p, vs, rfl, upd_same, hv.ex u (Ex.new hp)⟩⟩
theorem lp_cat {m n : Nat} (u : UpP P) (ha : EvP ta σ H (LstP P m)) (hb : EvP tb σ H (LstP P n)) (hn : m + n ≤ 1000) : EvP (tOp rCat ta tb) σ H (LstP P (m + n)) := fun H1 e Q q =>
  ha H1 e _ fun v H2 e2 ⟨l, xs, ev, hl, hx⟩ => hb H2 (e.trans e2) _ fun w H3 e3 ⟨p, ys, ew, hp, hy⟩ => by
    subst ev ew
    refine ⟨l, p, xs, ys, rfl, rfl, e3 _ _ hl, hp, sz_of (by rw [hx.1, hy.1]; omega), fun r nr => ?_⟩
    have e4 := Ex.new (o := .lst (xs ++ ys)) nr
    exact q _ _ (e2.trans (e3.trans e4)) ⟨r, _, rfl, upd_same, by rw [List.length_append, hx.1, hy.1], fun v hv => (List.mem_append.mp hv).elim (fun z => u _ _ _ (e3.trans e4) (hx.2 v z)) fun z => u _ _ _ e4 (hy.2 v z)⟩
theorem lp_ix {n j : Nat} (u : UpP P) (ha : EvP ta σ H (LstP P n)) (hi : Ev tb σ H (.int (j : Nat))) (hj : j < n) : EvP (tOp (rIxL K) ta tb) σ H P := fun H1 e Q q =>
  ha H1 e _ fun v H2 e2 ⟨l, xs, ev, hl, hx⟩ => hi H2 (e.trans e2) _ fun H3 e3 => by
    subst ev
    have hjx : j < xs.length := by rw [hx.1]; exact hj
    exact ⟨l, xs, (j : Int), xs[j], rfl, rfl, sq_of (e3 _ _ hl), atI_nat (List.getElem?_eq_getElem hjx), q _ H3 (e2.trans e3) (u _ _ _ e3 (hx.2 _ (List.getElem_mem hjx)))⟩
theorem ep_at {v : V} (h : Ev te σ H v) (hv : P v H) (u : UpP P) : EvP te σ H P := fun H1 e Q q => h H1 e _ fun H2 e2 => q v H2 e2 (u _ _ _ (e.trans e2) hv)
theorem s_retP (h : EvP te σ H P) (k : ∀ v H1, Ex H H1 → P v H1 → D.rt v H1) : tRet te D σ H := h H (Ex.refl _) _ fun v H1 e1 hv => k v H1 e1 hv
theorem q_asgP {i : Nat} (h : EvP te σ H P) (k : ∀ v H1, Ex H H1 → P v H1 → tz D (σ.set i (some v)) H1) : tSeq (tAsg te (gName i)) tz D σ H := h H (Ex.refl _) _ fun v H1 e1 hv => k v H1 e1 hv
theorem ep_i (h : EvP te σ H P) (i : ∀ v H, P v H → P' v H) : EvP te σ H P' := fun H1 e Q q => h H1 e Q fun v H2 e2 hv => q v H2 e2 (i v H2 hv)
theorem ev_allP {n j : Nat} {vs : List Nat} (u : UpP P) (hl : EvP tl σ H (LstP P n)) (hn : n ≤ 1000) (hw : ∀ x, wipe ((wipe σ vs).set j (some x)) vs = wipe σ vs) (he : ∀ x G, Ex H G → P x G → Ev ty ((wipe σ vs).set j (some x)) G (.bl true)) : Ev (tCB (rAll K) (tCons (tLc (iList K tl) (gName j) tYes ty vs) tNil)) σ H (.bl true) := fun H1 e Q q =>
  hl H1 e _ fun v H2 e2 ⟨p, ws, ev, h2, hw2⟩ => by
    subst ev
    have key := el_lcL (K := K) (t := tYes) (te := ty) (tl := tC (.ref p)) (vs := vs) (j := j) (fun _ => true) (fun _ => V.bl true) (σ := σ) (H := H2) ev_c (sq_of h2) (by have := hw2.1; omega) hw (fun i x G g hx => et_yes) (fun i x G g hx _ => he x G (e.trans (e2.trans g)) (u _ _ _ g (hw2.2 x (List.mem_of_getElem? hx))))
    rw [given_repW] at key
    have fin : tLc (iList K (tC (.ref p))) (gName j) tYes ty vs σ H2 (fun x H3 => rAll K [x] H3 Q) := key H2 (Ex.refl _) _ fun pl H3 np e3 h3 => ⟨pl, _, rfl, sq_of h3, by
      rw [show (List.replicate ws.length true).all id = true by simp]
      exact q H3 (e2.trans e3)⟩
    exact fin
theorem ev_callPW {sp : Sp} {E : XK} {z : V} (h : EvP ta σ H P) (k : ∀ v G, Ex H G → P v G → ∀ Q : VK, RetV z G Q → sp [v] G Q E) : Ev (tCall sp [] E (tCons ta tNil)) σ H z := fun H1 e Q q =>
  h H1 e _ fun v H2 e2 hv => k v H2 (e.trans e2) hv _ fun H3 e3 => q H3 (e2.trans e3)
/-- lists whose length is told by bounds -/
def LstQ (P : V → Hp → Prop) (m M : Nat) (v : V) (H : Hp) : Prop := ∃ p vs, v = .ref p ∧ H p = some (.lst vs) ∧ (m ≤ vs.length ∧ vs.length ≤ M) ∧ ∀ v ∈ vs, P v H
theorem LstP.q {n : Nat} {v : V} {H : Hp} (h : LstP P n v H) : LstQ P n n v H := let ⟨p, vs, a, b, c, d⟩ := h; ⟨p, vs, a, b, ⟨by omega, by omega⟩, d⟩
theorem lq_up {m M : Nat} (u : UpP P) : UpP (LstQ P m M) := fun v H H' e ⟨p, vs, a, b, c, d⟩ => ⟨p, vs, a, e _ _ b, c, fun x hx => u _ _ _ e (d x hx)⟩
theorem lq_lc {S : V → Prop} {xs : List V} {M j : Nat} {vs : List Nat} (hS : ∀ v G, S v → P v G) (hl : EvL tl σ H xs) (hM : xs.length ≤ M ∧ M ≤ 1000) (hw : ∀ x, wipe ((wipe σ vs).set j (some x)) vs = wipe σ vs)
    (ht : ∀ x ∈ xs, ∀ G, Ex H G → ∃ b, EvT t ((wipe σ vs).set j (some x)) G b ∧ (b = true → EvP te ((wipe σ vs).set j (some x)) G fun v _ => S v)) : EvP (tLc (iList K tl) (gName j) t te vs) σ H (LstQ P 0 M) := fun H1 e Q q =>
  hl H1 e _ fun a H2 na e2 ha => ⟨a, rfl, ⟨xs, sq_of ha⟩, fun Dl hD => by
    have e02 := e.trans e2
    refine lc_it (walk_list (xs := xs)) (fun i H' => ∃ us : List V, Ex H2 H' ∧ H' Dl = some (.lst us) ∧ us.length ≤ i ∧ ∀ v ∈ us, S v) ⟨[], Ex.new hD, upd_same, Nat.le_refl _, fun _ h => by cases h⟩ (fun i H' _ hP => sq_of (hP.choose_spec.1 _ _ ha)) (fun i x H3 H3' hi hP hY => ?_) (fun H3 hP => ?_)
    · obtain ⟨us, e3, h3, hul, hpu⟩ := hP
      obtain ⟨rfl, hx⟩ := hY
      obtain ⟨b, htb, hte⟩ := ht x (List.mem_of_getElem? hx) H3' (e02.trans e3)
      refine ⟨hw _, htb H3' (Ex.refl _) _ fun H4 e4 => ?_⟩
      cases b with
      | false =>
        rw [if_neg (by decide)]
        exact ⟨us, e3.trans e4, e4 _ _ h3, by omega, hpu⟩
      | true =>
        rw [if_pos rfl]
        exact hte rfl H4 e4 _ fun v H5 e5 hv => ⟨us, e5 _ _ (e4 _ _ h3), sz_lt (by omega), us ++ [v], (e3.trans (e4.trans e5)).mut hD, upd_same, by rw [List.length_append]; show us.length + 1 ≤ i + 1; omega, fun y hy => (List.mem_append.mp hy).elim (hpu y) fun z => by rw [List.mem_singleton.mp z]; exact hv⟩
    · obtain ⟨us, e3, h3, hul, hpu⟩ := hP
      exact q _ H3 (e2.trans e3) ⟨Dl, us, rfl, h3, ⟨Nat.zero_le _, by omega⟩, fun v hv => hS v H3 (hpu v hv)⟩⟩
theorem lq_cat {m M n N : Nat} (u : UpP P) (ha : EvP ta σ H (LstQ P m M)) (hb : EvP tb σ H (LstQ P n N)) (hn : M + N ≤ 1000) : EvP (tOp rCat ta tb) σ H (LstQ P (m + n) (M + N)) := fun H1 e Q q =>
  ha H1 e _ fun v H2 e2 ⟨l, xs, ev, hl, hx, hxp⟩ => hb H2 (e.trans e2) _ fun w H3 e3 ⟨p, ys, ew, hp, hy, hyp⟩ => by
    subst ev ew
    refine ⟨l, p, xs, ys, rfl, rfl, e3 _ _ hl, hp, sz_of (by omega), fun r nr => ?_⟩
    have e4 := Ex.new (o := .lst (xs ++ ys)) nr
    exact q _ _ (e2.trans (e3.trans e4)) ⟨r, _, rfl, upd_same, by rw [List.length_append]; omega, fun v hv => (List.mem_append.mp hv).elim (fun z => u _ _ _ (e3.trans e4) (hxp v z)) fun z => u _ _ _ e4 (hyp v z)⟩
theorem lq_mono {m M : Nat} (h : EvP te σ H (LstQ P m M)) (i : ∀ v H, P v H → P' v H) : EvP te σ H (LstQ P' m M) := ep_i h fun v H ⟨p, vs, a, b, c, d⟩ => ⟨p, vs, a, b, c, fun x hx => i x H (d x hx)⟩
theorem lp_q {n : Nat} (h : EvP te σ H (LstP P n)) : EvP te σ H (LstQ P n n) := ep_i h fun v H h => h.q
/-- the first words of a book's rows -/
theorem lp_names {a : Addr} {xs : List V} {ps : List (List Nat × List Nat)} {j : Nat} {vs : List Nat} (h : Ev tl σ H (.ref a)) (hs : SqT K H a xs) (hp : Prs K H xs ps) (hz : ps.length ≤ 1000) (hw : ∀ x, wipe ((wipe σ vs).set j (some x)) vs = wipe σ vs) (hv : ∀ x, ((wipe σ vs).set j (some x))[j]? = some (some x))
    (hP : ∀ p ∈ ps, ∀ G, P (.str (tx p.1)) G) : EvP (tLc (iTup K tl) (gName j) tYes (tOp (rIxT K) (tVar j) (tC (.int 0))) vs) σ H (LstP P ps.length) := fun H1 e Q q => h H1 e _ fun H2 e2 => ⟨a, rfl, ⟨xs, ex_t (e.trans e2) hs⟩, fun Dl hD => by
  have e02 : Ex H H2 := e.trans e2
  have hxl : xs.length = ps.length := paired_len hp
  refine lc_it (walk_tup (xs := xs)) (fun i H' => ∃ us : List V, Ex H2 H' ∧ H' Dl = some (.lst us) ∧ us.length = i ∧ ∀ v ∈ us, ∀ G, P v G) ⟨[], Ex.new hD, upd_same, rfl, fun _ h => by cases h⟩ (fun i H' _ hP => ex_t (e02.trans hP.choose_spec.1) hs) (fun i x H3 H3' hi hI hY => ?_) (fun H3 hI => ?_)
  · obtain ⟨us, e3, h3, hul, hpu⟩ := hI
    obtain ⟨rfl, hx⟩ := hY
    obtain ⟨c, hc, tc, rfl, hTc⟩ := paired_get hp i x hx
    refine ⟨hw _, et_yes H3' (Ex.refl _) _ fun H4 e4 => ?_⟩
    rw [if_pos rfl]
    refine (ev_op (H := H4) (ev_var (hv _)) ev_c (rv_ixT (v := .str (tx c.1)) (st_of ((e02.trans (e3.trans e4)) _ _ hTc)) (atI_nat (j := 0) rfl))) H4 (Ex.refl _) _ fun H5 e5 => ⟨us, e5 _ _ (e4 _ _ h3), sz_lt (by omega), us ++ [.str (tx c.1)], (e3.trans (e4.trans e5)).mut hD, upd_same, by rw [List.length_append, hul]; rfl, fun y hy => (List.mem_append.mp hy).elim (hpu y) fun z => by rw [List.mem_singleton.mp z]; exact hP c (List.mem_of_getElem? hc)⟩
  · obtain ⟨us, e3, h3, hul, hpu⟩ := hI
    exact q _ H3 (e2.trans e3) ⟨Dl, us, rfl, h3, by omega, fun v hv => hpu v hv H3⟩⟩
/-- a display kept, and known to be new -/
theorem q_asgLF {i n : Nat} (u : UpP P) (h : EvPs ts σ H (AllP P n)) (hn : n ≤ 1000) (k : ∀ p H1 vs, H p = none → Ex H H1 → H1 p = some (.lst vs) → AllP P n vs H1 → tz D (σ.set i (some (.ref p))) H1) : tSeq (tAsg (tLst ts) (gName i)) tz D σ H :=
  h H (Ex.refl H) _ fun vs H2 e2 hv => ⟨sz_of (by have := hv.1; omega), fun p hp => k p _ vs (fresh_back e2 hp) (e2.trans (Ex.new hp)) upd_same (hv.ex u (Ex.new hp))⟩
end
/-- all but one object stays -/
def ExNe (p : Addr) (G G' : Hp) : Prop := ∀ a o, a ≠ p → G a = some o → G' a = some o
theorem exne_up {P : V → Hp → Prop} {p : Addr} : UpP (fun v G => ∀ G', ExNe p G G' → P v G') := fun v H H' e h G' g => h G' fun a o na ha => g a o na (e a o ha)
theorem exne_upd {p : Addr} {G : Hp} {o : HO} : ExNe p G (upd G p o) := fun a u na ha => by rw [upd_ne na]; exact ha
end Hid

namespace Hid
open PySem PySem.Spec PyProof.Rows L2 Evl
def up1 (c : Nat) : Nat := if 97 ≤ c ∧ c ≤ 122 then c - 32 else c
theorem up_tx : ∀ (k : List Nat), (∀ c ∈ k, c < 128) → Txt.upper (tx k) = tx (k.map up1)
  | [], _ => rfl
  | c :: k, h => by
    have e : tx (c :: k) = tx [c] ++ tx k := (tx_app [c] k).symm
    rw [e, PySem.W.KOpn.upper_app, up_tx k fun x hx => h x (List.mem_cons_of_mem _ hx)]
    rw [show Txt.upper (tx [c]) = tx [up1 c] from PySem.W.KOpn.upper_one (h c List.mem_cons_self)]
    exact tx_app [up1 c] (k.map up1)
theorem cut_take {xs : List V} (n : Nat) : cutV xs none (some (n : Int)) = xs.take n := by
  unfold cutV
  rw [HT.sIx_nat]
  show List.take (min n xs.length - 0) (List.drop 0 xs) = _
  rw [List.drop_zero, Nat.sub_zero]
  by_cases h : n ≤ xs.length
  · rw [Nat.min_eq_left h]
  · rw [Nat.min_eq_right (by omega), List.take_of_length_le (Nat.le_refl _), List.take_of_length_le (by omega)]
/-- a short text of plain signs -/
def TXs (b : Nat) (v : V) : Prop := ∃ l : List Nat, v = .str (tx l) ∧ l.length ≤ b ∧ ∀ c ∈ l, c < 128
def TXW (b : Nat) (v : V) (_ : Hp) : Prop := TXs b v
theorem tw_up {b : Nat} : UpP (TXW b) := fun _ _ _ _ h => h
theorem TXs.mono {b c : Nat} {v : V} (h : TXs b v) (hb : b ≤ c) : TXs c v := let ⟨l, a, d, e⟩ := h; ⟨l, a, Nat.le_trans d hb, e⟩
theorem lit_txs {s : Str} {b : Nat} (h : (decide (s.cps.size ≤ 13) && s.cps.toList.all (fun c => decide (c < 128))) = true) (hb : 13 ≤ b) : TXs b (.str s) := by
  rw [Bool.and_eq_true] at h
  refine ⟨s.cps.toList, by rw [← str_tx s], ?_, fun c hc => of_decide_eq_true (List.all_eq_true.mp h.2 c hc)⟩
  have := of_decide_eq_true h.1
  rw [Array.length_toList]
  omega
theorem emod_nat (z : Int) {n : Nat} (h : 0 < n) : ∃ k : Nat, z % (n : Int) = (k : Nat) ∧ k < n := by
  have m0 := Int.emod_nonneg z (show (n : Int) ≠ 0 by omega)
  have m1 := Int.emod_lt_of_pos z (show (0 : Int) < (n : Int) by omega)
  exact ⟨(z % (n : Int)).toNat, by omega, by omega⟩
theorem sum_wgt (ls : List (List Nat)) : ((ls.map tx).map (·.length)).sum + ls.length = wgt ls := by
  induction ls with
  | nil => rfl
  | cons l ls ih =>
    rw [wgt_cons, ← ih, List.map_cons, List.map_cons, List.sum_cons, List.length_cons, tx_len]
    omega
theorem up1_small {c : Nat} (h : c < 128) : up1 c < 128 := by
  unfold up1
  split <;> omega
theorem small_app {a b : List Nat} (ha : ∀ c ∈ a, c < 128) (hb : ∀ c ∈ b, c < 128) : ∀ c ∈ a ++ b, c < 128 := fun c h => (List.mem_append.mp h).elim (ha c) (hb c)
section
variable {X : Cx} {a b : Expr} {ta tb : TE} {pos : Pos}
theorem pet_ix {r : R2} (hr : IxR X r) (ha : PET X a ta) (hb : PE X b tb) (hs : PlainIx b) : PET X (.Subscript a b pos) (tOp r ta tb) := by
  intro pins s σ H Q h0 I h
  refine Subscript_ (thn (ha pins s σ H _ h0 I h) fun v s1 ⟨x, H1, I1, rx, q1⟩ => ?_)
  exact thn (hb.run pins s1 σ H1 _ I1 q1) fun u s2 ⟨y, H2, I2, ry, q2⟩ => hr a b pins s2 σ H2 x y v u Q I2 rx ry q2 (hs _ _)
end
section
variable {K : PySem.W.Frag} {σ : L2.St} {H : Hp} {ta tb tc te tk : TE} {tl th : TO} {t : TT} {D : Ends} {tu tz : L2.TS} {ts : TA} {P P' : V → Hp → Prop}
theorem q_whenI {b : Bool} (h : EvT t σ H b) (I : L2.St → Hp → Prop) (k : ∀ σ' H', I σ' H' → tz D σ' H') (h1 : b = true → ∀ H1, Ex H H1 → (∀ σ' H', I σ' H' → ({ D with nx := tz D } : Ends).nx σ' H') → tu { D with nx := tz D } σ H1) (h2 : b = false → ∀ H1, Ex H H1 → I σ H1) : tSeq (tIfS t tu tNext) tz D σ H :=
  q_when h (fun hb H1 e1 => h1 hb H1 e1 k) fun hb H1 e1 => k _ _ (h2 hb H1 e1)
theorem ev_upTx {a : List Nat} (h : Ev te σ H (.str (tx a))) (hs : ∀ c ∈ a, c < 128) (la : a.length ≤ 10000) : Ev (tM0 (fun x xs H Q => ∃ a, x = .str a ∧ xs = [] ∧ a.length ≤ 5592405 ∧ Q (.str (Txt.upper a)) H) te) σ H (.str (tx (a.map up1))) := fun G g Q1 q1 => h G g _ fun G2 g2 => ⟨⟨_, rfl⟩, tx a, rfl, rfl, by rw [tx_len]; omega, by rw [up_tx a hs]; exact q1 G2 g2⟩
theorem lw_take {b k : Nat} {a : Addr} {us : List V} (h : Ev te σ H (.ref a)) (ha : H a = some (.lst us)) (hu : ∀ x ∈ us, TXs b x) (h2 : Ev tk σ H (.int (k : Nat))) (hk : k ≤ us.length) : EvP (tSl (rSlL K) te tNoPart (tPart tk)) σ H (LstP (TXW b) k) := fun H1 e Q q =>
  (el_sl (K := K) h eo_none (eo_some h2) (sq_of ha)) H1 e _ fun p H2 np e2 hp => q _ H2 e2 ⟨p, _, rfl, hp, by rw [cut_take, List.length_take]; omega, fun v hv => hu v (by rw [cut_take] at hv; exact List.mem_of_mem_take hv)⟩
theorem lw_drop {b k : Nat} {a : Addr} {us : List V} (h : Ev te σ H (.ref a)) (ha : H a = some (.lst us)) (hu : ∀ x ∈ us, TXs b x) (h2 : Ev tk σ H (.int (k : Nat))) : EvP (tSl (rSlL K) te (tPart tk) tNoPart) σ H (LstP (TXW b) (us.length - k)) := fun H1 e Q q =>
  (el_sl (K := K) h (eo_some h2) eo_none (sq_of ha)) H1 e _ fun p H2 np e2 hp => q _ H2 e2 ⟨p, _, rfl, hp, by rw [cut_drop, List.length_drop], fun v hv => hu v (by rw [cut_drop] at hv; exact List.mem_of_mem_drop hv)⟩
theorem s_asgP {i : Nat} (h : EvP te σ H P) (k : ∀ v H1, Ex H H1 → P v H1 → D.nx (σ.set i (some v)) H1) : tAsg te (gName i) D σ H := h H (Ex.refl _) _ fun v H1 e1 hv => k v H1 e1 hv
theorem lw_one {b : Nat} {v : V} (h : Ev te σ H v) (hv : TXs b v) : EvP (tLst (tCons te tNil)) σ H (LstP (TXW b) 1) := lp_lst tw_up (ap_cons tw_up (ep_at h hv tw_up) ap_nil) (by decide)
theorem lq_el {m M : Nat} {xs : List V} (h : EvL te σ H xs) (hm : m ≤ xs.length ∧ xs.length ≤ M) (hx : ∀ x ∈ xs, ∀ G, P x G) : EvP te σ H (LstQ P m M) := fun H1 e Q q =>
  h H1 e _ fun p H2 np e2 hp => q _ H2 e2 ⟨p, xs, rfl, hp, hm, fun x hv => hx x hv H2⟩
theorem lw_q {b n m M : Nat} (h : EvP te σ H (LstP (TXW b) n)) (h1 : m ≤ n) (h2 : n ≤ M) : EvP te σ H (LstQ (TXW b) m M) := ep_i h fun v H ⟨p, vs, a, c, d, f⟩ => ⟨p, vs, a, c, ⟨by omega, by omega⟩, f⟩
theorem lw_qq {b m M m' M' : Nat} (h : EvP te σ H (LstQ (TXW b) m M)) (h1 : m' ≤ m) (h2 : M ≤ M') : EvP te σ H (LstQ (TXW b) m' M') := ep_i h fun v H ⟨p, vs, a, c, d, f⟩ => ⟨p, vs, a, c, ⟨by omega, by omega⟩, f⟩
theorem rv_catB {a o : List Nat} (h : a.length + o.length ≤ 100000) : RV (fun x y H Q => ∃ i j, x = .str i ∧ y = .str j ∧ i.length + j.length ≤ sizeLine ∧ Q (.str (i ++ j)) H) (.str (tx a)) (.str (tx o)) H (.str (tx (a ++ o))) := fun H1 e Q q =>
  ⟨tx a, tx o, rfl, rfl, sz_of (by rw [tx_len, tx_len]; omega), by rw [tx_app]; exact q H1 (Ex.refl _)⟩
end
section
variable {P : Program} {w : World} {K : PySem.W.Frag} {mg : Str → Option Value} {base : Heap}
def sp__law_spoilt (K : PySem.W.Frag) (ts : List Addr) : Sp := fun vs H Q _ => ∃ (a l : Addr) (us : List V) (xs : List Int) (b : Nat), vs = [.ref a, .ref l] ∧ H a = some (.lst us) ∧ SqL K H l (xs.map V.int) ∧ (0 < us.length ∧ us.length ≤ 60 ∧ 4 ≤ xs.length ∧ b ≤ 300) ∧ (∀ x ∈ us, TXs b x) ∧ ∀ v H2, Ex H H2 → LstQ (TXW (2 * b + 20)) 1 (us.length + 4) v H2 → Q v H2
theorem ok__law_spoilt {ts : List Addr} (D : Df K mg "_law_spoilt" st__law_spoilt ["_law_rows", "_law_xs"]) (m_len : mg "len" = none) : At P w K mg base "_law_spoilt" st__law_spoilt 1 ["_law_rows", "_law_xs"] (sp__law_spoilt K ts) := by
  obtain ⟨f, fd, F, b, g⟩ := D
  refine ⟨f, fd, F, b, g, F.ok sc__law_spoilt (fun vs H Q E h => ?_) (fun cdv A outer s H vs Q E hr h => ?_)⟩
  · obtain ⟨a, l, us, xs, b, rfl, _⟩ := h
    rfl
  · obtain ⟨a, l, us, xs, b, rfl, hus, hxs, ⟨hn0, hn60, hx4, hb300⟩, hub0, q⟩ := h
    refine ⟨_, (pss_cons (ps_set (i := 2) sc__law_spoilt.nd rfl (.inl rfl) (pe_lst (pa_cons pe_str (pa_cons pe_str (pa_cons pe_str (pa_cons pe_str (pa_cons pe_str (pa_cons pe_str (pa_cons pe_str (pa_cons pe_str (pa_cons pe_str (pa_cons pe_str (pa_cons pe_str (pa_cons pe_str (pa_cons pe_str (pa_cons pe_str (pa_cons pe_str pa_nil)))))))))))))))))
      (pss_cons (ps_set (i := 2) sc__law_spoilt.nd rfl (.inl rfl) (pe_op op_cat (pv 2) (pe_lst (pa_cons pe_str (pa_cons pe_str (pa_cons pe_str (pa_cons pe_str (pa_cons pe_str (pa_cons pe_str (pa_cons pe_str (pa_cons pe_str (pa_cons pe_str (pa_cons pe_str (pa_cons pe_str (pa_cons pe_str (pa_cons pe_str pa_nil))))))))))))))))
      (Hid.pss_setK (i := 3) sc__law_spoilt.nd rfl (.inl rfl) (Hid.pek_opL op_mod (Hid.pek_ixI ix_list (pv 1)) (pe_callB call_len_seq (by rfl) m_len (by decide +kernel) (pa_cons (pv 0) pa_nil)))
      (psst_cons (PST.of (ps_set (i := 4) sc__law_spoilt.nd rfl (.inl rfl) (pe_m1 PySem.F.slot_str_split PySem.F.type_str_split mt_split (pe_ix ix_list (pv 0) (pv 3) (fun _ _ => rfl)) pe_str)))
      (psst_cons (PST.of (ps_set (i := 5) sc__law_spoilt.nd rfl (.inl rfl) (pe_op op_mod (pe_ix ix_list (pv 1) pe_int (fun _ _ => rfl)) (pe_callB call_len_seq (by rfl) m_len (by decide +kernel) (pa_cons (pv 4) pa_nil)))))
      (psst_cons (PST.of (ps_set (i := 6) sc__law_spoilt.nd rfl (.inl rfl) (pe_ix ix_list (pe_op op_cat (pv 2) (pe_lst (pa_cons (pe_ix ix_list (pv 4) pe_int (fun _ _ => rfl)) (pa_cons (pe_ix ix_list (pv 0) (pe_op op_sub (pe_callB call_len_seq (by rfl) m_len (by decide +kernel) (pa_cons (pv 0) pa_nil)) pe_int) (fun _ _ => rfl)) pa_nil)))) (pe_op op_mod (pe_ix ix_list (pv 1) pe_int (fun _ _ => rfl)) pe_int) (fun _ _ => rfl))))
      (psst_cons (PST.of (ps_set (i := 7) sc__law_spoilt.nd rfl (.inl rfl) (pe_op op_mod (pe_ix ix_list (pv 1) pe_int (fun _ _ => rfl)) pe_int)))
      (psst_cons (PST.of (ps_set (i := 8) sc__law_spoilt.nd rfl (.inl rfl) (pe_ix ix_list (pv 0) (pv 3) (fun _ _ => rfl))))
      (psst_cons (PST.of (ps_if (pt_cmpR op_lt (pv 7) pe_int (nomark _)) (pss_one (ps_set (i := 8) sc__law_spoilt.nd rfl (.inl rfl) (pe_join pe_str (pe_op op_cat (pe_op op_cat (pe_slice sl_list (pv 4) po_none (po_some (pv 5))) (pe_lst (pa_cons (pv 6) pa_nil))) (pe_slice sl_list (pv 4) (po_some (pe_op op_add (pv 5) pe_int)) po_none))))) pss_nil))
      (psst_cons (PST.of (ps_if (pt_cmpR op_eq (pv 7) pe_int (nomark _)) (pss_one (ps_set (i := 8) sc__law_spoilt.nd rfl (.inl rfl) (pe_join pe_str (pe_op op_cat (pe_slice sl_list (pv 4) po_none (po_some (pv 5))) (pe_slice sl_list (pv 4) (po_some (pe_op op_add (pv 5) pe_int)) po_none))))) pss_nil))
      (psst_cons (PST.of (ps_if (pt_cmpR op_eq (pv 7) pe_int (nomark _)) (pss_one (ps_ret (pe_op op_cat (pe_op op_cat (pe_slice sl_list (pv 0) po_none (po_some (pv 3))) (pe_lst (pa_cons (pe_ix ix_list (pv 0) (pv 3) (fun _ _ => rfl)) pa_nil))) (pe_slice sl_list (pv 0) (po_some (pv 3)) po_none)))) pss_nil))
      (psst_cons (PST.of (ps_if (pt_cmpR op_eq (pv 7) pe_int (nomark _)) (pss_cons (ps_set (i := 9) sc__law_spoilt.nd rfl (.inl rfl) (pe_op op_cat (pe_slice sl_list (pv 0) po_none (po_some (pv 3))) (pe_slice sl_list (pv 0) (po_some (pe_op op_add (pv 3) pe_int)) po_none))) (pss_one (ps_ret (pe_op op_cat (pe_op op_cat (pe_slice sl_list (pv 9) po_none (po_some (pe_op op_mod (pe_ix ix_list (pv 1) pe_int (fun _ _ => rfl)) (pe_callB call_len_seq (by rfl) m_len (by decide +kernel) (pa_cons (pv 0) pa_nil))))) (pe_lst (pa_cons (pe_ix ix_list (pv 0) (pv 3) (fun _ _ => rfl)) pa_nil))) (pe_slice sl_list (pv 9) (po_some (pe_op op_mod (pe_ix ix_list (pv 1) pe_int (fun _ _ => rfl)) (pe_callB call_len_seq (by rfl) m_len (by decide +kernel) (pa_cons (pv 0) pa_nil)))) po_none))))) pss_nil))
      (psst_cons (CwR.pst_if (pt_cmpR op_eq (pv 7) pe_int (nomark _)) (CwR.psst_one (Hid.pst_set (i := 8) sc__law_spoilt.nd rfl (.inl rfl) (Hid.pet_ix ix_list (pet_lst (pat_cons (CwR.PET.of (pe_op op_add_str pe_str (pv 8))) (pat_cons (CwR.PET.of (pe_op op_add_str (pv 8) pe_str)) (pat_cons (CwR.pet_replC (y := " ") (z := "  ") (pv 8)) (pat_cons (CwR.PET.of (L2.pe_upper (pv 8))) (pat_cons (CwR.pet_replC (y := "b") (z := "o") (pv 8)) pat_nil)))))) (pe_op op_mod (pe_ix ix_list (pv 1) pe_int (fun _ _ => rfl)) pe_int) (fun _ _ => rfl)))) CwR.psst_nil)
      (psst_cons (PST.of (ps_if (PW.pt (pw_and (pt_cmpR op_eq (pv 7) pe_int (nomark _)) (pw_and1 (pt_cmpR op_gt (pe_callB call_len_seq (by rfl) m_len (by decide +kernel) (pa_cons (pv 0) pa_nil)) pe_int (nomark _))))) (pss_one (ps_ret (pe_op op_cat (pe_slice sl_list (pv 0) po_none (po_some (pv 3))) (pe_slice sl_list (pv 0) (po_some (pe_op op_add (pv 3) pe_int)) po_none)))) pss_nil))
      (psst_cons (PST.of (ps_set (i := 10) sc__law_spoilt.nd rfl (.inl rfl) (pe_op op_mod (pe_ix ix_list (pv 1) pe_int (fun _ _ => rfl)) (pe_op op_add (pe_callB call_len_str (by rfl) m_len (by decide +kernel) (pa_cons (pv 8) pa_nil)) pe_int))))
      (psst_cons (PST.of (ps_if (pt_cmpR op_eq (pv 7) pe_int (nomark _)) (pss_one (ps_set (i := 8) sc__law_spoilt.nd rfl (.inl rfl) (pe_op op_add_str (pe_slice sl_str (pv 8) po_none (po_some (pv 10))) (pe_slice sl_str (pv 8) (po_some (pe_op op_add (pv 10) pe_int)) po_none)))) pss_nil))
      (psst_cons (PST.of (ps_if (pt_cmpR op_eq (pv 7) pe_int (nomark _)) (pss_one (ps_set (i := 8) sc__law_spoilt.nd rfl (.inl rfl) (pe_op op_add_str (pe_op op_add_str (pe_slice sl_str (pv 8) po_none (po_some (pv 10))) (pe_ix ix_str pe_str (pe_op op_mod (pe_ix ix_list (pv 1) pe_int (fun _ _ => rfl)) pe_int) (fun _ _ => rfl))) (pe_slice sl_str (pv 8) (po_some (pv 10)) po_none)))) pss_nil))
      (psst_cons (PST.of (ps_if (pt_cmpR op_eq (pv 7) pe_int (nomark _)) (pss_cons (ps_set (i := 11) sc__law_spoilt.nd rfl (.inr rfl) (pe_m1 PySem.F.slot_str_split PySem.F.type_str_split mt_split (pe_ix ix_list (pv 0) (pe_op op_sub (pe_callB call_len_seq (by rfl) m_len (by decide +kernel) (pa_cons (pv 0) pa_nil)) pe_int) (fun _ _ => rfl)) pe_str)) (pss_cons (ps_set (i := 2) sc__law_spoilt.nd rfl (.inl rfl) (pe_slice sl_list (pe_lst (pa_cons pe_str (pa_cons pe_str (pa_cons pe_str (pa_cons pe_str pa_nil))))) po_none (po_some (pe_op op_add pe_int (pe_op op_mod (pe_ix ix_list (pv 1) pe_int (fun _ _ => rfl)) pe_int))))) (pss_one (ps_ret (pe_op op_cat (pv 0) (pe_lc (own := [ ("_law_name", 12) ]) (g := gName 12) (by rfl) sc__law_spoilt.nd (pi_list (pv 2)) (blkOk_by (N := ["_law_rows", "_law_xs", "_law_some", "_law_at", "_law_words", "_law_k", "_law_odd", "_law_way", "_law_row", "_law_left", "_law_spot", "_law_last", "_law_name"]) (sc := defScope st__law_spoilt) (by decide +kernel)) (fun _ _ _ _ _ => (pg_name (i := 12) sc__law_spoilt.nd rfl (.inl rfl))) (fun _ _ _ _ _ => pts_nil) (fun _ _ _ _ _ => (pe_op op_add_str (pe_op op_add_str (pv 12) pe_str) (pe_ix (show IxR _ (rIxL K) from ix_list) (pv 11) (pe_op op_sub (pe_callB (show CallR _ (.builtin "len") (Evl.rLenS K) from call_len_seq) (by rfl) m_len (by decide +kernel) (pa_cons (pv 11) pa_nil)) pe_int) (fun _ _ => rfl)))))))))) pss_nil))
      (psst_cons (PST.of (ps_if (pt_cmpR op_eq (pv 7) pe_int (nomark _)) (pss_one (ps_ret (pe_op op_cat (pe_op op_cat (pe_slice sl_list (pv 0) po_none (po_some (pv 3))) (pe_lst (pa_cons (pv 6) pa_nil))) (pe_slice sl_list (pv 0) (po_some (pv 3)) po_none)))) pss_nil))
      (CwR.psst_one (PST.of (ps_ret (pe_op op_cat (pe_op op_cat (pe_slice sl_list (pv 0) po_none (po_some (pv 3))) (pe_lst (pa_cons (pv 8) pa_nil))) (pe_slice sl_list (pv 0) (po_some (pe_op op_add (pv 3) pe_int)) po_none)))))))))))))))))))))))), ?_⟩
    have hB13 : 13 ≤ b + 13 := by omega
    have hub : ∀ x ∈ us, TXs (2 * b + 20) x := fun x hx => (hub0 x hx).mono (by omega)
    have ax : ∀ (j : Nat) (hj : j < 4), atI (xs.map V.int) (j : Int) = some (.int (xs.getD j 0)) := fun j hj => atI_nat (by rw [List.getElem?_map, List.getD_eq_getElem?_getD, List.getElem?_eq_getElem (by omega)]; rfl)
    refine q_asgP (P := LstP (TXW (b + 13)) 15) (lp_lst tw_up (ap_cons tw_up (ep_at ev_c (lit_txs (by decide +kernel) hB13) tw_up) (ap_cons tw_up (ep_at ev_c (lit_txs (by decide +kernel) hB13) tw_up) (ap_cons tw_up (ep_at ev_c (lit_txs (by decide +kernel) hB13) tw_up) (ap_cons tw_up (ep_at ev_c (lit_txs (by decide +kernel) hB13) tw_up) (ap_cons tw_up (ep_at ev_c (lit_txs (by decide +kernel) hB13) tw_up) (ap_cons tw_up (ep_at ev_c (lit_txs (by decide +kernel) hB13) tw_up) (ap_cons tw_up (ep_at ev_c (lit_txs (by decide +kernel) hB13) tw_up) (ap_cons tw_up (ep_at ev_c (lit_txs (by decide +kernel) hB13) tw_up) (ap_cons tw_up (ep_at ev_c (lit_txs (by decide +kernel) hB13) tw_up) (ap_cons tw_up (ep_at ev_c (lit_txs (by decide +kernel) hB13) tw_up) (ap_cons tw_up (ep_at ev_c (lit_txs (by decide +kernel) hB13) tw_up) (ap_cons tw_up (ep_at ev_c (lit_txs (by decide +kernel) hB13) tw_up) (ap_cons tw_up (ep_at ev_c (lit_txs (by decide +kernel) hB13) tw_up) (ap_cons tw_up (ep_at ev_c (lit_txs (by decide +kernel) hB13) tw_up) (ap_cons tw_up (ep_at ev_c (lit_txs (by decide +kernel) hB13) tw_up) ap_nil))))))))))))))) (by decide)) fun v1 H1 e1 hv1 => ?_
    refine q_asgP (P := LstP (TXW (b + 13)) 28) (lp_cat tw_up (ep_at (ev_var rfl) hv1 (lst_up tw_up)) (lp_lst tw_up (ap_cons tw_up (ep_at ev_c (lit_txs (by decide +kernel) hB13) tw_up) (ap_cons tw_up (ep_at ev_c (lit_txs (by decide +kernel) hB13) tw_up) (ap_cons tw_up (ep_at ev_c (lit_txs (by decide +kernel) hB13) tw_up) (ap_cons tw_up (ep_at ev_c (lit_txs (by decide +kernel) hB13) tw_up) (ap_cons tw_up (ep_at ev_c (lit_txs (by decide +kernel) hB13) tw_up) (ap_cons tw_up (ep_at ev_c (lit_txs (by decide +kernel) hB13) tw_up) (ap_cons tw_up (ep_at ev_c (lit_txs (by decide +kernel) hB13) tw_up) (ap_cons tw_up (ep_at ev_c (lit_txs (by decide +kernel) hB13) tw_up) (ap_cons tw_up (ep_at ev_c (lit_txs (by decide +kernel) hB13) tw_up) (ap_cons tw_up (ep_at ev_c (lit_txs (by decide +kernel) hB13) tw_up) (ap_cons tw_up (ep_at ev_c (lit_txs (by decide +kernel) hB13) tw_up) (ap_cons tw_up (ep_at ev_c (lit_txs (by decide +kernel) hB13) tw_up) (ap_cons tw_up (ep_at ev_c (lit_txs (by decide +kernel) hB13) tw_up) ap_nil))))))))))))) (by decide)) (by decide)) fun v2 H2 e2 hv2 => ?_
    obtain ⟨ls, ss, rfl, hls, hss⟩ := hv2
    have e02 := e1.trans e2
    obtain ⟨at_, hat, hatn⟩ := emod_nat (xs.getD 0 0) hn0
    refine q_asg (v := .int (at_ : Nat)) (ev_is (ev_op (ev_op (ev_var rfl) ev_c (rv_ixL (ex_l e02 hxs) (ax 0 (by omega)))) (ev_len (ev_var rfl) (sq_of (e02 _ _ hus))) (rv_I (by show (0 : Int) < _; omega))) (congrArg V.int hat)) fun H3 e3 => ?_
    have e03 := e02.trans e3
    obtain ⟨r0, hr0, hr0l, hr0s⟩ := hub0 _ (List.getElem_mem hatn)
    have hat0 : atI us (at_ : Int) = some (.str (tx r0)) := atI_nat (by rw [List.getElem?_eq_getElem hatn, hr0])
    refine q_asgL (xs := (spl 32 r0).map fun x => V.str (tx x)) (el_split (c := 32) (ev_op (ev_var rfl) (ev_var rfl) (rv_ixL (sq_of (e03 _ _ hus)) hat0)) (by omega)) fun wp H4 np e4 h4 => ?_
    have e04 := e03.trans e4
    have hwl := wgt_many (spl 32 r0)
    have hww := spl_wgt 32 r0
    have hsp := spl_pos 32 r0
    obtain ⟨k, hk, hkn⟩ := emod_nat (xs.getD 1 0) (show 0 < (spl 32 r0).length from hsp)
    refine q_asg (v := .int (k : Nat)) (ev_is (ev_op (ev_op (ev_var rfl) ev_c (rv_ixL (ex_l e04 hxs) (ax 1 (by omega)))) (ev_is (ev_len (ev_var rfl) (sq_of h4)) (congrArg V.int (congrArg Nat.cast (List.length_map _)))) (rv_I (by show (0 : Int) < _; omega))) (congrArg V.int hk)) fun H5 e5 => ?_
    have e05 := e04.trans e5
    have wsm : ∀ w ∈ spl 32 r0, w.length ≤ b ∧ ∀ c ∈ w, c < 128 := fun w hw => ⟨by have := wgt_mem hw; omega, fun c hc => hr0s c (spl_mem hw hc)⟩
    obtain ⟨w0, hw0⟩ : ∃ w0, (spl 32 r0)[0]? = some w0 := ⟨_, List.getElem?_eq_getElem hsp⟩
    have hw0m := wsm w0 (List.mem_of_getElem? hw0)
    obtain ⟨rl, hrl, hrll, hrls⟩ := hub0 _ (List.getElem_mem (show us.length - 1 < us.length by omega))
    have hatl : atI us ((us.length - 1 : Nat) : Int) = some (.str (tx rl)) := atI_nat (by rw [List.getElem?_eq_getElem (by omega), hrl])
    have vrl : ∀ {σ : L2.St} {G : Hp}, σ[0]? = some (some (.ref a)) → Ex H G → Ev (tOp (rIxL K) (tVar 0) (tOp (rI0 fun i j => V.int (i - j)) (tCB (rLenS K) (tCons (tVar 0) tNil)) (tC (.int 1)))) σ G (.str (tx rl)) := fun s0 g => ev_op (ev_var s0) (ev_is (ev_op (ev_len (ev_var s0) (sq_of (g _ _ hus))) ev_c rv_I0) (congrArg V.int (show ((us.length : Nat) : Int) - 1 = ((us.length - 1 : Nat) : Int) by omega))) (rv_ixL (sq_of (g _ _ hus)) hatl)
    obtain ⟨jo, hjo, hjol⟩ := emod_nat (xs.getD 2 0) (show 0 < 30 by decide)
    refine q_asgP (P := TXW (b + 13)) (lp_ix (n := 28 + 2) tw_up (lp_cat tw_up (ep_at (ev_var rfl) (lst_up tw_up _ _ _ (e3.trans (e4.trans e5)) ⟨ls, ss, rfl, hls, hss⟩) (lst_up tw_up)) (lp_lst tw_up (ap_cons tw_up (ep_at (ev_op (ev_var rfl) ev_c (rv_ixL (v := .str (tx w0)) (sq_of (e5 _ _ h4)) (atI_nat (j := 0) (by rw [List.getElem?_map, hw0]; rfl)))) ⟨w0, rfl, by omega, hw0m.2⟩ tw_up) (ap_cons tw_up (ep_at (vrl rfl e05) ⟨rl, rfl, by omega, hrls⟩ tw_up) ap_nil)) (by decide)) (by decide)) (ev_is (ev_op (ev_op (ev_var rfl) ev_c (rv_ixL (ex_l e05 hxs) (ax 2 (by omega)))) ev_c (rv_I (by show (0 : Int) < 30; decide))) (congrArg V.int hjo)) hjol) fun v6 H6 e6 hv6 => ?_
    obtain ⟨o, rfl, ho0, hos⟩ := hv6
    have e06 := e05.trans e6
    obtain ⟨W, hW, hW11⟩ := emod_nat (xs.getD 3 0) (show 0 < 11 by decide)
    refine q_asg (v := .int (W : Nat)) (ev_is (ev_op (ev_op (ev_var rfl) ev_c (rv_ixL (ex_l e06 hxs) (ax 3 (by omega)))) ev_c (rv_I (by show (0 : Int) < 11; decide))) (congrArg V.int hW)) fun H7 e7 => ?_
    refine q_asg (v := .str (tx r0)) (ev_op (ev_var rfl) (ev_var rfl) (rv_ixL (sq_of ((e06.trans e7) _ _ hus)) hat0)) fun H8 e8 => ?_
    have e08 := e06.trans (e7.trans e8)
    have hus8 := e08 _ _ hus
    have h48 := (e5.trans (e6.trans (e7.trans e8))) _ _ h4
    have hkl : k < (spl 32 r0).length := hkn
    have wk := wgt_take (spl 32 r0) k 0 hkl
    have cutk : ∀ {σ : L2.St} {G : Hp}, σ[4]? = some (some (.ref wp)) → σ[5]? = some (some (.int (k : Nat))) → Ex H8 G → EvL (tSl (rSlL K) (tVar 4) tNoPart (tPart (tVar 5))) σ G (((spl 32 r0).take k).map fun x => V.str (tx x)) := fun s4 s5 g => el_isL (el_sl (ev_var s4) eo_none (eo_some (ev_var s5)) (sq_of (g _ _ h48))) (by rw [cut_take, List.map_take])
    have cutd : ∀ {σ : L2.St} {G : Hp}, σ[4]? = some (some (.ref wp)) → σ[5]? = some (some (.int (k : Nat))) → Ex H8 G → EvL (tSl (rSlL K) (tVar 4) (tPart (tOp (rI0 fun i j => V.int (i + j)) (tVar 5) (tC (.int 1)))) tNoPart) σ G (((spl 32 r0).drop (k + 1)).map fun x => V.str (tx x)) := fun s4 s5 g => el_isL (el_sl (ev_var s4) (eo_some (ev_is (ev_op (ev_var s5) ev_c rv_I0) (congrArg V.int (show ((k : Nat) : Int) + 1 = ((k + 1 : Nat) : Int) from rfl)))) eo_none (sq_of (g _ _ h48))) (by rw [cut_drop, List.map_drop])
    have tksm : ∀ w ∈ (spl 32 r0).take k, ∀ c ∈ w, c < 128 := fun w hw => (wsm w (List.mem_of_mem_take hw)).2
    have dpsm : ∀ w ∈ (spl 32 r0).drop (k + 1), ∀ c ∈ w, c < 128 := fun w hw => (wsm w (List.mem_of_mem_drop hw)).2
    have w1 : wgt [o] = o.length + 1 := rfl
    -- way < 2
    refine q_whenI (et_test (ev_op (ev_var rfl) ev_c rv_I0)) (fun σ' H' => ∃ r : List Nat, σ' = [some (.ref a), some (.ref l), some (.ref ls), some (.int (at_ : Nat)), some (.ref wp), some (.int (k : Nat)), some (.str (tx o)), some (.int (W : Nat)), some (.str (tx r)), none, none, none, none] ∧ Ex H8 H' ∧ r.length ≤ 2 * b + 19 ∧ (∀ c ∈ r, c < 128) ∧ (2 < W → r = r0)) (fun σ' H' hI => ?_) (fun hb H9 e9 hI => ?_) (fun hb H9 e9 => ⟨r0, rfl, e9, by omega, hr0s, fun _ => rfl⟩)
    rotate_left
    · have hW2 : W < 2 := by have := of_decide_eq_true hb; omega
      have hj0 := jn_le 32 ((spl 32 r0).take k ++ [o] ++ (spl 32 r0).drop (k + 1))
      rw [wgt_app, wgt_app, w1] at hj0
      refine s_asg (v := .str (tx (jn 32 ((spl 32 r0).take k ++ [o] ++ (spl 32 r0).drop (k + 1))))) (ev_joinS 32 (el_isL (el_cat (el_cat (cutk rfl rfl e9) (el_lst (ea_cons (ev_var rfl) ea_nil) (by show 1 ≤ 100000; decide)) ?_) (cutd rfl rfl e9) ?_) ?_) ?_) fun H10 e10 => hI _ _ ⟨_, rfl, e9.trans e10, by omega, fun c hc => ?_, fun h => by omega⟩
      · rw [List.length_map, List.length_take]; show _ + 1 ≤ 100000; omega
      · rw [List.length_append, List.length_map, List.length_map, List.length_take, List.length_drop]; show _ + 1 + _ ≤ 100000; omega
      · rw [List.map_append, List.map_append]; rfl
      · rw [sum_wgt, wgt_app, wgt_app, w1]; omega
      · rcases jn_mem 32 hc with z | ⟨w, hw, z⟩
        · omega
        · rcases List.mem_append.mp hw with hw | hw
          · rcases List.mem_append.mp hw with hw | hw
            · exact tksm w hw c z
            · rw [List.mem_singleton.mp hw] at z; exact hos c z
          · exact dpsm w hw c z
    obtain ⟨r, rfl, e9, hrb, hrs, hrW⟩ := hI
    -- way == 2
    refine q_whenI (et_test (ev_op (ev_var rfl) ev_c (rv_eq rfl))) (fun σ' H' => ∃ r : List Nat, σ' = [some (.ref a), some (.ref l), some (.ref ls), some (.int (at_ : Nat)), some (.ref wp), some (.int (k : Nat)), some (.str (tx o)), some (.int (W : Nat)), some (.str (tx r)), none, none, none, none] ∧ Ex H8 H' ∧ r.length ≤ 2 * b + 19 ∧ (∀ c ∈ r, c < 128) ∧ (2 < W → r = r0)) (fun σ' H' hI => ?_) (fun hb H10 e10 hI => ?_) (fun hb H10 e10 => ⟨r, rfl, e9.trans e10, hrb, hrs, hrW⟩)
    rotate_left
    · have hW2 : W = 2 := by have := V.int.inj (of_decide_eq_true hb); omega
      have hj0 := jn_le 32 ((spl 32 r0).take k ++ (spl 32 r0).drop (k + 1))
      rw [wgt_app] at hj0
      refine s_asg (v := .str (tx (jn 32 ((spl 32 r0).take k ++ (spl 32 r0).drop (k + 1))))) (ev_joinS 32 (el_isL (el_cat (cutk rfl rfl (e9.trans e10)) (cutd rfl rfl (e9.trans e10)) ?_) ?_) ?_) fun H11 e11 => hI _ _ ⟨_, rfl, e9.trans (e10.trans e11), by omega, fun c hc => ?_, fun h => by omega⟩
      · rw [List.length_map, List.length_map, List.length_take, List.length_drop]; omega
      · rw [List.map_append]
      · rw [sum_wgt, wgt_app]; omega
      · rcases jn_mem 32 hc with z | ⟨w, hw, z⟩
        · omega
        · rcases List.mem_append.mp hw with hw | hw
          · exact tksm w hw c z
          · exact dpsm w hw c z
    clear hrb hrs hrW e9
    clear r
    obtain ⟨r, rfl, e9, hrb, hrs, hrW⟩ := hI
    have cat1 : ∀ {σ : L2.St} {G : Hp} {tm : TE}, σ[0]? = some (some (.ref a)) → σ[3]? = some (some (.int (at_ : Nat))) → Ex H8 G → EvP tm σ G (LstP (TXW (2 * b + 20)) 1) → EvP (tOp rCat (tOp rCat (tSl (rSlL K) (tVar 0) tNoPart (tPart (tVar 3))) tm) (tSl (rSlL K) (tVar 0) (tPart (tVar 3)) tNoPart)) σ G (LstP (TXW (2 * b + 20)) (at_ + 1 + (us.length - at_))) := fun s0 s3 g hm => lp_cat tw_up (lp_cat tw_up (lw_take (ev_var s0) (g _ _ hus8) hub (ev_var s3) (by omega)) hm (by omega)) (lw_drop (ev_var s0) (g _ _ hus8) hub (ev_var s3)) (by omega)
    have vat : ∀ {σ : L2.St} {G : Hp}, σ[0]? = some (some (.ref a)) → σ[3]? = some (some (.int (at_ : Nat))) → Ex H8 G → Ev (tOp (rIxL K) (tVar 0) (tVar 3)) σ G (.str (tx r0)) := fun s0 s3 g => ev_op (ev_var s0) (ev_var s3) (rv_ixL (sq_of (g _ _ hus8)) hat0)
    have w0r : TXs (2 * b + 20) (.str (tx r0)) := ⟨r0, rfl, by omega, hr0s⟩
    have at1 : ∀ {σ : L2.St} {G : Hp}, σ[3]? = some (some (.int (at_ : Nat))) → Ev (tOp (rI0 fun i j => V.int (i + j)) (tVar 3) (tC (.int 1))) σ G (.int ((at_ + 1 : Nat) : Int)) := fun s3 => ev_is (ev_op (ev_var s3) ev_c rv_I0) (congrArg V.int (show ((at_ : Nat) : Int) + 1 = ((at_ + 1 : Nat) : Int) from rfl))
    have less : ∀ {σ : L2.St} {G : Hp}, σ[0]? = some (some (.ref a)) → σ[3]? = some (some (.int (at_ : Nat))) → Ex H8 G → EvP (tOp rCat (tSl (rSlL K) (tVar 0) tNoPart (tPart (tVar 3))) (tSl (rSlL K) (tVar 0) (tPart (tOp (rI0 fun i j => V.int (i + j)) (tVar 3) (tC (.int 1)))) tNoPart)) σ G (LstP (TXW (2 * b + 20)) (at_ + (us.length - (at_ + 1)))) := fun s0 s3 g => lp_cat tw_up (lw_take (ev_var s0) (g _ _ hus8) hub (ev_var s3) (by omega)) (lw_drop (ev_var s0) (g _ _ hus8) hub (at1 s3)) (by omega)
    -- way == 3
    refine q_when (et_test (ev_op (ev_var rfl) ev_c (rv_eq rfl))) (fun hb H10 e10 => ?_) (fun hb H10 e10 => ?_)
    · exact s_retP (lw_q (cat1 rfl rfl (e9.trans e10) (lw_one (vat rfl rfl (e9.trans e10)) w0r)) (by omega) (by omega)) fun v11 H11 e11 hv => q v11 H11 (e08.trans (e9.trans (e10.trans e11))) hv
    replace e9 := e9.trans e10
    clear e10
    -- way == 4
    obtain ⟨j4, hj4, hj4n⟩ := emod_nat (xs.getD 2 0) hn0
    refine q_when (et_test (ev_op (ev_var rfl) ev_c (rv_eq rfl))) (fun hb H11 e11 => ?_) (fun hb H11 e11 => ?_)
    · refine q_asgP (less rfl rfl (e9.trans e11)) fun v12 H12 e12 hv12 => ?_
      obtain ⟨pl, us2, rfl, hpl, hul, hum⟩ := hv12
      have m4 : ∀ {σ : L2.St} {G : Hp}, σ[0]? = some (some (.ref a)) → σ[1]? = some (some (.ref l)) → Ex H12 G → Ev (tOp (rI (fun x j => 0 < j) fun i j => V.int (i % j)) (tOp (rIxL K) (tVar 1) (tC (.int 2))) (tCB (rLenS K) (tCons (tVar 0) tNil))) σ G (.int (j4 : Nat)) := fun s0 s1 g => ev_is (ev_op (ev_op (ev_var s1) ev_c (rv_ixL (ex_l (e08.trans (e9.trans (e11.trans (e12.trans g)))) hxs) (ax 2 (by omega)))) (ev_len (ev_var s0) (sq_of ((e9.trans (e11.trans (e12.trans g))) _ _ hus8))) (rv_I (by show (0 : Int) < _; omega))) (congrArg V.int hj4)
      exact s_retP (lw_q (lp_cat tw_up (lp_cat tw_up (lw_take (ev_var rfl) hpl hum (m4 rfl rfl (Ex.refl _)) (by omega)) (lw_one (vat rfl rfl (e9.trans (e11.trans e12))) w0r) (by omega)) (lw_drop (ev_var rfl) hpl hum (m4 rfl rfl (Ex.refl _))) (by omega)) (by omega) (by omega)) fun v13 H13 e13 hv => q v13 H13 (e08.trans (e9.trans (e11.trans (e12.trans e13)))) hv
    replace e9 := e9.trans e11
    clear e11
    -- way == 5
    obtain ⟨j5, hj5, hj5n⟩ := emod_nat (xs.getD 2 0) (show 0 < 5 by decide)
    refine q_whenI (et_test (ev_op (ev_var rfl) ev_c (rv_eq rfl))) (fun σ' H' => ∃ r : List Nat, σ' = [some (.ref a), some (.ref l), some (.ref ls), some (.int (at_ : Nat)), some (.ref wp), some (.int (k : Nat)), some (.str (tx o)), some (.int (W : Nat)), some (.str (tx r)), none, none, none, none] ∧ Ex H8 H' ∧ r.length ≤ 2 * b + 19 ∧ (∀ c ∈ r, c < 128)) (fun σ' H' hI => ?_) (fun hb H12 e12 hI => ?_) (fun hb H12 e12 => ⟨r, rfl, e9.trans e12, hrb, hrs⟩)
    rotate_left
    · have hW5 : W = 5 := by have := V.int.inj (of_decide_eq_true hb); omega
      obtain rfl := hrW (by omega)
      refine s_asgP (P := TXW (2 * b + 19)) (lp_ix (n := 5) tw_up (lp_lst tw_up (ap_cons tw_up (ep_at (ev_is (ev_op (ev_is ev_c (w := .str (tx [32])) rfl) (ev_var rfl) (rv_catB (by show 1 + _ ≤ 100000; omega))) rfl) ⟨32 :: r, rfl, by rw [List.length_cons]; omega, fun c hc => (List.mem_cons.mp hc).elim (fun z => by omega) (hrs c)⟩ tw_up) (ap_cons tw_up (ep_at (ev_is (ev_op (ev_var rfl) (ev_is ev_c (w := .str (tx [32])) rfl) (rv_catB (by show _ + 1 ≤ 100000; omega))) rfl) ⟨r ++ [32], rfl, by rw [List.length_append]; show _ + 1 ≤ _; omega, small_app hrs (fun c hc => by rw [List.mem_singleton.mp hc]; decide)⟩ tw_up) (ap_cons tw_up (ep_at (ev_is (ev_replC (ev_var rfl) (by rw [tx_len]; show r.length + (r.length + 1) * 2 ≤ 16777216; omega)) (congrArg V.str (repl2_tx 32 32 32 r))) ⟨_, rfl, by have := repl2_len 32 32 32 r; omega, fun c hc => ?_⟩ tw_up) (ap_cons tw_up (ep_at (ev_upTx (ev_var rfl) hrs (by omega)) ⟨_, rfl, by rw [List.length_map]; omega, fun c hc => ?_⟩ tw_up) (ap_cons tw_up (ep_at (ev_is (ev_replC (ev_var rfl) (by rw [tx_len]; show r.length + (r.length + 1) * 1 ≤ 16777216; omega)) (congrArg V.str (repl_tx 98 111 r))) ⟨_, rfl, by rw [List.length_map]; omega, fun c hc => ?_⟩ tw_up) ap_nil))))) (by decide)) (ev_is (ev_op (ev_op (ev_var rfl) ev_c (rv_ixL (ex_l (e08.trans (e9.trans e12)) hxs) (ax 2 (by omega)))) ev_c (rv_I (by show (0 : Int) < 5; decide))) (congrArg V.int hj5)) hj5n) fun v13 H13 e13 hv => ?_
      · obtain ⟨c0, h0, hc⟩ := List.mem_flatMap.mp hc
        have := hrs c0 h0
        split at hc
        · rcases List.mem_cons.mp hc with z | z
          · omega
          · have := List.mem_singleton.mp z; omega
        · have := List.mem_singleton.mp hc; omega
      · obtain ⟨c0, h0, rfl⟩ := List.mem_map.mp hc
        exact up1_small (hrs c0 h0)
      · obtain ⟨c0, h0, rfl⟩ := List.mem_map.mp hc
        have := hrs c0 h0
        split <;> omega
      · obtain ⟨r2, rfl, h1, h2⟩ := hv
        exact hI _ _ ⟨r2, rfl, e9.trans (e12.trans e13), h1, h2⟩
    clear hrb hrs hrW e9
    clear r
    obtain ⟨r, rfl, e9, hrb, hrs⟩ := hI
    -- way == 6 and more than one row
    refine q_when (et_and (et_test (ev_op (ev_var rfl) ev_c (rv_eq rfl))) fun _ => et_is (b := decide (1 < us.length)) (et_test (ev_op (ev_len (ev_var rfl) (sq_of (e9 _ _ hus8))) ev_c rv_I0)) (decide_eq_decide.mpr (by omega))) (fun hb H13 e13 => ?_) (fun hb H13 e13 => ?_)
    · rw [Bool.and_eq_true] at hb
      have h1n := of_decide_eq_true hb.2
      exact s_retP (lw_q (less rfl rfl (e9.trans e13)) (by omega) (by omega)) fun v14 H14 e14 hv => q v14 H14 (e08.trans (e9.trans (e13.trans e14))) hv
    replace e9 := e9.trans e13
    clear e13
    obtain ⟨sp, hsp', hspn⟩ := emod_nat (xs.getD 2 0) (show 0 < r.length + 1 by omega)
    refine q_asg (v := .int (sp : Nat)) (ev_is (ev_op (ev_op (ev_var rfl) ev_c (rv_ixL (ex_l (e08.trans e9) hxs) (ax 2 (by omega)))) (ev_is (ev_op (ev_lenS (ev_var rfl) (by rw [tx_len]; omega)) ev_c rv_I0) (congrArg V.int (by rw [tx_len]; rfl))) (rv_I (by show (0 : Int) < _; omega))) (congrArg V.int hsp')) fun H14 e14 => ?_
    replace e9 := e9.trans e14
    clear e14
    have sp1 : ∀ {σ : L2.St} {G : Hp}, σ[10]? = some (some (.int (sp : Nat))) → Ev (tOp (rI0 fun i j => V.int (i + j)) (tVar 10) (tC (.int 1))) σ G (.int ((sp + 1 : Nat) : Int)) := fun s => ev_is (ev_op (ev_var s) ev_c rv_I0) (congrArg V.int (show ((sp : Nat) : Int) + 1 = ((sp + 1 : Nat) : Int) from rfl))
    have cu1 : ∀ {σ : L2.St} {G : Hp} {r : List Nat}, σ[8]? = some (some (.str (tx r))) → σ[10]? = some (some (.int (sp : Nat))) → r.length ≤ 2 * b + 20 → sp ≤ r.length → Ev (tSl rSlS (tVar 8) tNoPart (tPart (tVar 10))) σ G (.str (tx (r.take sp))) := fun s8 s10 h1 h2 => ev_is (ev_slS (ev_var s8) eo_none (eo_some (ev_var s10)) (by rw [tx_len]; omega)) (congrArg V.str (cutS_take _ _ h2))
    -- way == 7
    refine q_whenI (et_test (ev_op (ev_var rfl) ev_c (rv_eq rfl))) (fun σ' H' => ∃ r : List Nat, σ' = [some (.ref a), some (.ref l), some (.ref ls), some (.int (at_ : Nat)), some (.ref wp), some (.int (k : Nat)), some (.str (tx o)), some (.int (W : Nat)), some (.str (tx r)), none, some (.int (sp : Nat)), none, none] ∧ Ex H8 H' ∧ r.length ≤ 2 * b + 19 ∧ (∀ c ∈ r, c < 128) ∧ (W ≠ 7 → sp ≤ r.length)) (fun σ' H' hI => ?_) (fun hb H15 e15 hI => ?_) (fun hb H15 e15 => ⟨r, rfl, e9.trans e15, hrb, hrs, fun _ => by omega⟩)
    rotate_left
    · have hW7 : W = 7 := by have := V.int.inj (of_decide_eq_true hb); omega
      exact s_asg (v := .str (tx (r.take sp ++ r.drop (sp + 1)))) (ev_op (cu1 rfl rfl (by omega) (by omega)) (ev_is (ev_slS (ev_var rfl) (eo_some (sp1 rfl)) eo_none (by rw [tx_len]; omega)) (congrArg V.str (cutS_drop _ _))) (rv_catB (by rw [List.length_take, List.length_drop]; omega))) fun H16 e16 => hI _ _ ⟨_, rfl, e9.trans (e15.trans e16), by rw [List.length_append, List.length_take, List.length_drop]; omega, small_app (fun c hc => hrs c (List.mem_of_mem_take hc)) (fun c hc => hrs c (List.mem_of_mem_drop hc)), fun h => absurd hW7 h⟩
    clear hrb hrs e9 hsp' hspn
    clear r
    obtain ⟨r, rfl, e9, hrb, hrs, hspr⟩ := hI
    -- way == 8
    obtain ⟨j8, hj8, hj8n⟩ := emod_nat (xs.getD 1 0) (show 0 < 7 by decide)
    refine q_whenI (et_test (ev_op (ev_var rfl) ev_c (rv_eq rfl))) (fun σ' H' => ∃ r : List Nat, σ' = [some (.ref a), some (.ref l), some (.ref ls), some (.int (at_ : Nat)), some (.ref wp), some (.int (k : Nat)), some (.str (tx o)), some (.int (W : Nat)), some (.str (tx r)), none, some (.int (sp : Nat)), none, none] ∧ Ex H8 H' ∧ r.length ≤ 2 * b + 20 ∧ (∀ c ∈ r, c < 128)) (fun σ' H' hI => ?_) (fun hb H15 e15 hI => ?_) (fun hb H15 e15 => ⟨r, rfl, e9.trans e15, by omega, hrs⟩)
    rotate_left
    · have hW8 : W = 8 := by have := V.int.inj (of_decide_eq_true hb); omega
      have hsr := hspr (by omega)
      obtain ⟨c8, hc8, hc8s⟩ : ∃ c8, ([110, 121, 98, 32, 97, 49, 65] : List Nat)[j8]? = some c8 ∧ c8 < 128 := by
        have : ∀ j < 7, ∃ c8, ([110, 121, 98, 32, 97, 49, 65] : List Nat)[j]? = some c8 ∧ c8 < 128 := fun j hj => by
          match j, hj with
          | 0, _ => exact ⟨_, rfl, by decide⟩
          | 1, _ => exact ⟨_, rfl, by decide⟩
          | 2, _ => exact ⟨_, rfl, by decide⟩
          | 3, _ => exact ⟨_, rfl, by decide⟩
          | 4, _ => exact ⟨_, rfl, by decide⟩
          | 5, _ => exact ⟨_, rfl, by decide⟩
          | 6, _ => exact ⟨_, rfl, by decide⟩
        exact this j8 hj8n
      exact s_asg (v := .str (tx (r.take sp ++ [c8] ++ r.drop sp))) (ev_op (ev_op (cu1 rfl rfl (by omega) hsr) (ev_op (z := .str (tx [c8])) ev_c (ev_is (ev_op (ev_op (ev_var rfl) ev_c (rv_ixL (ex_l (e08.trans (e9.trans e15)) hxs) (ax 1 (by omega)))) ev_c (rv_I (by show (0 : Int) < 7; decide))) (congrArg V.int hj8)) (rv_ixS (by decide) (atI_nat hc8))) (rv_catB (by rw [List.length_take]; show _ + 1 ≤ _; omega))) (ev_is (ev_slS (ev_var rfl) (eo_some (ev_var rfl)) eo_none (by rw [tx_len]; omega)) (congrArg V.str (cutS_drop _ _))) (rv_catB (by rw [List.length_append, List.length_take, List.length_drop]; show _ + 1 + _ ≤ _; omega))) fun H16 e16 => hI _ _ ⟨_, rfl, e9.trans (e15.trans e16), by rw [List.length_append, List.length_append, List.length_take, List.length_drop]; show _ + 1 + _ ≤ _; omega, small_app (small_app (fun c hc => hrs c (List.mem_of_mem_take hc)) (fun c hc => by rw [List.mem_singleton.mp hc]; exact hc8s)) (fun c hc => hrs c (List.mem_of_mem_drop hc))⟩
    clear hrb hrs e9 hspr
    clear r
    obtain ⟨r, rfl, e9, hrb, hrs⟩ := hI
    -- way == 9
    obtain ⟨j9, hj9, hj9n⟩ := emod_nat (xs.getD 1 0) (show 0 < 4 by decide)
    refine q_when (et_test (ev_op (ev_var rfl) ev_c (rv_eq rfl))) (fun hb H15 e15 => ?_) (fun hb H15 e15 => ?_)
    · have hwl2 := wgt_many (spl 32 rl)
      have hww2 := spl_wgt 32 rl
      have hsp2 := spl_pos 32 rl
      refine q_asgL (xs := (spl 32 rl).map fun x => V.str (tx x)) (el_split (c := 32) (vrl rfl (e08.trans (e9.trans e15))) (by omega)) fun wl H16 nwl e16 h16 => ?_
      obtain ⟨wz, hwz⟩ : ∃ wz, (spl 32 rl)[(spl 32 rl).length - 1]? = some wz := ⟨_, List.getElem?_eq_getElem (by omega)⟩
      have hwzm := List.mem_of_getElem? hwz
      have hwzl : wz.length ≤ b := by have := wgt_mem hwzm; omega
      refine q_asgL (xs := ((List.range 4).map fun i => V.str (tx [122, 122, 97 + i])).take (1 + j9)) (el_isL (el_slN (el_isL (el_lst (ea_cons ev_c (ea_cons ev_c (ea_cons ev_c (ea_cons ev_c ea_nil)))) (by show 4 ≤ 100000; decide)) (show _ = (List.range 4).map fun i => V.str (tx [122, 122, 97 + i]) from rfl)) eo_none (eo_some (ev_is (ev_op ev_c (ev_is (ev_op (ev_op (ev_var rfl) ev_c (rv_ixL (ex_l (e08.trans (e9.trans (e15.trans e16))) hxs) (ax 1 (by omega)))) ev_c (rv_I (by show (0 : Int) < 4; decide))) (congrArg V.int hj9)) rv_I0) (congrArg V.int (show (1 : Int) + ((j9 : Nat) : Int) = ((1 + j9 : Nat) : Int) by omega))))) (cut_take _)) fun zl H17 nzl e17 h17 => ?_
      have hzl : (((List.range 4).map fun i => V.str (tx [122, 122, 97 + i])).take (1 + j9)).length = 1 + j9 := by rw [List.length_take, List.length_map, List.length_range]; omega
      refine s_retP (lw_qq (lq_cat tw_up (lw_q (n := us.length) (m := us.length) (M := us.length) (b := 2 * b + 20) (ep_at (ev_var rfl) ⟨a, us, rfl, (e9.trans (e15.trans (e16.trans e17))) _ _ hus8, rfl, hub⟩ (lst_up tw_up)) (Nat.le_refl _) (Nat.le_refl _)) (lq_el (m := 0) (M := 4) (P := TXW (2 * b + 20)) (el_isL (el_lcL (fun _ => true) (fun i => V.str (tx ([122, 122, 97 + i] ++ [32] ++ wz))) (ev_var rfl) (sq_of h17) (by omega) (fun _ => rfl) (fun _ _ _ _ _ => et_yes) (fun i x G g hx _ => ?_)) rfl) ?_ ?_) (by omega)) (by omega) (by omega)) fun v18 H18 e18 hv => q v18 H18 (e08.trans (e9.trans (e15.trans (e16.trans (e17.trans e18))))) hv
      · have hi : i < 1 + j9 := by rw [← hzl]; exact (List.getElem?_eq_some_iff.mp hx).1
        rw [List.getElem?_take, if_pos hi, List.getElem?_map, List.getElem?_range (by omega)] at hx
        cases hx
        exact ev_op (ev_op (ev_var rfl) (ev_is ev_c (w := .str (tx [32])) rfl) (rv_catB (a := [122, 122, 97 + i]) (by show 3 + 1 ≤ _; decide))) (ev_op (z := .str (tx wz)) (ev_var rfl) (ev_is (ev_op (ev_len (ev_var rfl) (sq_of ((e17.trans g) _ _ h16))) ev_c rv_I0) (congrArg V.int (show ((((spl 32 rl).map fun x => V.str (tx x)).length : Nat) : Int) - 1 = (((spl 32 rl).length - 1 : Nat) : Int) by rw [List.length_map]; omega))) (rv_ixL (sq_of ((e17.trans g) _ _ h16)) (atI_nat (by rw [List.getElem?_map, hwz]; rfl)))) (rv_catB (by show 3 + 1 + _ ≤ _; omega))
      · rw [given_true, List.length_map, List.length_range, hzl]
        omega
      · intro x hx G
        rw [given_true] at hx
        obtain ⟨i, hi, rfl⟩ := List.mem_map.mp hx
        have hi := List.mem_range.mp hi
        refine ⟨_, rfl, by simp; omega, small_app (fun c hc => ?_) fun c hc => hrls c (spl_mem hwzm hc)⟩
        simp at hc
        omega
    replace e9 := e9.trans e15
    clear e15
    -- way == 10
    refine q_when (et_test (ev_op (ev_var rfl) ev_c (rv_eq rfl))) (fun hb H15 e15 => ?_) (fun hb H15 e15 => ?_)
    · exact s_retP (lw_q (cat1 rfl rfl (e9.trans e15) (lw_one (ev_var rfl) ⟨o, rfl, by omega, hos⟩)) (by omega) (by omega)) fun v11 H11 e11 hv => q v11 H11 (e08.trans (e9.trans (e15.trans e11))) hv
    exact s_retP (lw_q (lp_cat tw_up (lp_cat tw_up (lw_take (ev_var rfl) ((e9.trans e15) _ _ hus8) hub (ev_var rfl) (by omega)) (lw_one (ev_var rfl) ⟨r, rfl, hrb, hrs⟩) (by omega)) (lw_drop (ev_var rfl) ((e9.trans e15) _ _ hus8) hub (at1 rfl)) (by omega)) (by omega) (by omega)) fun v11 H11 e11 hv => q v11 H11 (e08.trans (e9.trans (e15.trans e11))) hv
end
end Hid

namespace Hid
open PySem PySem.Spec PyProof.Rows L2 Evl
theorem map_tx_inj : ∀ {a b : List (List Nat)}, a.map tx = b.map tx → a = b
  | [], [], _ => rfl
  | x :: a, y :: b, h => by
    rw [List.map_cons, List.map_cons] at h
    injection h with h1 h2
    rw [tx_inj h1, map_tx_inj h2]
theorem spl_book {n : Nat} {rs : List (List Nat × List Nat)} (h : BookOk n rs) : spl 10 (bookT n rs) = lineP n :: rs.map lineR := map_tx_inj ((split_spl 10 (bookT n rs)).symm.trans (bookT_split h))
theorem spl_row {p : List Nat × List Nat} (h : NameL p.1) (h2 : RowL p.2) : spl 32 (lineR p) = [p.1, p.2] := by
  unfold lineR
  rw [spl_two (name_free h (by decide)), spl_one (row_free h2 (by decide))]
theorem spl_c2 {c x : Nat} {l : List Nat} (h : ¬ x = c) : spl c (x :: l) = (x :: (spl c l).headD []) :: (spl c l).tail := by rw [spl, if_neg h]
theorem spl_c1 {c : Nat} {l : List Nat} : spl c (c :: l) = [] :: spl c l := by rw [spl, if_pos rfl]
theorem spl_app (c : Nat) (b : List Nat) : ∀ a, spl c (a ++ c :: b) = spl c a ++ spl c b
  | [] => spl_c1
  | x :: a => by
    have ih := spl_app c b a
    have hn := spl_ne c a
    show spl c (x :: (a ++ c :: b)) = _
    by_cases hx : x = c
    · rw [hx, spl_c1, spl_c1, ih]; rfl
    · rw [spl_c2 hx, spl_c2 hx, ih]
      generalize spl c a = s at hn
      cases s with
      | nil => exact absurd rfl hn
      | cons h t => rfl
theorem spl_long (c : Nat) {m : Nat} : ∀ ls : List (List Nat), (∀ w ∈ ls, w.length ≤ m) → ∀ w ∈ spl c (jn c ls), w.length ≤ m
  | [], _, w, h => by
    rw [List.mem_singleton.mp (show w ∈ [[]] from h)]
    exact Nat.zero_le _
  | [l], hl, w, h => by
    have h : w ∈ spl c l := h
    have a := wgt_mem h
    have b := spl_wgt c l
    have := hl l List.mem_cons_self
    omega
  | l :: k :: r, hl, w, h => by
    have h : w ∈ spl c (l ++ c :: jn c (k :: r)) := h
    rw [spl_app] at h
    rcases List.mem_append.mp h with h | h
    · have a := wgt_mem h
      have b := spl_wgt c l
      have := hl l List.mem_cons_self
      omega
    · exact spl_long c (k :: r) (fun w hw => hl w (List.mem_cons_of_mem _ hw)) w h
theorem wgt_le {m : Nat} : ∀ {ls : List (List Nat)}, (∀ w ∈ ls, w.length ≤ m) → wgt ls ≤ ls.length * (m + 1)
  | [], _ => Nat.zero_le _
  | l :: ls, h => by
    have := wgt_le (ls := ls) fun w hw => h w (List.mem_cons_of_mem _ hw)
    have := h l List.mem_cons_self
    rw [wgt_cons, List.length_cons, Nat.succ_mul]
    omega
/-- a text that the law may ask of -/
def TOk (z : List Nat) : Prop := z.length ≤ 50000 ∧ ∀ w ∈ spl 10 z, w.length ≤ 1000
theorem tok_short {z : List Nat} (h : z.length ≤ 1000) : ∀ w ∈ spl 10 z, w.length ≤ 1000 := fun w hw => by
  have := wgt_mem hw
  have := spl_wgt 10 z
  omega
theorem tok_ok {s : Str} (h : s.cps.size ≤ 1000) : ∃ z, V.str s = .str (tx z) ∧ TOk z := by
  have hl : s.cps.toList.length ≤ 1000 := by rw [Array.length_toList]; exact h
  exact ⟨s.cps.toList, by rw [← str_tx s], by omega, tok_short hl⟩
theorem tok_two {s : Str} {a b : List Nat} (h : s = tx (a ++ 10 :: b)) (ha : a.length ≤ 1000) (hb : b.length ≤ 1000) : ∃ z, V.str s = .str (tx z) ∧ TOk z :=
  ⟨_, by rw [h], by rw [List.length_append, List.length_cons]; omega, fun w hw => by
    rw [spl_app] at hw
    exact (List.mem_append.mp hw).elim (tok_short ha w) (tok_short hb w)⟩
def FxW (v : V) (_ : Hp) : Prop := ∃ z, v = .str (tx z) ∧ TOk z
theorem fx_up : UpP FxW := fun _ _ _ _ h => h
theorem txs_ls {b : Nat} : ∀ {us : List V}, (∀ x ∈ us, TXs b x) → ∃ ls : List (List Nat), us = (ls.map fun l => V.str (tx l)) ∧ ∀ w ∈ ls, w.length ≤ b
  | [], _ => ⟨[], rfl, fun _ h => nomatch h⟩
  | x :: us, h => by
    obtain ⟨ls, e, hl⟩ := txs_ls (us := us) fun y hy => h y (List.mem_cons_of_mem _ hy)
    obtain ⟨l, rfl, h1, _⟩ := h x List.mem_cons_self
    exact ⟨l :: ls, by rw [e]; rfl, fun w hw => (List.mem_cons.mp hw).elim (fun z => by rw [z]; exact h1) (hl w)⟩
theorem res_shaped (o : Option (List Nat)) : SeqAt.shaped (resD (resO o)) = true := by
  have hi : ∀ k : Nat, SeqAt.shaped (resD (.inl k)) = true := fun k => rfl
  cases o with
  | none => exact hi 0
  | some z =>
    show SeqAt.shaped (resD (readT z)) = true
    cases h : readT z with
    | inl k => exact hi k
    | inr p =>
      obtain ⟨n, rs⟩ := p
      refine shaped_book (rd_small (n := n) ?_)
      unfold readT at h
      cases hp : plcO ((spl 10 z).headD []) with
      | none => rw [hp] at h; cases h
      | some m =>
        rw [hp] at h
        dsimp only at h
        cases hb : rdB m 1 (spl 10 z).tail [] with
        | inl k => rw [hb] at h; cases h
        | inr qs =>
          rw [hb] at h
          cases h
          exact rdB_ok (by intro p h; cases h) hb
def bT : Nat → Nat
  | 0 => 17
  | i + 1 => 2 * bT i + 20
theorem bT_le {i : Nat} (h : i < 3) : bT i ≤ 300 ∧ bT (i + 1) ≤ 300 := by
  have : ∀ i < 3, bT i ≤ 300 ∧ bT (i + 1) ≤ 300 := by decide
  exact this i h
theorem lineP_txs {n : Nat} (h : n ≤ 8) : TXs 17 (.str (tx (lineP n))) := ⟨_, rfl, by show 8 ≤ 17; decide, fun c hc => by simp [lineP] at hc; omega⟩
theorem lineR_txs {p : List Nat × List Nat} (h : NameL p.1) (h2 : RowL p.2) : TXs 17 (.str (tx (lineR p))) := ⟨_, rfl, by unfold lineR; rw [List.length_append, List.length_cons]; have := h.1.2; have := h2.1.2; omega, fun c hc => by
  rcases List.mem_append.mp hc with z | z
  · have := h.2 c z; omega
  · rcases List.mem_cons.mp z with z | z
    · omega
    · rcases h2.2 c z with e | e | e <;> omega⟩
section
variable {K : PySem.W.Frag} {σ : L2.St} {H : Hp} {ta tb tc te : TE} {t : TT} {D : Ends} {tu tz : L2.TS} {ts : TA} {P P' : V → Hp → Prop}
theorem q_rows {sp sp2 : Sp} {E E2 : XK} {tb : TA} {vs : List V} {i c : Nat} (hb : EvA tb σ H vs) (k : ∀ G, Ex H G → sp2 vs G (fun bv G1 => sp [bv] G1 (fun x H1 => (∃ a, x = .str a) ∧ ∃ a b, x = .str a ∧ [V.str (sg1 c)] = [.str b] ∧ (b.length == 0) = false ∧ a.length + 2 ≤ sizeLine ∧ rNewStrs (Txt.split a b) H1 (fun v H2 => tz D (σ.set i (some v)) H2)) E) E2) : tSeq (tAsg (tM1 (fun x xs H Q => ∃ a b, x = .str a ∧ xs = [.str b] ∧ (b.length == 0) = false ∧ a.length + 2 ≤ sizeLine ∧ rNewStrs (Txt.split a b) H Q) (tCall sp [] E (tCons (tCall sp2 [] E2 tb) tNil)) (tC (.str (sg1 c)))) (gName i)) tz D σ H := hb H (Ex.refl _) _ fun G g => by
  show sp2 (vs ++ []) G _ E2
  rw [List.append_nil]
  exact k G g
theorem ed_callX {sp : Sp} {E : XK} {v : V} {d : PyData} (h : Ev te σ H v) (k : ∀ G, Ex H G → ∀ Q : VK, (∀ v2 H2, Ex G H2 → (∀ G2, Ex H2 G2 → Dp K G2 v2 d) → Q v2 H2) → sp [v] G Q E) : EvD K (tCall sp [] E (tCons te tNil)) σ H d := fun H1 e Q q =>
  h H1 e _ fun H2 e2 => k H2 (e.trans e2) Q fun v2 H3 e3 hd => q v2 H3 (e2.trans e3) hd
theorem ev_joinR {p : Addr} {ls : List (List Nat)} (c : Nat) (h : Ev te σ H (.ref p)) (hp : H p = some (.lst (ls.map fun l => V.str (tx l)))) (hz : ((ls.map tx).map (·.length)).sum + ls.length ≤ 100000) : Ev (tM1 (rJoin K) (tC (.str (sg1 c))) te) σ H (.str (tx (jn c ls))) := fun H1 e Q q =>
  ⟨⟨_, rfl⟩, h H1 e _ fun H2 e2 => ⟨sg1 c, p, ls.map tx, rfl, rfl, .inl (sq_of (by rw [List.map_map]; exact (e.trans e2) _ _ hp)), by
    rw [List.length_map]
    show _ + ls.length * 1 ≤ 16777216
    omega, by rw [join_jn]; exact q H2 e2⟩⟩
theorem ev_joinE {ls : List Str} (h : EvL te σ H (ls.map V.str)) (hz : (ls.map (·.length)).sum ≤ 100000) : Ev (tM1 (rJoin K) (tC (.str "")) te) σ H (.str (Txt.join "" ls)) := fun H1 e Q q =>
  ⟨⟨_, rfl⟩, h H1 e _ fun p H2 hp e2 h2 => ⟨"", p, ls, rfl, rfl, .inl (sq_of h2), by
    show _ + ls.length * 0 ≤ 16777216
    omega, q H2 e2⟩⟩
theorem rv_mulT {z : Str} {i : Int} (h0 : 0 ≤ i) (h1 : i ≤ 1000) (hz : z.length ≤ 1000) : RV (fun x y H Q => ∃ z i, x = .str z ∧ y = .int i ∧ 0 ≤ i ∧ i ≤ 1000 ∧ z.length ≤ 1000 ∧ Q (.str (Txt.mul z i)) H) (.str z) (.int i) H (.str (Txt.mul z i)) := fun H1 e Q q => ⟨z, i, rfl, rfl, h0, h1, hz, q H1 (Ex.refl _)⟩
theorem ns_up : UpP (fun v H => NotS K H v) := fun _ _ _ e h => h.ex e
theorem ns_c {v : V} {t : String} (ht : ∀ H1, TyX K H1 v (.type t)) (k : kitB t "str" = some false) : EvP (tC v) σ H (fun v H => NotS K H v) := fun H1 e Q q => q v H1 (Ex.refl _) ⟨t, k, fun H2 _ => ht H2⟩
theorem ns_lst {xs : List V} (h : EvL te σ H xs) : EvP te σ H (fun v H => NotS K H v) := fun H1 e Q q => h H1 e _ fun p H2 _ e2 h2 => q _ H2 e2 ⟨"list", by decide +kernel, fun _ e => .base (.lst (e _ _ h2))⟩
theorem ns_tup {xs : List V} (h : EvU te σ H xs) : EvP te σ H (fun v H => NotS K H v) := fun H1 e Q q => h H1 e _ fun p H2 _ e2 h2 => q _ H2 e2 ⟨"tuple", by decide +kernel, fun _ e => .base (.tup (e _ _ h2))⟩
theorem ns_dict : EvP tDNewK σ H (fun v H => NotS K H v) := fun H1 e Q q d nd => q _ _ (Ex.new nd) ⟨"dict", by decide +kernel, fun _ e => .base (.dK (e _ _ upd_same))⟩
theorem ns_tupU {x : V} (ha : Ev ta σ H x) : EvP (tTup (tCons ta (tCons (tTup tNil) tNil))) σ H (fun v H => NotS K H v) := fun H1 e Q q =>
  ha H1 e _ fun H2 e2 => ⟨by show 0 ≤ sizeLine; decide, fun p np => ⟨by show 2 ≤ sizeLine; decide, fun r nr => q _ _ (e2.trans ((Ex.new np).trans (Ex.new nr))) ⟨"tuple", by decide +kernel, fun _ e => .base (.tup (e _ _ upd_same))⟩⟩⟩
end
def fulS : Str := "places 2\na nb\nb nb\nc nb\nd nb\ne nb\nf nb\ng nb\nh nb\ni nb\nj nb"
def fixS : List Str := ["", "places", "places 1", "places 9", "places 0", "places 01", "places 1 ", "places 2\na n", "places 1\na n\na y", fulS, (fulS ++ "\nk nb"), (fulS ++ "\na nb"), (fulS ++ "\nk n"), "places 1\n", "\nplaces 1", "a n", "places 1\na\n n", (("places 1\n" ++ Txt.mul "a" 500) ++ " n")]
def lasS : Str := (((fulS ++ Txt.mul "\nzz nb" 100) ++ "\nq ") ++ Txt.mul "n" 400)
theorem fix_ok : ∀ s ∈ fixS, s.cps.size ≤ 1000 := by decide +kernel
theorem cat3 (A N : Str) : (A ++ tx [10, 113, 32]) ++ N = tx (A.cps.toList ++ 10 :: (113 :: 32 :: N.cps.toList)) := by
  have e : (A ++ tx [10, 113, 32]) ++ N = (tx A.cps.toList ++ tx [10, 113, 32]) ++ tx N.cps.toList := by rw [← str_tx A, ← str_tx N]
  rw [e, tx_app, tx_app, List.append_assoc]
  rfl
theorem las_sz : (fulS ++ Txt.mul "\nzz nb" 100).cps.size ≤ 1000 ∧ (Txt.mul "n" 400).cps.size ≤ 900 := by decide +kernel
theorem las_ok : ∃ a b, lasS = tx (a ++ 10 :: b) ∧ a.length ≤ 1000 ∧ b.length ≤ 1000 :=
  ⟨_, _, cat3 (fulS ++ Txt.mul "\nzz nb" 100) (Txt.mul "n" 400), by rw [Array.length_toList]; exact las_sz.1, by rw [List.length_cons, List.length_cons, Array.length_toList]; have := las_sz.2; omega⟩
section
variable {P : Program} {w : World} {K : PySem.W.Frag} {mg : Str → Option Value} {base : Heap}
def sp_law (K : PySem.W.Frag) (ts : List Addr) : Sp := fun vs H Q _ => ∃ (a : Addr) (ns : List Int), vs = [.ref a] ∧ SqL K H a (ns.map V.int) ∧ ns.length ≤ 63 ∧ TB ts H ∧ RetV (.bl true) H Q
theorem ok_law {ts : List Addr} {c_HalvesError : Addr} {c_NoCall : Addr} {c_NoFit : Addr} {c_NoHalf : Addr} {c_NoKnot : Addr} {c_NoLikeness : Addr} {c_NoName : Addr} {c_NoNumber : Addr} {c_NoOrder : Addr} {c_NoParting : Addr} {c_NoPlace : Addr} {c_NoRoom : Addr} {c_NoRow : Addr} {c_NoRule : Addr} {c_NoTree : Addr} {c_NoUndo : Addr} {c_NoText : Addr} (D : Df K mg "law" st_law ["_law_script"]) (m_list : mg "list" = none) (m_range : mg "range" = none) (m_len : mg "len" = none) (m_int : mg "int" = none) (m_all : mg "all" = none) (A__law_text : At P w K mg base "_law_text" st__law_text 1 ["_law_book_here"] (sp__law_text K ts)) (A__law_book : At P w K mg base "_law_book" st__law_book 3 ["_law_script", "_law_at", "_law_many", "_law_places"] (sp__law_book K ts)) (A__law_cell : At P w K mg base "_law_cell" st__law_cell 1 ["_law_script", "_law_k"] (sp__law_cell K ts)) (A__law_numbers : At P w K mg base "_law_numbers" st__law_numbers 1 ["_law_cell_here", "_law_many"] (sp__law_numbers K ts)) (A__law_spoilt : At P w K mg base "_law_spoilt" st__law_spoilt 1 ["_law_rows", "_law_xs"] (sp__law_spoilt K ts)) (A__law_told : At P w K mg base "_law_told" st__law_told 7 ["_law_thing"] (sp__law_told K ts c_HalvesError c_NoCall c_NoFit c_NoHalf c_NoKnot c_NoLikeness c_NoName c_NoNumber c_NoOrder c_NoParting c_NoPlace c_NoRoom c_NoRow c_NoRule c_NoTree c_NoUndo c_NoText)) (A__law_due : At P w K mg base "_law_due" st__law_due 3 ["_law_text_here"] (sp__law_due K ts)) : At P w K mg base "law" st_law 8 ["_law_script"] (sp_law K ts) := by
  obtain ⟨f, fd, F, b, g⟩ := D
  obtain ⟨f__law_text, fd__law_text, F__law_text, b__law_text, g__law_text, G__law_text⟩ := A__law_text
  obtain ⟨f__law_book, fd__law_book, F__law_book, b__law_book, g__law_book, G__law_book⟩ := A__law_book
  obtain ⟨f__law_cell, fd__law_cell, F__law_cell, b__law_cell, g__law_cell, G__law_cell⟩ := A__law_cell
  obtain ⟨f__law_numbers, fd__law_numbers, F__law_numbers, b__law_numbers, g__law_numbers, G__law_numbers⟩ := A__law_numbers
  obtain ⟨f__law_spoilt, fd__law_spoilt, F__law_spoilt, b__law_spoilt, g__law_spoilt, G__law_spoilt⟩ := A__law_spoilt
  obtain ⟨f__law_told, fd__law_told, F__law_told, b__law_told, g__law_told, G__law_told⟩ := A__law_told
  obtain ⟨f__law_due, fd__law_due, F__law_due, b__law_due, g__law_due, G__law_due⟩ := A__law_due
  refine ⟨f, fd, F, b, g, F.ok sc_law (fun vs H Q E h => ?_) (fun cdv A outer s H vs Q E hr h => ?_)⟩
  · obtain ⟨a, ns, rfl, _⟩ := h
    rfl
  · obtain ⟨a, ns, rfl, hS, hl, hT, q⟩ := h
    refine ⟨_, (pss_cons (ps_set (i := 1) sc_law.nd rfl (.inl rfl) pe_str)
      (pss_cons (ps_set (i := 2) sc_law.nd rfl (.inl rfl) (pe_m1 PySem.F.slot_str_split PySem.F.type_str_split mt_split (pe_call G__law_text (hr.mono (by decide)) (by rfl) g__law_text F__law_text.kp b__law_text .nil pass0 (pa_cons (pe_call G__law_book (hr.mono (by decide)) (by rfl) g__law_book F__law_book.kp b__law_book .nil pass0 (pa_cons (pv 0) (pa_cons pe_int (pa_cons pe_int (pa_cons pe_int pa_nil))))) pa_nil)) pe_str))
      (pss_cons (ps_for PassesOwn.never rfl (pi_list (pe_op op_cat (pe_lst (pa_cons (pe_call G__law_cell (hr.mono (by decide)) (by rfl) g__law_cell F__law_cell.kp b__law_cell .nil pass0 (pa_cons (pv 0) (pa_cons pe_int pa_nil))) pa_nil)) (pe_slice sl_list (pv 0) (po_some pe_int) (po_some pe_int)))) (pg_name (i := 3) sc_law.nd rfl (.inl rfl))
      (pss_cons (ps_set (i := 4) sc_law.nd rfl (.inl rfl) (pe_call G__law_numbers (hr.mono (by decide)) (by rfl) g__law_numbers F__law_numbers.kp b__law_numbers .nil pass0 (pa_cons (pv 3) (pa_cons pe_int pa_nil))))
      (pss_cons (ps_set (i := 5) sc_law.nd rfl (.inl rfl) (pe_callTy call_list_of (by rfl) m_list (by decide +kernel) (pa_cons (pv 2) pa_nil)))
      (pss_cons (ps_for PassesOwn.never rfl (pi_range2 (by rfl) m_range (pa_cons pe_int (pa_cons (pe_op op_mul (pe_callB call_len_seq (by rfl) m_len (by decide +kernel) (pa_cons (pv 2) pa_nil)) (pe_op op_mod (pe_op op_fdiv (pe_ix ix_list (pv 4) pe_int (fun _ _ => rfl)) pe_int) pe_int)) pa_nil))) (pg_name (i := 6) sc_law.nd rfl (.inl rfl))
      (pss_cons (ps_set (i := 7) sc_law.nd rfl (.inl rfl) (pe_ix ix_str (pv 1) (pe_op op_mod (pe_op op_add (pe_ix ix_list (pv 4) pe_int (fun _ _ => rfl)) (pe_op op_mul pe_int (pv 6))) pe_int) (fun _ _ => rfl)))
      (pss_cons (ps_set (i := 7) sc_law.nd rfl (.inl rfl) (pe_op op_add_str (pv 7) (pe_ix ix_str (pv 1) (pe_op op_mod (pe_ix ix_list (pv 4) (pv 6) (fun _ _ => rfl)) pe_int) (fun _ _ => rfl))))
      (pss_one (ps_asg (pe_op op_add_str (pe_op op_add_str (pv 7) pe_str) (pe_ix ix_list (pe_m1 PySem.F.slot_str_split PySem.F.type_str_split mt_split (pe_ix ix_list (pv 2) (pv 6) (fun _ _ => rfl)) pe_str) pe_int (fun _ _ => rfl))) (pg_sub (pv 5) (pv 6) set_list))))))
      (pss_cons (ps_for PassesOwn.never rfl (pi_range1 (by rfl) m_range (pa_cons (pe_op op_add pe_int (pe_op op_mod (pe_ix ix_list (pv 4) pe_int (fun _ _ => rfl)) pe_int)) pa_nil)) (pg_name (i := 8) sc_law.nd rfl (.inl rfl))
      (pss_one (ps_set (i := 5) sc_law.nd rfl (.inl rfl) (pe_call G__law_spoilt (hr.mono (by decide)) (by rfl) g__law_spoilt F__law_spoilt.kp b__law_spoilt .nil pass0 (pa_cons (pv 5) (pa_cons (pe_slice sl_list (pv 4) (po_some (pe_op op_add pe_int (pe_op op_mul pe_int (pv 8)))) po_none) pa_nil))))))
      (pss_cons (ps_set (i := 9) sc_law.nd rfl (.inl rfl) (pe_op op_add_str (pe_join pe_str (pv 5)) (pe_op Hid.op_mul_str pe_str (pe_callTy call_int1 (by rfl) m_int (by decide +kernel) (pa_cons (pe_cmpR op_eq (pe_op op_mod (pe_ix ix_list (pv 4) pe_int (fun _ _ => rfl)) pe_int) pe_int (nomark _)) pa_nil)))))
      (pss_one (ps_if (pt_cmpR (op_neD hr.units) (pe_call G__law_told (hr.mono (by decide)) (by rfl) g__law_told F__law_told.kp b__law_told .nil pass0 (pa_cons (pv 9) pa_nil)) (pe_call G__law_due (hr.mono (by decide)) (by rfl) g__law_due F__law_due.kp b__law_due .nil pass0 (pa_cons (pv 9) pa_nil)) (nomark _))
      (pss_one (ps_ret pe_bl))
      pss_nil))))))))
      (pss_cons (ps_set (i := 10) sc_law.nd rfl (.inl rfl) (pe_op op_add_str pe_str (pe_join pe_str (pe_lc (own := [("_law_k", 6)]) (g := gName 6) (by rfl) sc_law.nd (pi_range1 (by rfl) m_range (pa_cons pe_int pa_nil)) (blkOk_by (N := ["_law_script", "_law_letters", "_law_rows", "_law_cell_here", "_law_xs", "_law_some", "_law_k", "_law_name", "_law_turn", "_law_text_here", "_law_full", "_law_fixed", "_law_thing"]) (sc := defScope st_law) (by decide +kernel)) (fun _ _ _ _ _ => (pg_name (i := 6) sc_law.nd rfl (.inl rfl))) (fun _ _ _ _ _ => pts_nil) (fun _ _ _ _ _ => (pe_op op_add_str (pe_op op_add_str pe_str (pe_ix ix_str pe_str (pv 6) (fun _ _ => rfl))) pe_str))))))
      (pss_cons (ps_set (i := 11) sc_law.nd rfl (.inl rfl) (pe_lst (pa_cons pe_str (pa_cons pe_str (pa_cons pe_str (pa_cons pe_str (pa_cons pe_str (pa_cons pe_str (pa_cons pe_str (pa_cons pe_str pa_nil))))))))))
      (pss_cons (ps_set (i := 11) sc_law.nd rfl (.inl rfl) (pe_op op_cat (pv 11) (pe_lst (pa_cons pe_str (pa_cons (pv 10) (pa_cons (pe_op op_add_str (pv 10) pe_str) (pa_cons (pe_op op_add_str (pv 10) pe_str) (pa_cons (pe_op op_add_str (pv 10) pe_str) pa_nil))))))))
      (pss_cons (ps_set (i := 11) sc_law.nd rfl (.inl rfl) (pe_op op_cat (pv 11) (pe_lst (pa_cons pe_str (pa_cons pe_str (pa_cons pe_str (pa_cons pe_str (pa_cons (pe_op op_add_str (pe_op op_add_str pe_str (pe_op Hid.op_mul_str pe_str pe_int)) pe_str) pa_nil))))))))
      (pss_cons (ps_expr (pe_bm PySem.F.plainAttrs_list PySem.F.slot_list_append PySem.F.type_list_append mt_append (pv 11) (pa_cons (pe_op op_add_str (pe_op op_add_str (pe_op op_add_str (pv 10) (pe_op Hid.op_mul_str pe_str pe_int)) pe_str) (pe_op Hid.op_mul_str pe_str pe_int)) pa_nil)))
      (pss_cons (ps_if (pt_not (pt_val (pe_callB (cr_all rfl) (by rfl) m_all (by decide +kernel) (pa_cons (pe_lc (own := [("_law_text_here", 9)]) (g := gName 9) (by rfl) sc_law.nd (pi_list (pv 11)) (blkOk_by (N := ["_law_script", "_law_letters", "_law_rows", "_law_cell_here", "_law_xs", "_law_some", "_law_k", "_law_name", "_law_turn", "_law_text_here", "_law_full", "_law_fixed", "_law_thing"]) (sc := defScope st_law) (by decide +kernel)) (fun _ _ _ _ _ => (pg_name (i := 9) sc_law.nd rfl (.inl rfl))) (fun _ _ _ _ _ => pts_nil) (fun _ _ _ _ _ => (pe_cmpR (show OpR _ (compareOp .Eq) (rEqD K) from op_eqD hr.units) (pe_call G__law_told (hr.mono (by decide)) (by rfl) g__law_told F__law_told.kp b__law_told .nil pass0 (pa_cons (pv 9) pa_nil)) (pe_call G__law_due (hr.mono (by decide)) (by rfl) g__law_due F__law_due.kp b__law_due .nil pass0 (pa_cons (pv 9) pa_nil)) (nomark _)))) pa_nil))))
      (pss_one (ps_ret pe_bl))
      pss_nil)
      (pss_one (ps_ret (pe_callB (cr_all rfl) (by rfl) m_all (by decide +kernel) (pa_cons (pe_lc (own := [("_law_thing", 12)]) (g := gName 12) (by rfl) sc_law.nd (pi_list (pe_lst (pa_cons pe_non (pa_cons pe_int (pa_cons pe_bl (pa_cons (pe_lst (pa_cons pe_str pa_nil)) (pa_cons (pe_tup (pa_cons pe_int (pa_cons (pe_tup pa_nil) pa_nil))) (pa_cons pe_dnewK (pa_cons (pe_tup pa_nil) pa_nil))))))))) (blkOk_by (N := ["_law_script", "_law_letters", "_law_rows", "_law_cell_here", "_law_xs", "_law_some", "_law_k", "_law_name", "_law_turn", "_law_text_here", "_law_full", "_law_fixed", "_law_thing"]) (sc := defScope st_law) (by decide +kernel)) (fun _ _ _ _ _ => (pg_name (i := 12) sc_law.nd rfl (.inl rfl))) (fun _ _ _ _ _ => pts_nil) (fun _ _ _ _ _ => (pe_cmpR (show OpR _ (compareOp .Eq) (rEqD K) from op_eqD hr.units) (pe_call G__law_told (hr.mono (by decide)) (by rfl) g__law_told F__law_told.kp b__law_told .nil pass0 (pa_cons (pv 12) pa_nil)) pe_int (nomark _)))) pa_nil))))))))))))), ?_⟩
    have told : ∀ {σ : L2.St} {G : Hp} {te : TE} {z : List Nat}, Ev te σ G (.str (tx z)) → TOk z → Ex H G → EvD K (tCall (sp__law_told K ts c_HalvesError c_NoCall c_NoFit c_NoHalf c_NoKnot c_NoLikeness c_NoName c_NoNumber c_NoOrder c_NoParting c_NoPlace c_NoRoom c_NoRow c_NoRule c_NoTree c_NoUndo c_NoText) [] E0 (tCons te tNil)) σ G (resD (resO (some z))) := fun h hz g => ed_callX h fun G2 g2 Q2 q2 => ⟨_, some _, rfl, ⟨rfl, hz.1, hz.2⟩, hT.ex (g.trans g2), q2⟩
    have due : ∀ {σ : L2.St} {G : Hp} {te : TE} {z : List Nat}, Ev te σ G (.str (tx z)) → TOk z → Ex H G → EvD K (tCall (sp__law_due K ts) [] E0 (tCons te tNil)) σ G (resD (resO (some z))) := fun h hz g => ed_callX h fun G2 g2 Q2 q2 => ⟨_, rfl, hz, hT.ex (g.trans g2), q2⟩
    refine q_asg (v := .str (tx az)) (ev_is ev_c rfl) fun H0 e0 => ?_
    refine q_rows (c := 10) (ea_cons (ev_var rfl) (ea_cons ev_c (ea_cons ev_c (ea_cons ev_c ea_nil)))) fun G1 g1 => ⟨a, ns, 0, 10, 8, rfl, ex_l (e0.trans g1) hS, ⟨by decide, by decide, by decide, by decide⟩, fun n rs bv H1 e1' hB hBk hrl hn8 => ⟨bv, n, rs, rfl, hB, hBk, fun H1' e1'' => ⟨⟨_, rfl⟩, _, _, rfl, rfl, rfl, sz_of (by have := bookT_len hBk; rw [tx_len]; omega), fun pr npr => ?_⟩⟩⟩
    have hpr : (upd H1' pr (.lst ((Txt.split (tx (bookT n rs)) (sg1 10)).map V.str))) pr = some (.lst ((lineP n :: rs.map lineR).map fun x => V.str (tx x))) := by rw [upd_same, bookT_split hBk, List.map_map]; rfl
    have e01 : Ex H (upd H1' pr (.lst ((Txt.split (tx (bookT n rs)) (sg1 10)).map V.str))) := e0.trans (g1.trans (e1'.trans (e1''.trans (Ex.new npr))))
    generalize upd H1' pr (.lst ((Txt.split (tx (bookT n rs)) (sg1 10)).map V.str)) = H1 at hpr e01
    have hm2 : ∀ p ∈ rs, NameL p.1 ∧ RowL p.2 := fun p hp => ⟨hBk.hm p hp, (hBk.hr p hp).1⟩
    have hLs : ∀ x ∈ (lineP n :: rs.map lineR).map fun x => V.str (tx x), TXs 17 x := fun x hx => by
      obtain ⟨w, hw, rfl⟩ := List.mem_map.mp hx
      rcases List.mem_cons.mp hw with z | z
      · rw [z]; exact lineP_txs hn8
      · obtain ⟨p, hp, rfl⟩ := List.mem_map.mp z
        exact lineR_txs (hm2 p hp).1 (hm2 p hp).2
    have hLl : ((lineP n :: rs.map lineR).map fun x => V.str (tx x)).length = rs.length + 1 := by simp
    refine q_forI (K := K) (ei_cells (K := K) (fun G g Q1 q1 => c_call (ea_cons (ev_var rfl) (ea_cons ev_c ea_nil)) fun G2 g2 => ⟨a, ns, 11, rfl, ex_l (e01.trans (g.trans g2)) hS, by decide, fun c G3 g3 => q1 c G3 (g2.trans g3)⟩) (ev_var rfl) (ex_l e01 hS) (by omega) (eo_some ev_c) (eo_some ev_c)) (fun G i σ' H' => ∃ y3 y4 y5 y6 y7 y8 y9 : Option V, σ' = [some (.ref a), some (.str (tx az)), some (.ref pr), y3, y4, y5, y6, y7, y8, y9, none, none, none] ∧ Ex G H') (fun G g => ⟨_, _, _, _, _, _, _, rfl, Ex.refl _⟩) (fun G i σ' H' hP => ?_) (fun G i z σ' H4 g hP => ?_) (fun G m σ' H4 g hP => ?_)
    · obtain ⟨_, _, _, _, _, _, _, _, e⟩ := hP
      exact e
    · obtain ⟨y3, y4, y5, y6, y7, y8, y9, rfl, g4⟩ := hP
      have k4 : Ex H1 H4 := g.trans g4
      refine c_call (ea_cons (ev_var rfl) (ea_cons ev_c ea_nil)) fun G5 g5 => ⟨z, 14, rfl, by decide, fun xs hxl hxp px H5 npx g5' h5 => ?_⟩
      have e5 : Ex H4 H5 := g5.trans g5'
      have k5 := k4.trans e5
      have hxl' : xs.length = 14 := by omega
      have ax : ∀ (j : Nat) (hj : j < 14), atI (xs.map V.int) (j : Int) = some (.int (xs.getD j 0)) := fun j hj => atI_nat (by rw [List.getElem?_map, List.getD_eq_getElem?_getD, List.getElem?_eq_getElem (by omega)]; rfl)
      refine q_asgL (xs := (lineP n :: rs.map lineR).map fun x => V.str (tx x)) (el_list (ev_var rfl) (sq_of (k5 _ _ hpr))) fun ps H6 nps e6 h6 => ?_
      obtain ⟨t, ht, ht2⟩ := emod_nat (xs.getD 13 0 / 8) (show 0 < 2 by decide)
      have hmn : (rs.length + 1) * t ≤ rs.length + 1 := by
        have : t = 0 ∨ t = 1 := by omega
        rcases this with e | e <;> subst e <;> omega
      have m8 := fun (σ : L2.St) (G : Hp) (s4 : σ[4]? = some (some (.ref px))) (g : Ex H5 G) => (ev_op (ev_op (ev_op (ev_var s4) ev_c (rv_ixL (sq_of (g _ _ h5)) (ax 13 (by omega)))) ev_c (rv_I (show CDiv _ 8 from ⟨by decide, by decide⟩))) ev_c (rv_I (by show (0 : Int) < 2; decide)) : Ev (tOp (rI (fun x j => 0 < j) fun i j => V.int (i % j)) (tOp (rI CDiv fun i j => V.int (i / j)) (tOp (rIxL K) (tVar 4) (tC (.int 13))) (tC (.int 8))) (tC (.int 2))) σ G _)
      refine q_forR2 (lo := 1) (n := (((rs.length + 1) * t : Nat) : Int)) (ea_cons ev_c (ea_cons (ev_is (ev_op (ev_len (ev_var rfl) (sq_of ((k5.trans e6) _ _ hpr))) (m8 _ _ rfl e6) (rv_I (show CMul _ _ from .inl ⟨by omega, by omega⟩))) (congrArg V.int (by rw [hLl, show xs.getD 13 0 / 8 % (2 : Int) = ((t : Nat) : Int) from ht]; exact (Int.natCast_mul _ _).symm))) ea_nil)) ⟨by decide, by decide, by omega, by omega⟩ (fun i σ' H' => ∃ (us : List V) (y6 y7 : Option V), σ' = [some (.ref a), some (.str (tx az)), some (.ref pr), some (.int z), some (.ref px), some (.ref ps), y6, y7, y8, y9, none, none, none] ∧ Ex H5 H' ∧ H' ps = some (.lst us) ∧ us.length = rs.length + 1 ∧ ∀ x ∈ us, TXs 17 x) (fun H7 e7 => ⟨_, _, _, rfl, e6.trans e7, e7 _ _ h6, hLl, hLs⟩) (fun i σ' H7 hi hP => ?_) (fun σ' H7 hP => ?_)
      · obtain ⟨us, y6, y7, rfl, e7, h7, hul, hus⟩ := hP
        have hi : i < rs.length := by omega
        rw [show (1 : Int) + (i : Int) = ((i + 1 : Nat) : Int) by omega]
        obtain ⟨j, hj, hj26⟩ := emod_nat (xs.getD 2 0 + 3 * ((i + 1 : Nat) : Int)) (show 0 < 26 by decide)
        obtain ⟨j2, hj2, hj226⟩ := emod_nat (xs.getD (i + 1) 0) (show 0 < 26 by decide)
        have az1 : ∀ {i : Nat}, i < 26 → atI (tx az).cps.toList (i : Int) = some (97 + i) := fun {i} h => atI_nat (by
          rw [tx_toList]
          have : ∀ i < 26, az[i]? = some (97 + i) := by decide
          exact this i h)
        refine q_asg (v := .str (tx [97 + j])) (ev_op (ev_var rfl) (ev_is (ev_op (ev_op (ev_op (ev_var rfl) ev_c (rv_ixL (sq_of (e7 _ _ h5)) (ax 2 (by omega)))) (ev_op ev_c (ev_var rfl) (rv_I (show CMul _ _ from .inl ⟨by decide, by decide⟩))) rv_I0) ev_c (rv_I (by show (0 : Int) < 26; decide))) (congrArg V.int hj)) (rv_ixS (by decide) (az1 hj26))) fun H8 e8 => ?_
        refine q_asg (v := .str (tx ([97 + j] ++ [97 + j2]))) (ev_op (ev_var rfl) (ev_op (z := .str (tx [97 + j2])) (ev_var rfl) (ev_is (ev_op (ev_op (ev_var rfl) (ev_var rfl) (rv_ixL (sq_of ((e7.trans e8) _ _ h5)) (ax (i + 1) (by omega)))) ev_c (rv_I (by show (0 : Int) < 26; decide))) (congrArg V.int hj2)) (rv_ixS (by decide) (az1 hj226))) (rv_catB (by show 1 + 1 ≤ 100000; decide))) fun H9 e9 => ?_
        have e79 := e7.trans (e8.trans e9)
        obtain ⟨hN, hR⟩ := hm2 _ (List.getElem_mem hi)
        have hpi : atI ((lineP n :: rs.map lineR).map fun x => V.str (tx x)) ((i + 1 : Nat) : Int) = some (.str (tx (lineR rs[i]))) := atI_nat (by rw [List.getElem?_map, List.getElem?_cons_succ, List.getElem?_map, List.getElem?_eq_getElem hi]; rfl)
        have hRl := hR.1.2
        have hNl := hN.1.2
        refine s_setL (v := .str (tx ([97 + j] ++ [97 + j2] ++ [32] ++ rs[i].2))) (j := i + 1) ((e8.trans e9) _ _ h7) (ev_op (ev_op (ev_var rfl) (ev_is ev_c (w := .str (tx [32])) rfl) (rv_catB (by show 2 + 1 ≤ 100000; decide))) (ev_opL1 (xs := (spl 32 (lineR rs[i])).map fun x => V.str (tx x)) (z := .str (tx rs[i].2)) (el_split (c := 32) (ev_op (ev_var rfl) (ev_var rfl) (rv_ixL (sq_of ((k5.trans e79) _ _ hpr)) hpi)) (by unfold lineR; rw [List.length_append, List.length_cons]; omega)) (fun G g => ev_c) (fun p G hp g => rv_ixL (sq_of hp) (atI_nat (j := 1) (by rw [spl_row hN hR]; rfl)))) (rv_catB (by show 2 + 1 + _ ≤ 100000; omega))) (ev_var rfl) (ev_var rfl) (by omega) fun H10 e10 => ⟨_, _, _, rfl, (e79.trans e10).mut nps, upd_same, by rw [List.length_set]; exact hul, fun x hx => ?_⟩
        rcases List.mem_or_eq_of_mem_set hx with z | z
        · exact hus x z
        · rw [z]
          refine ⟨_, rfl, by simp; omega, small_app (fun c hc => ?_) fun c hc => by rcases hR.2 c hc with e | e | e <;> omega⟩
          simp at hc
          omega
      · obtain ⟨us, y6, y7, rfl, e7, h7, hul, hus⟩ := hP
        obtain ⟨t3, ht3, ht33⟩ := emod_nat (xs.getD 0 0) (show 0 < 3 by decide)
        refine q_forR1 (n := ((1 + t3 : Nat) : Int)) (ea_cons (ev_is (ev_op ev_c (ev_op (ev_op (ev_var rfl) ev_c (rv_ixL (sq_of (e7 _ _ h5)) (ax 0 (by omega)))) ev_c (rv_I (by show (0 : Int) < 3; decide))) rv_I0) (congrArg V.int (by rw [show xs.getD 0 0 % (3 : Int) = ((t3 : Nat) : Int) from ht3]; omega))) ea_nil) ⟨by omega, by omega⟩ (fun i σ' H' => ∃ (v5 : V) (y8 : Option V), σ' = [some (.ref a), some (.str (tx az)), some (.ref pr), some (.int z), some (.ref px), some v5, y6, y7, y8, y9, none, none, none] ∧ Ex H5 H' ∧ LstQ (TXW (bT i)) 1 (11 + 4 * i) v5 H') (fun H8 e8 => ⟨_, _, rfl, e7.trans e8, ps, us, rfl, e8 _ _ h7, ⟨by omega, by omega⟩, hus⟩) (fun i σ' H8 hi hP => ?_) (fun σ' H8 hP => ?_)
        · obtain ⟨v5, y8, rfl, e8, ps2, us2, rfl, h8, ⟨hu1, hu2⟩, hus2⟩ := hP
          have hi3 : i < 3 := by omega
          refine ⟨_, rfl, (el_sl (K := K) (ev_var rfl) (eo_some (ev_is (ev_op ev_c (ev_op ev_c (ev_var rfl) (rv_I (show CMul _ _ from .inl ⟨by decide, by decide⟩))) rv_I0) (congrArg V.int (show (1 : Int) + 4 * (i : Int) = ((1 + 4 * i : Nat) : Int) by omega)))) eo_none (sq_of (e8 _ _ h5))) H8 (Ex.refl _) _ fun p9 H9 np9 e9 h9 => ⟨ps2, p9, us2, xs.drop (1 + 4 * i), bT i, rfl, e9 _ _ h8, sq_of (by rw [List.map_drop, ← cut_drop]; exact h9), ⟨by omega, by omega, by rw [List.length_drop]; omega, (bT_le hi3).1⟩, hus2, fun v H10 e10 hv => ⟨v, _, rfl, e8.trans (e9.trans e10), ?_⟩⟩⟩
          obtain ⟨p, vs, a1, a2, ⟨a3, a4⟩, a5⟩ := hv
          exact ⟨p, vs, a1, a2, ⟨a3, by omega⟩, a5⟩
        · obtain ⟨v5, y8, rfl, e8, ps2, us2, rfl, h8, ⟨hu1, hu2⟩, hus2⟩ := hP
          have hbt : bT (1 + t3) ≤ 300 := by rw [show 1 + t3 = t3 + 1 by omega]; exact (bT_le ht33).2
          rw [Int.toNat_natCast] at hu2 hus2
          obtain ⟨ls, rfl, hls⟩ := txs_ls hus2
          rw [List.length_map] at hu1 hu2
          have hls3 : ∀ w ∈ ls, w.length ≤ 300 := fun w hw => Nat.le_trans (hls w hw) hbt
          have hw1 := wgt_le hls3
          obtain ⟨zt, hzt, hzo⟩ : ∃ zt : List Nat, tx zt = tx (jn 10 ls) ++ Txt.mul (sg1 10) (if decide (V.int (xs.getD 13 0 % 8) = V.int 1) = true then 1 else 0) ∧ TOk zt := by
            have key : ∀ ks : List (List Nat), ks ≠ [] → ks.length ≤ 24 → (∀ w ∈ ks, w.length ≤ 300) → TOk (jn 10 ks) := fun ks h0 h1 h2 => by
              have := jn_len 10 h0
              have := wgt_le h2
              exact ⟨by omega, fun w hw => Nat.le_trans (spl_long 10 ks h2 w hw) (by decide)⟩
            have h0 : ls ≠ [] := List.length_pos_iff.mp (by omega)
            cases decide (V.int (xs.getD 13 0 % 8) = V.int 1) with
            | false => exact ⟨jn 10 ls, by rw [if_neg (by decide), show Txt.mul (sg1 10) 0 = tx [] by decide +kernel, tx_app, List.append_nil], key ls h0 (by omega) hls3⟩
            | true =>
              refine ⟨jn 10 (ls ++ [[]]), ?_, key _ (by simp) (by rw [List.length_append]; show _ + 1 ≤ 24; omega) fun w hw => (List.mem_append.mp hw).elim (hls3 w) fun h => by rw [List.mem_singleton.mp h]; exact Nat.zero_le _⟩
              rw [if_pos rfl, show Txt.mul (sg1 10) 1 = tx [10] by decide +kernel, tx_app]
              cases ls with
              | nil => exact absurd rfl h0
              | cons l r => rw [jn_snoc]
          have hjl := jn_le 10 ls
          refine q_asg (v := .str (tx zt)) (ev_is (ev_op (ev_joinR 10 (ev_var rfl) h8 (by rw [sum_wgt]; omega)) (ev_op (z := .str (Txt.mul (sg1 10) (if decide (V.int (xs.getD 13 0 % 8) = V.int 1) = true then 1 else 0))) ev_c (ev_cb (ea_cons (ev_op (ev_op (ev_op (ev_var rfl) ev_c (rv_ixL (sq_of (e8 _ _ h5)) (ax 13 (by omega)))) ev_c (rv_I (by show (0 : Int) < 8; decide))) ev_c (rv_eq rfl)) ea_nil) fun G g Q1 q1 => .inr ⟨_, rfl, q1 G (Ex.refl _)⟩) (rv_mulT (by split <;> decide) (by split <;> decide) (by decide +kernel))) (fun G g Q1 q1 => ⟨_, _, rfl, rfl, sz_of ?_, q1 G (Ex.refl _)⟩)) (congrArg V.str hzt.symm)) fun H9 e9 => ?_
          · rw [tx_len]
            have : (Txt.mul (sg1 10) (if decide (V.int (xs.getD 13 0 % 8) = V.int 1) = true then 1 else 0)).length ≤ 1 := by
              cases decide (V.int (xs.getD 13 0 % 8) = V.int 1) <;> decide +kernel
            omega
          have g9 := e01.trans (k5.trans (e8.trans e9))
          exact s_when (b := false) (et_test (ev_neD (told (ev_var rfl) hzo g9) (due (ev_var rfl) hzo g9) (res_shaped (some zt)))) (fun hb H10 e10 => absurd hb (by decide)) (fun hb H10 e10 => ⟨_, _, _, _, _, _, _, rfl, g4.trans (e5.trans (e8.trans (e9.trans e10)))⟩)
    · obtain ⟨y3, y4, y5, y6, y7, y8, y9, rfl, g4⟩ := hP
      have k4 : Ex H H4 := e01.trans (g.trans g4)
      refine q_asg (v := .str fulS) (ev_is (ev_op ev_c (ev_joinE (ls := (List.range 10).map fun k => tx [10, 97 + k, 32, 110, 98]) (el_isL (el_lcR1 (n := 10) (fun _ => true) (fun k => V.str (tx [10, 97 + k, 32, 110, 98])) (ea_cons ev_c ea_nil) (by decide) (fun _ => rfl) (fun _ _ _ _ => et_yes) (fun k G g9 hk _ => ?_)) rfl) (by decide +kernel)) (rv_catS (by decide +kernel) (by decide +kernel))) (congrArg V.str (by decide +kernel))) fun H5 e5 => ?_
      · have hk10 : k < 10 := by omega
        have : ∀ k < 10, (("abcdefghij" : Str)).cps.toList[k]? = some (97 + k) := by decide +kernel
        exact ev_op (ev_op (ev_is ev_c (w := .str (tx [10])) rfl) (ev_op (z := .str (tx [97 + k])) ev_c (ev_var rfl) (rv_ixS (by decide +kernel) (atI_nat (this k hk10)))) (rv_catB (a := [10]) (by show 1 + 1 ≤ 100000; decide))) (ev_is ev_c (w := .str (tx [32, 110, 98])) rfl) (rv_catB (a := [10] ++ [97 + k]) (by show 2 + 3 ≤ 100000; decide))
      refine q_asgL (xs := [.str "", .str "places", .str "places 1", .str "places 9", .str "places 0", .str "places 01", .str "places 1 ", .str "places 2\na n"]) (el_lst (ea_cons ev_c (ea_cons ev_c (ea_cons ev_c (ea_cons ev_c (ea_cons ev_c (ea_cons ev_c (ea_cons ev_c (ea_cons ev_c ea_nil)))))))) (by show 8 ≤ 100000; decide)) fun l6 H6 n6 e6 h6 => ?_
      refine q_asgL (xs := [.str "", .str "places", .str "places 1", .str "places 9", .str "places 0", .str "places 01", .str "places 1 ", .str "places 2\na n"] ++ [.str "places 1\na n\na y", .str fulS, .str (fulS ++ "\nk nb"), .str (fulS ++ "\na nb"), .str (fulS ++ "\nk n")]) (el_catV (ev_var rfl) h6 (el_lst (ea_cons ev_c (ea_cons (ev_var rfl) (ea_cons (ev_op (ev_var rfl) ev_c (rv_catS (by decide +kernel) (by decide +kernel))) (ea_cons (ev_op (ev_var rfl) ev_c (rv_catS (by decide +kernel) (by decide +kernel))) (ea_cons (ev_op (ev_var rfl) ev_c (rv_catS (by decide +kernel) (by decide +kernel))) ea_nil))))) (by show 5 ≤ 100000; decide)) (by decide)) fun l7 H7 n7 e7 h7 => ?_
      refine q_asgL (xs := ([.str "", .str "places", .str "places 1", .str "places 9", .str "places 0", .str "places 01", .str "places 1 ", .str "places 2\na n"] ++ [.str "places 1\na n\na y", .str fulS, .str (fulS ++ "\nk nb"), .str (fulS ++ "\na nb"), .str (fulS ++ "\nk n")]) ++ [.str "places 1\n", .str "\nplaces 1", .str "a n", .str "places 1\na\n n", .str (("places 1\n" ++ Txt.mul "a" 500) ++ " n")]) (el_catV (ev_var rfl) h7 (el_lst (ea_cons ev_c (ea_cons ev_c (ea_cons ev_c (ea_cons ev_c (ea_cons (ev_op (ev_op ev_c (ev_op ev_c ev_c (rv_mulT (by decide) (by decide) (by decide +kernel))) (rv_catS (by decide +kernel) (by decide +kernel))) ev_c (rv_catS (by decide +kernel) (by decide +kernel))) ea_nil))))) (by show 5 ≤ 100000; decide)) (by decide)) fun l8 H8 n8 e8 h8 => ?_
      refine q_app (v := .str (((fulS ++ Txt.mul "\nzz nb" 100) ++ "\nq ") ++ Txt.mul "n" 400)) h8 (ev_var rfl) (ev_op (ev_op (ev_op (ev_var rfl) (ev_op ev_c ev_c (rv_mulT (by decide) (by decide) (by decide +kernel))) (rv_catS (by decide +kernel) (by decide +kernel))) ev_c (rv_catS (by decide +kernel) (by decide +kernel))) (ev_op ev_c ev_c (rv_mulT (by decide) (by decide) (by decide +kernel))) (rv_catS (by decide +kernel) (by decide +kernel))) (by decide) fun H9 e9 => ?_
      have e59 : Ex H (upd H9 l8 (.lst ((([.str "", .str "places", .str "places 1", .str "places 9", .str "places 0", .str "places 01", .str "places 1 ", .str "places 2\na n"] ++ [.str "places 1\na n\na y", .str fulS, .str (fulS ++ "\nk nb"), .str (fulS ++ "\na nb"), .str (fulS ++ "\nk n")]) ++ [.str "places 1\n", .str "\nplaces 1", .str "a n", .str "places 1\na\n n", .str (("places 1\n" ++ Txt.mul "a" 500) ++ " n")]) ++ [.str (((fulS ++ Txt.mul "\nzz nb" 100) ++ "\nq ") ++ Txt.mul "n" 400)]))) := (k4.trans (e5.trans (e6.trans (e7.trans (e8.trans e9))))).mut (fresh_back (k4.trans (e5.trans (e6.trans e7))) n8)
      have h9 : (upd H9 l8 (.lst ((([.str "", .str "places", .str "places 1", .str "places 9", .str "places 0", .str "places 01", .str "places 1 ", .str "places 2\na n"] ++ [.str "places 1\na n\na y", .str fulS, .str (fulS ++ "\nk nb"), .str (fulS ++ "\na nb"), .str (fulS ++ "\nk n")]) ++ [.str "places 1\n", .str "\nplaces 1", .str "a n", .str "places 1\na\n n", .str (("places 1\n" ++ Txt.mul "a" 500) ++ " n")]) ++ [.str (((fulS ++ Txt.mul "\nzz nb" 100) ++ "\nq ") ++ Txt.mul "n" 400)]))) l8 = some (.lst (fixS.map V.str ++ [.str lasS])) := upd_same
      generalize upd H9 l8 (.lst ((([.str "", .str "places", .str "places 1", .str "places 9", .str "places 0", .str "places 01", .str "places 1 ", .str "places 2\na n"] ++ [.str "places 1\na n\na y", .str fulS, .str (fulS ++ "\nk nb"), .str (fulS ++ "\na nb"), .str (fulS ++ "\nk n")]) ++ [.str "places 1\n", .str "\nplaces 1", .str "a n", .str "places 1\na\n n", .str (("places 1\n" ++ Txt.mul "a" 500) ++ " n")]) ++ [.str (((fulS ++ Txt.mul "\nzz nb" 100) ++ "\nq ") ++ Txt.mul "n" 400)])) = H10 at e59 h9
      refine q_when (b := false) (et_is (et_not (et_B (ev_allP (K := K) (n := 19) (P := FxW) fx_up (ep_at (P := LstP FxW 19) (ev_var rfl) ⟨l8, _, rfl, h9, rfl, fun v hv => ?_⟩ (lst_up fx_up)) (by decide) (fun _ => rfl) fun x G g hx => ?_))) rfl) (fun hb H11 e11 => absurd hb (by decide)) (fun hb H11 e11 => ?_)
      · rcases List.mem_append.mp hv with hv | hv
        · obtain ⟨s, hs, rfl⟩ := List.mem_map.mp hv
          exact tok_ok (fix_ok s hs)
        · rw [List.mem_singleton.mp hv]
          obtain ⟨za, zb, h1, h2, h3⟩ := las_ok
          exact tok_two h1 h2 h3
      · obtain ⟨zz, rfl, hz⟩ := hx
        exact ev_eqD (told (ev_var rfl) hz (e59.trans g)) (due (ev_var rfl) hz (e59.trans g)) (res_shaped (some zz))
      refine s_ret (ev_allP (K := K) (n := 7) (P := fun v H => NotS K H v) ns_up (lp_lst ns_up (ap_cons ns_up (ns_c (t := "NoneType") (fun _ => .base .non) (by decide +kernel)) (ap_cons ns_up (ns_c (t := "int") (fun _ => .base (.int _)) (by decide +kernel)) (ap_cons ns_up (ns_c (t := "bool") (fun _ => .base (.bl _)) (by decide +kernel)) (ap_cons ns_up (ns_lst (el_lst (ea_cons ev_c ea_nil) (by decide))) (ap_cons ns_up (ns_tupU ev_c) (ap_cons ns_up ns_dict (ap_cons ns_up (ns_tup (eu_tup ea_nil (by decide))) ap_nil))))))) (by decide)) (by decide) (fun _ => rfl) fun x G g hx => ?_) fun H12 e12 => q H12 (e59.trans (e11.trans e12))
      exact ev_eqD (d := resD (resO none)) (ed_callX (ev_var rfl) fun G2 g2 Q2 q2 => ⟨x, none, rfl, NotS.ex hx g2, hT.ex (e59.trans (e11.trans (g.trans g2))), q2⟩) (ed_ev ev_c fun G2 _ => .int _) (res_shaped none)
end
end Hid

namespace Hid
open PySem PySem.Spec PyProof.Rows L2 Evl
/-! the base refusal's __init__ -/
def clsDef (s : Stmt) : Stmt := match s with
  | .ClassDef _ _ _ body _ _ _ _ _ _ _ => body.getD 0 (.Pass ⟨0, 0, 0, 0⟩)
  | _ => .Pass ⟨0, 0, 0, 0⟩
abbrev st_hinit : Stmt := clsDef (topS 1)
theorem sc_hinit : FnScope ["self", "why"] ["self", "why"] (defScope st_hinit) := ⟨rfl, rfl, rfl, by decide +kernel, rfl, by decide +kernel, by decide +kernel⟩
section
variable {P : Program} {w : World} {K : PySem.W.Frag} {mg : Str → Option Value} {base : Heap}
theorem hin_ok {fI : Addr} {fdI : FuncData} (F : FunD K "__init__" "HalvesError.__init__" (defArgs st_hinit) (defBody st_hinit) (defScope st_hinit) [.str "refused"] [] fI fdI) (ty : PySem.W.typeIn K (.ref fI) = some (.type "function")) (m_VE : mg "ValueError" = none)
    (vV : PySem.W.findCls K (.type "ValueError") (.type "type") "__init__" = some (.val (.builtin "ValueError.__init__"))) : HIn P w K mg base fI fdI := by
  refine ⟨?_, ty, ?_⟩
  · obtain ⟨ds, hv, hb⟩ := F.binds1 (ps := ["self", "why"]) 2 1 (by decide) rfl fun T kV doc pm an cdv ct us its hu hi => match us, hu, its, hi with | [_, _], _, [_], _ => ⟨_, rfl, rfl⟩
    cases hv
    exact hb
  · refine F.ok sc_hinit (k := 0) (fun vs H Q E h => ?_) (fun cdv A outer s H vs Q E hr h => ?_)
    · obtain ⟨a, C, y, rfl, _⟩ := h
      rfl
    · obtain ⟨a, C, y, rfl, hO, ea, q⟩ := h
      refine ⟨_, (pss_one (ps_expr (pe_veinit (by rfl) m_VE vV (pa_cons (pv 0) (pa_cons (pv 1) pa_nil))))), ?_⟩
      exact ⟨_, rfl, _, rfl, a, C, [y], rfl, by show 1 ≤ 1000; decide, hO, ea, q⟩
abbrev st_fi_NoText : Stmt := clsDef (topS 5)
theorem sc_fi_NoText : FnScope ["self", "row"] ["self", "row"] (defScope st_fi_NoText) := ⟨rfl, rfl, rfl, by decide +kernel, rfl, by decide +kernel, by decide +kernel⟩
theorem finit_NoText {fX fI cH : Addr} {fdX fdI : FuncData} {mc : Value} (F : Fun K "__init__" "NoText.__init__" st_fi_NoText fX fdX) (I : HIn P w K mg base fI fdI) (kI : PySem.W.keepIn K (.ref fI) = true) (gH : mg "HalvesError" = some (.ref cH)) (r : ClX.CRead K cH mc) (at_ : PySem.W.findCls K (.ref cH) mc "__init__" = some (.val (.ref fI))) : FnOk P w K mg base CX0 2 fX fdX ["self", "row"] (sp_finit K "row") := by
  refine F.ok sc_fi_NoText (k := 1) (fun vs H Q E h => ?_) (fun cdv A outer s H vs Q E hr h => ?_)
  · obtain ⟨a, C, y, rfl, _⟩ := h
    rfl
  · obtain ⟨a, C, y, rfl, hO, hf, ea, q⟩ := h
    refine ⟨_, pss_cons (ps_expr (pe_cdef (pe_glob (v := .ref cH) (by rfl) gH rfl) r at_ I.2.2 (hr.mono (by decide)) kI I.1 .nil pass0 (pa_cons (pv 0) (pa_cons pe_str pa_nil)))) (pss_one (ps_ost (pv 0) (pv 1))), ?_⟩
    exact ⟨rfl, _, rfl, a, C, _, rfl, hO, ea, _, rfl, _, rfl, a, C, rfl, hO, hf, .inl ⟨ea, fun dx hn hne => q dx _ hn hne rfl⟩⟩
end
end Hid

namespace Hid
open PySem PySem.Spec PyProof.Rows L2 Evl
theorem df_mk {K : PySem.W.Frag} {h : Heap} {mg : Str → Option Value} (X : K.In h) (G : h.Ns mainGlobals mg) {x : Str} {st : Stmt} {ps : List Str} {f : Addr} {od an : Option Addr} {sl : Array (Option Value)} {oc kV dc pm cd ct : Value}
    (a : PySem.W.nsIn K mainGlobals x = some (some (.ref f))) (l : K.lookup f = some ⟨oc, od, .func (PySem.W.fnOf x x (defArgs st) (defBody st) (defScope st) .none kV dc pm an cd ct), sl⟩) (c : PySem.W.codeIn K cd x = true) (k : PySem.W.keepIn K (.ref f) = true)
    (hb : ∀ (kV doc pm : Value) (an : Option Addr) (cdv ct : Value) (us : List Value), us.length = ps.length → bindArgs (PySem.W.fnOf x x (defArgs st) (defBody st) (defScope st) .none kV doc pm an cdv ct) ⟨us, []⟩ = pure (ps.zip us)) : Df K mg x st ps :=
  ⟨f, _, fun_mk (st := st) l c k, (fun_mk (st := st) l c k).binds hb, PySem.W.mg_of X G a⟩
theorem dfc_mk {K : PySem.W.Frag} {h : Heap} {mg : Str → Option Value} (X : K.In h) (G : h.Ns mainGlobals mg) {x : Str} {st : Stmt} {ps : List Str} {f cc : Addr} {od an : Option Addr} {sl : Array (Option Value)} {oc kV dc pm ct : Value}
    (a : PySem.W.nsIn K mainGlobals x = some (some (.ref f))) (l : K.lookup f = some ⟨oc, od, .func (PySem.W.fnOf x x (defArgs st) (defBody st) (defScope st) .none kV dc pm an (.ref cc) ct), sl⟩) (c : PySem.W.codeIn K (.ref cc) x = true) (k : PySem.W.keepIn K (.ref f) = true)
    (hb : ∀ (kV doc pm : Value) (an : Option Addr) (cdv ct : Value) (us : List Value), us.length = ps.length → bindArgs (PySem.W.fnOf x x (defArgs st) (defBody st) (defScope st) .none kV doc pm an cdv ct) ⟨us, []⟩ = pure (ps.zip us)) : DfC K mg x st ps cc :=
  ⟨f, _, fun_mk (st := st) l c k, (fun_mk (st := st) l c k).binds hb, PySem.W.mg_of X G a, rfl⟩
/-- a def's promise at the very data that stands there -/
theorem at_fd {P : Program} {w : World} {K : PySem.W.Frag} {mg : Str → Option Value} {base : Heap} {CX : CXT} {n : Nat} {ps : List Str} {sp : Sp} {x : Str} {st : Stmt} {f : Addr} {fd fd2 : FuncData} (G : FnOk P w K mg base CX n f fd ps sp) (F : Fun K x x st f fd) (F2 : Fun K x x st f fd2) : FnOk P w K mg base CX n f fd2 ps sp := by
  obtain ⟨oc, od, kV, doc, pm, an, cdv, ct, osl, e1, lk, _⟩ := F.ex
  obtain ⟨oc2, od2, kV2, doc2, pm2, an2, cdv2, ct2, osl2, e2, lk2, _⟩ := F2.ex
  have e := lk.symm.trans lk2
  injection e with e
  injection e with _ _ e _
  injection e with e
  rw [← e]
  exact G
theorem all_mk {l : PySem.W.OpenLaw} {w : World} {K : PySem.W.Frag} {h : Heap} {mg : Str → Option Value} {fa : Addr} {Rc : Str → Prop} {f0 : Addr} {od0 an0 : Option Addr} {sl0 : Array (Option Value)} {oc0 kV0 dc0 pm0 ct0 : Value} {cd0 : Addr} {pp0 : Addr} {o10 : Value} {o20 : Option Addr} {s20 : Array (Option Value)} {vs0 : Array Value} {f1 : Addr} {od1 an1 : Option Addr} {sl1 : Array (Option Value)} {oc1 kV1 dc1 pm1 ct1 : Value} {cd1 : Value} {f2 : Addr} {od2 an2 : Option Addr} {sl2 : Array (Option Value)} {oc2 kV2 dc2 pm2 ct2 : Value} {cd2 : Value} {f3 : Addr} {od3 an3 : Option Addr} {sl3 : Array (Option Value)} {oc3 kV3 dc3 pm3 ct3 : Value} {cd3 : Value} {f4 : Addr} {od4 an4 : Option Addr} {sl4 : Array (Option Value)} {oc4 kV4 dc4 pm4 ct4 : Value} {cd4 : Value} {f5 : Addr} {od5 an5 : Option Addr} {sl5 : Array (Option Value)} {oc5 kV5 dc5 pm5 ct5 : Value} {cd5 : Value} {f6 : Addr} {od6 an6 : Option Addr} {sl6 : Array (Option Value)} {oc6 kV6 dc6 pm6 ct6 : Value} {cd6 : Value} {f7 : Addr} {od7 an7 : Option Addr} {sl7 : Array (Option Value)} {oc7 kV7 dc7 pm7 ct7 : Value} {cd7 : Value} {f8 : Addr} {od8 an8 : Option Addr} {sl8 : Array (Option Value)} {oc8 kV8 dc8 pm8 ct8 : Value} {cd8 : Value} {f9 : Addr} {od9 an9 : Option Addr} {sl9 : Array (Option Value)} {oc9 kV9 dc9 pm9 ct9 : Value} {cd9 : Value} {f10 : Addr} {od10 an10 : Option Addr} {sl10 : Array (Option Value)} {oc10 kV10 dc10 pm10 ct10 : Value} {cd10 : Value} {f11 : Addr} {od11 an11 : Option Addr} {sl11 : Array (Option Value)} {oc11 kV11 dc11 pm11 ct11 : Value} {cd11 : Value} {f12 : Addr} {od12 an12 : Option Addr} {sl12 : Array (Option Value)} {oc12 kV12 dc12 pm12 ct12 : Value} {cd12 : Value} {f13 : Addr} {od13 an13 : Option Addr} {sl13 : Array (Option Value)} {oc13 kV13 dc13 pm13 ct13 : Value} {cd13 : Value} {f14 : Addr} {od14 an14 : Option Addr} {sl14 : Array (Option Value)} {oc14 kV14 dc14 pm14 ct14 : Value} {cd14 : Value} {f15 : Addr} {od15 an15 : Option Addr} {sl15 : Array (Option Value)} {oc15 kV15 dc15 pm15 ct15 : Value} {cd15 : Value} {f16 : Addr} {od16 an16 : Option Addr} {sl16 : Array (Option Value)} {oc16 kV16 dc16 pm16 ct16 : Value} {cd16 : Value} {f17 : Addr} {od17 an17 : Option Addr} {sl17 : Array (Option Value)} {oc17 kV17 dc17 pm17 ct17 : Value} {cd17 : Value} {f18 : Addr} {od18 an18 : Option Addr} {sl18 : Array (Option Value)} {oc18 kV18 dc18 pm18 ct18 : Value} {cd18 : Value} {f19 : Addr} {od19 an19 : Option Addr} {sl19 : Array (Option Value)} {oc19 kV19 dc19 pm19 ct19 : Value} {cd19 : Value} {f20 : Addr} {od20 an20 : Option Addr} {sl20 : Array (Option Value)} {oc20 kV20 dc20 pm20 ct20 : Value} {cd20 : Value} {f21 : Addr} {od21 an21 : Option Addr} {sl21 : Array (Option Value)} {oc21 kV21 dc21 pm21 ct21 : Value} {cd21 : Value} {f22 : Addr} {od22 an22 : Option Addr} {sl22 : Array (Option Value)} {oc22 kV22 dc22 pm22 ct22 : Value} {cd22 : Value} {f23 : Addr} {od23 an23 : Option Addr} {sl23 : Array (Option Value)} {oc23 kV23 dc23 pm23 ct23 : Value} {cd23 : Value} {tMS : Tok} {tSL : Tok} {tRS : Tok} {tMR : Tok} {c_HalvesError : Addr} {c_NoName : Addr} {c_NoRow : Addr} {c_NoRoom : Addr} {c_NoText : Addr} {c_NoNumber : Addr} {c_NoParting : Addr} {c_NoTree : Addr} {c_NoKnot : Addr} {c_NoPlace : Addr} {c_NoRule : Addr} {c_NoFit : Addr} {c_NoHalf : Addr} {c_NoOrder : Addr} {c_NoUndo : Addr} {c_NoLikeness : Addr} {c_NoCall : Addr} {fI TI : Addr} {odI anI odT : Option Addr} {slI slT : Array (Option Value)} {ocI ocT kVI dcI pmI cdI ctI : Value} {tI : Tok} {nI : Nat} {fN_NoText : Addr} {odN_NoText anN_NoText : Option Addr} {slN_NoText : Array (Option Value)} {ocN_NoText kVN_NoText dcN_NoText pmN_NoText cdN_NoText ctN_NoText : Value} (X : K.In h) (G : h.Ns mainGlobals mg) (hfa : mg "law" = some (.ref fa)) (hTab : ∀ (y : Str) (c P : Addr), Rc y → PySem.W.tabIn K y = some (c, P) → PySem.W.CodeHd h c P ∧ h.get? P = some (PySem.W.tabObj #[]))
    (a0 : PySem.W.nsIn K mainGlobals "is_written_in" = some (some (.ref f0))) (l0 : K.lookup f0 = some ⟨oc0, od0, .func (PySem.W.fnOf "is_written_in" "is_written_in" (defArgs st_is_written_in) (defBody st_is_written_in) (defScope st_is_written_in) .none kV0 dc0 pm0 an0 (.ref cd0) ct0), sl0⟩) (c0 : PySem.W.codeIn K (.ref cd0) "is_written_in" = true) (k0 : PySem.W.keepIn K (.ref f0) = true)
    (tE0 : K.lookup cd0 = some ⟨o10, o20, .fields vs0, s20⟩) (tG0 : vs0[11]? = some (.ref pp0)) (tN0 : K.lookup pp0 = none) (tR0 : Rc "is_written_in")
    (a1 : PySem.W.nsIn K mainGlobals "is_name" = some (some (.ref f1))) (l1 : K.lookup f1 = some ⟨oc1, od1, .func (PySem.W.fnOf "is_name" "is_name" (defArgs st_is_name) (defBody st_is_name) (defScope st_is_name) .none kV1 dc1 pm1 an1 cd1 ct1), sl1⟩) (c1 : PySem.W.codeIn K cd1 "is_name" = true) (k1 : PySem.W.keepIn K (.ref f1) = true)
    (a2 : PySem.W.nsIn K mainGlobals "is_row" = some (some (.ref f2))) (l2 : K.lookup f2 = some ⟨oc2, od2, .func (PySem.W.fnOf "is_row" "is_row" (defArgs st_is_row) (defBody st_is_row) (defScope st_is_row) .none kV2 dc2 pm2 an2 cd2 ct2), sl2⟩) (c2 : PySem.W.codeIn K cd2 "is_row" = true) (k2 : PySem.W.keepIn K (.ref f2) = true)
    (a3 : PySem.W.nsIn K mainGlobals "is_row_of" = some (some (.ref f3))) (l3 : K.lookup f3 = some ⟨oc3, od3, .func (PySem.W.fnOf "is_row_of" "is_row_of" (defArgs st_is_row_of) (defBody st_is_row_of) (defScope st_is_row_of) .none kV3 dc3 pm3 an3 cd3 ct3), sl3⟩) (c3 : PySem.W.codeIn K cd3 "is_row_of" = true) (k3 : PySem.W.keepIn K (.ref f3) = true)
    (a4 : PySem.W.nsIn K mainGlobals "is_tuple_of" = some (some (.ref f4))) (l4 : K.lookup f4 = some ⟨oc4, od4, .func (PySem.W.fnOf "is_tuple_of" "is_tuple_of" (defArgs st_is_tuple_of) (defBody st_is_tuple_of) (defScope st_is_tuple_of) .none kV4 dc4 pm4 an4 cd4 ct4), sl4⟩) (c4 : PySem.W.codeIn K cd4 "is_tuple_of" = true) (k4 : PySem.W.keepIn K (.ref f4) = true)
    (a5 : PySem.W.nsIn K mainGlobals "is_named_row" = some (some (.ref f5))) (l5 : K.lookup f5 = some ⟨oc5, od5, .func (PySem.W.fnOf "is_named_row" "is_named_row" (defArgs st_is_named_row) (defBody st_is_named_row) (defScope st_is_named_row) .none kV5 dc5 pm5 an5 cd5 ct5), sl5⟩) (c5 : PySem.W.codeIn K cd5 "is_named_row" = true) (k5 : PySem.W.keepIn K (.ref f5) = true)
    (a6 : PySem.W.nsIn K mainGlobals "places_line" = some (some (.ref f6))) (l6 : K.lookup f6 = some ⟨oc6, od6, .func (PySem.W.fnOf "places_line" "places_line" (defArgs st_places_line) (defBody st_places_line) (defScope st_places_line) .none kV6 dc6 pm6 an6 cd6 ct6), sl6⟩) (c6 : PySem.W.codeIn K cd6 "places_line" = true) (k6 : PySem.W.keepIn K (.ref f6) = true)
    (a7 : PySem.W.nsIn K mainGlobals "read_places" = some (some (.ref f7))) (l7 : K.lookup f7 = some ⟨oc7, od7, .func (PySem.W.fnOf "read_places" "read_places" (defArgs st_read_places) (defBody st_read_places) (defScope st_read_places) .none kV7 dc7 pm7 an7 cd7 ct7), sl7⟩) (c7 : PySem.W.codeIn K cd7 "read_places" = true) (k7 : PySem.W.keepIn K (.ref f7) = true)
    (a8 : PySem.W.nsIn K mainGlobals "read_book" = some (some (.ref f8))) (l8 : K.lookup f8 = some ⟨oc8, od8, .func (PySem.W.fnOf "read_book" "read_book" (defArgs st_read_book) (defBody st_read_book) (defScope st_read_book) .none kV8 dc8 pm8 an8 cd8 ct8), sl8⟩) (c8 : PySem.W.codeIn K cd8 "read_book" = true) (k8 : PySem.W.keepIn K (.ref f8) = true)
    (a9 : PySem.W.nsIn K mainGlobals "_law_cell" = some (some (.ref f9))) (l9 : K.lookup f9 = some ⟨oc9, od9, .func (PySem.W.fnOf "_law_cell" "_law_cell" (defArgs st__law_cell) (defBody st__law_cell) (defScope st__law_cell) .none kV9 dc9 pm9 an9 cd9 ct9), sl9⟩) (c9 : PySem.W.codeIn K cd9 "_law_cell" = true) (k9 : PySem.W.keepIn K (.ref f9) = true)
    (a10 : PySem.W.nsIn K mainGlobals "_law_numbers" = some (some (.ref f10))) (l10 : K.lookup f10 = some ⟨oc10, od10, .func (PySem.W.fnOf "_law_numbers" "_law_numbers" (defArgs st__law_numbers) (defBody st__law_numbers) (defScope st__law_numbers) .none kV10 dc10 pm10 an10 cd10 ct10), sl10⟩) (c10 : PySem.W.codeIn K cd10 "_law_numbers" = true) (k10 : PySem.W.keepIn K (.ref f10) = true)
    (a11 : PySem.W.nsIn K mainGlobals "_law_names" = some (some (.ref f11))) (l11 : K.lookup f11 = some ⟨oc11, od11, .func (PySem.W.fnOf "_law_names" "_law_names" (defArgs st__law_names) (defBody st__law_names) (defScope st__law_names) .none kV11 dc11 pm11 an11 cd11 ct11), sl11⟩) (c11 : PySem.W.codeIn K cd11 "_law_names" = true) (k11 : PySem.W.keepIn K (.ref f11) = true)
    (a12 : PySem.W.nsIn K mainGlobals "_law_any_row" = some (some (.ref f12))) (l12 : K.lookup f12 = some ⟨oc12, od12, .func (PySem.W.fnOf "_law_any_row" "_law_any_row" (defArgs st__law_any_row) (defBody st__law_any_row) (defScope st__law_any_row) .none kV12 dc12 pm12 an12 cd12 ct12), sl12⟩) (c12 : PySem.W.codeIn K cd12 "_law_any_row" = true) (k12 : PySem.W.keepIn K (.ref f12) = true)
    (a13 : PySem.W.nsIn K mainGlobals "_law_turned_at" = some (some (.ref f13))) (l13 : K.lookup f13 = some ⟨oc13, od13, .func (PySem.W.fnOf "_law_turned_at" "_law_turned_at" (defArgs st__law_turned_at) (defBody st__law_turned_at) (defScope st__law_turned_at) .none kV13 dc13 pm13 an13 cd13 ct13), sl13⟩) (c13 : PySem.W.codeIn K cd13 "_law_turned_at" = true) (k13 : PySem.W.keepIn K (.ref f13) = true)
    (a14 : PySem.W.nsIn K mainGlobals "_law_tree_halves" = some (some (.ref f14))) (l14 : K.lookup f14 = some ⟨oc14, od14, .func (PySem.W.fnOf "_law_tree_halves" "_law_tree_halves" (defArgs st__law_tree_halves) (defBody st__law_tree_halves) (defScope st__law_tree_halves) .none kV14 dc14 pm14 an14 cd14 ct14), sl14⟩) (c14 : PySem.W.codeIn K cd14 "_law_tree_halves" = true) (k14 : PySem.W.keepIn K (.ref f14) = true)
    (a15 : PySem.W.nsIn K mainGlobals "_law_joined_row" = some (some (.ref f15))) (l15 : K.lookup f15 = some ⟨oc15, od15, .func (PySem.W.fnOf "_law_joined_row" "_law_joined_row" (defArgs st__law_joined_row) (defBody st__law_joined_row) (defScope st__law_joined_row) .none kV15 dc15 pm15 an15 cd15 ct15), sl15⟩) (c15 : PySem.W.codeIn K cd15 "_law_joined_row" = true) (k15 : PySem.W.keepIn K (.ref f15) = true)
    (a16 : PySem.W.nsIn K mainGlobals "_law_book" = some (some (.ref f16))) (l16 : K.lookup f16 = some ⟨oc16, od16, .func (PySem.W.fnOf "_law_book" "_law_book" (defArgs st__law_book) (defBody st__law_book) (defScope st__law_book) .none kV16 dc16 pm16 an16 cd16 ct16), sl16⟩) (c16 : PySem.W.codeIn K cd16 "_law_book" = true) (k16 : PySem.W.keepIn K (.ref f16) = true)
    (a17 : PySem.W.nsIn K mainGlobals "_law_written" = some (some (.ref f17))) (l17 : K.lookup f17 = some ⟨oc17, od17, .func (PySem.W.fnOf "_law_written" "_law_written" (defArgs st__law_written) (defBody st__law_written) (defScope st__law_written) .none kV17 dc17 pm17 an17 cd17 ct17), sl17⟩) (c17 : PySem.W.codeIn K cd17 "_law_written" = true) (k17 : PySem.W.keepIn K (.ref f17) = true)
    (a18 : PySem.W.nsIn K mainGlobals "_law_is_name" = some (some (.ref f18))) (l18 : K.lookup f18 = some ⟨oc18, od18, .func (PySem.W.fnOf "_law_is_name" "_law_is_name" (defArgs st__law_is_name) (defBody st__law_is_name) (defScope st__law_is_name) .none kV18 dc18 pm18 an18 cd18 ct18), sl18⟩) (c18 : PySem.W.codeIn K cd18 "_law_is_name" = true) (k18 : PySem.W.keepIn K (.ref f18) = true)
    (a19 : PySem.W.nsIn K mainGlobals "_law_text" = some (some (.ref f19))) (l19 : K.lookup f19 = some ⟨oc19, od19, .func (PySem.W.fnOf "_law_text" "_law_text" (defArgs st__law_text) (defBody st__law_text) (defScope st__law_text) .none kV19 dc19 pm19 an19 cd19 ct19), sl19⟩) (c19 : PySem.W.codeIn K cd19 "_law_text" = true) (k19 : PySem.W.keepIn K (.ref f19) = true)
    (a20 : PySem.W.nsIn K mainGlobals "_law_due" = some (some (.ref f20))) (l20 : K.lookup f20 = some ⟨oc20, od20, .func (PySem.W.fnOf "_law_due" "_law_due" (defArgs st__law_due) (defBody st__law_due) (defScope st__law_due) .none kV20 dc20 pm20 an20 cd20 ct20), sl20⟩) (c20 : PySem.W.codeIn K cd20 "_law_due" = true) (k20 : PySem.W.keepIn K (.ref f20) = true)
    (a21 : PySem.W.nsIn K mainGlobals "_law_told" = some (some (.ref f21))) (l21 : K.lookup f21 = some ⟨oc21, od21, .func (PySem.W.fnOf "_law_told" "_law_told" (defArgs st__law_told) (defBody st__law_told) (defScope st__law_told) .none kV21 dc21 pm21 an21 cd21 ct21), sl21⟩) (c21 : PySem.W.codeIn K cd21 "_law_told" = true) (k21 : PySem.W.keepIn K (.ref f21) = true)
    (a22 : PySem.W.nsIn K mainGlobals "_law_spoilt" = some (some (.ref f22))) (l22 : K.lookup f22 = some ⟨oc22, od22, .func (PySem.W.fnOf "_law_spoilt" "_law_spoilt" (defArgs st__law_spoilt) (defBody st__law_spoilt) (defScope st__law_spoilt) .none kV22 dc22 pm22 an22 cd22 ct22), sl22⟩) (c22 : PySem.W.codeIn K cd22 "_law_spoilt" = true) (k22 : PySem.W.keepIn K (.ref f22) = true)
    (a23 : PySem.W.nsIn K mainGlobals "law" = some (some (.ref f23))) (l23 : K.lookup f23 = some ⟨oc23, od23, .func (PySem.W.fnOf "law" "law" (defArgs st_law) (defBody st_law) (defScope st_law) .none kV23 dc23 pm23 an23 cd23 ct23), sl23⟩) (c23 : PySem.W.codeIn K cd23 "law" = true) (k23 : PySem.W.keepIn K (.ref f23) = true)
    (z_len : PySem.W.nsIn K mainGlobals "len" = some none)
    (z_isinstance : PySem.W.nsIn K mainGlobals "isinstance" = some none)
    (z_str : PySem.W.nsIn K mainGlobals "str" = some none)
    (z_all : PySem.W.nsIn K mainGlobals "all" = some none)
    (z_tuple : PySem.W.nsIn K mainGlobals "tuple" = some none)
    (z_range : PySem.W.nsIn K mainGlobals "range" = some none)
    (z_enumerate : PySem.W.nsIn K mainGlobals "enumerate" = some none)
    (z_abs : PySem.W.nsIn K mainGlobals "abs" = some none)
    (z_int : PySem.W.nsIn K mainGlobals "int" = some none)
    (z_list : PySem.W.nsIn K mainGlobals "list" = some none)
    (z_max : PySem.W.nsIn K mainGlobals "max" = some none)
    (z_ValueError : PySem.W.nsIn K mainGlobals "ValueError" = some none)
    (z_bool : PySem.W.nsIn K mainGlobals "bool" = some none)
    (y_MOST_SIGNS : PySem.W.nsIn K mainGlobals "MOST_SIGNS" = some (some (.int 8 tMS)))
    (y_SMALL_LETTERS : PySem.W.nsIn K mainGlobals "SMALL_LETTERS" = some (some (.str "abcdefghijklmnopqrstuvwxyz" tSL)))
    (y_ROW_SIGNS : PySem.W.nsIn K mainGlobals "ROW_SIGNS" = some (some (.str "nby" tRS)))
    (y_MOST_ROWS : PySem.W.nsIn K mainGlobals "MOST_ROWS" = some (some (.int 10 tMR)))
    (q_HalvesError : PySem.W.nsIn K mainGlobals "HalvesError" = some (some (.ref c_HalvesError)))
    (q_NoName : PySem.W.nsIn K mainGlobals "NoName" = some (some (.ref c_NoName)))
    (q_NoRow : PySem.W.nsIn K mainGlobals "NoRow" = some (some (.ref c_NoRow)))
    (q_NoRoom : PySem.W.nsIn K mainGlobals "NoRoom" = some (some (.ref c_NoRoom)))
    (q_NoText : PySem.W.nsIn K mainGlobals "NoText" = some (some (.ref c_NoText)))
    (q_NoNumber : PySem.W.nsIn K mainGlobals "NoNumber" = some (some (.ref c_NoNumber)))
    (q_NoParting : PySem.W.nsIn K mainGlobals "NoParting" = some (some (.ref c_NoParting)))
    (q_NoTree : PySem.W.nsIn K mainGlobals "NoTree" = some (some (.ref c_NoTree)))
    (q_NoKnot : PySem.W.nsIn K mainGlobals "NoKnot" = some (some (.ref c_NoKnot)))
    (q_NoPlace : PySem.W.nsIn K mainGlobals "NoPlace" = some (some (.ref c_NoPlace)))
    (q_NoRule : PySem.W.nsIn K mainGlobals "NoRule" = some (some (.ref c_NoRule)))
    (q_NoFit : PySem.W.nsIn K mainGlobals "NoFit" = some (some (.ref c_NoFit)))
    (q_NoHalf : PySem.W.nsIn K mainGlobals "NoHalf" = some (some (.ref c_NoHalf)))
    (q_NoOrder : PySem.W.nsIn K mainGlobals "NoOrder" = some (some (.ref c_NoOrder)))
    (q_NoUndo : PySem.W.nsIn K mainGlobals "NoUndo" = some (some (.ref c_NoUndo)))
    (q_NoLikeness : PySem.W.nsIn K mainGlobals "NoLikeness" = some (some (.ref c_NoLikeness)))
    (q_NoCall : PySem.W.nsIn K mainGlobals "NoCall" = some (some (.ref c_NoCall)))
    (o1_NoText : ∃ nm q N bs bm sn sub ab col dd k0 k1 k2 k3 k5, K.lookup c_NoText = some (excClassObj nm q c_NoText N bs bm true sn sub ab col dd k0 k1 k2 k3 k5 "ValueError.__new__") ∧ PySem.HandSPX.refsVE bm = true)
    (o2_NoText : PySem.W.findIn K (.ref c_NoText) "__setattr__" = some (some (.builtin "object.__setattr__")))
    (o3_NoText : PySem.W.subIn K (.ref c_NoText) (.type "BaseException") = some true)
    (o4_NoText : PySem.W.typeIn K (.ref c_NoText) = some (.type "type"))
    (o5_NoText : PySem.W.keepIn K (.ref c_NoText) = true)
    (o6_NoText : PySem.W.findIn K (.ref c_NoText) "__init__" = some (some (.ref fN_NoText)))
    (x1_NoText : PySem.W.findIn K (.ref c_NoText) "__getattribute__" = some (some (.builtin "BaseException.__getattribute__")))
    (x2_NoText : PySem.W.findIn K (.ref c_NoText) "__getattr__" = some none)
    (x4_NoText : PySem.W.hasDictIn K c_NoText = true)
    (x5_NoText : PySem.W.findIn K (.ref c_NoText) "__class__" = some (some (.builtin "object.__class__")))
    (x8_NoText : PySem.W.mroIn K c_NoText (.type "object") = some true)
    (f1_NoText : PySem.W.findIn K (.ref c_NoText) "row" = some none)
    (n1_NoText : K.lookup fN_NoText = some ⟨ocN_NoText, odN_NoText, .func (PySem.W.fnOf "__init__" "NoText.__init__" (defArgs st_fi_NoText) (defBody st_fi_NoText) (defScope st_fi_NoText) .none kVN_NoText dcN_NoText pmN_NoText anN_NoText cdN_NoText ctN_NoText), slN_NoText⟩)
    (n2_NoText : PySem.W.codeIn K cdN_NoText "NoText.__init__" = true)
    (n4_NoText : PySem.W.keepIn K (.ref fN_NoText) = true)
    (n5_NoText : PySem.W.typeIn K (.ref fN_NoText) = some (.type "function"))
    (x6 : PySem.W.specialIn K (.builtin "object.__class__") "__get__" = some (some (.builtin "getset_descriptor.__get__")))
    (x7 : PySem.W.takesIn K (.builtin "object.__class__") = some true)
    (i0 : PySem.W.findIn K (.ref c_HalvesError) "__init__" = some (some (.ref fI)))
    (i1 : K.lookup fI = some ⟨ocI, odI, .func (PySem.W.fnOf "__init__" "HalvesError.__init__" (defArgs st_hinit) (defBody st_hinit) (defScope st_hinit) (.ref TI) kVI dcI pmI anI cdI ctI), slI⟩)
    (i2 : PySem.W.codeIn K cdI "HalvesError.__init__" = true)
    (i3 : K.lookup TI = some ⟨ocT, odT, .seq #[.str "refused" tI] nI, slT⟩)
    (i4 : PySem.W.keepIn K (.ref fI) = true)
    (i5 : PySem.W.typeIn K (.ref fI) = some (.type "function"))
    (i6 : PySem.W.findCls K (.type "ValueError") (.type "type") "__init__" = some (.val (.builtin "ValueError.__init__")))
    (r1 : PySem.W.readsIn K c_HalvesError (.type "type") = true)
    (r2 : PySem.W.specialIn K (.ref c_HalvesError) "__getattribute__" = some (some (.builtin "type.__getattribute__")))
    (r3 : PySem.W.findCls K (.ref c_HalvesError) (.type "type") "__init__" = some (.val (.ref fI)))
    (xm_NoText : PySem.W.exmOne K (.ref c_NoText) (.ref c_HalvesError) = some true)
    (ka_NoText : PySem.W.kitAny K (.ref c_NoText) [.ref c_NoCall, .ref c_NoFit, .ref c_NoHalf, .ref c_NoKnot, .ref c_NoLikeness, .ref c_NoName, .ref c_NoNumber, .ref c_NoOrder, .ref c_NoParting] = some false)
    (kb_NoText : PySem.W.kitAny K (.ref c_NoText) [.ref c_NoPlace, .ref c_NoRoom, .ref c_NoRow, .ref c_NoRule, .ref c_NoTree, .ref c_NoUndo] = some false)
    (kv_NoText : PySem.W.kitOne K (.ref c_NoText) (.type "ValueError") = some true)
    (ks_NoText : PySem.W.kitOne K (.ref c_NoText) (.ref c_NoText) = some true) :
    LamX.LawAtS l w K CX0 8 63 "_law_script" mg fa h := by
  have m_len := PySem.W.mg_none_of X G z_len
  have m_isinstance := PySem.W.mg_none_of X G z_isinstance
  have m_str := PySem.W.mg_none_of X G z_str
  have m_all := PySem.W.mg_none_of X G z_all
  have m_tuple := PySem.W.mg_none_of X G z_tuple
  have m_range := PySem.W.mg_none_of X G z_range
  have m_enumerate := PySem.W.mg_none_of X G z_enumerate
  have m_abs := PySem.W.mg_none_of X G z_abs
  have m_int := PySem.W.mg_none_of X G z_int
  have m_list := PySem.W.mg_none_of X G z_list
  have m_max := PySem.W.mg_none_of X G z_max
  have m_ValueError := PySem.W.mg_none_of X G z_ValueError
  have m_bool := PySem.W.mg_none_of X G z_bool
  have c_MOST_SIGNS := PySem.W.mg_of X G y_MOST_SIGNS
  have c_SMALL_LETTERS := PySem.W.mg_of X G y_SMALL_LETTERS
  have c_ROW_SIGNS := PySem.W.mg_of X G y_ROW_SIGNS
  have c_MOST_ROWS := PySem.W.mg_of X G y_MOST_ROWS
  have D_is_written_in : DfC K mg "is_written_in" st_is_written_in ["thing", "signs"] cd0 := dfc_mk X G a0 l0 c0 k0 (fun _ _ _ _ _ _ us hl => match us, hl with | [_, _], _ => rfl)
  have T0 := hTab "is_written_in" cd0 pp0 tR0 (tabIn_mk a0 l0 rfl tE0 tG0)
  have D_is_name : Df K mg "is_name" st_is_name ["thing"] := df_mk X G a1 l1 c1 k1 (fun _ _ _ _ _ _ us hl => match us, hl with | [_], _ => rfl)
  have D_is_row : Df K mg "is_row" st_is_row ["thing"] := df_mk X G a2 l2 c2 k2 (fun _ _ _ _ _ _ us hl => match us, hl with | [_], _ => rfl)
  have D_is_row_of : Df K mg "is_row_of" st_is_row_of ["thing", "places"] := df_mk X G a3 l3 c3 k3 (fun _ _ _ _ _ _ us hl => match us, hl with | [_, _], _ => rfl)
  have D_is_tuple_of : Df K mg "is_tuple_of" st_is_tuple_of ["thing", "many"] := df_mk X G a4 l4 c4 k4 (fun _ _ _ _ _ _ us hl => match us, hl with | [_, _], _ => rfl)
  have D_is_named_row : Df K mg "is_named_row" st_is_named_row ["thing", "places"] := df_mk X G a5 l5 c5 k5 (fun _ _ _ _ _ _ us hl => match us, hl with | [_, _], _ => rfl)
  have D_places_line : Df K mg "places_line" st_places_line ["places"] := df_mk X G a6 l6 c6 k6 (fun _ _ _ _ _ _ us hl => match us, hl with | [_], _ => rfl)
  have D_read_places : Df K mg "read_places" st_read_places ["line"] := df_mk X G a7 l7 c7 k7 (fun _ _ _ _ _ _ us hl => match us, hl with | [_], _ => rfl)
  have D_read_book : Df K mg "read_book" st_read_book ["text"] := df_mk X G a8 l8 c8 k8 (fun _ _ _ _ _ _ us hl => match us, hl with | [_], _ => rfl)
  have D__law_cell : Df K mg "_law_cell" st__law_cell ["_law_script", "_law_k"] := df_mk X G a9 l9 c9 k9 (fun _ _ _ _ _ _ us hl => match us, hl with | [_, _], _ => rfl)
  have D__law_numbers : Df K mg "_law_numbers" st__law_numbers ["_law_cell_here", "_law_many"] := df_mk X G a10 l10 c10 k10 (fun _ _ _ _ _ _ us hl => match us, hl with | [_, _], _ => rfl)
  have D__law_names : Df K mg "_law_names" st__law_names ["_law_xs", "_law_many"] := df_mk X G a11 l11 c11 k11 (fun _ _ _ _ _ _ us hl => match us, hl with | [_, _], _ => rfl)
  have D__law_any_row : Df K mg "_law_any_row" st__law_any_row ["_law_xs", "_law_places"] := df_mk X G a12 l12 c12 k12 (fun _ _ _ _ _ _ us hl => match us, hl with | [_, _], _ => rfl)
  have D__law_turned_at : Df K mg "_law_turned_at" st__law_turned_at ["_law_half", "_law_place"] := df_mk X G a13 l13 c13 k13 (fun _ _ _ _ _ _ us hl => match us, hl with | [_, _], _ => rfl)
  have D__law_tree_halves : Df K mg "_law_tree_halves" st__law_tree_halves ["_law_xs", "_law_places"] := df_mk X G a14 l14 c14 k14 (fun _ _ _ _ _ _ us hl => match us, hl with | [_, _], _ => rfl)
  have D__law_joined_row : Df K mg "_law_joined_row" st__law_joined_row ["_law_one", "_law_other"] := df_mk X G a15 l15 c15 k15 (fun _ _ _ _ _ _ us hl => match us, hl with | [_, _], _ => rfl)
  have D__law_book : Df K mg "_law_book" st__law_book ["_law_script", "_law_at", "_law_many", "_law_places"] := df_mk X G a16 l16 c16 k16 (fun _ _ _ _ _ _ us hl => match us, hl with | [_, _, _, _], _ => rfl)
  have D__law_written : Df K mg "_law_written" st__law_written ["_law_thing", "_law_signs", "_law_most"] := df_mk X G a17 l17 c17 k17 (fun _ _ _ _ _ _ us hl => match us, hl with | [_, _, _], _ => rfl)
  have D__law_is_name : Df K mg "_law_is_name" st__law_is_name ["_law_thing"] := df_mk X G a18 l18 c18 k18 (fun _ _ _ _ _ _ us hl => match us, hl with | [_], _ => rfl)
  have D__law_text : Df K mg "_law_text" st__law_text ["_law_book_here"] := df_mk X G a19 l19 c19 k19 (fun _ _ _ _ _ _ us hl => match us, hl with | [_], _ => rfl)
  have D__law_due : Df K mg "_law_due" st__law_due ["_law_text_here"] := df_mk X G a20 l20 c20 k20 (fun _ _ _ _ _ _ us hl => match us, hl with | [_], _ => rfl)
  have D__law_told : Df K mg "_law_told" st__law_told ["_law_thing"] := df_mk X G a21 l21 c21 k21 (fun _ _ _ _ _ _ us hl => match us, hl with | [_], _ => rfl)
  have D__law_spoilt : Df K mg "_law_spoilt" st__law_spoilt ["_law_rows", "_law_xs"] := df_mk X G a22 l22 c22 k22 (fun _ _ _ _ _ _ us hl => match us, hl with | [_, _], _ => rfl)
  have D_law : Df K mg "law" st_law ["_law_script"] := df_mk X G a23 l23 c23 k23 (fun _ _ _ _ _ _ us hl => match us, hl with | [_], _ => rfl)
  have gc_HalvesError := PySem.W.mg_of X G q_HalvesError
  have gc_NoName := PySem.W.mg_of X G q_NoName
  have gc_NoRow := PySem.W.mg_of X G q_NoRow
  have gc_NoRoom := PySem.W.mg_of X G q_NoRoom
  have gc_NoText := PySem.W.mg_of X G q_NoText
  have gc_NoNumber := PySem.W.mg_of X G q_NoNumber
  have gc_NoParting := PySem.W.mg_of X G q_NoParting
  have gc_NoTree := PySem.W.mg_of X G q_NoTree
  have gc_NoKnot := PySem.W.mg_of X G q_NoKnot
  have gc_NoPlace := PySem.W.mg_of X G q_NoPlace
  have gc_NoRule := PySem.W.mg_of X G q_NoRule
  have gc_NoFit := PySem.W.mg_of X G q_NoFit
  have gc_NoHalf := PySem.W.mg_of X G q_NoHalf
  have gc_NoOrder := PySem.W.mg_of X G q_NoOrder
  have gc_NoUndo := PySem.W.mg_of X G q_NoUndo
  have gc_NoLikeness := PySem.W.mg_of X G q_NoLikeness
  have gc_NoCall := PySem.W.mg_of X G q_NoCall
  have xc_NoText : ExcC K c_NoText := ⟨x1_NoText, x2_NoText, o3_NoText, x4_NoText, x5_NoText, x6, x7, x8_NoText⟩
  have FI : FunD K "__init__" "HalvesError.__init__" (defArgs st_hinit) (defBody st_hinit) (defScope st_hinit) [.str "refused"] [] fI _ := ⟨⟨_, _, _, _, _, _, _, _, _, _, rfl, i1, i2, .inr ⟨by decide, TI, _, _, _, rfl, i3, rfl, .cons ⟨_, rfl⟩ .nil⟩, .inl rfl⟩, i4⟩
  have FN_NoText := fun_mk (st := st_fi_NoText) n1_NoText n2_NoText n4_NoText
  have BN_NoText : Binds K _ ["self", "row"] [] := FN_NoText.binds (fun _ _ _ _ _ _ us hl => match us, hl with | [_, _], _ => rfl)
  have XF_NoText : L2.XfC K c_NoText ∧ PySem.W.findIn K (.ref c_NoText) "row" = some none := ⟨⟨x1_NoText, x2_NoText, o3_NoText, x4_NoText⟩, f1_NoText⟩
  have e := hfa.symm.trans (PySem.W.mg_of X G a23)
  cases e
  refine ⟨PySem.W.fnOf "law" "law" (defArgs st_law) (defBody st_law) (defScope st_law) .none kV23 dc23 pm23 an23 cd23 ct23, [(cd0, pp0)], spT [pp0] (sp_law K [pp0]), ?_, ?_, ?_, fun s v => .of_eq rfl, fun H a ns hl _ hH hS => ?_, fun base _ _ hB => ?_⟩
  · intro p hp
    simp only [List.mem_cons, List.not_mem_nil, or_false] at hp
    rcases hp with rfl
    · exact T0.2
  · intro p hp
    simp only [List.mem_cons, List.not_mem_nil, or_false] at hp
    rcases hp with rfl
    · exact tN0
  · intro p hp
    simp only [List.mem_cons, List.not_mem_nil, or_false] at hp
    rcases hp with rfl
    · exact T0.1
  · have hT : ∀ b ∈ ([pp0] : List Addr), H b = some (.tbl #[]) := fun b hb => by
      obtain ⟨p, hp, e⟩ := List.mem_map.mp (show b ∈ ([(cd0, pp0)] : List (Addr × Addr)).map (·.2) from hb)
      rw [← e]
      exact hH p hp
    exact ⟨hT, a, ns, rfl, xtab_sq hT hS, hl, fun P hP => xtab_in hP, fun H2 e2 => ⟨fun P hP => e2 _ _ (xtab_in hP), fun _ _ => rfl⟩⟩
  · refine tab_law ?_
    have B0 : GxR.TabB base mg cd0 pp0 := let z := hB (cd0, pp0) (by simp); ⟨z.code, z.bm, z.gP⟩
    have hI := hin_ok (P := l.prog) (w := w) (mg := mg) (base := base) FI i5 m_ValueError i6
    have E_NoText : ErrF l.prog w K mg base "NoText" "row" c_NoText fN_NoText _ := ⟨⟨o1_NoText, o2_NoText, o3_NoText, o4_NoText, o5_NoText⟩, o6_NoText, gc_NoText, n5_NoText, finit_NoText (P := l.prog) (w := w) (base := base) FN_NoText hI i4 gc_HalvesError ⟨r1, r2⟩ r3, BN_NoText, f1_NoText⟩
    have A__law_text := ok__law_text (P := l.prog) (w := w) (base := base) (ts := [pp0]) D__law_text m_str
    have A__law_numbers := ok__law_numbers (P := l.prog) (w := w) (base := base) (ts := [pp0]) D__law_numbers m_abs m_range m_int
    have A__law_cell := ok__law_cell (P := l.prog) (w := w) (base := base) (ts := [pp0]) D__law_cell m_len
    have A__law_names := ok__law_names (P := l.prog) (w := w) (base := base) (ts := [pp0]) D__law_names m_range
    have A__law_turned_at := ok__law_turned_at (P := l.prog) (w := w) (base := base) (ts := [pp0]) D__law_turned_at m_int
    have A__law_tree_halves := ok__law_tree_halves (P := l.prog) (w := w) (base := base) (ts := [pp0]) D__law_tree_halves m_list m_range m_len A__law_turned_at
    have A__law_joined_row := ok__law_joined_row (P := l.prog) (w := w) (base := base) (ts := [pp0]) D__law_joined_row m_range m_len
    have A__law_any_row := ok__law_any_row (P := l.prog) (w := w) (base := base) (ts := [pp0]) D__law_any_row m_range
    have A__law_book := ok__law_book (P := l.prog) (w := w) (base := base) (ts := [pp0]) D__law_book m_range m_len m_tuple A__law_numbers A__law_cell A__law_names A__law_tree_halves A__law_joined_row A__law_any_row
    have A__law_spoilt := ok__law_spoilt (P := l.prog) (w := w) (base := base) (ts := [pp0]) D__law_spoilt m_len
    have A_places_line := ok_places_line (P := l.prog) (w := w) (base := base) (ts := [pp0]) D_places_line
    have A_read_places := ok_read_places (P := l.prog) (w := w) (base := base) (ts := [pp0]) D_read_places m_range c_MOST_SIGNS E_NoText A_places_line
    have A_is_written_in := ok_is_written_in (P := l.prog) (w := w) (base := base) (ts := [pp0]) D_is_written_in B0 (by simp) m_len m_isinstance m_str m_all c_MOST_SIGNS
    have A_is_row := ok_is_row (P := l.prog) (w := w) (base := base) (ts := [pp0]) D_is_row c_ROW_SIGNS A_is_written_in
    have A_is_row_of := ok_is_row_of (P := l.prog) (w := w) (base := base) (ts := [pp0]) D_is_row_of m_len A_is_row
    have A_is_name := ok_is_name (P := l.prog) (w := w) (base := base) (ts := [pp0]) D_is_name c_SMALL_LETTERS A_is_written_in
    have A_is_tuple_of := ok_is_tuple_of (P := l.prog) (w := w) (base := base) (ts := [pp0]) D_is_tuple_of m_len m_isinstance m_tuple
    have A_is_named_row := ok_is_named_row (P := l.prog) (w := w) (base := base) (ts := [pp0]) D_is_named_row A_is_row_of A_is_name A_is_tuple_of
    have A_read_book := ok_read_book (P := l.prog) (w := w) (base := base) (ts := [pp0]) D_read_book m_isinstance m_str m_enumerate m_tuple c_MOST_ROWS E_NoText A_read_places A_is_named_row
    have A__law_told := ok__law_told (P := l.prog) (w := w) (base := base) (ts := [pp0]) D__law_told m_isinstance m_ValueError m_bool gc_HalvesError gc_NoParting gc_NoOrder gc_NoNumber gc_NoName gc_NoLikeness gc_NoKnot gc_NoHalf gc_NoFit gc_NoCall gc_NoUndo gc_NoTree gc_NoRule gc_NoRow gc_NoRoom gc_NoPlace gc_NoText XF_NoText xc_NoText xm_NoText ka_NoText kb_NoText kv_NoText ks_NoText A_read_book
    have A__law_written := ok__law_written (P := l.prog) (w := w) (base := base) (ts := [pp0]) D__law_written m_all m_len m_isinstance m_str
    have A__law_is_name := ok__law_is_name (P := l.prog) (w := w) (base := base) (ts := [pp0]) D__law_is_name A__law_written
    have A__law_due := ok__law_due (P := l.prog) (w := w) (base := base) (ts := [pp0]) D__law_due m_range m_len m_max m_tuple A__law_written A__law_is_name
    have A_law := ok_law (P := l.prog) (w := w) (base := base) (ts := [pp0]) D_law m_list m_range m_len m_int m_all A__law_text A__law_book A__law_cell A__law_numbers A__law_spoilt A__law_told A__law_due
    obtain ⟨f9, fd9, F9, b9, g9, G9⟩ := A_law
    have e9 := g9.symm.trans hfa
    cases e9
    exact at_fd G9 F9 (fun_mk (st := st_law) l23 c23 k23)
end Hid
open PySem PySem.W PyProof.Rows
set_option maxHeartbeats 0 in
theorem PySem.Challenge.cw_hidhalves_k04_texts_of_no_books_holds : PySem.Challenge.rw_hidhalves_k04_texts_of_no_books.Holds := by
  w_on; o_law; k_head; (case hw => w_witness2)
  k_fill
  refine Hid.walk_ofG (l := PySem.Challenge.rw_hidhalves_k04_texts_of_no_books) (n := 63) (k := 8) (x := "_law_script") (CX := fun _ => L2.CX0) rfl (by decide) rfl ⟨rfl, by decide, by decide⟩ (fun w h Y => PySem.W.kIn_of Y) ?F (fun _ _ _ _ _ h => h)
  case F =>
    intro w mg fa h KX G hmg hTab
    refine' Hid.all_mk KX G hmg hTab ?a0 ?l0 ?c0 ?k0 ?tE0 ?tG0 ?tN0 ?tR0 ?a1 ?l1 ?c1 ?k1 ?a2 ?l2 ?c2 ?k2 ?a3 ?l3 ?c3 ?k3 ?a4 ?l4 ?c4 ?k4 ?a5 ?l5 ?c5 ?k5 ?a6 ?l6 ?c6 ?k6 ?a7 ?l7 ?c7 ?k7 ?a8 ?l8 ?c8 ?k8 ?a9 ?l9 ?c9 ?k9 ?a10 ?l10 ?c10 ?k10 ?a11 ?l11 ?c11 ?k11 ?a12 ?l12 ?c12 ?k12 ?a13 ?l13 ?c13 ?k13 ?a14 ?l14 ?c14 ?k14 ?a15 ?l15 ?c15 ?k15 ?a16 ?l16 ?c16 ?k16 ?a17 ?l17 ?c17 ?k17 ?a18 ?l18 ?c18 ?k18 ?a19 ?l19 ?c19 ?k19 ?a20 ?l20 ?c20 ?k20 ?a21 ?l21 ?c21 ?k21 ?a22 ?l22 ?c22 ?k22 ?a23 ?l23 ?c23 ?k23 ?z_len ?z_isinstance ?z_str ?z_all ?z_tuple ?z_range ?z_enumerate ?z_abs ?z_int ?z_list ?z_max ?z_ValueError ?z_bool ?y_MOST_SIGNS ?y_SMALL_LETTERS ?y_ROW_SIGNS ?y_MOST_ROWS ?q_HalvesError ?q_NoName ?q_NoRow ?q_NoRoom ?q_NoText ?q_NoNumber ?q_NoParting ?q_NoTree ?q_NoKnot ?q_NoPlace ?q_NoRule ?q_NoFit ?q_NoHalf ?q_NoOrder ?q_NoUndo ?q_NoLikeness ?q_NoCall ?o1_NoText ?o2_NoText ?o3_NoText ?o4_NoText ?o5_NoText ?o6_NoText ?x1_NoText ?x2_NoText ?x4_NoText ?x5_NoText ?x8_NoText ?f1_NoText ?n1_NoText ?n2_NoText ?n4_NoText ?n5_NoText ?x6 ?x7 ?i0 ?i1 ?i2 ?i3 ?i4 ?i5 ?i6 ?r1 ?r2 ?r3 ?xm_NoText ?ka_NoText ?kb_NoText ?kv_NoText ?ks_NoText
    (case a0 => k_is)
    (case l0 => k_is)
    (case c0 => k_is)
    (case k0 => k_is)
    (case tE0 => k_is)
    (case tG0 => rfl)
    (case tN0 => first | rfl | with_unfolding_all rfl)
    (case tR0 => first | rfl | decide +kernel)
    (case a1 => k_is)
    (case l1 => k_is)
    (case c1 => k_is)
    (case k1 => k_is)
    (case a2 => k_is)
    (case l2 => k_is)
    (case c2 => k_is)
    (case k2 => k_is)
    (case a3 => k_is)
    (case l3 => k_is)
    (case c3 => k_is)
    (case k3 => k_is)
    (case a4 => k_is)
    (case l4 => k_is)
    (case c4 => k_is)
    (case k4 => k_is)
    (case a5 => k_is)
    (case l5 => k_is)
    (case c5 => k_is)
    (case k5 => k_is)
    (case a6 => k_is)
    (case l6 => k_is)
    (case c6 => k_is)
    (case k6 => k_is)
    (case a7 => k_is)
    (case l7 => k_is)
    (case c7 => k_is)
    (case k7 => k_is)
    (case a8 => k_is)
    (case l8 => k_is)
    (case c8 => k_is)
    (case k8 => k_is)
    (case a9 => k_is)
    (case l9 => k_is)
    (case c9 => k_is)
    (case k9 => k_is)
    (case a10 => k_is)
    (case l10 => k_is)
    (case c10 => k_is)
    (case k10 => k_is)
    (case a11 => k_is)
    (case l11 => k_is)
    (case c11 => k_is)
    (case k11 => k_is)
    (case a12 => k_is)
    (case l12 => k_is)
    (case c12 => k_is)
    (case k12 => k_is)
    (case a13 => k_is)
    (case l13 => k_is)
    (case c13 => k_is)
    (case k13 => k_is)
    (case a14 => k_is)
    (case l14 => k_is)
    (case c14 => k_is)
    (case k14 => k_is)
    (case a15 => k_is)
    (case l15 => k_is)
    (case c15 => k_is)
    (case k15 => k_is)
    (case a16 => k_is)
    (case l16 => k_is)
    (case c16 => k_is)
    (case k16 => k_is)
    (case a17 => k_is)
    (case l17 => k_is)
    (case c17 => k_is)
    (case k17 => k_is)
    (case a18 => k_is)
    (case l18 => k_is)
    (case c18 => k_is)
    (case k18 => k_is)
    (case a19 => k_is)
    (case l19 => k_is)
    (case c19 => k_is)
    (case k19 => k_is)
    (case a20 => k_is)
    (case l20 => k_is)
    (case c20 => k_is)
    (case k20 => k_is)
    (case a21 => k_is)
    (case l21 => k_is)
    (case c21 => k_is)
    (case k21 => k_is)
    (case a22 => k_is)
    (case l22 => k_is)
    (case c22 => k_is)
    (case k22 => k_is)
    (case a23 => k_is)
    (case l23 => k_is)
    (case c23 => k_is)
    (case k23 => k_is)
    (case z_len => k_is)
    (case z_isinstance => k_is)
    (case z_str => k_is)
    (case z_all => k_is)
    (case z_tuple => k_is)
    (case z_range => k_is)
    (case z_enumerate => k_is)
    (case z_abs => k_is)
    (case z_int => k_is)
    (case z_list => k_is)
    (case z_max => k_is)
    (case z_ValueError => k_is)
    (case z_bool => k_is)
    (case y_MOST_SIGNS => k_is)
    (case y_SMALL_LETTERS => k_is)
    (case y_ROW_SIGNS => k_is)
    (case y_MOST_ROWS => k_is)
    (case q_HalvesError => first | k_is | rfl | decide +kernel)
    (case q_NoName => first | k_is | rfl | decide +kernel)
    (case q_NoRow => first | k_is | rfl | decide +kernel)
    (case q_NoRoom => first | k_is | rfl | decide +kernel)
    (case q_NoText => first | k_is | rfl | decide +kernel)
    (case q_NoNumber => first | k_is | rfl | decide +kernel)
    (case q_NoParting => first | k_is | rfl | decide +kernel)
    (case q_NoTree => first | k_is | rfl | decide +kernel)
    (case q_NoKnot => first | k_is | rfl | decide +kernel)
    (case q_NoPlace => first | k_is | rfl | decide +kernel)
    (case q_NoRule => first | k_is | rfl | decide +kernel)
    (case q_NoFit => first | k_is | rfl | decide +kernel)
    (case q_NoHalf => first | k_is | rfl | decide +kernel)
    (case q_NoOrder => first | k_is | rfl | decide +kernel)
    (case q_NoUndo => first | k_is | rfl | decide +kernel)
    (case q_NoLikeness => first | k_is | rfl | decide +kernel)
    (case q_NoCall => first | k_is | rfl | decide +kernel)
    (case o1_NoText => exact ⟨_, _, _, _, _, _, _, _, _, _, _, _, _, _, _, (by k_is), rfl⟩)
    (case o2_NoText => first | k_is | rfl | decide +kernel)
    (case o3_NoText => first | k_is | rfl | decide +kernel)
    (case o4_NoText => first | k_is | rfl | decide +kernel)
    (case o5_NoText => first | k_is | rfl | decide +kernel)
    (case o6_NoText => first | k_is | rfl | decide +kernel)
    (case x1_NoText => first | k_is | rfl | decide +kernel)
    (case x2_NoText => first | k_is | rfl | decide +kernel)
    (case x4_NoText => first | k_is | rfl | decide +kernel)
    (case x5_NoText => first | k_is | rfl | decide +kernel)
    (case x8_NoText => first | k_is | rfl | decide +kernel)
    (case f1_NoText => first | k_is | rfl | decide +kernel)
    (case n1_NoText => first | k_is | rfl | decide +kernel)
    (case n2_NoText => first | k_is | rfl | decide +kernel)
    (case n4_NoText => first | k_is | rfl | decide +kernel)
    (case n5_NoText => first | k_is | rfl | decide +kernel)
    (case x6 => first | k_is | rfl | decide +kernel)
    (case x7 => first | k_is | rfl | decide +kernel)
    (case i0 => first | k_is | rfl | decide +kernel)
    (case i1 => first | k_is | rfl | decide +kernel)
    (case i2 => first | k_is | rfl | decide +kernel)
    (case i3 => first | k_is | rfl | decide +kernel)
    (case i4 => first | k_is | rfl | decide +kernel)
    (case i5 => first | k_is | rfl | decide +kernel)
    (case i6 => first | k_is | rfl | decide +kernel)
    (case r1 => first | k_is | rfl | decide +kernel)
    (case r2 => first | k_is | rfl | decide +kernel)
    (case r3 => first | k_is | rfl | decide +kernel)
    (case xm_NoText => first | k_is | rfl | decide +kernel)
    (case ka_NoText => first | k_is | rfl | decide +kernel)
    (case kb_NoText => first | k_is | rfl | decide +kernel)
    (case kv_NoText => first | k_is | rfl | decide +kernel)
    (case ks_NoText => first | k_is | rfl | decide +kernel)
