import PyProof.Rows.All
import Wide.All
import OpenK.AllK
import Wide.FinOn
import HandS.Base
import HandS.Call
import HandS.List
import HandS.Comp
import HandS.Ends
import HandS.Dict
import HandS.Iter
import HandS.Text
import HandS.Words
import KE.GoesNew
import HandS.Rev
import PyProof.JoinWalk
import KE.SortData
import HandS.Evl
import HandS.Walk
import HandS.IsInst
import HandS.ForMost
import HandS.Set
import HandS.Strs
import HandS.TupAny
import HandS.TupMul
import HandS.Style
import HandS.SetKeys
import HandS.WordsDict
import HandS.WideBits
import HandS.AnyAll
import HandS.GenOver
import HandS.GenList
import HandS.EndTab
import HandS.Conv
import PyProof.CollectStr
import HandS.Zip
import HandS.SetFor
import KE.KDictPairs
import HandS.SetBool
import HandS.ExcIs
import HandS.ExcValue
import HandS.ExcInit
import HandS.ExcOwn
import HandS.WordsExc
import KE.DataMinKey
import HandS.Lambda
import HandS.SortKw
import HandS.ClsMeth
import HandS.ExcField
import HandS.Defaults
import HandS.CallLocal
import HandS.Deep
import HandS.HotCalls
import HandS.TryMany
import KE.KExcIs
import PyProof.EnumMake
import HandS.FStr
import KE.GoesEnumKw
import KE.KDictList
import PyProof.StrLawsTight
import HandS.ReplaceLit
import HandS.ReplaceList
import PySem.Challenge.RW_hidhalves_k34_refused_known_and_orders
set_option Elab.async false
set_option linter.all false
set_option maxRecDepth 100000
set_option maxHeartbeats 4000000
namespace Hid
open PySem PySem.Spec PyProof.Rows L2
/-- two texts side by side: the signs in new pairs -/
def ZsIt (x y : Str) : It :=
  ⟨fun i _ => i < min x.cps.size y.cps.size,
    fun i G v G' => ∃ T c d, v = .ref T ∧ G T = none ∧ G' = upd G T (.tup [.str ⟨#[c]⟩, .str ⟨#[d]⟩]) ∧ x.cps[i]? = some c ∧ y.cps[i]? = some d,
    fun i _ => min x.cps.size y.cps.size ≤ i⟩
/-- where the walk of two texts stands -/
def ZsAt (z TI TO i1 i2 : Addr) (x y : Str) (t u : Tok) (i : Nat) (h : Heap) : Prop :=
  i ≤ min x.cps.size y.cps.size ∧ IsZip h z TI TO .none ∧ IsTupOf2 h TI (.ref i1) (.ref i2) ∧ (∃ a1 a2, IsTupOf2 h TO a1 a2) ∧ h.IsStrIter i1 (strIterType x) x t i ∧ h.IsStrIter i2 (strIterType y) y u i
theorem zs_turn {P : Program} {w : World} {K : PySem.W.Frag} {es : List Expr} {kk : Nat} {tp : Pos} {z TI TO i1 i2 : Addr} {x y : Str} {t u : Tok} (S : ZipSep2 z TI TO i1 i2 [i1] [i2]) :
    Turn P w K (.Tuple es kk tp) (ZsIt x y) (z :: TI :: TO :: ([i1] ++ [i2])) z (ZsAt z TI TO i1 i2 x y t u) where
  mem := List.mem_cons_self
  obj := fun i h st b hb => by
    obtain ⟨_, hz, hTI, ⟨p, q, hTO⟩, ⟨o1, e1, _, d1⟩, ⟨o2, e2, _, d2⟩⟩ := st
    have e' : b = z ∨ b = TI ∨ b = TO ∨ b = i1 ∨ b = i2 := by simpa using hb
    rcases e' with r | r | r | r | r <;> rw [r]
    · exact ⟨_, hz, fun v n => nomatch n⟩
    · exact ⟨_, hTI, fun v n => nomatch n⟩
    · exact ⟨_, hTO, fun v n => nomatch n⟩
    · exact ⟨o1, e1, fun v n => by rw [d1] at n; cases n⟩
    · exact ⟨o2, e2, fun v n => by rw [d2] at n; cases n⟩
  keep := fun i h h' st k => by
    obtain ⟨hi, hz, hTI, ⟨p, q, hTO⟩, ⟨o1, e1, r1⟩, ⟨o2, e2, r2⟩⟩ := st
    exact ⟨hi, k z (by simp) _ hz, k TI (by simp) _ hTI, ⟨p, q, k TO (by simp) _ hTO⟩, ⟨o1, k i1 (by simp) _ e1, r1⟩, ⟨o2, k i2 (by simp) _ e2, r2⟩⟩
  item := by
    intro X hP hw hK hc i pins s σ H E I hf st hg
    subst hP hw hK
    have hh := I.ok.hd hc
    have G := GoesN.zip2 (prog := X.prog) (w := X.w) (A := X.A) (elts := es) (x1 := kk) (pos := tp) S (Draws.text (A := X.A.in1) hh i1 x t) (Draws.text (A := X.A.in1) hh i2 y u)
    obtain ⟨hi, st⟩ := st
    refine wpAny_mono (G.goes i s (fun v s2 => ∃ xv H', Inv X pins σ H' s2 ∧ RelV xv v ∧ (ZsIt x y).yld i H xv H' ∧ ZsAt z TI TO i1 i2 x y t u (i + 1) s2.heap ∧ ∀ b ∈ z :: TI :: TO :: ([i1] ++ [i2]), H' b = none) E hg st fun v h' tk hY st' hk htk => ?_) (fun r s1 h1 => ?_) fun _ _ e => e
    · obtain ⟨T, v1, v2, rfl, hT, ⟨c, u1, hc1, rfl⟩, ⟨d, u2, hd1, rfl⟩, o, ho, ho1, n, ho2⟩ := hY
      have new : ObjOk X.prog X.w (upd H T (.tup [.str ⟨#[c]⟩, .str ⟨#[d]⟩])) h' T (.tup [.str ⟨#[c]⟩, .str ⟨#[d]⟩]) :=
        ⟨by show 2 ≤ sizeLine; decide, [_, _], .cons ⟨u1, rfl⟩ (.cons ⟨u2, rfl⟩ .nil), ⟨o, ho, ho1, n, ho2⟩⟩
      have J : Inv X pins σ (upd H T (.tup [.str ⟨#[c]⟩, .str ⟨#[d]⟩])) { s with heap := h', toks := tk } :=
        I.turnedNew (t' := tk) (ch := [z, TO, i1, i2]) hk (fun b hb => hf b (by simp at hb ⊢; rcases hb with q | q | q | q <;> simp [q])) hT new
      refine ⟨.ref T, _, J, rfl, ⟨T, c, d, rfl, I.hok.fresh hT, rfl, hc1, hd1⟩, ⟨hg, st'⟩, fun b hb => ?_⟩
      have hb1 : b < s.heap.objs.size := by
        obtain ⟨hz, hTI, ⟨p, q, hTO⟩, ⟨o1, e1, r1⟩, ⟨o2, e2, r2⟩⟩ := st
        have e' : b = z ∨ b = TI ∨ b = TO ∨ b = i1 ∨ b = i2 := by simpa using hb
        rcases e' with r | r | r | r | r <;> rw [r]
        · exact Heap.lt_size hz
        · exact Heap.lt_size hTI
        · exact Heap.lt_size hTO
        · exact Heap.lt_size e1
        · exact Heap.lt_size e2
      rw [upd_ne (Nat.ne_of_lt (Nat.lt_of_lt_of_le hb1 hT))]
      exact (hf b hb).1
    · obtain ⟨v, rfl, q⟩ := h1
      exact ⟨v, rfl, q⟩
  done := by
    intro X hP hw hK hc i pins s σ H E I hf st hg
    subst hP hw hK
    have hh := I.ok.hd hc
    have G := GoesN.zip2 (prog := X.prog) (w := X.w) (A := X.A) (elts := es) (x1 := kk) (pos := tp) S (Draws.text (A := X.A.in1) hh i1 x t) (Draws.text (A := X.A.in1) hh i2 y u)
    obtain ⟨hi, st⟩ := st
    have ei : i = min x.cps.size y.cps.size := Nat.le_antisymm hi hg
    subst ei
    exact G.stops s (fun s1 => Inv X pins σ H s1) E st fun h' tk hk htk => I.turnedL (t' := tk) (ch := [z, TO, i1, i2]) hk (fun b hb => hf b (by simp at hb ⊢; rcases hb with q | q | q | q <;> simp [q]))
  self := fun A i s Q E st h => wpAny_pyIter_zip st.2.1 h
def iZs (ta : TA) : TI := fun σ H R => ta σ H fun vs H1 => ∃ x y, vs = [.str x, .str y] ∧ R (ZsIt x y) H1
/-- zip(x, y) of two texts -/
theorem pi_zs {X : Cx} {e e2 : Expr} {ta : TA} {p pos tp : Pos} {es : List Expr} {kk : Nat} (hg : Gl X "zip") (hm : X.mg "zip" = none) (ha : PA X [e, e2] ta)
    (hs : starEach [e, e2] X.env = (false, eval e X.env) :: starEach [e2] X.env := by rfl) (hpl : (backTo pos (starEach [e2] X.env)).any (·.1) = false := by rfl) :
    PI X (.Tuple es kk tp) (.Call (.Name "zip" p) [e, e2] [] pos) (iZs ta) := by
  refine ⟨fun pins s σ H R I h => ?_⟩
  refine Call_ (ld_blt I hg hm boot_zip (callWith_type1 (thn (ha.run pos pins s σ H _ I h) fun us s1 ⟨vs, H1, I1, r1, x, y, ex, q⟩ => ?_) hs hpl))
  subst ex
  cases r1 with
  | cons r rr =>
    cases rr with
    | cons r' rr =>
      cases rr
      obtain ⟨t, rfl⟩ := r
      obtain ⟨u, rfl⟩ := r'
      refine zip_begins2 (begins_text x t) (begins_text y u) trivial trivial fun h' hz hTI hTO g1 g2 hsz hk => wpAny_pyIter_zip hz ?_
      refine ⟨s1.heap.objs.size + 4, _, _, _, H1, rfl, I1.kept (t' := s1.toks) hk, zs_turn (zip_sep2 (fp1 := []) (fp2 := []) (fun b n => nomatch n) (fun b n => nomatch n)),
        ⟨Nat.zero_le _, hz, hTI, ⟨_, _, hTO⟩, ⟨_, g1, rfl, rfl⟩, ⟨_, g2, rfl, rfl⟩⟩, fun c hcm => ?_, q⟩
      have e' : c = s1.heap.objs.size + 4 ∨ c = s1.heap.objs.size + 2 ∨ c = s1.heap.objs.size + 3 ∨ c = s1.heap.objs.size ∨ c = s1.heap.objs.size + 1 := by simpa using hcm
      have hle : s1.heap.objs.size ≤ c := by
        rcases e' with r | r | r | r | r <;> rw [r] <;> first | exact Nat.le_refl _ | exact Nat.le_add_right _ _
      exact I1.fpOk hle (I1.hok.fresh hle)
/-- a loop over two texts side by side -/
theorem for_zs {x y : Str} {g : TG} {tb : TS} {D : Ends} {σ : L2.St} {H : Hp} {n : Nat} (hn : n = min x.cps.size y.cps.size) (Pv : Nat → L2.St → Hp → Prop) (h0 : Pv 0 σ H)
    (hs : ∀ (i c d : Nat) (T : Addr) (σ : L2.St) (H : Hp), i < n → x.cps[i]? = some c → y.cps[i]? = some d → H T = none → Pv i σ H →
      g (.ref T) σ (upd H T (.tup [.str ⟨#[c]⟩, .str ⟨#[d]⟩])) fun σ2 H2 => tb { D with nx := Pv (i + 1), ct := Pv (i + 1), bk := D.nx } σ2 H2) (hd : ∀ σ H, Pv n σ H → D.nx σ H) :
    ∃ W : Nat → Nat → L2.St → Hp → Prop, (∃ m, W 0 m σ H) ∧ ∀ i m σ H, W i m σ H →
      ((ZsIt x y).stop i H ∧ D.nx σ H) ∨ ((ZsIt x y).go i H ∧ ∃ N : L2.St → Hp → Prop, (∀ σ' H', N σ' H' → ∃ m', m' < m ∧ W (i + 1) m' σ' H') ∧ ∀ v H', (ZsIt x y).yld i H v H' → g v σ H' fun σ2 H2 => tb { D with nx := N, ct := N, bk := D.nx } σ2 H2) := by
  subst hn
  refine ⟨fun i m σ H => m = min x.cps.size y.cps.size - i ∧ i ≤ min x.cps.size y.cps.size ∧ Pv i σ H, ⟨_, rfl, Nat.zero_le _, h0⟩, ?_⟩
  rintro i m σ H ⟨rfl, hi, p⟩
  by_cases hlt : i < min x.cps.size y.cps.size
  · refine .inr ⟨hlt, Pv (i + 1), fun σ' H' p' => ⟨_, by omega, rfl, hlt, p'⟩, fun v H' r => ?_⟩
    obtain ⟨T, c, d, rfl, hT, rfl, hc, hd'⟩ := r
    exact hs i c d T σ H hlt hc hd' hT p
  · have e : i = min x.cps.size y.cps.size := by omega
    subst e
    exact .inl ⟨Nat.le_refl _, hd σ H p⟩
end Hid

namespace Hid
open PySem PySem.Spec PyProof.Rows L2
theorem str_norev : typeLookup (.type "str") "__reversed__" = pure none := by rw [typeLookup_type, builtinLookup_eq_fast]; kernel_rfl
theorem str_getit : typeLookup (.type "str") "__getitem__" = pure (some (.builtin "str.__getitem__")) := by rw [typeLookup_type, builtinLookup_eq_fast]; kernel_rfl
abbrev rsObj (x : Str) (t : Tok) (i : Int) : Obj := { cls := .type "reversed", data := .fields #[.str x t, rawInt i] }
/-- reversed(x) of a text, the next place i -/
def IsRs (h : Heap) (a : Addr) (x : Str) (t : Tok) (i : Int) : Prop := ∃ o, h.get? a = some o ∧ o.cls = .type "reversed" ∧ o.data = .fields #[.str x t, rawInt i]
section
variable {prog : Program} {w : World} {A : Around} {E : Value → Shared → Prop} {s : Shared}
theorem IsRs.kind {a : Addr} {x : Str} {t : Tok} {i : Int} (q : IsRs s.heap a x t i) : s.TypeIs (.ref a) "reversed" := let ⟨o, ho, hc, _⟩ := q; ⟨o, ho, hc⟩
theorem rs_code {x : Str} {t : Tok} {Q₁ : Value → Shared → Prop} (hx : x.length ≤ sizeLine)
    (h : Q₁ (.ref s.heap.objs.size) { s with heap := s.heap.push (rsObj x t ((x.length : Int) - 1)), toks := s.toks + 1 + 1 }) :
    codeAny (model prog w) A (.call (.builtin "reversed.__new__") ⟨[.type "reversed", .str x t], []⟩) (wants Q₁ E) s := by
  have kx := typeIs_str s x t
  refine codeAny_of_tree ?_
  show wpAny _ A.in1 (do checkBuiltinCall "reversed.__new__" ⟨[.type "reversed", .str x t], []⟩; again (.builtin "reversed.__new__" ⟨[.type "reversed", .str x t], []⟩)) _ _ s
  refine wpAny_bind (wpAny_of_eq (F.newCall_reversed_1 _) (wpAny_pure ⟨plainId_quiet F.plain_reversed_new _, codeAny_builtin F.entry_reversed_new ?_⟩))
  rw [Around.under_plainId F.plain_reversed_new _] <;> unfold Builtin.«reversed.__new__»
  refine wpAny_bind (wpAny_of_eq (newClass_reversed _) ?_) <;> try dsimp only
  refine wpAny_bind (wpAny_of_eq (a := ()) (by first | rfl | kernel_rfl) ?_) <;> try dsimp only
  refine wpAny_bind (wpAny_of_eq (a := ()) (by first | rfl | kernel_rfl) ?_) <;> try dsimp only
  refine wpAny_bind (wpAny_specialOf kx str_norev ?_) <;> try dsimp only
  refine wpAny_bind ?_ <;> wp_delta
  refine wpAny_bind (wpAny_isInstance (T := "str") (U := "dict") (b := false) kx PySem.F.sub_str_dict ?_)
  try dsimp only
  try rw [if_neg Bool.false_ne_true]
  try dsimp only
  refine wpAny_bind (wpAny_specialOf kx str_getit ?_)
  try dsimp only
  try rw [if_pos (by decide +kernel)]
  refine wpAny_pure ?_
  try dsimp only
  try rw [if_neg (by decide)]
  try dsimp only
  have hn := line63
  refine wpAny_bind (PySem.P.len_str (by omega) ?_)
  refine wpAny_bind (wpAny_of_eq (a := some ((x.length : Nat) : Int)) rfl ?_) <;> try dsimp only
  refine wpAny_bind ?_
  show wpAny _ _ (newObj (.type "reversed") (.fields #[.str x t, rawInt ((x.length : Int) - 1)])) _ _ _
  refine wpAny_newObj_type ?_
  exact wpAny_pure h
theorem rs_call {x : Str} {t : Tok} {Q : Value → Shared → Prop} (hx : x.length ≤ sizeLine)
    (h : Q (.ref s.heap.objs.size) { s with heap := s.heap.push (rsObj x t ((x.length : Int) - 1)), toks := s.toks + 1 + 1 }) : wpAny (model prog w) A (call (.type "reversed") [.str x t]) Q E s := by
  refine callType_codes (Q₁ := fun obj s₁ => s₁.TypeIs obj "reversed" ∧ Q obj s₁) RT.called_rt (F.typeCall_reversed_1 _) F.entry_object_init
    (rs_code (A := A.in1) hx ⟨⟨_, Heap.get?_push_size _ rfl, rfl⟩, h⟩) fun obj s₁ g => ?_
  exact ⟨g.1, F.args_object_init_2 obj _, object_init_meets RT.called_rt.init.lookup RT.called_rt.made (by decide) prog w A.in1 _ s₁ ⟨g.1, rfl, g.2⟩⟩
theorem rs_next {it : Addr} {i c : Nat} {x : Str} {t : Tok} {Q : Option Value → Shared → Prop} (hit : IsRs s.heap it x t (i : Int)) (hx : x.cps[i]? = some c) (hsz : x.length ≤ sizeLine)
    (hQ : ∀ h' u k, IsRs h' it x t ((i : Int) - 1) → Heap.SameBut it s.heap h' → Q (some (.str ⟨#[c]⟩ u)) { s with heap := h', toks := k }) : wpAny (model prog w) A (pyNext (.ref it)) Q E s := by
  obtain ⟨o, ho, hc, hd⟩ := id hit
  have hi : i < x.cps.size := (Array.getElem?_eq_some_iff.mp hx).1
  have kx := typeIs_str s x t
  have hn := line63
  have hl : x.length = x.cps.size := rfl
  unfold pyNext
  refine wpAny_bind (wpAny_attempt (wpAny_callSpecial?_slot (name := Str.ofString "__next__") hit.kind RT.slot_rt_next (wpAny_call_entry RT.slot_rt_next hit.kind RT.entry_rt_next ?_ (RT.args_rt_next _))))
  unfold Builtin.«reversed.__next__»
  refine wpAny_bind (wpAny_of_eq (a := (Value.ref it, [])) rfl ?_) <;> try dsimp only
  refine wpAny_bind (wpAny_field ho hd (x := .str x t) rfl ?_) <;> try dsimp only
  refine wpAny_bind (wpAny_field ho hd (x := rawInt (i : Int)) rfl ?_)
  show wpAny _ _ (if (i : Int) < 0 then _ else _) _ _ s
  rw [if_neg (by omega)] <;> try dsimp only
  refine wpAny_bind (wpAny_specialOf kx str_getit ?_)
  try dsimp only
  try rw [if_neg (by decide)]
  try dsimp only
  refine wpAny_bind (wpAny_mkInt ?_) <;> refine wpAny_bind (wpAny_attempt ?_)
  have fin : seqIndex? (i : Int) x.length = some i := seqIndex_of (by omega) (by omega)
  refine PySem.P.getItem_str (s := { s with toks := s.toks + 1 }) (c := c) (by
    have e1 : decide ((i : Int) < -(2 ^ 63 : Int)) = false := decide_eq_false (by omega)
    have e2 : decide ((i : Int) ≥ 2 ^ 63) = false := decide_eq_false (by omega)
    rw [e1, e2] <;> rfl) (by rw [fin]; exact hx) ?_
  try dsimp only
  refine wpAny_bind (wpAny_field (s := { s with toks := s.toks + 1 + 1 }) ho hd (x := rawInt (i : Int)) rfl ?_)
  try dsimp only
  refine wpAny_bind (wpAny_setField (s := { s with toks := s.toks + 1 + 1 }) ho hd (by simp) ?_)
  first
  | refine wpAny_pure ⟨_, rfl, wpAny_pure (hQ _ _ _ ?_ (Heap.SameBut.update ..))⟩
  | refine wpAny_bind (wpAny_pure (wpAny_pure ⟨_, rfl, wpAny_pure (hQ _ _ _ ?_ (Heap.SameBut.update ..))⟩))
  exact ⟨_, Heap.get?_update_self _ ho (Obj.isFreed_of_fields (Obj.data_mapFields hd _)), (Obj.cls_mapFields ..).trans hc, by rw [Obj.data_mapFields hd]; simp⟩
theorem rs_end {it : Addr} {x : Str} {t : Tok} {Q : Option Value → Shared → Prop} (hh : A.handled = none) (hit : IsRs s.heap it x t (-1))
    (hQ : ∀ h', Heap.ExtBut it s.heap h' → Q none { s with heap := h' }) : wpAny (model prog w) A (pyNext (.ref it)) Q E s := by
  obtain ⟨o, ho, hc, hd⟩ := id hit
  unfold pyNext
  refine wpAny_bind (wpAny_attempt (wpAny_callSpecial?_slot (name := Str.ofString "__next__") hit.kind RT.slot_rt_next (wpAny_call_entry RT.slot_rt_next hit.kind RT.entry_rt_next ?_ (RT.args_rt_next _))))
  unfold Builtin.«reversed.__next__»
  refine wpAny_bind (wpAny_of_eq (a := (Value.ref it, [])) rfl ?_) <;> try dsimp only
  refine wpAny_bind (wpAny_field ho hd (x := .str x t) rfl ?_) <;> try dsimp only
  refine wpAny_bind (wpAny_field ho hd (x := rawInt (-1)) rfl ?_)
  show wpAny _ _ (if (-1 : Int) < 0 then _ else _) _ _ s
  rw [if_pos (by decide)] <;> try dsimp only
  refine wpAny_bind (wpAny_rule ?_) <;> refine wpAny_bind ?_ <;> wp_delta
  refine wpAny_bind (wpAny_setField ho hd (by simp) ?_)
  have ho2 := Heap.get?_update_self (Obj.mapFields (·.setIfInBounds 1 (rawInt (-1)))) ho (Obj.isFreed_of_fields (Obj.data_mapFields hd _))
  refine wpAny_setField (s := { s with heap := s.heap.update it (Obj.mapFields (·.setIfInBounds 1 (rawInt (-1)))) }) ho2 (Obj.data_mapFields hd _) (by simp) ?_
  try dsimp only
  first
  | show wpAny _ _ (newExc (.type "StopIteration") [] >>= _) _ _ _
  | (refine wpAny_bind ?_; show wpAny _ _ (newExc (.type "StopIteration") [] >>= _) _ _ _)
  | (refine wpAny_bind ?_; wp_delta; show wpAny _ _ (newExc (.type "StopIteration") [] >>= _) _ _ _)
  refine wpAny_bind ?_
  simp only [newExc, newTuple]
  refine wpAny_bind (wpAny_newObj_type ?_ (by size_fits))
  refine wpAny_bind (m := firstArgMember _ _) (wpAny_of_eq (a := Value.none) (by first | rfl | (simp only [firstArgMember]; rfl)) ?_)
  refine wpAny_newObj_type ?_ (by size_fits)
  simp only [raiseNew]
  refine wpAny_bind (wpAny_handled ?_)
  first | rw [show A.in1.handled = none from hh] | rw [hh]
  refine wpAny_bind (wpAny_pure (wpAny_throw ?_))
  refine wpAny_bind (wpAny_isInstance (T := "StopIteration") (b := true) ⟨_, Heap.get?_push_size _ rfl, rfl⟩ isSubtype_stop ?_)
  refine wpAny_pure (hQ _ ?_)
  refine ((?_ : Heap.ExtBut it s.heap _).push _).push _
  exact fun b ob hb e => (Heap.get?_update_other _ _ (Ne.symm hb)).trans ((Heap.get?_update_other _ _ (Ne.symm hb)).trans e)
theorem rs_iter {it : Addr} {x : Str} {t : Tok} {i : Int} {Q : Value → Shared → Prop} (hit : IsRs s.heap it x t i) (h : Q (.ref it) s) : wpAny (model prog w) A (pyIter (.ref it)) Q E s := by
  refine wpAny_pyIter_slot hit.kind RT.slot_rt_iter (wpAny_call_entry RT.slot_rt_iter hit.kind RT.entry_rt_iter ?_ (RT.args_rt_iter _))
  show wpAny _ _ (ret (.ref it)) _ _ s
  exact wpAny_pure ⟨_, rfl, "reversed", _, hit.kind, RT.slot_rt_next.lookup, h⟩
end
/-- the signs of a text from the last -/
def RsIt (x : Str) : It := ⟨fun i _ => i < x.cps.size, fun i H v H' => H' = H ∧ ∃ c, x.cps[x.cps.size - 1 - i]? = some c ∧ v = .str ⟨#[c]⟩, fun i _ => x.cps.size ≤ i⟩
theorem rs_turn {P : Program} {w : World} {K : PySem.W.Frag} {tg : Expr} (it : Addr) (x : Str) (t : Tok) (hx : x.length ≤ sizeLine) :
    Turn P w K tg (RsIt x) [it] it (fun i h => i ≤ x.cps.size ∧ IsRs h it x t ((x.cps.size : Int) - 1 - (i : Nat))) where
  mem := by simp
  obj := fun i h st b hb => by
    obtain rfl : b = it := by simpa using hb
    obtain ⟨_, o, e, c, d⟩ := st
    exact ⟨o, e, fun v z => by rw [d] at z; cases z⟩
  keep := fun i h h' st k => by
    obtain ⟨hi, o, e, r⟩ := st
    exact ⟨hi, o, k it (by simp) o e, r⟩
  item := by
    intro X hP hw hK hc i pins s σ H E I hf st hg
    subst hP hw hK
    have hlt : i < x.cps.size := hg
    obtain ⟨f0, f1, f2, f3, f4, f5⟩ := hf it (by simp)
    obtain ⟨_, hit⟩ := st
    have e1 : (x.cps.size : Int) - 1 - ((i : Nat) : Int) = ((x.cps.size - 1 - i : Nat) : Int) := by omega
    rw [e1] at hit
    have hj : x.cps.size - 1 - i < x.cps.size := by omega
    have hcx : x.cps[x.cps.size - 1 - i]? = some x.cps[x.cps.size - 1 - i] := Array.getElem?_eq_getElem hj
    refine rs_next hit hcx hx fun h' u k st' sb => ?_
    have e2 : ((x.cps.size - 1 - i : Nat) : Int) - 1 = (x.cps.size : Int) - 1 - ((i + 1 : Nat) : Int) := by omega
    rw [e2] at st'
    have J : Inv X pins σ H { s with heap := h', toks := k } := I.turned (t' := k) (fun b o hb e => (sb.2 b hb).trans e) f0 f1 f3 f4 f5
    obtain ⟨o, e, c, d⟩ := id st'
    exact ⟨_, rfl, go_of (s := { s with heap := h', toks := k }) e c d (by decide) ⟨.str ⟨#[_]⟩, H, J, ⟨u, rfl⟩, ⟨rfl, _, hcx, rfl⟩, ⟨hlt, st'⟩, fun b hb => (hf b hb).1⟩⟩
  done := by
    intro X hP hw hK hc i pins s σ H E I hf st hg
    subst hP hw hK
    obtain ⟨f0, f1, f2, f3, f4, f5⟩ := hf it (by simp)
    obtain ⟨hin, hit⟩ := st
    have hge : x.cps.size ≤ i := hg
    have e1 : (x.cps.size : Int) - 1 - ((i : Nat) : Int) = -1 := by omega
    rw [e1] at hit
    exact rs_end (I.ok.hd hc) hit fun h' eb => ⟨rfl, I.turned (t' := s.toks) (fun b o hb e => eb b o hb e) f0 f1 f3 f4 f5⟩
  self := fun A i s Q E st h => rs_iter st.2 h
def iRs (te : TE) : TI := fun σ H R => te σ H fun v H1 => ∃ x, v = .str x ∧ x.length ≤ sizeLine ∧ R (RsIt x) H1
/-- for c in reversed(x) of a text -/
theorem pi_rs {X : Cx} {tg e : Expr} {te : TE} {p pos : Pos} (hg : Gl X "reversed") (hm : X.mg "reversed" = none) (he : PE X e te) (hs : starEach [e] X.env = (false, eval e X.env) :: starEach [] X.env := by rfl) : PI X tg (.Call (.Name "reversed" p) [e] [] pos) (iRs te) := by
  refine ⟨fun pins s σ H R I h => ?_⟩
  refine Call_ (ld_blt I hg hm boot_reversed (callWith_type1 (args_cons (thn (he.run pins s σ H _ I h) fun u s1 ⟨v, H1, I1, r1, x, ev, hx, q⟩ => args_nil ?_) hs) hs rfl))
  subst ev
  obtain ⟨t, rfl⟩ := r1
  refine rs_call hx (rs_iter (x := x) (t := t) (i := (x.length : Int) - 1) ⟨_, Heap.get?_push_size _ rfl, rfl, rfl⟩ ?_)
  refine pi_one (tk := s1.toks + 1 + 1) I1 _ (rs_turn _ x t hx) ⟨Nat.zero_le _, ?_⟩ q
  have e1 : (x.length : Int) - 1 = (x.cps.size : Int) - 1 - ((0 : Nat) : Int) := by show (x.cps.size : Int) - 1 = _; omega
  rw [← e1]
  exact ⟨_, Heap.get?_push_size _ rfl, rfl, rfl⟩
theorem for_rs {x : Str} {g : TG} {tb : TS} {D : Ends} {σ : L2.St} {H : Hp} (Pv : Nat → L2.St → Hp → Prop) (h0 : Pv 0 σ H)
    (hs : ∀ (i c : Nat) (σ : L2.St) (H : Hp), i < x.cps.size → x.cps[x.cps.size - 1 - i]? = some c → Pv i σ H → g (.str ⟨#[c]⟩) σ H fun σ2 H2 => tb { D with nx := Pv (i + 1), ct := Pv (i + 1), bk := D.nx } σ2 H2) (hd : ∀ σ H, Pv x.cps.size σ H → D.nx σ H) :
    ∃ W : Nat → Nat → L2.St → Hp → Prop, (∃ m, W 0 m σ H) ∧ ∀ i m σ H, W i m σ H →
      ((RsIt x).stop i H ∧ D.nx σ H) ∨ ((RsIt x).go i H ∧ ∃ N : L2.St → Hp → Prop, (∀ σ' H', N σ' H' → ∃ m', m' < m ∧ W (i + 1) m' σ' H') ∧ ∀ v H', (RsIt x).yld i H v H' → g v σ H' fun σ2 H2 => tb { D with nx := N, ct := N, bk := D.nx } σ2 H2) := by
  refine ⟨fun i m σ H => m = x.cps.size - i ∧ i ≤ x.cps.size ∧ Pv i σ H, ⟨_, rfl, Nat.zero_le _, h0⟩, ?_⟩
  rintro i m σ H ⟨rfl, hi, p⟩
  by_cases hlt : i < x.cps.size
  · refine .inr ⟨hlt, Pv (i + 1), fun σ' H' p' => ⟨_, by omega, rfl, hlt, p'⟩, fun v H' r => ?_⟩
    obtain ⟨rfl, c, hc, rfl⟩ := r
    exact hs i c σ _ hlt hc p
  · obtain rfl : i = x.cps.size := by omega
    exact .inl ⟨Nat.le_refl _, hd σ H p⟩
end Hid

namespace Hid
open PySem PySem.Spec PyProof.Rows L2
/-! sorted of data -/
section
variable {X : Cx} {β : Type}
def rSortD (K : PySem.W.Frag) (enc : β → PyData) : List V → Hp → VK → Prop := fun vs H Q => ∃ (a : Addr) (xs : List V) (bs : List β) (R : V → β → Prop), vs = [.ref a] ∧ SqL K H a xs ∧ Paired R xs bs ∧ (∀ v b, R v b → Dp K H v (enc b)) ∧
  PySem.W.AllAlike (bs.map enc) ∧ PySem.W.Sortable (bs.map enc) ∧ (∀ b ∈ bs, (enc b).depth ≤ 8) ∧ ∀ ys p, Paired R ys (bs.mergeSort (PySem.W.dataLe false enc)) → H p = none → Q (.ref p) (upd H p (.lst ys))
theorem each_of_paired {R : V → β → Prop} : ∀ {xs : List V} {its : List Value} {bs : List β}, Vals xs its → Paired R xs bs → PySem.W.EachIs (fun v b => ∃ x, RelV x v ∧ R x b) its bs
  | _, _, _, .nil, .nil => .nil
  | _, _, _, .cons r rs, .cons d ds => .cons ⟨_, r, d⟩ (each_of_paired rs ds)
theorem paired_of_each {R : V → β → Prop} : ∀ {out : List Value} {bs : List β}, PySem.W.EachIs (fun v b => ∃ x, RelV x v ∧ R x b) out bs → ∃ ys, Vals ys out ∧ Paired R ys bs
  | _, _, .nil => ⟨[], .nil, .nil⟩
  | _, _, .cons ⟨x, r, d⟩ t => let ⟨ys, h1, h2⟩ := paired_of_each t; ⟨x :: ys, .cons r h1, .cons d h2⟩
theorem paired_len {α γ : Type} {F : α → γ → Prop} : ∀ {l : List α} {m : List γ}, Paired F l m → l.length = m.length
  | _, _, .nil => rfl
  | _, _, .cons _ t => congrArg (· + 1) (paired_len t)
theorem each_mono {α γ : Type} {R R' : α → γ → Prop} (h : ∀ a b, R a b → R' a b) : ∀ {l : List α} {m : List γ}, PySem.W.EachIs R l m → PySem.W.EachIs R' l m
  | _, _, .nil => .nil
  | _, _, .cons a t => .cons (h _ _ a) (each_mono h t)
theorem cr_sortD {enc : β → PyData} (hu : X.A.units + 64 < cLine) : CallR X (.builtin "sorted") (rSortD X.K enc) := by
  intro pins s σ H vs us Q I r h
  obtain ⟨a, xs, bs, R, rfl, hs, hp, hR, hal, hk, hd, q⟩ := h
  obtain ⟨its, rv, hl, hz⟩ := I.list hs
  rw [Vals.ref1 r]
  have e := each_of_paired rv hp
  have hlen : bs.length = xs.length := (paired_len hp).symm
  refine PySem.W.sorted_data (vs := its) hl.isList e (each_mono (fun v b ⟨x, r, d⟩ => Dp.reads I _ _ _ (hR _ _ d) r) e) hal hk (by rw [hlen]; exact hz) (fun b hb => ?_) fun out ho eo => ?_
  · have := hd b hb
    omega
  · obtain ⟨ys, h1, h2⟩ := paired_of_each eo
    obtain ⟨c, hc⟩ := sortedAll_at s.heap its (List.toArray out)
    have hle : s.heap.objs.size ≤ s.heap.objs.size + 1 := Nat.le_succ _
    refine ⟨.ref (s.heap.objs.size + 1), upd H (s.heap.objs.size + 1) (.lst ys), I.laid (t' := s.toks) (fun _ _ => sortedAll_old) hle ⟨?_, out, c, h1, hc⟩, rfl, q ys _ h2 (I.hok.fresh hle)⟩
    rw [h1.length, ho, hlen]
    exact hz
end
/-- pairs of texts as data -/
def encSS (p : Str × Str) : PyData := .tuple [.str p.1, .str p.2]
theorem cr_sortSS {X : Cx} (hu : X.A.units + 64 < cLine) : CallR X (.builtin "sorted") (rSortD X.K encSS) := cr_sortD hu
theorem le_ss (p q : Str × Str) (h : p.1.cps.toList < q.1.cps.toList) : PySem.W.dataLe false encSS p q = true := by
  show (!PySem.W.dataLt (.tuple [.str q.1, .str q.2]) (.tuple [.str p.1, .str p.2])) = true
  have ne : PyData.eqv (.str q.1) (.str p.1) = false := by
    show (q.1 == p.1) = false
    rw [beq_eq_false_iff_ne]
    intro e
    rw [e] at h
    exact List.lt_irrefl _ h
  rw [PySem.W.dataLt_pair (by simp [PySem.W.alike]) (by simp [PySem.W.alike]), ne, if_neg Bool.false_ne_true, PySem.W.dataLt_str]
  have : ¬ q.1.cps.toList < p.1.cps.toList := fun z => List.lt_irrefl _ (List.lt_trans h z)
  simp [this]
/-! text * number, >>= -/
section
variable {X : Cx}
theorem op_mul_str : OpR X (binaryOp .Mult) (fun x y H Q => ∃ z i, x = .str z ∧ y = .int i ∧ 0 ≤ i ∧ i ≤ 1000 ∧ z.length ≤ 1000 ∧ Q (.str (Txt.mul z i)) H) := by
  intro pins s σ H x y v u Q I rx ry h
  obtain ⟨z, i, rfl, rfl, h0, h1, h2, q⟩ := h
  obtain ⟨t, rfl⟩ := rx
  obtain ⟨t', rfl⟩ := ry
  refine PySem.SB.mul ⟨?_, fun n1 _ => ?_, fun n1 _ => ?_⟩ fun t' k => ⟨.str _, H, I.tok k, ⟨t', rfl⟩, q⟩
  · have e1 : decide (i < -(2 ^ 63 : Int)) = false := decide_eq_false (by omega)
    have e2 : decide (i ≥ 2 ^ 63) = false := decide_eq_false (by omega)
    rw [e1, e2] <;> rfl
  · have : (1000 : Int) ≤ (2 ^ 63 - 1) / i := (Int.le_ediv_iff_mul_le (by omega)).mpr (by omega)
    omega
  · unfold Builtin.Str.tooLong
    have h3 : z.length * i.toNat ≤ 1000 * 1000 := Nat.mul_le_mul h2 (by omega)
    have h4 : (1000 * 1000 : Nat) ≤ sizeLine := by decide
    exact decide_eq_false (by omega)
theorem ip_shr : PIp X .RShift (rI (fun _ j => 0 ≤ j) fun i j => .int (i / 2 ^ j.toNat)) := iop_shr
end
/-! sep.join(reversed(list)) -/
theorem gives_join {x : Str} (lz : List (Str × Tok)) (g0 : Builtin.Str.tooLong ((lz.map (·.1)).toArray.foldl (· + ·.length + x.length) 0) = false) : Gives (PySem.joinTail x (strValues lz)) (joinMade x lz) := by
  have g1 := gives_joinTail x lz g0
  match lz, g0, g1 with
  | [], _, g1 => exact g1
  | [_], _, g1 => exact g1
  | _ :: _ :: _, _, g1 => exact g1
section
variable {prog : Program} {w : World} {A : Around} {E : Value → Shared → Prop} {s : Shared}
theorem join_rev {it l : Addr} {items : Array Value} {ys : List Str} {x : Str} {t : Tok} {Q : Value → Shared → Prop} (hh : A.handled = none) (hit : s.heap.IsRevIter it l ((items.size : Int) - 1)) (hl : s.heap.IsList l items) (hne : l ≠ it) (hn : items.size ≤ sizeLine)
    (hy : StrsAre items.toList ys) (hok : (ys.map (·.length)).sum + ys.length * x.length ≤ 16777216)
    (hq : ∀ (h' : Heap) t' k, (∀ b o, b ≠ it → s.heap.get? b = some o → h'.get? b = some o) → Q (.str (Txt.join x ys.reverse) t') { s with heap := h', toks := k }) :
    wpAny (model prog w) A (call (.builtin "str.join") [.str x t, .ref it]) Q E s := by
  refine wpAny_call (codeAny_call_builtin F.slot_str_join.plain F.entry_str_join (F.slot_str_join.check _ _ _ _ _ _ _ _ (typeIs_str _ _ _) (F.args_str_join_2 _ _) ?_))
  rw [PySem.join_tree_other]
  refine wpAny_bind (wpAny_typeOf hit.typeIs ?_)
  show wpAny _ A.in1 ((pyIter (.ref it)).tryCatch _ >>= fun i => collect i >>= fun items => PySem.joinTail x items) _ _ s
  refine wpAny_bind (wpAny_tryCatch (wpAny_pyIter_revIter hit ?_))
  refine wpAny_bind (RT.collect_rev (A := A.in1) hh hit hl hne hn fun h' tk acc hk hacc => ?_)
  have hr : acc.toList = items.toList.reverse := by
    apply List.ext_getElem?
    intro j
    by_cases hj : j < items.size
    · have h1 : j < acc.size := by rw [hacc.1]; exact hj
      have e1 : acc.toList[j]? = some acc[j] := by rw [Array.getElem?_toList, Array.getElem?_eq_getElem h1]
      have e2 := hacc.2 j acc[j] (Array.getElem?_eq_getElem h1)
      rw [e1, List.getElem?_reverse (by simpa using hj)] <;> simpa using e2.symm
    · rw [List.getElem?_eq_none (by rw [Array.length_toList, hacc.1]; omega), List.getElem?_eq_none (by rw [List.length_reverse, Array.length_toList]; omega)]
  obtain ⟨vals, hv, ht⟩ := strsAre_values hy
  have hl2 : acc.toList = strValues vals.reverse := by
    rw [hr, hv]
    show (List.map _ vals).reverse = List.map _ vals.reverse
    rw [List.map_reverse]
  rw [hl2]
  have hok2 : (((vals.reverse).map (·.1)).map (·.length)).sum + ((vals.reverse).map (·.1)).length * x.length ≤ 16777216 := by
    rw [List.map_reverse, ht, List.map_reverse, List.sum_reverse, List.length_reverse]
    exact hok
  have g0 := joinOk_of hok2
  unfold JoinOk at g0
  rw [Bool.not_eq_true'] at g0
  refine Hid.gives_join vals.reverse g0 prog w A (wants Q E) { s with heap := h', toks := tk } (post_join vals.reverse ⟨joinFit_length g0, fun t' k => ?_⟩)
  rw [List.map_reverse, ht]
  exact hq h' t' k hk
end
/-- x.join(reversed(xs)), xs a list of texts -/
def tJoinRev (K : PySem.W.Frag) (to te : TE) : TE := fun σ H Q => to σ H fun v H1 => ∃ x, v = .str x ∧ te σ H1 fun y H2 => ∃ (a : Addr) (ys : List Str), y = .ref a ∧ SqL K H2 a (ys.map V.str) ∧ (ys.map (·.length)).sum + ys.length * x.length ≤ 16777216 ∧ Q (.str (Txt.join x ys.reverse)) H2
theorem pe_joinRev {X : Cx} {o e : Expr} {to te : TE} {apos pos p2 pos2 : Pos} (hc : X.calm = true) (hg2 : Gl X "reversed") (hm2 : X.mg "reversed" = none) (ho : PE X o to) (he : PE X e te)
    (hs : starEach [e] X.env = (false, eval e X.env) :: starEach [] X.env := by rfl)
    (hs2 : starEach [.Call (.Name "reversed" p2) [e] [] pos2] X.env = [(false, eval (.Call (.Name "reversed" p2) [e] [] pos2) X.env)] := by rfl)
    (hbase : attributeBase o "join" X.env (eval o X.env) = eval o X.env := by rfl) (hline : (apos.endLine == pos.line) = true := by rfl) :
    PE X (.Call (.Attribute o "join" apos) [.Call (.Name "reversed" p2) [e] [] pos2] [] pos) (tJoinRev X.K to te) := by
  refine ⟨fun pins s σ H Q I h => ?_⟩
  refine PySem.Call_method1 hbase hs2 hline (thn (ho.run pins s σ H _ I h) fun v s1 ⟨x0, H1, I1, r1, x, q1, h1⟩ => ?_)
  subst q1
  obtain ⟨t, rfl⟩ := _root_.id r1
  refine ⟨"str", _, F.plainAttrs_str, F.slot_str_join, F.type_str_join, typeIs_str _ _ _, (fun _ e => nomatch e), Calls.callWith_builtin rfl (Calls.evalArgs_plain (Calls.spliced_cons ?_))⟩
  refine Call_ (ld_blt I1 hg2 hm2 boot_reversed (callWith_type1 (args_cons (thn (he.run pins s1 σ H1 _ I1 h1) fun u s2 ⟨y, H2, I2, r2, q2⟩ => args_nil ?_) hs) hs rfl))
  obtain ⟨a, ys, rfl, hq, hz, q⟩ := q2
  obtain rfl : u = Value.ref a := r2
  obtain ⟨its, rv, p', hn⟩ := I2.list hq
  refine call_reversed_list p'.isList (Calls.spliced_nil ?_)
  have k0 : ∀ b ob, s2.heap.get? b = some ob → (s2.heap.push (revObj a ((its.toArray.size : Int) - 1))).get? b = some ob := fun b ob e => Heap.get?_push_of_some _ e
  have I3 : Inv X pins σ H2 { s2 with heap := s2.heap.push (revObj a ((its.toArray.size : Int) - 1)) } := I2.kept (t' := s2.toks) k0
  obtain ⟨f0, f1, f2, f3, f4, f5⟩ := I2.fpOk (H' := H2) (b := s2.heap.objs.size) (Nat.le_refl _) (I2.hok.fresh (Nat.le_refl _))
  have hl := p'.isList
  obtain ⟨ol, hol, _⟩ := _root_.id hl
  have hne : a ≠ s2.heap.objs.size := Nat.ne_of_lt (Heap.lt_size hol)
  refine join_rev (s := { s2 with heap := s2.heap.push (revObj a ((its.toArray.size : Int) - 1)) }) (ys := ys) (I2.ok.hd hc) ⟨_, Heap.get?_push_size _ rfl, rfl, rfl⟩ (hl.push _) hne (by rw [List.size_toArray, ← rv.length]; exact hn) (by rw [List.toList_toArray]; exact strs_of_vals rv) hz fun h' t' k hk => ?_
  exact ⟨.str _, H2, I3.turned (t' := k) (fun b ob hb e => hk b ob hb e) f0 f1 f3 f4 f5, ⟨t', rfl⟩, q⟩
end Hid

namespace Hid
open PySem
/-! texts as lists of signs: n 110, b 98, y 121 -/
abbrev tx (l : List Nat) : Str := ⟨l.toArray⟩
theorem tx_cps (z : Str) : tx z.cps.toList = z := by cases z; simp [tx]
theorem tx_inj {a c : List Nat} (h : tx a = tx c) : a = c := by
  have := congrArg (fun z : Str => z.cps.toList) h
  simpa [tx] using this
def RowL (l : List Nat) : Prop := (1 ≤ l.length ∧ l.length ≤ 8) ∧ ∀ c ∈ l, c = 110 ∨ c = 98 ∨ c = 121
/-! the count of a sign -/
theorem occ_count (x : Str) (c : Nat) : ∀ (n a : Nat) (st : Array Nat × Nat), a + n = x.length + 1 → st.2 ≤ a → st.1.size ≤ a →
    (forIn (List.range' a n) st (StrLaws.occBody x ⟨#[c]⟩ x.length (x.length + 1))).run.fst.size = st.1.size + (x.cps.toList.drop a).count c := by
  intro n
  induction n with
  | zero =>
    intro a st h1 _ _
    have : x.cps.toList.drop a = [] := List.drop_eq_nil_of_le (by simp only [Array.length_toList]; show x.length ≤ a; omega)
    rw [this]
    rfl
  | succ n ih =>
    intro a st h1 h2 h3
    rw [List.range'_succ, List.forIn_cons]
    have hs := StrLaws.subAt_one x c a
    by_cases hc : x.cps.toList[a]? = some c
    · obtain ⟨q1, q2⟩ := hs.mpr hc
      have hlt : a < x.cps.toList.length := (List.getElem?_eq_some_iff.mp hc).1
      have e : x.cps.toList.drop a = c :: x.cps.toList.drop (a + 1) := by
        rw [List.drop_eq_getElem_cons hlt, (List.getElem?_eq_some_iff.mp hc).2]
      unfold StrLaws.occBody
      rw [if_pos ⟨⟨⟨by omega, h2⟩, q1⟩, q2⟩]
      have := ih (a + 1) (st.1.push a, a + (⟨#[c]⟩ : Str).length) (by omega) (Nat.le_refl _) (by rw [Array.size_push]; omega)
      refine Eq.trans this ?_
      rw [e, List.count_cons_self]
      show (st.1.push a).size + _ = _
      rw [Array.size_push]
      omega
    · have hn : ¬ (a + (⟨#[c]⟩ : Str).length ≤ x.length ∧ Builtin.Str.subAt x ⟨#[c]⟩ a = true) := fun h => hc (hs.mp h)
      unfold StrLaws.occBody
      rw [if_neg fun h => hn ⟨h.1.2, h.2⟩]
      have := ih (a + 1) (st.1, st.2) (by omega) (by show st.2 ≤ a + 1; omega) (by show st.1.size ≤ a + 1; omega)
      refine Eq.trans this ?_
      by_cases hlt : a < x.cps.toList.length
      · have e : x.cps.toList.drop a = x.cps.toList[a] :: x.cps.toList.drop (a + 1) := List.drop_eq_getElem_cons hlt
        rw [e, List.count_cons_of_ne]
        intro z
        exact hc (by rw [List.getElem?_eq_getElem hlt, z])
      · rw [List.drop_eq_nil_of_le (by omega), List.drop_eq_nil_of_le (by omega)]
theorem count_one (x : Str) (c : Nat) : Txt.count x ⟨#[c]⟩ = (x.cps.toList.count c : Int) := by
  unfold Txt.count
  rw [StrLaws.occ_eq, Array.length_toList, occ_count x c _ 0 (#[], 0) (by omega) (Nat.le_refl _) (Nat.zero_le _)]
  simp
/-! lists of signs joined -/
def sg1 (c : Nat) : Str := ⟨#[c]⟩
theorem join_one (l : List Nat) : Txt.join (tx []) (l.map sg1) = tx l := by
  show Builtin.Str.glued _ _ = _
  rw [StrLaws.glued_eq_join]
  induction l with
  | nil => rfl
  | cons c r ih =>
    cases r with
    | nil => rfl
    | cons d r =>
      show Str.join (tx []) (sg1 c :: sg1 d :: r.map sg1) = _
      have e : Str.join (tx []) (sg1 c :: sg1 d :: r.map sg1) = sg1 c ++ tx [] ++ Str.join (tx []) ((d :: r).map sg1) := rfl
      rw [e, ih]
      show (⟨(#[c] ++ #[]) ++ (d :: r).toArray⟩ : Str) = ⟨(c :: d :: r).toArray⟩
      simp
theorem sg1_len (l : List Nat) : ((l.map sg1).map (·.length)).sum = l.length := by
  induction l with
  | nil => rfl
  | cons c r ih =>
    show (sg1 c).length + ((r.map sg1).map (·.length)).sum = r.length + 1
    rw [ih]
    show 1 + r.length = _
    omega
/-! the mirror -/
def tw (m s : Nat) : Nat := if m = 98 then (if s = 110 then 121 else 110) else s
def turned (row half : List Nat) : List Nat := List.zipWith tw row half
def rb (s t : Nat) : Nat := if s = t then s else 98
def rowBy (a o : List Nat) : List Nat := List.zipWith rb a o
def sgn (k : Nat) : Nat := if k % 2 = 0 then 110 else 121
def lesR : List Nat → Nat → List Nat
  | [], _ => []
  | c :: r, k => if c = 98 then sgn k :: lesR r (k / 2) else c :: lesR r k
def lesser (row : List Nat) (k : Nat) : List Nat := (lesR row.reverse k).reverse
def many (row : List Nat) : Nat := 2 ^ (row.count 98 - 1)
def part (row : List Nat) (k : Nat) : List Nat × List Nat := (lesser row k, turned row (lesser row k))
def grow (c : Nat) (p : List Nat × List Nat) : List (List Nat × List Nat) :=
  if c ≠ 98 then [(p.1 ++ [c], p.2 ++ [c])] else (p.1 ++ [110], p.2 ++ [121]) :: (if p.1 ≠ p.2 then [(p.1 ++ [121], p.2 ++ [110])] else [])
def allP (row : List Nat) : List (List Nat × List Nat) := row.foldl (fun ps c => ps.flatMap (grow c)) [([], [])]
theorem allP_snoc (r : List Nat) (c : Nat) : allP (r ++ [c]) = (allP r).flatMap (grow c) := by
  unfold allP
  rw [List.foldl_append]
  rfl
theorem lesR_len : ∀ (r : List Nat) (k : Nat), (lesR r k).length = r.length
  | [], _ => rfl
  | c :: r, k => by
    unfold lesR
    split <;> simp [lesR_len]
theorem lesser_len (row : List Nat) (k : Nat) : (lesser row k).length = row.length := by
  unfold lesser
  rw [List.length_reverse, lesR_len, List.length_reverse]
theorem turned_len (row half : List Nat) (h : half.length = row.length) : (turned row half).length = row.length := by
  unfold turned
  rw [List.length_zipWith, h, Nat.min_self]
theorem lesser_b (r : List Nat) (k : Nat) : lesser (r ++ [98]) k = lesser r (k / 2) ++ [sgn k] := by
  unfold lesser
  rw [List.reverse_append]
  show (lesR (98 :: r.reverse) k).reverse = _
  rw [show lesR (98 :: r.reverse) k = sgn k :: lesR r.reverse (k / 2) by conv => lhs; unfold lesR; rw [if_pos rfl]]
  rw [List.reverse_cons]
theorem lesser_o (r : List Nat) (c k : Nat) (h : c ≠ 98) : lesser (r ++ [c]) k = lesser r k ++ [c] := by
  unfold lesser
  rw [List.reverse_append]
  show (lesR (c :: r.reverse) k).reverse = _
  rw [show lesR (c :: r.reverse) k = c :: lesR r.reverse k by conv => lhs; unfold lesR; rw [if_neg h]]
  rw [List.reverse_cons]
theorem turned_snoc (r h : List Nat) (c x : Nat) (e : h.length = r.length) : turned (r ++ [c]) (h ++ [x]) = turned r h ++ [tw c x] := by
  unfold turned
  rw [List.zipWith_append e.symm]
  rfl
theorem rowBy_snoc (a o : List Nat) (x y : Nat) (e : a.length = o.length) : rowBy (a ++ [x]) (o ++ [y]) = rowBy a o ++ [rb x y] := by
  unfold rowBy
  rw [List.zipWith_append e]
  rfl
theorem part_b (r : List Nat) (k : Nat) : part (r ++ [98]) k = ((part r (k / 2)).1 ++ [sgn k], (part r (k / 2)).2 ++ [tw 98 (sgn k)]) := by
  unfold part
  rw [lesser_b, turned_snoc _ _ _ _ (lesser_len _ _)]
theorem part_o (r : List Nat) (c k : Nat) (h : c ≠ 98) : part (r ++ [c]) k = ((part r k).1 ++ [c], (part r k).2 ++ [c]) := by
  unfold part
  rw [lesser_o _ _ _ h, turned_snoc _ _ _ _ (lesser_len _ _)]
  unfold tw
  rw [if_neg h]
/-- two b and more: turned is another -/
theorem turned_ne : ∀ (r h : List Nat), h.length = r.length → 98 ∈ r → h ≠ turned r h
  | [], _, _, m => nomatch m
  | c :: r, [], e, _ => nomatch e
  | c :: r, x :: h, e, m => by
    intro z
    have z' : x :: h = tw c x :: turned r h := z
    injection z' with z1 z2
    rcases List.mem_cons.mp m with q | q
    · subst q
      unfold tw at z1
      rw [if_pos rfl] at z1
      split at z1 <;> omega
    · exact turned_ne r h (by simpa using e) q z2
theorem part_no_b (r : List Nat) (k : Nat) (h : r.count 98 = 0) : part r k = (r, r) := by
  have hm : 98 ∉ r := List.count_eq_zero.mp h
  have e1 : ∀ (l : List Nat) (k : Nat), 98 ∉ l → lesR l k = l := by
    intro l
    induction l with
    | nil => intros; rfl
    | cons c l ih =>
      intro k m
      rw [List.mem_cons, not_or] at m
      unfold lesR
      rw [if_neg (fun z => m.1 z.symm), ih k m.2]
  have e2 : ∀ (l : List Nat), 98 ∉ l → turned l l = l := by
    intro l
    induction l with
    | nil => intros; rfl
    | cons c l ih =>
      intro m
      rw [List.mem_cons, not_or] at m
      show tw c c :: turned l l = _
      rw [ih m.2]
      unfold tw
      rw [if_neg (fun z => m.1 z.symm)]
  unfold part lesser
  rw [e1 _ _ (by simpa using hm), List.reverse_reverse, e2 _ hm]
theorem range_two (m : Nat) : List.range (2 * m) = (List.range m).flatMap fun k => [2 * k, 2 * k + 1] := by
  induction m with
  | zero => rfl
  | succ m ih =>
    rw [List.range_succ, List.flatMap_append, ← ih, show 2 * (m + 1) = 2 * m + 1 + 1 by omega, List.range_succ, List.range_succ]
    simp
theorem many_snoc (r : List Nat) (c : Nat) : many (r ++ [c]) = if c = 98 ∧ r.count 98 ≠ 0 then 2 * many r else many r := by
  unfold many
  rw [List.count_append]
  by_cases hc : c = 98
  · subst hc
    have : List.count 98 [98] = 1 := rfl
    rw [this]
    by_cases h0 : r.count 98 = 0
    · rw [if_neg (fun h => h.2 h0), h0]
    · rw [if_pos ⟨rfl, h0⟩, show r.count 98 + 1 - 1 = r.count 98 - 1 + 1 by omega, Nat.pow_succ]
      omega
  · have : List.count 98 [c] = 0 := List.count_eq_zero.mpr (by simpa using fun z => hc z.symm)
    rw [this, if_neg (fun h => hc h.1)]
    rfl
theorem sgn_two (k : Nat) : sgn (2 * k) = 110 ∧ sgn (2 * k + 1) = 121 := by
  unfold sgn
  constructor
  · rw [if_pos (by omega)]
  · rw [if_neg (by omega)]
theorem tw_b : tw 98 110 = 121 ∧ tw 98 121 = 110 := by decide
/-- the law's own list is the list by numbers -/
theorem allP_eq (row : List Nat) : allP row = (List.range (many row)).map (part row) := by
  induction h : row.length generalizing row with
  | zero =>
    have : row = [] := List.length_eq_zero_iff.mp h
    subst this
    rfl
  | succ n ih =>
    have hne : row ≠ [] := fun z => by rw [z] at h; cases h
    obtain ⟨r, c, rfl⟩ : ∃ r c, row = r ++ [c] := ⟨row.dropLast, row.getLast hne, (List.dropLast_concat_getLast hne).symm⟩
    have hr : r.length = n := by simpa using h
    rw [allP_snoc, ih r hr, many_snoc]
    by_cases hc : c = 98
    · subst hc
      by_cases h0 : r.count 98 = 0
      · rw [if_neg (fun h => h.2 h0)]
        have hm : many r = 1 := by unfold many; rw [h0]
        rw [hm]
        show grow 98 (part r 0) ++ [] = [part (r ++ [98]) 0]
        rw [part_b, part_no_b r 0 h0, List.append_nil]
        unfold grow
        rw [if_neg (by decide), if_neg (by simp)]
        rfl
      · rw [if_pos ⟨rfl, h0⟩, range_two, List.map_flatMap, List.flatMap_map]
        congr 1
        funext k
        show grow 98 (part r k) = [part (r ++ [98]) (2 * k), part (r ++ [98]) (2 * k + 1)]
        rw [part_b, part_b, show 2 * k / 2 = k by omega, show (2 * k + 1) / 2 = k by omega, (sgn_two k).1, (sgn_two k).2, tw_b.1, tw_b.2]
        have hd : (part r k).1 ≠ (part r k).2 := turned_ne r _ (lesser_len _ _) (List.count_pos_iff.mp (by omega))
        unfold grow
        rw [if_neg (by decide), if_pos hd]
    · rw [if_neg (fun h => hc h.1), List.flatMap_map, ← List.flatMap_singleton' ((List.range (many r)).map _), List.flatMap_map]
      congr 1
      funext k
      show grow c (part r k) = [part (r ++ [c]) k]
      rw [part_o _ _ _ hc]
      unfold grow
      rw [if_pos hc]
/-! order -/
theorem app_lt : ∀ (a o x y : List Nat), a.length = o.length → a < o → a ++ x < o ++ y
  | [], [], x, y, _, h => absurd h (List.lt_irrefl _)
  | [], _ :: _, _, _, e, _ => nomatch e
  | _ :: _, [], _, _, e, _ => nomatch e
  | p :: a, q :: o, x, y, e, h => by
    rcases List.cons_lt_cons_iff.mp h with h1 | ⟨h1, h2⟩
    · exact List.cons_lt_cons_iff.mpr (.inl h1)
    · exact List.cons_lt_cons_iff.mpr (.inr ⟨h1, app_lt a o x y (by simpa using e) h2⟩)
theorem app_same : ∀ (a : List Nat) (x y : Nat), x < y → a ++ [x] < a ++ [y]
  | [], x, y, h => List.cons_lt_cons_iff.mpr (.inl h)
  | p :: a, x, y, h => List.cons_lt_cons_iff.mpr (.inr ⟨rfl, app_same a x y h⟩)
/-- what the law asks of each -/
theorem part_good (row : List Nat) : (∀ k, (part row k).1.length = row.length ∧ (part row k).2.length = row.length ∧ rowBy (part row k).1 (part row k).2 = row) ∧
    (∀ k, k < many row → (part row k).1 = (part row k).2 ∨ (part row k).1 < (part row k).2) ∧ ∀ k l, k < l → l < many row → (part row k).1 < (part row l).1 := by
  induction h : row.length generalizing row with
  | zero =>
    have : row = [] := List.length_eq_zero_iff.mp h
    subst this
    refine ⟨fun k => ⟨rfl, rfl, rfl⟩, fun k _ => .inl rfl, fun k l h1 h2 => ?_⟩
    have : many [] = 1 := rfl
    omega
  | succ n ih =>
    have hne : row ≠ [] := fun z => by rw [z] at h; cases h
    obtain ⟨r, c, rfl⟩ : ∃ r c, row = r ++ [c] := ⟨row.dropLast, row.getLast hne, (List.dropLast_concat_getLast hne).symm⟩
    have hr : r.length = n := by simpa using h
    obtain ⟨g1, g2, g3⟩ := ih r hr
    rw [List.length_append] at h
    by_cases hc : c = 98
    · subst hc
      refine ⟨fun k => ?_, fun k hk => ?_, fun k l h1 h2 => ?_⟩
      · obtain ⟨q1, q2, q3⟩ := g1 (k / 2)
        rw [part_b, ← h]
        refine ⟨by simp [q1, hr], by simp [q2, hr], ?_⟩
        show rowBy (_ ++ [sgn k]) (_ ++ [tw 98 (sgn k)]) = _
        rw [rowBy_snoc _ _ _ _ (q1.trans q2.symm), q3]
        congr 2
        unfold sgn
        split <;> rfl
      · rw [part_b]
        obtain ⟨q1, q2, q3⟩ := g1 (k / 2)
        rw [many_snoc] at hk
        by_cases h0 : r.count 98 = 0
        · rw [if_neg (fun h => h.2 h0)] at hk
          have hm : many r = 1 := by unfold many; rw [h0]
          have k0 : k = 0 := by omega
          subst k0
          rw [part_no_b r _ h0]
          exact .inr (app_same r 110 121 (by decide))
        · rw [if_pos ⟨rfl, h0⟩] at hk
          rcases g2 (k / 2) (by omega) with q | q
          · exact absurd q (turned_ne r _ (lesser_len _ _) (List.count_pos_iff.mp (by omega)))
          · exact .inr (app_lt _ _ _ _ (q1.trans q2.symm) q)
      · rw [part_b, part_b]
        rw [many_snoc] at h2
        by_cases h0 : r.count 98 = 0
        · rw [if_neg (fun h => h.2 h0)] at h2
          have hm : many r = 1 := by unfold many; rw [h0]
          omega
        · rw [if_pos ⟨rfl, h0⟩] at h2
          by_cases hkl : k / 2 = l / 2
          · rw [hkl]
            have e1 : sgn k = 110 := by unfold sgn; rw [if_pos (by omega)]
            have e2 : sgn l = 121 := by unfold sgn; rw [if_neg (by omega)]
            rw [e1, e2]
            exact app_same _ _ _ (by decide)
          · exact app_lt _ _ _ _ ((g1 _).1.trans (g1 _).1.symm) (g3 _ _ (by omega) (by omega))
    · have hm : many (r ++ [c]) = many r := by rw [many_snoc, if_neg (fun h => hc h.1)]
      refine ⟨fun k => ?_, fun k hk => ?_, fun k l h1 h2 => ?_⟩
      · obtain ⟨q1, q2, q3⟩ := g1 k
        rw [part_o _ _ _ hc, ← h]
        refine ⟨by simp [q1, hr], by simp [q2, hr], ?_⟩
        show rowBy (_ ++ [c]) (_ ++ [c]) = _
        rw [rowBy_snoc _ _ _ _ (q1.trans q2.symm), q3]
        congr 2
        unfold rb
        rw [if_pos rfl]
      · rw [part_o _ _ _ hc]
        rcases g2 k (by omega) with q | q
        · left
          show _ ++ [c] = _ ++ [c]
          rw [q]
        · exact .inr (app_lt _ _ _ _ ((g1 k).1.trans (g1 k).2.1.symm) q)
      · rw [part_o _ _ _ hc, part_o _ _ _ hc]
        exact app_lt _ _ _ _ ((g1 _).1.trans (g1 _).1.symm) (g3 _ _ h1 (by omega))
end Hid

namespace Hid
open PySem PySem.Spec PyProof.Rows L2 Evl
/-- a def of the text: where it stands -/
def Df (K : PySem.W.Frag) (mg : Str → Option Value) (x : Str) (st : Stmt) (ps : List Str) : Prop := ∃ (f : Addr) (fd : FuncData), Fun K x x st f fd ∧ Binds K fd ps [] ∧ mg x = some (.ref f)
/-- .. and what it promises -/
def At (P : Program) (w : World) (K : PySem.W.Frag) (mg : Str → Option Value) (base : Heap) (x : Str) (st : Stmt) (n : Nat) (ps : List Str) (sp : Sp) : Prop :=
  ∃ (f : Addr) (fd : FuncData), Fun K x x st f fd ∧ Binds K fd ps [] ∧ mg x = some (.ref f) ∧ FnOk P w K mg base CX0 n f fd ps sp
section
variable {K : PySem.W.Frag} {σ : L2.St} {H H' : Hp} {ta tb tc te tl : TE}
theorem walk_zs {x y : Str} {n : Nat} (hn : n = min x.cps.size y.cps.size) : Walk (ZsIt x y) n (fun _ => True) (fun i G v G' => ∃ T c d, v = .ref T ∧ G T = none ∧ G' = upd G T (.tup [.str ⟨#[c]⟩, .str ⟨#[d]⟩]) ∧ x.cps[i]? = some c ∧ y.cps[i]? = some d) := by
  subst hn
  exact ⟨fun _ _ hi _ => hi, fun _ _ => Nat.le_refl _, fun _ _ _ _ _ _ q => q⟩
abbrev vs1 (l : List Nat) : List V := l.map fun c => V.str (sg1 c)
theorem vs1_str (l : List Nat) : vs1 l = (l.map sg1).map V.str := by rw [List.map_map]; rfl
/-- ''.join of a list of signs -/
theorem r_join {l : List Nat} {p : Addr} {Q : VK} (hp : SqL K H p (vs1 l)) (hl : l.length ≤ 1000000) (q : Q (.str (tx l)) H) :
    ∃ a p', ∃ ys : List Str, (V.str (tx []) : V) = .str a ∧ [V.ref p] = [V.ref p'] ∧ (SqL K H p' (ys.map V.str) ∨ SqT K H p' (ys.map V.str)) ∧ (ys.map (·.length)).sum + ys.length * a.length ≤ 16777216 ∧ Q (.str (Txt.join a ys)) H := by
  refine ⟨tx [], p, l.map sg1, rfl, rfl, .inl (by rw [← vs1_str]; exact hp), ?_, ?_⟩
  · rw [sg1_len]
    show l.length + _ * 0 ≤ 16777216
    omega
  · rw [join_one]
    exact q
theorem str1_dec (c d : Nat) : decide ((V.str (sg1 c) : V) = V.str (sg1 d)) = decide (c = d) := by
  by_cases h : c = d
  · rw [decide_eq_true h, decide_eq_true (by rw [h])]
  · rw [decide_eq_false h, decide_eq_false]
    intro z
    have z2 : sg1 c = sg1 d := V.str.inj z
    have := congrArg (fun s : Str => s.cps.toList) z2
    simp [sg1] at this
    exact h this
theorem strtx_dec (a o : List Nat) : decide ((V.str (tx a) : V) = V.str (tx o)) = decide (a = o) := by
  by_cases h : a = o
  · rw [decide_eq_true h, decide_eq_true (by rw [h])]
  · rw [decide_eq_false h, decide_eq_false]
    intro z
    exact h (tx_inj (V.str.inj z))
theorem ev_chain {r r' : R2} {x y z : V} {b b' : Bool} (ha : Ev ta σ H x) (hb : Ev tb σ H y) (hr : RV r x y H (.bl b)) (hc : b = true → Ev tc σ H z) (hr' : b = true → RV r' y z H (.bl b')) : Ev (tChain r r' ta tb tc) σ H (.bl (b && b')) := fun H1 e Q q =>
  ha H1 e _ fun H2 e2 => hb H2 (e.trans e2) _ fun H3 e3 => hr H3 ((e.trans e2).trans e3) _ fun H4 e4 => ⟨b, rfl, by
    cases b with
    | true => exact iteT (hc rfl H4 (((e.trans e2).trans e3).trans e4) _ fun H5 e5 => hr' rfl H5 ((((e.trans e2).trans e3).trans e4).trans e5) _ fun H6 e6 => q H6 ((((e2.trans e3).trans e4).trans e5).trans e6))
    | false => exact iteF (q H4 ((e2.trans e3).trans e4))⟩
theorem ev_isi {x : V} {t n : String} {b : Bool} (ha : Ev ta σ H x) (ht : ∀ H1, Ex H H1 → TyX K H1 x (.type t)) (hk : kitB t n = some b) : Ev (tCB (rIsi K) (tCons ta (tCons (tC (.ty n)) tNil))) σ H (.bl b) := fun H1 e Q q =>
  ha H1 e _ fun H2 e2 => ⟨x, .ty n, _, _, b, rfl, .ty n, ht H2 (e.trans e2), kit_ty hk, q H2 e2⟩
theorem ev_all {bs : List Bool} (h : EvL tl σ H (bs.map V.bl)) : Ev (tCB (rAll K) (tCons tl tNil)) σ H (.bl (bs.all id)) := fun H1 e Q q =>
  h H1 e _ fun p H2 hp e2 h2 => ⟨p, bs, rfl, sq_of h2, q H2 e2⟩
theorem given_true (n : Nat) (v : Nat → V) : given n (fun _ => true) v = (List.range n).map v := by
  unfold given
  rw [List.filter_eq_self.mpr fun _ _ => rfl]
theorem c_call {sp : Sp} {E : XK} {ta : TA} {vs : List V} {Q : VK} (h : EvA ta σ H vs) (k : ∀ H2, Ex H H2 → sp vs H2 Q E) : tCall sp [] E ta σ H Q := h H (Ex.refl _) _ fun H2 e2 => by
  show sp (vs ++ []) H2 Q E
  rw [List.append_nil]
  exact k H2 e2
theorem c_call1 {sp : Sp} {E : XK} {ta : TA} {vs : List V} {Q : List V → Hp → Prop} (h : EvA ta σ H vs) (k : ∀ H2, Ex H H2 → sp vs H2 (fun x H3 => Q [x] H3) E) : tCons (tCall sp [] E ta) tNil σ H Q := c_call h k
theorem tyes {T E : Hp → Prop} (h : T H) : tYes σ H (fun b H3 => if b = true then T H3 else E H3) := by
  show if true = true then T H else E H
  rw [if_pos rfl]
  exact h
theorem et_yes : EvT tYes σ H true := fun H1 _ _ q => q H1 (Ex.refl _)
/-- a comprehension over a list of pairs -/
theorem el_lcP {a : Addr} {xs : List V} {i j : Nat} {vs : List Nat} (v : Nat → V) (h : Ev tl σ H (.ref a)) (hx : SqL K H a xs) (hz : xs.length ≤ 40000)
    (hw : ∀ p q, wipe (((wipe σ vs).set i (some p)).set j (some q)) vs = wipe σ vs)
    (hp : ∀ n x, xs[n]? = some x → ∃ t p q, x = .ref t ∧ SqT K H t [p, q] ∧ Ev te (((wipe σ vs).set i (some p)).set j (some q)) H (v n)) :
    EvL (tLc (iList K tl) (gTup K 2 (gCons (gName i) (gCons (gName j) gNil))) tYes te vs) σ H ((List.range xs.length).map v) := fun H0 e Q q => h H0 e _ fun H1 e1 => ⟨a, rfl, ⟨xs, ex_l (e.trans e1) hx⟩, fun Dl hD =>
  lc_list (xs := xs) (Cw H1 (fun _ => true) v Dl) ⟨hD, Ex.new hD, upd_same⟩ (fun i H' _ p => ex_l ((e.trans e1).trans p.2.1) hx) (fun n x H' hn p => by
      obtain ⟨t, x1, x2, rfl, hT, hE⟩ := hp n x hn
      exact ⟨t, [x1, x2], rfl, ex_t ((e.trans e1).trans p.2.1) hT, rfl, x1, [x2], rfl, x2, [], rfl, rfl, hw x1 x2, cw_turn (f := fun _ => true) p (by have := (List.getElem?_eq_some_iff.mp hn).1; omega) et_yes fun _ => hE.mono (e.trans e1)⟩)
    (fun H' p => q Dl H' (fresh_back e1 p.1) (e1.trans p.2.1) (by rw [p.2.2, given_true]))⟩
/-! pairs of texts -/
def PrT (K : PySem.W.Frag) (H : Hp) (v : V) (p : List Nat × List Nat) : Prop := ∃ t, v = .ref t ∧ H t = some (.tup [.str (tx p.1), .str (tx p.2)])
abbrev Prs (K : PySem.W.Frag) (H : Hp) (vs : List V) (ps : List (List Nat × List Nat)) : Prop := Paired (PrT K H) vs ps
theorem PrT.ex {v : V} {p : List Nat × List Nat} (e : Ex H H') (h : PrT K H v p) : PrT K H' v p := let ⟨t, a, c⟩ := h; ⟨t, a, e _ _ c⟩
theorem paired_mono {α γ : Type} {F G : α → γ → Prop} (h : ∀ a b, F a b → G a b) : ∀ {l : List α} {m : List γ}, Paired F l m → Paired G l m
  | _, _, .nil => .nil
  | _, _, .cons a t => .cons (h _ _ a) (paired_mono h t)
theorem paired_app {α γ : Type} {F : α → γ → Prop} : ∀ {l l' : List α} {m m' : List γ}, Paired F l m → Paired F l' m' → Paired F (l ++ l') (m ++ m')
  | _, _, _, _, .nil, h => h
  | _, _, _, _, .cons a t, h => .cons a (paired_app t h)
theorem paired_get {α γ : Type} {F : α → γ → Prop} : ∀ {l : List α} {m : List γ}, Paired F l m → ∀ (i : Nat) (x : α), l[i]? = some x → ∃ y, m[i]? = some y ∧ F x y
  | _, _, .nil, i, x, h => by simp at h
  | _, _, .cons a t, 0, x, h => by
    cases h
    exact ⟨_, rfl, a⟩
  | _, _, .cons a t, i + 1, x, h => paired_get t i x h
theorem Prs.ex {vs : List V} {ps : List (List Nat × List Nat)} (e : Ex H H') (h : Prs K H vs ps) : Prs K H' vs ps := paired_mono (fun _ _ q => q.ex e) h
/-- a list changed: the pairs stand -/
theorem Prs.upd {vs : List V} {ps : List (List Nat × List Nat)} {D : Addr} {xs : List V} {o : HO} (hD : H D = some (.lst xs)) (h : Prs K H vs ps) : Prs K (upd H D o) vs ps := paired_mono (fun v p ⟨t, a, c⟩ => ⟨t, a, by
  rw [upd_ne]
  · exact c
  · intro z
    rw [z, hD] at c
    cases c⟩) h
def dSS (p : List Nat × List Nat) : PyData := .tuple [.str (tx p.1), .str (tx p.2)]
theorem PrT.dp {v : V} {p : List Nat × List Nat} (h : PrT K H v p) : Dp K H v (dSS p) := by
  obtain ⟨t, rfl, c⟩ := h
  exact .tup (st_of c) (.cons (.str _) (.cons (.str _) .nil))
theorem Prs.dp : ∀ {vs : List V} {ps : List (List Nat × List Nat)}, Prs K H vs ps → DpAll K H vs (ps.map dSS)
  | _, _, .nil => .nil
  | _, _, .cons a t => .cons a.dp (Prs.dp t)
end
end Hid

namespace Hid
open PySem PySem.Spec PyProof.Rows L2
/-! sets of texts: the members as a list without doubles -/
def tKey (e : Int × Value) : Str := match e.2 with | .str k _ => k | _ => Str.empty
def TGood (w : World) (e : Int × Value) : Prop := ∃ k tk, e.2 = Value.str k tk ∧ e.1 = hashStr w k
def SetT (w : World) (h : Heap) (a : Addr) (xs : List Str) : Prop :=
  ∃ o es ep t, h.get? a = some o ∧ o.ExactSet ∧ o.data = .set es ep t ∧ (∀ e ∈ es.toList, TGood w e) ∧ (es.toList.map tKey).Perm xs ∧ xs.Nodup ∧ es.size < scanBound ∧ t.fits es.size = true ∧
    Ris t.place.toList ∧ (w.params.followText "set-order" = true ∨ t.led = true)
/-- one more, where it isn't in -/
def putT (x : Str) (xs : List Str) : List Str := if x ∈ xs then xs else x :: xs
theorem SetT.keep {w : World} {h h' : Heap} {a : Addr} {xs : List Str} (R : SetT w h a xs) (k : ∀ o, h.get? a = some o → h'.get? a = some o) : SetT w h' a xs := by
  obtain ⟨o, es, ep, t, ho, r⟩ := R
  exact ⟨o, es, ep, t, k o ho, r⟩
section
variable {P : Program} {w : World} {A : Around} {E : Value → Shared → Prop} {s : Shared} {a : Addr} {xs : List Str}
theorem tElems {l : List (Int × Value)} (g : ∀ e ∈ l, TGood w e) : ElemsOf (PySem.strKind P w) l := fun e he => by
  obtain ⟨k, tk, h1, h2⟩ := g e he
  refine ⟨⟨k, ?_, h2⟩, ?_⟩ <;> rw [h1]
  · exact strKind_is P w k tk
  · rfl
theorem tIs {e : Int × Value} (g : TGood w e) (k : Str) : (PySem.strKind P w).is k e.2 = true ↔ tKey e = k := by
  obtain ⟨k0, tk, h1, _⟩ := g
  unfold tKey
  rw [h1]
  constructor
  · intro z
    obtain ⟨u, hu⟩ := Value.isStrOf_shape (show Value.isStrOf k (Value.str k0 tk) = true from z)
    injection hu
  · intro z
    subst z
    exact strKind_is P w _ tk
/-- the stores behind a laying: the table is laid anew where it is too full -/
theorem tStore {g : Bool → Sem Unit} (hg : ∀ (b : Bool) (s₁ : Shared) (Q' : Unit → Shared → Prop), Q' () s₁ → wpAny (model P w) A (g b) Q' E s₁)
    {o : Obj} {es es1 : Array (Int × Value)} {ep : Nat} {t t2 : SetTable} {ys : List Str} (ho : s.heap.get? a = some o) (hex : o.ExactSet) (hd : o.data = .set es ep t)
    (g1 : ∀ e ∈ es1.toList, TGood w e) (p1 : (es1.toList.map tKey).Perm ys) (n1 : ys.Nodup) (b1 : es1.size < scanBound) (f2 : t2.fits es1.size = true) (r2 : Ris t2.place.toList) (l2 : w.params.followText "set-order" = true ∨ t2.led = true)
    {was : Bool} {R : Option Bool → Shared → Prop} (hR : ∀ h', Heap.SameBut a s.heap h' → SetT w h' a ys → R (some true) { s with heap := h' }) :
    wpAny (model P w) A (do
        storeSet a es1 t2
        if (!was && t2.tooFull) = true then do
            g (relayAll t2 es1 (SetTable.grown es1.size)).2.2
            storeSet a (relayAll t2 es1 (SetTable.grown es1.size)).1 (relayAll t2 es1 (SetTable.grown es1.size)).2.1
            pure (some true)
          else pure (some true)) R E s := by
  have sb1 := Heap.SameBut.update s.heap a (Obj.putSet es1 t2)
  have ho1 := store_at (es' := es1) (t' := t2) ho hd
  refine wpAny_bind (wpAny_storeSet_of ho hd ?_ (fits_of_scanBound b1))
  by_cases hfull : (!was && t2.tooFull) = true
  · rw [if_pos hfull]
    obtain ⟨pm, f3, r3, l3⟩ := And.intro (relayAll_perm t2 es1 (SetTable.grown es1.size)) (And.intro (relayAll_fits t2 es1 (SetTable.grown es1.size)) (And.intro (relayAll_ris t2 es1 (SetTable.grown es1.size)) (relayAll_led t2 es1 (SetTable.grown es1.size))))
    generalize relayAll t2 es1 (SetTable.grown es1.size) = Z at pm f3 r3 l3 ⊢
    obtain ⟨es2, t3, gave⟩ := Z
    dsimp only at pm f3 r3 l3 ⊢
    have hsz : es2.size < scanBound := by
      rw [← Array.length_toList, pm.length_eq, Array.length_toList]
      exact b1
    refine wpAny_bind (hg _ _ _ (wpAny_bind (wpAny_storeSet_of ho1 rfl ?_ (fits_of_scanBound hsz))))
    exact wpAny_pure (hR _ (sb1.trans (Heap.SameBut.update _ a _)) ⟨_, es2, _, t3, store_at (es' := es2) (t' := t3) ho1 rfl, hex, rfl, fun e he => g1 e (pm.mem_iff.mp he), (pm.map tKey).trans p1, n1, hsz, f3, r3, l2.imp id fun z => l3.trans z⟩)
  · rw [if_neg hfull]
    exact wpAny_pure (hR _ sb1 ⟨_, es1, _, t2, ho1, hex, rfl, g1, p1, n1, b1, f2, r2, l2⟩)
theorem tAdd {k : Str} {tk : Tok} {Q : Bool → Shared → Prop} (R : SetT w s.heap a xs) (room : xs.length + 1 < scanBound)
    (hQ : ∀ b h', Heap.SameBut a s.heap h' → SetT w h' a (putT k xs) → Q b { s with heap := h' }) :
    wpAny (model P w) A (setAddHashed a (.str k tk) ((PySem.strKind P w).hash k)) Q E s := by
  obtain ⟨o, es, ep, t, ho, hex, hd, g, pm, nd, hb, hf, hr, hl⟩ := R
  have hkey : (PySem.strKind P w).is k (.str k tk) = true := strKind_is P w k tk
  have hsc : (Value.str k tk).scannable = true := rfl
  have hel : ElemsOf (PySem.strKind P w) es.toList := tElems g
  unfold setAddHashed setAddHashedIn
  refine wpAny_holding (wpAny_bind (wpAny_setState_of ho hd hf ?_))
  dsimp only
  rw [byScan_of hsc hb hel] <;> simp only [↓reduceIte]
  unfold setAddByScan
  refine wpAny_bind (wpAny_bind (wpAny_rule (wpAny_bind (wpAny_setScan_of hkey ho hd hf hel ?_))))
  have mem_iff : k ∈ xs ↔ ∃ e ∈ es.toList, (PySem.strKind P w).is k e.2 = true := by
    rw [← pm.mem_iff, List.mem_map]
    exact ⟨fun ⟨e, he, q⟩ => ⟨e, he, (tIs (g e he) k).mpr q⟩, fun ⟨e, he, q⟩ => ⟨e, he, (tIs (g e he) k).mp q⟩⟩
  cases hfi : List.findIdx? (fun e => (PySem.strKind P w).is k e.2) es.toList with
  | some j =>
    dsimp only
    obtain ⟨hj, pj, _⟩ := List.findIdx?_eq_some_iff_getElem.mp hfi
    have hin : k ∈ xs := mem_iff.mpr ⟨es.toList[j], List.getElem_mem hj, pj⟩
    refine wpAny_pure (wpAny_pure (hQ _ s.heap (Heap.SameBut.refl a s.heap) ?_))
    unfold putT
    rw [if_pos hin]
    exact ⟨o, es, ep, t, ho, hex, hd, g, pm, nd, hb, hf, hr, hl⟩
  | none =>
    dsimp only
    have hin : k ∉ xs := fun z => by
      obtain ⟨e, he, q⟩ := mem_iff.mp z
      have c := List.findIdx?_eq_none_iff.mp hfi e he
      rw [q] at c
      cases c
    have hput : putT k xs = k :: xs := by unfold putT; rw [if_neg hin]
    have hgw : ∀ (b : Bool) {s₁ : Shared} {Q' : Unit → Shared → Prop}, Q' () s₁ → wpAny (model P w) A (match b with | true => rule "set.scan.the-table-gave-way" | false => pure ()) Q' E s₁ := fun b s₁ Q' q => by
      cases b
      · exact wpAny_pure q
      · exact wpAny_rule q
    obtain ⟨lp, lf, lr, ll⟩ := And.intro (layNew_perm t es ((PySem.strKind P w).hash k) (.str k tk)) (And.intro (layNew_fits t es ((PySem.strKind P w).hash k) (.str k tk)) (And.intro (layNew_ris t es ((PySem.strKind P w).hash k) (.str k tk) hr) (layNew_led t es ((PySem.strKind P w).hash k) (.str k tk))))
    generalize layNew t es ((PySem.strKind P w).hash k) (.str k tk) = Z at lp lf lr ll ⊢
    obtain ⟨es1, t1, was, gave⟩ := Z
    dsimp only at lp lf lr ll ⊢
    rw [Array.toList_push] at lp
    have pc : es1.toList.Perm (((PySem.strKind P w).hash k, Value.str k tk) :: es.toList) := lp.trans (List.perm_append_singleton _ _)
    have p1 : (es1.toList.map tKey).Perm (putT k xs) := by
      rw [hput]
      exact (pc.map tKey).trans (List.Perm.cons k pm)
    have n1 : (putT k xs).Nodup := by
      rw [hput]
      exact List.nodup_cons.mpr ⟨hin, nd⟩
    have g1 : ∀ e ∈ es1.toList, TGood w e := fun e he => by
      rcases List.mem_cons.mp (pc.mem_iff.mp he) with z | z
      · rw [z]
        exact ⟨k, tk, rfl, rfl⟩
      · exact g e z
    have b1 : es1.size < scanBound := by
      rw [← Array.length_toList, pc.length_eq, List.length_cons, ← List.length_map (f := tKey), pm.length_eq]
      exact room
    have l1 : w.params.followText "set-order" = true ∨ t1.led = true := hl.imp id fun z => ll.trans z
    refine wpAny_bind (hgw _ ?_)
    split
    · refine wpAny_bind ?_
      rw [hashByValue_scannable 8 hsc]
      refine wpAny_pure (tStore (fun b s₁ Q' q => hgw b q) ho hex hd g1 p1 n1 b1 ?_ ?_ ?_ ?_)
      · first | (split <;> first | exact lf | exact SetTable.fits_plain_off lf) | exact lf
      · first | (split <;> exact lr) | exact lr
      · first | (split <;> exact l1) | exact l1
      · exact fun h' sb r => wpAny_pure (hQ _ h' sb r)
    · refine wpAny_bind (wpAny_pure ?_)
      simp only [↓reduceIte]
      exact tStore (fun b s₁ Q' q => hgw b q) ho hex hd g1 p1 n1 b1 lf lr l1 fun h' sb r => wpAny_pure (hQ _ h' sb r)
end
/-- all of a list put in, one behind the other -/
def putAll (xs : List Str) : List Str → List Str
  | [] => xs
  | y :: ys => putAll (putT y xs) ys
theorem putAll_snoc (xs : List Str) (y : Str) : ∀ ys, putAll xs (ys ++ [y]) = putT y (putAll xs ys) := by
  intro ys
  induction ys generalizing xs with
  | nil => rfl
  | cons z ys ih => exact ih (putT z xs)
theorem putT_mem {x y : Str} {xs : List Str} : y ∈ putT x xs ↔ y = x ∨ y ∈ xs := by
  unfold putT
  split
  · rename_i h
    exact ⟨.inr, fun z => z.elim (fun e => e ▸ h) id⟩
  · rw [List.mem_cons]
theorem putT_nodup {x : Str} {xs : List Str} (h : xs.Nodup) : (putT x xs).Nodup := by
  unfold putT
  split
  · exact h
  · rename_i n
    exact List.nodup_cons.mpr ⟨n, h⟩
theorem putT_len (x : Str) (xs : List Str) : (putT x xs).length ≤ xs.length + 1 := by
  unfold putT
  split
  · exact Nat.le_succ _
  · exact Nat.le_refl _
theorem putAll_mem {y : Str} : ∀ (ys xs : List Str), y ∈ putAll xs ys ↔ y ∈ xs ∨ y ∈ ys
  | [], xs => by simp [putAll]
  | z :: ys, xs => by
    show y ∈ putAll (putT z xs) ys ↔ _
    rw [putAll_mem ys, putT_mem, List.mem_cons]
    constructor
    · rintro ((h | h) | h)
      · exact .inr (.inl h)
      · exact .inl h
      · exact .inr (.inr h)
    · rintro (h | h | h)
      · exact .inl (.inr h)
      · exact .inl (.inl h)
      · exact .inr h
theorem putAll_nodup : ∀ (ys xs : List Str), xs.Nodup → (putAll xs ys).Nodup
  | [], _, h => h
  | z :: ys, xs, h => putAll_nodup ys _ (putT_nodup h)
theorem putAll_len : ∀ (ys xs : List Str), (putAll xs ys).length ≤ xs.length + ys.length
  | [], _ => Nat.le_refl _
  | z :: ys, xs => by
    have := putAll_len ys (putT z xs)
    have := putT_len z xs
    show (putAll (putT z xs) ys).length ≤ xs.length + (ys.length + 1)
    omega
section
variable {prog : Program} {w : World} {A : Around} {R : Result → Shared → Prop} {I : Addr} {fp wr : List Addr} {G : Array GenState → Array GenState → Prop} {n : Nat} {Pv : Nat → Value → Prop} {St : Nat → Shared → Prop}
theorem tFill (W : WalksS prog w A.in1 I fp wr G n Pv St) (S : Addr) (hSf : S ∉ fp) (xs : List Str) (hlen : xs.length = n) (hsm : n < 4000) (hval : ∀ i v, Pv i v → ∃ t, v = .str (xs.getD i Str.empty) t) :
    ∀ (k i : Nat) (s : Shared), n - i = k → i ≤ n → St i s → SetT w s.heap S (putAll [] (xs.take i)) →
      (∀ s', Moved (S :: wr) G s s' → SetT w s'.heap S (putAll [] xs) → R (.ok (.ret .none)) s') → codeAny (model prog w) A (.builtin "set.update.loop" ⟨[.ref S, .ref I], []⟩) R s := by
  have hSw : S ∉ wr := fun h => hSf (W.sub _ h)
  have up : ∀ b ∈ wr, b ∈ S :: wr := fun b hb => List.mem_cons_of_mem _ hb
  intro k
  induction k with
  | zero =>
    intro i s hk hi hst hS hR
    obtain rfl : i = n := by omega
    refine codeAny_builtin PyProof.Rows.F.entry_set_update_loop ?_
    rw [Around.under_plainId PyProof.Rows.F.plain_set_update_loop _] <;> show wpAny _ A.in1 (pyNext (.ref I) >>= _) _ _ s
    refine wpAny_bind (W.done s _ _ hst fun s' hm => ?_)
    show wpAny _ A.in1 (ret Value.none) _ _ s'
    rw [List.take_of_length_le (Nat.le_of_eq hlen)] at hS
    exact wpAny_pure (hR s' (hm.mono up) (hS.keep fun o e => hm.heap S _ hSw e))
  | succ k ih =>
    intro i s hk hi hst hS hR
    have hlt : i < n := by omega
    refine codeAny_builtin PyProof.Rows.F.entry_set_update_loop ?_
    rw [Around.under_plainId PyProof.Rows.F.plain_set_update_loop _] <;> show wpAny _ A.in1 (pyNext (.ref I) >>= _) _ _ s
    refine wpAny_bind (W.item i s _ _ hlt hst fun v s' hP hst' hm => ?_)
    obtain ⟨t, rfl⟩ := hval i v hP
    show wpAny _ A.in1 (holding [Value.str (xs.getD i Str.empty) t] (setAdd S (.str (xs.getD i Str.empty) t)) >>= _) _ _ s'
    refine wpAny_bind (wpAny_holding ?_) <;> unfold setAdd
    refine wpAny_holding (wpAny_bind ((PySem.strKind prog w).pyHash (k := xs.getD i Str.empty) (strKind_is _ _ _ _) ?_))
    have hroom : (putAll [] (xs.take i)).length + 1 < scanBound := by
      have h1 := putAll_len (xs.take i) []
      have h2 : (xs.take i).length ≤ i := by rw [List.length_take]; omega
      have h3 : scanBound = 4096 := rfl
      rw [List.length_nil] at h1
      omega
    refine tAdd (s := { s' with toks := s'.toks + 1 }) (hS.keep fun o e => hm.heap S _ hSw e) hroom fun b h' sb hS2 => ?_
    have hS3 : SetT w h' S (putAll [] (xs.take (i + 1))) := by
      have e : xs.take (i + 1) = xs.take i ++ [xs.getD i Str.empty] := by
        rw [List.take_add_one, List.getD_eq_getElem?_getD, List.getElem?_eq_getElem (by omega)]
        rfl
      rw [e, putAll_snoc]
      exact hS2
    refine wpAny_pure ⟨plainId_quiet PyProof.Rows.F.plain_set_update_loop _, ih (i + 1) _ (by omega) hlt (W.frame _ s' _ _ hst' (Nat.le_succ _) fun b hb o e => ?_) hS3 fun s'' hm2 hS4 => ?_⟩
    · rw [sb.2 b (fun h : b = S => hSf (by rw [← h]; exact hb))]
      exact e
    · refine hR s'' (Moved.trans W.gtrans ((hm.mono up).then_heap (Nat.le_succ _) fun b o hb e => ?_) hm2) hS4
      rw [sb.2 b (fun h : b = S => hb (by rw [h]; exact List.mem_cons_self))]
      exact e
end
/-! set(t), t a tuple of texts; sorted of a set of texts -/
abbrev newSet (led : Bool) : Obj := { cls := .type "set", dict := none, data := .set #[] 0 (.fresh 0 0 led) }
theorem newSet_ok {w : World} {h : Heap} {a : Addr} {led : Bool} (hl : w.params.followText "set-order" = true ∨ led = true) (e : h.get? a = some (newSet led)) : SetT w h a [] := by
  refine ⟨_, #[], 0, .fresh 0 0 led, e, ⟨rfl, rfl, rfl⟩, rfl, (fun e m => absurd m (by simp)), List.Perm.refl _, List.nodup_nil, (by decide), rfl, List.Pairwise.nil, hl⟩
section
variable {prog : Program} {w : World} {A : Around} {E : Value → Shared → Prop} {s : Shared}
theorem tSetNew (a : Value) {Q₁ : Value → Shared → Prop} (h : Q₁ (.ref s.heap.objs.size) { s with heap := s.heap.push (newSet (!w.params.followText "set-order")) }) :
    codeAny (model prog w) A (.call (.builtin "set.__new__") ⟨[.type "set", a], []⟩) (wants Q₁ E) s := by
  refine codeAny_of_tree ?_
  show wpAny _ A.in1 (do checkBuiltinCall "set.__new__" ⟨[.type "set", a], []⟩; again (.builtin "set.__new__" ⟨[.type "set", a], []⟩)) _ _ s
  refine wpAny_bind (wpAny_of_eq (PySem.F.newCall_set_1 a) (wpAny_pure ⟨plainId_quiet PySem.F.plain_set_new _, codeAny_builtin PySem.F.entry_set_new ?_⟩))
  rw [Around.under_plainId PySem.F.plain_set_new _] <;> unfold Builtin.«set.__new__» Builtin.Frozenset.newClass
  have hsub := sub_set_self; obtain ⟨hp, g, d, tk, os⟩ := s
  dsimp only <;> wp_walk
  refine wpAny_askSetting (wpAny_pure ?_) <;> dsimp only <;> simp only [newObj]
  exact wpAny_bind (wpAny_alloc (wpAny_pure (wpAny_pure h)))
theorem tSetOf {l : Addr} {items : Array Value} {xs : List Str} {Q : Value → Shared → Prop} (hh : A.handled = none) (hl : s.heap.IsTuple l items) (hi : StrsAre items.toList xs) (hsm : xs.length < 4000)
    (h : ∀ (h' : Heap) (tk : Nat), SetT w h' s.heap.objs.size (putAll [] xs) → (∀ b o, b < s.heap.objs.size → s.heap.get? b = some o → h'.get? b = some o) → Q (.ref s.heap.objs.size) { s with heap := h', toks := tk }) :
    wpAny (model prog w) A (call (.type "set") [.ref l]) Q E s := by
  obtain ⟨c, tl, hmro⟩ := PySem.F.called_set.mro
  have hmade := PySem.F.called_set.made; have hsub := PySem.F.called_set.sub
  refine wpAny_call (codeAny_of_tree ?_)
  show wpAny _ _ (callAny (.type "set") _) _ _ _
  refine wpAny_pure ⟨Code.quiet_builtin _ (by decide +kernel), codeAny_builtin PySem.F.entry_type_call ?_⟩
  rw [Around.under_plain (weight_type_call_type "set" [.ref l] []) rfl]
  have h1 := PySem.F.called_set.notType; have h2 := PySem.F.called_set.canCreate; have hct := PySem.F.typeCall_set_1 (.ref l)
  repeat any_goals (first | assumption | wp_step)
  refine codeAny_mono (tSetNew (.ref l) (E := E) (Q₁ := fun obj s₁ => obj = .ref s.heap.objs.size ∧ s₁ = { s with heap := s.heap.push (newSet (!w.params.followText "set-order")) }) ⟨rfl, rfl⟩) fun r s₁ hr => ?_
  cases r with
  | error e => exact hr
  | ok fl =>
    cases fl with
    | next => exact hr.elim
    | brk => exact hr.elim
    | cont => exact hr.elim
    | ret obj =>
      obtain ⟨rfl, rfl⟩ := hr
      generalize hled : (!w.params.followText "set-order") = led
      have hlo : w.params.followText "set-order" = true ∨ led = true := by
        rw [← hled]
        cases w.params.followText "set-order" <;> simp
      have hS : (s.heap.push (newSet led)).get? s.heap.objs.size = some (newSet led) := Heap.get?_push_size _ rfl
      have hT : Shared.TypeIs { s with heap := s.heap.push (newSet led) } (.ref s.heap.objs.size) "set" := ⟨_, hS, rfl⟩
      have hli := PySem.F.called_set.init.lookup; have hbi := PySem.F.called_set.init.bind (.ref s.heap.objs.size)
      repeat any_goals (first | assumption | wp_step)
      refine codeAny_mono (codeAny_call_builtin (R := wants (fun r s₂ => r = .none ∧ ∃ h' tk, s₂ = { s with heap := h', toks := tk } ∧ SetT w h' s.heap.objs.size (putAll [] xs) ∧ (∀ b o, b < s.heap.objs.size → s.heap.get? b = some o → h'.get? b = some o)) E) PySem.F.called_set.init.plain PySem.F.entry_set_init (check_set_init_1 hT ?_)) fun r₂ s₂ hr₂ => ?_
      · obtain ⟨⟨ocls, odict, odata, oslots⟩, hol, hcl, nl, hdl⟩ := hl
        simp only at hcl hdl
        subst hcl; subst hdl
        have hol' : (s.heap.push (newSet led)).get? l = some { cls := .type "tuple", dict := odict, data := .seq items nl, slots := oslots } := Heap.get?_push_of_some _ hol
        have hsls := PySem.F.sub_tuple_set; have hslf := PySem.F.sub_tuple_frozenset
        have hne : (Value.type "tuple" == Value.type "dict") = false := by decide
        have hl1 : (s.heap.push (newSet led)).IsTuple l items := ⟨_, hol', rfl, nl, rfl⟩
        unfold Builtin.«set.__init__» noKeywords Builtin.Frozenset.updateFrom
        generalize hPI : pyIter = PI
        wp_walk
        subst hPI
        refine wpAny_pyIter_tuple hl1 (wpAny_bind (wpAny_runValue ?_))
        have hlS : l < s.heap.objs.size := Heap.lt_size hol
        have hh3 : A.in1.in1.in1.handled = none := by simp [hh]
        have hneI : l ≠ (s.heap.push (newSet led)).objs.size := by
          rw [Heap.size_push]
          exact Nat.ne_of_lt (Nat.lt_succ_of_lt hlS)
        have hSf : s.heap.objs.size ∉ [(s.heap.push (newSet led)).objs.size, l] := by
          rw [Heap.size_push]
          simp only [List.mem_cons, List.not_mem_nil, or_false, not_or]
          exact ⟨Nat.ne_of_lt (Nat.lt_succ_self _), Nat.ne_of_gt hlS⟩
        have hsz : xs.length = items.size := by rw [← StrsAre.len_eq hi, Array.length_toList]
        refine tFill ((Walks.tuple hh3 _ l hneI items).toS) s.heap.objs.size hSf xs hsz (by omega) (fun i v hv => SS.strs_at hi i v (by rw [Array.getElem?_toList]; exact hv)) (items.size - 0) 0 _ (by omega) (Nat.zero_le _)
          ⟨⟨_, Heap.get?_push_size _ rfl, rfl, rfl⟩, (hl1.push _)⟩ (newSet_ok hlo (Heap.get?_push_of_some _ hS)) fun s' hm hS' => ?_
        obtain ⟨h', g', d', tk', os'⟩ := s'
        obtain rfl : g' = s.gens := hm.gens
        obtain rfl : d' = s.drawn := hm.drawn
        obtain rfl : os' = s.os := hm.os
        show wpAny _ _ _ _ _ _
        refine wpAny_pure ?_
        show wpAny _ _ (ret Value.none) _ _ _
        refine wpAny_pure ⟨rfl, h', tk', rfl, hS', fun b o hb e => hm.heap b o ?_ (Heap.get?_push_of_some _ (Heap.get?_push_of_some _ e))⟩
        simp only [List.mem_cons, List.not_mem_nil, or_false, not_or]
        refine ⟨Nat.ne_of_lt hb, ?_⟩
        rw [Heap.size_push]
        exact Nat.ne_of_lt (Nat.lt_succ_of_lt hb)
      · cases r₂ with
        | error e => exact hr₂
        | ok fl₂ =>
          cases fl₂ with
          | next => exact hr₂.elim
          | brk => exact hr₂.elim
          | cont => exact hr₂.elim
          | ret r =>
            obtain ⟨rfl, h', tk, rfl, hS', hk'⟩ := hr₂
            repeat any_goals (first | assumption | wp_step)
            exact h _ _ hS' hk'
end
end Hid

namespace Hid
open PySem PySem.Spec PyProof.Rows L2
def strLe (a b : Str) : Bool := decide (a.cps.toList ≤ b.cps.toList)
theorem str_ext {a b : Str} (h : a.cps.toList = b.cps.toList) : a = b := by
  cases a; cases b
  simp at h
  simpa using h
/-- rising, no two alike -/
abbrev Rise (ys : List Str) : Prop := ys.Pairwise fun a b => a.cps.toList < b.cps.toList
theorem rise_of {ks : List Str} (nd : ks.Nodup) : Rise (ks.mergeSort strLe) ∧ (ks.mergeSort strLe).Perm ks := by
  have pm := List.mergeSort_perm ks strLe
  refine ⟨?_, pm⟩
  have h1 : (ks.mergeSort strLe).Pairwise fun a b => strLe a b = true := List.pairwise_mergeSort (le := strLe) (fun a b c x y => by
      unfold strLe at *
      exact decide_eq_true (List.le_trans (of_decide_eq_true x) (of_decide_eq_true y))) (fun a b => by
      unfold strLe
      rcases List.le_total a.cps.toList b.cps.toList with h | h
      · rw [decide_eq_true h]; rfl
      · rw [decide_eq_true h, Bool.or_true]) ks
  have h2 : (ks.mergeSort strLe).Nodup := pm.nodup_iff.mpr nd
  refine (List.pairwise_and_iff.mpr ⟨h1, h2⟩ : (ks.mergeSort strLe).Pairwise fun a b => strLe a b = true ∧ a ≠ b).imp fun {a b} h => ?_
  have hle : a.cps.toList ≤ b.cps.toList := of_decide_eq_true h.1
  by_cases z : a.cps.toList < b.cps.toList
  · exact z
  · exact absurd (str_ext (List.le_antisymm hle (List.not_lt.mp z))) h.2
theorem each_mono2 {α γ : Type} {R R' : α → γ → Prop} (h : ∀ a b, R a b → R' a b) : ∀ {l : List α} {m : List γ}, PySem.W.EachIs R l m → PySem.W.EachIs R' l m
  | _, _, .nil => .nil
  | _, _, .cons a t => .cons (h _ _ a) (each_mono2 h t)
theorem vals_of_strs : ∀ {us : List Value} {ys : List Str}, StrsAre us ys → Vals (ys.map V.str) us
  | _, _, .nil => .nil
  | _, _, .cons n t h => .cons ⟨t, rfl⟩ (vals_of_strs h)
theorem each_strs {R : Value → Str → Prop} (hR : ∀ v k, R v k → ∃ t, v = .str k t) : ∀ {out : List Value} {ks : List Str}, PySem.W.EachIs R out ks → StrsAre out ks
  | _, _, .nil => .nil
  | _, _, .cons h t => by
    obtain ⟨u, rfl⟩ := hR _ _ h
    exact .cons _ u (each_strs hR t)
theorem strs_each : ∀ {vs : List Value}, (∀ v ∈ vs, ∃ k t, v = Value.str k t) → ∃ ks : List Str, PySem.W.EachIs (fun v k => ∃ t, v = Value.str k t) vs ks ∧ ks = vs.map fun v => tKey (0, v)
  | [], _ => ⟨[], .nil, rfl⟩
  | v :: vs, h => by
    obtain ⟨k, t, rfl⟩ := h v List.mem_cons_self
    obtain ⟨ks, e, q⟩ := strs_each fun u hu => h u (List.mem_cons_of_mem _ hu)
    exact ⟨k :: ks, .cons ⟨t, rfl⟩ e, by rw [q]; rfl⟩
section
variable {P : Program} {w : World} {A : Around} {E : Value → Shared → Prop} {s : Shared} {a : Addr} {xs : List Str}
theorem tSorted {Q : Value → Shared → Prop} (R : SetT w s.heap a xs) (hh : A.handled = none) (hu : A.units + 64 < cLine)
    (hQ : ∀ s' p (out : Array Value) (c : Nat) (ys : List Str), (∀ b o, s.heap.get? b = some o → s'.heap.get? b = some o) → s'.gens = s.gens → s'.os = s.os → s.heap.objs.size ≤ p →
      s'.heap.get? p = some (seqObj "list" out c) → StrsAre out.toList ys → Rise ys → ys.Perm xs → Q (.ref p) s') :
    wpAny (model P w) A (call (.builtin "sorted") [.ref a]) Q E s := by
  obtain ⟨o, es, ep, t, ho, hex, hd, g, pm, nd, hb, hf, hr, hl⟩ := R
  refine Calls.call_function_entry kind_sorted plain_sorted entry_sorted (args_sorted1 _) ?_
  unfold Builtin.«sorted»
  refine wpAny_bind (m := checkCount "sorted" 1 1 _) (wpAny_pure (wpAny_bind (collect_set (A := A.in1) hh ⟨o, ho, hex.1, hd⟩ hf hb hr hl fun s1 vs k1 hz g1 o1 pv => ?_)))
  obtain ⟨ks, ek, hks⟩ := strs_each (vs := vs) fun v hv => by
    obtain ⟨e, he, q⟩ := List.mem_map.mp (pv.mem_iff.mp hv)
    obtain ⟨k, tk, h1, _⟩ := g e he
    exact ⟨k, tk, by rw [← q]; exact h1⟩
  have pk : ks.Perm xs := by
    have q := pv.map fun v => tKey (0, v)
    rw [List.map_map] at q
    rw [hks]
    exact q.trans pm
  have hvl : vs.length < 4096 := by
    rw [pv.length_eq, List.length_map, Array.length_toList]
    exact hb
  have hkl : ks.length = vs.length := ek.length.symm
  refine wpAny_bind (wpAny_newList ?_ (by rw [sizeLine_eq]; omega))
  have hoL : (s1.heap.push (seqObj "list" vs.toArray 0)).get? s1.heap.objs.size = some (seqObj "list" vs.toArray 0) := Heap.get?_push_size _ rfl
  refine wpAny_bind (wpAny_holding ?_)
  refine PySem.W.list_sort_data (s := { s1 with heap := s1.heap.push (seqObj "list" vs.toArray 0) }) (enc := fun k : Str => PyData.str k) hoL ek (each_mono2 (fun v k h => ?_) ek) ?_ ?_ (by rw [sizeLine_eq]; omega) (fun k _ => ?_) fun out hlo eo => ?_
  · obtain ⟨t, rfl⟩ := h
    exact ⟨[], .str k t, fun m => nomatch m⟩
  · exact PySem.W.AllAlike.of fun _ _ => by simp [PySem.W.alike]
  · exact PySem.W.Sortable.others fun _ => ⟨(fun z => nomatch z), (fun _ z => nomatch z)⟩
  · show A.in1.units + 1 + PyData.depth (.str k) < cLine
    have : PyData.depth (.str k) = 0 := by simp [PyData.depth]
    have h2 : A.in1.units = A.units + 1 := rfl
    omega
  · rw [PySem.W.dataLe_str (β := Str) (fun k => k)] at eo
    obtain ⟨c, hc⟩ := sortedHeap_at (vs := vs) (out := out.toArray) hoL
    obtain ⟨rs, rp⟩ := rise_of (pk.nodup_iff.mpr nd)
    refine wpAny_pure ⟨_, rfl, hQ _ s1.heap.objs.size out.toArray c (ks.mergeSort strLe) (fun b u e => ?_) g1 o1 hz hc (by rw [List.toList_toArray]; exact each_strs (fun _ _ h => h) eo) rs (rp.trans pk)⟩
    have q := k1 b u e
    have hlt := Heap.lt_size q
    show (sortedHeap (s1.heap.push (seqObj "list" vs.toArray 0)) s1.heap.objs.size vs out.toArray).get? b = some u
    rw [sortedHeap_old (Nat.ne_of_lt hlt) (by rw [size_push']; exact Nat.lt_succ_of_lt hlt)]
    exact Heap.get?_push_of_some _ q
end
/-- sorted(set(e)), e a tuple of texts -/
def tSortSet (K : PySem.W.Frag) (te : TE) : TE := fun σ H Q => te σ H fun v H1 => ∃ (a : Addr) (xs : List Str), v = .ref a ∧ SqT K H1 a (xs.map V.str) ∧ xs.length < 4000 ∧ ∀ (ys : List Str) (p : Addr), Rise ys → ys.length ≤ xs.length → (∀ x, x ∈ ys ↔ x ∈ xs) → H1 p = none → Q (.ref p) (upd H1 p (.lst (ys.map V.str)))
theorem pe_sortSet {X : Cx} {e : Expr} {te : TE} {p p2 pos pos2 : Pos} (hc : X.calm = true) (hu : X.A.units + 64 < cLine) (hg : Gl X "sorted") (hm : X.mg "sorted" = none) (hg2 : Gl X "set") (hm2 : X.mg "set" = none) (he : PE X e te)
    (hs : starEach [e] X.env = (false, eval e X.env) :: starEach [] X.env := by rfl)
    (hs2 : starEach [.Call (.Name "set" p2) [e] [] pos2] X.env = (false, eval (.Call (.Name "set" p2) [e] [] pos2) X.env) :: starEach [] X.env := by rfl) :
    PE X (.Call (.Name "sorted" p) [.Call (.Name "set" p2) [e] [] pos2] [] pos) (tSortSet X.K te) := by
  refine ⟨fun pins s σ H Q I h => ?_⟩
  refine wpAny_Call_Name_kw (ld_blt I hg hm (by decide +kernel : bootBuiltins "sorted" = some (.builtin "sorted")) ?_)
  refine callWith_builtin1 (args_cons (Call_ (ld_blt I hg2 hm2 (by decide +kernel : bootBuiltins "set" = some (.type "set")) (callWith_type1 (args_cons (thn (he.run pins s σ H _ I h) fun u s1 ⟨v, H1, I1, r1, q1⟩ => args_nil ?_) hs) hs rfl))) hs2) hs2 rfl
  obtain ⟨a, xs, ev, hq, hsm, q⟩ := q1
  subst ev
  obtain rfl : u = Value.ref a := r1
  obtain ⟨its, rv, p', hz⟩ := I1.tuple hq
  have hh := I1.ok.hd hc
  refine tSetOf hh p' (by rw [List.toList_toArray]; exact strs_of_vals rv) hsm fun h' tk hS hk => args_nil ?_
  have I2 : Inv X pins σ H1 { s1 with heap := h', toks := tk } := I1.kept (t' := tk) fun b o e => hk b o (Heap.lt_size e) e
  refine tSorted (s := { s1 with heap := h', toks := tk }) hS hh hu fun s' p3 out c ys k g o hp hget hst hri hpm => ?_
  have hn : H1 p3 = none := I2.hok.fresh hp
  have hys : ys.length ≤ sizeLine := by
    have h1 := putAll_len xs []
    rw [hpm.length_eq, sizeLine_eq]
    rw [List.length_nil] at h1
    omega
  have J : Inv X pins σ (upd H1 p3 (.lst (ys.map V.str))) { ({ s1 with heap := h', toks := tk } : Shared) with heap := s'.heap, gens := s'.gens, drawn := s'.drawn, toks := s'.toks } :=
    I2.call (ch := []) (Un.laid k hp hn) (I2.hok.laid k hp ⟨by rw [List.length_map]; exact hys, out.toList, c, vals_of_strs hst, hget⟩) (by rw [g]; exact I2.bare) (fun _ z => nomatch z)
  have e : s' = { ({ s1 with heap := h', toks := tk } : Shared) with heap := s'.heap, gens := s'.gens, drawn := s'.drawn, toks := s'.toks } := by
    have o2 : s'.os = s1.os := o
    obtain ⟨x1, x2, x3, x4, x5⟩ := s'
    dsimp only at o2 ⊢
    rw [o2]
  rw [e]
  refine ⟨.ref p3, _, J, rfl, q ys p3 hri (by have h1 := putAll_len xs []; rw [List.length_nil] at h1; rw [hpm.length_eq]; omega) (fun x => ?_) hn⟩
  rw [hpm.mem_iff, putAll_mem]
  simp
end Hid

namespace Hid
open PySem PySem.Spec PyProof.Rows L2
abbrev sgAt (h : Str) (i : Nat) : Nat := h.cps.toList.getD i 0
def prAt (h : Str) (i j : Nat) : Str := ⟨#[sgAt h i, sgAt h j]⟩
def HalfS (m : Nat) (h : Str) : Prop := h.cps.size = m ∧ ∀ c ∈ h.cps.toList, c = 110 ∨ c = 121
def fstAt (rs : List Str) (i j : Nat) (p : Str) : Option Str := rs.find? fun h => decide (prAt h i j = p)
def prs : List Str := ["nn", "ny", "yn", "yy"]
def four (rs : List Str) (i j : Nat) : Option (List Str) := match fstAt rs i j "nn", fstAt rs i j "ny", fstAt rs i j "yn", fstAt rs i j "yy" with
  | some a, some b, some c, some d => some [a, b, c, d]
  | _, _, _, _ => none
abbrev srt (hs : List Str) : List Str := hs.mergeSort strLe
abbrev Sorted (l : List Str) : Prop := l.Pairwise fun a b => a.cps.toList ≤ b.cps.toList
theorem srt_sorted (hs : List Str) : Sorted (srt hs) := by
  have h1 : (hs.mergeSort strLe).Pairwise fun a b => strLe a b = true := List.pairwise_mergeSort (le := strLe) (fun a b c x y => by
      unfold strLe at *
      exact decide_eq_true (List.le_trans (of_decide_eq_true x) (of_decide_eq_true y))) (fun a b => by
      unfold strLe
      rcases List.le_total a.cps.toList b.cps.toList with h | h
      · rw [decide_eq_true h]; rfl
      · rw [decide_eq_true h, Bool.or_true]) hs
  exact h1.imp fun h => of_decide_eq_true h
theorem rise_sorted {l : List Str} (h : Rise l) : Sorted l := h.imp fun h => List.le_of_lt h
theorem mem_srt {hs : List Str} {x : Str} : x ∈ srt hs ↔ x ∈ hs := (List.mergeSort_perm hs strLe).mem_iff
theorem srt_len (hs : List Str) : (srt hs).length = hs.length := List.length_mergeSort _
theorem find_least {p : Str → Bool} {x : Str} : ∀ {l : List Str}, Sorted l → l.find? p = some x → ∀ y ∈ l, p y = true → x.cps.toList ≤ y.cps.toList
  | [], _, h, _, _, _ => by cases h
  | z :: l, hs, h, y, hy, py => by
    rw [List.find?_cons] at h
    cases hz : p z with
    | true =>
      rw [hz] at h
      cases h
      rcases List.mem_cons.mp hy with e | e
      · rw [e]; exact List.le_refl _
      · exact (List.pairwise_cons.mp hs).1 y e
    | false =>
      rw [hz] at h
      rcases List.mem_cons.mp hy with e | e
      · rw [e, hz] at py; cases py
      · exact find_least (List.pairwise_cons.mp hs).2 h y e py
theorem find_same {p : Str → Bool} {l m : List Str} (hl : Sorted l) (hm : Sorted m) (e : ∀ x, x ∈ l ↔ x ∈ m) : l.find? p = m.find? p := by
  cases h1 : l.find? p with
  | none =>
    symm
    rw [List.find?_eq_none] at h1 ⊢
    exact fun x hx => h1 x ((e x).mpr hx)
  | some x =>
    have px := List.find?_some h1
    have mx := List.mem_of_find?_eq_some h1
    cases h2 : m.find? p with
    | none =>
      rw [List.find?_eq_none] at h2
      exact absurd px (h2 x ((e x).mp mx))
    | some y =>
      have py := List.find?_some h2
      have my := List.mem_of_find?_eq_some h2
      rw [str_ext (List.le_antisymm (find_least hl h1 y ((e y).mpr my) py) (find_least hm h2 x ((e x).mp mx) px))]
theorem four_same {l m : List Str} (hl : Sorted l) (hm : Sorted m) (e : ∀ x, x ∈ l ↔ x ∈ m) : four l = four m := by
  funext i j
  have h : ∀ p, fstAt l i j p = fstAt m i j p := fun p => find_same hl hm e
  unfold four
  rw [h, h, h, h]
def IsCross (f : Nat → Nat → Option (List Str)) (m : Nat) : Option (Nat × Nat × List Str) → Prop
  | none => ∀ i j, i < j → j < m → f i j = none
  | some (i, j, F) => i < j ∧ j < m ∧ f i j = some F ∧ ∀ i' j', i' < j' → j' < m → (i' < i ∨ i' = i ∧ j' < j) → f i' j' = none
theorem IsCross.uniq {f : Nat → Nat → Option (List Str)} {m : Nat} : ∀ {r r' : Option (Nat × Nat × List Str)}, IsCross f m r → IsCross f m r' → r = r'
  | none, none, _, _ => rfl
  | none, some (i, j, F), h, h' => by
    have := h i j h'.1 h'.2.1
    rw [h'.2.2.1] at this
    cases this
  | some (i, j, F), none, h', h => by
    have := h i j h'.1 h'.2.1
    rw [h'.2.2.1] at this
    cases this
  | some (i, j, F), some (i', j', F'), h, h' => by
    obtain ⟨a1, a2, a3, a4⟩ := h
    obtain ⟨b1, b2, b3, b4⟩ := h'
    have n1 : ¬ (i' < i ∨ i' = i ∧ j' < j) := fun z => by
      have := a4 i' j' b1 b2 z
      rw [b3] at this
      cases this
    have n2 : ¬ (i < i' ∨ i = i' ∧ j < j') := fun z => by
      have := b4 i j a1 a2 z
      rw [a3] at this
      cases this
    obtain ⟨rfl, rfl⟩ : i = i' ∧ j = j' := by omega
    rw [a3] at b3
    cases b3
    rfl
theorem IsCross.ex (f : Nat → Nat → Option (List Str)) (m : Nat) : ∃ r, IsCross f m r := by
  by_cases h : ∃ i j, i < j ∧ j < m ∧ (f i j).isSome = true
  · have dec : ∀ n, (∃ i j, i < j ∧ j < m ∧ i < n ∧ (f i j).isSome = true) → ∃ r, IsCross f m r := by
      intro n
      induction n with
      | zero => rintro ⟨i, j, _, _, h, _⟩; omega
      | succ n ih =>
        intro hx
        by_cases hn : ∃ i j, i < j ∧ j < m ∧ i < n ∧ (f i j).isSome = true
        · exact ih hn
        · have hrow : ∀ k, (∃ j, n < j ∧ j < m ∧ j < k ∧ (f n j).isSome = true) → ∃ r, IsCross f m r := by
            intro k
            induction k with
            | zero => rintro ⟨j, _, _, h, _⟩; omega
            | succ k ihk =>
              intro hy
              by_cases hk : ∃ j, n < j ∧ j < m ∧ j < k ∧ (f n j).isSome = true
              · exact ihk hk
              · obtain ⟨j, h1, h2, h3, h4⟩ := hy
                have hj : j = k := by
                  by_cases hlt : j < k
                  · exact absurd ⟨j, h1, h2, hlt, h4⟩ hk
                  · omega
                subst hj
                obtain ⟨F, hF⟩ := Option.isSome_iff_exists.mp h4
                refine ⟨some (n, j, F), h1, h2, hF, fun i' j' b1 b2 z => ?_⟩
                cases hq : f i' j' with
                | none => rfl
                | some G =>
                  exfalso
                  rcases z with z | ⟨rfl, z⟩
                  · exact hn ⟨i', j', b1, b2, z, by rw [hq]; rfl⟩
                  · exact hk ⟨j', b1, b2, z, by rw [hq]; rfl⟩
          obtain ⟨i, j, a1, a2, a3, a4⟩ := hx
          have hi : i = n := by
            by_cases hlt : i < n
            · exact absurd ⟨i, j, a1, a2, hlt, a4⟩ hn
            · omega
          subst hi
          exact hrow m ⟨j, a1, a2, a2, a4⟩
    obtain ⟨i, j, a, b, c⟩ := h
    exact dec m ⟨i, j, a, b, by omega, c⟩
  · refine ⟨none, fun i j a b => ?_⟩
    cases hq : f i j with
    | none => rfl
    | some G => exact absurd ⟨i, j, a, b, by rw [hq]; rfl⟩ h
/-- one half-row alone crosses nowhere -/
theorem four_one (h : Str) (i j : Nat) : four [h] i j = none := by
  unfold four fstAt
  have e : ∀ p : Str, [h].find? (fun x => decide (prAt x i j = p)) = if prAt h i j = p then some h else none := fun p => by
    rw [List.find?_cons]
    by_cases q : prAt h i j = p
    · rw [decide_eq_true q, if_pos q]
    · rw [decide_eq_false q, if_neg q]; rfl
  rw [e, e]
  by_cases q : prAt h i j = "nn"
  · rw [if_neg (show ¬ prAt h i j = "ny" by rw [q]; decide)]
    split <;> simp_all
  · rw [if_neg q]
theorem prAt_in {m : Nat} {h : Str} {i j : Nat} (hh : HalfS m h) (hi : i < m) (hj : j < m) : prAt h i j = "nn" ∨ prAt h i j = "ny" ∨ prAt h i j = "yn" ∨ prAt h i j = "yy" := by
  have g : ∀ k, k < m → sgAt h k = 110 ∨ sgAt h k = 121 := fun k hk => by
    have hk' : k < h.cps.toList.length := by rw [Array.length_toList, hh.1]; exact hk
    have e : sgAt h k = h.cps.toList[k] := by unfold sgAt; rw [List.getD_eq_getElem?_getD, List.getElem?_eq_getElem hk']; rfl
    rw [e]
    exact hh.2 _ (List.getElem_mem _)
  unfold prAt
  rcases g i hi with a | a <;> rcases g j hj with b | b <;> rw [a, b]
  · exact .inl rfl
  · exact .inr (.inl rfl)
  · exact .inr (.inr (.inl rfl))
  · exact .inr (.inr (.inr rfl))
theorem at_sg {m : Nat} {h : Str} {i : Nat} (hh : HalfS m h) (hi : i < m) : atI h.cps.toList (i : Int) = some (sgAt h i) := by
  have hk' : i < h.cps.toList.length := by rw [Array.length_toList, hh.1]; exact hi
  refine atI_nat ?_
  rw [List.getElem?_eq_getElem hk']
  unfold sgAt
  rw [List.getD_eq_getElem?_getD, List.getElem?_eq_getElem hk']
  rfl
theorem pr_cat (h : Str) (i j : Nat) : ((⟨#[sgAt h i]⟩ : Str) ++ (⟨#[sgAt h j]⟩ : Str)) = prAt h i j := rfl
/-- turned at a place -/
def flip1 (h : Str) (k : Nat) : Str := ⟨(h.cps.toList.set k (if sgAt h k = 110 then 121 else 110)).toArray⟩
theorem flip_half {m k : Nat} {h : Str} (hh : HalfS m h) : HalfS m (flip1 h k) := by
  refine ⟨by unfold flip1; simp; exact hh.1, fun c hc => ?_⟩
  unfold flip1 at hc
  rw [List.toList_toArray] at hc
  rcases List.mem_or_eq_of_mem_set hc with h1 | h1
  · exact hh.2 c h1
  · rw [h1]; split
    · exact .inr rfl
    · exact .inl rfl
end Hid

namespace Hid
open PySem PySem.Spec PyProof.Rows L2
/-! t[::-1] -/
theorem back_pick (xs : Array Value) : ((List.range xs.size).filterMap fun (k : Nat) => xs[(((xs.size : Int) - 1) + (k : Int) * (-1)).toNat]?).toArray = xs.toList.reverse.toArray := by
  congr 1
  have h1 : ((List.range xs.size).filterMap fun (k : Nat) => xs[(((xs.size : Int) - 1) + (k : Int) * (-1)).toNat]?) = (List.range xs.size).map fun k => xs.getD (xs.size - 1 - k) .none := by
    have : ∀ l : List Nat, (∀ k ∈ l, k < xs.size) → (l.filterMap fun (k : Nat) => xs[(((xs.size : Int) - 1) + (k : Int) * (-1)).toNat]?) = l.map fun k => xs.getD (xs.size - 1 - k) .none := by
      intro l
      induction l with
      | nil => intro _; rfl
      | cons k l ih =>
        intro h
        have hk := h k List.mem_cons_self
        have e : (((xs.size : Int) - 1) + (k : Int) * (-1)).toNat = xs.size - 1 - k := by omega
        have hlt : xs.size - 1 - k < xs.size := by omega
        rw [List.filterMap_cons, e, Array.getElem?_eq_getElem hlt, List.map_cons, ← ih fun z hz => h z (List.mem_cons_of_mem _ hz)]
        simp [Array.getD, hlt]
    exact this _ fun k hk => List.mem_range.mp hk
  rw [h1]
  apply List.ext_getElem?
  intro i
  by_cases hi : i < xs.size
  · have hlt : xs.size - 1 - i < xs.size := by omega
    rw [List.getElem?_map, List.getElem?_range hi, List.getElem?_reverse (by rw [Array.length_toList]; exact hi)]
    simp [Array.getD, hlt]
  · rw [List.getElem?_eq_none (by rw [List.length_map, List.length_range]; omega), List.getElem?_eq_none (by rw [List.length_reverse, Array.length_toList]; omega)]
section
variable {prog : Program} {w : World} {A : Around} {E : Value → Shared → Prop} {s : Shared}
theorem back_applied {sl : Addr} {vs : Value} {n : Nat} {Q : Int × Int × Nat → Shared → Prop} (hs : s.heap.IsSliceOf sl .none .none vs) (ps : IsPart vs (some (-1))) (h : Q ((n : Int) - 1, -1, n) s) :
    wpAny (model prog w) A (Builtin.Slice.sliceApplied (.ref sl) (pure (n : Int))) Q E s := by
  obtain ⟨os, hos, hcs, hds⟩ := id hs
  unfold Builtin.Slice.sliceApplied Builtin.Slice.sliceFields
  refine wpAny_bind (wpAny_bind (wpAny_field hos hds (x := .none) rfl (wpAny_bind (wpAny_field hos hds (x := .none) rfl (wpAny_bind (wpAny_field hos hds (x := vs) rfl (wpAny_pure ?_)))))))
  refine wpAny_bind (HT.slicePart_ ps ?_)
  show wpAny _ _ (if ((-1 : Int) == 0) = true then _ else _) _ _ s
  rw [if_neg (by decide)]
  refine wpAny_bind (HT.slicePart_ .none (wpAny_bind (HT.slicePart_ .none (wpAny_bind (wpAny_pure ?_)))))
  have e1 : Builtin.Slice.sliceAdjust none none (-1) (n : Int) = ((n : Int) - 1, -1) := by simp [Builtin.Slice.sliceAdjust]
  have e2 : Builtin.Slice.slicePlaces ((n : Int) - 1) (-1) (-1) = n := by
    unfold Builtin.Slice.slicePlaces
    have h1 : ¬ ((-1 : Int) > 0) := by decide
    simp only [h1, if_false]
    split
    · rw [show (-(-1) : Int) = 1 by decide, Int.ediv_one]
      omega
    · omega
  show wpAny _ _ (match Builtin.Slice.sliceAdjust none none (-1) (n : Int) with | (lo, hi) => pure (lo, (-1 : Int), Builtin.Slice.slicePlaces lo hi (-1))) _ _ s
  rw [e1]
  show wpAny _ _ (pure ((n : Int) - 1, (-1 : Int), Builtin.Slice.slicePlaces ((n : Int) - 1) (-1) (-1))) _ _ s
  rw [e2]
  exact wpAny_pure h
theorem back_item {t sl : Addr} {items : Array Value} {vs : Value} {Q : Value → Shared → Prop} (ht : IsTup s.heap t items) (hs : s.heap.IsSliceOf sl .none .none vs) (ps : IsPart vs (some (-1))) (hsz : items.size ≤ sizeLine)
    (h : Q (.ref s.heap.objs.size) { s with heap := s.heap.push { cls := .type "tuple", data := .seq items.toList.reverse.toArray } }) : wpAny (model prog w) A (getItem (.ref t) (.ref sl)) Q E s := by
  have hok : sizeOk (.seq items.toList.reverse.toArray) := by
    show items.toList.reverse.toArray.size ≤ sizeLine
    simpa using hsz
  obtain ⟨os, hos, hcs, hds⟩ := id hs
  have hTs : s.TypeIs (.ref sl) "slice" := ⟨os, hos, hcs⟩
  unfold getItem
  try with_reducible refine wpAny_holding ?_
  first | refine wpAny_bind (wpAny_pure ?_) | skip
  refine wpAny_bind (wpAny_sequenceKey ht.typeIs (by decide) ?_)
  refine wpAny_bind (wpAny_callSpecial?_slot (name := Str.ofString "__getitem__") ht.typeIs PyProof.Rows.slot_tuple_getitem (wpAny_call_entry PyProof.Rows.slot_tuple_getitem ht.typeIs entry_tuple_getitem ?_ (args_tuple_getitem _ _)))
  show wpAny _ _ (Builtin.Tuple.tupleItemsOf (.ref t) >>= _) _ _ s
  refine wpAny_bind (tupleItemsOf_ ht (wpAny_bind (wpAny_typeOf hTs ?_)))
  rw [if_pos (by decide)]
  refine wpAny_bind (back_applied hs ps ?_)
  show wpAny _ _ (if (((items.size : Int) - 1 == 0 && (-1 : Int) == 1) && items.size == items.size) = true then _ else _) _ _ s
  rw [if_neg (by intro z; rw [Bool.and_eq_true, Bool.and_eq_true] at z; exact absurd z.1.2 (by decide)), back_pick]
  first
    | exact wpAny_bind (m := Builtin.Tuple.tupleExact _) (wpAny_newObj_type (wpAny_pure ⟨_, rfl, wpAny_pure h⟩) hok)
    | exact wpAny_bind (m := Builtin.Tuple.tupleExact _) (wpAny_newObj_type (wpAny_bind (wpAny_pure (wpAny_pure ⟨_, rfl, wpAny_pure h⟩))) hok)
    | exact wpAny_bind (wpAny_bind (m := Builtin.Tuple.tupleExact _) (wpAny_newObj_type (wpAny_pure (wpAny_pure ⟨_, rfl, wpAny_pure h⟩)) hok))
    | exact wpAny_bind (wpAny_bind (m := Builtin.Tuple.tupleExact _) (wpAny_newObj_type (wpAny_pure ⟨_, rfl, wpAny_pure h⟩) hok))
/-- sorted(t), t a tuple of texts -/
theorem sorted_tupS {l : Addr} {items : Array Value} {ks : List Str} {Q : Value → Shared → Prop} (ht : IsTup s.heap l items) (hi : StrsAre items.toList ks) (hz : items.size ≤ 100000) (hu : A.units + 64 < cLine)
    (hQ : ∀ (h1 h' : Heap) (out : Array Value) (c : Nat), (∀ b o, s.heap.get? b = some o → h1.get? b = some o) → (∀ b o, h1.get? b = some o → h'.get? b = some o) → h'.get? h1.objs.size = some (seqObj "list" out c) → StrsAre out.toList (ks.mergeSort strLe) → Q (.ref h1.objs.size) { s with heap := h' }) :
    wpAny (model prog w) A (call (.builtin "sorted") [.ref l]) Q E s := by
  obtain ⟨o, ho, hc, n, hd⟩ := id ht
  refine Calls.call_function_entry kind_sorted plain_sorted entry_sorted (args_sorted1 _) ?_
  unfold Builtin.«sorted»
  have hsz : items.size ≤ sizeLine := Nat.le_trans hz (by decide)
  refine wpAny_bind (m := checkCount "sorted" 1 1 _) (wpAny_pure (wpAny_bind (wpAny_collect_seq (A := A.in1) l (.inr rfl) ho hc hd (fun h1 k1 => ?_) hsz)))
  have hlen : items.toList.length ≤ sizeLine := by rw [Array.length_toList]; exact hsz
  have ek : PySem.W.EachIs (fun v k => ∃ t, v = Value.str k t) items.toList ks := by
    clear hQ
    generalize items.toList = vs at hi
    induction hi with
    | nil => exact .nil
    | cons k t _ ih => exact .cons ⟨t, rfl⟩ ih
  have hkl : ks.length = items.toList.length := ek.length.symm
  refine wpAny_bind (wpAny_newList ?_ hlen)
  have hoL : (h1.push (seqObj "list" items.toList.toArray 0)).get? h1.objs.size = some (seqObj "list" items.toList.toArray 0) := Heap.get?_push_size _ rfl
  refine wpAny_bind (wpAny_holding ?_)
  refine PySem.W.list_sort_data (s := { s with heap := h1.push (seqObj "list" items.toList.toArray 0) }) (enc := fun k : Str => PyData.str k) hoL ek (each_mono2 (fun v k h => ?_) ek) ?_ ?_ (by rw [hkl]; exact hlen) (fun k _ => ?_) fun out hlo eo => ?_
  · obtain ⟨t, rfl⟩ := h
    exact ⟨[], .str k t, fun m => nomatch m⟩
  · exact PySem.W.AllAlike.of fun _ _ => by simp [PySem.W.alike]
  · exact PySem.W.Sortable.others fun _ => ⟨(fun z => nomatch z), (fun _ z => nomatch z)⟩
  · show A.in1.units + 1 + PyData.depth (.str k) < cLine
    have : PyData.depth (.str k) = 0 := by simp [PyData.depth]
    have h2 : A.in1.units = A.units + 1 := rfl
    omega
  · rw [PySem.W.dataLe_str (β := Str) (fun k => k)] at eo
    obtain ⟨c, hcc⟩ := sortedHeap_at (vs := items.toList) (out := out.toArray) hoL
    refine wpAny_pure ⟨_, rfl, hQ h1 _ out.toArray c k1 (fun b u q => ?_) hcc (by rw [List.toList_toArray]; exact each_strs (fun _ _ h => h) eo)⟩
    have hlt := Heap.lt_size q
    show (sortedHeap (h1.push (seqObj "list" items.toList.toArray 0)) h1.objs.size items.toList out.toArray).get? b = some u
    rw [sortedHeap_old (Nat.ne_of_lt hlt) (by rw [size_push']; exact Nat.lt_succ_of_lt hlt)]
    exact Heap.get?_push_of_some _ q
end
section
variable {X : Cx}
def tRevT (K : PySem.W.Frag) (te : TE) : TE := fun σ H Q => te σ H fun x H1 => ∃ a xs, x = .ref a ∧ SqT K H1 a xs ∧ ∀ p, H1 p = none → Q (.ref p) (upd H1 p (.tup xs.reverse))
theorem pe_revT {e : Expr} {te : TE} {k : Nat} {p1 p2 p3 pos : Pos} (he : PE X e te) : PE X (.Subscript e (.Slice none none (some (.UnaryOp .USub (.Constant (.int 1) k p1) p2)) p3) pos) (tRevT X.K te) := by
  refine ⟨fun pins s σ H Q I h => ?_⟩
  refine Subscript_ (thn (he.run pins s σ H _ I h) fun v s1 ⟨x, H1, I1, r1, a, xs, ex, hx, q⟩ => ?_)
  subst ex
  cases r1
  have hst : PO X (some (.UnaryOp .USub (.Constant (.int 1) k p1) p2)) (tPart (tUn (rU fun i => .int (-i)) (tC (.int 1)))) := po_some (pe_un un_neg pe_int)
  refine wpAny_Slice (thn (po_none.run pins s1 σ H1 (fun o H2 => o = none ∧ H2 = H1) I1 ⟨rfl, rfl⟩) fun vl s2 ⟨l, H2, I2, pl, el, e2⟩ => ?_)
  subst el e2
  refine thn (po_none.run pins s2 σ H2 (fun o H3 => o = none ∧ H3 = H2) I2 ⟨rfl, rfl⟩) fun vu s3 ⟨u, H3, I3, pu, eu, e3⟩ => ?_
  subst eu e3
  refine thn (hst.run pins s3 σ H3 (fun o H4 => o = some (-1) ∧ H4 = H3) I3 ⟨1, rfl, -1, rfl, rfl, rfl⟩) fun vs s4 ⟨o, H4, I4, ps, eo, e4⟩ => ?_
  subst eo e4
  cases pl
  cases pu
  have I5 : Inv X pins σ H4 { s4 with heap := s4.heap.push { cls := .type "slice", data := .fields #[.none, .none, vs] } } := I4.kept (t' := s4.toks) fun b ob z => Heap.get?_push_of_some _ z
  obtain ⟨its, r, ht, hz⟩ := I5.tuple hx
  show wpAny (model X.prog X.w) X.A (subscriptTail e (.Slice none none (some (.UnaryOp .USub (.Constant (.int 1) k p1) p2)) p3) (.ref a) (.ref s4.heap.objs.size)) (EP X pins σ Q) X.xe { s4 with heap := s4.heap.push { cls := .type "slice", data := .fields #[.none, .none, vs] } }
  refine tail_any (ops := [.ref a, .ref s4.heap.objs.size]) ht.typeIs (PyProof.Rows.slot_tuple_getitem.lookup) ?_ (by with_unfolding_all rfl)
  refine back_item ht (Heap.IsSliceOf.new _ .none .none vs) ps (by rw [List.size_toArray, ← r.length]; exact hz) ?_
  refine ⟨.ref _, _, I5.laid (t' := s4.toks) (o := .tup xs.reverse) (fun b ob z => Heap.get?_push_of_some _ z) (Nat.le_refl _) ?_, rfl, q _ (I5.hok.fresh (Nat.le_refl _))⟩
  refine ⟨by rw [List.length_reverse]; exact hz, its.reverse, r.reverse, ?_⟩
  rw [List.toList_toArray]
  exact IsTup.new _ _
theorem cr_sortedT (hu : X.A.units + 64 < cLine) : CallR X (.builtin "sorted") (fun vs H Q => ∃ (a : Addr) (xs : List Str), vs = [.ref a] ∧ SqT X.K H a (xs.map V.str) ∧ xs.length ≤ 100000 ∧ ∀ p, H p = none → Q (.ref p) (upd H p (.lst ((xs.mergeSort strLe).map V.str)))) := by
  intro pins s σ H vs us Q I r h
  obtain ⟨a, xs, rfl, hs, hl, q⟩ := h
  obtain ⟨its, rv, ht, hz⟩ := I.tuple hs
  rw [Vals.ref1 r]
  refine sorted_tupS (ks := xs) ht (by rw [List.toList_toArray]; exact strs_of_vals rv) (by rw [List.size_toArray, ← rv.length, List.length_map]; exact hl) hu fun h1 h' out c k1 k2 hget hst => ?_
  have I1 := I.kept (t' := s.toks) k1
  refine ⟨.ref h1.objs.size, _, I1.laid (t' := s.toks) (o := .lst ((xs.mergeSort strLe).map V.str)) k2 (Nat.le_refl _) ⟨?_, out.toList, c, vals_of_strs hst, hget⟩, rfl, q _ (I1.hok.fresh (Nat.le_refl _))⟩
  rw [List.length_map, List.length_mergeSort]
  exact Nat.le_trans hl (by decide)
end
end Hid

namespace Hid
open PySem PySem.Spec PyProof.Rows L2 Evl
theorem map_range_getD' {α : Type} (l : List α) (d : α) : (List.range l.length).map (fun n => l.getD n d) = l := by
  apply List.ext_getElem?
  intro n
  by_cases h : n < l.length
  · rw [List.getElem?_map, List.getElem?_range h, List.getElem?_eq_getElem h]
    simp [List.getD_eq_getElem?_getD, h]
  · rw [List.getElem?_eq_none (by rw [List.length_map, List.length_range]; omega), List.getElem?_eq_none (by omega)]
section
variable {K : PySem.W.Frag} {σ : L2.St} {H H' : Hp} {ta tb tc te tl : TE} {t : TT}
theorem u1 {k : Nat} {A : Around} (r : Room k A) : A.units + 1 < cLine := by have := r.un; omega
theorem ev_lenT {p : Addr} {xs : List V} (ha : Ev ta σ H (.ref p)) (h : SqT K H p xs) : Ev (tCB (rLenS K) (tCons ta tNil)) σ H (.int (xs.length : Int)) := fun H1 e Q q =>
  ha H1 e _ fun H2 e2 => ⟨p, xs, rfl, .inr (ex_t (e.trans e2) h), q H2 e2⟩
theorem ev_lenS {w : Str} (ha : Ev ta σ H (.str w)) (hw : w.length ≤ 100000) : Ev (tCB (fun xs H Q => ∃ z, xs = [V.str z] ∧ z.length ≤ sizeLine ∧ Q (.int z.length) H) (tCons ta tNil)) σ H (.int (w.length : Int)) := fun H1 e Q q =>
  ha H1 e _ fun H2 e2 => ⟨w, rfl, sz_of hw, q H2 e2⟩
def rTupOf (K : PySem.W.Frag) : List V → Hp → VK → Prop := fun xs H Q => ∃ p ys, xs = [.ref p] ∧ ((SqL K H p ys ∧ ∀ l, H l = none → Q (.ref l) (upd H l (.tup ys))) ∨ (SqT K H p ys ∧ Q (.ref p) H))
theorem eu_tupOf {xs : List V} (h : EvL tl σ H xs) : EvU (tCB (rTupOf K) (tCons tl tNil)) σ H xs := fun H1 e Q q =>
  h H1 e _ fun p H2 hp e2 h2 => ⟨p, xs, rfl, .inl ⟨sq_of h2, fun l hl => q l _ (fresh_back e2 hl) (e2.trans (Ex.new hl)) upd_same⟩⟩
theorem eu_tupOfV {p : Addr} {xs : List V} (h : Ev tl σ H (.ref p)) (hs : SqL K H p xs) : EvU (tCB (rTupOf K) (tCons tl tNil)) σ H xs := fun H1 e Q q =>
  h H1 e _ fun H2 e2 => ⟨p, xs, rfl, .inl ⟨ex_l (e.trans e2) hs, fun l hl => q l _ (fresh_back e2 hl) (e2.trans (Ex.new hl)) upd_same⟩⟩
theorem rv_catS {a b : Str} (ha : a.length ≤ 1000) (hb : b.length ≤ 1000) : RV (fun x y H Q => ∃ i j, x = .str i ∧ y = .str j ∧ i.length + j.length ≤ sizeLine ∧ Q (.str (i ++ j)) H) (.str a) (.str b) H (.str (a ++ b)) := fun H1 e Q q =>
  ⟨a, b, rfl, rfl, sz_of (by omega), q H1 (Ex.refl _)⟩
theorem rv_notN {x : V} : RV (fun x y H Q => y = .non ∧ Q (.bl (!decide (x = .non))) H) x .non H (.bl (!decide (x = .non))) := fun H1 _ _ q => ⟨rfl, q H1 (Ex.refl _)⟩
theorem rv_isN {x : V} : RV (fun x y H Q => y = .non ∧ Q (.bl (decide (x = .non))) H) x .non H (.bl (decide (x = .non))) := fun H1 _ _ q => ⟨rfl, q H1 (Ex.refl _)⟩
theorem el_slN {xs : List V} {tl th : TO} {lo hi : Option Int} (h : EvL te σ H xs) (h1 : EvO tl σ H lo) (h2 : EvO th σ H hi) : EvL (tSl (rSlL K) te tl th) σ H (cutV xs lo hi) := fun H1 e Q q =>
  h H1 e _ fun p H2 hp e2 hx => h1 H2 (e.trans e2) _ fun H3 e3 => h2 H3 ((e.trans e2).trans e3) _ fun H4 e4 => ⟨p, xs, rfl, sq_of (e4 _ _ (e3 _ _ hx)), fun r hr =>
    q r _ (fresh_back (e2.trans (e3.trans e4)) hr) ((e2.trans (e3.trans e4)).trans (Ex.new hr)) upd_same⟩
theorem ev_slS {w : Str} {tl th : TO} {lo hi : Option Int} (h : Ev te σ H (.str w)) (h1 : EvO tl σ H lo) (h2 : EvO th σ H hi) (hw : w.length ≤ 100000) : Ev (tSl rSlS te tl th) σ H (.str (cutS w lo hi)) := fun H1 e Q q =>
  h H1 e _ fun H2 e2 => h1 H2 (e.trans e2) _ fun H3 e3 => h2 H3 ((e.trans e2).trans e3) _ fun H4 e4 => ⟨w, rfl, sz_of hw, q H4 (e2.trans (e3.trans e4))⟩
theorem el_lcT {a : Addr} {xs : List V} {tl : TE} {j : Nat} {vs : List Nat} (f : Nat → Bool) (v : Nat → V) (h : Ev tl σ H (.ref a)) (hx : SqT K H a xs) (hz : xs.length ≤ 40000) (hw : ∀ x, wipe ((wipe σ vs).set j (some x)) vs = wipe σ vs)
    (ht : ∀ (i : Nat) (x : V) H1, Ex H H1 → xs[i]? = some x → EvT t ((wipe σ vs).set j (some x)) H1 (f i)) (he : ∀ (i : Nat) (x : V) H1, Ex H H1 → xs[i]? = some x → f i = true → Ev te ((wipe σ vs).set j (some x)) H1 (v i)) :
    EvL (tLc (iTup K tl) (gName j) t te vs) σ H (given xs.length f v) := fun H0 e Q q => h H0 e _ fun H1 e1 => ⟨a, rfl, ⟨xs, ex_t (e.trans e1) hx⟩, fun Dl hD =>
  lc_tup (xs := xs) (Cw H1 f v Dl) ⟨hD, Ex.new hD, upd_same⟩ (fun i H' _ p => ex_t ((e.trans e1).trans p.2.1) hx) (fun i x H' hi p => ⟨hw x, cw_turn p (by have := (List.getElem?_eq_some_iff.mp hi).1; omega) (ht i x H1 (e.trans e1) hi) (fun hf => he i x H1 (e.trans e1) hi hf)⟩)
    (fun H' p => q Dl H' (fresh_back e1 p.1) (e1.trans p.2.1) p.2.2)⟩
/-! values told by a word that stays -/
def EvP (te : TE) (σ : L2.St) (H : Hp) (P : V → Hp → Prop) : Prop := ∀ H1, Ex H H1 → ∀ Q : VK, (∀ v H2, Ex H1 H2 → P v H2 → Q v H2) → te σ H1 Q
def EvPs (ta : TA) (σ : L2.St) (H : Hp) (P : List V → Hp → Prop) : Prop := ∀ H1, Ex H H1 → ∀ Q : List V → Hp → Prop, (∀ v H2, Ex H1 H2 → P v H2 → Q v H2) → ta σ H1 Q
def TupV (K : PySem.W.Frag) (xs : List V) (v : V) (H : Hp) : Prop := ∃ a, v = .ref a ∧ SqT K H a xs
theorem TupV.ex {xs : List V} {v : V} (e : Ex H H') (h : TupV K xs v H) : TupV K xs v H' := let ⟨a, h1, h2⟩ := h; ⟨a, h1, ex_t e h2⟩
abbrev TupVs (K : PySem.W.Frag) (xss : List (List V)) (vs : List V) (H : Hp) : Prop := Paired (fun v xs => TupV K xs v H) vs xss
theorem eps_nil : EvPs tNil σ H (TupVs K []) := fun H1 _ Q q => q [] H1 (Ex.refl _) .nil
theorem eps_cons {ts : TA} {xs : List V} {xss : List (List V)} (h : EvP ta σ H (TupV K xs)) (hr : EvPs ts σ H (TupVs K xss)) : EvPs (tCons ta ts) σ H (TupVs K (xs :: xss)) := fun H1 e Q q =>
  h H1 e _ fun v H2 e2 hv => hr H2 (e.trans e2) _ fun vs H3 e3 hvs => q _ H3 (e2.trans e3) (.cons (hv.ex e3) hvs)
theorem ep_var {a : Addr} {xs : List V} (h : Ev te σ H (.ref a)) (hs : SqT K H a xs) : EvP te σ H (TupV K xs) := fun H1 e Q q => h H1 e _ fun H2 e2 => q _ H2 e2 ⟨a, rfl, ex_t (e.trans e2) hs⟩
theorem ep_new {xs : List V} (h : EvU te σ H xs) : EvP te σ H (TupV K xs) := fun H1 e Q q => h H1 e _ fun p H2 hp e2 h2 => q _ H2 e2 ⟨p, rfl, st_of h2⟩
theorem ep_rev {a : Addr} {xs : List V} (h : Ev te σ H (.ref a)) (hs : SqT K H a xs) : EvP (tRevT K te) σ H (TupV K xs.reverse) := fun H1 e Q q =>
  h H1 e _ fun H2 e2 => ⟨a, xs, rfl, ex_t (e.trans e2) hs, fun p hp => q _ _ (e2.trans (Ex.new hp)) ⟨p, rfl, st_of upd_same⟩⟩
theorem cut_whole {xs : List V} {lo hi : Option Int} (h : HT.sIx xs.length 0 lo = 0 ∧ HT.sIx xs.length xs.length hi = xs.length) : cutV xs lo hi = xs := by
  unfold cutV
  rw [h.1, h.2, List.drop_zero, Nat.sub_zero, List.take_length]
theorem ep_sl {a : Addr} {xs : List V} {tl th : TO} {lo hi : Option Int} (h : Ev te σ H (.ref a)) (hs : SqT K H a xs) (h1 : EvO tl σ H lo) (h2 : EvO th σ H hi) : EvP (tSl (rSlA K) te tl th) σ H (TupV K (cutV xs lo hi)) := fun H1 e Q q =>
  h H1 e _ fun H2 e2 => h1 H2 (e.trans e2) _ fun H3 e3 => h2 H3 ((e.trans e2).trans e3) _ fun H4 e4 => by
    have e14 : Ex H1 H4 := e2.trans (e3.trans e4)
    refine ⟨a, xs, rfl, ex_t (e.trans e14) hs, fun hw => q _ H4 e14 ⟨a, rfl, ?_⟩, fun _ p hp => q _ _ (e14.trans (Ex.new hp)) ⟨p, rfl, st_of upd_same⟩⟩
    rw [cut_whole hw]
    exact ex_t (e.trans e14) hs
theorem ep_cat {xs ys : List V} (ha : EvP ta σ H (TupV K xs)) (hb : EvP tb σ H (TupV K ys)) (hl : xs.length + ys.length ≤ 100000) : EvP (tOp (rCatA K) ta tb) σ H (TupV K (xs ++ ys)) := fun H1 e Q q =>
  ha H1 e _ fun v H2 e2 ⟨a, ea, sa⟩ => hb H2 (e.trans e2) _ fun w H3 e3 ⟨b, eb, sb⟩ => by
    subst ea eb
    refine ⟨a, b, xs, ys, rfl, rfl, ex_t e3 sa, sb, sz_of hl, fun hx => ?_, fun _ hy => ?_, fun _ _ p hp => q _ _ ((e2.trans e3).trans (Ex.new hp)) ⟨p, rfl, st_of upd_same⟩⟩
    · subst hx
      exact q _ H3 (e2.trans e3) ⟨b, rfl, sb⟩
    · subst hy
      rw [List.append_nil] at q
      exact q _ H3 (e2.trans e3) ⟨a, rfl, ex_t e3 sa⟩
theorem ep_rep {a : Addr} {xs : List V} {k : Int} (ha : Ev ta σ H (.ref a)) (hs : SqT K H a xs) (hb : Ev tb σ H (.int k)) (h0 : xs ≠ []) (hk : 2 ≤ k ∧ k ≤ 1000) (hl : xs.length ≤ 1000) : EvP (tOp (rRepT K) ta tb) σ H (TupV K (List.replicate k.toNat xs).flatten) := fun H1 e Q q =>
  ha H1 e _ fun H2 e2 => hb H2 (e.trans e2) _ fun H3 e3 => ⟨a, k, xs, rfl, rfl, ex_t ((e.trans e2).trans e3) hs, h0, hk.1, hk.2, hl, fun p hp => q _ _ ((e2.trans e3).trans (Ex.new hp)) ⟨p, rfl, st_of upd_same⟩⟩
/-! what is told of a crossing -/
def ResF (H : Hp) (v : V) : Option (List Str) → Prop
  | none => v = .non
  | some F => ∃ q, v = .ref q ∧ H q = some (.tup (F.map V.str))
def ResX (H : Hp) (v : V) : Option (Nat × Nat × List Str) → Prop
  | none => v = .non
  | some (i, j, F) => ∃ p q, v = .ref p ∧ H p = some (.tup [.int i, .int j, .ref q]) ∧ H q = some (.tup (F.map V.str))
theorem ResX.ex {v : V} : ∀ {r : Option (Nat × Nat × List Str)}, Ex H H' → ResX H v r → ResX H' v r
  | none, _, h => h
  | some (i, j, F), e, h => let ⟨p, q, h1, h2, h3⟩ := h; ⟨p, q, h1, e _ _ h2, e _ _ h3⟩
def dX : Option (Nat × Nat × List Str) → PyData
  | none => .none
  | some (i, j, F) => .tuple [.int i, .int j, .tuple (F.map PyData.str)]
theorem strs_dp : ∀ F : List Str, DpAll K H (F.map V.str) (F.map PyData.str)
  | [] => .nil
  | x :: F => .cons (.str x) (strs_dp F)
theorem ResX.dp {v : V} : ∀ {r : Option (Nat × Nat × List Str)}, ResX H v r → Dp K H v (dX r)
  | none, h => by
    cases h
    exact .non
  | some (i, j, F), h => by
    obtain ⟨p, q, rfl, h2, h3⟩ := h
    exact .tup (st_of h2) (.cons (.int _) (.cons (.int _) (.cons (.tup (st_of h3) (strs_dp F)) .nil)))
theorem four_shape {rs : List Str} {i j : Nat} {F : List Str} (h : four rs i j = some F) : ∃ a b c d, F = [a, b, c, d] := by
  unfold four at h
  split at h
  · cases h
    exact ⟨_, _, _, _, rfl⟩
  · cases h
theorem four_mem {rs : List Str} {i j : Nat} {F : List Str} (h : four rs i j = some F) : ∀ x ∈ F, x ∈ rs := by
  unfold four at h
  split at h
  · rename_i a b c d h1 h2 h3 h4
    cases h
    have g : ∀ {p : Str} {y : Str}, fstAt rs i j p = some y → y ∈ rs := fun e => List.mem_of_find?_eq_some e
    intro x hx
    simp only [List.mem_cons, List.not_mem_nil, or_false] at hx
    rcases hx with rfl | rfl | rfl | rfl
    · exact g h1
    · exact g h2
    · exact g h3
    · exact g h4
  · cases h
theorem strOk_sm {l : List Nat} (h : ∀ c ∈ l, c < 200) : PyData.strOk (tx l) = true := by
  unfold PyData.strOk; rw [Array.all_eq_true]; intro i hi
  have hi' : i < l.length := by simpa [tx] using hi
  have := h l[i] (List.getElem_mem hi')
  exact decide_eq_true (by show l[i] < 0x110000; omega)
theorem half_strOk {m : Nat} {h : Str} (hh : HalfS m h) : PyData.canLay0 (.str h) = true := by
  have e : h = tx h.cps.toList := by cases h; simp [tx]
  rw [e]
  simp [PyData.canLay0]
  exact strOk_sm fun c hc => by rcases hh.2 c hc with z | z <;> omega
theorem dX_shaped {rs : List Str} {m m2 : Nat} (hr : ∀ h ∈ rs, HalfS m2 h) : ∀ {r : Option (Nat × Nat × List Str)}, IsCross (four rs) m r → SeqAt.shaped (dX r) = true
  | none, _ => rfl
  | some (i, j, F), h => by
    have hm := four_mem h.2.2.1
    obtain ⟨a, b, c, d, rfl⟩ := four_shape h.2.2.1
    have g : ∀ x ∈ [a, b, c, d], PyData.canLay0 (.str x) = true := fun x hx => half_strOk (hr x (hm x hx))
    have ga := g a (by simp)
    have gb := g b (by simp)
    have gc := g c (by simp)
    have gd := g d (by simp)
    unfold SeqAt.shaped
    simp only [PyData.canLay0] at ga gb gc gd
    simp [dX, PyData.canLay0, PyData.canLayAll0, PyData.depth, PyData.depthAll, ga, gb, gc, gd]
end
end Hid

namespace Hid
open PySem PySem.Spec PyProof.Rows L2
/-! a code object's table, held by its form -/
def TabOk (P : Addr) (h : Heap) : Prop := ∃ ps : Array Value, h.get? P = some (PySem.W.tabObj ps) ∧ TriplesOk ps.toList
def TabX (P : Addr) : HO := .ext (TabOk P)
theorem tabX_ok {Pr : Program} {w : World} {H : Hp} {h : Heap} {P : Addr} (x : TabOk P h) : ObjOk Pr w H h P (TabX P) := by
  obtain ⟨ps, e, t⟩ := x
  exact ⟨⟨ps, e, t⟩, ⟨_, e⟩, fun h1 h2 p k => let ⟨ps, e, t⟩ := p; ⟨ps, k _ e, t⟩⟩
theorem upd_id {H : Hp} {a : Addr} {o : HO} (h : H a = some o) : upd H a o = H := by
  funext b
  by_cases e : b = a
  · rw [e, upd_same, h]
  · exact upd_ne e
section
variable {X : Cx} {pins : List (Addr × Obj)} {σ : L2.St} {H : Hp} {s : Shared}
theorem inv_code {P : Addr} {h' : Heap} {t : Nat} (I : Inv X pins σ H s) (hP : H P = some (TabX P)) (k : ∀ b o, b ≠ P → s.heap.get? b = some o → h'.get? b = some o) (hn : TabOk P h') : Inv X pins σ H { s with heap := h', toks := t } := by
  have J := I.write (x := P) (e := P) (o := TabX P) (h' := h') (t' := t) (by rw [hP]; trivial) (.inl rfl) k (let ⟨_, e, _⟩ := hn; ⟨_, e⟩) (tabX_ok hn)
  rwa [upd_id hP] at J
/-- the context of a generator expression's own frame -/
abbrev gx (X : Cx) (s : Shared) (H : Hp) (A' : Around) (cenv : Env) (fp : List Addr) (pn : List (Addr × Obj)) : Cx :=
  { X with A := A', s_0 := s, H_0 := H, env := cenv, outer := X.stack, stack := cenv :: X.stack, ex := fp, fn := fun _ => false, pn := pn, xe := fun _ _ => False }
/-- it stands at its start -/
theorem gx_start {scope : Scope} {own : List (Str × Nat)} {fp : List Addr} {A' : Around} {code : Value} {s6 : Shared} {a : Addr} {go : Obj} {m0 : Str → Option Value} (I : Inv X pins σ H s) (hN : X.N.Nodup) (ok : BlkOk X.N X.env.scope scope own) (hnc : ∀ y ∈ scope.names, y.2 ≠ .cell)
    (hfp : ∀ b ∈ fp, FpOk X pins H b ∧ b < s.heap.objs.size) (hA : A'.handled = none) (hF : A'.frames = some (genEnv scope (cloFrom X.env.cells scope.names []) s.heap.objs.size code builtinsNs X.env :: X.stack))
    (kp : ∀ b o, s.heap.get? b = some o → s6.heap.get? b = some o) (hns : s6.heap.Ns s.heap.objs.size m0) (hos : s6.os = s.os) (hb : AllBare s6.gens) (ha : s.heap.objs.size < a) (hgo : s6.heap.get? a = some go) (hgc : ∀ v, go.data ≠ .cell v) :
    Inv (gx X s H A' (genEnv scope (cloFrom X.env.cells scope.names []) s.heap.objs.size code builtinsNs X.env) fp [(a, go)]) [] (wipe σ (own.map (·.2))) H s6 := by
  have hcl : ∀ {y c}, (cloFrom X.env.cells scope.names []).lookup y = some c → scope.names.lookup y = some .free ∧ X.env.cells.lookup y = some c := fun {y c} e => by
    rcases cloFrom_mem (PySem.mem_of_lookup e) with z | ⟨z, hc⟩
    · cases z
    · refine ⟨ok.uniq _ z, ?_⟩
      have hx : ∃ d, X.env.cells.lookup y = some d := by
        rcases ok.free _ z rfl with q | q
        · exact I.ok.has _ (.inl q)
        · exact I.ok.has _ (.inr q)
      obtain ⟨d, hd⟩ := hx
      rw [hc, hd]
      rfl
  have hfr : ∀ {y}, scope.names.lookup y = some .free → ∃ c, (cloFrom X.env.cells scope.names []).lookup y = some c := fun {y} e => mem_lookup (cloFrom_has (PySem.mem_of_lookup e))
  have hcs : ∀ {y c}, X.env.cells.lookup y = some c → c < s.heap.objs.size := fun {y c} e => by
    obtain ⟨v, z⟩ := I.cell y c e
    exact z.lt
  have okG : (gx X s H A' (genEnv scope (cloFrom X.env.cells scope.names []) s.heap.objs.size code builtinsNs X.env) fp [(a, go)]).Ok := by
    refine ⟨I.ok.mod, ok.kind, I.ok.glob, rfl, Nat.le_refl _, fun y z c e1 e2 => I.ok.inj y z c (hcl e1).2 (hcl e2).2, fun y hy => ?_, (fun y c z => Bool.noConfusion (show false = true from z)), fun _ => hA, hF, .inr ⟨rfl, rfl⟩, fun b hb => ⟨Nat.ne_of_lt (hfp b hb).2, fun y c e => ?_⟩,
      I.bs, Nat.le_trans I.ok.bsz I.sz, fun b o e hb => ?_, fun b hb z => ?_, I.stack, I.stkFree⟩
    · rcases hy with hy | hy
      · exact absurd rfl (hnc _ (PySem.mem_of_lookup (show scope.names.lookup y = _ from hy)))
      · exact hfr hy
    · obtain ⟨_, _, _, _, f5, _⟩ := (hfp b hb).1
      exact f5 y c (hcl e).2
    · obtain ⟨_, _, _, f4, _, _⟩ := (hfp b hb).1
      rcases f4 with z | z
      · exact I.ok.noex b o e z
      · have h1 := Heap.lt_size e
        have h2 := I.ok.bsz
        exact Nat.lt_irrefl _ (Nat.lt_of_lt_of_le h1 (Nat.le_trans h2 z))
    · obtain ⟨_, f2, f3, _, _, _⟩ := (hfp b hb).1
      rcases List.mem_cons.mp (I.stkSub b z) with q | q
      · exact f2 q
      · exact f3 q
  have hCn : H s.heap.objs.size = none := I.hok.fresh (Nat.le_refl _)
  refine ⟨okG, hos, hb, Un.kept kp, ⟨m0, hns, fun i y av e1 e2 e3 => ?_⟩, fun y c e => ?_, hCn, fun y c e => I.freeC y c (hcl e).2, fun p hp => ?_, I.hok.kept kp, by rw [wipe_length]; exact I.len⟩
  · obtain ⟨e2, hne⟩ := wipe_some e2
    have e3' : Vis scope y := e3
    have hfree : scope.names.lookup y = some .free := by
      have no : ∀ k, (k = NameKind.local ∨ k = .cell) → scope.names.lookup y = some k → False := fun k hk e => by
        rcases ok.own _ (PySem.mem_of_lookup e) hk with q | q
        · obtain ⟨p, hp, hpy⟩ := List.mem_map.mp q
          have e5 := ok.ix p hp
          rw [show p.1 = y from hpy] at e5
          exact hne (List.mem_map.mpr ⟨p, hp, nodup_ix hN e5 e1⟩)
        · exact q (List.mem_of_getElem? e1)
      rcases e3' with q | q | q
      · exact (no _ (.inl rfl) q).elim
      · exact (no _ (.inr rfl) q).elim
      · exact q
    obtain ⟨m, _, hl⟩ := I.loc
    have up := ok.free _ (PySem.mem_of_lookup hfree) rfl
    obtain ⟨w, r, q⟩ := hl i y av e1 e2 (up.elim (fun k => .inr (.inl k)) fun k => .inr (.inr k))
    obtain ⟨c, hc⟩ := hfr hfree
    refine ⟨w, r, .inr ⟨.inr hfree, c, hc, ?_⟩⟩
    rcases q with ⟨k, _⟩ | ⟨_, c', e', z⟩
    · have k' : X.env.scope.names.lookup y = some .local := k
      rcases up with u | u <;> rw [show X.env.scope.names.lookup y = _ from u] at k' <;> cases k'
    · rw [(hcl hc).2] at e'
      cases e'
      exact z.keeps kp
  · obtain ⟨w, z⟩ := I.cell y c (hcl e).2
    exact ⟨w, z.keeps kp⟩
  · have : p = (a, go) := by simpa using hp
    subst this
    exact ⟨hgo, I.hok.fresh (Nat.le_of_lt ha), Nat.ne_of_gt ha, fun z => by
      rcases List.mem_cons.mp (I.stkSub a z) with q | q
      · have := I.lt
        rw [← q] at this
        exact Nat.lt_irrefl _ (Nat.lt_trans this ha)
      · exact I.nofs (Nat.le_of_lt ha) q, hgc⟩
end
end Hid

namespace Hid
open PySem PySem.Spec PyProof.Rows L2
/-- nothing but the generators' table and the tokens are other -/
def Near (s s' : Shared) : Prop := ∃ g t, s' = { s with gens := g, toks := t } ∧ AllBare g
theorem Near.trans {s s' s'' : Shared} (a : Near s s') (b : Near s' s'') : Near s s'' := by
  obtain ⟨g, t, rfl, _⟩ := a
  obtain ⟨g2, t2, rfl, h⟩ := b
  exact ⟨g2, t2, rfl, h⟩
theorem near_set {s : Shared} {g : Nat} {x : GenState} (h : AllBare s.gens) (hx : x.bare = true) : Near s (s.setGen g x) := ⟨_, s.toks, rfl, allBare_setGen h hx⟩
theorem inv_near {X : Cx} {pins : List (Addr × Obj)} {σ : L2.St} {H : Hp} {s s' : Shared} (I : Inv X pins σ H s) (n : Near s s') : Inv X pins σ H s' := by
  obtain ⟨g, t, rfl, h⟩ := n
  exact I.call' (ch := []) rfl Un.refl I.hok h fun b z => nomatch z
section
variable {X : Cx}
/-- what is left of a generator expression: handed out truths b; b = cont goes on, else QE; at the end QD -/
def gxR (X : Cx) (σ : L2.St) (QD : Hp → Prop) : Nat → Shared → Shared → Prop := fun _ _ s₁ => ∃ H', Inv X [] σ H' s₁ ∧ QD H'
def gxY (X : Cx) (cont : Bool) (QE : Hp → Prop) : Protocol := fun n s₀ v s kap => ∃ (b : Bool) (σ' : L2.St) (pins : List (Addr × Obj)) (H' : Hp), v = .bool b ∧ Inv X pins σ' H' s ∧ (b = cont → ∀ s'', Near s s'' → kap (.send .none) s'') ∧ (b ≠ cont → QE H')
theorem gx_loop {A : Around} {elt tg iter : Expr} {scope : Scope} {pos : Pos} {it : Addr} {J : It} {fp : List Addr} {tn : Nat → Heap → Prop} {σ : L2.St} {vs : List Nat} {g : TG} {te : TE} {cont : Bool} {QD QE : Hp → Prop} {W : Nat → Nat → Hp → Prop}
    (hA : A.over (.compLoop (.GeneratorExp elt [⟨tg, iter, [], 0⟩] scope pos) 0 (.ref it) .none X.env) [] = X.A) (hc : X.calm = true) (hpn : ∀ p ∈ X.pn, p.1 ∉ fp) (hex : X.ex = fp) (hxe : X.xe = fun _ _ => False) (hco : X.env.scope.isCoroutine = false)
    (T : Turn X.prog X.w X.K tg J fp it tn) (pg : PG X tg g) (pe : PE X elt te)
    (turn : ∀ i m H, W i m H → (J.stop i H ∧ QD H) ∨ (J.go i H ∧ ∃ Nx : Hp → Prop, (∀ H', Nx H' → ∃ m', m' < m ∧ W (i + 1) m' H') ∧ ∀ x H', J.yld i H x H' → g x (wipe σ vs) H' fun σ2 H2 => wipe σ2 vs = wipe σ vs ∧ te σ2 H2 fun y H3 => ∃ b, y = .bl b ∧ (b = cont → Nx H3) ∧ (b ≠ cont → QE H3))) :
    ∀ (m n i : Nat) (s₀ s : Shared) (H5 : Hp), m < n → Inv X [] (wipe σ vs) H5 s → tn i s.heap → (∀ b ∈ fp, H5 b = none) → W i m H5 →
      Seg (model X.prog X.w) A (fun n s₀ r s₁ => r = .ok .next ∧ gxR X (wipe σ vs) QD n s₀ s₁) (gxY X cont QE) n s₀ (.compLoop (.GeneratorExp elt [⟨tg, iter, [], 0⟩] scope pos) 0 (.ref it) .none X.env)
        ((model X.prog X.w).den (.compLoop (.GeneratorExp elt [⟨tg, iter, [], 0⟩] scope pos) 0 (.ref it) .none X.env)) [] s := by
  have fpok : ∀ {σ' : L2.St} {H' : Hp} {s' : Shared}, Inv X [] σ' H' s' → (∀ b ∈ fp, H' b = none) → ∀ b ∈ fp, FpOk X [] H' b := fun {σ' H' s'} I' hn b hb =>
    ⟨hn b hb, (I'.ok.exf b (hex ▸ hb)).1, I'.ok.exfs b (hex ▸ hb), .inl (hex ▸ hb), fun x c e => (I'.ok.exf b (hex ▸ hb)).2 x c e, fun p hp => by
      rw [List.append_nil] at hp
      exact fun z => hpn p hp (z ▸ hb)⟩
  intro m
  induction m using Nat.strongRecOn with
  | ind m ih =>
    intro n i s₀ s H5 hmn I st hn w
    show Seg _ A _ _ _ s₀ _ ((compTurn (.GeneratorExp elt [⟨tg, iter, [], 0⟩] scope pos) 0 (.ref it) .none X.env).onRaise (leaving X.env)) [] s
    rw [compTurn_gen, Sem.onRaise_eq_wrap]
    refine seg_bind_wrap (wpAny_standAt ?_)
    rcases turn i m H5 w with ⟨stop, qd⟩ | ⟨go, Nx, hNx, step⟩
    · refine seg_bind_wrap ?_
      rw [hA]
      refine wpAny_mono (T.done X rfl rfl rfl hc i [] s _ H5 (fun _ _ => False) I (fpok I hn) st stop) (fun r s1 ⟨hr, I1⟩ => ?_) fun _ _ z => z.elim
      subst hr
      exact seg_end (.ok .next) ⟨rfl, H5, I1, qd⟩
    · refine seg_bind_wrap ?_
      rw [hA]
      refine wpAny_mono (T.item X rfl rfl rfl hc i [] s _ H5 (fun _ _ => False) I (fpok I hn) st go) (fun r s1 ⟨u, hr, h1⟩ => ?_) fun _ _ z => z.elim
      subst hr
      refine seg_bind_wrap ?_
      rw [hA]
      refine wpAny_mono h1 (fun _ s2 ⟨x, H2, I2, r2, y2, st2, n2⟩ => ?_) fun _ _ z => z.elim
      have I2' := I2.pinned (fpok I2 n2) (T.obj _ _ st2)
      refine seg_bind_wrap ?_
      rw [hA]
      refine wpAny_mono (pg.run _ s2 _ H2 x u _ I2' r2 (step x H2 y2)) (fun _ s3 ⟨σ3, H3, I3, hw3, q3⟩ => ?_) fun _ _ z => by rw [hxe] at z; exact z.elim
      refine seg_bind_wrap (wpAny_tests_nil ?_)
      obtain ⟨n', rfl⟩ : ∃ n', n = n' + 1 := ⟨n - 1, by omega⟩
      have hy : ∀ v, yieldOut X.env v = yieldValue v := fun v => by simp only [yieldOut, hco, Bool.false_eq_true, if_false]
      simp only [if_true, hy]
      rw [Sem.bind_eq_wrap', Sem.bind_eq_wrap', Sem.wrap_wrap, Sem.wrap_wrap]
      refine seg_wrap ?_
      rw [hA]
      refine wpAny_mono (pe.run _ s3 σ3 H3 _ I3 q3) (fun z s4 ⟨yv, H4, I4, r4, b, hyb, qc, qe⟩ => ?_) fun _ _ z => by rw [hxe] at z; exact z.elim
      subst hyb
      obtain rfl : z = Value.bool b := r4
      refine seg_at (seg_yield rfl rfl rfl ⟨b, σ3, _, H4, rfl, I4, fun hb s'' near => ?_, qe⟩)
      obtain ⟨m', hm, w'⟩ := hNx H4 (qc hb)
      have I5 := inv_near I4 near
      have keepF : ∀ b ∈ fp, ∀ o, s2.heap.get? b = some o → s''.heap.get? b = some o ∧ H4 b = none := fun b hb o e =>
        let z := I5.pin (b, o) (List.mem_append_right _ (List.mem_append_right _ (mem_pinsAt hb e)))
        ⟨z.1, z.2.1⟩
      have hl : (wipe σ vs).length = σ3.length := by rw [← hw3, wipe_length]
      refine seg_again rfl (ih m' hm n' (i + 1) s'' s'' H4 (by omega) ((I5.unpinned (pins := [])).weak hl fun j v e => ?_) (T.keep _ _ _ st2 fun b hb o e => (keepF b hb o e).1) (fun b hb => ?_) w')
      · rw [← hw3] at e
        exact (wipe_some e).1
      · obtain ⟨o, e, _⟩ := T.obj _ _ st2 b hb
        exact (keepF b hb o e).2
/-- from the start -/
theorem gx_begin {A : Around} {elt tg iter : Expr} {scope : Scope} {pos : Pos} {it : Addr} {tn : Nat → Heap → Prop} {J : It} {fp : List Addr} {R : GenEnd} {Y : Protocol} {n : Nat} {s₀ s : Shared}
    (T : Turn X.prog X.w X.K tg J fp it tn) (st : tn 0 s.heap)
    (loop : Seg (model X.prog X.w) A R Y n s₀ (.compLoop (.GeneratorExp elt [⟨tg, iter, [], 0⟩] scope pos) 0 (.ref it) .none X.env) ((model X.prog X.w).den (.compLoop (.GeneratorExp elt [⟨tg, iter, [], 0⟩] scope pos) 0 (.ref it) .none X.env)) [] s) :
    Seg (model X.prog X.w) A R Y n s₀ (.compStart (.GeneratorExp elt [⟨tg, iter, [], 0⟩] scope pos) 0 (.ref it) .none X.env) ((model X.prog X.w).den (.compStart (.GeneratorExp elt [⟨tg, iter, [], 0⟩] scope pos) 0 (.ref it) .none X.env)) [] s := by
  show Seg _ A _ _ _ s₀ _ ((compStart (.GeneratorExp elt [⟨tg, iter, [], 0⟩] scope pos) 0 (.ref it) .none X.env).onRaise (leaving X.env)) [] s
  unfold compStart
  rw [Sem.onRaise_eq_wrap]
  show Seg _ A _ _ _ s₀ _ ((ask >>= _).wrap _ _ _ _) [] s
  refine seg_bind_wrap (wpAny_askSetting ?_)
  split
  · exact seg_again rfl loop
  · refine seg_bind_wrap (wpAny_rule ?_)
    show Seg _ A _ _ _ s₀ _ ((standAt iter.pos >>= _).wrap _ _ _ _) [] s
    exact seg_bind_wrap (wpAny_standAt (seg_bind_wrap (T.self _ 0 s _ _ st (seg_again rfl loop))))
end
end Hid

namespace Hid
open PySem PySem.Spec PyProof.Rows L2
section
variable {X : Cx} {G : Cx} {σ : L2.St} {QD QE : Hp → Prop} {a : Addr} {g : Nat} {go : Obj}
/-- the generator's object at a, number g: n and more turns may follow -/
def gxAt (G : Cx) (A : Around) (σ : L2.St) (cont : Bool) (QD QE : Hp → Prop) (a : Addr) (g n : Nat) (s : Shared) : Prop :=
  s.heap.IsGen a g ∧ s.heap.NoLimit ∧ AllBare s.gens ∧ ∃ gs, s.gens[g]? = some gs ∧ ∀ s'', Near s s'' → gs.Goes (model G.prog G.w) A.in1 (fun n s₀ r s₁ => r = .ok .next ∧ gxR G σ QD n s₀ s₁) (gxY G cont QE) n (.send .none) s''
theorem set_at {s : Shared} {x : GenState} (h : g + 1 ≤ s.gens.size) : (s.setGen g x).gens[g]? = some x := by
  have hlt : g < s.gens.size := h
  simp [Shared.setGen, hlt]
theorem gx_next {A : Around} {cont : Bool} {n : Nat} {s : Shared} {Q : Option Value → Shared → Prop} {E : Value → Shared → Prop} (hh : A.handled = none) (hroom : A.depth < recursionLimit) (hpn : (a, go) ∈ G.pn) (hgo : ∀ h : Heap, h.get? a = some go → h.IsGen a g) (h : gxAt G A σ cont QD QE a g n s)
    (hE : ∀ b σ' pins H' s₁ gs', b ≠ cont → Inv G pins σ' H' s₁ → QE H' → gs'.bare = true → Q (some (.bool b)) (s₁.setGen g gs'))
    (hC : ∀ s' n', n = n' + 1 → gxAt G A σ cont QD QE a g n' s' → Q (some (.bool cont)) s')
    (hD : ∀ s₁ h' H', Inv G [] σ H' s₁ → QD H' → (∀ b o, s₁.heap.get? b = some o → h'.get? b = some o) → Q none { s₁.setGen g .finished with heap := h' }) :
    wpAny (model G.prog G.w) A (pyNext (.ref a)) Q E s := by
  obtain ⟨hg, hl, hb, gs, hgs, goes⟩ := h
  have hsz : g + 1 ≤ s.gens.size := (Array.getElem?_eq_some_iff.mp hgs).1
  refine GenW.wpAny_gsz (n := g + 1) hsz ?_
  refine wpAny_pyNext_genexpQ (P := gxR G σ QD) hh hl hroom hg hgs (goes _ (near_set hb rfl)) (fun v s₁ gs' hb' hv hz => ?_) (fun s₁ hp h' hk hz => ?_)
  · obtain ⟨b, σ', pins, H', rfl, I1, hc, he⟩ := hv
    have hz1 : g + 1 ≤ s₁.gens.size := by rw [GenW.setGen_size] at hz; exact hz
    by_cases hbc : b = cont
    · subst hbc
      cases n with
      | zero => exact (hc rfl s₁ ⟨s₁.gens, s₁.toks, rfl, I1.bare⟩).elim
      | succ n' =>
        refine hC _ n' rfl ⟨hgo _ (I1.pin (a, go) (List.mem_append_left _ hpn)).1, I1.nolimit, allBare_setGen I1.bare hb', gs', set_at hz1, fun s'' near => ?_⟩
        exact hc rfl s'' ((near_set I1.bare hb').trans near)
    · exact hE b σ' pins H' s₁ gs' hbc I1 (he hbc) hb'
  · obtain ⟨H', I1, qd⟩ := hp
    exact hD s₁ h' H' I1 qd hk
theorem gx_all {A : Around} {R : Result → Shared → Prop} (hh : A.handled = none) (hroom : A.depth < recursionLimit) (hpn : (a, go) ∈ G.pn) (hgo : ∀ h : Heap, h.get? a = some go → h.IsGen a g)
    (hE : ∀ σ' pins H' s₁ gs', Inv G pins σ' H' s₁ → QE H' → gs'.bare = true → R (.ok (.ret (.bool false))) (s₁.setGen g gs'))
    (hD : ∀ s₁ h' H', Inv G [] σ H' s₁ → QD H' → (∀ b o, s₁.heap.get? b = some o → h'.get? b = some o) → R (.ok (.ret (.bool true))) { s₁.setGen g .finished with heap := h' }) :
    ∀ (n : Nat) (s : Shared), gxAt G A.in1 σ true QD QE a g n s → codeAny (model G.prog G.w) A (.builtin "all.loop" ⟨[.ref a], []⟩) R s := by
  intro n
  induction n with
  | zero =>
    intro s h
    refine codeAny_builtin F.entry_all_loop ?_
    rw [Around.under_plainId F.plain_all_loop _]
    refine wpAny_bind (m := pyNext (.ref a)) (gx_next (A := A.in1) hh hroom hpn hgo h (fun b σ' pins H' s₁ gs' hb I1 q hbr => ?_) (fun s' n' e _ => nomatch e) fun s₁ h' H' I1 q hk => wpAny_bind (wpAny_rule (wpAny_pure (hD s₁ h' H' I1 q hk))))
    refine wpAny_bind (wpAny_holding (wpAny_truthy_bool (wpAny_bind (wpAny_letGo ?_))))
    cases b with
    | true => exact absurd rfl hb
    | false =>
      simp only [Bool.false_eq_true, if_false]
      exact wpAny_bind (wpAny_rule (wpAny_pure (hE σ' pins H' s₁ gs' I1 q hbr)))
  | succ n ih =>
    intro s h
    refine codeAny_builtin F.entry_all_loop ?_
    rw [Around.under_plainId F.plain_all_loop _]
    refine wpAny_bind (m := pyNext (.ref a)) (gx_next (A := A.in1) hh hroom hpn hgo h (fun b σ' pins H' s₁ gs' hb I1 q hbr => ?_) (fun s' n' e h' => ?_) fun s₁ h' H' I1 q hk => wpAny_bind (wpAny_rule (wpAny_pure (hD s₁ h' H' I1 q hk))))
    · refine wpAny_bind (wpAny_holding (wpAny_truthy_bool (wpAny_bind (wpAny_letGo ?_))))
      cases b with
      | true => exact absurd rfl hb
      | false =>
        simp only [Bool.false_eq_true, if_false]
        exact wpAny_bind (wpAny_rule (wpAny_pure (hE σ' pins H' s₁ gs' I1 q hbr)))
    · cases e
      refine wpAny_bind (wpAny_holding (wpAny_truthy_bool (wpAny_bind (wpAny_letGo ?_))))
      simp only [if_true]
      exact wpAny_pure ⟨plainId_quiet F.plain_all_loop _, ih s' h'⟩
theorem gx_any {A : Around} {R : Result → Shared → Prop} (hh : A.handled = none) (hroom : A.depth < recursionLimit) (hpn : (a, go) ∈ G.pn) (hgo : ∀ h : Heap, h.get? a = some go → h.IsGen a g)
    (hE : ∀ σ' pins H' s₁ gs', Inv G pins σ' H' s₁ → QE H' → gs'.bare = true → R (.ok (.ret (.bool true))) (s₁.setGen g gs'))
    (hD : ∀ s₁ h' H', Inv G [] σ H' s₁ → QD H' → (∀ b o, s₁.heap.get? b = some o → h'.get? b = some o) → R (.ok (.ret (.bool false))) { s₁.setGen g .finished with heap := h' }) :
    ∀ (n : Nat) (s : Shared), gxAt G A.in1 σ false QD QE a g n s → codeAny (model G.prog G.w) A (.builtin "any.loop" ⟨[.ref a], []⟩) R s := by
  intro n
  induction n with
  | zero =>
    intro s h
    refine codeAny_builtin F.entry_any_loop ?_
    rw [Around.under_plainId F.plain_any_loop _]
    refine wpAny_bind (m := pyNext (.ref a)) (gx_next (A := A.in1) hh hroom hpn hgo h (fun b σ' pins H' s₁ gs' hb I1 q hbr => ?_) (fun s' n' e _ => nomatch e) fun s₁ h' H' I1 q hk => wpAny_bind (wpAny_rule (wpAny_pure (hD s₁ h' H' I1 q hk))))
    refine wpAny_bind (wpAny_holding (wpAny_truthy_bool (wpAny_bind (wpAny_letGo ?_))))
    cases b with
    | false => exact absurd rfl hb
    | true =>
      simp only [if_true]
      exact wpAny_bind (wpAny_rule (wpAny_pure (hE σ' pins H' s₁ gs' I1 q hbr)))
  | succ n ih =>
    intro s h
    refine codeAny_builtin F.entry_any_loop ?_
    rw [Around.under_plainId F.plain_any_loop _]
    refine wpAny_bind (m := pyNext (.ref a)) (gx_next (A := A.in1) hh hroom hpn hgo h (fun b σ' pins H' s₁ gs' hb I1 q hbr => ?_) (fun s' n' e h' => ?_) fun s₁ h' H' I1 q hk => wpAny_bind (wpAny_rule (wpAny_pure (hD s₁ h' H' I1 q hk))))
    · refine wpAny_bind (wpAny_holding (wpAny_truthy_bool (wpAny_bind (wpAny_letGo ?_))))
      cases b with
      | false => exact absurd rfl hb
      | true =>
        simp only [if_true]
        exact wpAny_bind (wpAny_rule (wpAny_pure (hE σ' pins H' s₁ gs' I1 q hbr)))
    · cases e
      refine wpAny_bind (wpAny_holding (wpAny_truthy_bool (wpAny_bind (wpAny_letGo ?_))))
      simp only [Bool.false_eq_true, if_false]
      exact wpAny_pure ⟨plainId_quiet F.plain_any_loop _, ih s' h'⟩
/-- back in the def -/
theorem gx_back {pins : List (Addr × Obj)} {τ : L2.St} {H H' : Hp} {s4 s1 s' : Shared} {A' : Around} {cenv : Env} {fp : List Addr} {pn pins' : List (Addr × Obj)} {σ' : L2.St} (I4 : Inv X pins τ H s4) (hfp : ∀ b ∈ fp, FpOk X pins H b) (IG : Inv (gx X s4 H A' cenv fp pn) pins' σ' H' s1)
    (kp : ∀ b o, s1.heap.get? b = some o → s'.heap.get? b = some o) (ho : s'.os = s1.os) (hb : AllBare s'.gens) : Inv X pins τ H' s' := by
  have Jb : Inv (gx X s4 H A' cenv fp pn) pins' σ' H' s' := IG.call' (ch := []) ho (Un.kept kp) (IG.hok.kept kp) hb fun b z => nomatch z
  exact I4.call' (ch := fp) Jb.os Jb.base Jb.hok Jb.bare fun b hb => let ⟨_, f2, _, f4, f5, f6⟩ := hfp b hb; ⟨f4, f2, f5, f6⟩
/-- all(..), any(..) of a generator expression -/
def tGx (cont : Bool) (P : Addr) (wi : TI) (g : TG) (te : TE) (vs : List Nat) : TE := fun σ H Q => wi σ H fun J H1 => H1 P = some (TabX P) ∧ ∃ W : Nat → Nat → Hp → Prop, (∃ m, W 0 m H1) ∧ ∀ i m H, W i m H → (J.stop i H ∧ Q (.bl cont) H) ∨ (J.go i H ∧ ∃ Nx : Hp → Prop, (∀ H', Nx H' → ∃ m', m' < m ∧ W (i + 1) m' H') ∧
  ∀ x H', J.yld i H x H' → g x (wipe σ vs) H' fun σ2 H2 => wipe σ2 vs = wipe σ vs ∧ te σ2 H2 fun y H3 => ∃ b, y = .bl b ∧ (b = cont → Nx H3) ∧ (b ≠ cont → Q (.bl (!cont)) H3))
theorem gx_room {k : Nat} {A : Around} {c : Code} (h : Room (k + 1) A) (hw : c.weight = 1) (hu : c.cUnits = 3) : Room k (A.in1.in1.over c []) := by
  refine ⟨h.hd, ?_, ?_⟩
  · have := h.dp
    show A.depth + 0 + c.weight + 3 * k + 5 < _
    omega
  · have := h.un
    show A.units + 1 + 1 + 0 + c.cUnits + 16 * k + 200 < _
    omega
theorem gx_make {c P : Addr} {elt tg iter : Expr} {scope : Scope} {own : List (Str × Nat)} {gpos : Pos} {wi : TI} {gg : TG} {te : TE} {k : Nat} {cont : Bool} {pins : List (Addr × Obj)} {τ : L2.St} {H : Hp} {s : Shared} {Q : VK} {Q' : Value → Shared → Prop}
    (hr : Room (k + 1) X.A) (hc : X.calm = true) (hN : X.N.Nodup) (TB : GxR.TabB X.base X.mg c P) (hcode : X.env.code = .ref c) (hi : PI X tg iter wi) (ok : BlkOk X.N X.env.scope scope own) (hdot : scope.names.lookup (".0" : Str) = some NameKind.local) (hnc : ∀ y ∈ scope.names, y.2 ≠ .cell) (hco : scope.isCoroutine = false)
    (hg : ∀ s H A' C cl code fp pn, PG (gx X s H A' (genEnv scope cl C code builtinsNs X.env) fp pn) tg gg) (he : ∀ s H A' C cl code fp pn, Room k A' → PE (gx X s H A' (genEnv scope cl C code builtinsNs X.env) fp pn) elt te) (hs : ∀ v, genFold iter X.env v = pure v)
    (I : Inv X pins τ H s) (h : tGx cont P wi gg te (own.map (·.2)) τ H Q)
    (hQ : ∀ (G : Cx) (σ : L2.St) (QD QE : Hp → Prop) (a : Addr) (g n : Nat) (go : Obj) (s5 : Shared), G.prog = X.prog → G.w = X.w → (a, go) ∈ G.pn → (∀ h : Heap, h.get? a = some go → h.IsGen a g) → gxAt G X.A.in1 σ cont QD QE a g n s5 →
      (∀ pins' σ' H' s1 s', Inv G pins' σ' H' s1 → (∀ b o, s1.heap.get? b = some o → s'.heap.get? b = some o) → s'.os = s1.os → AllBare s'.gens → Inv X pins τ H' s') → (∀ H', QD H' → Q (.bl cont) H') → (∀ H', QE H' → Q (.bl (!cont)) H') → Q' (.ref a) s5) :
    wpAny (model X.prog X.w) X.A (eval (.GeneratorExp elt [⟨tg, iter, [], 0⟩] scope gpos) X.env) Q' X.xe s := by
  have hfree : ∀ y ∈ scope.names, y.2 = .free → ∃ c, X.env.cells.lookup y.1 = some c := fun y hy e => (ok.free y hy e).elim (fun q => I.ok.has _ (.inl q)) fun q => I.ok.has _ (.inr q)
  refine wpAny_GeneratorExp_make hco (closure_ok hfree) hnc hdot ok.kind (by have := hr.dp; omega) ?_ hs
  refine thn (hi.run pins s τ H _ I h) fun xv s1 hx => thn hx fun itv s2 h2 => ?_
  obtain ⟨it, fp, tn, J, H2, e, I2, T, st2, f2, hP, W, ⟨m0, w0⟩, turn⟩ := h2
  subst e
  obtain ⟨ps, hPs, htr⟩ : TabOk P s2.heap := (I2.hok P _ hP).1
  have cd : PySem.W.CodeHd s2.heap c P := TB.code.keeps fun b u e => I2.bk b u e
  have nP : ∀ b ∈ fp, b ≠ P := fun b hb z => by
    have := (f2 b hb).1
    rw [z, hP] at this
    cases this
  refine ⟨I2.nolimit, ?_⟩
  have go_on : ∀ (code : Value) (h3 : Heap) (tk : Nat), (∀ b o, b ≠ P → s2.heap.get? b = some o → h3.get? b = some o) → s2.heap.objs.size ≤ h3.objs.size → TabOk P h3 → wpAny (model X.prog X.w) X.A (builtinsFor X.env.globals X.env.builtins) (fun bi s₄ =>
      ∀ h', h'.Ns s₄.heap.objs.size (fun y => if y = ".0" then some (.ref it) else none) → Heap.SameBut s₄.heap.objs.size (s₄.heap.push { cls := .type "frame", data := .dict #[] }) h' →
        Q' (.ref h'.objs.size) { s₄ with gens := s₄.gens.push (.fresh (.compStart (.GeneratorExp elt [⟨tg, iter, [], 0⟩] scope gpos) 0 (.ref it) .none (genEnv scope (cloFrom X.env.cells scope.names []) s₄.heap.objs.size code bi X.env))), toks := s₄.toks + 1 + 1 + 1, heap := h'.push { cls := .type "generator", data := .fields #[.int s₄.gens.size 0, .str "<genexpr>" (s₄.toks + 1), .str (X.env.qual ++ "<genexpr>") (s₄.toks + 1 + 1)] } }) X.xe { s2 with heap := h3, toks := tk } := by
    intro code h3 tk k3 sz3 t3
    have I3 : Inv X pins τ H2 { s2 with heap := h3, toks := tk } := inv_code I2 hP k3 t3
    have st3 : tn 0 h3 := T.keep _ _ _ st2 fun b hb o e => k3 b o (nP b hb) e
    obtain ⟨bm, ob, e1, e2, e3, e4, e5, e6, e7, e8⟩ := TB.bm
    refine wpAny_builtinsFor (m := X.mg) (by rw [I3.ok.glob]; exact I3.mod.glob.keeps I3.bk) e1 e2 (I3.bk _ _ e5) e6 e7 e8 ?_
    generalize hs3 : ({ s2 with heap := h3, toks := tk } : Shared) = s3 at I3 ⊢
    have st3' : tn 0 s3.heap := by rw [← hs3]; exact st3
    intro h' hn' hs'
    have szp : h'.objs.size = s3.heap.objs.size + 1 := by rw [hs'.1, Heap.size_push]
    generalize hgo : ({ cls := .type "generator", data := .fields #[.int s3.gens.size 0, .str "<genexpr>" (s3.toks + 1), .str (X.env.qual ++ "<genexpr>") (s3.toks + 1 + 1)] } : Obj) = go
    have isg : ∀ h : Heap, h.get? h'.objs.size = some go → h.IsGen h'.objs.size s3.gens.size := fun h e => ⟨go, _, _, e, by rw [← hgo], by rw [← hgo], by rw [← hgo]⟩
    have gof : (h'.push go).get? h'.objs.size = some go := Heap.get?_push_size _ (by rw [← hgo]; rfl)
    have kp : ∀ b o, s3.heap.get? b = some o → (h'.push go).get? b = some o := fun b o e => Heap.get?_push_of_some _ (hs'.extBut b o (Nat.ne_of_lt (Heap.lt_size e)) (Heap.get?_push_of_some _ e))
    have hA' : (X.A.in1.in1.over (.compLoop (.GeneratorExp elt [⟨tg, iter, [], 0⟩] scope gpos) 0 (.ref it) .none (genEnv scope (cloFrom X.env.cells scope.names []) s3.heap.objs.size code builtinsNs X.env)) []).frames = some (genEnv scope (cloFrom X.env.cells scope.names []) s3.heap.objs.size code builtinsNs X.env :: X.stack) := by
      show pushEnvs [_] (pushEnvs [] X.A.frames) = _
      rw [I3.ok.frames]
      rfl
    have lt3 : ∀ b ∈ fp, b < s3.heap.objs.size := fun b hb => by
      obtain ⟨o, e, _⟩ := T.obj _ _ st3' b hb
      exact Heap.lt_size e
    have bare5 : AllBare (s3.gens.push (.fresh (.compStart (.GeneratorExp elt [⟨tg, iter, [], 0⟩] scope gpos) 0 (.ref it) .none (genEnv scope (cloFrom X.env.cells scope.names []) s3.heap.objs.size code builtinsNs X.env)))) := I3.bare.push rfl
    refine hQ (gx X s3 H2 (X.A.in1.in1.over (.compLoop (.GeneratorExp elt [⟨tg, iter, [], 0⟩] scope gpos) 0 (.ref it) .none (genEnv scope (cloFrom X.env.cells scope.names []) s3.heap.objs.size code builtinsNs X.env)) []) (genEnv scope (cloFrom X.env.cells scope.names []) s3.heap.objs.size code builtinsNs X.env) fp [(h'.objs.size, go)]) (wipe τ (own.map (·.2))) (fun H' => Q (.bl cont) H') (fun H' => Q (.bl (!cont)) H') h'.objs.size s3.gens.size (m0 + 1) go _ rfl rfl (List.mem_singleton.mpr rfl) isg ?_ (fun pins' σ' H' s1 s' IG k' o' b' => gx_back I3 f2 IG k' o' b') (fun _ q => q) fun _ q => q
    refine ⟨isg _ gof, I3.nolimit.keeps kp, bare5, _, Array.getElem?_push_size .., fun s'' near => ⟨rfl, ?_⟩⟩
    obtain ⟨g', t', rfl, bare'⟩ := near
    have IG := gx_start (s6 := { s3 with gens := g', toks := t', heap := h'.push go }) I3 hN ok hnc (fun b hb => ⟨f2 b hb, lt3 b hb⟩) (show (X.A.in1.in1.over (.compLoop (.GeneratorExp elt [⟨tg, iter, [], 0⟩] scope gpos) 0 (.ref it) .none (genEnv scope (cloFrom X.env.cells scope.names []) s3.heap.objs.size code builtinsNs X.env)) []).handled = none from I3.ok.hd hc) hA' kp (hn'.push _) rfl bare' (by rw [szp]; exact Nat.lt_succ_self _) gof (fun v z => by rw [← hgo] at z; cases z)
    have st5 : tn 0 (h'.push go) := T.keep _ _ _ st3' fun b _ o e => kp b o e
    refine gx_begin (X := gx X s3 H2 (X.A.in1.in1.over (.compLoop (.GeneratorExp elt [⟨tg, iter, [], 0⟩] scope gpos) 0 (.ref it) .none (genEnv scope (cloFrom X.env.cells scope.names []) s3.heap.objs.size code builtinsNs X.env)) []) (genEnv scope (cloFrom X.env.cells scope.names []) s3.heap.objs.size code builtinsNs X.env) fp [(h'.objs.size, go)]) T st5 ?_
    refine gx_loop (X := gx X s3 H2 (X.A.in1.in1.over (.compLoop (.GeneratorExp elt [⟨tg, iter, [], 0⟩] scope gpos) 0 (.ref it) .none (genEnv scope (cloFrom X.env.cells scope.names []) s3.heap.objs.size code builtinsNs X.env)) []) (genEnv scope (cloFrom X.env.cells scope.names []) s3.heap.objs.size code builtinsNs X.env) fp [(h'.objs.size, go)]) rfl hc (fun p hp hm => ?_) rfl rfl hco T (hg _ _ _ _ _ _ _ _) (he _ _ _ _ _ _ _ _ (gx_room hr rfl rfl)) turn m0 (m0 + 1) 0 _ _ H2 (Nat.lt_succ_self _) IG st5 (fun b hb => (f2 b hb).1) w0
    have : p = (h'.objs.size, go) := List.mem_singleton.mp hp
    subst this
    have h9 : h'.objs.size < s3.heap.objs.size := lt3 _ hm
    rw [szp] at h9
    exact absurd h9 (Nat.not_lt.mpr (Nat.le_succ _))
  cases hf : codeAmong gpos ps.toList with
  | none =>
    refine wpAny_genexprCodeX hcode (cd.code hPs htr) (cd.tab hPs) hf fun c' h' tk hx hge hlt hco' _ htab' _ => ?_
    obtain ⟨o1, vs, f1, tf, fl, tg1, inF, tx, tt, op, _, _, _, _, _, _, _, _, _, htr', _⟩ := hco'
    exact go_on _ h' tk (fun b o hb e => hx b o hb e) (Nat.le_trans hge (Nat.le_of_lt hlt)) ⟨_, htab'.2, htr'⟩
  | some cv =>
    refine wpAny_genexprCode_hit hcode (cd.code hPs htr) hf ?_
    exact go_on cv s2.heap s2.toks (fun _ _ _ e => e) (Nat.le_refl _) ⟨ps, hPs, htr⟩
theorem pe_allG {c P : Addr} {elt tg iter : Expr} {scope : Scope} {own : List (Str × Nat)} {p pos gpos : Pos} {wi : TI} {gg : TG} {te : TE} {k : Nat}
    (hr : Room (k + 1) X.A) (hc : X.calm = true) (hN : X.N.Nodup) (hgl : Gl X "all") (hm : X.mg "all" = none) (TB : GxR.TabB X.base X.mg c P) (hcode : X.env.code = .ref c) (hi : PI X tg iter wi) (ok : BlkOk X.N X.env.scope scope own)
    (hg : ∀ s H A' C cl code fp pn, PG (gx X s H A' (genEnv scope cl C code builtinsNs X.env) fp pn) tg gg) (he : ∀ s H A' C cl code fp pn, Room k A' → PE (gx X s H A' (genEnv scope cl C code builtinsNs X.env) fp pn) elt te)
    (hdot : scope.names.lookup (".0" : Str) = some NameKind.local := by rfl) (hnc : (scope.names.all fun y => y.2 != .cell) = true := by rfl) (hco : scope.isCoroutine = false := by rfl) (hs : ∀ v, genFold iter X.env v = pure v := by intro _; rfl)
    (hst : starEach [.GeneratorExp elt [⟨tg, iter, [], 0⟩] scope gpos] X.env = (false, eval (.GeneratorExp elt [⟨tg, iter, [], 0⟩] scope gpos) X.env) :: starEach [] X.env := by rfl) :
    PE X (.Call (.Name "all" p) [.GeneratorExp elt [⟨tg, iter, [], 0⟩] scope gpos] [] pos) (tGx true P wi gg te (own.map (·.2))) := by
  refine ⟨fun pins s σ H Q I h => ?_⟩
  refine wpAny_Call_Name_kw (ld_blt I hgl hm boot_all ?_)
  refine PyProof.Rows.callWith_builtin1 ?_ hst (by rfl)
  rw [hst]
  show wpAny _ _ (spliced ((false, eval (.GeneratorExp elt [⟨tg, iter, [], 0⟩] scope gpos) X.env) :: backTo pos (starEach [] X.env))) _ _ s
  refine Calls.spliced_cons (gx_make hr hc hN TB hcode hi ok hdot (fun y hy e => ?_) hco hg he hs I h fun G τ QD QE a g n go s5 eP eW hpn hgo hat back hD hE => Calls.spliced_nil ?_)
  · have := List.all_eq_true.mp hnc y hy
    rw [e] at this
    exact absurd this (by decide)
  refine call_function_tree F.kind_all F.plain_all F.entry_all (F.args_all1 _) ?_
  unfold Builtin.«all»
  refine wpAny_bind (m := oneArg "all" _) (wpAny_pure (wpAny_bind (wpAny_pyIter_gen hat.1 ?_)))
  have L := gx_all (G := G) (A := X.A) (σ := τ) (QD := QD) (QE := QE) (a := a) (g := g) (go := go) (R := fun r s' => ∃ v, r = .ok (.ret v) ∧ EP X pins σ Q v s') hr.hd (by have := hr.dp; omega) hpn hgo (fun σ' pins' H' s1 gs' IG q hb => ⟨_, rfl, .bl false, H', back _ _ _ _ _ IG (fun _ _ e => e) rfl (allBare_setGen IG.bare hb), rfl, hE _ q⟩)
    (fun s1 h' H' IG q hk => ⟨_, rfl, .bl true, H', back _ _ _ _ _ IG hk rfl (allBare_setGen IG.bare rfl), rfl, hD _ q⟩) n s5 hat
  rw [eP, eW] at L
  exact wpAny_pure ⟨plainId_quiet F.plain_all_loop _, codeAny_mono L fun r s' ⟨v, e, q⟩ => by subst e; simpa using q⟩
theorem pe_anyG {c P : Addr} {elt tg iter : Expr} {scope : Scope} {own : List (Str × Nat)} {p pos gpos : Pos} {wi : TI} {gg : TG} {te : TE} {k : Nat}
    (hr : Room (k + 1) X.A) (hc : X.calm = true) (hN : X.N.Nodup) (hgl : Gl X "any") (hm : X.mg "any" = none) (TB : GxR.TabB X.base X.mg c P) (hcode : X.env.code = .ref c) (hi : PI X tg iter wi) (ok : BlkOk X.N X.env.scope scope own)
    (hg : ∀ s H A' C cl code fp pn, PG (gx X s H A' (genEnv scope cl C code builtinsNs X.env) fp pn) tg gg) (he : ∀ s H A' C cl code fp pn, Room k A' → PE (gx X s H A' (genEnv scope cl C code builtinsNs X.env) fp pn) elt te)
    (hdot : scope.names.lookup (".0" : Str) = some NameKind.local := by rfl) (hnc : (scope.names.all fun y => y.2 != .cell) = true := by rfl) (hco : scope.isCoroutine = false := by rfl) (hs : ∀ v, genFold iter X.env v = pure v := by intro _; rfl)
    (hst : starEach [.GeneratorExp elt [⟨tg, iter, [], 0⟩] scope gpos] X.env = (false, eval (.GeneratorExp elt [⟨tg, iter, [], 0⟩] scope gpos) X.env) :: starEach [] X.env := by rfl) :
    PE X (.Call (.Name "any" p) [.GeneratorExp elt [⟨tg, iter, [], 0⟩] scope gpos] [] pos) (tGx false P wi gg te (own.map (·.2))) := by
  refine ⟨fun pins s σ H Q I h => ?_⟩
  refine wpAny_Call_Name_kw (ld_blt I hgl hm boot_any ?_)
  refine PyProof.Rows.callWith_builtin1 ?_ hst (by rfl)
  rw [hst]
  show wpAny _ _ (spliced ((false, eval (.GeneratorExp elt [⟨tg, iter, [], 0⟩] scope gpos) X.env) :: backTo pos (starEach [] X.env))) _ _ s
  refine Calls.spliced_cons (gx_make hr hc hN TB hcode hi ok hdot (fun y hy e => ?_) hco hg he hs I h fun G τ QD QE a g n go s5 eP eW hpn hgo hat back hD hE => Calls.spliced_nil ?_)
  · have := List.all_eq_true.mp hnc y hy
    rw [e] at this
    exact absurd this (by decide)
  refine call_function_tree F.kind_any F.plain_any F.entry_any (F.args_any1 _) ?_
  unfold Builtin.«any»
  refine wpAny_bind (m := oneArg "any" _) (wpAny_pure (wpAny_bind (wpAny_pyIter_gen hat.1 ?_)))
  have L := gx_any (G := G) (A := X.A) (σ := τ) (QD := QD) (QE := QE) (a := a) (g := g) (go := go) (R := fun r s' => ∃ v, r = .ok (.ret v) ∧ EP X pins σ Q v s') hr.hd (by have := hr.dp; omega) hpn hgo (fun σ' pins' H' s1 gs' IG q hb => ⟨_, rfl, .bl true, H', back _ _ _ _ _ IG (fun _ _ e => e) rfl (allBare_setGen IG.bare hb), rfl, hE _ q⟩)
    (fun s1 h' H' IG q hk => ⟨_, rfl, .bl false, H', back _ _ _ _ _ IG hk rfl (allBare_setGen IG.bare rfl), rfl, hD _ q⟩) n s5 hat
  rw [eP, eW] at L
  exact wpAny_pure ⟨plainId_quiet F.plain_any_loop _, codeAny_mono L fun r s' ⟨v, e, q⟩ => by subst e; simpa using q⟩
end
end Hid

namespace Hid
open PySem PySem.Spec PyProof.Rows L2 Evl
/-! the tables of a law: held by their form within, as they grew at the end -/
def xtab (ts : List Addr) (H : Hp) : Hp := fun b => if b ∈ ts then some (TabX b) else H b
theorem xtab_in {ts : List Addr} {H : Hp} {b : Addr} (h : b ∈ ts) : xtab ts H b = some (TabX b) := if_pos h
theorem xtab_out {ts : List Addr} {H : Hp} {b : Addr} (h : b ∉ ts) : xtab ts H b = H b := if_neg h
/-- back to the tables' contents -/
def grown (ts : List Addr) (h : Heap) (H : Hp) : Hp := fun b => if b ∈ ts then (match h.get? b with | some ⟨_, _, .fields ps, _⟩ => some (.tbl ps) | _ => none) else H b
theorem grown_in {ts : List Addr} {h : Heap} {H : Hp} {b : Addr} {ps : Array Value} (hb : b ∈ ts) (e : h.get? b = some (PySem.W.tabObj ps)) : grown ts h H b = some (.tbl ps) := by
  unfold grown
  rw [if_pos hb, e]
theorem grown_out {ts : List Addr} {h : Heap} {H : Hp} {b : Addr} (hb : b ∉ ts) : grown ts h H b = H b := if_neg hb
/-- all tables stand -/
def TB (ts : List Addr) (H : Hp) : Prop := ∀ P ∈ ts, H P = some (TabX P)
theorem TB.ex {ts : List Addr} {H H' : Hp} (h : TB ts H) (e : Ex H H') : TB ts H' := fun P hP => e _ _ (h P hP)
section
variable {P : Program} {w : World} {K : PySem.W.Frag} {mg : Str → Option Value} {base : Heap} {k : Nat} {f : Addr} {fd : FuncData} {ps : List Str} {sp : Sp} {ts : List Addr}
/-- a promise with tables held by their form, told with the tables' own contents -/
def spT (ts : List Addr) (sp : Sp) : Sp := fun vs H Q E => (∀ b ∈ ts, H b = some (.tbl #[])) ∧ sp vs (xtab ts H) (fun v H' => TB ts H' ∧ ∀ H'', (∀ b, b ∉ ts → H'' b = H' b) → Q v H'') E
theorem tab_law (F : FnOk P w K mg base CX0 k f fd ps sp) : FnOk P w K mg base CX0 k f fd ps (spT ts sp) := by
  refine ⟨fun vs H Q E h => F.len _ _ _ _ h.2, fun A outer s H args us vs Q E hr e0 hb hv h => ?_⟩
  obtain ⟨hT, h⟩ := h
  have out : ∀ {b : Addr}, H b = none → b ∉ ts := fun {b} e m => by
    rw [hT b m] at e
    cases e
  have outK : ∀ {b : Addr} {u : HO}, H b = some u → (∀ q, u ≠ .tbl q) → b ∉ ts := fun {b u} e n m => by
    rw [hT b m] at e
    exact n _ (Option.some.inj e).symm
  have hok : HOk P w (xtab ts H) s.heap := fun b u e => by
    by_cases m : b ∈ ts
    · rw [xtab_in m] at e
      cases e
      have q := e0.hok b _ (hT b m)
      exact tabX_ok ⟨#[], q, by first | trivial | exact .nil | constructor⟩
    · rw [xtab_out m] at e
      refine (e0.hok b u e).stay (fun c v _ q => q) (fun c q => ?_) fun c xs q => ?_
      · rw [xtab_out (outK q fun _ z => nomatch z)]
        exact q
      · rw [xtab_out (outK q fun _ z => nomatch z)]
        exact q
  have e1 : Env0 P w K mg base A outer s (xtab ts H) := ⟨e0.frames, e0.mod, fun b o e => ⟨(e0.bs b o e).1, by rw [xtab_out (out (e0.bs b o e).2)]; exact (e0.bs b o e).2⟩, e0.bsz, e0.funs, fun b hb => by rw [xtab_out (out (e0.frf b hb))]; exact e0.frf b hb, hok, e0.bare⟩
  refine codeAny_mono (F.run A outer s (xtab ts H) args us vs _ E hr e1 hb hv h) fun r s' hq => ?_
  cases r with
  | error e => exact hq.elim
  | ok fl =>
    cases fl with
    | next => exact hq.elim
    | brk => exact hq.elim
    | cont => exact hq.elim
    | ret u =>
      obtain ⟨v, H', os, bare, un, hok', rv, tb, q⟩ := hq
      have at' : ∀ b ∈ ts, ∃ qs, s'.heap.get? b = some (PySem.W.tabObj qs) := fun b m => by
        obtain ⟨⟨qs, e, _⟩, _⟩ := hok' b _ (tb b m)
        exact ⟨qs, e⟩
      have outK' : ∀ {b : Addr} {u : HO}, H' b = some u → (∀ φ, u ≠ .ext φ) → b ∉ ts := fun {b u} e n m => by
        rw [tb b m] at e
        exact n _ (Option.some.inj e).symm
      refine ⟨v, grown ts s'.heap H', os, bare, ⟨fun b o e n => ?_, fun b o e n => ?_, fun b o e n hx => ?_, un.there, fun b xs e => ?_, fun b o u e => ?_, fun b qs e => ?_⟩, fun b u e => ?_, rv, q _ fun b hb => grown_out hb⟩
      · exact un.keep b o e (by rw [xtab_out (out n)]; exact n)
      · exact un.slot b o e (by rw [xtab_out (out n)]; exact n)
      · rw [grown_out (out n)]
        exact un.free b o e (by rw [xtab_out (out n)]; exact n) hx
      · have m := outK e fun _ z => nomatch z
        rw [grown_out m]
        exact un.tups b xs (by rw [xtab_out m]; exact e)
      · have m := outK e fun _ z => nomatch z
        rw [grown_out m]
        exact un.frzs b o u (by rw [xtab_out m]; exact e)
      · by_cases m : b ∈ ts
        · obtain ⟨rs, er⟩ := at' b m
          rw [hT b m] at e
          cases e
          exact ⟨rs, by rw [grown_in m er, Array.empty_append]⟩
        · obtain ⟨more, z⟩ := un.tbls b qs (by rw [xtab_out m]; exact e)
          exact ⟨more, by rw [grown_out m]; exact z⟩
      · by_cases m : b ∈ ts
        · obtain ⟨rs, er⟩ := at' b m
          rw [grown_in m er] at e
          cases e
          exact er
        · rw [grown_out m] at e
          refine (hok' b u e).stay (fun c v _ q => q) (fun c q => ?_) fun c xs q => ?_
          · rw [grown_out (outK' q fun _ z => nomatch z)]
            exact q
          · rw [grown_out (outK' q fun _ z => nomatch z)]
            exact q
/-- a def by its body, the code object known -/
theorem okC {x qual : Str} {st : Stmt} {N : List Str} {c : Addr} (F : Fun K x qual st f fd) (hc : fd.code = .ref c) (S : FnScope N ps (defScope st)) (len : ∀ vs H Q E, sp vs H Q E → vs.length = ps.length)
    (hbody : ∀ (A : Around) (outer : List Env) (s : Shared) (H : Hp) (vs : List V) (Q : VK) (E : XK), Room k (A.deeper (envOfC qual (defScope st) s.heap.objs.size f (.ref c))) → sp vs H Q E →
      ∃ t, PSs (cxOf CX0 P w K mg base N qual (defScope st) f (.ref c) A outer s H E).nox (defBody st) t ∧ t { nx := fun _ H' => Q .non H', rt := Q } (start N vs) H) : FnOk P w K mg base CX0 (k + 1) f fd ps sp := by
  obtain ⟨oc, od, kV, doc, pm, an, cdv, ct, osl, rfl, lk, hcd⟩ := F.ex
  obtain rfl : cdv = .ref c := hc
  exact fn_of lk hcd S len fun A outer s H vs Q E hr hsp => let ⟨t, h, q⟩ := hbody A outer s H vs Q E hr hsp; ⟨t, h.nox, q⟩
end
theorem xtab_sq {K : PySem.W.Frag} {ts : List Addr} {H : Hp} {a : Addr} {xs : List V} (hT : ∀ b ∈ ts, H b = some (.tbl #[])) (h : SqL K H a xs) : SqL K (xtab ts H) a xs := by
  rcases h with (h | ⟨o, h⟩) | h
  · refine .inl (.inl ?_)
    rw [xtab_out fun m => by rw [hT a m] at h; cases h]; exact h
  · refine .inl (.inr ⟨o, ?_⟩)
    rw [xtab_out fun m => by rw [hT a m] at h; cases h]; exact h
  · exact .inr h
/-- a def with a code object that is asked for -/
def DfC (K : PySem.W.Frag) (mg : Str → Option Value) (x : Str) (st : Stmt) (ps : List Str) (c : Addr) : Prop := ∃ (f : Addr) (fd : FuncData), Fun K x x st f fd ∧ Binds K fd ps [] ∧ mg x = some (.ref f) ∧ fd.code = .ref c
theorem tabIn_mk {K : PySem.W.Frag} {x : Str} {f c P : Addr} {oc o1 : Value} {od o2 : Option Addr} {sl sl2 : Array (Option Value)} {fd : FuncData} {vs : Array Value} (a : PySem.W.nsIn K mainGlobals x = some (some (.ref f))) (b : K.lookup f = some ⟨oc, od, .func fd, sl⟩) (d : fd.code = .ref c) (e : K.lookup c = some ⟨o1, o2, .fields vs, sl2⟩) (g : vs[11]? = some (.ref P)) : PySem.W.tabIn K x = some (c, P) := by
  unfold PySem.W.tabIn
  simp only [a, b, d, e, g]
theorem walk_ofG {l : PySem.W.OpenLaw} {n k : Nat} {q : Program} {loose : List Str} {XP : (Str → Option Value) → Heap → Prop} {YP : World → Heap → Prop} {d : DefRec} {K : Params → PySem.W.Frag} {CX : World → CXT} {x : Str}
    (hn : l.most = some n) (hn2 : n ≤ sizeLine) (hdf : d.params.defaults = []) (hr : Room k callerA) (hY : ∀ (w : World) (h : Heap), YP w h → (K w.params).In h)
    (F : ∀ (w : World) (mg : Str → Option Value) (fa : Addr) (h : Heap), (K w.params).In h → h.Ns mainGlobals mg → mg d.name = some (.ref fa) → (∀ (y : Str) (c P : Addr), ((recsOf q).find? fun e => e.name == y).isSome = true → PySem.W.tabIn (K w.params) y = some (c, P) → PySem.W.CodeHd h c P ∧ h.get? P = some (PySem.W.tabObj #[])) → LamX.LawAtS l w (K w.params) (CX w) k n x mg fa h)
    (hCX : ∀ (w : World) (H : Hp) (s : Shared) (e : Value) (s' : Shared), CX w [] H s (fun _ _ _ => False) e s' → False) : PySem.W.WalkO q loose XP YP l.row.toRowW d [] (fun f vs => PySem.call f vs) := by
  refine Att.attach_callB hn hdf fun w s₀ s₁ mg mb fa o pm cd doc a vs ns G Y ho hd hcd hmg hobj hints hlen hbits hg => ?_
  have KX := hY w _ Y
  obtain ⟨fd, cs, sp, hT, nT, C, hb, hsp, hF⟩ := F w mg fa _ KX G.T.g hmg fun y c P hr ht => by
    obtain ⟨e, he⟩ := Option.isSome_iff_exists.mp hr
    exact PySem.W.tab_of G.T KX he ht
  exact LamX.law_callTs KX G.T.g G.T.b G.T.builtins G.T.nolimit hg hT nT C G.T.bmain hobj hints (Nat.le_trans hlen hn2) hr hF hb (fun H hH hS => hsp H a ns hlen hbits hH hS) fun H e s' => hCX w H s₁ e s'
end Hid

namespace Hid
open PySem PySem.Spec PyProof.Rows L2
section
variable {prog : Program} {w : World} {A : Around} {E : Value → Shared → Prop} {s : Shared}
/-- tuple(text): the code of tuple.__new__ -/
theorem tupStr_code {z : Str} {t : Tok} {Q₁ : Value → Shared → Prop} (hh : A.handled = none) (hl : z.cps.size ≤ 100000)
    (h : ∀ (h' : Heap) (tk : Nat) (acc : Array Value), (∀ b o, s.heap.get? b = some o → h'.get? b = some o) → ItemsOf (SignAt z) acc z.cps.size → Q₁ (.ref h'.objs.size) { s with heap := h'.push { cls := .type "tuple", data := .seq acc }, toks := tk }) :
    codeAny (model prog w) A (.call (.builtin "tuple.__new__") ⟨[.type "tuple", .str z t], []⟩) (wants Q₁ E) s := by
  have hsz : z.cps.size ≤ sizeLine := Nat.le_trans hl (by decide)
  refine codeAny_of_tree ?_
  show wpAny _ A.in1 (do checkBuiltinCall "tuple.__new__" ⟨[.type "tuple", .str z t], []⟩; again (.builtin "tuple.__new__" ⟨[.type "tuple", .str z t], []⟩)) _ _ s
  refine wpAny_bind (wpAny_of_eq (F.newCall_tuple_1 _) (wpAny_pure ⟨plainId_quiet F.plain_tuple_new _, codeAny_builtin F.entry_tuple_new ?_⟩))
  rw [Around.under_plainId F.plain_tuple_new _]
  have hsub := sub_tuple_self; have hinit := init_tuple_lookup; have hmh := madeHere_tuple
  have hTI : s.TypeIs (.str z t) "str" := typeIs_str _ _ _
  have hh1 : A.in1.handled = none := hh
  wp_walk using wpAny_typeOf hTI, wpAny_collect_str (A := A.in1) hh1 z t (hn := hsz)
  intro s' acc hk hg hd ho hacc
  obtain ⟨h', g', d', tk, o'⟩ := s'
  obtain rfl : g' = s.gens := hg
  obtain rfl : d' = s.drawn := hd
  obtain rfl : o' = s.os := ho
  show wpAny _ _ (Builtin.Tuple.tupleExact acc.toList.toArray >>= fun v => ret v) _ _ (⟨h', s.gens, s.drawn, tk, s.os⟩ : Shared)
  unfold Builtin.Tuple.tupleExact
  refine wpAny_bind (wpAny_newObj_type ?_ (by show acc.toList.toArray.size ≤ sizeLine; simp only [Array.toArray_toList]; rw [hacc.1]; exact hsz)) <;> refine wpAny_pure ?_
  rw [show acc.toList.toArray = acc by simp]
  exact h h' tk acc hk hacc
theorem tupStr {z : Str} {t : Tok} {Q : Value → Shared → Prop} (hh : A.handled = none) (hl : z.cps.size ≤ 100000)
    (hQ : ∀ (h' : Heap) (tk : Nat) (acc : Array Value), (∀ b o, s.heap.get? b = some o → h'.get? b = some o) → ItemsOf (SignAt z) acc z.cps.size → Q (.ref h'.objs.size) { s with heap := h'.push { cls := .type "tuple", data := .seq acc }, toks := tk }) :
    wpAny (model prog w) A (call (.type "tuple") [.str z t]) Q E s := by
  refine callType_codes (Q₁ := fun obj s₁ => s₁.TypeIs obj "tuple" ∧ Q obj s₁) F.called_tuple (F.typeCall_tuple_1 _) F.entry_object_init (tupStr_code (A := A.in1) hh hl fun h' tk acc hk hacc => ⟨⟨_, Heap.get?_push_size _ rfl, rfl⟩, hQ h' tk acc hk hacc⟩) fun obj s₁ h₁ => ?_
  exact ⟨h₁.1, F.args_object_init_2 obj _, object_init_meets F.called_tuple.init.lookup F.called_tuple.made (by decide) prog w A.in1 _ s₁ ⟨h₁.1, rfl, h₁.2⟩⟩
end
def signsV (z : Str) : List V := z.cps.toList.map fun c => V.str ⟨#[c]⟩
theorem cr_tupS {X : Cx} (hc : X.calm = true) : CallR X (.type "tuple") (fun vs H Q => ∃ z : Str, vs = [.str z] ∧ z.cps.size ≤ 100000 ∧ ∀ p, H p = none → Q (.ref p) (upd H p (.tup (signsV z)))) := by
  intro pins s σ H vs us Q I r h
  obtain ⟨z, rfl, hl, q⟩ := h
  obtain ⟨u, rfl, t, rfl⟩ := r.one
  refine tupStr (I.ok.hd hc) hl fun h' tk acc hk hacc => ?_
  have I2 : Inv X pins σ H { s with heap := h', toks := tk } := I.kept hk
  have rv : Vals (signsV z) acc.toList := by
    have e : signsV z = (List.range acc.toList.length).map fun i => V.str ⟨#[z.cps.toList.getD i 0]⟩ := by
      unfold signsV
      rw [Array.length_toList, hacc.1, ← Array.length_toList]
      conv => lhs; rw [← map_range_getD' z.cps.toList 0]
      rw [List.map_map]; rfl
    rw [e]
    refine vals_of_get acc.toList _ fun j u hj => ?_
    obtain ⟨c, t, hc, rfl⟩ := hacc.2 j u (by rw [← hj, Array.getElem?_toList])
    refine ⟨t, ?_⟩
    rw [List.getD_eq_getElem?_getD, Array.getElem?_toList, hc]; rfl
  have hlen : (signsV z).length ≤ sizeLine := by unfold signsV; rw [List.length_map, Array.length_toList]; exact Nat.le_trans hl (by decide)
  refine ⟨.ref h'.objs.size, upd H h'.objs.size (.tup (signsV z)), I2.laid (t' := tk) (o := .tup (signsV z)) (fun c o e => Heap.get?_push_of_some _ e) (Nat.le_refl _) ⟨hlen, acc.toList, rv, ?_⟩, rfl, q _ (I2.hok.fresh (Nat.le_refl _))⟩
  rw [Array.toArray_toList]; exact IsTup.new _ _
end Hid

namespace Hid
open PySem PySem.Spec PyProof.Rows L2 Evl
section
variable {J : It} {n : Nat} {Gd : Hp → Prop} {Y : Nat → Hp → V → Hp → Prop}
/-- all, any over a walk: Pv by the turn and the heap -/
theorem gx_it (w : Walk J n Gd Y) {cont : Bool} {g : TG} {te : TE} {vs : List Nat} {σ : L2.St} {H1 : Hp} {Q : VK} (Pv : Nat → Hp → Prop) (h0 : Pv 0 H1) (hG : ∀ i H, i ≤ n → Pv i H → Gd H)
    (hs : ∀ i x H H', i < n → Pv i H → Y i H x H' → g x (wipe σ vs) H' fun σ2 H2 => wipe σ2 vs = wipe σ vs ∧ te σ2 H2 fun y H3 => ∃ b, y = .bl b ∧ (b = cont → Pv (i + 1) H3) ∧ (b ≠ cont → Q (.bl (!cont)) H3)) (hd : ∀ H, Pv n H → Q (.bl cont) H) :
    ∃ W : Nat → Nat → Hp → Prop, (∃ m, W 0 m H1) ∧ ∀ i m H, W i m H → (J.stop i H ∧ Q (.bl cont) H) ∨ (J.go i H ∧ ∃ Nx : Hp → Prop, (∀ H', Nx H' → ∃ m', m' < m ∧ W (i + 1) m' H') ∧
      ∀ x H', J.yld i H x H' → g x (wipe σ vs) H' fun σ2 H2 => wipe σ2 vs = wipe σ vs ∧ te σ2 H2 fun y H3 => ∃ b, y = .bl b ∧ (b = cont → Nx H3) ∧ (b ≠ cont → Q (.bl (!cont)) H3)) := by
  refine ⟨fun i m H => m = n - i ∧ i ≤ n ∧ Pv i H, ⟨n, by simp, Nat.zero_le _, h0⟩, fun i m H hw => ?_⟩
  obtain ⟨rfl, hi, p⟩ := hw
  rcases Nat.lt_or_ge i n with hlt | hge
  · exact .inr ⟨w.goes i H hlt (hG i H hi p), Pv (i + 1), fun H' p' => ⟨n - (i + 1), by omega, rfl, hlt, p'⟩, fun x H' y => hs i x H H' hlt p (w.yields i H x H' hlt (hG i H hi p) y)⟩
  · obtain rfl : i = n := by omega
    exact .inl ⟨w.stops H (hG i H hi p), hd H p⟩
end
theorem of_not {b : Bool} (h : (!b) = true) : b = false := by cases b; rfl; cases h
theorem of_not' {b : Bool} (h : (!b) = false) : b = true := by cases b; cases h; rfl
/-! things of any kind: a text, or no text -/
def NotS (K : PySem.W.Frag) (H : Hp) (v : V) : Prop := ∃ t, kitB t "str" = some false ∧ ∀ H1, Ex H H1 → TyX K H1 v (.type t)
theorem NotS.ex {K : PySem.W.Frag} {H H' : Hp} {v : V} (h : NotS K H v) (e : Ex H H') : NotS K H' v := let ⟨t, a, b⟩ := h; ⟨t, a, fun H1 e1 => b H1 (e.trans e1)⟩
def Th (K : PySem.W.Frag) (H : Hp) (v : V) : Option (List Nat) → Prop
  | some z => v = .str (tx z) ∧ z.length ≤ 1000
  | none => NotS K H v
theorem Th.ex {K : PySem.W.Frag} {H H' : Hp} {v : V} : ∀ {o : Option (List Nat)}, Th K H v o → Ex H H' → Th K H' v o
  | some _, h, _ => h
  | none, h, e => NotS.ex h e
theorem th_str {K : PySem.W.Frag} {H : Hp} (z : List Nat) (h : z.length ≤ 1000) : Th K H (.str (tx z)) (some z) := ⟨rfl, h⟩
theorem th_non {K : PySem.W.Frag} {H : Hp} : Th K H .non none := ⟨"NoneType", by decide +kernel, fun _ _ => .base .non⟩
theorem th_bl {K : PySem.W.Frag} {H : Hp} (b : Bool) : Th K H (.bl b) none := ⟨"bool", by decide +kernel, fun _ _ => .base (.bl b)⟩
theorem th_int {K : PySem.W.Frag} {H : Hp} (i : Int) : Th K H (.int i) none := ⟨"int", by decide +kernel, fun _ _ => .base (.int i)⟩
theorem th_tup {K : PySem.W.Frag} {H : Hp} {a : Addr} {xs : List V} (h : H a = some (.tup xs)) : Th K H (.ref a) none := ⟨"tuple", by decide +kernel, fun _ e => .base (.tup (e _ _ h))⟩
theorem th_lst {K : PySem.W.Frag} {H : Hp} {a : Addr} {xs : List V} (h : H a = some (.lst xs)) : Th K H (.ref a) none := ⟨"list", by decide +kernel, fun _ e => .base (.lst (e _ _ h))⟩
theorem th_dict {K : PySem.W.Frag} {H : Hp} {a : Addr} {xs : List (Key × V)} (h : H a = some (.dK xs)) : Th K H (.ref a) none := ⟨"dict", by decide +kernel, fun _ e => .base (.dK (e _ _ h))⟩
section
variable {K : PySem.W.Frag} {σ : L2.St} {H : Hp} {ta : TE}
theorem ev_isS {v : V} {o : Option (List Nat)} (ha : Ev ta σ H v) (h : Th K H v o) : Ev (tCB (rIsi K) (tCons ta (tCons (tC (.ty "str")) tNil))) σ H (.bl o.isSome) := by
  cases o with
  | none => obtain ⟨t, hk, ht⟩ := h; exact ev_isi ha ht hk
  | some z => obtain ⟨rfl, _⟩ := h; exact ev_isi (b := true) ha (fun _ _ => .base (.str _)) (by decide +kernel)
end
/-! what is a text of one to eight of these signs; what fits a row -/
def wr (o : Option (List Nat)) (g : List Nat) : Bool := match o with
  | none => false
  | some z => decide (1 ≤ z.length ∧ z.length ≤ 8) && z.all fun c => decide (c ∈ g)
def lt1 (c d : Nat) : Bool := decide (c = 98) || decide (c = d)
def fitsO (r : List Nat) (o : Option (List Nat)) : Bool := match o with
  | none => false
  | some z => decide (z.length = r.length) && (z.all fun c => decide (c ∈ [110, 121])) && (List.zipWith lt1 r z).all id
def otherO (r : List Nat) (o : Option (List Nat)) : V := match o with
  | none => .non
  | some z => if fitsO r (some z) = true then .str (tx (turned r z)) else .non
theorem otherO_no {r : List Nat} {o : Option (List Nat)} (h : fitsO r o = false) : otherO r o = .non := by
  cases o with
  | none => rfl
  | some z => show (if fitsO r (some z) = true then V.str (tx (turned r z)) else V.non) = V.non; rw [h]; rfl
theorem otherO_yes {r z : List Nat} (h : fitsO r (some z) = true) : otherO r (some z) = .str (tx (turned r z)) := by
  show (if fitsO r (some z) = true then V.str (tx (turned r z)) else V.non) = _; rw [if_pos h]
theorem row_wr {r : List Nat} (h : RowL r) : wr (some r) [110, 98, 121] = true := by
  unfold wr
  rw [Bool.and_eq_true]
  refine ⟨decide_eq_true h.1, List.all_eq_true.mpr fun c hc => decide_eq_true ?_⟩
  rcases h.2 c hc with z | z | z <;> rw [z] <;> simp
/-- fits, step by step -/
theorem fits_step {r : List Nat} (hr : RowL r) (o : Option (List Nat)) : fitsO r o = (wr o [110, 121] && match o with | none => false | some z => decide (r.length = z.length) && (List.zipWith lt1 r z).all id) := by
  cases o with
  | none => rfl
  | some z =>
    show ((decide (z.length = r.length) && z.all fun c => decide (c ∈ [110, 121])) && (List.zipWith lt1 r z).all id) = ((decide (1 ≤ z.length ∧ z.length ≤ 8) && z.all fun c => decide (c ∈ [110, 121])) && (decide (r.length = z.length) && (List.zipWith lt1 r z).all id))
    by_cases h : z.length = r.length
    · have h1 : 1 ≤ z.length ∧ z.length ≤ 8 := by have := hr.1; omega
      simp only [decide_eq_true h, decide_eq_true h1, decide_eq_true h.symm, Bool.true_and]
    · have h' : ¬ r.length = z.length := fun q => h q.symm
      simp only [decide_eq_false h, decide_eq_false h', Bool.false_and, Bool.and_false]
end Hid

namespace Hid
open PySem PySem.Spec PyProof.Rows L2
/-! the greater, the lesser of two texts -/
theorem two_at {a b : Str} {t u : Tok} : ∀ (i : Nat) (v : Value), (#[Value.str a t, .str b u] : Array Value)[i]? = some v → ∃ t', v = .str (if i = 0 then a else b) t'
  | 0, v, h => ⟨t, by simpa using h.symm⟩
  | 1, v, h => ⟨u, by simpa using h.symm⟩
  | n + 2, v, h => by simp at h
section
variable {prog : Program} {w : World} {A : Around} {E : Value → Shared → Prop} {s : Shared}
theorem far {h : Heap} {c : Addr} {o : Obj} (e : h.get? c = some o) (z : c = h.objs.size + 1) : False := by
  have q := Heap.lt_size e
  rw [z] at q
  exact Nat.lt_irrefl _ (Nat.lt_of_succ_lt q)
theorem strs_gt {P : Nat → Value → Prop} (val : Nat → Str) (hval : ∀ i v, P i v → ∃ t, v = .str (val i) t) : CmpOf prog w A .Gt P (fun i j => decide ((val j).cps.toList < (val i).cps.toList)) := fun i j vi vj s Q E hi hj h => by
  obtain ⟨t, rfl⟩ := hval i vi hi; obtain ⟨u, rfl⟩ := hval j vj hj
  exact PySem.P.gt_str h
theorem strs_lt {P : Nat → Value → Prop} (val : Nat → Str) (hval : ∀ i v, P i v → ∃ t, v = .str (val i) t) : CmpOf prog w A .Lt P (fun i j => decide ((val i).cps.toList < (val j).cps.toList)) := fun i j vi vj s Q E hi hj h => by
  obtain ⟨t, rfl⟩ := hval i vi hi; obtain ⟨u, rfl⟩ := hval j vj hj
  exact lt_str h
theorem max2S {a b : Str} {t u : Tok} {Q : Value → Shared → Prop} (hh : A.handled = none) (h : ∀ h' tk, (∀ c o, s.heap.get? c = some o → h'.get? c = some o) → Q (if a.cps.toList < b.cps.toList then .str b u else .str a t) { s with heap := h', toks := tk }) :
    wpAny (model prog w) A (call (.builtin "max") [.str a t, .str b u]) Q E s := by
  have hT : (s.heap.push { cls := .type "tuple", data := .seq #[.str a t, .str b u] }).IsTuple s.heap.objs.size #[.str a t, .str b u] := ⟨_, Heap.get?_push_size _ rfl, rfl, 0, rfl⟩
  have hsz : (s.heap.push { cls := .type "tuple", data := .seq #[.str a t, .str b u] }).objs.size = s.heap.objs.size + 1 := Heap.size_push ..
  refine call_max_two (wpAny_pyIter_tuple hT ⟨_, [_, s.heap.objs.size], [_], _, _, _, _, rfl, Walks.tuple (A := A.in1) hh _ s.heap.objs.size (by rw [hsz]; exact Nat.ne_of_lt (Nat.lt_succ_self _)) #[.str a t, .str b u], ⟨⟨_, Heap.get?_push_size _ rfl, rfl, rfl⟩, hT.push _⟩, fun c hc => ?_, (by show 0 < 2; decide), strs_gt (fun i => if i = 0 then a else b) two_at, fun v h' tk hP hk => ?_⟩)
  · show c < ((s.heap.push _).push _).objs.size
    rw [Heap.size_push, hsz]
    have hc' : c = s.heap.objs.size + 1 ∨ c = s.heap.objs.size := by simpa [hsz] using hc
    rcases hc' with z | z <;> rw [z]
    · exact Nat.lt_succ_self _
    · exact Nat.lt_succ_of_lt (Nat.lt_succ_self _)
  · have hold : ∀ c o, s.heap.get? c = some o → h'.get? c = some o := fun c o e => hk c o (fun hm => far e (by simpa [hsz] using hm)) (Heap.get?_push_of_some _ (Heap.get?_push_of_some _ e))
    have hq := h h' tk hold
    have hP' : (#[Value.str a t, .str b u] : Array Value)[argBest (fun i j => decide ((if j = 0 then a else b).cps.toList < (if i = 0 then a else b).cps.toList)) 1]? = some v := hP
    by_cases hba : a.cps.toList < b.cps.toList
    · rw [if_pos hba] at hq
      have e : v = .str b u := by simpa [argBest, hba] using hP'.symm
      rw [e]; exact hq
    · rw [if_neg hba] at hq
      have e : v = .str a t := by simpa [argBest, hba] using hP'.symm
      rw [e]; exact hq
theorem min2S {a b : Str} {t u : Tok} {Q : Value → Shared → Prop} (hh : A.handled = none) (h : ∀ h' tk, (∀ c o, s.heap.get? c = some o → h'.get? c = some o) → Q (if b.cps.toList < a.cps.toList then .str b u else .str a t) { s with heap := h', toks := tk }) :
    wpAny (model prog w) A (call (.builtin "min") [.str a t, .str b u]) Q E s := by
  have hT : (s.heap.push { cls := .type "tuple", data := .seq #[.str a t, .str b u] }).IsTuple s.heap.objs.size #[.str a t, .str b u] := ⟨_, Heap.get?_push_size _ rfl, rfl, 0, rfl⟩
  have hsz : (s.heap.push { cls := .type "tuple", data := .seq #[.str a t, .str b u] }).objs.size = s.heap.objs.size + 1 := Heap.size_push ..
  refine call_min_two (wpAny_pyIter_tuple hT ⟨_, [_, s.heap.objs.size], [_], _, _, _, _, rfl, Walks.tuple (A := A.in1) hh _ s.heap.objs.size (by rw [hsz]; exact Nat.ne_of_lt (Nat.lt_succ_self _)) #[.str a t, .str b u], ⟨⟨_, Heap.get?_push_size _ rfl, rfl, rfl⟩, hT.push _⟩, fun c hc => ?_, (by show 0 < 2; decide), strs_lt (fun i => if i = 0 then a else b) two_at, fun v h' tk hP hk => ?_⟩)
  · show c < ((s.heap.push _).push _).objs.size
    rw [Heap.size_push, hsz]
    have hc' : c = s.heap.objs.size + 1 ∨ c = s.heap.objs.size := by simpa [hsz] using hc
    rcases hc' with z | z <;> rw [z]
    · exact Nat.lt_succ_self _
    · exact Nat.lt_succ_of_lt (Nat.lt_succ_self _)
  · have hold : ∀ c o, s.heap.get? c = some o → h'.get? c = some o := fun c o e => hk c o (fun hm => far e (by simpa [hsz] using hm)) (Heap.get?_push_of_some _ (Heap.get?_push_of_some _ e))
    have hq := h h' tk hold
    have hP' : (#[Value.str a t, .str b u] : Array Value)[argBest (fun i j => decide ((if i = 0 then a else b).cps.toList < (if j = 0 then a else b).cps.toList)) 1]? = some v := hP
    by_cases hba : b.cps.toList < a.cps.toList
    · rw [if_pos hba] at hq
      have e : v = .str b u := by simpa [argBest, hba] using hP'.symm
      rw [e]; exact hq
    · rw [if_neg hba] at hq
      have e : v = .str a t := by simpa [argBest, hba] using hP'.symm
      rw [e]; exact hq
end
section
variable {X : Cx}
def rMaxS : List V → Hp → VK → Prop := fun xs H Q => ∃ a b, xs = [.str a, .str b] ∧ Q (.str (if a.cps.toList < b.cps.toList then b else a)) H
def rMinS : List V → Hp → VK → Prop := fun xs H Q => ∃ a b, xs = [.str a, .str b] ∧ Q (.str (if b.cps.toList < a.cps.toList then b else a)) H
theorem call_max2S (hc : X.calm = true) : CallR X (.builtin "max") rMaxS := by
  intro pins s σ H xs us Q I r h
  obtain ⟨a, b, rfl, q⟩ := h
  obtain ⟨u, w', rfl, ⟨t, rfl⟩, ⟨t', rfl⟩⟩ := vals2 r
  refine max2S (I.ok.hd hc) fun h' tk k => ⟨_, H, I.kept k, ?_, q⟩
  split <;> exact ⟨_, rfl⟩
theorem call_min2S (hc : X.calm = true) : CallR X (.builtin "min") rMinS := by
  intro pins s σ H xs us Q I r h
  obtain ⟨a, b, rfl, q⟩ := h
  obtain ⟨u, w', rfl, ⟨t, rfl⟩, ⟨t', rfl⟩⟩ := vals2 r
  refine min2S (I.ok.hd hc) fun h' tk k => ⟨_, H, I.kept k, ?_, q⟩
  split <;> exact ⟨_, rfl⟩
/-! a pair of texts in a list of such -/
def pT (p : List Nat × List Nat) : List V := [.str (tx p.1), .str (tx p.2)]
def rInP (K : PySem.W.Frag) (neg : Bool) : R2 := fun x y H Q => ∃ (p t0 : Addr) (vs : List V) (ps : List (List Nat × List Nat)) (p0 : List Nat × List Nat), x = .ref t0 ∧ y = .ref p ∧ H t0 = some (.tup (pT p0)) ∧ SqL K H p vs ∧ Prs K H vs ps ∧ Q (.bl (if neg then !decide (p0 ∈ ps) else decide (p0 ∈ ps))) H
noncomputable def eP (H : Hp) (p0 : List Nat × List Nat) (u : Value) : Bool := match u with
  | .ref t => @decide (H t = some (.tup (pT p0))) (Classical.propDecidable _)
  | _ => false
theorem pT_inj {p q : List Nat × List Nat} (h : pT p = pT q) : p = q := by
  unfold pT at h
  injection h with h1 h2
  injection h2 with h2 _
  exact Prod.ext (tx_inj (V.str.inj h1)) (tx_inj (V.str.inj h2))
theorem eP_ref {H : Hp} {p p0 : List Nat × List Nat} {t : Addr} (c : H t = some (.tup (pT p))) : eP H p0 (.ref t) = decide (p = p0) := by
  show @decide (H t = some (.tup (pT p0))) (Classical.propDecidable _) = _
  by_cases h : p = p0
  · rw [decide_eq_true h]
    exact @decide_eq_true _ (Classical.propDecidable _) (by rw [c, h])
  · rw [decide_eq_false h]
    refine @decide_eq_false _ (Classical.propDecidable _) fun z => ?_
    rw [c] at z
    injection z with z
    injection z with z
    exact h (pT_inj z)
theorem any_eP {K : PySem.W.Frag} {H : Hp} {p0 : List Nat × List Nat} : ∀ {vs : List V} {its : List Value} {ps : List (List Nat × List Nat)}, Vals vs its → Prs K H vs ps → its.any (eP H p0) = decide (p0 ∈ ps)
  | _, _, _, .nil, .nil => by simp
  | _, _, _, .cons r rs, .cons (b := p) ⟨t, ht, c⟩ ps => by
    subst ht
    cases r
    rw [List.any_cons, any_eP rs ps]
    rw [eP_ref (p := p) c]
    by_cases h : p = p0
    · simp [h]
    · have h' : ¬ p0 = p := fun z => h z.symm
      simp [h, h']
theorem each_eP {pins : List (Addr × Obj)} {s : Shared} {σ : L2.St} {H : Hp} (I : Inv X pins σ H s) (hu : X.A.units + 64 < cLine) {t0 : Addr} {p0 : List Nat × List Nat} (h0 : H t0 = some (.tup (pT p0))) : ∀ {vs : List V} {its : List Value} {ps : List (List Nat × List Nat)}, Vals vs its → Prs X.K H vs ps → ∀ u ∈ its, SeqAt.EqAt X.A.in1 s u (.ref t0) (eP H p0 u)
  | _, _, _, .nil, .nil => fun u hu => by cases hu
  | _, _, _, .cons r rs, .cons (b := p) q ps => fun u' hu' => by
    rcases List.mem_cons.mp hu' with z | z
    · subst z
      obtain ⟨t, ht, c⟩ := id q
      subst ht
      cases r
      obtain ⟨as, r1⟩ := Dp.reads I (dSS p) _ _ q.dp rfl
      obtain ⟨bs, r2⟩ := Dp.reads I (dSS p0) (.ref t0) (.ref t0) (PrT.dp (p := p0) ⟨t0, rfl, h0⟩) rfl
      have key := PySem.W.eqAt_alike (dSS p) (dSS p0) X.A.in1 s _ _ as bs r1 r2 (by simp [dSS, PySem.W.alike, PySem.W.alikeAll]) (by
        have : (dSS p).depth ≤ 8 := by simp [dSS, PyData.depth, PyData.depthAll]
        show X.A.units + 1 + min (dSS p).depth (dSS p0).depth < cLine
        omega)
      have e : PyData.eqv (dSS p) (dSS p0) = eP H p0 (.ref t) := by
        rw [eP_ref (p := p) c]
        by_cases h : p = p0
        · subst h
          rw [PySem.W.eqv_refl_alike _ (by simp [dSS, PySem.W.alike, PySem.W.alikeAll]), decide_eq_true rfl]
        · rw [decide_eq_false h]
          have : ¬ (tx p.1 = tx p0.1 ∧ tx p.2 = tx p0.2) := fun ⟨a, b⟩ => h (Prod.ext (tx_inj a) (tx_inj b))
          simpa [dSS, PyData.eqv, PyData.eqvAll] using this
      rw [← e]
      exact key
    · exact each_eP I hu h0 rs ps u' z
theorem op_niP (hu : X.A.units + 64 < cLine) : OpR X (compareOp .NotIn) (rInP X.K true) := by
  intro pins s σ H x y v u Q I rx ry h
  obtain ⟨p, t0, vs, ps, p0, rfl, rfl, h0, hq, hp, q⟩ := h
  cases ry; cases rx
  obtain ⟨its, r, pl, hz⟩ := I.list hq
  refine SeqAt.notIn_listAt (eP H p0) pl.isList (fun w hw => each_eP I hu h0 r hp w (by simpa using hw)) ⟨.bl _, H, I, rfl, ?_⟩
  rw [show its.toArray.any (eP H p0) = its.any (eP H p0) by simp, any_eP r hp]; exact q
theorem op_inP (hu : X.A.units + 64 < cLine) : OpR X (compareOp .In) (rInP X.K false) := by
  intro pins s σ H x y v u Q I rx ry h
  obtain ⟨p, t0, vs, ps, p0, rfl, rfl, h0, hq, hp, q⟩ := h
  cases ry; cases rx
  obtain ⟨its, r, pl, hz⟩ := I.list hq
  refine SeqAt.in_listAt (eP H p0) pl.isList (fun w hw => each_eP I hu h0 r hp w (by simpa using hw)) ⟨.bl _, H, I, rfl, ?_⟩
  rw [show its.toArray.any (eP H p0) = its.any (eP H p0) by simp, any_eP r hp]; exact q
/-! sorted of a list of texts, of any length -/
def rSortLS (K : PySem.W.Frag) : List V → Hp → VK → Prop := fun vs H Q => ∃ (a : Addr) (xs : List Str), vs = [.ref a] ∧ SqL K H a (xs.map V.str) ∧ ∀ p, H p = none → Q (.ref p) (upd H p (.lst ((srt xs).map V.str)))
theorem paired_strs : ∀ xs : List Str, Paired (fun (v : V) (z : Str) => v = .str z) (xs.map V.str) xs
  | [] => .nil
  | x :: xs => .cons rfl (paired_strs xs)
theorem paired_strs' : ∀ {ys : List V} {xs : List Str}, Paired (fun (v : V) (z : Str) => v = .str z) ys xs → ys = xs.map V.str
  | _, _, .nil => rfl
  | _, _, .cons e t => by rw [paired_strs' t, e]; rfl
theorem cr_sortLS (hu : X.A.units + 64 < cLine) : CallR X (.builtin "sorted") (rSortLS X.K) := by
  intro pins s σ H vs us Q I r h
  obtain ⟨a, xs, rfl, hs, q⟩ := h
  refine cr_sortD (enc := fun k : Str => PyData.str k) hu pins s σ H _ us Q I r ⟨a, _, xs, fun v z => v = .str z, rfl, hs, paired_strs xs, fun v b e => by rw [e]; exact .str _, PySem.W.AllAlike.of fun _ _ => by simp [PySem.W.alike], PySem.W.Sortable.others fun _ => ⟨by simp, by simp⟩, fun b _ => by simp [PyData.depth], fun ys p hp hn => ?_⟩
  rw [PySem.W.dataLe_str (β := Str) (fun k => k)] at hp
  rw [paired_strs' hp]
  exact q p hn
end
end Hid

namespace Hid
open PySem PySem.Spec PyProof.Rows L2 Evl
/-! half-rows that fit a row, and its partings -/
abbrev Fit (r h : List Nat) : Prop := fitsO r (some h) = true
theorem fit_snoc (r h : List Nat) (c d : Nat) : fitsO (r ++ [c]) (some (h ++ [d])) = (fitsO r (some h) && (decide (d ∈ [110, 121]) && lt1 c d)) := by
  show ((decide ((h ++ [d]).length = (r ++ [c]).length) && ((h ++ [d]).all fun c => decide (c ∈ [110, 121]))) && (List.zipWith lt1 (r ++ [c]) (h ++ [d])).all id) = (((decide (h.length = r.length) && h.all fun c => decide (c ∈ [110, 121])) && (List.zipWith lt1 r h).all id) && (decide (d ∈ [110, 121]) && lt1 c d))
  by_cases hl : h.length = r.length
  · have e : (h ++ [d]).length = (r ++ [c]).length := by simp [hl]
    rw [List.zipWith_append hl.symm, List.all_append, List.all_append, decide_eq_true e, decide_eq_true hl]
    have e1 : ([d].all fun c => decide (c ∈ [110, 121])) = decide (d ∈ [110, 121]) := Bool.and_true _
    have e2 : (List.zipWith lt1 [c] [d]).all id = lt1 c d := Bool.and_true _
    rw [e1, e2]
    ac_rfl
  · have e : ¬ (h ++ [d]).length = (r ++ [c]).length := by simp [hl]
    rw [decide_eq_false e, decide_eq_false hl]
    simp only [Bool.false_and]
theorem fit_len {r h : List Nat} (f : Fit r h) : h.length = r.length ∧ ∀ c ∈ h, c = 110 ∨ c = 121 := by
  have h1 : (decide (h.length = r.length) && (h.all fun c => decide (c ∈ [110, 121])) && (List.zipWith lt1 r h).all id) = true := f
  rw [Bool.and_eq_true, Bool.and_eq_true] at h1
  refine ⟨of_decide_eq_true h1.1.1, fun c hc => ?_⟩
  have := List.all_eq_true.mp h1.1.2 c hc
  simpa using this
theorem sgn_or (k : Nat) : sgn k = 110 ∨ sgn k = 121 := by
  unfold sgn; split <;> simp
theorem tw_or (k : Nat) : tw 98 (sgn k) = 110 ∨ tw 98 (sgn k) = 121 := by
  rcases sgn_or k with h | h <;> rw [h] <;> decide
abbrev NBY (r : List Nat) : Prop := ∀ c ∈ r, c = 110 ∨ c = 98 ∨ c = 121
theorem last_of {n : Nat} {r : List Nat} (h : r.length = n + 1) : ∃ q c, r = q ++ [c] ∧ q.length = n := by
  have hne : r ≠ [] := fun z => by rw [z] at h; cases h
  exact ⟨r.dropLast, r.getLast hne, (List.dropLast_concat_getLast hne).symm, by rw [List.length_dropLast]; omega⟩
theorem fit_part : ∀ (n : Nat) (r : List Nat), r.length = n → NBY r → ∀ h : List Nat, Fit r h ↔ ∃ k, k < many r ∧ (h = (part r k).1 ∨ h = (part r k).2) := by
  intro n
  induction n with
  | zero =>
    intro r hn _ h
    have : r = [] := List.length_eq_zero_iff.mp hn
    subst this
    constructor
    · intro f
      exact ⟨0, by decide, .inl (List.length_eq_zero_iff.mp (fit_len f).1)⟩
    · rintro ⟨k, _, e | e⟩ <;> subst e <;> rfl
  | succ n ih =>
    intro r hn hr h
    obtain ⟨q, c, rfl, hq⟩ := last_of hn
    have hc := hr c (by simp)
    have ihq := ih q hq fun c hc => hr c (List.mem_append_left _ hc)
    constructor
    · intro f
      obtain ⟨fl, fc⟩ := fit_len f
      obtain ⟨g, d, rfl, _⟩ := last_of (fl.trans hn)
      have f' : fitsO (q ++ [c]) (some (g ++ [d])) = true := f
      rw [fit_snoc, Bool.and_eq_true, Bool.and_eq_true] at f'
      obtain ⟨f1, f2, f3⟩ := f'
      have hd : d = 110 ∨ d = 121 := fc d (by simp)
      obtain ⟨k, hk, hg⟩ := (ihq g).mp f1
      by_cases h98 : c = 98
      · subst h98
        by_cases h0 : q.count 98 = 0
        · have hm : many q = 1 := by unfold many; rw [h0]
          have k0 : k = 0 := by omega
          subst k0
          refine ⟨0, by rw [many_snoc, if_neg (fun h => h.2 h0)]; omega, ?_⟩
          rw [part_b]
          show g ++ [d] = (part q 0).1 ++ [110] ∨ g ++ [d] = (part q 0).2 ++ [121]
          rw [part_no_b q 0 h0] at hg ⊢
          have hg' : g = q := hg.elim id id
          rw [hg']
          rcases hd with e | e <;> rw [e]
          · exact .inl rfl
          · exact .inr rfl
        · have hm : many (q ++ [98]) = 2 * many q := by rw [many_snoc, if_pos ⟨rfl, h0⟩]
          have e0 : 2 * k / 2 = k := by omega
          have e1 : (2 * k + 1) / 2 = k := by omega
          rcases hg with e | e <;> rcases hd with e2 | e2
          · refine ⟨2 * k, by omega, .inl ?_⟩
            rw [part_b, e, e2, e0, (sgn_two k).1]
          · refine ⟨2 * k + 1, by omega, .inl ?_⟩
            rw [part_b, e, e2, e1, (sgn_two k).2]
          · refine ⟨2 * k + 1, by omega, .inr ?_⟩
            rw [part_b, e, e2, e1, (sgn_two k).2, tw_b.2]
          · refine ⟨2 * k, by omega, .inr ?_⟩
            rw [part_b, e, e2, e0, (sgn_two k).1, tw_b.1]
      · have hcd : c = d := by
          unfold lt1 at f3
          rw [decide_eq_false h98, Bool.false_or] at f3
          exact of_decide_eq_true f3
        refine ⟨k, by rw [many_snoc, if_neg (fun h => h98 h.1)]; exact hk, ?_⟩
        rw [part_o _ _ _ h98, ← hcd]
        rcases hg with e | e <;> rw [e]
        · exact .inl rfl
        · exact .inr rfl
    · rintro ⟨k, hk, e⟩
      by_cases h98 : c = 98
      · subst h98
        have hk2 : k / 2 < many q := by
          rw [many_snoc] at hk
          by_cases h0 : q.count 98 = 0
          · rw [if_neg (fun h => h.2 h0)] at hk; omega
          · rw [if_pos ⟨rfl, h0⟩] at hk; omega
        rw [part_b] at e
        rcases e with e | e <;> rw [e]
        · show fitsO _ _ = true
          rw [fit_snoc, show fitsO q (some (part q (k / 2)).1) = true from (ihq _).mpr ⟨k / 2, hk2, .inl rfl⟩]
          rcases sgn_or k with z | z <;> rw [z] <;> rfl
        · show fitsO _ _ = true
          rw [fit_snoc, show fitsO q (some (part q (k / 2)).2) = true from (ihq _).mpr ⟨k / 2, hk2, .inr rfl⟩]
          rcases tw_or k with z | z <;> rw [z] <;> rfl
      · have hc2 : c = 110 ∨ c = 121 := by
          rcases hc with z | z | z
          · exact .inl z
          · exact absurd z h98
          · exact .inr z
        rw [many_snoc, if_neg (fun h => h98 h.1)] at hk
        rw [part_o _ _ _ h98] at e
        rcases e with e | e <;> rw [e]
        · show fitsO _ _ = true
          rw [fit_snoc, show fitsO q (some (part q k).1) = true from (ihq _).mpr ⟨k, hk, .inl rfl⟩]
          rcases hc2 with z | z <;> rw [z] <;> rfl
        · show fitsO _ _ = true
          rw [fit_snoc, show fitsO q (some (part q k).2) = true from (ihq _).mpr ⟨k, hk, .inr rfl⟩]
          rcases hc2 with z | z <;> rw [z] <;> rfl
/-! the number read off the lesser half -/
def numB (r h : List Nat) : Nat := (r.zip h).foldl (fun n p => if p.1 = 98 then 2 * n + (if p.2 = 121 then 1 else 0) else n) 0
theorem numB_snoc (r h : List Nat) (c d : Nat) (e : h.length = r.length) : numB (r ++ [c]) (h ++ [d]) = if c = 98 then 2 * numB r h + (if d = 121 then 1 else 0) else numB r h := by
  unfold numB
  rw [List.zip_append e.symm, List.foldl_append]
  rfl
theorem numB_part : ∀ (n : Nat) (r : List Nat), r.length = n → ∀ k, k < 2 ^ r.count 98 → numB r (part r k).1 = k := by
  intro n
  induction n with
  | zero =>
    intro r hn k hk
    have : r = [] := List.length_eq_zero_iff.mp hn
    subst this
    have k0 : k = 0 := by simpa using hk
    subst k0
    rfl
  | succ n ih =>
    intro r hn k hk
    obtain ⟨q, c, rfl, hq⟩ := last_of hn
    by_cases h98 : c = 98
    · subst h98
      rw [part_b]
      show numB (q ++ [98]) ((part q (k / 2)).1 ++ [sgn k]) = k
      rw [List.count_append, show List.count 98 [98] = 1 from rfl, Nat.pow_succ] at hk
      rw [numB_snoc _ _ _ _ (show (part q (k / 2)).1.length = q.length from lesser_len _ _), if_pos rfl, ih q hq (k / 2) (by omega)]
      unfold sgn
      by_cases h2 : k % 2 = 0
      · rw [if_pos h2, if_neg (by decide)]; omega
      · rw [if_neg h2, if_pos rfl]; omega
    · have h0 : List.count 98 [c] = 0 := List.count_eq_zero.mpr (by simpa using fun z => h98 z.symm)
      rw [List.count_append, h0] at hk
      rw [part_o _ _ _ h98]
      show numB (q ++ [c]) ((part q k).1 ++ [c]) = k
      rw [numB_snoc _ _ _ _ (show (part q k).1.length = q.length from lesser_len _ _), if_neg h98]
      exact ih q hq k hk
theorem many_le (r : List Nat) : many r ≤ 2 ^ r.count 98 := Nat.pow_le_pow_right (by decide) (by omega)
theorem turned_back : ∀ (r h : List Nat), h.length = r.length → (∀ c ∈ h, c = 110 ∨ c = 121) → turned r (turned r h) = h
  | [], [], _, _ => rfl
  | [], _ :: _, e, _ => nomatch e
  | _ :: _, [], e, _ => nomatch e
  | c :: r, d :: h, e, hc => by
    show tw c (tw c d) :: turned r (turned r h) = d :: h
    rw [turned_back r h (by simpa using e) fun x hx => hc x (List.mem_cons_of_mem _ hx)]
    congr 1
    by_cases h98 : c = 98 <;> rcases hc d List.mem_cons_self with z | z <;> simp [tw, h98, z]
theorem fit_of {r : List Nat} (hr : NBY r) {h : List Nat} : Fit r h ↔ ∃ k, k < many r ∧ (h = (part r k).1 ∨ h = (part r k).2) := fit_part _ r rfl hr h
theorem part_back {r : List Nat} (hr : NBY r) {k : Nat} (hk : k < many r) : turned r (part r k).2 = (part r k).1 := by
  obtain ⟨h1, h2⟩ := fit_len ((fit_of hr).mpr ⟨k, hk, .inl rfl⟩)
  exact turned_back r _ h1 h2
theorem fit_turned {r h : List Nat} (hr : NBY r) (f : Fit r h) : Fit r (turned r h) ∧ turned r (turned r h) = h := by
  obtain ⟨h1, h2⟩ := fit_len f
  refine ⟨?_, turned_back r h h1 h2⟩
  obtain ⟨k, hk, e | e⟩ := (fit_of hr).mp f
  · exact (fit_of hr).mpr ⟨k, hk, .inr (by rw [e]; rfl)⟩
  · exact (fit_of hr).mpr ⟨k, hk, .inl (by rw [e, part_back hr hk])⟩
theorem part_lt : ∀ (n : Nat) (r : List Nat), r.length = n → 98 ∈ r → ∀ k l, k < many r → l < many r → (part r k).1 < (part r l).2 := by
  intro n
  induction n with
  | zero =>
    intro r hn h
    have : r = [] := List.length_eq_zero_iff.mp hn
    subst this
    cases h
  | succ n ih =>
    intro r hn hm k l hk hl
    obtain ⟨q, c, rfl, hq⟩ := last_of hn
    have ln : ∀ i j, (part q i).1.length = (part q j).2.length := fun i j => ((part_good q).1 i).1.trans ((part_good q).1 j).2.1.symm
    by_cases h98 : c = 98
    · subst h98
      rw [part_b, part_b]
      rw [many_snoc] at hk hl
      by_cases h0 : q.count 98 = 0
      · rw [if_neg (fun h => h.2 h0)] at hk hl
        have hm : many q = 1 := by unfold many; rw [h0]
        have k0 : k = 0 := by omega
        have l0 : l = 0 := by omega
        subst k0 l0
        rw [part_no_b q _ h0]
        exact app_same q 110 121 (by decide)
      · rw [if_pos ⟨rfl, h0⟩] at hk hl
        exact app_lt _ _ _ _ (ln _ _) (ih q hq (List.count_pos_iff.mp (by omega)) _ _ (by omega) (by omega))
    · rw [many_snoc, if_neg (fun h => h98 h.1)] at hk hl
      rw [part_o _ _ _ h98, part_o _ _ _ h98]
      have hq98 : 98 ∈ q := by
        rcases List.mem_append.mp hm with z | z
        · exact z
        · exact absurd (List.mem_singleton.mp z).symm h98
      exact app_lt _ _ _ _ (ln _ _) (ih q hq hq98 _ _ hk hl)
theorem lt_ne {a b : List Nat} (h : a < b) : a ≠ b := fun e => by rw [e] at h; exact List.lt_irrefl _ h
/-! all that is told of the partings -/
def tolds (p : List Nat × List Nat) : List (List Nat) := if p.1 ≠ p.2 then [p.1, p.2] else [p.1]
def told (r : List Nat) (n : Nat) : List (List Nat) := (List.range n).flatMap fun k => tolds (part r k)
theorem told_succ (r : List Nat) (n : Nat) : told r (n + 1) = told r n ++ tolds (part r n) := by
  unfold told
  rw [List.range_succ, List.flatMap_append]
  simp
theorem mem_tolds {x : List Nat} {p : List Nat × List Nat} : x ∈ tolds p ↔ x = p.1 ∨ x = p.2 := by
  unfold tolds
  by_cases h : p.1 = p.2
  · rw [if_neg (by simpa using h)]; simp [h]
  · rw [if_pos h]; simp
theorem mem_told {r : List Nat} (hr : NBY r) {x : List Nat} : x ∈ told r (many r) ↔ Fit r x := by
  unfold told
  rw [List.mem_flatMap, fit_of hr]
  constructor
  · rintro ⟨k, hk, e⟩; exact ⟨k, List.mem_range.mp hk, mem_tolds.mp e⟩
  · rintro ⟨k, hk, e⟩; exact ⟨k, List.mem_range.mpr hk, mem_tolds.mpr e⟩
theorem one_many {r : List Nat} (h : 98 ∉ r) : many r = 1 ∧ ∀ k, part r k = (r, r) := by
  have h0 : r.count 98 = 0 := List.count_eq_zero.mpr h
  exact ⟨by unfold many; rw [h0], fun k => part_no_b r k h0⟩
theorem told_one {r : List Nat} (h : 98 ∉ r) : told r (many r) = [r] := by
  obtain ⟨h1, h2⟩ := one_many h
  rw [h1]
  show tolds (part r 0) ++ [] = [r]
  rw [h2, List.append_nil]
  unfold tolds
  rw [if_neg (by simp)]
theorem part_ne {r : List Nat} (h : 98 ∈ r) (k : Nat) : (part r k).1 ≠ (part r k).2 := turned_ne r _ (lesser_len _ _) h
theorem told_nodup {r : List Nat} (hr : NBY r) : (told r (many r)).Nodup := by
  by_cases h : 98 ∈ r
  · unfold told
    refine List.pairwise_flatMap.mpr ⟨fun k hk => ?_, ?_⟩
    · unfold tolds
      rw [if_pos (part_ne h k)]
      exact List.pairwise_cons.mpr ⟨fun x hx => by rw [List.mem_singleton.mp hx]; exact part_ne h k, List.pairwise_singleton _ _⟩
    · refine List.Pairwise.imp_of_mem ?_ (List.pairwise_lt_range (n := many r))
      intro k l hk hl hkl x hx y hy
      have hk' := List.mem_range.mp hk
      have hl' := List.mem_range.mp hl
      have h1 := lt_ne ((part_good r).2.2 k l hkl hl')
      rcases mem_tolds.mp hx with e | e <;> rcases mem_tolds.mp hy with e2 | e2 <;> rw [e, e2]
      · exact h1
      · exact lt_ne (part_lt _ r rfl h k l hk' hl')
      · exact (lt_ne (part_lt _ r rfl h l k hl' hk')).symm
      · intro z
        refine h1 ?_
        rw [← part_back hr hk', ← part_back hr hl', z]
  · rw [told_one h]
    exact List.pairwise_singleton _ _
theorem told_len (r : List Nat) (h : 98 ∈ r) : ∀ n, (told r n).length = 2 * n
  | 0 => rfl
  | n + 1 => by
    rw [told_succ, List.length_append, told_len r h n]
    unfold tolds
    rw [if_pos (part_ne h n)]
    show 2 * n + 2 = _
    omega
theorem told_le (r : List Nat) : ∀ n, (told r n).length ≤ 2 * n
  | 0 => Nat.le_refl _
  | n + 1 => by
    rw [told_succ, List.length_append]
    have := told_le r n
    have h2 : (tolds (part r n)).length ≤ 2 := by unfold tolds; split <;> simp
    omega
/-! the lesser and the greater -/
def mn (a b : List Nat) : List Nat := if b < a then b else a
def mx (a b : List Nat) : List Nat := if a < b then b else a
theorem mnmx {a b : List Nat} (h : a = b ∨ a < b) : (mn a b, mx a b) = (a, b) ∧ (mn b a, mx b a) = (a, b) := by
  unfold mn mx
  rcases h with e | e
  · subst e
    rw [if_neg (List.lt_irrefl _)]
    exact ⟨rfl, rfl⟩
  · have n : ¬ b < a := fun z => List.lt_irrefl _ (List.lt_trans e z)
    simp only [if_neg n, if_pos e, and_self]
theorem fit_pair {r h : List Nat} (hr : NBY r) (f : Fit r h) : ∃ k, k < many r ∧ part r k = (mn h (turned r h), mx h (turned r h)) := by
  obtain ⟨k, hk, e⟩ := (fit_of hr).mp f
  refine ⟨k, hk, ?_⟩
  obtain ⟨m1, m2⟩ := mnmx ((part_good r).2.1 k hk)
  rcases e with e | e
  · have e2 : turned r h = (part r k).2 := by rw [e]; rfl
    rw [e2, e]
    exact m1.symm
  · have e2 : turned r h = (part r k).1 := by rw [e]; exact part_back hr hk
    rw [e2, e]
    exact m2.symm
/-! two half-rows and their row -/
theorem rowBy_lt : ∀ a b : List Nat, (List.zipWith lt1 (rowBy a b) a).all id = true
  | [], _ => by cases ‹List Nat› <;> rfl
  | _ :: _, [] => rfl
  | s :: a, t :: b => by
    show (lt1 (rb s t) s && (List.zipWith lt1 (rowBy a b) a).all id) = true
    rw [rowBy_lt a b, Bool.and_true]
    unfold lt1 rb
    by_cases h : s = t
    · rw [if_pos h, decide_eq_true rfl, Bool.or_true]
    · rw [if_neg h, decide_eq_true rfl, Bool.true_or]
theorem rowBy_turn : ∀ a b : List Nat, a.length = b.length → (∀ c ∈ a, c = 110 ∨ c = 121) → (∀ c ∈ b, c = 110 ∨ c = 121) → turned (rowBy a b) a = b
  | [], [], _, _, _ => rfl
  | [], _ :: _, e, _, _ => nomatch e
  | _ :: _, [], e, _, _ => nomatch e
  | s :: a, t :: b, e, ha, hb => by
    show tw (rb s t) s :: turned (rowBy a b) a = t :: b
    rw [rowBy_turn a b (by simpa using e) (fun x hx => ha x (List.mem_cons_of_mem _ hx)) fun x hx => hb x (List.mem_cons_of_mem _ hx)]
    congr 1
    rcases ha s List.mem_cons_self with z | z <;> rcases hb t List.mem_cons_self with y | y <;> rw [z, y] <;> decide
theorem rowBy_nby : ∀ a b : List Nat, (∀ c ∈ a, c = 110 ∨ c = 121) → NBY (rowBy a b)
  | [], _, _ => by intro c hc; cases ‹List Nat› <;> cases hc
  | _ :: _, [], _ => by intro c hc; cases hc
  | s :: a, t :: b, ha => by
    intro c hc
    rcases List.mem_cons.mp (show c ∈ rb s t :: rowBy a b from hc) with e | e
    · rw [e]
      unfold rb
      split
      · rcases ha s List.mem_cons_self with z | z <;> simp [z]
      · exact .inr (.inl rfl)
    · exact rowBy_nby a b (fun x hx => ha x (List.mem_cons_of_mem _ hx)) c e
abbrev HalfN (m : Nat) (h : List Nat) : Prop := h.length = m ∧ ∀ c ∈ h, c = 110 ∨ c = 121
theorem fit_mk {r h : List Nat} (hl : h.length = r.length) (hc : ∀ c ∈ h, c = 110 ∨ c = 121) : fitsO r (some h) = (List.zipWith lt1 r h).all id := by
  show ((decide (h.length = r.length) && h.all fun c => decide (c ∈ [110, 121])) && (List.zipWith lt1 r h).all id) = _
  have h2 : (h.all fun c => decide (c ∈ [110, 121])) = true := List.all_eq_true.mpr fun c hx => decide_eq_true (by simpa using hc c hx)
  rw [decide_eq_true hl, h2]
  rfl
theorem two_part {m : Nat} {a b : List Nat} (ha : HalfN m a) (hb : HalfN m b) : ∃ k, k < many (rowBy a b) ∧ part (rowBy a b) k = (mn a b, mx a b) := by
  have hl : a.length = (rowBy a b).length := by unfold rowBy; rw [List.length_zipWith, ha.1, hb.1, Nat.min_self]
  obtain ⟨k, hk, e⟩ := fit_pair (rowBy_nby a b ha.2) (show Fit (rowBy a b) a from (fit_mk hl ha.2).trans (rowBy_lt a b))
  rw [rowBy_turn a b (ha.1.trans hb.1.symm) ha.2 hb.2] at e
  exact ⟨k, hk, e⟩
/-! all half-rows of a length -/
def allH : Nat → List (List Nat)
  | 0 => [[]]
  | n + 1 => (allH n).map (· ++ [110]) ++ (allH n).map (· ++ [121])
theorem allH_mem : ∀ {n : Nat} {h : List Nat}, h ∈ allH n ↔ HalfN n h
  | 0, h => by
    constructor
    · intro q
      rw [List.mem_singleton.mp q]
      exact ⟨rfl, fun c hc => nomatch hc⟩
    · intro q
      rw [List.length_eq_zero_iff.mp q.1]
      exact List.mem_singleton.mpr rfl
  | n + 1, h => by
    have mk : ∀ {g : List Nat} {d : Nat}, (d = 110 ∨ d = 121) → g ∈ allH n → HalfN (n + 1) (g ++ [d]) := fun {g d} hd hg => by
      obtain ⟨l, c⟩ := allH_mem.mp hg
      refine ⟨by rw [List.length_append, l]; rfl, fun x hx => ?_⟩
      rcases List.mem_append.mp hx with z | z
      · exact c x z
      · rw [List.mem_singleton.mp z]; exact hd
    constructor
    · intro q
      rcases List.mem_append.mp q with z | z <;> obtain ⟨g, hg, rfl⟩ := List.mem_map.mp z
      · exact mk (.inl rfl) hg
      · exact mk (.inr rfl) hg
    · rintro ⟨l, c⟩
      obtain ⟨g, d, rfl, hg⟩ := last_of l
      have hm : g ∈ allH n := allH_mem.mpr ⟨hg, fun x hx => c x (List.mem_append_left _ hx)⟩
      rcases c d (by simp) with z | z <;> rw [z]
      · exact List.mem_append_left _ (List.mem_map.mpr ⟨g, hm, rfl⟩)
      · exact List.mem_append_right _ (List.mem_map.mpr ⟨g, hm, rfl⟩)
theorem allH_nodup : ∀ n, (allH n).Nodup
  | 0 => List.pairwise_singleton _ _
  | n + 1 => by
    have hm : ∀ d : Nat, ((allH n).map (· ++ [d])).Nodup := fun d => List.pairwise_map.mpr ((allH_nodup n).imp fun ne e => ne (List.append_cancel_right e))
    refine List.nodup_append.mpr ⟨hm _, hm _, fun x hx y hy e => ?_⟩
    obtain ⟨g, _, rfl⟩ := List.mem_map.mp hx
    obtain ⟨g2, _, rfl⟩ := List.mem_map.mp hy
    have := congrArg List.getLast? e
    simp at this
theorem allH_len : ∀ n, (allH n).length = 2 ^ n
  | 0 => rfl
  | n + 1 => by
    show ((allH n).map _ ++ (allH n).map _).length = _
    rw [List.length_append, List.length_map, List.length_map, allH_len n, Nat.pow_succ]
    omega
theorem rise_uniq : ∀ {l m : List Str}, Rise l → Rise m → (∀ x, x ∈ l ↔ x ∈ m) → l = m
  | [], [], _, _, _ => rfl
  | [], y :: m, _, _, e => absurd ((e y).mpr List.mem_cons_self) (by simp)
  | x :: l, [], _, _, e => absurd ((e x).mp List.mem_cons_self) (by simp)
  | x :: l, y :: m, hl, hm, e => by
    obtain ⟨l1, l2⟩ := List.pairwise_cons.mp hl
    obtain ⟨m1, m2⟩ := List.pairwise_cons.mp hm
    have hxy : x = y := by
      rcases List.mem_cons.mp ((e x).mp List.mem_cons_self) with z | z
      · exact z
      · rcases List.mem_cons.mp ((e y).mpr List.mem_cons_self) with z2 | z2
        · exact z2.symm
        · exact absurd (List.lt_trans (m1 x z) (l1 y z2)) (List.lt_irrefl _)
    subst hxy
    rw [rise_uniq l2 m2 fun z => ?_]
    constructor
    · intro hz
      rcases List.mem_cons.mp ((e z).mp (List.mem_cons_of_mem _ hz)) with w | w
      · have := l1 z hz
        rw [w] at this
        exact absurd this (List.lt_irrefl _)
      · exact w
    · intro hz
      rcases List.mem_cons.mp ((e z).mpr (List.mem_cons_of_mem _ hz)) with w | w
      · have := m1 z hz
        rw [w] at this
        exact absurd this (List.lt_irrefl _)
      · exact w
theorem nodup_tx {l : List (List Nat)} (h : l.Nodup) : (l.map tx).Nodup := List.pairwise_map.mpr (h.imp fun ne e => ne (tx_inj e))
def HL (n : Nat) : List (List Nat) := (srt ((allH n).map tx)).map fun z => z.cps.toList
theorem HL_tx (n : Nat) : (HL n).map tx = srt ((allH n).map tx) := by
  unfold HL
  rw [List.map_map]
  conv => rhs; rw [← List.map_id (srt ((allH n).map tx))]
  exact List.map_congr_left fun z _ => tx_cps z
theorem HL_mem {n : Nat} {h : List Nat} : h ∈ HL n ↔ HalfN n h := by
  rw [← allH_mem]
  constructor
  · intro q
    have : tx h ∈ (HL n).map tx := List.mem_map.mpr ⟨h, q, rfl⟩
    rw [HL_tx, mem_srt] at this
    obtain ⟨g, hg, e⟩ := List.mem_map.mp this
    rw [← tx_inj e]
    exact hg
  · intro q
    have : tx h ∈ srt ((allH n).map tx) := mem_srt.mpr (List.mem_map.mpr ⟨h, q, rfl⟩)
    rw [← HL_tx] at this
    obtain ⟨g, hg, e⟩ := List.mem_map.mp this
    rw [← tx_inj e]
    exact hg
theorem HL_len (n : Nat) : (HL n).length = 2 ^ n := by
  unfold HL
  rw [List.length_map, srt_len, List.length_map, allH_len]
theorem told_sorted {r : List Nat} (hr : NBY r) : srt ((told r (many r)).map tx) = ((HL r.length).filter fun h => fitsO r (some h)).map tx := by
  refine rise_uniq (rise_of (nodup_tx (told_nodup hr))).1 ?_ fun x => ?_
  · have h1 : Rise ((HL r.length).map tx) := by rw [HL_tx]; exact (rise_of (nodup_tx (allH_nodup _))).1
    exact List.Pairwise.sublist (List.filter_sublist.map tx) h1
  · rw [mem_srt, List.mem_map, List.mem_map]
    constructor
    · rintro ⟨h, hm, e⟩
      have f := (mem_told hr).mp hm
      exact ⟨h, List.mem_filter.mpr ⟨HL_mem.mpr (fit_len f), f⟩, e⟩
    · rintro ⟨h, hm, e⟩
      exact ⟨h, (mem_told hr).mpr (List.mem_filter.mp hm).2, e⟩
end Hid

namespace Hid
open PySem PySem.Spec PyProof.Rows L2 Evl
/-! families: what a thing is, as far as it is looked at -/
def NotU (K : PySem.W.Frag) (H : Hp) (v : V) : Prop := ∃ t, kitB t "tuple" = some false ∧ ∀ H1, Ex H H1 → TyX K H1 v (.type t)
section
variable {K : PySem.W.Frag} {H H' : Hp} {v : V}
theorem NotU.ex (h : NotU K H v) (e : Ex H H') : NotU K H' v := let ⟨t, a, b⟩ := h; ⟨t, a, fun H1 e1 => b H1 (e.trans e1)⟩
theorem nu_non : NotU K H .non := ⟨"NoneType", by decide +kernel, fun _ _ => .base .non⟩
theorem nu_str (x : Str) : NotU K H (.str x) := ⟨"str", by decide +kernel, fun _ _ => .base (.str x)⟩
theorem nu_lst {a : Addr} {xs : List V} (h : H a = some (.lst xs)) : NotU K H (.ref a) := ⟨"list", by decide +kernel, fun _ e => .base (.lst (e _ _ h))⟩
theorem nu_dict {a : Addr} {xs : List (Key × V)} (h : H a = some (.dK xs)) : NotU K H (.ref a) := ⟨"dict", by decide +kernel, fun _ e => .base (.dK (e _ _ h))⟩
end
abbrev nby : List Nat := [110, 98, 121]
def rowO (o : Option (List Nat)) (n : Nat) : Bool := wr o nby && (match o with | none => false | some z => decide (z.length = n))
inductive Fm where
  | non
  | len (n : Nat)
  | three (x y : Option (List Nat)) (z : Option (List (Option (List Nat))))
def YgOk (K : PySem.W.Frag) (H : Hp) (v : V) : Option (List (Option (List Nat))) → Prop
  | none => NotU K H v
  | some os => ∃ b vs, v = .ref b ∧ H b = some (.tup vs) ∧ Paired (Th K H) vs os
def FmOk (K : PySem.W.Frag) (H : Hp) (v : V) : Fm → Prop
  | .non => NotU K H v
  | .len n => n ≠ 3 ∧ ∃ a xs, v = .ref a ∧ H a = some (.tup xs) ∧ xs.length = n
  | .three ox oy oz => ∃ a x y z, v = .ref a ∧ H a = some (.tup [x, y, z]) ∧ Th K H x ox ∧ Th K H y oy ∧ YgOk K H z oz
def famB : Fm → Bool
  | .three (some z) oy (some os) => wr (some z) nby && (rowO oy z.length && (decide (1 ≤ os.length ∧ os.length ≤ 3) && os.all fun o => rowO o z.length))
  | _ => false
section
variable {K : PySem.W.Frag} {H H' : Hp} {v : V}
theorem YgOk.ex : ∀ {o : Option (List (Option (List Nat)))}, YgOk K H v o → Ex H H' → YgOk K H' v o
  | none, h, e => NotU.ex h e
  | some os, h, e => let ⟨b, vs, a, c, d⟩ := h; ⟨b, vs, a, e _ _ c, paired_mono (fun _ _ q => q.ex e) d⟩
theorem FmOk.ex : ∀ {f : Fm}, FmOk K H v f → Ex H H' → FmOk K H' v f
  | .non, h, e => NotU.ex h e
  | .len n, h, e => let ⟨h0, a, xs, h1, h2, h3⟩ := h; ⟨h0, a, xs, h1, e _ _ h2, h3⟩
  | .three ox oy oz, h, e => let ⟨a, x, y, z, h1, h2, h3, h4, h5⟩ := h; ⟨a, x, y, z, h1, e _ _ h2, h3.ex e, h4.ex e, h5.ex e⟩
end
theorem rowO_none (n : Nat) : rowO none n = false := rfl
theorem rowO_len {z : List Nat} {n : Nat} (h : z.length ≠ n) : rowO (some z) n = false := by
  unfold rowO
  show (_ && decide (z.length = n)) = false
  rw [decide_eq_false h, Bool.and_false]
theorem rowO_wr {o : Option (List Nat)} {n : Nat} (h : wr o nby = false) : rowO o n = false := by unfold rowO; rw [h, Bool.false_and]
theorem rowO_row {r : List Nat} (h : RowL r) : rowO (some r) r.length = true := by
  unfold rowO
  rw [row_wr h]
  show (true && decide (r.length = r.length)) = true
  rw [decide_eq_true rfl]
  rfl
theorem bad_x {ox oy : Option (List Nat)} {oz : Option (List (Option (List Nat)))} (h : wr ox nby = false) : famB (.three ox oy oz) = false := by
  cases ox with
  | none => rfl
  | some z =>
    cases oz with
    | none => rfl
    | some os =>
      show (wr (some z) nby && _) = false
      rw [h, Bool.false_and]
theorem bad_y {z : List Nat} {oy : Option (List Nat)} {oz : Option (List (Option (List Nat)))} (h : rowO oy z.length = false) : famB (.three (some z) oy oz) = false := by
  cases oz with
  | none => rfl
  | some os =>
    show (_ && (rowO oy z.length && _)) = false
    rw [h, Bool.false_and, Bool.and_false]
theorem bad_z {ox oy : Option (List Nat)} : famB (.three ox oy none) = false := by cases ox <;> rfl
theorem bad_l {ox oy : Option (List Nat)} {os : List (Option (List Nat))} (h : ¬ (1 ≤ os.length ∧ os.length ≤ 3)) : famB (.three ox oy (some os)) = false := by
  cases ox with
  | none => rfl
  | some z =>
    show (_ && (_ && (decide (1 ≤ os.length ∧ os.length ≤ 3) && _))) = false
    rw [decide_eq_false h, Bool.false_and, Bool.and_false, Bool.and_false]
theorem bad_o {z : List Nat} {oy o : Option (List Nat)} {os : List (Option (List Nat))} (ho : o ∈ os) (h : rowO o z.length = false) : famB (.three (some z) oy (some os)) = false := by
  show (_ && (_ && (_ && os.all fun o => rowO o z.length))) = false
  have : (os.all fun o => rowO o z.length) = false := by
    rw [Bool.eq_false_iff]
    intro hall
    have := List.all_eq_true.mp hall o ho
    rw [h] at this
    cases this
  rw [this, Bool.and_false, Bool.and_false, Bool.and_false]
theorem fam_good {r1 r2 : List Nat} {ys : List (List Nat)} (h1 : RowL r1) (h2 : RowL r2) (hl : r2.length = r1.length) (hn : 1 ≤ ys.length ∧ ys.length ≤ 3) (hy : ∀ y ∈ ys, RowL y ∧ y.length = r1.length) : famB (.three (some r1) (some r2) (some (ys.map some))) = true := by
  show (wr (some r1) nby && (rowO (some r2) r1.length && (decide (1 ≤ (ys.map some).length ∧ (ys.map some).length ≤ 3) && (ys.map some).all fun o => rowO o r1.length))) = true
  have h3 := rowO_row h2
  rw [hl] at h3
  have h4 : ((ys.map some).all fun o => rowO o r1.length) = true := List.all_eq_true.mpr fun o ho => by
    obtain ⟨y, hm, rfl⟩ := List.mem_map.mp ho
    obtain ⟨a, b⟩ := hy y hm
    rw [← b]
    exact rowO_row a
  rw [row_wr h1, h3, h4, List.length_map, decide_eq_true hn]
  rfl
/-! what is no family -/
def Bad (K : PySem.W.Frag) (v : V) (H : Hp) : Prop := ∃ f, FmOk K H v f ∧ famB f = false
theorem Bad.ex {K : PySem.W.Frag} {H H' : Hp} {v : V} (h : Bad K v H) (e : Ex H H') : Bad K v H' := let ⟨f, a, b⟩ := h; ⟨f, a.ex e, b⟩
def Bads (K : PySem.W.Frag) (n : Nat) (vs : List V) (H : Hp) : Prop := vs.length = n ∧ ∀ v ∈ vs, Bad K v H
theorem Bads.ex {K : PySem.W.Frag} {H H' : Hp} {n : Nat} {vs : List V} (h : Bads K n vs H) (e : Ex H H') : Bads K n vs H' := ⟨h.1, fun v hv => (h.2 v hv).ex e⟩
theorem Bads.app {K : PySem.W.Frag} {H : Hp} {m n : Nat} {vs ws : List V} (h : Bads K m vs H) (h' : Bads K n ws H) : Bads K (m + n) (vs ++ ws) H := ⟨by rw [List.length_append, h.1, h'.1], fun v hv => by
  rcases List.mem_append.mp hv with z | z
  · exact h.2 v z
  · exact h'.2 v z⟩
section
variable {K : PySem.W.Frag} {σ : L2.St} {H H' : Hp} {ta tb tc te : TE} {ts : TA} {D : Ends} {tz : TS}
abbrev EvX (K : PySem.W.Frag) (te : TE) (σ : L2.St) (H : Hp) (o : Option (List Nat)) : Prop := EvP te σ H fun v H => Th K H v o
abbrev EvY (K : PySem.W.Frag) (te : TE) (σ : L2.St) (H : Hp) (o : Option (List (Option (List Nat)))) : Prop := EvP te σ H fun v H => YgOk K H v o
theorem ep_ev {v : V} {P : V → Hp → Prop} (h : Ev te σ H v) (hp : ∀ H1, Ex H H1 → P v H1) : EvP te σ H P := fun H1 e Q q => h H1 e _ fun H2 e2 => q _ H2 e2 (hp H2 (e.trans e2))
theorem ep_mono {P : V → Hp → Prop} (h : EvP te σ H P) (e : Ex H H') : EvP te σ H' P := fun H1 e1 Q q => h H1 (e.trans e1) Q q
theorem ex_ev {v : V} {o : Option (List Nat)} (h : Ev te σ H v) (hp : Th K H v o) : EvX K te σ H o := ep_ev h fun _ e => hp.ex e
theorem ey_ev {v : V} {o : Option (List (Option (List Nat)))} (h : Ev te σ H v) (hp : YgOk K H v o) : EvY K te σ H o := ep_ev h fun _ e => hp.ex e
theorem bad3 {ox oy : Option (List Nat)} {oz : Option (List (Option (List Nat)))} (h1 : EvX K ta σ H ox) (h2 : EvX K tb σ H oy) (h3 : EvY K tc σ H oz) (hb : famB (.three ox oy oz) = false) : EvP (tTup (tCons ta (tCons tb (tCons tc tNil)))) σ H (Bad K) := fun H1 e Q q =>
  h1 H1 e _ fun x H2 e2 hx => h2 H2 (e.trans e2) _ fun y H3 e3 hy => h3 H3 ((e.trans e2).trans e3) _ fun z H4 e4 hz => ⟨by show 3 ≤ sizeLine; decide, fun p hp => q _ _ ((e2.trans (e3.trans e4)).trans (Ex.new hp)) ⟨.three ox oy oz, ⟨p, x, y, z, rfl, upd_same, hx.ex ((e3.trans e4).trans (Ex.new hp)), hy.ex (e4.trans (Ex.new hp)), hz.ex (Ex.new hp)⟩, hb⟩⟩
/-- so many of any kind -/
def Any (n : Nat) (vs : List V) (_ : Hp) : Prop := vs.length = n
theorem an_nil : EvPs tNil σ H (Any 0) := fun H1 _ Q q => q [] H1 (Ex.refl _) rfl
theorem an_cons {P : V → Hp → Prop} {n : Nat} (h : EvP ta σ H P) (hr : EvPs ts σ H (Any n)) : EvPs (tCons ta ts) σ H (Any (n + 1)) := fun H1 e Q q =>
  h H1 e _ fun v H2 e2 _ => hr H2 (e.trans e2) _ fun vs H3 e3 hv => q _ H3 (e2.trans e3) (congrArg Nat.succ hv)
theorem badN {n : Nat} (h : EvPs ts σ H (Any n)) (hn : n ≠ 3) (hl : n ≤ 100000) : EvP (tTup ts) σ H (Bad K) := fun H1 e Q q =>
  h H1 e _ fun vs H2 e2 hv => ⟨sz_of (by have : vs.length = n := hv; omega), fun p hp => q _ _ (e2.trans (Ex.new hp)) ⟨.len n, ⟨hn, p, vs, rfl, upd_same, hv⟩, rfl⟩⟩
theorem badL {n : Nat} (h : EvPs ts σ H (Any n)) (hl : n ≤ 100000) : EvP (tLst ts) σ H (Bad K) := fun H1 e Q q =>
  h H1 e _ fun vs H2 e2 hv => ⟨sz_of (by have : vs.length = n := hv; omega), fun p hp => q _ _ (e2.trans (Ex.new hp)) ⟨.non, nu_lst upd_same, rfl⟩⟩
theorem yg0 : EvY K (tTup tNil) σ H (some []) := fun H1 e Q q => ⟨by show 0 ≤ sizeLine; decide, fun p hp => q _ _ (Ex.new hp) ⟨p, [], rfl, upd_same, .nil⟩⟩
theorem yg1 {o : Option (List Nat)} (h : EvX K ta σ H o) : EvY K (tTup (tCons ta tNil)) σ H (some [o]) := fun H1 e Q q =>
  h H1 e _ fun x H2 e2 hx => ⟨by show 1 ≤ sizeLine; decide, fun p hp => q _ _ (e2.trans (Ex.new hp)) ⟨p, [x], rfl, upd_same, .cons (hx.ex (Ex.new hp)) .nil⟩⟩
theorem yg4 {o : Option (List Nat)} (h : EvX K ta σ H o) : EvY K (tOp (rRepT K) (tTup (tCons ta tNil)) (tC (.int 4))) σ H (some [o, o, o, o]) := fun H1 e Q q =>
  h H1 e _ fun x H2 e2 hx => ⟨by show 1 ≤ sizeLine; decide, fun p hp => ⟨p, 4, [x], rfl, rfl, st_of upd_same, by simp, by decide, by decide, by show 1 ≤ 1000; decide, fun p2 hp2 => by
    have e3 := Ex.new (o := .tup [x]) hp
    have e4 := Ex.new (o := .tup (List.replicate (4 : Int).toNat [x]).flatten) hp2
    have hx' := hx.ex (e3.trans e4)
    exact q _ _ (e2.trans (e3.trans e4)) ⟨p2, [x, x, x, x], rfl, upd_same, .cons hx' (.cons hx' (.cons hx' (.cons hx' .nil)))⟩⟩⟩
theorem ygA {a : Addr} {vs : List V} {os : List (Option (List Nat))} {o : Option (List Nat)} (ha : Ev ta σ H (.ref a)) (hs : H a = some (.tup vs)) (hp : Paired (Th K H) vs os) (h0 : vs ≠ []) (hl : vs.length ≤ 1000) (h : EvX K tb σ H o) :
    EvY K (tOp (rCatA K) ta (tTup (tCons tb tNil))) σ H (some (os ++ [o])) := fun H1 e Q q =>
  ha H1 e _ fun H2 e2 => h H2 (e.trans e2) _ fun x H3 e3 hx => ⟨by show 1 ≤ sizeLine; decide, fun p np => by
    have e4 := Ex.new (o := .tup [x]) np
    have e14 : Ex H (upd H3 p (.tup [x])) := e.trans (e2.trans (e3.trans e4))
    refine ⟨a, p, vs, [x], rfl, rfl, st_of (e14 _ _ hs), st_of upd_same, sz_of (by show vs.length + 1 ≤ 100000; omega), fun z => absurd z h0, fun _ z => by simp at z, fun _ _ p2 np2 => ?_⟩
    have e5 := Ex.new (o := .tup (vs ++ [x])) np2
    exact q _ _ ((e2.trans (e3.trans e4)).trans e5) ⟨p2, vs ++ [x], rfl, upd_same, paired_app (paired_mono (fun _ _ z => z.ex (e14.trans e5)) hp) (.cons (hx.ex (e4.trans e5)) .nil)⟩⟩
theorem bps_nil : EvPs tNil σ H (Bads K 0) := fun H1 _ Q q => q [] H1 (Ex.refl _) ⟨rfl, fun _ z => nomatch z⟩
theorem bps_cons {n : Nat} (h : EvP ta σ H (Bad K)) (hr : EvPs ts σ H (Bads K n)) : EvPs (tCons ta ts) σ H (Bads K (n + 1)) := fun H1 e Q q =>
  h H1 e _ fun v H2 e2 hv => hr H2 (e.trans e2) _ fun vs H3 e3 hvs => q _ H3 (e2.trans e3) ⟨congrArg Nat.succ hvs.1, fun x hx => by
    rcases List.mem_cons.mp hx with z | z
    · rw [z]; exact hv.ex e3
    · exact hvs.2 x z⟩
theorem q_asgBs {i n : Nat} (h : EvPs ts σ H (Bads K n)) (hn : n ≤ 1000) (k : ∀ p vs H1, H1 p = none → Ex H H1 → Bads K n vs H1 → tz D (σ.set i (some (.ref p))) (upd H1 p (.lst vs))) : tSeq (tAsg (tLst ts) (gName i)) tz D σ H :=
  h H (Ex.refl _) _ fun vs H1 e1 hv => ⟨sz_of (by have := hv.1; omega), fun p hp => k p vs H1 hp e1 hv⟩
theorem q_asgCt {i j n m : Nat} {l : Addr} {xs : List V} (hx : σ[j]? = some (some (.ref l))) (hl : H l = some (.lst xs)) (hb : Bads K m xs H) (h : EvPs ts σ H (Bads K n)) (hn : m + n ≤ 1000) (k : ∀ p vs H1, H1 p = none → Ex H H1 → Bads K (m + n) vs H1 → tz D (σ.set i (some (.ref p))) (upd H1 p (.lst vs))) :
    tSeq (tAsg (tOp rCat (tVar j) (tLst ts)) (gName i)) tz D σ H :=
  ⟨_, hx, h H (Ex.refl _) _ fun vs H1 e1 hv => ⟨sz_of (by have := hv.1; omega), fun p np => by
    have e2 := Ex.new (o := .lst vs) np
    refine ⟨l, p, xs, vs, rfl, rfl, e2 _ _ (e1 _ _ hl), upd_same, sz_of (by rw [hb.1, hv.1]; omega), fun r hr => k r _ _ hr (e1.trans e2) ((hb.ex (e1.trans e2)).app (hv.ex e2))⟩⟩⟩
end
/-- a family as it stands -/
structure FamAt (H : Hp) (t b : Addr) (n : Nat) (r1 r2 : List Nat) (ys : List (List Nat)) : Prop where
  ht : H t = some (.tup [.str (tx r1), .str (tx r2), .ref b])
  hb : H b = some (.tup (ys.map fun y => .str (tx y)))
  h1 : RowL r1
  h2 : RowL r2
  l1 : r1.length = n
  l2 : r2.length = n
  hn : 1 ≤ ys.length ∧ ys.length ≤ 3
  hy : ∀ y ∈ ys, RowL y ∧ y.length = n
theorem FamAt.ex {H H' : Hp} {t b : Addr} {n : Nat} {r1 r2 : List Nat} {ys : List (List Nat)} (h : FamAt H t b n r1 r2 ys) (e : Ex H H') : FamAt H' t b n r1 r2 ys := { h with ht := e _ _ h.ht, hb := e _ _ h.hb }
theorem rows_th {K : PySem.W.Frag} {H : Hp} : ∀ {ys : List (List Nat)}, (∀ y ∈ ys, y.length ≤ 1000) → Paired (Th K H) (ys.map fun y => V.str (tx y)) (ys.map some)
  | [], _ => .nil
  | y :: ys, h => .cons (th_str y (h y List.mem_cons_self)) (rows_th fun z hz => h z (List.mem_cons_of_mem _ hz))
theorem FamAt.fm {K : PySem.W.Frag} {H : Hp} {t b : Addr} {n : Nat} {r1 r2 : List Nat} {ys : List (List Nat)} (h : FamAt H t b n r1 r2 ys) : FmOk K H (.ref t) (.three (some r1) (some r2) (some (ys.map some))) :=
  ⟨t, _, _, _, rfl, h.ht, th_str r1 (by have := h.h1.1; omega), th_str r2 (by have := h.h2.1; omega), b, _, rfl, h.hb, rows_th fun y hy => by have := (h.hy y hy).1.1; omega⟩
theorem FamAt.good {H : Hp} {t b : Addr} {n : Nat} {r1 r2 : List Nat} {ys : List (List Nat)} (h : FamAt H t b n r1 r2 ys) : famB (.three (some r1) (some r2) (some (ys.map some))) = true :=
  fam_good h.h1 h.h2 (by rw [h.l1, h.l2]) h.hn fun y hy => ⟨(h.hy y hy).1, by rw [(h.hy y hy).2, h.l1]⟩
end Hid

namespace Hid
open PySem PySem.Spec PyProof.Rows L2 Evl
/-! books as the laws draw them -/
theorem tx_sn (a : List Nat) (c : Nat) : tx a ++ (⟨#[c]⟩ : Str) = tx (a ++ [c]) := by
  show (⟨a.toArray ++ #[c]⟩ : Str) = ⟨(a ++ [c]).toArray⟩
  simp
theorem tx_app (a b : List Nat) : tx a ++ tx b = tx (a ++ b) := by
  show (⟨a.toArray ++ b.toArray⟩ : Str) = ⟨(a ++ b).toArray⟩
  simp
theorem tx_len (a : List Nat) : (tx a).length = a.length := by simp [tx, Str.length]
theorem tx_sz (a : List Nat) : (tx a).cps.size = a.length := by simp [tx]
theorem tx_toList (a : List Nat) : (tx a).cps.toList = a := by simp [tx]
theorem cutS_take (z : List Nat) (k : Nat) (h : k ≤ z.length) : cutS (tx z) none (some (k : Int)) = tx (z.take k) := by
  unfold cutS
  rw [HT.sIx_nat, tx_len, Nat.min_eq_left h]
  show (⟨((tx z).cps.toList.drop 0 |>.take (k - 0)).toArray⟩ : Str) = _
  simp [tx]
theorem cutS_drop (z : List Nat) (k : Nat) : cutS (tx z) (some (k : Int)) none = tx (z.drop k) := by
  unfold cutS
  rw [HT.sIx_nat, tx_len]
  show (⟨((tx z).cps.toList.drop (min k z.length) |>.take (z.length - min k z.length)).toArray⟩ : Str) = _
  rw [tx_toList]
  by_cases h : k ≤ z.length
  · rw [Nat.min_eq_left h, List.take_of_length_le (by rw [List.length_drop]; exact Nat.le_refl _)] <;> rfl
  · rw [Nat.min_eq_right (by omega), Nat.sub_self, List.drop_eq_nil_of_le (by omega : z.length ≤ k)] <;> rfl
theorem cut_drop {xs : List V} (n : Nat) : cutV xs (some (n : Int)) none = xs.drop n := by
  unfold cutV
  rw [HT.sIx_nat]
  show List.take (xs.length - min n xs.length) (List.drop (min n xs.length) xs) = _
  by_cases h : n ≤ xs.length
  · rw [Nat.min_eq_left h, List.take_of_length_le (by rw [List.length_drop]; exact Nat.le_refl _)]
  · rw [Nat.min_eq_right (by omega), Nat.sub_self, List.drop_eq_nil_of_le (by omega : xs.length ≤ n)] <;> rfl
theorem mul_c (c : Nat) (n : Int) (h : 1 ≤ n) : Txt.mul (sg1 c) n = tx (List.replicate n.toNat c) := by
  unfold Txt.mul
  rw [if_neg (by omega)]
  by_cases h1 : n = 1
  · subst h1
    rfl
  · have hc : (n == 1 || (sg1 c).length == 0) = false := by
      have : (n == 1) = false := by simpa using h1
      rw [this]
      rfl
    rw [hc, if_neg Bool.false_ne_true]
    have : ∀ (k : Nat) (acc : Array Nat), (List.replicate k (sg1 c).cps).foldl (· ++ ·) acc = acc ++ (List.replicate k c).toArray := by
      intro k
      induction k with
      | zero => intro acc; simp
      | succ k ih =>
        intro acc
        rw [List.replicate_succ, List.foldl_cons, ih, List.replicate_succ]
        have : (sg1 c).cps = #[c] := rfl
        rw [this]
        exact Array.toList_inj.mp (by simp)
    rw [this]
    simp [tx]
abbrev rJoin (K : PySem.W.Frag) : V → List V → Hp → VK → Prop := fun x xs H Q => ∃ a p, ∃ ys : List Str, x = .str a ∧ xs = [.ref p] ∧ (SqL K H p (ys.map V.str) ∨ SqT K H p (ys.map V.str)) ∧ (ys.map (·.length)).sum + ys.length * a.length ≤ 16777216 ∧ Q (.str (Txt.join a ys)) H
theorem ev_join {K : PySem.W.Frag} {te : TE} {σ : L2.St} {H : Hp} {l : List Nat} (h : EvL te σ H (vs1 l)) (hl : l.length ≤ 1000000) : Ev (tM1 (rJoin K) (tC (.str (tx []))) te) σ H (.str (tx l)) := fun H1 e Q q =>
  ⟨⟨_, rfl⟩, h H1 e _ fun p H2 hp e2 h2 => r_join (K := K) (Q := Q) (sq_of h2) hl (q H2 e2)⟩
theorem erase_map {α β : Type} (f : α → β) : ∀ (l : List α) (k : Nat), (l.eraseIdx k).map f = (l.map f).eraseIdx k
  | [], _ => rfl
  | _ :: _, 0 => rfl
  | x :: l, k + 1 => by
    show f x :: (l.eraseIdx k).map f = f x :: (l.map f).eraseIdx k
    rw [erase_map f l k]
/-! names -/
def nSuf (b : Nat) : List Nat := [[], [98], [98, 97], [97, 98, 99, 100, 101, 102, 103]].getD b []
def nPre (b : Nat) : List Nat := [[], [100], [100, 100], [99, 99, 99, 99, 99, 99, 99]].getD b []
def nLet (a k : Nat) : Nat := 97 + (k + a) % 10
def nameOf (a b c k : Nat) : List Nat := if c = 1 then List.replicate (1 + k % 8) (97 + k / 8) else if c = 2 then nPre b ++ [nLet a k] else nLet a k :: nSuf b
def NameL (z : List Nat) : Prop := (1 ≤ z.length ∧ z.length ≤ 8) ∧ ∀ c ∈ z, 97 ≤ c ∧ c ≤ 122
instance (z : List Nat) : Decidable (NameL z) := by unfold NameL; infer_instance
theorem names_ok : ∀ a < 10, ∀ b < 4, ∀ c < 3, ((List.range 10).map (nameOf a b c)).Nodup ∧ ∀ k < 10, NameL (nameOf a b c k) := by decide +kernel
/-! lists of ints, of pairs, against [] -/
theorem ints_dp {K : PySem.W.Frag} {H : Hp} : ∀ ns : List Int, DpAll K H (ns.map V.int) (ns.map PyData.int)
  | [] => .nil
  | n :: ns => .cons (.int n) (ints_dp ns)
theorem shaped_ints (ns : List Int) : SeqAt.shaped (.list (ns.map PyData.int)) = true := by
  have h1 : ∀ ns : List Int, PyData.canLayAll0 (ns.map PyData.int) = true := by
    intro ns
    induction ns with
    | nil => rfl
    | cons n ns ih => show (PyData.canLay0 (.int n) && PyData.canLayAll0 (ns.map PyData.int)) = true; rw [ih]; rfl
  have h2 : ∀ ns : List Int, PyData.depthAll (ns.map PyData.int) ≤ 2 := by
    intro ns
    induction ns with
    | nil => exact Nat.zero_le _
    | cons n ns ih =>
      show max (PyData.depth (.int n)) (PyData.depthAll (ns.map PyData.int)) ≤ 2
      have : PyData.depth (.int n) ≤ 2 := by simp [PyData.depth]
      omega
  unfold SeqAt.shaped
  rw [Bool.and_eq_true]
  refine ⟨h1 ns, decide_eq_true ?_⟩
  have := h2 ns
  simp only [PyData.depth]
  omega
theorem shaped_prs (ps : List (List Nat × List Nat)) (hs : ∀ p ∈ ps, (∀ c ∈ p.1, c < 200) ∧ ∀ c ∈ p.2, c < 200) : SeqAt.shaped (.list (ps.map dSS)) = true ∧ SeqAt.shaped (.tuple (ps.map dSS)) = true := by
  have h1 : ∀ ps : List (List Nat × List Nat), (∀ p ∈ ps, (∀ c ∈ p.1, c < 200) ∧ ∀ c ∈ p.2, c < 200) → PyData.canLayAll0 (ps.map dSS) = true := by
    intro ps
    induction ps with
    | nil => intro _; rfl
    | cons p ps ih =>
      intro hh
      have hp := hh p List.mem_cons_self
      show (PyData.canLay0 (dSS p) && PyData.canLayAll0 (ps.map dSS)) = true
      rw [ih fun q hq => hh q (List.mem_cons_of_mem _ hq)]
      simp [dSS, PyData.canLay0, PyData.canLayAll0, strOk_sm hp.1, strOk_sm hp.2]
  have h2 : ∀ ps : List (List Nat × List Nat), PyData.depthAll (ps.map dSS) ≤ 4 := by
    intro ps
    induction ps with
    | nil => exact Nat.zero_le _
    | cons p ps ih =>
      show max (PyData.depth (dSS p)) (PyData.depthAll (ps.map dSS)) ≤ 4
      have : PyData.depth (dSS p) ≤ 4 := by simp [dSS, PyData.depth, PyData.depthAll]
      omega
  have a := h1 ps hs
  have b := h2 ps
  unfold SeqAt.shaped
  simp [PyData.canLay0, PyData.depth, a]
  omega
theorem eqv_nil (ds : List PyData) : PyData.eqv (.list ds) (.list []) = decide (ds = []) := by
  cases ds with
  | nil => rfl
  | cons d ds =>
    rw [decide_eq_false (by simp)]
    simp [PyData.eqv, PyData.eqvAll]
theorem shaped_nil : SeqAt.shaped (.list []) = true := by decide
section
variable {K : PySem.W.Frag} {σ : L2.St} {H : Hp} {ta tb : TE}
theorem ev_neN {l : Addr} {vs : List V} {ds : List PyData} (ha : Ev ta σ H (.ref l)) (hl : H l = some (.lst vs)) (hd : DpAll K H vs ds) (hs : SeqAt.shaped (.list ds) = true) (hmono : ∀ H1, Ex H H1 → DpAll K H1 vs ds) : Ev (tOp (rNeD K) ta (tLst tNil)) σ H (.bl (!decide (ds = []))) := fun H1 e Q q =>
  ha H1 e _ fun H2 e2 => ⟨by show 0 ≤ sizeLine; decide, fun p np => ⟨.list ds, .list [], .lst (sq_of ((Ex.new np) _ _ (e2 _ _ (e _ _ hl)))) (hmono _ (e.trans (e2.trans (Ex.new np)))), .lst (sq_of upd_same) .nil, hs, shaped_nil, by rw [eqv_nil]; exact q _ (e2.trans (Ex.new np))⟩⟩
theorem ev_eqN {l : Addr} {vs : List V} {ds : List PyData} (ha : Ev ta σ H (.ref l)) (hl : H l = some (.lst vs)) (hs : SeqAt.shaped (.list ds) = true) (hmono : ∀ H1, Ex H H1 → DpAll K H1 vs ds) : Ev (tOp (rEqD K) ta (tLst tNil)) σ H (.bl (decide (ds = []))) := fun H1 e Q q =>
  ha H1 e _ fun H2 e2 => ⟨by show 0 ≤ sizeLine; decide, fun p np => ⟨.list ds, .list [], .lst (sq_of ((Ex.new np) _ _ (e2 _ _ (e _ _ hl)))) (hmono _ (e.trans (e2.trans (Ex.new np)))), .lst (sq_of upd_same) .nil, hs, shaped_nil, by rw [eqv_nil]; exact q _ (e2.trans (Ex.new np))⟩⟩
end
/-! a book as it stands -/
structure BookOk (n : Nat) (rs : List (List Nat × List Nat)) : Prop where
  hn : 1 ≤ n ∧ n ≤ 8
  hl : rs.length ≤ 10
  hr : ∀ p ∈ rs, RowL p.2 ∧ p.2.length = n
  hm : ∀ p ∈ rs, NameL p.1
  hd : (rs.map (·.1)).Nodup
def BookAt (K : PySem.W.Frag) (H : Hp) (v : V) (n : Nat) (rs : List (List Nat × List Nat)) : Prop := ∃ t b vs, v = .ref t ∧ H t = some (.tup [.int (n : Nat), .ref b]) ∧ H b = some (.tup vs) ∧ Prs K H vs rs
theorem BookAt.ex {K : PySem.W.Frag} {H H' : Hp} {v : V} {n : Nat} {rs : List (List Nat × List Nat)} (h : BookAt K H v n rs) (e : Ex H H') : BookAt K H' v n rs := let ⟨t, b, vs, a, c, d, f⟩ := h; ⟨t, b, vs, a, e _ _ c, e _ _ d, f.ex e⟩
theorem BookOk.small {n : Nat} {rs : List (List Nat × List Nat)} (h : BookOk n rs) : ∀ p ∈ rs, (∀ c ∈ p.1, c < 200) ∧ ∀ c ∈ p.2, c < 200 := fun p hp => ⟨fun c hc => by have := (h.hm p hp).2 c hc; omega, fun c hc => by rcases (h.hr p hp).1.2 c hc with z | z | z <;> omega⟩
theorem tup_lst {H : Hp} {t l : Addr} {xs ys : List V} (ht : H t = some (.tup xs)) (hl : H l = some (.lst ys)) : t ≠ l := fun z => by rw [z, hl] at ht; cases ht
end Hid

namespace Hid
open PySem PySem.Spec PyProof.Rows L2 Evl
/-! zip of two tuples, as a walk -/
theorem walk_zipT {K : PySem.W.Frag} {a b : Addr} {xs ys : List V} {n : Nat} (hn : n = min xs.length ys.length) : Walk (RZ.ItzT K a b) n (fun H => SqT K H a xs ∧ SqT K H b ys) (YPair (fun i => xs[i]?) (fun i => ys[i]?)) := by
  subst hn
  constructor
  · intro i H hi q
    have hx : i < xs.length := Nat.lt_of_lt_of_le hi (Nat.min_le_left _ _)
    have hy : i < ys.length := Nat.lt_of_lt_of_le hi (Nat.min_le_right _ _)
    exact ⟨xs, ys, xs[i], ys[i], q.1, q.2, List.getElem?_eq_getElem hx, List.getElem?_eq_getElem hy⟩
  · intro H q
    exact ⟨xs, ys, q.1, q.2, by omega⟩
  · rintro i H v H' _ q ⟨T, x, z, e, n, u, hx, hy⟩
    exact ⟨T, x, z, e, n, u, hx xs q.1, hy ys q.2⟩
/-! xs.remove(z), texts -/
def eqz (z : Str) (v : Value) : Bool := match v with
  | .str y _ => y.cps.toList == z.cps.toList
  | _ => false
theorem eqz_gives {z : Str} {t : Tok} : ∀ {us : List Value} {ys : List Str}, StrsAre us ys → ∀ v ∈ us, MeetsSeq.EqGives v (.str z t) (eqz z v)
  | _, _, .nil => fun _ h => nomatch h
  | _, _, .cons y t' r => fun v h => (List.mem_cons.mp h).elim (fun e => by rw [e]; exact SeqRoads2.EqGives.str y z t' t) (eqz_gives r v)
theorem strs_at' : ∀ {us : List Value} {ys : List Str}, StrsAre us ys → ∀ (j : Nat) (y : Str), ys[j]? = some y → ∃ t, us[j]? = some (.str y t)
  | _, _, .nil, j, y, h => by simp at h
  | _, _, .cons x t r, 0, y, h => by cases h; exact ⟨t, rfl⟩
  | _, _, .cons x t r, j + 1, y, h => strs_at' r j y h
theorem erase_at {z : Str} : ∀ {ys : List Str}, z ∈ ys → ∃ j, ys[j]? = some z ∧ (∀ (m : Nat) y, m < j → ys[m]? = some y → y ≠ z) ∧ ys.eraseIdx j = ys.erase z
  | [], h => nomatch h
  | y :: ys, h => by
    by_cases e : y = z
    · subst e
      exact ⟨0, rfl, fun m _ hm _ => absurd hm (Nat.not_lt_zero _), by simp⟩
    · have h' : z ∈ ys := (List.mem_cons.mp h).resolve_left fun q => e q.symm
      obtain ⟨j, a, b, c⟩ := erase_at h'
      refine ⟨j + 1, a, fun m x hm hx => ?_, ?_⟩
      · cases m with
        | zero => cases hx; exact e
        | succ m => exact b m x (Nat.lt_of_succ_lt_succ hm) hx
      · rw [List.erase_cons_tail (by simpa using e), ← c]
        rfl
section
variable {X : Cx}
def rRemS : V → List V → Hp → VK → Prop := fun x xs H Q => ∃ (l : Addr) (ys : List Str) (z : Str), x = .ref l ∧ xs = [.str z] ∧ H l = some (.lst (ys.map V.str)) ∧ z ∈ ys ∧ Q .non (upd H l (.lst ((ys.erase z).map V.str)))
theorem mt_removeS : MtM X "list.remove" rRemS := by
  rintro pins s σ H x xs v us Q I rx rxs ⟨l, ys, z, rfl, rfl, hH, hz, q⟩
  obtain ⟨j, hj, hno, he⟩ := erase_at hz
  obtain ⟨u, rfl, t, rfl⟩ := rxs.one
  cases rx
  obtain ⟨sz, its, n, r, hl, e⟩ := I.lstM hH
  have hi : StrsAre its ys := strs_of_vals r
  have hjy := (List.getElem?_eq_some_iff.mp hj).1
  rw [List.length_map] at hl sz
  have hjl : j < its.toArray.size := by rw [List.size_toArray, ← hl]; exact hjy
  refine call_meets PySem.F.slot_list_remove ⟨_, e, rfl⟩ PySem.F.entry_list_remove (PySem.F.args_list_remove_2 _ _) (MeetsSeq.list_remove l its.toArray n (.str z t) (eqz z) (fun y hy => eqz_gives hi y (by simpa using hy)) j hjl ?_ (fun m hm hmj => ?_) (by rw [List.size_toArray, ← hl]; exact sz)) ⟨e, ?_⟩
  · obtain ⟨tj, a⟩ := strs_at' hi j z hj
    have b : its.toArray[j] = .str z tj := by have := (List.getElem?_eq_some_iff.mp a).2; simpa using this
    rw [b]
    show (z.cps.toList == z.cps.toList) = true
    exact beq_self_eq_true _
  · have hmy : m < ys.length := by rw [List.size_toArray, ← hl] at hm; exact hm
    obtain ⟨tm, a⟩ := strs_at' hi m _ (List.getElem?_eq_getElem hmy)
    have b : its.toArray[m] = .str ys[m] tm := by have := (List.getElem?_eq_some_iff.mp a).2; simpa using this
    rw [b]
    show (ys[m].cps.toList == z.cps.toList) = false
    exact beq_eq_false_iff_ne.mpr fun c => hno m _ hmj (List.getElem?_eq_getElem hmy) (str_ext c)
  · have rr := r.eraseIdx j
    rw [← erase_map, he] at rr
    refine ⟨.non, _, I.lset (its' := its.eraseIdx j) (t' := s.toks) hH e ?_ rr ?_, rfl, q⟩
    · rw [List.eraseIdxIfInBounds_toArray]
    · rw [List.length_map]
      exact Nat.le_trans (List.length_erase_le) sz
/-! tuples whose object is known to be a plain one -/
def TD (o : Obj) : Prop := o.cls = .type "tuple" ∧ o.dict = none
def TupF (H : Hp) (a : Addr) (xs : List V) : Prop := ∃ o, TD o ∧ H a = some (.frz o (.tup xs))
theorem TupF.ex {H H' : Hp} {a : Addr} {xs : List V} (h : TupF H a xs) (e : Ex H H') : TupF H' a xs := let ⟨o, d, c⟩ := h; ⟨o, d, e _ _ c⟩
theorem TupF.sq {K : PySem.W.Frag} {H : Hp} {a : Addr} {xs : List V} (h : TupF H a xs) : SqT K H a xs := let ⟨o, _, c⟩ := h; .inl (.inr ⟨o, c⟩)
theorem TupF.ne {H : Hp} {a b : Addr} {xs ys : List V} (h : TupF H a xs) (hb : H b = some (.lst ys)) : a ≠ b := fun z => by
  obtain ⟨o, _, c⟩ := h
  rw [z, hb] at c
  cases c
theorem TupF.upd {H : Hp} {a b : Addr} {xs ys : List V} {u : HO} (h : TupF H a xs) (hb : H b = some (.lst ys)) : TupF (upd H b u) a xs := by
  have n := h.ne hb
  obtain ⟨o, d, c⟩ := h
  exact ⟨o, d, by rw [upd_ne n]; exact c⟩
def rTupF (K : PySem.W.Frag) : List V → Hp → VK → Prop := fun xs H Q => ∃ p ys, xs = [.ref p] ∧ SqL K H p ys ∧ ∀ l o, H l = none → TD o → Q (.ref l) (upd H l (.frz o (.tup ys)))
theorem cr_tupF : CallR X (.type "tuple") (rTupF X.K) := by
  rintro pins s σ H xs us Q I r ⟨p, ys, rfl, hq, q⟩
  obtain ⟨u, rfl, rx⟩ := vals1 r
  cases rx
  obtain ⟨its, r', pl, hz⟩ := I.list hq
  have hlen := r'.length
  refine call_tuple_list pl.isList (fun h' kp => ?_) (by rw [List.size_toArray, ← hlen]; exact hz)
  have I1 : Inv X pins σ H { s with heap := h' } := I.kept (t' := s.toks) kp
  have hn := I1.hok.fresh (a := h'.objs.size) (Nat.le_refl _)
  refine ⟨.ref h'.objs.size, _, I1.laid (t' := s.toks) (fun b o e => Heap.get?_push_of_some _ e) (Nat.le_refl _) ?_, rfl, q _ { cls := .type "tuple", data := .seq its.toArray } hn ⟨rfl, rfl⟩⟩
  exact ⟨Heap.get?_push_size _ rfl, hz, its, r', IsTup.new _ _⟩
def tTupF (t : TA) : TE := fun σ H Q => t σ H fun xs H1 => xs.length ≤ sizeLine ∧ ∀ p o, H1 p = none → TD o → Q (.ref p) (upd H1 p (.frz o (.tup xs)))
theorem pe_tupF {es : List Expr} {k : Nat} {pos : Pos} {t : TA} (h : PA X es t) : PE X (.Tuple es k pos) (tTupF t) := by
  refine ⟨fun pins s σ H Q I hq => ?_⟩
  refine wpAny_Tuple_spliced (thn (h.run pos pins s σ H _ I hq) fun us s1 ⟨xs, H1, I1, r, z, q⟩ => ⟨by rw [← r.length]; exact z, ?_⟩)
  have hf := I1.hok.fresh (a := s1.heap.objs.size) (Nat.le_refl _)
  refine ⟨.ref s1.heap.objs.size, _, I1.laid (t' := s1.toks) (fun b u e => Heap.get?_push_of_some _ e) (Nat.le_refl _) ?_, rfl, q _ { cls := .type "tuple", data := .seq us.toArray } hf ⟨rfl, rfl⟩⟩
  exact ⟨Heap.get?_push_size _ rfl, z, us, r, ⟨_, Heap.get?_push_size _ rfl, rfl, _, rfl⟩⟩
/-! dict(t), t a tuple of pairs of texts -/
def kS (p : List Nat × List Nat) : Key × V := (.inr (tx p.1), .str (tx p.2))
theorem prs_vals {pins : List (Addr × Obj)} {σ : L2.St} {H : Hp} {s : Shared} (I : Inv X pins σ H s) : ∀ {vs : List V} {its : List Value} {ps : List (List Nat × List Nat)}, Vals vs its → Prs X.K H vs ps →
    ∃ (Ts : Nat → Addr) (prs : List (Value × Value)) (kvs : List (Key × Value)), prs.length = its.length ∧ KV (ps.map kS) kvs ∧ (∀ (j : Nat) k v, prs[j]? = some (k, v) → its[j]? = some (.ref (Ts j)) ∧ IsTup s.heap (Ts j) #[k, v]) ∧ kvs.length = prs.length ∧ ∀ (i : Nat) key v, prs[i]? = some (key, v) → ∃ k, kvs[i]? = some (k, v) ∧ keyIs k key = true
  | _, _, _, .nil, .nil => ⟨fun _ => 0, [], [], rfl, .nil, fun j k v h => by simp at h, rfl, fun i k v h => by simp at h⟩
  | _, _, _, .cons rv rvs, .cons (b := p) ⟨t, ht, c⟩ ps => by
    subst ht
    cases rv
    obtain ⟨Ts, prs, kvs, h1, h2, h3, h4, h5⟩ := prs_vals I rvs ps
    obtain ⟨us, ru, pt, _⟩ := I.tuple (st_of c)
    obtain ⟨u, y, rfl, hu, hy⟩ := vals2 ru
    refine ⟨fun j => match j with | 0 => t | j + 1 => Ts j, (u, y) :: prs, (.inr (tx p.1), y) :: kvs, by rw [List.length_cons, List.length_cons, h1], .cons ⟨rfl, hy⟩ h2, fun j k v h => ?_, by rw [List.length_cons, List.length_cons, h4], fun i k v h => ?_⟩
    · cases j with
      | zero => cases h; exact ⟨rfl, pt⟩
      | succ j => exact h3 j k v h
    · cases i with
      | zero => cases h; exact ⟨_, rfl, kV_is (P := X.prog) (w := X.w) (k := .inr (tx p.1)) hu⟩
      | succ i => exact h5 i k v h
def rDictF (K : PySem.W.Frag) : List V → Hp → VK → Prop := fun xs H Q => ∃ (a : Addr) (vs : List V) (ps : List (List Nat × List Nat)), xs = [.ref a] ∧ TupF H a vs ∧ Prs K H vs ps ∧ ∀ p, H p = none → Q (.ref p) (upd H p (.dK (mergeK [] (ps.map kS))))
theorem cr_dictF (hc : X.calm = true) : CallR X (.type "dict") (rDictF X.K) := by
  rintro pins s σ H xs us Q I r ⟨a, vs, ps, rfl, ⟨o, ⟨hcl, hdi⟩, ha⟩, hp, q⟩
  obtain ⟨u, rfl, rx⟩ := vals1 r
  cases rx
  obtain ⟨hget, hz, its, rv, ob, hob, _, n, hdat⟩ := I.hok a _ ha
  rw [hget] at hob
  cases hob
  obtain ⟨Ts, prs, kvs, h1, h2, h3, h4, h5⟩ := prs_vals I rv hp
  have hl : its.length ≤ sizeLine := by rw [← rv.length]; exact hz
  refine PySem.call_dict_pairs (knd := mixKind X.prog X.w) (kvs := kvs) (PairArg.tuple a its.toArray Ts prs) (I.ok.hd hc) ⟨⟨o, n, hget, hcl, hdi, hdat⟩, by rw [List.size_toArray, h1], fun j k v h => ?_⟩ ⟨h4, fun i k v h => h5 i k v h⟩ (by rw [h1]; exact hl) fun h' tk hd' kp => ?_
  · obtain ⟨b, c⟩ := h3 j k v h
    exact ⟨by simpa using b, .inl c⟩
  · have hm : (s.heap.objs.size == sysModules) = false := beq_eq_false_iff_ne.mpr (Nat.ne_of_gt I.big)
    have hlen : (mergeK [] (ps.map kS)).length ≤ sizeLine := by
      have z := length_mergeK (ps.map kS) []
      rw [List.length_nil, Nat.zero_add, List.length_map, ← paired_len hp] at z
      exact Nat.le_trans z hz
    exact ⟨.ref s.heap.objs.size, _, I.laid (t' := tk) (fun b o e => kp b o (by simp) e) (Nat.le_refl _) (show ObjOk X.prog X.w _ _ _ (.dK (mergeK [] (ps.map kS))) from ⟨hlen, hm, merged [] kvs, KV.merge h2 .nil, hd'⟩), rfl, q _ (I.hok.fresh (Nat.le_refl _))⟩
end
/-! what the dict of a book tells of a name -/
theorem merge_out : ∀ (ps : List (List Nat × List Nat)) (acc : List (Key × V)) (z : Str), (∀ p ∈ ps, tx p.1 ≠ z) → valV (mergeK acc (ps.map kS)) (.inr z) = valV acc (.inr z)
  | [], _, _, _ => rfl
  | p :: ps, acc, z, h => by
    show valV (mergeK (putK acc (.inr (tx p.1)) (.str (tx p.2))) (ps.map kS)) (.inr z) = _
    rw [merge_out ps _ z fun q hq => h q (List.mem_cons_of_mem _ hq), valV_put, if_neg]
    intro e
    exact h p List.mem_cons_self (Sum.inr.inj e).symm
theorem merge_in : ∀ (ps : List (List Nat × List Nat)) (acc : List (Key × V)), (ps.map (·.1)).Nodup → ∀ p ∈ ps, valV (mergeK acc (ps.map kS)) (.inr (tx p.1)) = some (.str (tx p.2))
  | [], _, _, p, h => nomatch h
  | q :: ps, acc, nd, p, h => by
    show valV (mergeK (putK acc (.inr (tx q.1)) (.str (tx q.2))) (ps.map kS)) (.inr (tx p.1)) = _
    obtain ⟨n1, n2⟩ := List.nodup_cons.mp (show (q.1 :: ps.map (·.1)).Nodup from nd)
    rcases List.mem_cons.mp h with e | e
    · subst e
      rw [merge_out ps _ _ fun r hr z => n1 (List.mem_map.mpr ⟨r, hr, tx_inj z⟩), valV_put, if_pos rfl]
    · exact merge_in ps _ n2 p e
def rowOf (rs : List (List Nat × List Nat)) (x : Str) : List Nat := ((rs.find? fun p => decide (tx p.1 = x)).map (·.2)).getD []
theorem rowOf_in : ∀ {rs : List (List Nat × List Nat)}, (rs.map (·.1)).Nodup → ∀ p ∈ rs, rowOf rs (tx p.1) = p.2
  | [], _, p, h => nomatch h
  | q :: rs, nd, p, h => by
    obtain ⟨n1, n2⟩ := List.nodup_cons.mp (show (q.1 :: rs.map (·.1)).Nodup from nd)
    unfold rowOf
    rw [List.find?_cons]
    rcases List.mem_cons.mp h with e | e
    · subst e
      simp
    · have hne : ¬ tx q.1 = tx p.1 := fun z => n1 (List.mem_map.mpr ⟨p, e, (tx_inj z).symm⟩)
      rw [decide_eq_false hne]
      exact rowOf_in n2 p e
theorem book_get {rs : List (List Nat × List Nat)} {H : Hp} {d : Addr} (nd : (rs.map (·.1)).Nodup) (hd : H d = some (.dK (mergeK [] (rs.map kS)))) {p : List Nat × List Nat} (hp : p ∈ rs) : DGet H d (.str (tx p.1)) (some (.str (tx (rowOf rs (tx p.1))))) := by
  have := DGet.k (k := .inr (tx p.1)) hd
  rw [merge_in rs [] nd p hp] at this
  rw [rowOf_in nd p hp]
  exact this
/-! a book whose rows' tuple is a plain one -/
def BookF (K : PySem.W.Frag) (H : Hp) (v : V) (n : Nat) (rs : List (List Nat × List Nat)) : Prop := ∃ t b vs, v = .ref t ∧ H t = some (.tup [.int (n : Nat), .ref b]) ∧ TupF H b vs ∧ Prs K H vs rs
theorem BookF.ex {K : PySem.W.Frag} {H H' : Hp} {v : V} {n : Nat} {rs : List (List Nat × List Nat)} (h : BookF K H v n rs) (e : Ex H H') : BookF K H' v n rs := let ⟨t, b, vs, a, c, d, f⟩ := h; ⟨t, b, vs, a, e _ _ c, d.ex e, f.ex e⟩
end Hid

namespace Hid
open PySem PySem.Spec PyProof.Rows L2
/-- a comprehension within another's block: the outer block's scope stands around -/
theorem blkOk_in {N : List Str} {sc0 outer scope : Scope} {own : List (Str × Nat)} {env : Env} (he : env.scope = sc0) (h : blkC N (relS outer sc0) scope own = true) : BlkOk N (relabel outer env) scope own := by
  subst he
  exact blkOk_by h
end Hid

namespace Hid
open PySem PySem.Spec PyProof.Rows L2
/-! ### set comprehensions of one clause and of two: a clause's loop over any work at its turn's end -/
abbrev No : Value → Shared → Prop := fun _ _ => False
/-- a clause's turn, the work at its end told apart -/
def turnOf (p : Pos) (t : Expr) (ifs : List Expr) (it : Value) (env : Env) (work : Sem Unit) (nxt : Sem PySem.Fin) : Sem PySem.Fin := do
  standAt p
  match ← pyNext it with
  | none => pure (.done .next)
  | some v =>
    letOwnedTupleGo t it v
    assign t env v
    let mut ok := true
    for c in ifs do
      if ok then ok ← isTrue c env (eval c env)
    if ok then work
    nxt
section
variable {prog : Program} {w : World} {A : Around} {R : Result → Shared → Prop} {s : Shared} {elt t : Expr} {gens : List Comprehension} {scope : Scope} {spos : Pos} {k : Nat} {it acc : Value} {env : Env} {p : Pos} {ifs : List Expr} {work : Sem Unit}
theorem own_loop (hturn : compTurn (.SetComp elt gens scope spos) k it acc env = turnOf p t ifs it env work (again (.compLoop (.SetComp elt gens scope spos) k it acc env))) (I : Nat → Shared → Prop)
    (turn : ∀ n s, I n s → wpAny (model prog w) A (pyNext it) (fun r s1 => match r with
      | none => R (.ok .next) s1
      | some v => wpAny (model prog w) A (letOwnedTupleGo t it v) (fun _ s2 => wpAny (model prog w) A (assign t env v) (fun _ s3 =>
        wpAny (model prog w) A (forIn ifs true fun c r => if r = true then do let ok ← isTrue c env (eval c env); pure (ForInStep.yield ok) else pure (ForInStep.yield r)) (fun ok s4 =>
          if ok = true then wpAny (model prog w) A work (fun _ s5 => ∃ m, m < n ∧ I m s5) No s4 else ∃ m, m < n ∧ I m s4) No s3) No s2) No s1) No s) (n : Nat) (h : I n s) :
    codeAny (model prog w) A (.compLoop (.SetComp elt gens scope spos) k it acc env) R s := by
  refine codeAny_loop rfl I (fun n s hI => ?_) n h
  show wpAny _ A ((compTurn (.SetComp elt gens scope spos) k it acc env).onRaise fun x => do noteFrame x env; theTreesLotGoes x) _ _ s
  refine wpAny_noted ?_
  rw [hturn]
  refine wpAny_bind (wpAny_standAt (wpAny_bind (thnF (turn n s hI) fun r s1 h1 => ?_)))
  cases r with
  | none => exact wpAny_pure h1
  | some v =>
    refine wpAny_bind (thnF h1 fun _ s2 h2 => wpAny_bind (thnF h2 fun _ s3 h3 => wpAny_bind (thnF h3 fun ok s4 h4 => ?_)))
    cases ok with
    | false => exact wpAny_pure ⟨rfl, h4⟩
    | true => exact wpAny_bind (thnF h4 fun _ s5 h5 => wpAny_pure ⟨rfl, h5⟩)
end
/-- the work at a turn's end reads so: what is known of the slots outside vs stays -/
def PB (Y : Cx) (vs : List Nat) (work : Sem Unit) (tb : L2.St → Hp → (Hp → Prop) → Prop) : Prop := ∀ (pins : List (Addr × Obj)) (s : Shared) (σ : L2.St) (H : Hp) (Nx : Hp → Prop), Inv Y pins σ H s → tb σ H Nx →
  wpAny (model Y.prog Y.w) Y.A work (fun _ s' => ∃ σ' H', Inv Y pins σ' H' s' ∧ (σ'.length = σ.length ∧ ∀ (j : Nat) v, (wipe σ vs)[j]? = some (some v) → σ'[j]? = some (some v)) ∧ Nx H') No s
/-- what a clause wishes: W over the turns -/
def Cla (J : It) (g : TG) (tt : TT) (tb : L2.St → Hp → (Hp → Prop) → Prop) (vs : List Nat) (σ : L2.St) (QD : Hp → Prop) (W : Nat → Nat → Hp → Prop) : Prop := ∀ i m H, W i m H → (J.stop i H ∧ QD H) ∨ (J.go i H ∧ ∃ Nx : Hp → Prop, (∀ H', Nx H' → ∃ m', m' < m ∧ W (i + 1) m' H') ∧
  ∀ x H', J.yld i H x H' → g x (wipe σ vs) H' fun σ2 H2 => wipe σ2 vs = wipe σ vs ∧ tt σ2 H2 fun b H3 => if b = true then tb σ2 H3 Nx else Nx H3)
section
variable {Y : Cx} {elt tg : Expr} {gens : List Comprehension} {scope : Scope} {spos : Pos} {k : Nat} {acc : Value} {p : Pos} {ifs : List Expr} {work : Sem Unit} {g : TG} {tt : TT} {tb : L2.St → Hp → (Hp → Prop) → Prop} {vs : List Nat} {σ : L2.St} {J : It} {fp : List Addr} {it : Addr} {tn : Nat → Heap → Prop} {QD : Hp → Prop} {W : Nat → Nat → Hp → Prop}
theorem cla_loop (hc : Y.calm = true) (hxe : Y.xe = No) (hturn : compTurn (.SetComp elt gens scope spos) k (.ref it) acc Y.env = turnOf p tg ifs (.ref it) Y.env work (again (.compLoop (.SetComp elt gens scope spos) k (.ref it) acc Y.env))) (pg : PG Y tg g) (pt : PTs Y ifs tt) (pb : PB Y vs work tb)
    (T : Turn Y.prog Y.w Y.K tg J fp it tn) (pins : List (Addr × Obj)) (hfp : ∀ H' : Hp, (∀ b ∈ fp, H' b = none) → ∀ b ∈ fp, FpOk Y pins H' b) (cla : Cla J g tt tb vs σ QD W)
    (m i : Nat) (s : Shared) (H : Hp) (I : Inv Y pins (wipe σ vs) H s) (st : tn i s.heap) (hn : ∀ b ∈ fp, H b = none) (w0 : W i m H) {R : Result → Shared → Prop} (hR : ∀ s' H', Inv Y pins (wipe σ vs) H' s' → QD H' → R (.ok .next) s') :
    codeAny (model Y.prog Y.w) Y.A (.compLoop (.SetComp elt gens scope spos) k (.ref it) acc Y.env) R s := by
  refine own_loop hturn (fun n s' => ∃ i H', Inv Y pins (wipe σ vs) H' s' ∧ tn i s'.heap ∧ (∀ b ∈ fp, H' b = none) ∧ W i n H') (fun n s5 hI => ?_) m ⟨i, H, I, st, hn, w0⟩
  obtain ⟨i, H5, I5, st5, n5, w5⟩ := hI
  rcases cla i n H5 w5 with ⟨stop, qd⟩ | ⟨go, Nx, hNx, step⟩
  · exact wpAny_mono (T.done Y rfl rfl rfl hc i pins s5 _ H5 No I5 (hfp H5 n5) st5 stop) (fun r s6 ⟨hr, I6⟩ => by subst hr; exact hR s6 H5 I6 qd) fun _ _ z => z
  · refine wpAny_mono (T.item Y rfl rfl rfl hc i pins s5 _ H5 No I5 (hfp H5 n5) st5 go) (fun r s6 ⟨u, hr, h6⟩ => ?_) fun _ _ z => z
    subst hr
    refine wpAny_mono h6 (fun _ s7 ⟨x, H7, I7, r7, y7, st7, n7⟩ => ?_) fun _ _ z => z
    have J7 := I7.pinned (hfp H7 n7) (T.obj _ _ st7)
    refine wpAny_mono (pg.run _ s7 _ H7 x u _ J7 r7 (step x H7 y7)) (fun _ s8 ⟨σ8, H8, I8, hw8, q8⟩ => ?_) fun _ _ z => by rw [hxe] at z; exact z
    refine wpAny_mono (pt.run _ s8 σ8 H8 _ I8 q8) (fun b s9 ⟨H9, I9, q9⟩ => ?_) fun _ _ z => by rw [hxe] at z; exact z
    have back : ∀ {σ9 : L2.St} {s' : Shared} {H' : Hp}, Inv Y (pins ++ pinsAt fp s7.heap) σ9 H' s' → σ9.length = σ8.length → (∀ (j : Nat) v, (wipe σ8 vs)[j]? = some (some v) → σ9[j]? = some (some v)) → Nx H' →
        ∃ m, m < n ∧ ∃ i H', Inv Y pins (wipe σ vs) H' s' ∧ tn i s'.heap ∧ (∀ b ∈ fp, H' b = none) ∧ W i m H' := fun {σ9 s' H'} I' hl hk nx => by
      obtain ⟨m', hm, w'⟩ := hNx H' nx
      have at7 : ∀ b ∈ fp, ∀ o, s7.heap.get? b = some o → s'.heap.get? b = some o ∧ H' b = none := fun b hb o eo => (I'.pin (b, o) (List.mem_append_right _ (List.mem_append_right _ (mem_pinsAt hb eo)))).imp id fun z => z.1
      refine ⟨m', hm, i + 1, H', (I'.unpinned (pins := pins)).weak (by rw [← hw8, wipe_length, hl]) (fun j v ej => hk j v (by rw [hw8]; exact ej)), T.keep _ _ _ st7 fun b hb o eo => (at7 b hb o eo).1, fun b hb => ?_, w'⟩
      obtain ⟨o, eo, _⟩ := T.obj _ _ st7 b hb
      exact (at7 b hb o eo).2
    cases b with
    | false => exact back I9 rfl (fun j v ej => (wipe_some ej).1) (by simpa using q9)
    | true => exact wpAny_mono (pb _ s9 σ8 H9 Nx I9 (by simpa using q9)) (fun _ s' ⟨σ', H', I', ⟨hl, hk⟩, nx⟩ => back I' hl hk nx) fun _ _ z => z
end
end Hid

namespace Hid
open PySem PySem.Spec PyProof.Rows L2
/-! sets of texts as tracked things -/
def SetX (w : World) (a : Addr) (xs : List Str) : HO := .ext fun h => SetT w h a xs
theorem setX_ok {w : World} {P : Program} {H : Hp} {h : Heap} {a : Addr} {xs : List Str} (R : SetT w h a xs) : ObjOk P w H h a (SetX w a xs) :=
  ⟨R, let ⟨o, _, _, _, ho, _⟩ := R; ⟨o, ho⟩, fun h1 h2 q k => SetT.keep q k⟩
theorem setT_type {w : World} {s : Shared} {a : Addr} {xs : List Str} (R : SetT w s.heap a xs) : s.TypeIs (.ref a) "set" := let ⟨o, _, _, _, ho, hex, _⟩ := R; ⟨o, ho, hex.1⟩
theorem tAddCall {P : Program} {w : World} {A : Around} {E : Value → Shared → Prop} {s : Shared} {a : Addr} {xs : List Str} {k : Str} {tk : Tok} {Q : Value → Shared → Prop} (R : SetT w s.heap a xs) (room : xs.length + 1 < scanBound)
    (hQ : ∀ h', Heap.SameBut a s.heap h' → SetT w h' a (putT k xs) → Q .none { s with heap := h', toks := s.toks + 1 }) : wpAny (model P w) A (call (.builtin "set.add") [.ref a, .str k tk]) Q E s := by
  refine wpAny_call_entry F.slot_set_add (setT_type R) F.entry_set_add ?_ (F.args_set_add_2 _ _)
  unfold Builtin.«set.add» Builtin.Frozenset.oneOther <;> simp only [List.isEmpty_nil, bind_assoc] <;> unfold Builtin.Frozenset.addrOf setAdd
  refine wpAny_bind (wpAny_pure (wpAny_bind (wpAny_pure (wpAny_bind (wpAny_holding (wpAny_bind ((PySem.strKind P w).pyHash (k := k) (strKind_is P w k tk) ?_)))))))
  refine tAdd (s := { s with toks := s.toks + 1 }) R room fun b h' sb r => ?_
  exact wpAny_pure ⟨_, rfl, hQ h' sb r⟩
section
variable {Y : Cx} {pins : List (Addr × Obj)} {σ : L2.St} {H : Hp} {s : Shared}
theorem addT_ok {E : Value → Shared → Prop} {D : Addr} {xs : List Str} {k : Str} {tk : Tok} {Q : Value → Shared → Prop} (I : Inv Y pins σ H s) (hD : H D = some (SetX Y.w D xs)) (room : xs.length + 1 < scanBound) (h : ∀ s', Inv Y pins σ (upd H D (SetX Y.w D (putT k xs))) s' → Q .none s') :
    wpAny (model Y.prog Y.w) Y.A (call (.builtin "set.add") [.ref D, .str k tk]) Q E s := by
  refine tAddCall (I.hok D _ hD).1 room fun h' sb new => h _ ?_
  exact I.write (e := D) (t' := s.toks + 1) (by rw [hD]; trivial) (.inl rfl) (fun b u hb hu => (sb.2 b hb).trans hu) (let ⟨o, _, _, _, ho, _⟩ := new; ⟨o, ho⟩) (setX_ok new)
end
/-! the works -/
def addWork (elt : Expr) (acc : Value) (env : Env) : Sem Unit := do let v ← eval elt env; standAt elt.pos; let _ ← call (.builtin "set.add") [acc, v]
def inWork (e i1 : Expr) (acc : Value) (env : Env) : Sem Unit := do let x ← eval i1 env; standAt i1.pos; let x ← foldedSetIterable i1 env x; let _ ← runOwn (.compStart e 1 (← holding [x] (pyIter x)) acc env) env
section
variable (elt t0 i0 t1 i1 : Expr) (ifs0 ifs1 : List Expr) (scope : Scope) (pos : Pos) (it acc : Value) (env : Env)
theorem sc_turn : compTurn (.SetComp elt [⟨t0, i0, ifs0, 0⟩] scope pos) 0 it acc env = turnOf i0.pos t0 ifs0 it env (addWork elt acc env) (again (.compLoop (.SetComp elt [⟨t0, i0, ifs0, 0⟩] scope pos) 0 it acc env)) := rfl
theorem sc2_turn0 : compTurn (.SetComp elt [⟨t0, i0, ifs0, 0⟩, ⟨t1, i1, ifs1, 0⟩] scope pos) 0 it acc env = turnOf i0.pos t0 ifs0 it env (inWork (.SetComp elt [⟨t0, i0, ifs0, 0⟩, ⟨t1, i1, ifs1, 0⟩] scope pos) i1 acc env) (again (.compLoop (.SetComp elt [⟨t0, i0, ifs0, 0⟩, ⟨t1, i1, ifs1, 0⟩] scope pos) 0 it acc env)) := by
  unfold turnOf inWork
  simp only [bind_assoc]
  rfl
theorem sc2_turn1 : compTurn (.SetComp elt [⟨t0, i0, ifs0, 0⟩, ⟨t1, i1, ifs1, 0⟩] scope pos) 1 it acc env = turnOf i1.pos t1 ifs1 it env (addWork elt acc env) (again (.compLoop (.SetComp elt [⟨t0, i0, ifs0, 0⟩, ⟨t1, i1, ifs1, 0⟩] scope pos) 1 it acc env)) := rfl
end
abbrev TB2 := L2.St → Hp → (Hp → Prop) → Prop
def tAddT (w : World) (D : Addr) (te : TE) : TB2 := fun σ H Nx => te σ H fun y H1 => ∃ (x : Str) (xs : List Str), y = .str x ∧ H1 D = some (SetX w D xs) ∧ xs.length + 1 < scanBound ∧ Nx (upd H1 D (SetX w D (putT x xs)))
def tIn (wi1 : TI) (g1 : TG) (tt1 : TT) (tb1 : TB2) (vs1 : List Nat) : TB2 := fun σ H Nx => wi1 σ H fun J1 H4 => ∃ W1 : Nat → Nat → Hp → Prop, (∃ m, W1 0 m H4) ∧ Cla J1 g1 tt1 tb1 vs1 σ Nx W1
section
variable {Y : Cx} {elt tg : Expr} {te : TE} {vs : List Nat}
theorem pb_addT {D : Addr} (hxe : Y.xe = No) (pe : PE Y elt te) : PB Y vs (addWork elt (.ref D) Y.env) (tAddT Y.w D te) := fun pins s σ H Nx I h => by
  unfold addWork
  refine wpAny_bind (wpAny_mono (pe.run pins s σ H _ I h) (fun z s1 ⟨y, H1, I1, r1, x, xs, ey, hD, hl, nx⟩ => ?_) fun _ _ z => by rw [hxe] at z; exact z)
  subst ey
  obtain ⟨tk, rfl⟩ := r1
  exact wpAny_bind (wpAny_standAt (wpAny_bind (addT_ok I1 hD hl fun s2 I2 => wpAny_pure ⟨σ, _, I2, ⟨rfl, fun j v e => (wipe_some e).1⟩, nx⟩)))
end
section
variable {prog : Program} {w : World} {A : Around} {R : Result → Shared → Prop} {s : Shared} {elt t1 i1 : Expr} {c0 : Comprehension} {ifs1 : List Expr} {scope : Scope} {pos : Pos} {it acc : Value} {env : Env}
/-- the second clause's start -/
theorem sc_start1 (h0 : codeAny (model prog w) A (.compLoop (.SetComp elt [c0, ⟨t1, i1, ifs1, 0⟩] scope pos) 1 it acc env) R s)
    (h : wpAny (model prog w) A (pyIter it) (fun it' s' => codeAny (model prog w) A (.compLoop (.SetComp elt [c0, ⟨t1, i1, ifs1, 0⟩] scope pos) 1 it' acc env) R s') No s) : codeAny (model prog w) A (.compStart (.SetComp elt [c0, ⟨t1, i1, ifs1, 0⟩] scope pos) 1 it acc env) R s := by
  refine codeAny_of_tree ?_
  show wpAny _ _ ((compStart (.SetComp elt [c0, ⟨t1, i1, ifs1, 0⟩] scope pos) 1 it acc env).onRaise fun x => do noteFrame x env; standAt theWindowsPlace) _ _ s
  refine wpAny_notedAt ?_ <;> unfold compStart
  show wpAny _ _ (ask >>= _) _ _ s
  refine wpAny_bind (wpAny_askSetting (wpAny_ite ?_)) <;> split
  · first | exact wpAny_bind (wpAny_pure (wpAny_pure ⟨rfl, h0⟩)) | exact wpAny_pure ⟨rfl, h0⟩
  · refine wpAny_bind (wpAny_rule ?_); show wpAny _ _ (standAt i1.pos >>= _) _ _ s; exact wpAny_bind (wpAny_standAt (wpAny_bind (thnF h fun it' s' h' => wpAny_pure ⟨rfl, h'⟩)))
end
section
variable {Y : Cx} {elt t1 i1 : Expr} {c0 : Comprehension} {ifs1 : List Expr} {scope : Scope} {pos : Pos} {acc : Value} {work1 : Sem Unit} {wi1 : TI} {g1 : TG} {tt1 : TT} {tb1 : TB2} {vs vs1 : List Nat}
theorem pb_in (hc : Y.calm = true) (hxe : Y.xe = No) (hturn : ∀ it, compTurn (.SetComp elt [c0, ⟨t1, i1, ifs1, 0⟩] scope pos) 1 it acc Y.env = turnOf i1.pos t1 ifs1 it Y.env work1 (again (.compLoop (.SetComp elt [c0, ⟨t1, i1, ifs1, 0⟩] scope pos) 1 it acc Y.env)))
    (pi : PI Y t1 i1 wi1) (pg : PG Y t1 g1) (pt : PTs Y ifs1 tt1) (pb : PB Y vs1 work1 tb1) (hv : ∀ i ∈ vs1, i ∈ vs) (hs : ∀ x, foldedSetIterable i1 Y.env x = pure x) : PB Y vs (inWork (.SetComp elt [c0, ⟨t1, i1, ifs1, 0⟩] scope pos) i1 acc Y.env) (tIn wi1 g1 tt1 tb1 vs1) := fun pins s σ H Nx I h => by
  have no : ∀ {u : Value} {s' : Shared}, Y.xe u s' → No u s' := fun z => by rw [hxe] at z; exact z
  unfold inWork
  refine wpAny_bind (wpAny_mono (pi.run pins s σ H _ I h) (fun x s1 hx => ?_) fun _ _ z => no z)
  refine wpAny_bind (wpAny_standAt (wpAny_bind (wpAny_of_eq (hs x) (wpAny_bind (wpAny_holding (wpAny_mono hx (fun itv s2 h2 => ?_) fun _ _ z => no z))))))
  obtain ⟨it, fp, tn, J, H2, rfl, I2, T, st2, f2, W1, ⟨m1, w1⟩, cla⟩ := h2
  refine wpAny_bind (wpAny_runOwn ?_)
  rw [Around.mark_none]
  have lp : ∀ {R : Result → Shared → Prop}, (∀ s' H', Inv Y pins (wipe σ vs1) H' s' → Nx H' → R (.ok .next) s') → codeAny (model Y.prog Y.w) Y.A (.compLoop (.SetComp elt [c0, ⟨t1, i1, ifs1, 0⟩] scope pos) 1 (.ref it) acc Y.env) R s2 := fun hR =>
    cla_loop hc hxe (hturn _) pg pt pb T pins (fun H' hn b hb => ⟨hn b hb, (f2 b hb).2⟩) cla m1 0 s2 H2 (I2.weak (wipe_length _ _) fun j v e => (wipe_some e).1) st2 (fun b hb => (f2 b hb).1) w1 hR
  have fin : ∀ s' H', Inv Y pins (wipe σ vs1) H' s' → Nx H' → ∃ σ' H', Inv Y pins σ' H' s' ∧ (σ'.length = σ.length ∧ ∀ (j : Nat) v, (wipe σ vs)[j]? = some (some v) → σ'[j]? = some (some v)) ∧ Nx H' := fun s' H' I' nx => ⟨wipe σ vs1, H', I', ⟨wipe_length _ _, fun j v e => by
    obtain ⟨a, b⟩ := wipe_some e
    rw [wipe_out fun z => b (hv j z)]
    exact a⟩, nx⟩
  refine codeAny_mono (sc_start1 (R := fun r s' => r = .ok .next ∧ ∃ σ' H', Inv Y pins σ' H' s' ∧ (σ'.length = σ.length ∧ ∀ (j : Nat) v, (wipe σ vs)[j]? = some (some v) → σ'[j]? = some (some v)) ∧ Nx H') (lp fun s' H' I' nx => ⟨rfl, fin s' H' I' nx⟩) (T.self Y.A 0 _ _ _ st2 (lp fun s' H' I' nx => ⟨rfl, fin s' H' I' nx⟩))) fun r s' hr => ?_
  obtain ⟨rfl, hr⟩ := hr
  first | exact wpAny_pure hr | exact wpAny_bind (wpAny_pure (wpAny_pure hr)) | exact hr
end
end Hid

namespace Hid
open PySem PySem.Spec PyProof.Rows L2
/-- {.. for tg in iter if .. ..}: D the new set, S0 as it is at first, tb the work at the first clause's turn's end -/
def tSetC (S0 : Addr → HO) (wi : TI) (g : TG) (tt : TT) (tb : Addr → TB2) (vs : List Nat) : TE := fun σ H Q => wi σ H fun J H1 => ∀ D, H1 D = none → ∃ W : Nat → Nat → Hp → Prop, (∃ m, W 0 m (upd H1 D (S0 D))) ∧ Cla J g tt (tb D) vs σ (fun H' => Q (.ref D) H') W
abbrev newSetO (w : World) : Obj := { cls := .type "set", dict := none, data := .set #[] 0 (.fresh 0 0 (!w.params.followText "set-order")) }
section
variable {X : Cx} {elt tg iter : Expr} {ifs : List Expr} {rest : List Comprehension} {scope : Scope} {own : List (Str × Nat)} {pos : Pos} {wi : TI} {g : TG} {tt : TT} {work : Value → Env → Sem Unit} {tb : Addr → TB2} {S0 : Addr → HO}
theorem pe_setC (hc : X.calm = true) (hN : X.N.Nodup) (hi : PI X tg iter wi) (ok : BlkOk X.N X.env.scope scope own) (hS : ∀ (H : Hp) (h : Heap) (D : Addr), h.get? D = some (newSetO X.w) → ObjOk X.prog X.w H h D (S0 D))
    (hturn : ∀ it acc env, compTurn (.SetComp elt (⟨tg, iter, ifs, 0⟩ :: rest) scope pos) 0 it acc env = turnOf iter.pos tg ifs it env (work acc env) (again (.compLoop (.SetComp elt (⟨tg, iter, ifs, 0⟩ :: rest) scope pos) 0 it acc env)))
    (hg : ∀ (s : Shared) (H : Hp) (C : Addr) (cl : List (Str × Addr)) (fp : List Addr), PG (X.blk s H scope (compEnvC scope cl C X.env) fp) tg g) (ht : ∀ (s : Shared) (H : Hp) (C : Addr) (cl : List (Str × Addr)) (fp : List Addr), PTs (X.blk s H scope (compEnvC scope cl C X.env) fp) ifs tt)
    (hb : ∀ (s : Shared) (H : Hp) (C : Addr) (cl : List (Str × Addr)) (fp : List Addr) (D : Addr), PB (X.blk s H scope (compEnvC scope cl C X.env) fp) (own.map (·.2)) (work (.ref D) (compEnvC scope cl C X.env)) (tb D)) (hs : ∀ x, foldedSetIterable iter X.env x = pure x := by intro _; rfl) :
    PE X (.SetComp elt (⟨tg, iter, ifs, 0⟩ :: rest) scope pos) (tSetC S0 wi g tt tb (own.map (·.2))) := by
  refine ⟨fun pins s σ H Q I h => ?_⟩
  rw [PpSet.eval_SetComp]
  have hfree : ∀ y ∈ scope.names, y.2 = .free → ∃ c, X.env.cells.lookup y.1 = some c := fun y hy e => (ok.free y hy e).elim (fun k => I.ok.has _ (.inl k)) fun k => I.ok.has _ (.inr k)
  refine wpAny_comprehension_free (use := none) rfl hs (closure_ok hfree) ok.kind (fun y hy e => by rw [ok.uniq y hy, e]) (thn (hi.run pins s σ H _ I h) fun xv s1 hx => thn hx fun itv s2 h2 => ?_)
  obtain ⟨it, fp, tn, J, H2, rfl, I2, T, st2, f2, q⟩ := h2
  refine PpSet.newSet_ok (newEnv_comp ?_)
  generalize hD : s2.heap.objs.size = D; generalize hs3 : ({ s2 with heap := s2.heap.push (newSetO X.w) } : Shared) = s3
  have h3 : s3.heap = s2.heap.push (newSetO X.w) := by rw [← hs3]
  have hget : s3.heap.get? D = some (newSetO X.w) := by rw [h3, ← hD]; exact Heap.get?_push_size _ rfl
  obtain ⟨W, ⟨m0, w0⟩, cla⟩ := q D (I2.hok.fresh (Nat.le_of_eq hD))
  have I3 : Inv X pins σ (upd H2 D (S0 D)) s3 := by
    rw [← hs3] at hget ⊢
    exact I2.laid (t' := s2.toks) (fun b o e => Heap.get?_push_of_some _ e) (Nat.le_of_eq hD) (hS _ _ D hget)
  have f3 : ∀ b ∈ fp, FpOk X pins (upd H2 D (S0 D)) b ∧ b < s3.heap.objs.size := fun b hb => by
    obtain ⟨o, eo, _⟩ := T.obj _ _ st2 b hb
    have hlt := Heap.lt_size eo
    exact ⟨⟨by rw [upd_ne (by rw [← hD]; exact Nat.ne_of_lt hlt)]; exact (f2 b hb).1, (f2 b hb).2⟩, by rw [h3, Heap.size_push]; exact Nat.lt_succ_of_lt hlt⟩
  have I4 := block_start I3 ok hN f3
  obtain ⟨cl, hcl⟩ : ∃ cl, cellsFrom (s3.heap.objs.size + 1) scope.names (cloFrom X.env.cells scope.names []) = cl := ⟨_, rfl⟩
  rw [hcl] at I4
  have pg := hg s3 (upd H2 D (S0 D)) s3.heap.objs.size cl fp
  have pt := ht s3 (upd H2 D (S0 D)) s3.heap.objs.size cl fp
  have pb := hb s3 (upd H2 D (S0 D)) s3.heap.objs.size cl fp D
  show codeAny _ _ (.compStart _ 0 (.ref it) (.ref D) (compEnvC scope (cellsFrom (s3.heap.objs.size + 1) scope.names (cloFrom X.env.cells scope.names [])) s3.heap.objs.size X.env)) (compPost (model X.prog X.w) X.A X.xe none _ (.ref D) s3.heap.objs.size) { s3 with heap := pushCells (s3.heap.push { cls := .type "dict", data := .dict #[] }) scope.names }
  rw [hcl]
  obtain ⟨s4, hs4⟩ : ∃ s4 : Shared, ({ s3 with heap := pushCells (s3.heap.push { cls := .type "dict", data := .dict #[] }) scope.names } : Shared) = s4 := ⟨_, rfl⟩
  rw [hs4] at I4 ⊢
  have st4 : tn 0 s4.heap := T.keep _ _ _ st2 fun b _ o eo => by rw [← hs4]; exact pushCells_keeps _ _ _ _ (Heap.get?_push_of_some _ (by rw [h3]; exact Heap.get?_push_of_some _ eo))
  have lp : codeAny (model X.prog X.w) X.A (.compLoop (.SetComp elt (⟨tg, iter, ifs, 0⟩ :: rest) scope pos) 0 (.ref it) (.ref D) (compEnvC scope cl s3.heap.objs.size X.env)) (compPost (model X.prog X.w) X.A X.xe none (EP X pins σ Q) (.ref D) s3.heap.objs.size) s4 := by
    refine cla_loop (Y := X.blk s3 (upd H2 D (S0 D)) scope (compEnvC scope cl s3.heap.objs.size X.env) fp) hc rfl (hturn _ _ _) pg pt pb T [] (fun H' hn b hb => ?_) cla m0 0 s4 _ I4 st4 (fun b hb => (f3 b hb).1.1) w0 fun s6 H6 I6 qq => ?_
    · exact ⟨hn b hb, (I4.ok.exf b hb).1, I4.ok.exfs b hb, .inl hb, fun x c e => (I4.ok.exf b hb).2 x c e, fun p hp => absurd (show p ∈ ([] : List (Addr × Obj)) ++ [] from hp) (by simp)⟩
    · have I7 : Inv X pins σ H6 s6 := I3.call' (ch := fp) I6.os I6.base I6.hok I6.bare fun b hb => ⟨(f3 b hb).1.2.2.2.1, (f3 b hb).1.2.1, (f3 b hb).1.2.2.2.2.1, (f3 b hb).1.2.2.2.2.2⟩
      have nC : H6 s3.heap.objs.size = none := I6.free
      obtain ⟨m, hn, _⟩ := I6.loc
      refine ⟨m, hn, fun h'' sb => ?_⟩
      obtain ⟨f0, f1, f2', f3', f4, f5⟩ := I3.fpOk (Nat.le_refl _) nC
      exact ⟨.ref D, H6, I7.turned (t' := s6.toks) (fun b o hb eo => (sb.2 b hb).trans eo) f0 f1 f3' f4 f5, rfl, qq⟩
  exact PpSet.codeAny_compStart_set lp (T.self X.A 0 _ _ _ st4 lp)
end
section
variable {X : Cx} {elt tg iter tg1 iter1 : Expr} {ifs ifs1 : List Expr} {scope : Scope} {own : List (Str × Nat)} {pos : Pos} {wi wi1 : TI} {g g1 : TG} {tt tt1 : TT} {te : TE} {vs1 : List Nat}
theorem setX_new (X : Cx) (H : Hp) (h : Heap) (D : Addr) (e : h.get? D = some (newSetO X.w)) : ObjOk X.prog X.w H h D (SetX X.w D []) := setX_ok (newSet_ok (by cases X.w.params.followText "set-order" <;> simp) e)
/-- {text for .. in .. if ..} -/
theorem pe_scT (hc : X.calm = true) (hN : X.N.Nodup) (hi : PI X tg iter wi) (ok : BlkOk X.N X.env.scope scope own) (hg : ∀ (s : Shared) (H : Hp) (C : Addr) (cl : List (Str × Addr)) (fp : List Addr), PG (X.blk s H scope (compEnvC scope cl C X.env) fp) tg g)
    (ht : ∀ (s : Shared) (H : Hp) (C : Addr) (cl : List (Str × Addr)) (fp : List Addr), PTs (X.blk s H scope (compEnvC scope cl C X.env) fp) ifs tt) (he : ∀ (s : Shared) (H : Hp) (C : Addr) (cl : List (Str × Addr)) (fp : List Addr), PE (X.blk s H scope (compEnvC scope cl C X.env) fp) elt te) (hs : ∀ x, foldedSetIterable iter X.env x = pure x := by intro _; rfl) :
    PE X (.SetComp elt [⟨tg, iter, ifs, 0⟩] scope pos) (tSetC (fun D => SetX X.w D []) wi g tt (fun D => tAddT X.w D te) (own.map (·.2))) :=
  pe_setC (work := addWork elt) hc hN hi ok (setX_new X) (fun it acc env => sc_turn _ _ _ _ _ _ _ _ _) hg ht (fun s H C cl fp D => pb_addT rfl (he s H C cl fp)) hs
/-- {text for .. in .. if .. for .. in .. if ..} -/
theorem pe_scT2 (hc : X.calm = true) (hN : X.N.Nodup) (hi : PI X tg iter wi) (ok : BlkOk X.N X.env.scope scope own) (hv : ∀ i ∈ vs1, i ∈ own.map (·.2)) (hg : ∀ (s : Shared) (H : Hp) (C : Addr) (cl : List (Str × Addr)) (fp : List Addr), PG (X.blk s H scope (compEnvC scope cl C X.env) fp) tg g)
    (ht : ∀ (s : Shared) (H : Hp) (C : Addr) (cl : List (Str × Addr)) (fp : List Addr), PTs (X.blk s H scope (compEnvC scope cl C X.env) fp) ifs tt) (hi1 : ∀ (s : Shared) (H : Hp) (C : Addr) (cl : List (Str × Addr)) (fp : List Addr), PI (X.blk s H scope (compEnvC scope cl C X.env) fp) tg1 iter1 wi1)
    (hg1 : ∀ (s : Shared) (H : Hp) (C : Addr) (cl : List (Str × Addr)) (fp : List Addr), PG (X.blk s H scope (compEnvC scope cl C X.env) fp) tg1 g1) (ht1 : ∀ (s : Shared) (H : Hp) (C : Addr) (cl : List (Str × Addr)) (fp : List Addr), PTs (X.blk s H scope (compEnvC scope cl C X.env) fp) ifs1 tt1)
    (he : ∀ (s : Shared) (H : Hp) (C : Addr) (cl : List (Str × Addr)) (fp : List Addr), PE (X.blk s H scope (compEnvC scope cl C X.env) fp) elt te) (hs : ∀ x, foldedSetIterable iter X.env x = pure x := by intro _; rfl) (hs1 : ∀ env x, foldedSetIterable iter1 env x = pure x := by intro _ _; rfl) :
    PE X (.SetComp elt [⟨tg, iter, ifs, 0⟩, ⟨tg1, iter1, ifs1, 0⟩] scope pos) (tSetC (fun D => SetX X.w D []) wi g tt (fun D => tIn wi1 g1 tt1 (tAddT X.w D te) vs1) (own.map (·.2))) :=
  pe_setC (work := inWork _ iter1) hc hN hi ok (setX_new X) (fun it acc env => sc2_turn0 _ _ _ _ _ _ _ _ _ _ _ _) hg ht (fun s H C cl fp D => pb_in hc rfl (fun it => sc2_turn1 _ _ _ _ _ _ _ _ _ _ _ _) (hi1 s H C cl fp) (hg1 s H C cl fp) (ht1 s H C cl fp) (pb_addT rfl (he s H C cl fp)) hv (hs1 _)) hs
end
/-- sorted of a set of texts that is tracked -/
def rSortX (w : World) : List V → Hp → VK → Prop := fun vs H Q => ∃ (a : Addr) (xs : List Str), vs = [.ref a] ∧ H a = some (SetX w a xs) ∧ xs.length ≤ 100000 ∧ ∀ (ys : List Str) (p : Addr), Rise ys → ys.Perm xs → H p = none → Q (.ref p) (upd H p (.lst (ys.map V.str)))
theorem cr_sortX {X : Cx} (hc : X.calm = true) (hu : X.A.units + 64 < cLine) : CallR X (.builtin "sorted") (rSortX X.w) := by
  intro pins s σ H vs us Q I r h
  obtain ⟨a, xs, rfl, ha, hz, q⟩ := h
  cases r with
  | cons rx rr =>
    cases rr
    cases rx
    refine tSorted (I.hok a _ ha).1 (I.ok.hd hc) hu fun s' p out c ys k g o hp hget hst hri hpm => ?_
    have hn : H p = none := I.hok.fresh hp
    have e : s' = { s with heap := s'.heap, gens := s'.gens, drawn := s'.drawn, toks := s'.toks } := by
      have o2 : s'.os = s.os := o
      obtain ⟨x1, x2, x3, x4, x5⟩ := s'; dsimp only at o2 ⊢; rw [o2]
    rw [e]
    refine ⟨.ref p, upd H p (.lst (ys.map V.str)), I.call (ch := []) (Un.laid k hp hn) (I.hok.laid k hp (show ObjOk X.prog X.w _ _ _ (.lst (ys.map V.str)) from ⟨by rw [List.length_map, hpm.length_eq, sizeLine_eq]; omega, out.toList, c, vals_of_strs hst, hget⟩)) (by rw [g]; exact I.bare) (fun _ z => nomatch z), rfl, q ys p hri hpm hn⟩
end Hid

namespace Hid
open PySem PySem.Spec PyProof.Rows L2
section
variable {prog : Program} {w : World} {A : Around} {E : Value → Shared → Prop} {s : Shared}
theorem tSetOfL {l : Addr} {items : Array Value} {xs : List Str} {Q : Value → Shared → Prop} (hh : A.handled = none) (hl : s.heap.IsList l items) (hi : StrsAre items.toList xs) (hsm : xs.length < 4000)
    (h : ∀ (h' : Heap) (tk : Nat), SetT w h' s.heap.objs.size (putAll [] xs) → (∀ b o, b < s.heap.objs.size → s.heap.get? b = some o → h'.get? b = some o) → Q (.ref s.heap.objs.size) { s with heap := h', toks := tk }) :
    wpAny (model prog w) A (call (.type "set") [.ref l]) Q E s := by
  obtain ⟨c, tl, hmro⟩ := PySem.F.called_set.mro
  have hmade := PySem.F.called_set.made; have hsub := PySem.F.called_set.sub
  refine wpAny_call (codeAny_of_tree ?_)
  show wpAny _ _ (callAny (.type "set") _) _ _ _
  refine wpAny_pure ⟨Code.quiet_builtin _ (by decide +kernel), codeAny_builtin PySem.F.entry_type_call ?_⟩
  rw [Around.under_plain (weight_type_call_type "set" [.ref l] []) rfl]
  have h1 := PySem.F.called_set.notType; have h2 := PySem.F.called_set.canCreate; have hct := PySem.F.typeCall_set_1 (.ref l)
  repeat any_goals (first | assumption | wp_step)
  refine codeAny_mono (tSetNew (.ref l) (E := E) (Q₁ := fun obj s₁ => obj = .ref s.heap.objs.size ∧ s₁ = { s with heap := s.heap.push (newSet (!w.params.followText "set-order")) }) ⟨rfl, rfl⟩) fun r s₁ hr => ?_
  cases r with
  | error e => exact hr
  | ok fl =>
    cases fl with
    | next => exact hr.elim
    | brk => exact hr.elim
    | cont => exact hr.elim
    | ret obj =>
      obtain ⟨rfl, rfl⟩ := hr
      generalize hled : (!w.params.followText "set-order") = led
      have hlo : w.params.followText "set-order" = true ∨ led = true := by
        rw [← hled]
        cases w.params.followText "set-order" <;> simp
      have hS : (s.heap.push (newSet led)).get? s.heap.objs.size = some (newSet led) := Heap.get?_push_size _ rfl
      have hT : Shared.TypeIs { s with heap := s.heap.push (newSet led) } (.ref s.heap.objs.size) "set" := ⟨_, hS, rfl⟩
      have hli := PySem.F.called_set.init.lookup; have hbi := PySem.F.called_set.init.bind (.ref s.heap.objs.size)
      repeat any_goals (first | assumption | wp_step)
      refine codeAny_mono (codeAny_call_builtin (R := wants (fun r s₂ => r = .none ∧ ∃ h' tk, s₂ = { s with heap := h', toks := tk } ∧ SetT w h' s.heap.objs.size (putAll [] xs) ∧ (∀ b o, b < s.heap.objs.size → s.heap.get? b = some o → h'.get? b = some o)) E) PySem.F.called_set.init.plain PySem.F.entry_set_init (check_set_init_1 hT ?_)) fun r₂ s₂ hr₂ => ?_
      · obtain ⟨⟨ocls, odict, odata, oslots⟩, hol, hcl, nl, hdl⟩ := hl
        simp only at hcl hdl
        subst hcl; subst hdl
        have hol' : (s.heap.push (newSet led)).get? l = some { cls := .type "list", dict := odict, data := .seq items nl, slots := oslots } := Heap.get?_push_of_some _ hol
        have hsls := PySem.F.sub_list_set; have hslf := PySem.F.sub_list_frozenset
        have hne : (Value.type "list" == Value.type "dict") = false := by decide
        have hl1 : (s.heap.push (newSet led)).IsList l items := ⟨_, hol', rfl, nl, rfl⟩
        unfold Builtin.«set.__init__» noKeywords Builtin.Frozenset.updateFrom
        generalize hPI : pyIter = PI
        wp_walk
        subst hPI
        refine wpAny_pyIter_list hl1 (wpAny_bind (wpAny_runValue ?_))
        have hlS : l < s.heap.objs.size := Heap.lt_size hol
        have hh3 : A.in1.in1.in1.handled = none := by simp [hh]
        have hneI : l ≠ (s.heap.push (newSet led)).objs.size := by
          rw [Heap.size_push]
          exact Nat.ne_of_lt (Nat.lt_succ_of_lt hlS)
        have hSf : s.heap.objs.size ∉ [(s.heap.push (newSet led)).objs.size, l] := by
          rw [Heap.size_push]
          simp only [List.mem_cons, List.not_mem_nil, or_false, not_or]
          exact ⟨Nat.ne_of_lt (Nat.lt_succ_self _), Nat.ne_of_gt hlS⟩
        have hsz : xs.length = items.size := by rw [← StrsAre.len_eq hi, Array.length_toList]
        refine tFill ((Walks.list hh3 _ l hneI items).toS) s.heap.objs.size hSf xs hsz (by omega) (fun i v hv => SS.strs_at hi i v (by rw [Array.getElem?_toList]; exact hv)) (items.size - 0) 0 _ (by omega) (Nat.zero_le _)
          ⟨⟨_, Heap.get?_push_size _ rfl, rfl, rfl⟩, (hl1.push _)⟩ (newSet_ok hlo (Heap.get?_push_of_some _ hS)) fun s' hm hS' => ?_
        obtain ⟨h', g', d', tk', os'⟩ := s'
        obtain rfl : g' = s.gens := hm.gens
        obtain rfl : d' = s.drawn := hm.drawn
        obtain rfl : os' = s.os := hm.os
        show wpAny _ _ _ _ _ _
        refine wpAny_pure ?_
        show wpAny _ _ (ret Value.none) _ _ _
        refine wpAny_pure ⟨rfl, h', tk', rfl, hS', fun b o hb e => hm.heap b o ?_ (Heap.get?_push_of_some _ (Heap.get?_push_of_some _ e))⟩
        simp only [List.mem_cons, List.not_mem_nil, or_false, not_or]
        refine ⟨Nat.ne_of_lt hb, ?_⟩
        rw [Heap.size_push]
        exact Nat.ne_of_lt (Nat.lt_succ_of_lt hb)
      · cases r₂ with
        | error e => exact hr₂
        | ok fl₂ =>
          cases fl₂ with
          | next => exact hr₂.elim
          | brk => exact hr₂.elim
          | cont => exact hr₂.elim
          | ret r =>
            obtain ⟨rfl, h', tk, rfl, hS', hk'⟩ := hr₂
            repeat any_goals (first | assumption | wp_step)
            exact h _ _ hS' hk'
end
/-- sorted(set(e)), e a list of texts -/
def tSortSetL (K : PySem.W.Frag) (te : TE) : TE := fun σ H Q => te σ H fun v H1 => ∃ (a : Addr) (xs : List Str), v = .ref a ∧ SqL K H1 a (xs.map V.str) ∧ xs.length < 4000 ∧ ∀ (ys : List Str) (p : Addr), Rise ys → ys.length ≤ xs.length → (∀ x, x ∈ ys ↔ x ∈ xs) → H1 p = none → Q (.ref p) (upd H1 p (.lst (ys.map V.str)))
theorem pe_sortSetL {X : Cx} {e : Expr} {te : TE} {p p2 pos pos2 : Pos} (hc : X.calm = true) (hu : X.A.units + 64 < cLine) (hg : Gl X "sorted") (hm : X.mg "sorted" = none) (hg2 : Gl X "set") (hm2 : X.mg "set" = none) (he : PE X e te)
    (hs : starEach [e] X.env = (false, eval e X.env) :: starEach [] X.env := by rfl)
    (hs2 : starEach [.Call (.Name "set" p2) [e] [] pos2] X.env = (false, eval (.Call (.Name "set" p2) [e] [] pos2) X.env) :: starEach [] X.env := by rfl) :
    PE X (.Call (.Name "sorted" p) [.Call (.Name "set" p2) [e] [] pos2] [] pos) (tSortSetL X.K te) := by
  refine ⟨fun pins s σ H Q I h => ?_⟩
  refine wpAny_Call_Name_kw (ld_blt I hg hm (by decide +kernel : bootBuiltins "sorted" = some (.builtin "sorted")) ?_)
  refine callWith_builtin1 (args_cons (Call_ (ld_blt I hg2 hm2 (by decide +kernel : bootBuiltins "set" = some (.type "set")) (callWith_type1 (args_cons (thn (he.run pins s σ H _ I h) fun u s1 ⟨v, H1, I1, r1, q1⟩ => args_nil ?_) hs) hs rfl))) hs2) hs2 rfl
  obtain ⟨a, xs, ev, hq, hsm, q⟩ := q1
  subst ev
  obtain rfl : u = Value.ref a := r1
  obtain ⟨its, rv, p', hz⟩ := I1.list hq
  have hh := I1.ok.hd hc
  obtain ⟨o0, n0, e0, c0, _, d0⟩ := p'
  refine tSetOfL hh ⟨o0, e0, c0, n0, d0⟩ (by rw [List.toList_toArray]; exact strs_of_vals rv) hsm fun h' tk hS hk => args_nil ?_
  have I2 : Inv X pins σ H1 { s1 with heap := h', toks := tk } := I1.kept (t' := tk) fun b o e => hk b o (Heap.lt_size e) e
  refine tSorted (s := { s1 with heap := h', toks := tk }) hS hh hu fun s' p3 out c ys k g o hp hget hst hri hpm => ?_
  have hn : H1 p3 = none := I2.hok.fresh hp
  have hys : ys.length ≤ sizeLine := by
    have h1 := putAll_len xs []
    rw [hpm.length_eq, sizeLine_eq]
    rw [List.length_nil] at h1
    omega
  have J : Inv X pins σ (upd H1 p3 (.lst (ys.map V.str))) { ({ s1 with heap := h', toks := tk } : Shared) with heap := s'.heap, gens := s'.gens, drawn := s'.drawn, toks := s'.toks } :=
    I2.call (ch := []) (Un.laid k hp hn) (I2.hok.laid k hp ⟨by rw [List.length_map]; exact hys, out.toList, c, vals_of_strs hst, hget⟩) (by rw [g]; exact I2.bare) (fun _ z => nomatch z)
  have e : s' = { ({ s1 with heap := h', toks := tk } : Shared) with heap := s'.heap, gens := s'.gens, drawn := s'.drawn, toks := s'.toks } := by
    have o2 : s'.os = s1.os := o
    obtain ⟨x1, x2, x3, x4, x5⟩ := s'
    dsimp only at o2 ⊢
    rw [o2]
  rw [e]
  refine ⟨.ref p3, _, J, rfl, q ys p3 hri (by have h1 := putAll_len xs []; rw [List.length_nil] at h1; rw [hpm.length_eq]; omega) (fun x => ?_) hn⟩
  rw [hpm.mem_iff, putAll_mem]
  simp
end Hid

namespace Hid
open PySem PySem.Spec PyProof.Rows L2 Evl
section
variable {J : It} {n : Nat} {Gd : Hp → Prop} {Y : Nat → Hp → V → Hp → Prop}
/-- a clause over a walk: Pv by the turn and the heap -/
theorem cla_it (w : Walk J n Gd Y) {g : TG} {tt : TT} {tb : TB2} {vs : List Nat} {σ : L2.St} {H1 : Hp} {QD : Hp → Prop} (Pv : Nat → Hp → Prop) (h0 : Pv 0 H1) (hG : ∀ i H, i ≤ n → Pv i H → Gd H)
    (hs : ∀ i x H H', i < n → Pv i H → Y i H x H' → g x (wipe σ vs) H' fun σ2 H2 => wipe σ2 vs = wipe σ vs ∧ tt σ2 H2 fun b H3 => if b = true then tb σ2 H3 (Pv (i + 1)) else Pv (i + 1) H3) (hd : ∀ H, Pv n H → QD H) :
    ∃ W : Nat → Nat → Hp → Prop, (∃ m, W 0 m H1) ∧ Cla J g tt tb vs σ QD W := by
  refine ⟨fun i m H => m = n - i ∧ i ≤ n ∧ Pv i H, ⟨n, by simp, Nat.zero_le _, h0⟩, fun i m H hw => ?_⟩
  obtain ⟨rfl, hi, p⟩ := hw
  rcases Nat.lt_or_ge i n with hlt | hge
  · exact .inr ⟨w.goes i H hlt (hG i H hi p), Pv (i + 1), fun H' p' => ⟨n - (i + 1), by omega, rfl, hlt, p'⟩, fun x H' y => hs i x H H' hlt p (w.yields i H x H' hlt (hG i H hi p) y)⟩
  · obtain rfl : i = n := by omega
    exact .inl ⟨w.stops H (hG i H hi p), hd H p⟩
end
def halvesL (ps : List (List Nat × List Nat)) : List Str := ps.flatMap fun p => [tx p.1, tx p.2]
theorem halvesL_len (ps : List (List Nat × List Nat)) : (halvesL ps).length = 2 * ps.length := by
  unfold halvesL
  induction ps with
  | nil => rfl
  | cons p ps ih =>
    rw [List.flatMap_cons, List.length_append, ih]
    show 2 + 2 * ps.length = 2 * (ps.length + 1)
    omega
theorem halvesL_snoc (ps : List (List Nat × List Nat)) (p : List Nat × List Nat) : halvesL (ps ++ [p]) = halvesL ps ++ [tx p.1, tx p.2] := by
  unfold halvesL
  rw [List.flatMap_append]
  rfl
theorem halvesL_mem {ps : List (List Nat × List Nat)} {x : Str} : x ∈ halvesL ps ↔ ∃ p ∈ ps, x = tx p.1 ∨ x = tx p.2 := by
  unfold halvesL
  rw [List.mem_flatMap]
  constructor
  · rintro ⟨p, hp, hx⟩
    refine ⟨p, hp, ?_⟩
    simpa using hx
  · rintro ⟨p, hp, hx⟩
    exact ⟨p, hp, by simpa using hx⟩
def RetT (xs : List V) (H : Hp) (Q : VK) : Prop := ∀ p H2, Ex H H2 → H2 p = some (.tup xs) → Q (.ref p) H2
def SmallP (ps : List (List Nat × List Nat)) : Prop := ∀ p ∈ ps, (∀ c ∈ p.1, c < 200) ∧ ∀ c ∈ p.2, c < 200
theorem shaped_strT {ys : List Str} (h : ∀ y ∈ ys, ∃ l : List Nat, y = tx l ∧ ∀ c ∈ l, c < 200) : SeqAt.shaped (.tuple (ys.map PyData.str)) = true := by
  have h1 : ∀ ys : List Str, (∀ y ∈ ys, ∃ l : List Nat, y = tx l ∧ ∀ c ∈ l, c < 200) → PyData.canLayAll0 (ys.map PyData.str) = true := by
    intro ys
    induction ys with
    | nil => intro _; rfl
    | cons y ys ih =>
      intro hh
      obtain ⟨l, rfl, hl⟩ := hh y List.mem_cons_self
      show (PyData.canLay0 (.str (tx l)) && PyData.canLayAll0 (ys.map PyData.str)) = true
      rw [ih fun q hq => hh q (List.mem_cons_of_mem _ hq)]
      simp [PyData.canLay0, strOk_sm hl]
  have h2 : ∀ ys : List Str, PyData.depthAll (ys.map PyData.str) ≤ 2 := by
    intro ys
    induction ys with
    | nil => exact Nat.zero_le _
    | cons y ys ih =>
      show max (PyData.depth (.str y)) (PyData.depthAll (ys.map PyData.str)) ≤ 2
      have : PyData.depth (.str y) ≤ 2 := by simp [PyData.depth]
      omega
  have a := h1 ys h
  have b := h2 ys
  unfold SeqAt.shaped
  simp [PyData.canLay0, PyData.depth, a]
  omega
theorem eqv_strT (D : List Str) : PyData.eqv (.tuple (D.map PyData.str)) (.tuple (D.map PyData.str)) = true := by
  have h : ∀ D : List Str, PySem.W.alikeAll (D.map PyData.str) (D.map PyData.str) = true := by
    intro D
    induction D with
    | nil => simp [PySem.W.alikeAll]
    | cons x D ih => simpa [PySem.W.alikeAll, PySem.W.alike] using ih
  exact PySem.W.eqv_refl_alike _ (by simpa [PySem.W.alike] using h D)
theorem small_mem {ps : List (List Nat × List Nat)} (h : SmallP ps) {ys : List Str} (hm : ∀ x, x ∈ ys ↔ x ∈ halvesL ps) : ∀ y ∈ ys, ∃ l : List Nat, y = tx l ∧ ∀ c ∈ l, c < 200 := fun y hy => by
  obtain ⟨p, hp, e | e⟩ := halvesL_mem.mp ((hm y).mp hy)
  · exact ⟨p.1, e, (h p hp).1⟩
  · exact ⟨p.2, e, (h p hp).2⟩
end Hid

namespace Hid
open PySem PySem.Spec PyProof.Rows L2
/-! what known half-rows settle, in plain words -/
abbrev zl (h : Str) : List Nat := h.cps.toList
theorem find_among {p : Str → Bool} {l m : List Str} (hl : Sorted l) (hm : Sorted m) (e : ∀ x, p x = true → (x ∈ l ↔ x ∈ m)) : l.find? p = m.find? p := by
  cases h1 : l.find? p with
  | none =>
    symm
    rw [List.find?_eq_none] at h1 ⊢
    intro x hx px
    exact h1 x ((e x px).mpr hx) px
  | some x =>
    have px := List.find?_some h1
    have mx := List.mem_of_find?_eq_some h1
    cases h2 : m.find? p with
    | none =>
      rw [List.find?_eq_none] at h2
      exact absurd px (h2 x ((e x px).mp mx))
    | some y =>
      have py := List.find?_some h2
      have my := List.mem_of_find?_eq_some h2
      rw [str_ext (List.le_antisymm (find_least hl h1 y ((e y py).mpr my) py) (find_least hm h2 x ((e x px).mp mx) px))]
theorem head_find {p : Str → Bool} : ∀ {l : List Str}, (∀ x ∈ l, p x = true) → l.head? = l.find? p
  | [], _ => rfl
  | x :: l, h => by rw [List.find?_cons, h x List.mem_cons_self]; rfl
/-- the least known half-row that fits the row -/
def fit1 (r : List Nat) (K : List Str) : Option Str := (srt K).find? fun h => fitsO r (some (zl h))
theorem fit1_same {r : List Nat} {K L : List Str} (e : ∀ x, x ∈ K ↔ x ∈ L) : fit1 r K = fit1 r L := find_same (srt_sorted K) (srt_sorted L) fun x => by rw [mem_srt, mem_srt]; exact e x
theorem fit1_rise {r : List Nat} {K : List Str} (h : Rise K) : K.find? (fun z => fitsO r (some (zl z))) = fit1 r K := find_same (rise_sorted h) (srt_sorted K) fun x => mem_srt.symm
theorem fit1_head {r : List Nat} {K : List Str} : (srt (K.filter fun z => fitsO r (some (zl z)))).head? = fit1 r K := by
  rw [head_find (p := fun z => fitsO r (some (zl z))) fun x hx => (List.mem_filter.mp (mem_srt.mp hx)).2]
  refine find_among (srt_sorted _) (srt_sorted _) fun x px => ?_
  rw [mem_srt, mem_srt, List.mem_filter]
  exact ⟨fun z => z.1, fun z => ⟨z, px⟩⟩
theorem fit1_nil (r : List Nat) : fit1 r [] = none := by unfold fit1 srt; simp
theorem fit1_mem {r : List Nat} {K : List Str} {h : Str} (e : fit1 r K = some h) : h ∈ K ∧ fitsO r (some (zl h)) = true := ⟨mem_srt.mp (List.mem_of_find?_eq_some e), List.find?_some (p := fun h => fitsO r (some (zl h))) e⟩
/-- a step: the name, the half-row, the other one -/
abbrev Stp := Str × Str × Str
def stp (f : Str → List Nat) (x h : Str) : Stp := (x, h, tx (turned (f x) (zl h)))
def pick (f : Str → List Nat) (K : List Str) : List Str → Option Stp
  | [] => none
  | x :: W => match fit1 (f x) K with
    | some h => some (stp f x h)
    | none => pick f K W
theorem pick_same {f : Str → List Nat} {K L : List Str} (e : ∀ x, x ∈ K ↔ x ∈ L) : ∀ W, pick f K W = pick f L W
  | [] => rfl
  | x :: W => by unfold pick; rw [fit1_same e, pick_same e W]
theorem pick_mem {f : Str → List Nat} {K : List Str} {s : Stp} : ∀ {W : List Str}, pick f K W = some s → s.1 ∈ W ∧ ∃ h, fit1 (f s.1) K = some h ∧ s = stp f s.1 h
  | [], e => by cases e
  | x :: W, e => by
    unfold pick at e
    cases q : fit1 (f x) K with
    | some h =>
      rw [q] at e
      cases e
      exact ⟨List.mem_cons_self, h, q, rfl⟩
    | none =>
      rw [q] at e
      obtain ⟨a, b⟩ := pick_mem e
      exact ⟨List.mem_cons_of_mem _ a, b⟩
/-- at place i, nothing ahead of it fitting -/
theorem pick_at {f : Str → List Nat} {K : List Str} {x : Str} : ∀ {W : List Str} {i : Nat}, W[i]? = some x → (∀ j y, j < i → W[j]? = some y → fit1 (f y) K = none) → ∀ h, fit1 (f x) K = some h → pick f K W = some (stp f x h)
  | y :: W, 0, e, _, h, q => by
    cases e
    unfold pick
    rw [q]
  | y :: W, i + 1, e, n, h, q => by
    unfold pick
    rw [n 0 y (Nat.succ_pos _) rfl]
    exact pick_at (i := i) e (fun j z hj hz => n (j + 1) z (Nat.succ_lt_succ hj) hz) h q
theorem pick_none {f : Str → List Nat} {K : List Str} : ∀ {W : List Str}, (∀ (j : Nat) y, W[j]? = some y → fit1 (f y) K = none) → pick f K W = none
  | [], _ => rfl
  | y :: W, n => by
    unfold pick
    rw [n 0 y rfl]
    exact pick_none fun j z hz => n (j + 1) z hz
def settle (f : Str → List Nat) : Nat → List Str → List Str → List Stp × List Str
  | 0, _, W => ([], W)
  | n + 1, K, W => match pick f K W with
    | none => ([], W)
    | some s => (s :: (settle f n (K ++ [s.2.2]) (W.erase s.1)).1, (settle f n (K ++ [s.2.2]) (W.erase s.1)).2)
theorem settle_same {f : Str → List Nat} : ∀ (n : Nat) {K L : List Str} (W : List Str), (∀ x, x ∈ K ↔ x ∈ L) → settle f n K W = settle f n L W
  | 0, _, _, _, _ => rfl
  | n + 1, K, L, W, e => by
    unfold settle
    rw [pick_same e W]
    cases pick f L W with
    | none => rfl
    | some s =>
      have e2 : ∀ x, x ∈ K ++ [s.2.2] ↔ x ∈ L ++ [s.2.2] := fun x => by rw [List.mem_append, List.mem_append, e x]
      show (s :: (settle f n (K ++ [s.2.2]) (W.erase s.1)).1, _) = (s :: (settle f n (L ++ [s.2.2]) (W.erase s.1)).1, _)
      rw [settle_same n _ e2]
/-- all is stl, so many names as there are -/
def stl (f : Str → List Nat) (K W : List Str) : List Stp × List Str := settle f W.length K W
theorem stl_none {f : Str → List Nat} {K W : List Str} (h : pick f K W = none) : stl f K W = ([], W) := by
  unfold stl
  cases W with
  | nil => rfl
  | cons x W =>
    show settle f (W.length + 1) K (x :: W) = _
    unfold settle
    rw [h]
theorem stl_some {f : Str → List Nat} {K W : List Str} {s : Stp} (h : pick f K W = some s) : stl f K W = (s :: (stl f (K ++ [s.2.2]) (W.erase s.1)).1, (stl f (K ++ [s.2.2]) (W.erase s.1)).2) := by
  have hm := (pick_mem h).1
  unfold stl
  have hl : (W.erase s.1).length = W.length - 1 := List.length_erase_of_mem hm
  have hp : 0 < W.length := List.length_pos_of_mem hm
  obtain ⟨n, hn⟩ : ∃ n, W.length = n + 1 := ⟨W.length - 1, by omega⟩
  rw [hl, hn]
  show settle f (n + 1) K W = _
  conv => lhs; unfold settle
  rw [h]
  rfl
theorem stl_same {f : Str → List Nat} {K L W : List Str} (e : ∀ x, x ∈ K ↔ x ∈ L) : stl f K W = stl f L W := settle_same _ W e
theorem stl_nil {f : Str → List Nat} (W : List Str) : stl f [] W = ([], W) := stl_none (pick_none fun j y _ => fit1_nil _)
theorem stl_bare {f : Str → List Nat} (K : List Str) : stl f K [] = ([], []) := rfl
theorem erase_filter {W : List Str} (nd : W.Nodup) (x : Str) : W.erase x = W.filter fun y => !decide (y = x) := by
  rw [List.Nodup.erase_eq_filter nd]
  refine List.filter_congr fun y _ => ?_
  by_cases h : y = x <;> simp [h]
theorem stl_len {f : Str → List Nat} : ∀ (n : Nat) (K W : List Str), (settle f n K W).1.length ≤ n ∧ (settle f n K W).2.length ≤ W.length
  | 0, _, W => ⟨Nat.le_refl _, Nat.le_refl _⟩
  | n + 1, K, W => by
    unfold settle
    cases h : pick f K W with
    | none => exact ⟨Nat.zero_le _, Nat.le_refl _⟩
    | some s =>
      obtain ⟨a, b⟩ := stl_len (f := f) n (K ++ [s.2.2]) (W.erase s.1)
      have := List.length_erase_le (a := s.1) (l := W)
      exact ⟨Nat.succ_le_succ a, Nat.le_trans b this⟩
end Hid

namespace Hid
open PySem PySem.Spec PyProof.Rows L2 Evl
def az : List Nat := [97, 98, 99, 100, 101, 102, 103, 104, 105, 106, 107, 108, 109, 110, 111, 112, 113, 114, 115, 116, 117, 118, 119, 120, 121, 122]
def topS (i : Nat) : Stmt := PySem.Challenge.pw_hidhalves_k34_refused_known_and_orders.main.body.getD i (.Pass ⟨0, 0, 0, 0⟩)
abbrev st_is_written_in : Stmt := topS 23
theorem sc_is_written_in : FnScope ["thing", "signs", "sign"] ["thing", "signs"] (defScope st_is_written_in) := ⟨rfl, rfl, rfl, by decide +kernel, rfl, by decide +kernel, by decide +kernel⟩
abbrev st_is_name : Stmt := topS 24
theorem sc_is_name : FnScope ["thing"] ["thing"] (defScope st_is_name) := ⟨rfl, rfl, rfl, by decide +kernel, rfl, by decide +kernel, by decide +kernel⟩
abbrev st_is_half : Stmt := topS 25
theorem sc_is_half : FnScope ["thing"] ["thing"] (defScope st_is_half) := ⟨rfl, rfl, rfl, by decide +kernel, rfl, by decide +kernel, by decide +kernel⟩
abbrev st_is_row : Stmt := topS 26
theorem sc_is_row : FnScope ["thing"] ["thing"] (defScope st_is_row) := ⟨rfl, rfl, rfl, by decide +kernel, rfl, by decide +kernel, by decide +kernel⟩
abbrev st_rises : Stmt := topS 27
theorem sc_rises : FnScope ["things", "thing", "after"] ["things"] (defScope st_rises) := ⟨rfl, rfl, rfl, by decide +kernel, rfl, by decide +kernel, by decide +kernel⟩
abbrev st_turned_at_both : Stmt := topS 29
theorem sc_turned_at_both : FnScope ["row", "half", "signs", "mark", "sign"] ["row", "half"] (defScope st_turned_at_both) := ⟨rfl, rfl, rfl, by decide +kernel, rfl, by decide +kernel, by decide +kernel⟩
abbrev st_lets : Stmt := topS 31
theorem sc_lets : FnScope ["mark", "sign"] ["mark", "sign"] (defScope st_lets) := ⟨rfl, rfl, rfl, by decide +kernel, rfl, by decide +kernel, by decide +kernel⟩
abbrev st_fits_row : Stmt := topS 32
theorem sc_fits_row : FnScope ["row", "half", "mark", "sign"] ["row", "half"] (defScope st_fits_row) := ⟨rfl, rfl, rfl, by decide +kernel, rfl, by decide +kernel, by decide +kernel⟩
abbrev st_other_half : Stmt := topS 33
theorem sc_other_half : FnScope ["row", "half"] ["row", "half"] (defScope st_other_half) := ⟨rfl, rfl, rfl, by decide +kernel, rfl, by decide +kernel, by decide +kernel⟩
abbrev st_are_known : Stmt := topS 36
theorem sc_are_known : FnScope ["book", "thing", "half"] ["book", "thing"] (defScope st_are_known) := ⟨rfl, rfl, rfl, by decide +kernel, rfl, by decide +kernel, by decide +kernel⟩
abbrev st_names_in : Stmt := topS 37
theorem sc_names_in : FnScope ["book", "name", "row"] ["book"] (defScope st_names_in) := ⟨rfl, rfl, rfl, by decide +kernel, rfl, by decide +kernel, by decide +kernel⟩
abbrev st_is_order : Stmt := topS 38
theorem sc_is_order : FnScope ["book", "thing", "name"] ["book", "thing"] (defScope st_is_order) := ⟨rfl, rfl, rfl, by decide +kernel, rfl, by decide +kernel, by decide +kernel⟩
abbrev st_next_step : Stmt := topS 39
theorem sc_next_step : FnScope ["rows", "known", "waiting", "name", "half", "other"] ["rows", "known", "waiting"] (defScope st_next_step) := ⟨rfl, rfl, rfl, by decide +kernel, rfl, by decide +kernel, by decide +kernel⟩
abbrev st_steps_by : Stmt := topS 40
theorem sc_steps_by : FnScope ["book", "known", "order", "rows", "standing", "waiting", "steps", "step", "name", "half", "other"] ["book", "known", "order"] (defScope st_steps_by) := ⟨rfl, rfl, rfl, by decide +kernel, rfl, by decide +kernel, by decide +kernel⟩
abbrev st_settled : Stmt := topS 41
theorem sc_settled : FnScope ["book", "known", "order"] ["book", "known", "order"] (defScope st_settled) := ⟨rfl, rfl, rfl, by decide +kernel, rfl, by decide +kernel, by decide +kernel⟩
abbrev st_orders_of : Stmt := topS 42
theorem sc_orders_of : FnScope ["names", "at", "name", "rest"] ["names"] (defScope st_orders_of) := ⟨rfl, rfl, rfl, by decide +kernel, rfl, by decide +kernel, by decide +kernel⟩
abbrev st_best_order : Stmt := topS 43
theorem sc_best_order : FnScope ["book", "known", "best", "order"] ["book", "known"] (defScope st_best_order) := ⟨rfl, rfl, rfl, by decide +kernel, rfl, by decide +kernel, by decide +kernel⟩
abbrev st__law_cell : Stmt := topS 45
theorem sc__law_cell : FnScope ["_law_script", "_law_k", "_law_state", "_law_cell_here"] ["_law_script", "_law_k"] (defScope st__law_cell) := ⟨rfl, rfl, rfl, by decide +kernel, rfl, by decide +kernel, by decide +kernel⟩
abbrev st__law_numbers : Stmt := topS 46
theorem sc__law_numbers : FnScope ["_law_cell_here", "_law_many", "_law_found", "_law_state", "_law_digits", "_law_k"] ["_law_cell_here", "_law_many"] (defScope st__law_numbers) := ⟨rfl, rfl, rfl, by decide +kernel, rfl, by decide +kernel, by decide +kernel⟩
abbrev st__law_names : Stmt := topS 47
theorem sc__law_names : FnScope ["_law_xs", "_law_many", "_law_found", "_law_k", "_law_letter", "_law_name"] ["_law_xs", "_law_many"] (defScope st__law_names) := ⟨rfl, rfl, rfl, by decide +kernel, rfl, by decide +kernel, by decide +kernel⟩
abbrev st__law_any_row : Stmt := topS 48
theorem sc__law_any_row : FnScope ["_law_xs", "_law_places", "_law_k"] ["_law_xs", "_law_places"] (defScope st__law_any_row) := ⟨rfl, rfl, rfl, by decide +kernel, rfl, by decide +kernel, by decide +kernel⟩
abbrev st__law_turned_at : Stmt := topS 49
theorem sc__law_turned_at : FnScope ["_law_half", "_law_place", "_law_sign"] ["_law_half", "_law_place"] (defScope st__law_turned_at) := ⟨rfl, rfl, rfl, by decide +kernel, rfl, by decide +kernel, by decide +kernel⟩
abbrev st__law_tree_halves : Stmt := topS 50
theorem sc__law_tree_halves : FnScope ["_law_xs", "_law_places", "_law_left", "_law_found", "_law_k", "_law_place", "_law_half"] ["_law_xs", "_law_places"] (defScope st__law_tree_halves) := ⟨rfl, rfl, rfl, by decide +kernel, rfl, by decide +kernel, by decide +kernel⟩
abbrev st__law_joined_row : Stmt := topS 51
theorem sc__law_joined_row : FnScope ["_law_one", "_law_other", "_law_signs", "_law_k"] ["_law_one", "_law_other"] (defScope st__law_joined_row) := ⟨rfl, rfl, rfl, by decide +kernel, rfl, by decide +kernel, by decide +kernel⟩
abbrev st__law_book : Stmt := topS 52
theorem sc__law_book : FnScope ["_law_script", "_law_at", "_law_many", "_law_places", "_law_head", "_law_wide", "_law_amount", "_law_names_here", "_law_halves", "_law_rows", "_law_k", "_law_xs", "_law_row", "_law_place"] ["_law_script", "_law_at", "_law_many", "_law_places"] (defScope st__law_book) := ⟨rfl, rfl, rfl, by decide +kernel, rfl, by decide +kernel, by decide +kernel⟩
abbrev st__law_written : Stmt := topS 53
theorem sc__law_written : FnScope ["_law_thing", "_law_signs", "_law_most", "_law_sign"] ["_law_thing", "_law_signs", "_law_most"] (defScope st__law_written) := ⟨rfl, rfl, rfl, by decide +kernel, rfl, by decide +kernel, by decide +kernel⟩
abbrev st__law_sort : Stmt := topS 54
theorem sc__law_sort : FnScope ["_law_e", "_law_others", "_law_kinds"] ["_law_e"] (defScope st__law_sort) := ⟨rfl, rfl, rfl, by decide +kernel, rfl, by decide +kernel, by decide +kernel⟩
abbrev st__law_told : Stmt := topS 55
theorem sc__law_told : FnScope ["_law_book_here", "_law_known", "_law_order", "_law_e"] ["_law_book_here", "_law_known", "_law_order"] (defScope st__law_told) := ⟨rfl, rfl, rfl, by decide +kernel, rfl, by decide +kernel, by decide +kernel⟩
abbrev st__law_best_told : Stmt := topS 56
theorem sc__law_best_told : FnScope ["_law_book_here", "_law_known", "_law_e"] ["_law_book_here", "_law_known"] (defScope st__law_best_told) := ⟨rfl, rfl, rfl, by decide +kernel, rfl, by decide +kernel, by decide +kernel⟩
abbrev st__law_good_known : Stmt := topS 57
theorem sc__law_good_known : FnScope ["_law_book_here", "_law_thing", "_law_half"] ["_law_book_here", "_law_thing"] (defScope st__law_good_known) := ⟨rfl, rfl, rfl, by decide +kernel, rfl, by decide +kernel, by decide +kernel⟩
abbrev st__law_good_order : Stmt := topS 58
theorem sc__law_good_order : FnScope ["_law_book_here", "_law_thing", "_law_names_here", "_law_row", "_law_name"] ["_law_book_here", "_law_thing"] (defScope st__law_good_order) := ⟨rfl, rfl, rfl, by decide +kernel, rfl, by decide +kernel, by decide +kernel⟩
abbrev st__law_bent : Stmt := topS 59
theorem sc__law_bent : FnScope ["_law_some", "_law_xs", "_law_odd", "_law_at", "_law_way"] ["_law_some", "_law_xs", "_law_odd"] (defScope st__law_bent) := ⟨rfl, rfl, rfl, by decide +kernel, rfl, by decide +kernel, by decide +kernel⟩
abbrev st_law : Stmt := topS 60
theorem sc_law : FnScope ["_law_script", "_law_book_here", "_law_names_here", "_law_halves", "_law_odd", "_law_cell_here", "_law_xs", "_law_known", "_law_order", "_law_due", "_law_row"] ["_law_script"] (defScope st_law) := ⟨rfl, rfl, rfl, by decide +kernel, rfl, by decide +kernel, by decide +kernel⟩
section
variable {P : Program} {w : World} {K : PySem.W.Frag} {mg : Str → Option Value} {base : Heap}
def sp__law_cell (K : PySem.W.Frag) (ts : List Addr) : Sp := fun vs H Q _ => ∃ (a : Addr) (ns : List Int) (k : Int), vs = [.ref a, .int k] ∧ SqL K H a (ns.map V.int) ∧ (0 ≤ k ∧ k ≤ 1000) ∧ ∀ (c : Int) H2, Ex H H2 → Q (.int c) H2
theorem ok__law_cell {ts : List Addr} (D : Df K mg "_law_cell" st__law_cell ["_law_script", "_law_k"]) (m_len : mg "len" = none) : At P w K mg base "_law_cell" st__law_cell 1 ["_law_script", "_law_k"] (sp__law_cell K ts) := by
  obtain ⟨f, fd, F, b, g⟩ := D
  refine ⟨f, fd, F, b, g, F.ok sc__law_cell (fun vs H Q E h => ?_) (fun cdv A outer s H vs Q E hr h => ?_)⟩
  · obtain ⟨a, ns, k, rfl, _⟩ := h
    rfl
  · obtain ⟨a, ns, k, rfl, hS, hk, q⟩ := h
    refine ⟨_, (pss_cons (ps_if (pt_cmpR op_lt (pv 1) (pe_callB call_len_seq (by rfl) m_len (by decide +kernel) (pa_cons (pv 0) pa_nil)) (nomark _))
      (pss_one (ps_ret (pe_ix ix_list (pv 0) (pv 1) (fun _ _ => rfl))))
      pss_nil)
      (pss_cons (ps_set (i := 2) sc__law_cell.nd rfl (.inl rfl) (pe_op op_mod (pe_op op_mul pe_int (pe_op op_add (pe_op op_add (pe_op op_mul (pv 1) (pv 1)) (pe_op op_mul pe_int (pv 1))) pe_int)) pe_int))
      (pss_cons (ps_for PassesOwn.never rfl (pi_list (pe_slice sl_list (pv 0) po_none (po_some pe_int))) (pg_name (i := 3) sc__law_cell.nd rfl (.inl rfl))
      (pss_one (ps_set (i := 2) sc__law_cell.nd rfl (.inl rfl) (pe_op op_mod (pe_op op_add (pe_op op_mul (pv 2) pe_int) (pv 3)) pe_int))))
      (pss_one (ps_ret (pv 2)))))), ?_⟩
    refine q_when (et_test (ev_op (ev_var rfl) (ev_len (ev_var rfl) hS) rv_I0)) (fun hb H1 e1 => ?_) (fun hb H1 e1 => ?_)
    · have hb' : k < ((ns.map V.int).length : Int) := of_decide_eq_true hb
      have hj : k.toNat < ns.length := by rw [List.length_map] at hb'; omega
      have hat : atI (ns.map V.int) k = some (.int ns[k.toNat]) := by
        have := atI_nat (xs := ns.map V.int) (j := k.toNat) (v := .int ns[k.toNat]) (by rw [List.getElem?_map, List.getElem?_eq_getElem hj]; rfl)
        rwa [Int.toNat_of_nonneg hk.1] at this
      exact s_ret (ev_op (ev_var rfl) (ev_var rfl) (rv_ixL (ex_l e1 hS) hat)) fun H2 e2 => q _ _ (e1.trans e2)
    · refine q_asg (ev_op (ev_op ev_c (ev_op (ev_op (ev_op (ev_var rfl) (ev_var rfl) (rv_I (.inl ⟨by omega, by omega⟩))) (ev_op ev_c (ev_var rfl) (rv_I (.inl ⟨by omega, by omega⟩))) rv_I0) ev_c rv_I0) (rv_I (.inl ⟨by omega, by omega⟩))) ev_c (rv_I (by show (0 : Int) < 2147483647; decide))) fun H2 e2 => ?_
      refine q_forNLn (el_sl (ev_var rfl) eo_none (eo_some ev_c) (ex_l (e1.trans e2) hS)) (fun p i σ' H' => ∃ (c : Int) (y3 : Option V), σ' = [some (.ref a), some (.int k), some (.int c), y3] ∧ (0 ≤ c ∧ c < 2147483647) ∧ Ex H H' ∧ H' p = some (.lst (cutV (ns.map V.int) none (some 3)))) (fun p H3 hp e3 h3 => ⟨_, _, rfl, ⟨by omega, by omega⟩, (e1.trans e2).trans e3, h3⟩) (fun p i σ' H' _ hP => ?_) (fun p i x σ' H' hx hP => ?_) (fun p σ' H' hP => ?_)
      · obtain ⟨c, y3, _, _, _, h3⟩ := hP
        exact sq_of h3
      · obtain ⟨c, y3, rfl, hc, e3, h3⟩ := hP
        have hm : x ∈ ns.map V.int := List.mem_of_mem_drop (List.mem_of_mem_take (List.mem_of_getElem? hx))
        obtain ⟨z, _, rfl⟩ := List.mem_map.mp hm
        refine s_asg (ev_op (ev_op (ev_op (ev_var rfl) ev_c (rv_I (.inl ⟨by omega, by omega⟩))) (ev_var rfl) rv_I0) ev_c (rv_I (by show (0 : Int) < 2147483647; decide))) fun H4 e4 => ?_
        exact ⟨_, _, rfl, ⟨by omega, by omega⟩, e3.trans e4, e4 _ _ h3⟩
      · obtain ⟨c, y3, rfl, hc, e3, h3⟩ := hP
        exact s_ret (ev_var rfl) fun H4 e4 => q _ _ (e3.trans e4)
def sp__law_numbers (K : PySem.W.Frag) (ts : List Addr) : Sp := fun vs H Q _ => ∃ (c n : Int), vs = [.int c, .int n] ∧ (0 ≤ n ∧ n ≤ 1000) ∧ ∀ xs : List Int, (xs.length : Int) = n → (∀ x ∈ xs, 0 ≤ x) → RetL (xs.map V.int) H Q
theorem ok__law_numbers {ts : List Addr} (D : Df K mg "_law_numbers" st__law_numbers ["_law_cell_here", "_law_many"]) (m_abs : mg "abs" = none) (m_range : mg "range" = none) (m_int : mg "int" = none) : At P w K mg base "_law_numbers" st__law_numbers 1 ["_law_cell_here", "_law_many"] (sp__law_numbers K ts) := by
  obtain ⟨f, fd, F, b, g⟩ := D
  refine ⟨f, fd, F, b, g, F.ok sc__law_numbers (fun vs H Q E h => ?_) (fun cdv A outer s H vs Q E hr h => ?_)⟩
  · obtain ⟨c, n, rfl, _⟩ := h
    rfl
  · obtain ⟨c, n, rfl, hn, q⟩ := h
    refine ⟨_, (pss_cons (ps_set (i := 2) sc__law_numbers.nd rfl (.inl rfl) (pe_lst pa_nil))
      (pss_cons (ps_set (i := 3) sc__law_numbers.nd rfl (.inl rfl) (pe_op op_mod (pe_op op_mul (pe_op op_add (pe_op op_mod (pv 0) pe_int) pe_int) pe_int) pe_int))
      (pss_cons (ps_set (i := 4) sc__law_numbers.nd rfl (.inl rfl) pe_int)
      (pss_cut (ps_if (PW.pt (pw_or (pt_cmpR op_lt (pv 0) pe_int (nomark _)) (pw_or1 (pt_cmpR op_ge (pv 0) (pe_op op_pow pe_int pe_int) (nomark _)))))
      (pss_one (ps_set (i := 4) sc__law_numbers.nd rfl (.inl rfl) (pe_callB call_abs (by rfl) m_abs (by decide +kernel) (pa_cons (pv 0) pa_nil))))
      pss_nil)
      (pss_cons (ps_for PassesOwn.never rfl (pi_range1 (by rfl) m_range (pa_cons (pv 1) pa_nil)) (pg_name (i := 5) sc__law_numbers.nd rfl (.inl rfl))
      (pss_cons (ps_set (i := 3) sc__law_numbers.nd rfl (.inl rfl) (pe_op op_mod (pe_op op_add (pe_op op_add (pe_op op_mul (pv 3) (pe_op op_add (pe_op op_mod (pv 3) pe_int) pe_int)) (pe_op op_mul pe_int (pv 5))) pe_int) pe_int))
      (pss_cons (ps_expr (pe_bm PySem.F.plainAttrs_list PySem.F.slot_list_append PySem.F.type_list_append mt_append (pv 2) (pa_cons (pe_ix ix_list (pe_lst (pa_cons (pv 3) (pa_cons (pe_op op_mod (pv 4) pe_int) pa_nil))) (pe_callTy call_int1 (by rfl) m_int (by decide +kernel) (pa_cons (pe_cmpR op_gt (pv 4) pe_int (nomark _)) pa_nil)) (fun _ _ => rfl)) pa_nil)))
      (pss_one (ps_set (i := 4) sc__law_numbers.nd rfl (.inl rfl) (pe_op op_fdiv (pv 4) pe_int))))))
      (pss_one (ps_ret (pv 2)))))))), ?_⟩
    refine q_asgL (el_lst ea_nil (by decide)) fun l H1 hl e1 h1 => ?_
    refine q_asg (ev_op (ev_op (ev_op (ev_op (ev_var rfl) ev_c (rv_I (by show (0 : Int) < 1999999973; decide))) ev_c rv_I0) ev_c (rv_I (.inl ⟨by omega, by omega⟩))) ev_c (rv_I (by show (0 : Int) < 1999999973; decide))) fun H2 e2 => ?_
    refine q_asg ev_c fun H3 e3 => ?_
    have e13 : Ex H H3 := (e1.trans e2).trans e3
    have h3 : H3 l = some (.lst []) := e3 _ _ (e2 _ _ h1)
    generalize hst : ((c % 1999999973 + 31) * 765432101) % 1999999973 = st
    have hst1 : 0 ≤ st ∧ st < 1999999973 := by omega
    refine q_cut (M := fun σ' H' => ∃ d : Int, σ' = [some (.int c), some (.int n), some (.ref l), some (.int st), some (.int d), none] ∧ 0 ≤ d ∧ Ex H H' ∧ H' l = some (.lst [])) ?_ ?_
    · refine s_when (et_or (et_test (ev_op (ev_var rfl) ev_c rv_I0)) fun _ => et_test (ev_op (ev_var rfl) (ev_op ev_c ev_c (rv_I ⟨by decide, by decide, by decide⟩)) rv_I0)) (fun hb H4 e4 => ?_) (fun hb H4 e4 => ?_)
      · refine s_asg (ev_cb (ea_cons (ev_var rfl) ea_nil) (z := .int (if c < 0 then -c else c)) (fun Hx ex Qx qx => ⟨c, rfl, qx Hx (Ex.refl _)⟩)) fun H5 e5 => ?_
        exact ⟨_, rfl, by split <;> omega, (e13.trans e4).trans e5, e5 _ _ (e4 _ _ h3)⟩
      · exact ⟨0, rfl, Int.le_refl _, e13.trans e4, e4 _ _ h3⟩
    · rintro σ' H' ⟨d, rfl, hd, e4, h4⟩
      refine q_forR1 (ea_cons (ev_var rfl) ea_nil) ⟨hn.1, by omega⟩ (fun i σ' H' => ∃ (xs : List Int) (st d : Int) (y5 : Option V), σ' = [some (.int c), some (.int n), some (.ref l), some (.int st), some (.int d), y5] ∧ (0 ≤ st ∧ st < 1999999973) ∧ 0 ≤ d ∧ xs.length = i ∧ (∀ x ∈ xs, 0 ≤ x) ∧ Ex H H' ∧ H' l = some (.lst (xs.map V.int))) (fun H5 e5 => ⟨[], st, d, _, rfl, hst1, hd, rfl, (fun _ m => nomatch m), e4.trans e5, e5 _ _ h4⟩) (fun i σ' H' hi hP => ?_) (fun σ' H' hP => ?_)
      · obtain ⟨xs, st, d, y5, rfl, hs, hd, hx, hpos, e6, h6⟩ := hP
        refine q_asg (ev_op (ev_op (ev_op (ev_op (ev_var rfl) (ev_op (ev_op (ev_var rfl) ev_c (rv_I (by show (0 : Int) < 65521; decide))) ev_c rv_I0) (rv_I (.inl ⟨by omega, by omega⟩))) (ev_op ev_c (ev_var rfl) (rv_I (.inl ⟨by omega, by omega⟩))) rv_I0) ev_c rv_I0) ev_c (rv_I (by show (0 : Int) < 1999999973; decide))) fun H7 e7 => ?_
        generalize hst2 : (st * (st % 65521 + 40487) + 7 * (i : Int) + 5) % 1999999973 = st2
        have hb2 : 0 ≤ st2 ∧ st2 < 1999999973 := by rw [← hst2]; exact ⟨Int.emod_nonneg _ (by decide), Int.emod_lt_of_pos _ (by decide)⟩
        have h7 : H7 l = some (.lst (xs.map V.int)) := e7 _ _ h6
        refine q_app (v := .int (if d > 0 then d % 1000000 else st2)) h7 (ev_var rfl) ?_ (by rw [List.length_map]; omega) fun H8 e8 => ?_
        · refine ev_opL1 (el_lst (ea_cons (ev_var rfl) (ea_cons (ev_op (ev_var rfl) ev_c (rv_I (by show (0 : Int) < 1000000; decide))) ea_nil)) (by show 2 ≤ 100000; decide)) (y := .int (if decide (d > 0) = true then 1 else 0)) (fun Hx ex => ev_cb (ea_cons (ev_op (ev_var rfl) ev_c rv_I0) ea_nil) fun Hy ey Qy qy => .inr ⟨_, rfl, qy Hy (Ex.refl _)⟩) fun p Hx hp ex => rv_ixL (sq_of hp) ?_
          by_cases hd0 : d > 0
          · rw [decide_eq_true hd0, if_pos hd0] <;> rfl
          · rw [decide_eq_false hd0, if_neg hd0] <;> rfl
        · refine s_asg (ev_op (ev_var rfl) ev_c (rv_I ⟨by decide, by decide⟩)) fun H9 e9 => ?_
          have ne : H l = none := hl
          refine ⟨xs ++ [if d > 0 then d % 1000000 else st2], st2, d / 1000000, _, rfl, hb2, by omega, by rw [List.length_append, hx]; rfl, fun x hx2 => ?_, ?_, ?_⟩
          · rcases List.mem_append.mp hx2 with h | h
            · exact hpos x h
            · rw [List.mem_singleton.mp h]
              split <;> omega
          · exact ((e6.trans e7).trans e8 |>.mut ne).trans e9
          · refine e9 _ _ ?_
            rw [upd_same, List.map_append] <;> rfl
      · obtain ⟨xs, st, d, y5, rfl, hs, hd, hx, hpos, e6, h6⟩ := hP
        exact s_ret (ev_var rfl) fun H7 e7 => q xs (by omega) hpos l H7 hl (e6.trans e7) (e7 _ _ h6)
def sp__law_any_row (K : PySem.W.Frag) (ts : List Addr) : Sp := fun vs H Q _ => ∃ (a : Addr) (xs : List Int) (n : Nat), vs = [.ref a, .int (n : Nat)] ∧ SqL K H a (xs.map V.int) ∧ (n ≤ xs.length ∧ n ≤ 1000) ∧ ∀ l : List Nat, l.length = n → (∀ c ∈ l, c = 110 ∨ c = 98 ∨ c = 121) → RetV (.str (tx l)) H Q
theorem ok__law_any_row {ts : List Addr} (D : Df K mg "_law_any_row" st__law_any_row ["_law_xs", "_law_places"]) (m_range : mg "range" = none) : At P w K mg base "_law_any_row" st__law_any_row 1 ["_law_xs", "_law_places"] (sp__law_any_row K ts) := by
  obtain ⟨f, fd, F, b, g⟩ := D
  refine ⟨f, fd, F, b, g, F.ok sc__law_any_row (fun vs H Q E h => ?_) (fun cdv A outer s H vs Q E hr h => ?_)⟩
  · obtain ⟨a, xs, n, rfl, _⟩ := h
    rfl
  · obtain ⟨a, xs, n, rfl, hS, hn, q⟩ := h
    refine ⟨_, (pss_one (ps_ret (pe_join pe_str (pe_lc (own := [("_law_k", 2)]) (g := gName 2) (by rfl) sc__law_any_row.nd (pi_range1 (by rfl) m_range (pa_cons (pv 1) pa_nil)) (blkOk_by (N := ["_law_xs", "_law_places", "_law_k"]) (sc := defScope st__law_any_row) (by decide +kernel)) (fun _ _ _ _ _ => (pg_name (i := 2) sc__law_any_row.nd rfl (.inl rfl))) (fun _ _ _ _ _ => pts_nil) (fun _ _ _ _ _ => (pe_ix ix_str pe_str (pe_op op_mod (pe_ix (show IxR _ (rIxL K) from ix_list) (pv 0) (pv 2) (fun _ _ => rfl)) pe_int) (fun _ _ => rfl))))))), ?_⟩
    refine ⟨⟨_, rfl⟩, ?_⟩
    have hcd : ∀ x : Int, atI ("nbybn" : Str).cps.toList (x % 5) = some ([110, 98, 121, 98, 110].getD (x % 5).toNat 110) := fun x => by
      have h0 := Int.emod_nonneg x (show (5 : Int) ≠ 0 by decide)
      have h1 := Int.emod_lt_of_pos x (show (0 : Int) < 5 by decide)
      generalize x % 5 = y at h0 h1
      have : y = 0 ∨ y = 1 ∨ y = 2 ∨ y = 3 ∨ y = 4 := by omega
      rcases this with h | h | h | h | h <;> subst h <;> rfl
    have hcm : ∀ x : Int, ([110, 98, 121, 98, 110].getD (x % 5).toNat 110 = 110 ∨ [110, 98, 121, 98, 110].getD (x % 5).toNat 110 = 98 ∨ [110, 98, 121, 98, 110].getD (x % 5).toNat 110 = 121) := fun x => by
      have h0 := Int.emod_nonneg x (show (5 : Int) ≠ 0 by decide)
      have h1 := Int.emod_lt_of_pos x (show (0 : Int) < 5 by decide)
      generalize x % 5 = y at h0 h1
      have : y = 0 ∨ y = 1 ∨ y = 2 ∨ y = 3 ∨ y = 4 := by omega
      rcases this with h | h | h | h | h <;> subst h <;> decide
    refine (el_lcR1 (fun _ => true) (fun i => V.str (sg1 ([110, 98, 121, 98, 110].getD (xs.getD i 0 % 5).toNat 110))) (ea_cons (ev_var rfl) ea_nil) ⟨by omega, by omega⟩ (fun _ => rfl) (fun i H1 e1 hi => et_yes) (fun i H1 e1 hi _ => ?_)) H (Ex.refl _) _ fun p H2 hp e2 h2 => ?_
    · have hi' : i < xs.length := by omega
      refine ev_op ev_c (ev_op (ev_op (ev_var rfl) (ev_var rfl) (rv_ixL (ex_l e1 hS) (v := .int (xs.getD i 0)) ?_)) ev_c (rv_I (by show (0 : Int) < 5; decide))) (rv_ixS (by decide) (hcd _))
      refine atI_nat ?_
      rw [List.getElem?_map, List.getD_eq_getElem?_getD, List.getElem?_eq_getElem hi']
      rfl
    · rw [Int.toNat_natCast, given_true] at h2
      have e : (List.range n).map (fun i => V.str (sg1 ([110, 98, 121, 98, 110].getD (xs.getD i 0 % 5).toNat 110))) = vs1 ((List.range n).map fun i => [110, 98, 121, 98, 110].getD (xs.getD i 0 % 5).toNat 110) := by
        show _ = List.map _ _
        rw [List.map_map]
        rfl
      rw [e] at h2
      refine r_join (sq_of h2) (by rw [List.length_map, List.length_range]; omega) (q _ (by rw [List.length_map, List.length_range]) (fun c hc => ?_) H2 e2)
      obtain ⟨i, _, rfl⟩ := List.mem_map.mp hc
      exact hcm _
def sp__law_joined_row (K : PySem.W.Frag) (ts : List Addr) : Sp := fun vs H Q _ => ∃ a o : List Nat, vs = [.str (tx a), .str (tx o)] ∧ (a.length = o.length ∧ o.length ≤ 1000) ∧ RetV (.str (tx (rowBy a o))) H Q
theorem ok__law_joined_row {ts : List Addr} (D : Df K mg "_law_joined_row" st__law_joined_row ["_law_one", "_law_other"]) (m_range : mg "range" = none) (m_len : mg "len" = none) : At P w K mg base "_law_joined_row" st__law_joined_row 1 ["_law_one", "_law_other"] (sp__law_joined_row K ts) := by
  obtain ⟨f, fd, F, b, g⟩ := D
  refine ⟨f, fd, F, b, g, F.ok sc__law_joined_row (fun vs H Q E h => ?_) (fun cdv A outer s H vs Q E hr h => ?_)⟩
  · obtain ⟨a, o, rfl, _⟩ := h
    rfl
  · obtain ⟨a, o, rfl, hl, q⟩ := h
    refine ⟨_, (pss_cons (ps_set (i := 2) sc__law_joined_row.nd rfl (.inl rfl) (pe_lst pa_nil))
      (pss_cons (ps_for PassesOwn.never rfl (pi_range1 (by rfl) m_range (pa_cons (pe_callB call_len_str (by rfl) m_len (by decide +kernel) (pa_cons (pv 0) pa_nil)) pa_nil)) (pg_name (i := 3) sc__law_joined_row.nd rfl (.inl rfl))
      (pss_one (ps_expr (pe_bm PySem.F.plainAttrs_list PySem.F.slot_list_append PySem.F.type_list_append mt_append (pv 2) (pa_cons (pe_ifExp (pt_cmpR op_eq (pe_ix ix_str (pv 0) (pv 3) (fun _ _ => rfl)) (pe_ix ix_str (pv 1) (pv 3) (fun _ _ => rfl)) (nomark _)) (pe_ix ix_str (pv 0) (pv 3) (fun _ _ => rfl)) pe_str) pa_nil)))))
      (pss_one (ps_ret (pe_join pe_str (pv 2)))))), ?_⟩
    have hla : (tx a).length = a.length := by simp [tx, Str.length]
    have hlo : (tx o).length = o.length := by simp [tx, Str.length]
    have hrl : (rowBy a o).length = a.length := by unfold rowBy; rw [List.length_zipWith]; omega
    refine q_asgL (el_lst ea_nil (by decide)) fun l H1 nl e1 h1 => ?_
    refine q_forR1 (n := (a.length : Int)) (ea_cons (ev_is (ev_lenS (ev_var rfl) (by omega)) (by rw [hla])) ea_nil) ⟨by omega, by omega⟩ (fun i σ' H' => ∃ y3 : Option V, σ' = [some (.str (tx a)), some (.str (tx o)), some (.ref l), y3] ∧ Ex H H' ∧ H' l = some (.lst (vs1 ((rowBy a o).take i)))) (fun H2 e2 => ⟨_, rfl, e1.trans e2, e2 _ _ h1⟩) (fun i σ' H2 hi hP => ?_) (fun σ' H2 hP => ?_)
    · obtain ⟨y3, rfl, e2, h2⟩ := hP
      have hia : i < a.length := by omega
      have hio : i < o.length := by omega
      have aa : atI (tx a).cps.toList (i : Int) = some a[i] := atI_nat (by simp [tx, hia])
      have ao : atI (tx o).cps.toList (i : Int) = some o[i] := atI_nat (by simp [tx, hio])
      have hg : (rowBy a o)[i]? = some (rb a[i] o[i]) := by unfold rowBy; rw [List.getElem?_zipWith, List.getElem?_eq_getElem hia, List.getElem?_eq_getElem hio]
      refine s_app (v := .str (sg1 (rb a[i] o[i]))) h2 (ev_var rfl) (ev_if (et_is (et_test (ev_op (ev_op (ev_var rfl) (ev_var rfl) (rv_ixS (by omega) aa)) (ev_op (ev_var rfl) (ev_var rfl) (rv_ixS (by omega) ao)) (rv_eq rfl))) (str1_dec a[i] o[i])) (fun hb => ev_is (ev_op (ev_var rfl) (ev_var rfl) (rv_ixS (by omega) aa)) ?_) (fun hb => ev_is ev_c ?_)) (by rw [List.length_map, List.length_take]; omega) fun H3 e3 => ⟨_, rfl, (e2.trans e3).mut nl, ?_⟩
      · unfold rb; rw [if_pos (of_decide_eq_true hb)]; rfl
      · unfold rb; rw [if_neg (of_decide_eq_false hb)]; rfl
      · rw [upd_same, List.take_add_one, hg]
        show _ = some (HO.lst (List.map _ _))
        rw [List.map_append]
        rfl
    · obtain ⟨y3, rfl, e2, h2⟩ := hP
      rw [List.take_of_length_le (by omega)] at h2
      exact ⟨⟨_, rfl⟩, _, rfl, r_join (sq_of h2) (by omega) (q H2 e2)⟩
def sp__law_names (K : PySem.W.Frag) (ts : List Addr) : Sp := fun vs H Q _ => ∃ (a : Addr) (xs : List Int) (m : Nat), vs = [.ref a, .int (m : Nat)] ∧ SqL K H a (xs.map V.int) ∧ (3 ≤ xs.length ∧ m ≤ 10) ∧ ∀ x y z : Nat, x < 10 → y < 4 → z < 3 → RetL ((List.range m).map fun k => .str (tx (nameOf x y z k))) H Q
theorem ok__law_names {ts : List Addr} (D : Df K mg "_law_names" st__law_names ["_law_xs", "_law_many"]) (m_range : mg "range" = none) : At P w K mg base "_law_names" st__law_names 1 ["_law_xs", "_law_many"] (sp__law_names K ts) := by
  obtain ⟨f, fd, F, b, g⟩ := D
  refine ⟨f, fd, F, b, g, F.ok sc__law_names (fun vs H Q E h => ?_) (fun cdv A outer s H vs Q E hr h => ?_)⟩
  · obtain ⟨a, xs, m, rfl, _⟩ := h
    rfl
  · obtain ⟨a, xs, m, rfl, hS, ⟨hxl, hm⟩, q⟩ := h
    refine ⟨_, (pss_cons (ps_set (i := 2) sc__law_names.nd rfl (.inl rfl) (pe_lst pa_nil))
      (pss_cons (ps_for PassesOwn.never rfl (pi_range1 (by rfl) m_range (pa_cons (pv 1) pa_nil)) (pg_name (i := 3) sc__law_names.nd rfl (.inl rfl))
      (pss_cons (ps_set (i := 4) sc__law_names.nd rfl (.inl rfl) (pe_ix ix_str pe_str (pe_op op_mod (pe_op op_add (pv 3) (pe_ix ix_list (pv 0) pe_int (fun _ _ => rfl))) pe_int) (fun _ _ => rfl)))
      (pss_cons (ps_set (i := 5) sc__law_names.nd rfl (.inl rfl) (pe_op op_add_str (pv 4) (pe_ix ix_list (pe_lst (pa_cons pe_str (pa_cons pe_str (pa_cons pe_str (pa_cons pe_str pa_nil))))) (pe_op op_mod (pe_ix ix_list (pv 0) pe_int (fun _ _ => rfl)) pe_int) (fun _ _ => rfl))))
      (pss_cons (ps_if (pt_cmpR op_eq (pe_op op_mod (pe_ix ix_list (pv 0) pe_int (fun _ _ => rfl)) pe_int) pe_int (nomark _))
      (pss_one (ps_set (i := 5) sc__law_names.nd rfl (.inl rfl) (pe_op Hid.op_mul_str (pe_ix ix_str pe_str (pe_op op_fdiv (pv 3) pe_int) (fun _ _ => rfl)) (pe_op op_add pe_int (pe_op op_mod (pv 3) pe_int)))))
      pss_nil)
      (pss_cons (ps_if (pt_cmpR op_eq (pe_op op_mod (pe_ix ix_list (pv 0) pe_int (fun _ _ => rfl)) pe_int) pe_int (nomark _))
      (pss_one (ps_set (i := 5) sc__law_names.nd rfl (.inl rfl) (pe_op op_add_str (pe_ix ix_list (pe_lst (pa_cons pe_str (pa_cons pe_str (pa_cons pe_str (pa_cons pe_str pa_nil))))) (pe_op op_mod (pe_ix ix_list (pv 0) pe_int (fun _ _ => rfl)) pe_int) (fun _ _ => rfl)) (pv 4))))
      pss_nil)
      (pss_one (ps_expr (pe_bm PySem.F.plainAttrs_list PySem.F.slot_list_append PySem.F.type_list_append mt_append (pv 2) (pa_cons (pv 5) pa_nil)))))))))
      (pss_one (ps_ret (pv 2))))), ?_⟩
    have ax : ∀ (j : Nat) (hj : j < 3), atI (xs.map V.int) (j : Int) = some (.int (xs.getD j 0)) := fun j hj => atI_nat (by rw [List.getElem?_map, List.getD_eq_getElem?_getD, List.getElem?_eq_getElem (by omega)]; rfl)
    have md : ∀ (v : Int) (d : Nat), 0 < d → ∃ r : Nat, v % (d : Int) = (r : Nat) ∧ r < d := fun v d hd => ⟨(v % (d : Int)).toNat, by
      have := Int.emod_nonneg v (show (d : Int) ≠ 0 by omega)
      have := Int.emod_lt_of_pos v (show (0 : Int) < d by omega)
      omega⟩
    obtain ⟨x, hx, hx10⟩ := md (xs.getD 0 0) 10 (by decide)
    obtain ⟨y, hy, hy4⟩ := md (xs.getD 1 0) 4 (by decide)
    obtain ⟨z, hz, hz3⟩ := md (xs.getD 2 0) 3 (by decide)
    refine q_asgL (el_lst ea_nil (by decide)) fun l H1 nl e1 h1 => ?_
    refine q_forR1 (n := (m : Int)) (ea_cons (ev_var rfl) ea_nil) ⟨by omega, by omega⟩ (fun i σ' H' => ∃ y3 y4 y5 : Option V, σ' = [some (.ref a), some (.int (m : Nat)), some (.ref l), y3, y4, y5] ∧ Ex H H' ∧ H' l = some (.lst ((List.range i).map fun k => .str (tx (nameOf x y z k))))) (fun H2 e2 => ⟨_, _, _, rfl, e1.trans e2, e2 _ _ h1⟩) (fun i σ' H2 hi hP => ?_) (fun σ' H2 hP => ?_)
    · obtain ⟨y3, y4, y5, rfl, e2, h2⟩ := hP
      have hi10 : i < 10 := by omega
      have hlt : atI ("abcdefghij" : Str).cps.toList (((i : Int) + xs.getD 0 0) % 10) = some (nLet x i) := by
        have e : ((i : Int) + xs.getD 0 0) % 10 = (((i + x) % 10 : Nat) : Int) := by have : xs.getD 0 0 % 10 = (x : Int) := hx; omega
        have h10 : (i + x) % 10 < 10 := Nat.mod_lt _ (by decide)
        unfold nLet
        rw [e]
        generalize (i + x) % 10 = r at h10
        have : r = 0 ∨ r = 1 ∨ r = 2 ∨ r = 3 ∨ r = 4 ∨ r = 5 ∨ r = 6 ∨ r = 7 ∨ r = 8 ∨ r = 9 := by omega
        rcases this with h | h | h | h | h | h | h | h | h | h <;> subst h <;> rfl
      refine q_asg (v := .str (sg1 (nLet x i))) (ev_op ev_c (ev_op (ev_op (ev_var rfl) (ev_op (ev_var rfl) ev_c (rv_ixL (ex_l e2 hS) (ax 0 (by decide)))) rv_I0) ev_c (rv_I (by show (0 : Int) < 10; decide))) (rv_ixS (by decide) hlt)) fun H3 e3 => ?_
      have hS3 := ex_l (e2.trans e3) hS
      have hsuf : atI [V.str "", V.str "b", V.str "ba", V.str "abcdefg"] (xs.getD 1 0 % 4) = some (.str (tx (nSuf y))) := by
        rw [show xs.getD 1 0 % 4 = (y : Int) from hy]
        have : y = 0 ∨ y = 1 ∨ y = 2 ∨ y = 3 := by omega
        rcases this with h | h | h | h <;> subst h <;> rfl
      have hpre : atI [V.str "", V.str "d", V.str "dd", V.str "ccccccc"] (xs.getD 1 0 % 4) = some (.str (tx (nPre y))) := by
        rw [show xs.getD 1 0 % 4 = (y : Int) from hy]
        have : y = 0 ∨ y = 1 ∨ y = 2 ∨ y = 3 := by omega
        rcases this with h | h | h | h <;> subst h <;> rfl
      have lsuf : (tx (nSuf y)).length ≤ 1000 := by
        rw [tx_len]
        have : y = 0 ∨ y = 1 ∨ y = 2 ∨ y = 3 := by omega
        rcases this with h | h | h | h <;> subst h <;> decide
      have lpre : (tx (nPre y)).length ≤ 1000 := by
        rw [tx_len]
        have : y = 0 ∨ y = 1 ∨ y = 2 ∨ y = 3 := by omega
        rcases this with h | h | h | h <;> subst h <;> decide
      refine q_asg (v := .str (tx (nLet x i :: nSuf y))) (ev_is (ev_op (ev_var rfl) (ev_opL1 (el_lst (ea_cons ev_c (ea_cons ev_c (ea_cons ev_c (ea_cons ev_c ea_nil)))) (by show 4 ≤ 100000; decide)) (fun G g => ev_op (ev_op (ev_var rfl) ev_c (rv_ixL (ex_l g hS3) (ax 1 (by decide)))) ev_c (rv_I (by show (0 : Int) < 4; decide))) (fun p G hp g => rv_ixL (sq_of hp) hsuf)) (rv_catS (by show 1 ≤ 1000; decide) lsuf)) (congrArg V.str (tx_app [nLet x i] (nSuf y)))) fun H4 e4 => ?_
      have hS4 := ex_l e4 hS3
      have hab : atI ("ab" : Str).cps.toList ((i : Int) / 8) = some (97 + i / 8) := by
        have : i / 8 = 0 ∨ i / 8 = 1 := by omega
        rcases this with h | h
        · rw [show (i : Int) / 8 = ((0 : Nat) : Int) by omega, h]; rfl
        · rw [show (i : Int) / 8 = ((1 : Nat) : Int) by omega, h]; rfl
      refine q_ifAsg (v := .str (tx (if z = 1 then List.replicate (1 + i % 8) (97 + i / 8) else nLet x i :: nSuf y))) (b := decide (z = 1)) (et_is (et_test (ev_op (ev_op (ev_op (ev_var rfl) ev_c (rv_ixL hS4 (ax 2 (by decide)))) ev_c (rv_I (by show (0 : Int) < 3; decide))) ev_c (rv_eq rfl))) ?_) (fun hb => ev_is (ev_op (ev_op ev_c (ev_op (ev_var rfl) ev_c (rv_I ⟨by decide, by decide⟩)) (rv_ixS (by decide) hab)) (ev_op ev_c (ev_op (ev_var rfl) ev_c (rv_I (by show (0 : Int) < 8; decide))) rv_I0) (rv_val fun Hx ex Qx qx => ⟨_, _, rfl, rfl, by omega, by omega, by show 1 ≤ 1000; decide, qx⟩)) ?_) (fun hb => ?_) fun H5 e5 => ?_
      · exact decide_eq_decide.mpr ⟨fun q => by have := V.int.inj q; have h3 : xs.getD 2 0 % 3 = (z : Int) := hz; omega, fun q => by rw [show xs.getD 2 0 % 3 = (z : Int) from hz, q]; rfl⟩
      · rw [if_pos (of_decide_eq_true hb)]
        exact congrArg V.str ((mul_c (97 + i / 8) (1 + (i : Int) % 8) (by omega)).trans (congrArg (fun k => tx (List.replicate k (97 + i / 8))) (by omega)))
      · rw [if_neg (of_decide_eq_false hb)]
        rfl
      have hS5 := ex_l e5 hS4
      refine q_ifAsg (v := .str (tx (nameOf x y z i))) (b := decide (z = 2)) (et_is (et_test (ev_op (ev_op (ev_op (ev_var rfl) ev_c (rv_ixL hS5 (ax 2 (by decide)))) ev_c (rv_I (by show (0 : Int) < 3; decide))) ev_c (rv_eq rfl))) ?_) (fun hb => ev_is (ev_op (ev_opL1 (el_lst (ea_cons ev_c (ea_cons ev_c (ea_cons ev_c (ea_cons ev_c ea_nil)))) (by show 4 ≤ 100000; decide)) (fun G g => ev_op (ev_op (ev_var rfl) ev_c (rv_ixL (ex_l g hS5) (ax 1 (by decide)))) ev_c (rv_I (by show (0 : Int) < 4; decide))) (fun p G hp g => rv_ixL (sq_of hp) hpre)) (ev_var rfl) (rv_catS lpre (by show 1 ≤ 1000; decide))) ?_) (fun hb => ?_) fun H6 e6 => ?_
      · exact decide_eq_decide.mpr ⟨fun q => by have := V.int.inj q; have h3 : xs.getD 2 0 % 3 = (z : Int) := hz; omega, fun q => by rw [show xs.getD 2 0 % 3 = (z : Int) from hz, q]; rfl⟩
      · unfold nameOf
        rw [if_neg (by have := of_decide_eq_true hb; omega), if_pos (of_decide_eq_true hb)]
        exact congrArg V.str (tx_sn _ _)
      · unfold nameOf
        rw [if_neg (of_decide_eq_false hb)]
        rfl
      · have h6 : H6 l = some (.lst ((List.range i).map fun k => .str (tx (nameOf x y z k)))) := e6 _ _ (e5 _ _ (e4 _ _ (e3 _ _ h2)))
        refine s_app h6 (ev_var rfl) (ev_var rfl) (by rw [List.length_map, List.length_range]; omega) fun H7 e7 => ⟨_, _, _, rfl, (e2.trans (e3.trans (e4.trans (e5.trans (e6.trans e7))))).mut nl, ?_⟩
        rw [upd_same, List.range_succ, List.map_append]
        rfl
    · obtain ⟨y3, y4, y5, rfl, e2, h2⟩ := hP
      rw [Int.toNat_natCast] at h2
      exact s_ret (ev_var rfl) fun H3 e3 => q x y z hx10 hy4 hz3 l H3 nl (e2.trans e3) (e3 _ _ h2)
def sp__law_turned_at (K : PySem.W.Frag) (ts : List Addr) : Sp := fun vs H Q _ => ∃ (n k : Nat) (h : List Nat), vs = [.str (tx h), .int (k : Nat)] ∧ (HalfN n h ∧ k < n ∧ n ≤ 8) ∧ ∀ z : List Nat, HalfN n z → RetV (.str (tx z)) H Q
theorem ok__law_turned_at {ts : List Addr} (D : Df K mg "_law_turned_at" st__law_turned_at ["_law_half", "_law_place"]) (m_int : mg "int" = none) : At P w K mg base "_law_turned_at" st__law_turned_at 1 ["_law_half", "_law_place"] (sp__law_turned_at K ts) := by
  obtain ⟨f, fd, F, b, g⟩ := D
  refine ⟨f, fd, F, b, g, F.ok sc__law_turned_at (fun vs H Q E h => ?_) (fun cdv A outer s H vs Q E hr h => ?_)⟩
  · obtain ⟨n, k, h, rfl, _⟩ := h
    rfl
  · obtain ⟨n, k, h, rfl, ⟨hh, hk, hn⟩, q⟩ := h
    refine ⟨_, (pss_cons (ps_set (i := 2) sc__law_turned_at.nd rfl (.inl rfl) (pe_ix ix_str pe_str (pe_callTy call_int1 (by rfl) m_int (by decide +kernel) (pa_cons (pe_cmpR op_eq (pe_ix ix_str (pv 0) (pv 1) (fun _ _ => rfl)) pe_str (nomark _)) pa_nil)) (fun _ _ => rfl)))
      (pss_one (ps_ret (pe_op op_add_str (pe_op op_add_str (pe_slice sl_str (pv 0) po_none (po_some (pv 1))) (pv 2)) (pe_slice sl_str (pv 0) (po_some (pe_op op_add (pv 1) pe_int)) po_none))))), ?_⟩
    have hl := hh.1
    have hkh : k < h.length := by omega
    have ak : atI (tx h).cps.toList (k : Int) = some h[k] := atI_nat (by simp [tx, hkh])
    have l8 : (tx h).length ≤ 100000 := by rw [tx_len]; omega
    obtain ⟨c, hc, hac⟩ : ∃ c : Nat, (c = 110 ∨ c = 121) ∧ atI ("ny" : Str).cps.toList (if decide (V.str (sg1 h[k]) = V.str "n") = true then 1 else 0) = some c := by
      split
      · exact ⟨121, .inr rfl, rfl⟩
      · exact ⟨110, .inl rfl, rfl⟩
    refine q_asg (v := .str (sg1 c)) (ev_op ev_c (ev_cb (ea_cons (ev_op (ev_op (ev_var rfl) (ev_var rfl) (rv_ixS l8 ak)) ev_c (rv_eq rfl)) ea_nil) fun G g Q1 q1 => .inr ⟨_, rfl, q1 G (Ex.refl _)⟩) (rv_ixS (by decide) hac)) fun H1 e1 => ?_
    have ct := cutS_take h k (by omega)
    have cd := cutS_drop h (k + 1)
    rw [Int.natCast_add] at cd
    refine s_ret (ev_is (ev_op (ev_is (ev_op (ev_is (ev_slS (ev_var rfl) eo_none (eo_some (ev_var rfl)) l8) (congrArg V.str ct)) (ev_var rfl) (rv_catS (by show (tx _).length ≤ 1000; rw [tx_len, List.length_take]; omega) (by show 1 ≤ 1000; decide))) (congrArg V.str (tx_sn _ _))) (ev_is (ev_slS (ev_var rfl) (eo_some (ev_op (ev_var rfl) ev_c rv_I0)) eo_none l8) (congrArg V.str cd)) (rv_catS (by rw [tx_len, List.length_append, List.length_take]; show _ + 1 ≤ 1000; omega) (by rw [tx_len, List.length_drop]; omega))) (congrArg V.str (tx_app _ _))) fun H2 e2 => q _ ⟨by simp; omega, fun d hd => ?_⟩ H2 (e1.trans e2)
    rcases List.mem_append.mp hd with z | z
    · rcases List.mem_append.mp z with z | z
      · exact hh.2 d (List.mem_of_mem_take z)
      · rw [List.mem_singleton.mp z]; exact hc
    · exact hh.2 d (List.mem_of_mem_drop z)
def sp__law_tree_halves (K : PySem.W.Frag) (ts : List Addr) : Sp := fun vs H Q _ => ∃ (a : Addr) (xs : List Int) (n : Nat), vs = [.ref a, .int (n : Nat)] ∧ SqL K H a (xs.map V.int) ∧ (12 ≤ xs.length ∧ 1 ≤ n ∧ n ≤ 8) ∧ ∀ hs : List (List Nat), hs ≠ [] → hs.length ≤ 9 → (∀ h ∈ hs, HalfN n h) → RetL (hs.map fun h => .str (tx h)) H Q
theorem ok__law_tree_halves {ts : List Addr} (D : Df K mg "_law_tree_halves" st__law_tree_halves ["_law_xs", "_law_places"]) (m_list : mg "list" = none) (m_range : mg "range" = none) (m_len : mg "len" = none) (A__law_turned_at : At P w K mg base "_law_turned_at" st__law_turned_at 1 ["_law_half", "_law_place"] (sp__law_turned_at K ts)) : At P w K mg base "_law_tree_halves" st__law_tree_halves 2 ["_law_xs", "_law_places"] (sp__law_tree_halves K ts) := by
  obtain ⟨f, fd, F, b, g⟩ := D
  obtain ⟨f__law_turned_at, fd__law_turned_at, F__law_turned_at, b__law_turned_at, g__law_turned_at, G__law_turned_at⟩ := A__law_turned_at
  refine ⟨f, fd, F, b, g, F.ok sc__law_tree_halves (fun vs H Q E h => ?_) (fun cdv A outer s H vs Q E hr h => ?_)⟩
  · obtain ⟨a, xs, n, rfl, _⟩ := h
    rfl
  · obtain ⟨a, xs, n, rfl, hS, ⟨hxl, hn1, hn8⟩, q⟩ := h
    refine ⟨_, (pss_cons (ps_set (i := 2) sc__law_tree_halves.nd rfl (.inl rfl) (pe_listRg rfl (by rfl) m_list (prg_1 (by rfl) m_range (pv 1))))
      (pss_cons (ps_set (i := 3) sc__law_tree_halves.nd rfl (.inl rfl) (pe_lst (pa_cons (pe_join pe_str (pe_lc (own := [("_law_k", 4)]) (g := gName 4) (by rfl) sc__law_tree_halves.nd (pi_range1 (by rfl) m_range (pa_cons (pv 1) pa_nil)) (blkOk_by (N := ["_law_xs", "_law_places", "_law_left", "_law_found", "_law_k", "_law_place", "_law_half"]) (sc := defScope st__law_tree_halves) (by decide +kernel)) (fun _ _ _ _ _ => (pg_name (i := 4) sc__law_tree_halves.nd rfl (.inl rfl))) (fun _ _ _ _ _ => pts_nil) (fun _ _ _ _ _ => (pe_ix ix_str pe_str (pe_op op_mod (pe_op op_fdiv (pe_op op_fdiv (pe_ix (show IxR _ (rIxL K) from ix_list) (pv 0) pe_int (fun _ _ => rfl)) pe_int) (pe_ix (show IxR _ (rIxL K) from ix_list) (pe_lst (pa_cons pe_int (pa_cons pe_int (pa_cons pe_int (pa_cons pe_int (pa_cons pe_int (pa_cons pe_int (pa_cons pe_int (pa_cons pe_int pa_nil))))))))) (pv 4) (fun _ _ => rfl))) pe_int) (fun _ _ => rfl))))) pa_nil)))
      (pss_cons (ps_for PassesOwn.never rfl (pi_range1 (by rfl) m_range (pa_cons (pv 1) pa_nil)) (pg_name (i := 4) sc__law_tree_halves.nd rfl (.inl rfl))
      (pss_cons (ps_set (i := 5) sc__law_tree_halves.nd rfl (.inl rfl) (pe_bm PySem.F.plainAttrs_list PySem.F.slot_list_pop PySem.F.type_list_pop mt_popAt (pv 2) (pa_cons (pe_op op_mod (pe_ix ix_list (pv 0) (pv 4) (fun _ _ => rfl)) (pe_callB call_len_seq (by rfl) m_len (by decide +kernel) (pa_cons (pv 2) pa_nil))) pa_nil)))
      (pss_cons (ps_set (i := 6) sc__law_tree_halves.nd rfl (.inl rfl) (pe_call G__law_turned_at (hr.mono (by decide)) (by rfl) g__law_turned_at F__law_turned_at.kp b__law_turned_at .nil pass0 (pa_cons (pe_ix ix_list (pv 3) (pe_op op_mod (pe_op op_fdiv (pe_ix ix_list (pv 0) (pv 4) (fun _ _ => rfl)) pe_int) (pe_callB call_len_seq (by rfl) m_len (by decide +kernel) (pa_cons (pv 3) pa_nil))) (fun _ _ => rfl)) (pa_cons (pv 5) pa_nil))))
      (pss_cut (ps_if (PW.pt (pw_and (pt_cmpR (op_neD hr.units) (pv 2) (pe_lst pa_nil) (nomark _)) (pw_and1 (pt_cmpR op_eq (pe_op op_mod (pe_op op_fdiv (pe_ix ix_list (pv 0) (pv 4) (fun _ _ => rfl)) pe_int) pe_int) pe_int (nomark _)))))
      (pss_one (ps_set (i := 6) sc__law_tree_halves.nd rfl (.inl rfl) (pe_call G__law_turned_at (hr.mono (by decide)) (by rfl) g__law_turned_at F__law_turned_at.kp b__law_turned_at .nil pass0 (pa_cons (pv 6) (pa_cons (pe_bm PySem.F.plainAttrs_list PySem.F.slot_list_pop PySem.F.type_list_pop mt_popAt (pv 2) (pa_cons pe_int pa_nil)) pa_nil)))))
      pss_nil)
      (pss_cons (ps_expr (pe_bm PySem.F.plainAttrs_list PySem.F.slot_list_append PySem.F.type_list_append mt_append (pv 3) (pa_cons (pv 6) pa_nil)))
      (pss_one (ps_if (pt_cmpR (op_eqD hr.units) (pv 2) (pe_lst pa_nil) (nomark _))
      (pss_one (ps_ret (pv 3)))
      pss_nil)))))))
      (pss_one (ps_ret (pv 3)))))), ?_⟩
    have ax : ∀ (j : Nat) (hj : j < 12), atI (xs.map V.int) (j : Int) = some (.int (xs.getD j 0)) := fun j hj => atI_nat (by rw [List.getElem?_map, List.getD_eq_getElem?_getD, List.getElem?_eq_getElem (by omega)]; rfl)
    refine ⟨_, rfl, (n : Int), rfl, ⟨by omega, by omega, by omega, by omega, by omega⟩, fun l nl => ?_⟩
    have eL := Ex.new (o := .lst (rgV 0 (n : Int))) nl
    have hlR : (upd H l (.lst (rgV 0 (n : Int)))) l = some (.lst (((List.range n).map fun i : Nat => (i : Int)).map V.int)) := by
      rw [upd_same]
      unfold rgV
      rw [List.map_map]
      refine congrArg (fun z => some (HO.lst z)) ?_
      rw [show ((n : Int) - 0).toNat = n by omega]
      refine List.map_congr_left fun i _ => ?_
      show V.int (0 + (i : Int)) = V.int (i : Int)
      rw [Int.zero_add]
    have hmL : ∀ x ∈ (List.range n).map fun i : Nat => (i : Int), 0 ≤ x ∧ x < (n : Int) := fun x hx => by
      obtain ⟨i, hi, rfl⟩ := List.mem_map.mp hx
      have := List.mem_range.mp hi
      omega
    have hlL : ((List.range n).map fun i : Nat => (i : Int)).length = n := by rw [List.length_map, List.length_range]
    generalize upd H l (.lst (rgV 0 (n : Int))) = HL0 at eL hlR
    generalize (List.range n).map (fun i : Nat => (i : Int)) = ls0 at hlR hmL hlL
    -- the first half
    have h8 : ∀ k : Nat, k < 8 → ∃ d : Int, 1 ≤ d ∧ d ≤ 128 ∧ atI [V.int 1, V.int 2, V.int 4, V.int 8, V.int 16, V.int 32, V.int 64, V.int 128] (k : Int) = some (.int d) := fun k hk => by
      have : k = 0 ∨ k = 1 ∨ k = 2 ∨ k = 3 ∨ k = 4 ∨ k = 5 ∨ k = 6 ∨ k = 7 := by omega
      rcases this with h | h | h | h | h | h | h | h <;> subst h
      · exact ⟨1, by decide, by decide, rfl⟩
      · exact ⟨2, by decide, by decide, rfl⟩
      · exact ⟨4, by decide, by decide, rfl⟩
      · exact ⟨8, by decide, by decide, rfl⟩
      · exact ⟨16, by decide, by decide, rfl⟩
      · exact ⟨32, by decide, by decide, rfl⟩
      · exact ⟨64, by decide, by decide, rfl⟩
      · exact ⟨128, by decide, by decide, rfl⟩
    obtain ⟨f, hf⟩ : ∃ f : Nat → Nat, ∀ k, k < n → (f k = 110 ∨ f k = 121) ∧ ∃ d : Int, 1 ≤ d ∧ d ≤ 128 ∧ atI [V.int 1, V.int 2, V.int 4, V.int 8, V.int 16, V.int 32, V.int 64, V.int 128] (k : Int) = some (.int d) ∧ atI ("ny" : Str).cps.toList (xs.getD 11 0 / 2 / d % 2) = some (f k) := by
      have each : ∀ k, k < n → ∃ c : Nat, (c = 110 ∨ c = 121) ∧ ∃ d : Int, 1 ≤ d ∧ d ≤ 128 ∧ atI [V.int 1, V.int 2, V.int 4, V.int 8, V.int 16, V.int 32, V.int 64, V.int 128] (k : Int) = some (.int d) ∧ atI ("ny" : Str).cps.toList (xs.getD 11 0 / 2 / d % 2) = some c := fun k hk => by
        obtain ⟨d, d1, d2, hd⟩ := h8 k (by omega)
        rcases Int.emod_two_eq (xs.getD 11 0 / 2 / d) with z | z
        · exact ⟨110, .inl rfl, d, d1, d2, hd, by rw [z]; rfl⟩
        · exact ⟨121, .inr rfl, d, d1, d2, hd, by rw [z]; rfl⟩
      exact ⟨fun k => if h : k < n then (each k h).choose else 0, fun k hk => by simp only [dif_pos hk]; exact (each k hk).choose_spec⟩
    have hz0 : HalfN n ((List.range n).map f) := ⟨by rw [List.length_map, List.length_range], fun c hc => by
      obtain ⟨k, hk, rfl⟩ := List.mem_map.mp hc
      exact (hf k (List.mem_range.mp hk)).1⟩
    have first : EvL (tLst (tCons (tM1 (rJoin K) (tC (.str (tx []))) (tLc (iRng1 (tCons (tVar 1) tNil)) (gName 4) tYes (tOp rIxS (tC (.str "ny")) (tOp (rI (fun x j => 0 < j) fun i j => V.int (i % j)) (tOp (rI CDiv fun i j => .int (i / j)) (tOp (rI CDiv fun i j => .int (i / j)) (tOp (rIxL K) (tVar 0) (tC (.int 11))) (tC (.int 2))) (tOp (rIxL K) (tLst (tCons (tC (.int 1)) (tCons (tC (.int 2)) (tCons (tC (.int 4)) (tCons (tC (.int 8)) (tCons (tC (.int 16)) (tCons (tC (.int 32)) (tCons (tC (.int 64)) (tCons (tC (.int 128)) tNil))))))))) (tVar 4))) (tC (.int 2)))) [4])) tNil)) ([some (.ref a), some (.int (n : Nat)), some (.ref l), none, none, none, none] : L2.St) HL0 [.str (tx ((List.range n).map f))] := el_lst (ea_cons (ev_join (by
      have r := el_lcR1 (ta := tCons (tVar 1) tNil) (n := (n : Int)) (σ := ([some (.ref a), some (.int (n : Nat)), some (.ref l), none, none, none, none] : L2.St)) (H := HL0) (j := 4) (vs := [4]) (t := tYes) (fun _ => true) (fun k => V.str (sg1 (f k))) (ea_cons (ev_var rfl) ea_nil) ⟨by omega, by omega⟩ (fun y => rfl) (fun k H6 e6 hk => et_yes) (fun k H6 e6 hk _ => ?_) (te := tOp rIxS (tC (.str "ny")) (tOp (rI (fun x j => 0 < j) fun i j => V.int (i % j)) (tOp (rI CDiv fun i j => .int (i / j)) (tOp (rI CDiv fun i j => .int (i / j)) (tOp (rIxL K) (tVar 0) (tC (.int 11))) (tC (.int 2))) (tOp (rIxL K) (tLst (tCons (tC (.int 1)) (tCons (tC (.int 2)) (tCons (tC (.int 4)) (tCons (tC (.int 8)) (tCons (tC (.int 16)) (tCons (tC (.int 32)) (tCons (tC (.int 64)) (tCons (tC (.int 128)) tNil))))))))) (tVar 4))) (tC (.int 2))))
      · rw [given_true, Int.toNat_natCast] at r
        show EvL _ _ _ (List.map _ _)
        rw [List.map_map]
        exact r
      · obtain ⟨_, d, d1, d2, hd, hc⟩ := hf k (by omega)
        exact ev_op ev_c (ev_op (ev_op (ev_op (ev_op (ev_var rfl) ev_c (rv_ixL (ex_l (eL.trans e6) hS) (ax 11 (by decide)))) ev_c (rv_I ⟨by decide, by decide⟩)) (ev_opL1 (el_lst (ea_cons ev_c (ea_cons ev_c (ea_cons ev_c (ea_cons ev_c (ea_cons ev_c (ea_cons ev_c (ea_cons ev_c (ea_cons ev_c ea_nil)))))))) (by show 8 ≤ 100000; decide)) (fun G g => ev_var rfl) (fun p G hp g => rv_ixL (sq_of hp) hd)) (rv_I ⟨by omega, by omega⟩)) ev_c (rv_I (by show (0 : Int) < 2; decide))) (rv_ixS (by decide) hc)) (by rw [List.length_map, List.length_range]; omega)) ea_nil) (by show 1 ≤ 100000; decide)
    refine q_asgL first fun p H2 np e2 h2 => ?_
    have hlp : l ≠ p := fun z => by rw [z] at hlR; rw [np] at hlR; cases hlR
    refine q_forR1 (n := (n : Int)) (ea_cons (ev_var rfl) ea_nil) ⟨by omega, by omega⟩ (fun i σ' H' => ∃ (ls : List Int) (hs : List (List Nat)) (y4 y5 y6 : Option V), σ' = [some (.ref a), some (.int (n : Nat)), some (.ref l), some (.ref p), y4, y5, y6] ∧ Ex H H' ∧ H' l = some (.lst (ls.map V.int)) ∧ H' p = some (.lst (hs.map fun h => .str (tx h))) ∧ (ls ≠ [] ∧ ls.length ≤ n ∧ ∀ x ∈ ls, 0 ≤ x ∧ x < (n : Int)) ∧ (hs ≠ [] ∧ hs.length ≤ 1 + i ∧ ∀ h ∈ hs, HalfN n h)) (fun H3 e3 => ⟨ls0, [(List.range n).map f], _, _, _, rfl, eL.trans (e2.trans e3), e3 _ _ (e2 _ _ hlR), e3 _ _ h2, ⟨by intro z; rw [z] at hlL; simp at hlL; omega, by omega, hmL⟩, by simp, by simp, fun h hh => by rw [List.mem_singleton.mp hh]; exact hz0⟩) (fun i σ' H3 hi hP => ?_) (fun σ' H3 hP => ?_)
    · obtain ⟨ls, hs, y4, y5, y6, rfl, e3, h3l, h3p, ⟨l0, ln, lm⟩, ⟨s0, sn, sm⟩⟩ := hP
      have hll : 0 < ls.length := List.length_pos_iff.mpr l0
      have hsl : 0 < hs.length := List.length_pos_iff.mpr s0
      obtain ⟨k, hk, hkl⟩ : ∃ k : Nat, xs.getD i 0 % ((ls.map V.int).length : Int) = (k : Nat) ∧ k < ls.length := ⟨(xs.getD i 0 % ((ls.map V.int).length : Int)).toNat, by
        rw [List.length_map]
        have := Int.emod_nonneg (xs.getD i 0) (show (ls.length : Int) ≠ 0 by omega)
        have := Int.emod_lt_of_pos (xs.getD i 0) (show (0 : Int) < ls.length by omega)
        omega⟩
      have sq1 : ∀ (k len : Nat), k < len → seqIndex? (k : Int) len = some k := fun k len h => by
        unfold seqIndex?
        have h0 : ¬ ((k : Int) < 0) := by omega
        simp only [if_neg h0]
        have : (decide (0 ≤ (k : Int)) && decide ((k : Int) < (len : Int))) = true := by simp; omega
        rw [this]
        simp
      -- the place
      have pidx : Ev (tOp (rI (fun x j => 0 < j) fun i j => V.int (i % j)) (tOp (rIxL K) (tVar 0) (tVar 4)) (tCB (rLenS K) (tCons (tVar 2) tNil))) [some (.ref a), some (.int (n : Nat)), some (.ref l), some (.ref p), some (.int (i : Nat)), y5, y6] H3 (.int (k : Nat)) := ev_is (ev_op (ev_op (ev_var rfl) (ev_var rfl) (rv_ixL (ex_l e3 hS) (ax i (by omega)))) (ev_len (ev_var rfl) (sq_of h3l)) (rv_I (by show (0 : Int) < _; rw [List.length_map]; omega))) (congrArg V.int hk)
      refine ⟨_, rfl, .inl ⟨rfl, _, sq_of h3l⟩, pidx _ (Ex.refl _) _ fun H4 e4 => ⟨l, ls.map V.int, (k : Int), k, .int ls[k], rfl, rfl, e4 _ _ h3l, by omega, by omega, by rw [List.length_map]; exact sq1 k ls.length hkl, by rw [List.getElem?_map, List.getElem?_eq_getElem hkl]; rfl, ?_⟩⟩
      have hpl := lm _ (List.getElem_mem hkl)
      obtain ⟨pc, hpc, hpn⟩ : ∃ pc : Nat, ls[k] = (pc : Nat) ∧ pc < n := ⟨ls[k].toNat, by omega, by omega⟩
      rw [hpc]
      have eM : Ex H (upd H4 l (.lst ((ls.map V.int).eraseIdx k))) := (e3.trans e4).mut nl
      have h5l : (upd H4 l (.lst ((ls.map V.int).eraseIdx k))) l = some (.lst ((ls.eraseIdx k).map V.int)) := by rw [upd_same, ← erase_map]
      have h5p : (upd H4 l (.lst ((ls.map V.int).eraseIdx k))) p = some (.lst (hs.map fun h => .str (tx h))) := by rw [upd_ne (Ne.symm hlp)]; exact e4 _ _ h3p
      generalize upd H4 l (.lst ((ls.map V.int).eraseIdx k)) = H5 at eM h5l h5p
      have lm' : ∀ x ∈ ls.eraseIdx k, 0 ≤ x ∧ x < (n : Int) := fun x hx => lm x (List.mem_of_mem_eraseIdx hx)
      have ll' : (ls.eraseIdx k).length ≤ n := by rw [List.length_eraseIdx]; split <;> omega
      generalize ls.eraseIdx k = ls' at h5l lm' ll'
      -- the half
      obtain ⟨j, hj, hjl⟩ : ∃ j : Nat, xs.getD i 0 / 16 % ((hs.map fun h => V.str (tx h)).length : Int) = (j : Nat) ∧ j < hs.length := ⟨(xs.getD i 0 / 16 % ((hs.map fun h => V.str (tx h)).length : Int)).toNat, by
        rw [List.length_map]
        have := Int.emod_nonneg (xs.getD i 0 / 16) (show (hs.length : Int) ≠ 0 by omega)
        have := Int.emod_lt_of_pos (xs.getD i 0 / 16) (show (0 : Int) < hs.length by omega)
        omega⟩
      refine c_call (ea_cons (ev_op (ev_var rfl) (ev_is (ev_op (ev_op (ev_op (ev_var rfl) (ev_var rfl) (rv_ixL (ex_l eM hS) (ax i (by omega)))) ev_c (rv_I ⟨by decide, by decide⟩)) (ev_len (ev_var rfl) (sq_of h5p)) (rv_I (by show (0 : Int) < _; rw [List.length_map]; omega))) (congrArg V.int hj)) (rv_ixL (sq_of h5p) (v := .str (tx hs[j])) (atI_nat (by rw [List.getElem?_map, List.getElem?_eq_getElem hjl]; rfl)))) (ea_cons (ev_var rfl) ea_nil)) fun H6 e6 => ⟨n, pc, hs[j], rfl, ⟨sm _ (List.getElem_mem hjl), hpn, hn8⟩, fun z1 hz1 H7 e7 => ?_⟩
      have h7l : H7 l = some (.lst (ls'.map V.int)) := e7 _ _ (e6 _ _ h5l)
      have h7p : H7 p = some (.lst (hs.map fun h => .str (tx h))) := e7 _ _ (e6 _ _ h5p)
      have e07 : Ex H H7 := eM.trans (e6.trans e7)
      refine q_cut (M := fun σ' H' => ∃ (ls : List Int) (z : List Nat), σ' = [some (.ref a), some (.int (n : Nat)), some (.ref l), some (.ref p), some (.int (i : Nat)), some (.int (pc : Nat)), some (.str (tx z))] ∧ HalfN n z ∧ Ex H H' ∧ H' l = some (.lst (ls.map V.int)) ∧ H' p = some (.lst (hs.map fun h => .str (tx h))) ∧ (ls.length ≤ n ∧ ∀ x ∈ ls, 0 ≤ x ∧ x < (n : Int))) ?_ ?_
      · refine s_when (et_and (et_test (ev_neN (ev_var rfl) h7l (ints_dp _) (shaped_ints ls') fun _ _ => ints_dp _)) fun _ => et_test (ev_op (ev_op (ev_op (ev_op (ev_var rfl) (ev_var rfl) (rv_ixL (ex_l e07 hS) (ax i (by omega)))) ev_c (rv_I ⟨by decide, by decide⟩)) ev_c (rv_I (by show (0 : Int) < 4; decide))) ev_c (rv_eq rfl))) (fun hb H8 e8 => ?_) (fun hb H8 e8 => ⟨ls', z1, rfl, hz1, e07.trans e8, e8 _ _ h7l, e8 _ _ h7p, ll', lm'⟩)
        have hne : ls' ≠ [] := fun z => by
          rw [Bool.and_eq_true] at hb
          have := hb.1
          rw [z] at this
          simp at this
        have h0l : 0 < ls'.length := List.length_pos_iff.mpr hne
        have h8l := e8 _ _ h7l
        refine ⟨_, rfl, _, rfl, .inl ⟨rfl, _, sq_of h8l⟩, l, ls'.map V.int, 0, 0, .int ls'[0], rfl, rfl, h8l, by omega, by omega, by rw [List.length_map]; exact sq1 0 _ h0l, by rw [List.getElem?_map, List.getElem?_eq_getElem h0l]; rfl, ?_⟩
        have hp0 := lm' _ (List.getElem_mem h0l)
        obtain ⟨pd, hpd, hpdn⟩ : ∃ pd : Nat, ls'[0] = (pd : Nat) ∧ pd < n := ⟨ls'[0].toNat, by omega, by omega⟩
        rw [hpd]
        refine ⟨n, pd, z1, rfl, ⟨hz1, hpdn, hn8⟩, fun z2 hz2 H9 e9 => ⟨ls'.eraseIdx 0, z2, rfl, hz2, (((e07.trans e8)).mut nl).trans e9, e9 _ _ (by rw [upd_same, ← erase_map]), e9 _ _ (by rw [upd_ne (Ne.symm hlp)]; exact e8 _ _ h7p), by rw [List.length_eraseIdx]; split <;> omega, fun x hx => lm' x (List.mem_of_mem_eraseIdx hx)⟩⟩
      · rintro σ' H8 ⟨ls2, z, rfl, hz, e8, h8l, h8p, ll2, lm2⟩
        refine q_app h8p (ev_var rfl) (ev_var rfl) (by rw [List.length_map]; omega) fun H9 e9 => ?_
        have nH : H p = none := fresh_back (eL) np
        have eN : Ex H (upd H9 p (.lst ((hs.map fun h => V.str (tx h)) ++ [.str (tx z)]))) := (e8.trans e9).mut nH
        have h9l : (upd H9 p (.lst ((hs.map fun h => V.str (tx h)) ++ [.str (tx z)]))) l = some (.lst (ls2.map V.int)) := by rw [upd_ne hlp]; exact e9 _ _ h8l
        have h9p : (upd H9 p (.lst ((hs.map fun h => V.str (tx h)) ++ [.str (tx z)]))) p = some (.lst ((hs ++ [z]).map fun h => .str (tx h))) := by rw [upd_same, List.map_append]; rfl
        generalize upd H9 p (.lst ((hs.map fun h => V.str (tx h)) ++ [.str (tx z)])) = H10 at eN h9l h9p
        have sm2 : ∀ h ∈ hs ++ [z], HalfN n h := fun h hh => by
          rcases List.mem_append.mp hh with w | w
          · exact sm h w
          · rw [List.mem_singleton.mp w]; exact hz
        have hlen2 : (hs ++ [z]).length ≤ 1 + (i + 1) := by rw [List.length_append]; show hs.length + 1 ≤ _; omega
        refine s_when (b := decide (ls2 = [])) (et_is (et_test (ev_eqN (ev_var rfl) h9l (shaped_ints ls2) fun _ _ => ints_dp _)) (decide_eq_decide.mpr ⟨fun w => List.map_eq_nil_iff.mp w, fun w => by rw [w]; rfl⟩)) (fun hb H11 e11 => ?_) (fun hb H11 e11 => ?_)
        · exact s_ret (ev_var rfl) fun H12 e12 => q (hs ++ [z]) (by simp) (by omega) sm2 p H12 nH (eN.trans (e11.trans e12)) (e12 _ _ (e11 _ _ h9p))
        · exact ⟨ls2, hs ++ [z], _, _, _, rfl, eN.trans e11, e11 _ _ h9l, e11 _ _ h9p, ⟨of_decide_eq_false hb, ll2, lm2⟩, by simp, hlen2, sm2⟩
    · obtain ⟨ls, hs, y4, y5, y6, rfl, e3, h3l, h3p, _, ⟨s0, sn, sm⟩⟩ := hP
      exact s_ret (ev_var rfl) fun H4 e4 => q hs s0 (by rw [Int.toNat_natCast] at sn; omega) sm p H4 (fresh_back eL np) (e3.trans e4) (e4 _ _ h3p)
def sp__law_book (K : PySem.W.Frag) (ts : List Addr) : Sp := fun vs H Q _ => ∃ (a : Addr) (ns : List Int) (at0 ma pl : Nat), vs = [.ref a, .int (at0 : Nat), .int (ma : Nat), .int (pl : Nat)] ∧ SqL K H a (ns.map V.int) ∧ (at0 ≤ 900 ∧ ma ≤ 10 ∧ 1 ≤ pl ∧ pl ≤ 8) ∧ ∀ (n : Nat) (rs : List (List Nat × List Nat)) (v : V) H2, Ex H H2 → BookF K H2 v n rs → BookOk n rs → rs.length ≤ ma → n ≤ pl → Q v H2
theorem ok__law_book {ts : List Addr} (D : Df K mg "_law_book" st__law_book ["_law_script", "_law_at", "_law_many", "_law_places"]) (m_range : mg "range" = none) (m_len : mg "len" = none) (m_tuple : mg "tuple" = none) (A__law_numbers : At P w K mg base "_law_numbers" st__law_numbers 1 ["_law_cell_here", "_law_many"] (sp__law_numbers K ts)) (A__law_cell : At P w K mg base "_law_cell" st__law_cell 1 ["_law_script", "_law_k"] (sp__law_cell K ts)) (A__law_names : At P w K mg base "_law_names" st__law_names 1 ["_law_xs", "_law_many"] (sp__law_names K ts)) (A__law_tree_halves : At P w K mg base "_law_tree_halves" st__law_tree_halves 2 ["_law_xs", "_law_places"] (sp__law_tree_halves K ts)) (A__law_joined_row : At P w K mg base "_law_joined_row" st__law_joined_row 1 ["_law_one", "_law_other"] (sp__law_joined_row K ts)) (A__law_any_row : At P w K mg base "_law_any_row" st__law_any_row 1 ["_law_xs", "_law_places"] (sp__law_any_row K ts)) : At P w K mg base "_law_book" st__law_book 3 ["_law_script", "_law_at", "_law_many", "_law_places"] (sp__law_book K ts) := by
  obtain ⟨f, fd, F, b, g⟩ := D
  obtain ⟨f__law_numbers, fd__law_numbers, F__law_numbers, b__law_numbers, g__law_numbers, G__law_numbers⟩ := A__law_numbers
  obtain ⟨f__law_cell, fd__law_cell, F__law_cell, b__law_cell, g__law_cell, G__law_cell⟩ := A__law_cell
  obtain ⟨f__law_names, fd__law_names, F__law_names, b__law_names, g__law_names, G__law_names⟩ := A__law_names
  obtain ⟨f__law_tree_halves, fd__law_tree_halves, F__law_tree_halves, b__law_tree_halves, g__law_tree_halves, G__law_tree_halves⟩ := A__law_tree_halves
  obtain ⟨f__law_joined_row, fd__law_joined_row, F__law_joined_row, b__law_joined_row, g__law_joined_row, G__law_joined_row⟩ := A__law_joined_row
  obtain ⟨f__law_any_row, fd__law_any_row, F__law_any_row, b__law_any_row, g__law_any_row, G__law_any_row⟩ := A__law_any_row
  refine ⟨f, fd, F, b, g, F.ok sc__law_book (fun vs H Q E h => ?_) (fun cdv A outer s H vs Q E hr h => ?_)⟩
  · obtain ⟨a, ns, at0, ma, pl, rfl, _⟩ := h
    rfl
  · obtain ⟨a, ns, at0, ma, pl, rfl, hS, ⟨hat, hma, hp1, hp8⟩, q⟩ := h
    refine ⟨_, (pss_cons (ps_set (i := 4) sc__law_book.nd rfl (.inl rfl) (pe_call G__law_numbers (hr.mono (by decide)) (by rfl) g__law_numbers F__law_numbers.kp b__law_numbers .nil pass0 (pa_cons (pe_call G__law_cell (hr.mono (by decide)) (by rfl) g__law_cell F__law_cell.kp b__law_cell .nil pass0 (pa_cons (pv 0) (pa_cons (pv 1) pa_nil))) (pa_cons pe_int pa_nil))))
      (pss_cons (ps_set (i := 5) sc__law_book.nd rfl (.inl rfl) (pe_op op_add pe_int (pe_op op_mod (pe_ix ix_list (pv 4) pe_int (fun _ _ => rfl)) (pv 3))))
      (pss_cons (ps_set (i := 6) sc__law_book.nd rfl (.inl rfl) (pe_op op_mod (pe_ix ix_list (pv 4) pe_int (fun _ _ => rfl)) (pe_op op_add (pv 2) pe_int)))
      (pss_cons (ps_set (i := 7) sc__law_book.nd rfl (.inl rfl) (pe_call G__law_names (hr.mono (by decide)) (by rfl) g__law_names F__law_names.kp b__law_names .nil pass0 (pa_cons (pe_slice sl_list (pv 4) (po_some pe_int) po_none) (pa_cons pe_int pa_nil))))
      (pss_cons (ps_set (i := 8) sc__law_book.nd rfl (.inl rfl) (pe_call G__law_tree_halves (hr.mono (by decide)) (by rfl) g__law_tree_halves F__law_tree_halves.kp b__law_tree_halves .nil pass0 (pa_cons (pv 4) (pa_cons (pv 5) pa_nil))))
      (pss_cons (ps_set (i := 9) sc__law_book.nd rfl (.inl rfl) (pe_lst pa_nil))
      (pss_cons (ps_for PassesOwn.never rfl (pi_range1 (by rfl) m_range (pa_cons (pv 6) pa_nil)) (pg_name (i := 10) sc__law_book.nd rfl (.inl rfl))
      (pss_cons (ps_set (i := 11) sc__law_book.nd rfl (.inl rfl) (pe_call G__law_numbers (hr.mono (by decide)) (by rfl) g__law_numbers F__law_numbers.kp b__law_numbers .nil pass0 (pa_cons (pe_call G__law_cell (hr.mono (by decide)) (by rfl) g__law_cell F__law_cell.kp b__law_cell .nil pass0 (pa_cons (pv 0) (pa_cons (pe_op op_add (pe_op op_add (pv 1) pe_int) (pv 10)) pa_nil))) (pa_cons pe_int pa_nil))))
      (pss_cons (ps_set (i := 12) sc__law_book.nd rfl (.inl rfl) (pe_call G__law_joined_row (hr.mono (by decide)) (by rfl) g__law_joined_row F__law_joined_row.kp b__law_joined_row .nil pass0 (pa_cons (pe_ix ix_list (pv 8) (pe_op op_mod (pe_ix ix_list (pv 11) pe_int (fun _ _ => rfl)) (pe_callB call_len_seq (by rfl) m_len (by decide +kernel) (pa_cons (pv 8) pa_nil))) (fun _ _ => rfl)) (pa_cons (pe_ix ix_list (pv 8) (pe_op op_mod (pe_ix ix_list (pv 11) pe_int (fun _ _ => rfl)) (pe_callB call_len_seq (by rfl) m_len (by decide +kernel) (pa_cons (pv 8) pa_nil))) (fun _ _ => rfl)) pa_nil))))
      (pss_cut (ps_if (PW.pt (pw_and (pt_cmpR op_eq (pe_op op_mod (pe_ix ix_list (pv 4) pe_int (fun _ _ => rfl)) pe_int) pe_int (nomark _)) (pw_and1 (pt_cmpR op_eq (pv 10) (pe_op op_mod (pe_ix ix_list (pv 4) pe_int (fun _ _ => rfl)) (pv 6)) (nomark _)))))
      (pss_cons (ps_set (i := 13) sc__law_book.nd rfl (.inl rfl) (pe_op op_mod (pe_ix ix_list (pv 11) pe_int (fun _ _ => rfl)) (pv 5)))
      (pss_one (ps_set (i := 12) sc__law_book.nd rfl (.inl rfl) (pe_op op_add_str (pe_op op_add_str (pe_slice sl_str (pv 12) po_none (po_some (pv 13))) (pe_ix ix_str pe_str (pe_op op_mod (pe_ix ix_list (pv 11) pe_int (fun _ _ => rfl)) pe_int) (fun _ _ => rfl))) (pe_slice sl_str (pv 12) (po_some (pe_op op_add (pv 13) pe_int)) po_none)))))
      pss_nil)
      (pss_cut (ps_if (pt_cmpR op_eq (pe_op op_mod (pe_ix ix_list (pv 4) pe_int (fun _ _ => rfl)) pe_int) pe_int (nomark _))
      (pss_one (ps_set (i := 12) sc__law_book.nd rfl (.inl rfl) (pe_call G__law_any_row (hr.mono (by decide)) (by rfl) g__law_any_row F__law_any_row.kp b__law_any_row .nil pass0 (pa_cons (pe_slice sl_list (pv 11) (po_some pe_int) po_none) (pa_cons (pv 5) pa_nil)))))
      pss_nil)
      (pss_cut (ps_if (PW.pt (pw_and (pt_cmpR op_eq (pe_op op_mod (pe_ix ix_list (pv 11) pe_int (fun _ _ => rfl)) pe_int) pe_int (nomark _)) (pw_and1 (pt_cmpR (op_neD hr.units) (pv 9) (pe_lst pa_nil) (nomark _)))))
      (pss_one (ps_set (i := 12) sc__law_book.nd rfl (.inl rfl) (pe_ix ix_tup (pe_ix ix_list (pv 9) (pe_op op_mod (pe_ix ix_list (pv 11) pe_int (fun _ _ => rfl)) (pe_callB call_len_seq (by rfl) m_len (by decide +kernel) (pa_cons (pv 9) pa_nil))) (fun _ _ => rfl)) pe_int (fun _ _ => rfl))))
      pss_nil)
      (pss_one (ps_expr (pe_bm PySem.F.plainAttrs_list PySem.F.slot_list_append PySem.F.type_list_append mt_append (pv 9) (pa_cons (pe_tup (pa_cons (pe_ix ix_list (pv 7) (pv 10) (fun _ _ => rfl)) (pa_cons (pv 12) pa_nil))) pa_nil))))))))))
      (pss_one (ps_ret (pe_tup (pa_cons (pv 5) (pa_cons (pe_callTy Hid.cr_tupF (by rfl) m_tuple (by decide +kernel) (pa_cons (pv 9) pa_nil)) pa_nil)))))))))))), ?_⟩
    refine ⟨_, rfl, _, rfl, a, ns, (at0 : Int), rfl, hS, by omega, fun c G1 g1 => ⟨c, 24, rfl, by decide, fun hd hdl hdp ph H1 nph g1' h1 => ?_⟩⟩
    have e1 : Ex H H1 := g1.trans g1'
    have hdl' : hd.length = 24 := by omega
    have ad : ∀ (j : Nat) (hj : j < 24), atI (hd.map V.int) (j : Int) = some (.int (hd.getD j 0)) := fun j hj => atI_nat (by rw [List.getElem?_map, List.getD_eq_getElem?_getD, List.getElem?_eq_getElem (by omega)]; rfl)
    have md : ∀ (v : Int) (d : Nat), 0 < d → ∃ r : Nat, v % (d : Int) = (r : Nat) ∧ r < d := fun v d hd => ⟨(v % (d : Int)).toNat, by
      have := Int.emod_nonneg v (show (d : Int) ≠ 0 by omega)
      have := Int.emod_lt_of_pos v (show (0 : Int) < d by omega)
      omega⟩
    obtain ⟨n0, hn0, hn0l⟩ := md (hd.getD 12 0) pl (by omega)
    obtain ⟨n, rfl⟩ : ∃ n, n = n0 + 1 := ⟨_, rfl⟩
    have hnn : (1 : Int) + hd.getD 12 0 % (pl : Int) = ((n0 + 1 : Nat) : Int) := by omega
    generalize hN : n0 + 1 = n at hnn
    have hn1 : 1 ≤ n ∧ n ≤ 8 ∧ n ≤ pl := by omega
    refine q_asg (v := .int (n : Nat)) (ev_is (ev_op ev_c (ev_op (ev_op (ev_var rfl) ev_c (rv_ixL (sq_of h1) (ad 12 (by decide)))) (ev_var rfl) (rv_I (by show (0 : Int) < pl; omega))) rv_I0) (congrArg V.int hnn)) fun H2 e2 => ?_
    obtain ⟨m, hm, hml⟩ := md (hd.getD 13 0) (ma + 1) (by omega)
    refine q_asg (v := .int (m : Nat)) (ev_is (ev_op (ev_op (ev_var rfl) ev_c (rv_ixL (sq_of (e2 _ _ h1)) (ad 13 (by decide)))) (ev_op (ev_var rfl) ev_c rv_I0) (rv_I (by show (0 : Int) < (ma : Int) + 1; omega))) (congrArg V.int hm)) fun H3 e3 => ?_
    have h3 : H3 ph = some (.lst (hd.map V.int)) := e3 _ _ (e2 _ _ h1)
    have c14 : cutV (hd.map V.int) (some 14) none = (hd.drop 14).map V.int := by have := cut_drop (xs := hd.map V.int) 14; rw [List.map_drop]; exact this
    refine (el_sl (ev_var rfl) (eo_some ev_c) eo_none (sq_of h3)) _ (Ex.refl _) _ fun q14 H4 nq14 e4 h4 => ⟨q14, hd.drop 14, 10, rfl, by rw [← c14]; exact sq_of h4, ⟨by rw [List.length_drop]; omega, by decide⟩, fun nx ny nz hx10 hy4 hz3 pn H5 npn e5 h5 => ?_⟩
    have h5h : H5 ph = some (.lst (hd.map V.int)) := e5 _ _ (e4 _ _ h3)
    refine c_call (ea_cons (ev_var rfl) (ea_cons (ev_var rfl) ea_nil)) fun G6 g6 => ⟨ph, hd, n, rfl, sq_of (g6 _ _ h5h), ⟨by omega, hn1.1, hn1.2.1⟩, fun hs s0 sl sm pv H6 npv g6' h6 => ?_⟩
    have e6 : Ex H5 H6 := g6.trans g6'
    have hsl : 0 < hs.length := List.length_pos_iff.mpr s0
    refine q_asgL (el_lst ea_nil (by decide)) fun l H7 nl e7 h7 => ?_
    have e06 : Ex H H6 := e1.trans (e2.trans (e3.trans (e4.trans (e5.trans e6))))
    have h6h : H6 ph = some (.lst (hd.map V.int)) := e6 _ _ h5h
    have h6n : H6 pn = some (.lst ((List.range 10).map fun k => .str (tx (nameOf nx ny nz k)))) := e6 _ _ h5
    obtain ⟨hNd, hNl⟩ := names_ok nx hx10 ny hy4 nz hz3
    refine q_forR1 (n := (m : Int)) (ea_cons (ev_var rfl) ea_nil) ⟨by omega, by omega⟩ (fun i σ' H' => ∃ (rs : List (List Nat × List Nat)) (vs : List V) (y10 y11 y12 y13 : Option V), σ' = [some (.ref a), some (.int (at0 : Nat)), some (.int (ma : Nat)), some (.int (pl : Nat)), some (.ref ph), some (.int (n : Nat)), some (.int (m : Nat)), some (.ref pn), some (.ref pv), some (.ref l), y10, y11, y12, y13] ∧ Ex H6 H' ∧ H' l = some (.lst vs) ∧ Prs K H' vs rs ∧ rs.map (·.1) = (List.range i).map (nameOf nx ny nz) ∧ ∀ p ∈ rs, RowL p.2 ∧ p.2.length = n) (fun H8 e8 => ⟨[], [], _, _, _, _, rfl, e7.trans e8, e8 _ _ h7, .nil, rfl, fun _ z => nomatch z⟩) (fun i σ' H8 hi hP => ?_) (fun σ' H8 hP => ?_)
    · obtain ⟨rs, vs, y10, y11, y12, y13, rfl, e8, h8, hprs, hnm, hrw⟩ := hP
      have hlr : rs.length = i := by have := congrArg List.length hnm; rw [List.length_map, List.length_map, List.length_range] at this; exact this
      have hlv : vs.length = i := by rw [paired_len hprs, hlr]
      have e08 : Ex H H8 := e06.trans e8
      have i10 : i < 10 := by omega
      refine ⟨_, rfl, _, rfl, _, _, rfl, rfl, _, rfl, _, _, rfl, rfl, a, ns, ((at0 : Int) + 1 + (i : Int)), rfl, ex_l e08 hS, by omega, fun c G9 g9 => ⟨c, 14, rfl, by decide, fun xs hxl hxp px H9 npx g9' h9 => ?_⟩⟩
      have e9 : Ex H8 H9 := g9.trans g9'
      have hxl' : xs.length = 14 := by omega
      have ax : ∀ (j : Nat) (hj : j < 14), atI (xs.map V.int) (j : Int) = some (.int (xs.getD j 0)) := fun j hj => atI_nat (by rw [List.getElem?_map, List.getD_eq_getElem?_getD, List.getElem?_eq_getElem (by omega)]; rfl)
      have e69 : Ex H6 H9 := e8.trans e9
      have hpick : ∀ (j : Nat) (hj : j < 14) (σ : L2.St), σ[8]? = some (some (.ref pv)) → σ[11]? = some (some (.ref px)) → ∃ h : List Nat, HalfN n h ∧ Ev (tOp (rIxL K) (tVar 8) (tOp (rI (fun x j => 0 < j) fun i j => V.int (i % j)) (tOp (rIxL K) (tVar 11) (tC (.int (j : Nat)))) (tCB (rLenS K) (tCons (tVar 8) tNil)))) σ H9 (.str (tx h)) := fun j hj σ s8 s11 => by
        obtain ⟨r, hr, hrl⟩ := md (xs.getD j 0) hs.length hsl
        refine ⟨hs[r], sm _ (List.getElem_mem hrl), ev_op (ev_var s8) (ev_is (ev_op (ev_op (ev_var s11) ev_c (rv_ixL (sq_of h9) (ax j hj))) (ev_len (ev_var s8) (sq_of (e69 _ _ h6))) (rv_I (by show (0 : Int) < _; rw [List.length_map]; omega))) (congrArg V.int (by rw [List.length_map]; exact hr))) (rv_ixL (sq_of (e69 _ _ h6)) (atI_nat (by rw [List.getElem?_map, List.getElem?_eq_getElem hrl]; rfl)))⟩
      obtain ⟨g1, hg1, v1⟩ := hpick 0 (by decide) [some (.ref a), some (.int (at0 : Nat)), some (.int (ma : Nat)), some (.int (pl : Nat)), some (.ref ph), some (.int (n : Nat)), some (.int (m : Nat)), some (.ref pn), some (.ref pv), some (.ref l), some (.int (i : Nat)), some (.ref px), y12, y13] rfl rfl
      obtain ⟨g2, hg2, v2⟩ := hpick 1 (by decide) [some (.ref a), some (.int (at0 : Nat)), some (.int (ma : Nat)), some (.int (pl : Nat)), some (.ref ph), some (.int (n : Nat)), some (.int (m : Nat)), some (.ref pn), some (.ref pv), some (.ref l), some (.int (i : Nat)), some (.ref px), y12, y13] rfl rfl
      have hgl1 := hg1.1
      have hgl2 := hg2.1
      refine q_asg (v := .str (tx (rowBy g1 g2))) (ev_call (ea_cons v1 (ea_cons v2 ea_nil)) fun G g Q1 q1 E1 => ⟨g1, g2, rfl, ⟨by omega, by omega⟩, q1⟩) fun H10 e10 => ?_
      have hr10 : (rowBy g1 g2).length = n := by unfold rowBy; rw [List.length_zipWith]; omega
      have hR10 : RowL (rowBy g1 g2) := ⟨by omega, rowBy_nby _ _ hg1.2⟩
      generalize rowBy g1 g2 = row0 at hr10 hR10
      have e610 : Ex H6 H10 := e69.trans e10
      -- a sign put otherwise
      refine q_cut (M := fun σ' H' => ∃ (row : List Nat) (y13 : Option V), RowL row ∧ row.length = n ∧ σ' = [some (.ref a), some (.int (at0 : Nat)), some (.int (ma : Nat)), some (.int (pl : Nat)), some (.ref ph), some (.int (n : Nat)), some (.int (m : Nat)), some (.ref pn), some (.ref pv), some (.ref l), some (.int (i : Nat)), some (.ref px), some (.str (tx row)), y13] ∧ Ex H9 H') ?_ ?_
      · refine s_when (et_and (et_test (ev_op (ev_op (ev_op (ev_var rfl) ev_c (rv_ixL (sq_of (e610 _ _ h6h)) (ad 17 (by decide)))) ev_c (rv_I (by show (0 : Int) < 4; decide))) ev_c (rv_eq rfl))) fun _ => et_test (ev_op (ev_var rfl) (ev_op (ev_op (ev_var rfl) ev_c (rv_ixL (sq_of (e610 _ _ h6h)) (ad 18 (by decide)))) (ev_var rfl) (rv_I (by show (0 : Int) < m; omega))) (rv_eq rfl))) (fun hb H11 e11 => ?_) (fun hb H11 e11 => ⟨row0, _, hR10, hr10, rfl, e10.trans e11⟩)
        obtain ⟨pc, hpc, hpn⟩ := md (xs.getD 2 0) n (by omega)
        refine q_asg (v := .int (pc : Nat)) (ev_is (ev_op (ev_op (ev_var rfl) ev_c (rv_ixL (sq_of (e11 _ _ (e10 _ _ h9))) (ax 2 (by decide)))) (ev_var rfl) (rv_I (by show (0 : Int) < n; omega))) (congrArg V.int hpc)) fun H12 e12 => ?_
        obtain ⟨c, hc, hac⟩ : ∃ c : Nat, (c = 110 ∨ c = 98 ∨ c = 121) ∧ atI ("nby" : Str).cps.toList (xs.getD 3 0 % 3) = some c := by
          obtain ⟨y, hy, hy3⟩ := md (xs.getD 3 0) 3 (by decide)
          rw [show xs.getD 3 0 % 3 = (y : Int) from hy]
          have : y = 0 ∨ y = 1 ∨ y = 2 := by omega
          rcases this with h | h | h <;> subst h
          · exact ⟨110, .inl rfl, rfl⟩
          · exact ⟨98, .inr (.inl rfl), rfl⟩
          · exact ⟨121, .inr (.inr rfl), rfl⟩
        have ct := cutS_take row0 pc (by omega)
        have cd := cutS_drop row0 (pc + 1)
        rw [Int.natCast_add] at cd
        have lr0 : (tx row0).length ≤ 100000 := by rw [tx_len]; omega
        refine s_asg (v := .str (tx (row0.take pc ++ [c] ++ row0.drop (pc + 1)))) (ev_is (ev_op (ev_is (ev_op (ev_is (ev_slS (ev_var rfl) eo_none (eo_some (ev_var rfl)) lr0) (congrArg V.str ct)) (ev_op ev_c (ev_op (ev_op (ev_var rfl) ev_c (rv_ixL (sq_of (e12 _ _ (e11 _ _ (e10 _ _ h9)))) (ax 3 (by decide)))) ev_c (rv_I (by show (0 : Int) < 3; decide))) (rv_ixS (by decide) hac)) (rv_catS (by rw [tx_len, List.length_take]; omega) (by show 1 ≤ 1000; decide))) (congrArg V.str (tx_sn _ _))) (ev_is (ev_slS (ev_var rfl) (eo_some (ev_op (ev_var rfl) ev_c rv_I0)) eo_none lr0) (congrArg V.str cd)) (rv_catS (by rw [tx_len, List.length_append, List.length_take]; show _ + 1 ≤ 1000; omega) (by rw [tx_len, List.length_drop]; omega))) (congrArg V.str (tx_app _ _))) fun H13 e13 => ?_
        have hL : (row0.take pc ++ [c] ++ row0.drop (pc + 1)).length = n := by simp; omega
        refine ⟨_, _, ⟨by omega, fun d hd => ?_⟩, hL, rfl, e10.trans (e11.trans (e12.trans e13))⟩
        rcases List.mem_append.mp hd with z | z
        · rcases List.mem_append.mp z with z | z
          · exact hR10.2 d (List.mem_of_mem_take z)
          · rw [List.mem_singleton.mp z]; exact hc
        · exact hR10.2 d (List.mem_of_mem_drop z)
      · rintro σ' H11 ⟨row1, z13, hR1, hr1, rfl, e11⟩
        have e611 : Ex H6 H11 := e69.trans e11
        refine q_cut (M := fun σ' H' => ∃ (row : List Nat) (y13 : Option V), RowL row ∧ row.length = n ∧ σ' = [some (.ref a), some (.int (at0 : Nat)), some (.int (ma : Nat)), some (.int (pl : Nat)), some (.ref ph), some (.int (n : Nat)), some (.int (m : Nat)), some (.ref pn), some (.ref pv), some (.ref l), some (.int (i : Nat)), some (.ref px), some (.str (tx row)), y13] ∧ Ex H9 H') ?_ ?_
        · refine s_when (et_test (ev_op (ev_op (ev_op (ev_var rfl) ev_c (rv_ixL (sq_of (e611 _ _ h6h)) (ad 17 (by decide)))) ev_c (rv_I (by show (0 : Int) < 4; decide))) ev_c (rv_eq rfl))) (fun hb H12 e12 => ?_) (fun hb H12 e12 => ⟨row1, _, hR1, hr1, rfl, e11.trans e12⟩)
          have c4 : cutV (xs.map V.int) (some 4) none = (xs.drop 4).map V.int := by have := cut_drop (xs := xs.map V.int) 4; rw [List.map_drop]; exact this
          refine (el_sl (ev_var rfl) (eo_some ev_c) eo_none (sq_of (e12 _ _ (e11 _ _ h9)))) _ (Ex.refl _) _ fun q4 H13 nq4 e13 h13 => ⟨_, rfl, q4, xs.drop 4, n, rfl, by rw [← c4]; exact sq_of h13, ⟨by rw [List.length_drop]; omega, by omega⟩, fun r hrl hrc H14 e14 => ⟨r, _, ⟨by omega, hrc⟩, hrl, rfl, e11.trans (e12.trans (e13.trans e14))⟩⟩
        · rintro σ' H12 ⟨row2, w13, hR2, hr2, rfl, e12⟩
          have e912 : Ex H8 H12 := e9.trans e12
          have hp12 : Prs K H12 vs rs := hprs.ex e912
          have hsm : ∀ p ∈ rs, (∀ c ∈ p.1, c < 200) ∧ ∀ c ∈ p.2, c < 200 := fun p hp => ⟨fun c hc => by
            have hmem : p.1 ∈ (List.range i).map (nameOf nx ny nz) := by rw [← hnm]; exact List.mem_map.mpr ⟨p, hp, rfl⟩
            obtain ⟨k, hk, hke⟩ := List.mem_map.mp hmem
            rw [← hke] at hc
            have := (hNl k (by have := List.mem_range.mp hk; omega)).2 c hc
            omega, fun c hc => by rcases (hrw p hp).1.2 c hc with z | z | z <;> omega⟩
          refine q_cut (M := fun σ' H' => ∃ (row : List Nat) (y13 : Option V), RowL row ∧ row.length = n ∧ σ' = [some (.ref a), some (.int (at0 : Nat)), some (.int (ma : Nat)), some (.int (pl : Nat)), some (.ref ph), some (.int (n : Nat)), some (.int (m : Nat)), some (.ref pn), some (.ref pv), some (.ref l), some (.int (i : Nat)), some (.ref px), some (.str (tx row)), y13] ∧ Ex H9 H') ?_ ?_
          · refine s_when (et_and (et_test (ev_op (ev_op (ev_op (ev_var rfl) ev_c (rv_ixL (sq_of (e12 _ _ h9)) (ax 12 (by decide)))) ev_c (rv_I (by show (0 : Int) < 8; decide))) ev_c (rv_eq rfl))) fun _ => et_test (ev_neN (ev_var rfl) (e912 _ _ h8) hp12.dp (shaped_prs rs hsm).1 fun _ e => (hp12.ex e).dp)) (fun hb H13 e13 => ?_) (fun hb H13 e13 => ⟨row2, _, hR2, hr2, rfl, e12.trans e13⟩)
            have hne : rs ≠ [] := fun z => by
              rw [Bool.and_eq_true] at hb
              have := hb.2
              rw [z] at this
              simp at this
            have h0r : 0 < rs.length := List.length_pos_iff.mpr hne
            obtain ⟨r, hr, hrl⟩ := md (xs.getD 13 0) vs.length (by omega)
            have hvr : vs[r]? = some vs[r] := List.getElem?_eq_getElem hrl
            obtain ⟨p, hp, t, ht, hT⟩ := paired_get hp12 r _ hvr
            obtain ⟨hRp, hrp⟩ := hrw p (List.mem_of_getElem? hp)
            refine s_asg (v := .str (tx p.2)) (ev_op (ev_op (ev_var rfl) (ev_is (ev_op (ev_op (ev_var rfl) ev_c (rv_ixL (sq_of (e13 _ _ (e12 _ _ h9))) (ax 13 (by decide)))) (ev_len (ev_var rfl) (sq_of (e13 _ _ (e912 _ _ h8)))) (rv_I (by show (0 : Int) < _; omega))) (congrArg V.int hr)) (rv_ixL (sq_of (e13 _ _ (e912 _ _ h8))) (v := .ref t) (atI_nat (by rw [hvr, ht])))) ev_c (rv_ixT (st_of (e13 _ _ hT)) (atI_nat (j := 1) rfl))) fun H14 e14 => ⟨p.2, _, hRp, hrp, rfl, e12.trans (e13.trans e14)⟩
          · rintro σ' H13 ⟨row3, u13, hR3, hr3, rfl, e13⟩
            have e913 : Ex H8 H13 := e9.trans e13
            have h13l : H13 l = some (.lst vs) := e913 _ _ h8
            have an : atI ((List.range 10).map fun k => V.str (tx (nameOf nx ny nz k))) (i : Int) = some (.str (tx (nameOf nx ny nz i))) := atI_nat (by rw [List.getElem?_map, List.getElem?_range i10]; rfl)
            refine s_appU (ys := [.str (tx (nameOf nx ny nz i)), .str (tx row3)]) h13l (ev_var rfl) (eu_tup (ea_cons (ev_op (ev_var rfl) (ev_var rfl) (rv_ixL (sq_of ((e8.trans e913) _ _ h6n)) an)) (ea_cons (ev_var rfl) ea_nil)) (by show 2 ≤ 100000; decide)) (by omega) fun p4 H14 np4 e14 h14 => ?_
            have nl6 : H6 l = none := nl
            refine ⟨rs ++ [(nameOf nx ny nz i, row3)], vs ++ [.ref p4], _, _, _, _, rfl, ((e8.trans e913).trans e14).mut nl6, upd_same, ?_, ?_, fun p hp => ?_⟩
            · have hpa : Prs K H14 (vs ++ [.ref p4]) (rs ++ [(nameOf nx ny nz i, row3)]) := paired_app (hprs.ex (e913.trans e14)) (.cons ⟨p4, rfl, h14⟩ .nil)
              exact hpa.upd (e14 _ _ h13l)
            · rw [List.map_append, hnm, List.range_succ, List.map_append]
              rfl
            · rcases List.mem_append.mp hp with z | z
              · exact hrw p z
              · rw [List.mem_singleton.mp z]
                exact ⟨hR3, hr3⟩
    · obtain ⟨rs, vs, y10, y11, y12, y13, rfl, e8, h8, hprs, hnm, hrw⟩ := hP
      rw [Int.toNat_natCast] at hnm
      have hlr : rs.length = m := by have := congrArg List.length hnm; rw [List.length_map, List.length_map, List.length_range] at this; exact this
      refine ⟨_, rfl, _, rfl, l, vs, rfl, sq_of h8, fun pb ob npb tdb => ⟨by show 2 ≤ sizeLine; decide, fun pt npt => ?_⟩⟩
      have eb := Ex.new (o := .frz ob (.tup vs)) npb
      have et := Ex.new (o := .tup [.int (n : Nat), .ref pb]) npt
      refine q n rs (.ref pt) _ ((e06.trans e8).trans (eb.trans et)) ⟨pt, pb, vs, rfl, upd_same, ⟨ob, tdb, et _ _ upd_same⟩, hprs.ex (eb.trans et)⟩ ⟨⟨hn1.1, hn1.2.1⟩, by omega, hrw, fun p hp => ?_, ?_⟩ (by omega) hn1.2.2
      · have hmem : p.1 ∈ (List.range m).map (nameOf nx ny nz) := by rw [← hnm]; exact List.mem_map.mpr ⟨p, hp, rfl⟩
        obtain ⟨k, hk, hke⟩ := List.mem_map.mp hmem
        rw [← hke]
        exact hNl k (by have := List.mem_range.mp hk; omega)
      · rw [hnm]
        exact List.Nodup.sublist ((List.range_sublist.mpr (by omega)).map _) hNd
def sp_is_written_in (K : PySem.W.Frag) (ts : List Addr) : Sp := fun vs H Q _ => ∃ (v : V) (o : Option (List Nat)) (g : List Nat), vs = [v, .str (tx g)] ∧ Th K H v o ∧ TB ts H ∧ RetV (.bl (wr o g)) H Q
theorem ok_is_written_in {cc pp : Addr} {ts : List Addr} {tMS : Tok} (D : DfC K mg "is_written_in" st_is_written_in ["thing", "signs"] cc) (B_is_written_in : GxR.TabB base mg cc pp) (hpp : pp ∈ ts) (m_len : mg "len" = none) (m_isinstance : mg "isinstance" = none) (m_str : mg "str" = none) (m_all : mg "all" = none) (c_MOST_SIGNS : mg "MOST_SIGNS" = some (.int 8 tMS)) : At P w K mg base "is_written_in" st_is_written_in 2 ["thing", "signs"] (sp_is_written_in K ts) := by
  obtain ⟨f, fd, F, b, g, hcd⟩ := D
  refine ⟨f, fd, F, b, g, okC F hcd sc_is_written_in (fun vs H Q E h => ?_) (fun A outer s H vs Q E hr h => ?_)⟩
  · obtain ⟨v, o, g, rfl, _⟩ := h
    rfl
  · obtain ⟨v, o, g0, rfl, hv, hT, q⟩ := h
    refine ⟨_, (pss_cons (ps_if (PW.pt (pw_or (pt_not (pt_val (pe_callB call_isi (by rfl) m_isinstance (by decide +kernel) (pa_cons (pv 0) (pa_cons (pe_bltn (v := .ty "str") (by rfl) m_str (by decide +kernel) rfl) pa_nil))))) (pw_or1 (pt_not (pt_chain op_le op_le pe_int (pe_callB call_len_str (by rfl) m_len (by decide +kernel) (pa_cons (pv 0) pa_nil)) (pe_glob (v := .int 8) (by rfl) c_MOST_SIGNS ⟨_, rfl⟩))))))
      (pss_one (ps_ret pe_bl))
      pss_nil)
      (pss_one (ps_ret (Hid.pe_allG (own := [("sign", 2)]) (gg := gName 2) hr rfl sc_is_written_in.nd (by rfl) m_all B_is_written_in rfl (pi_str (pv 0)) (blkOk_by (N := ["thing", "signs", "sign"]) (sc := defScope st_is_written_in) (by decide +kernel)) (fun _ _ _ _ _ _ _ _ => (pg_name (i := 2) sc_is_written_in.nd rfl (.inl rfl))) (fun _ _ _ _ _ _ _ _ hr => (pe_cmpR op_in_sign (pv 2) (pv 1) rfl)))))), ?_⟩
    cases o with
    | none =>
      refine q_when (b := true) (et_or (b := false) (et_not (et_B (ev_isS (ev_var rfl) hv))) fun z => absurd z (by decide)) (fun hb H1 e1 => ?_) (fun hb H1 e1 => absurd hb (by decide))
      exact s_ret ev_c fun H2 e2 => q H2 (e1.trans e2)
    | some z =>
      obtain ⟨rfl, hz⟩ := id hv
      have hlen : (tx z).length = z.length := by simp [tx, Str.length]
      refine q_when (b := !decide (1 ≤ z.length ∧ z.length ≤ 8)) (et_is (et_or (et_not (et_B (ev_isS (ev_var rfl) hv))) fun _ => et_not (et_test (ev_chain (b := decide ((1 : Int) ≤ z.length)) (b' := decide ((z.length : Int) ≤ 8)) ev_c (ev_is (ev_lenS (ev_var rfl) (by omega)) (by rw [hlen])) rv_I0 (fun _ => ev_c) fun _ => rv_I0))) ?_) (fun hb H1 e1 => ?_) (fun hb H1 e1 => ?_)
      · show (!true || !(decide ((1 : Int) ≤ z.length) && decide ((z.length : Int) ≤ 8))) = _
        rw [Bool.not_true, Bool.false_or]
        congr 1
        by_cases h1 : 1 ≤ z.length <;> by_cases h2 : z.length ≤ 8 <;> simp [h1, h2] <;> omega
      · have hw : wr (some z) g0 = false := by
          have : decide (1 ≤ z.length ∧ z.length ≤ 8) = false := of_not hb
          show (decide (1 ≤ z.length ∧ z.length ≤ 8) && _) = false
          rw [this, Bool.false_and]
        rw [hw] at q
        exact s_ret ev_c fun H2 e2 => q H2 (e1.trans e2)
      · have hd : decide (1 ≤ z.length ∧ z.length ≤ 8) = true := of_not' hb
        have hw : wr (some z) g0 = z.all fun c => decide (c ∈ g0) := by
          show (decide (1 ≤ z.length ∧ z.length ≤ 8) && _) = _
          rw [hd, Bool.true_and]
        rw [hw] at q
        have hsz : (tx z).cps.size = z.length := by simp [tx]
        refine ⟨_, rfl, tx z, rfl, hT.ex e1 _ hpp, gx_it walk_str (fun i H' => Ex H H' ∧ ((z.take i).all fun c => decide (c ∈ g0)) = true) ⟨e1, rfl⟩ (fun _ _ _ _ => trivial) (fun i x H2 H2' hi hP hY => ?_) (fun H2 hP => ?_)⟩
        · obtain ⟨e2, hall⟩ := hP
          obtain ⟨rfl, c, hc, rfl⟩ := hY
          have hc' : z[i]? = some c := by simpa [tx] using hc
          refine ⟨rfl, _, rfl, _, rfl, c, tx g0, rfl, rfl, _, rfl, fun hb2 => ⟨e2, ?_⟩, fun hb2 => ?_⟩
          · rw [List.take_add_one, hc']
            show ((z.take i ++ [c]).all _) = true
            rw [List.all_append, hall, Bool.true_and]
            show (decide (c ∈ g0) && true) = true
            rw [Bool.and_true]
            simpa [tx] using hb2
          · have hf : (z.all fun c => decide (c ∈ g0)) = false := by
              rw [Bool.eq_false_iff]
              intro ha
              have := List.all_eq_true.mp ha c (List.mem_of_getElem? hc')
              exact hb2 (by simpa [tx] using this)
            rw [hf] at q
            exact q _ e2
        · obtain ⟨e2, hall⟩ := hP
          rw [List.take_of_length_le (by omega)] at hall
          rw [hall] at q
          exact q H2 e2
def sp_is_half (K : PySem.W.Frag) (ts : List Addr) : Sp := fun vs H Q _ => ∃ (v : V) (o : Option (List Nat)), vs = [v] ∧ Th K H v o ∧ TB ts H ∧ RetV (.bl (wr o [110, 121])) H Q
theorem ok_is_half {ts : List Addr} {tHS : Tok} (D : Df K mg "is_half" st_is_half ["thing"]) (c_HALF_SIGNS : mg "HALF_SIGNS" = some (.str "ny" tHS)) (A_is_written_in : At P w K mg base "is_written_in" st_is_written_in 2 ["thing", "signs"] (sp_is_written_in K ts)) : At P w K mg base "is_half" st_is_half 3 ["thing"] (sp_is_half K ts) := by
  obtain ⟨f, fd, F, b, g⟩ := D
  obtain ⟨f_is_written_in, fd_is_written_in, F_is_written_in, b_is_written_in, g_is_written_in, G_is_written_in⟩ := A_is_written_in
  refine ⟨f, fd, F, b, g, F.ok sc_is_half (fun vs H Q E h => ?_) (fun cdv A outer s H vs Q E hr h => ?_)⟩
  · obtain ⟨v, o, rfl, _⟩ := h
    rfl
  · obtain ⟨v, o, rfl, hv, hT, q⟩ := h
    refine ⟨_, (pss_one (ps_ret (pe_call G_is_written_in (hr.mono (by decide)) (by rfl) g_is_written_in F_is_written_in.kp b_is_written_in .nil pass0 (pa_cons (pv 0) (pa_cons (pe_glob (v := .str "ny") (by rfl) c_HALF_SIGNS ⟨_, rfl⟩) pa_nil))))), ?_⟩
    exact c_call (ea_cons (ev_var rfl) (ea_cons ev_c ea_nil)) fun H1 e1 => ⟨v, o, [110, 121], rfl, hv.ex e1, hT.ex e1, fun H2 e2 => q H2 (e1.trans e2)⟩
def sp_is_row (K : PySem.W.Frag) (ts : List Addr) : Sp := fun vs H Q _ => ∃ (v : V) (o : Option (List Nat)), vs = [v] ∧ Th K H v o ∧ TB ts H ∧ RetV (.bl (wr o [110, 98, 121])) H Q
theorem ok_is_row {ts : List Addr} {tRS : Tok} (D : Df K mg "is_row" st_is_row ["thing"]) (c_ROW_SIGNS : mg "ROW_SIGNS" = some (.str "nby" tRS)) (A_is_written_in : At P w K mg base "is_written_in" st_is_written_in 2 ["thing", "signs"] (sp_is_written_in K ts)) : At P w K mg base "is_row" st_is_row 3 ["thing"] (sp_is_row K ts) := by
  obtain ⟨f, fd, F, b, g⟩ := D
  obtain ⟨f_is_written_in, fd_is_written_in, F_is_written_in, b_is_written_in, g_is_written_in, G_is_written_in⟩ := A_is_written_in
  refine ⟨f, fd, F, b, g, F.ok sc_is_row (fun vs H Q E h => ?_) (fun cdv A outer s H vs Q E hr h => ?_)⟩
  · obtain ⟨v, o, rfl, _⟩ := h
    rfl
  · obtain ⟨v, o, rfl, hv, hT, q⟩ := h
    refine ⟨_, (pss_one (ps_ret (pe_call G_is_written_in (hr.mono (by decide)) (by rfl) g_is_written_in F_is_written_in.kp b_is_written_in .nil pass0 (pa_cons (pv 0) (pa_cons (pe_glob (v := .str "nby") (by rfl) c_ROW_SIGNS ⟨_, rfl⟩) pa_nil))))), ?_⟩
    exact c_call (ea_cons (ev_var rfl) (ea_cons ev_c ea_nil)) fun H1 e1 => ⟨v, o, [110, 98, 121], rfl, hv.ex e1, hT.ex e1, fun H2 e2 => q H2 (e1.trans e2)⟩
def sp_lets (K : PySem.W.Frag) (ts : List Addr) : Sp := fun vs H Q _ => ∃ c d : Nat, vs = [.str (sg1 c), .str (sg1 d)] ∧ RetV (.bl (lt1 c d)) H Q
theorem ok_lets {ts : List Addr} (D : Df K mg "lets" st_lets ["mark", "sign"]) : At P w K mg base "lets" st_lets 1 ["mark", "sign"] (sp_lets K ts) := by
  obtain ⟨f, fd, F, b, g⟩ := D
  refine ⟨f, fd, F, b, g, F.ok sc_lets (fun vs H Q E h => ?_) (fun cdv A outer s H vs Q E hr h => ?_)⟩
  · obtain ⟨c, d, rfl, _⟩ := h
    rfl
  · obtain ⟨c, d, rfl, q⟩ := h
    refine ⟨_, (pss_one (ps_ret (pe_or (pe_cmpR op_eq (pv 0) pe_str (nomark _)) (pe_one (pe_cmpR op_eq (pv 0) (pv 1) (nomark _)))))), ?_⟩
    exact s_ret (ev_is (ev_orV (ev_op (ev_var rfl) ev_c (rv_eq rfl)) fun _ => ev_op (ev_var rfl) (ev_var rfl) (rv_eq rfl)) (by unfold lt1; rw [← str1_dec c 98, ← str1_dec c d]; rfl)) fun H1 e1 => q H1 e1
def sp_fits_row (K : PySem.W.Frag) (ts : List Addr) : Sp := fun vs H Q _ => ∃ (r : List Nat) (v : V) (o : Option (List Nat)), vs = [.str (tx r), v] ∧ RowL r ∧ Th K H v o ∧ TB ts H ∧ RetV (.bl (fitsO r o)) H Q
theorem ok_fits_row {cc pp : Addr} {ts : List Addr} (D : DfC K mg "fits_row" st_fits_row ["row", "half"] cc) (B_fits_row : GxR.TabB base mg cc pp) (hpp : pp ∈ ts) (m_len : mg "len" = none) (m_zip : mg "zip" = none) (m_all : mg "all" = none) (A_is_half : At P w K mg base "is_half" st_is_half 3 ["thing"] (sp_is_half K ts)) (A_is_row : At P w K mg base "is_row" st_is_row 3 ["thing"] (sp_is_row K ts)) (A_lets : At P w K mg base "lets" st_lets 1 ["mark", "sign"] (sp_lets K ts)) : At P w K mg base "fits_row" st_fits_row 5 ["row", "half"] (sp_fits_row K ts) := by
  obtain ⟨f, fd, F, b, g, hcd⟩ := D
  obtain ⟨f_is_half, fd_is_half, F_is_half, b_is_half, g_is_half, G_is_half⟩ := A_is_half
  obtain ⟨f_is_row, fd_is_row, F_is_row, b_is_row, g_is_row, G_is_row⟩ := A_is_row
  obtain ⟨f_lets, fd_lets, F_lets, b_lets, g_lets, G_lets⟩ := A_lets
  refine ⟨f, fd, F, b, g, okC F hcd sc_fits_row (fun vs H Q E h => ?_) (fun A outer s H vs Q E hr h => ?_)⟩
  · obtain ⟨r, v, o, rfl, _⟩ := h
    rfl
  · obtain ⟨r, v, o, rfl, hr0, hv, hT, q⟩ := h
    refine ⟨_, (pss_cons (ps_if (PW.pt (pw_or (pt_not (pt_val (pe_call G_is_row (hr.mono (by decide)) (by rfl) g_is_row F_is_row.kp b_is_row .nil pass0 (pa_cons (pv 0) pa_nil)))) (pw_or (pt_not (pt_val (pe_call G_is_half (hr.mono (by decide)) (by rfl) g_is_half F_is_half.kp b_is_half .nil pass0 (pa_cons (pv 1) pa_nil)))) (pw_or1 (pt_cmpR op_ne (pe_callB call_len_str (by rfl) m_len (by decide +kernel) (pa_cons (pv 0) pa_nil)) (pe_callB call_len_str (by rfl) m_len (by decide +kernel) (pa_cons (pv 1) pa_nil)) (nomark _))))))
      (pss_one (ps_ret pe_bl))
      pss_nil)
      (pss_one (ps_ret (Hid.pe_allG (own := [("mark", 2), ("sign", 3)]) (gg := gTup K 2 (gCons (gName 2) (gCons (gName 3) gNil))) hr rfl sc_fits_row.nd (by rfl) m_all B_fits_row rfl (Hid.pi_zs (by rfl) m_zip (pa_cons (pv 0) (pa_cons (pv 1) pa_nil))) (blkOk_by (N := ["row", "half", "mark", "sign"]) (sc := defScope st_fits_row) (by decide +kernel)) (fun _ _ _ _ _ _ _ _ => (pg_tup (by rfl) (pgs_cons (pg_name (i := 2) sc_fits_row.nd rfl (.inl rfl)) (pgs_cons (pg_name (i := 3) sc_fits_row.nd rfl (.inl rfl)) pgs_nil)))) (fun _ _ _ _ _ _ _ _ hr => (pe_call G_lets (hr.mono (by decide)) (by rfl) g_lets F_lets.kp b_lets .nil pass0 (pa_cons (pv 2) (pa_cons (pv 3) pa_nil)))))))), ?_⟩
    have hrl := hr0.1
    have hlr : (tx r).length = r.length := by simp [tx, Str.length]
    have e1 : Ev (tCall (sp_is_row K ts) [] E0 (tCons (tVar 0) tNil)) [some (.str (tx r)), some v, none, none] H (.bl true) := ev_call (ea_cons (ev_var rfl) ea_nil) fun H1 e1 Q1 q1 E1 => ⟨_, some r, rfl, th_str r (by omega), hT.ex e1, by rw [row_wr hr0]; exact q1⟩
    have e2 : Ev (tCall (sp_is_half K ts) [] E0 (tCons (tVar 1) tNil)) [some (.str (tx r)), some v, none, none] H (.bl (wr o [110, 121])) := ev_call (ea_cons (ev_var rfl) ea_nil) fun H1 e1 Q1 q1 E1 => ⟨v, o, rfl, hv.ex e1, hT.ex e1, q1⟩
    have st := fits_step hr0 o
    by_cases hw : wr o [110, 121] = false
    · refine q_when (b := true) (et_is (et_or (b := true) (et_not (et_B e1)) fun _ => et_is (et_or (b := false) (et_not (et_B e2)) fun z => absurd z (by rw [hw]; decide)) (by rw [hw]; rfl)) rfl) (fun hb H1 f1 => ?_) (fun hb H1 f1 => absurd hb (by decide))
      rw [st, hw, Bool.false_and] at q
      exact s_ret ev_c fun H2 f2 => q H2 (f1.trans f2)
    · have hw' : wr o [110, 121] = true := by simpa using hw
      cases o with
      | none => cases hw'
      | some z =>
        obtain ⟨rfl, hz⟩ := id hv
        have hlz : (tx z).length = z.length := by simp [tx, Str.length]
        rw [hw'] at e2
        have st' : fitsO r (some z) = (decide (r.length = z.length) && (List.zipWith lt1 r z).all id) := by rw [st, hw', Bool.true_and]
        refine q_when (b := !decide (r.length = z.length)) (et_is (et_or (et_not (et_B e1)) fun _ => et_or (et_not (et_B e2)) fun _ => et_test (ev_op (ev_is (ev_lenS (ev_var rfl) (by omega)) (by rw [hlr])) (ev_is (ev_lenS (ev_var rfl) (by omega)) (by rw [hlz])) (rv_ne rfl))) ?_) (fun hb H1 f1 => ?_) (fun hb H1 f1 => ?_)
        · show (!true || (!true || !decide (V.int (r.length : Int) = V.int (z.length : Int)))) = _
          rw [Bool.not_true, Bool.false_or, Bool.false_or]
          congr 1
          exact decide_eq_decide.mpr ⟨fun q => by have := V.int.inj q; omega, fun q => by rw [q]⟩
        · have : decide (r.length = z.length) = false := of_not hb
          rw [st', this, Bool.false_and] at q
          exact s_ret ev_c fun H2 f2 => q H2 (f1.trans f2)
        · have hd : decide (r.length = z.length) = true := of_not' hb
          have hle : r.length = z.length := of_decide_eq_true hd
          rw [st', hd, Bool.true_and] at q
          have hsr : (tx r).cps.size = r.length := by simp [tx]
          have hsz : (tx z).cps.size = z.length := by simp [tx]
          refine ⟨_, rfl, _, rfl, tx r, tx z, rfl, hT.ex f1 _ hpp, gx_it (walk_zs (n := r.length) (by rw [hsr, hsz]; omega)) (fun i H' => Ex H H' ∧ (((List.zipWith lt1 r z).take i).all id) = true) ⟨f1, rfl⟩ (fun _ _ _ _ => trivial) (fun i x H2 H2' hi hP hY => ?_) (fun H2 hP => ?_)⟩
          · obtain ⟨f2, hall⟩ := hP
            obtain ⟨T, c, d, rfl, hTn, rfl, hc, hd2⟩ := hY
            have hc' : r[i]? = some c := by simpa [tx] using hc
            have hd' : z[i]? = some d := by simpa [tx] using hd2
            have hg : (List.zipWith lt1 r z)[i]? = some (lt1 c d) := by rw [List.getElem?_zipWith, hc', hd']
            refine ⟨T, [.str (sg1 c), .str (sg1 d)], rfl, st_of upd_same, rfl, _, _, rfl, _, _, rfl, rfl, rfl, c_call (ea_cons (ev_var rfl) (ea_cons (ev_var rfl) ea_nil)) fun H3 f3 => ⟨c, d, rfl, fun H4 f4 => ⟨_, rfl, fun hb2 => ⟨((f2.trans (Ex.new hTn)).trans f3).trans f4, ?_⟩, fun hb2 => ?_⟩⟩⟩
            · rw [List.take_add_one, hg]
              show (((List.zipWith lt1 r z).take i ++ [lt1 c d]).all id) = true
              rw [List.all_append, hall, Bool.true_and, hb2]
              rfl
            · have hf : ((List.zipWith lt1 r z).all id) = false := by
                rw [Bool.eq_false_iff]
                intro ha
                exact hb2 (List.all_eq_true.mp ha _ (List.mem_of_getElem? hg))
              rw [hf] at q
              exact q _ (((f2.trans (Ex.new hTn)).trans f3).trans f4)
          · obtain ⟨f2, hall⟩ := hP
            rw [List.take_of_length_le (by rw [List.length_zipWith]; omega)] at hall
            rw [hall] at q
            exact q H2 f2
def sp_turned_at_both (K : PySem.W.Frag) (ts : List Addr) : Sp := fun vs H Q _ => ∃ r h : List Nat, vs = [.str (tx r), .str (tx h)] ∧ (h.length = r.length ∧ r.length ≤ 1000) ∧ RetV (.str (tx (turned r h))) H Q
theorem ok_turned_at_both {ts : List Addr} (D : Df K mg "turned_at_both" st_turned_at_both ["row", "half"]) (m_zip : mg "zip" = none) : At P w K mg base "turned_at_both" st_turned_at_both 1 ["row", "half"] (sp_turned_at_both K ts) := by
  obtain ⟨f, fd, F, b, g⟩ := D
  refine ⟨f, fd, F, b, g, F.ok sc_turned_at_both (fun vs H Q E h => ?_) (fun cdv A outer s H vs Q E hr h => ?_)⟩
  · obtain ⟨r, h, rfl, _⟩ := h
    rfl
  · obtain ⟨r, h, rfl, hl, q⟩ := h
    refine ⟨_, (pss_cons (ps_set (i := 2) sc_turned_at_both.nd rfl (.inl rfl) (pe_lst pa_nil))
      (pss_cons (ps_for PassesOwn.never rfl (Hid.pi_zs (by rfl) m_zip (pa_cons (pv 0) (pa_cons (pv 1) pa_nil))) (pg_tup (by rfl) (pgs_cons (pg_name (i := 3) sc_turned_at_both.nd rfl (.inl rfl)) (pgs_cons (pg_name (i := 4) sc_turned_at_both.nd rfl (.inl rfl)) pgs_nil)))
      (pss_one (ps_if (pt_cmpR op_eq (pv 3) pe_str (nomark _))
      (pss_one (ps_expr (pe_bm PySem.F.plainAttrs_list PySem.F.slot_list_append PySem.F.type_list_append mt_append (pv 2) (pa_cons (pe_ifExp (pt_cmpR op_eq (pv 4) pe_str (nomark _)) pe_str pe_str) pa_nil))))
      (pss_one (ps_expr (pe_bm PySem.F.plainAttrs_list PySem.F.slot_list_append PySem.F.type_list_append mt_append (pv 2) (pa_cons (pv 4) pa_nil)))))))
      (pss_one (ps_ret (pe_join pe_str (pv 2)))))), ?_⟩
    have hsz : (tx r).cps.size = r.length := by simp [tx]
    have hsz2 : (tx h).cps.size = h.length := by simp [tx]
    refine q_asgL (el_lst ea_nil (by decide)) fun l H1 hl0 e1 h1 => ?_
    refine ⟨_, rfl, _, rfl, tx r, tx h, rfl, for_zs (n := r.length) (by rw [hsz, hsz2]; omega) (fun i σ' H' => ∃ y3 y4, σ' = [some (.str (tx r)), some (.str (tx h)), some (.ref l), y3, y4] ∧ Ex H H' ∧ H' l = some (.lst (vs1 ((turned r h).take i)))) ⟨_, _, rfl, e1, h1⟩ (fun i c d T σ' H2 hi hc hd hT hP => ?_) (fun σ' H2 hP => ?_)⟩
    · obtain ⟨y3, y4, rfl, e2, h2⟩ := hP
      have hc' : r[i]? = some c := by simpa [tx] using hc
      have hd' : h[i]? = some d := by simpa [tx] using hd
      have hlt : l ≠ T := ne_of_none h2 hT
      have h3 : (upd H2 T (.tup [.str (sg1 c), .str (sg1 d)])) l = some (.lst (vs1 ((turned r h).take i))) := by rw [upd_ne hlt]; exact h2
      have hget : (turned r h)[i]? = some (tw c d) := by unfold turned; rw [List.getElem?_zipWith, hc', hd']
      have hlen : (vs1 ((turned r h).take i)).length < 100000 := by rw [List.length_map, List.length_take]; omega
      have hnext : ∀ H4, Ex (upd H2 T (.tup [.str (sg1 c), .str (sg1 d)])) H4 → ∃ y3 y4, [some (V.str (tx r)), some (.str (tx h)), some (.ref l), some (.str (sg1 c)), some (.str (sg1 d))] = [some (V.str (tx r)), some (.str (tx h)), some (.ref l), y3, y4] ∧ Ex H (upd H4 l (.lst (vs1 ((turned r h).take i) ++ [.str (sg1 (tw c d))]))) ∧ (upd H4 l (.lst (vs1 ((turned r h).take i) ++ [.str (sg1 (tw c d))]))) l = some (.lst (vs1 ((turned r h).take (i + 1)))) := by
        intro H4 e4
        refine ⟨_, _, rfl, ((e2.trans (Ex.new hT)).trans e4).mut hl0, ?_⟩
        rw [upd_same, List.take_add_one, hget]
        show _ = some (HO.lst (List.map _ _))
        rw [List.map_append]
        rfl
      refine ⟨T, [.str (sg1 c), .str (sg1 d)], rfl, st_of upd_same, rfl, _, _, rfl, _, _, rfl, rfl, ?_⟩
      refine s_if (et_is (et_test (ev_op (ev_var rfl) ev_c (rv_eq rfl))) (str1_dec c 98)) (fun hb H4 e4 => ?_) (fun hb H4 e4 => ?_)
      · have hb' : c = 98 := of_decide_eq_true hb
        refine s_app (v := .str (sg1 (tw c d))) (e4 _ _ h3) (ev_var rfl) (ev_if (et_is (et_test (ev_op (ev_var rfl) ev_c (rv_eq rfl))) (str1_dec d 110)) (fun hd2 => ev_is ev_c ?_) (fun hd2 => ev_is ev_c ?_)) hlen fun H5 e5 => hnext H5 (e4.trans e5)
        · unfold tw; rw [if_pos hb', if_pos (of_decide_eq_true hd2)]; rfl
        · unfold tw; rw [if_pos hb', if_neg (of_decide_eq_false hd2)]; rfl
      · have hb' : c ≠ 98 := of_decide_eq_false hb
        refine s_app (v := .str (sg1 (tw c d))) (e4 _ _ h3) (ev_var rfl) (ev_is (ev_var rfl) ?_) hlen fun H5 e5 => hnext H5 (e4.trans e5)
        unfold tw; rw [if_neg hb']
    · obtain ⟨y3, y4, rfl, e2, h2⟩ := hP
      have hrl := turned_len r h hl.1
      rw [List.take_of_length_le (by omega)] at h2
      exact ⟨⟨_, rfl⟩, _, rfl, r_join (sq_of h2) (by omega) (q H2 e2)⟩
def sp_other_half (K : PySem.W.Frag) (ts : List Addr) : Sp := fun vs H Q _ => ∃ (r : List Nat) (v : V) (o : Option (List Nat)), vs = [.str (tx r), v] ∧ RowL r ∧ Th K H v o ∧ TB ts H ∧ RetV (otherO r o) H Q
theorem ok_other_half {ts : List Addr} (D : Df K mg "other_half" st_other_half ["row", "half"]) (A_fits_row : At P w K mg base "fits_row" st_fits_row 5 ["row", "half"] (sp_fits_row K ts)) (A_turned_at_both : At P w K mg base "turned_at_both" st_turned_at_both 1 ["row", "half"] (sp_turned_at_both K ts)) : At P w K mg base "other_half" st_other_half 6 ["row", "half"] (sp_other_half K ts) := by
  obtain ⟨f, fd, F, b, g⟩ := D
  obtain ⟨f_fits_row, fd_fits_row, F_fits_row, b_fits_row, g_fits_row, G_fits_row⟩ := A_fits_row
  obtain ⟨f_turned_at_both, fd_turned_at_both, F_turned_at_both, b_turned_at_both, g_turned_at_both, G_turned_at_both⟩ := A_turned_at_both
  refine ⟨f, fd, F, b, g, F.ok sc_other_half (fun vs H Q E h => ?_) (fun cdv A outer s H vs Q E hr h => ?_)⟩
  · obtain ⟨r, v, o, rfl, _⟩ := h
    rfl
  · obtain ⟨r, v, o, rfl, hr0, hv, hT, q⟩ := h
    refine ⟨_, (pss_cons (ps_if (pt_not (pt_val (pe_call G_fits_row (hr.mono (by decide)) (by rfl) g_fits_row F_fits_row.kp b_fits_row .nil pass0 (pa_cons (pv 0) (pa_cons (pv 1) pa_nil)))))
      (pss_one (ps_ret pe_non))
      pss_nil)
      (pss_one (ps_ret (pe_call G_turned_at_both (hr.mono (by decide)) (by rfl) g_turned_at_both F_turned_at_both.kp b_turned_at_both .nil pass0 (pa_cons (pv 0) (pa_cons (pv 1) pa_nil)))))), ?_⟩
    have e1 : Ev (tCall (sp_fits_row K ts) [] E0 (tCons (tVar 0) (tCons (tVar 1) tNil))) [some (.str (tx r)), some v] H (.bl (fitsO r o)) := ev_call (ea_cons (ev_var rfl) (ea_cons (ev_var rfl) ea_nil)) fun H1 e1 Q1 q1 E1 => ⟨r, v, o, rfl, hr0, hv.ex e1, hT.ex e1, q1⟩
    cases hf : fitsO r o with
    | false =>
      rw [hf] at e1
      rw [otherO_no hf] at q
      refine q_when (b := true) (et_not (et_B e1)) (fun hb H1 f1 => ?_) (fun hb H1 f1 => absurd hb (by decide))
      exact s_ret ev_c fun H2 f2 => q H2 (f1.trans f2)
    | true =>
      rw [hf] at e1
      cases o with
      | none => cases hf
      | some z =>
        obtain ⟨rfl, hz⟩ := id hv
        rw [otherO_yes hf] at q
        have hl : z.length = r.length := by
          have h1 : (decide (z.length = r.length) && (z.all fun c => decide (c ∈ [110, 121])) && (List.zipWith lt1 r z).all id) = true := hf
          rw [Bool.and_eq_true, Bool.and_eq_true] at h1
          exact of_decide_eq_true h1.1.1
        have hrl := hr0.1
        refine q_when (b := false) (et_not (et_B e1)) (fun hb H1 f1 => absurd hb (by decide)) (fun hb H1 f1 => ?_)
        exact c_call (ea_cons (ev_var rfl) (ea_cons (ev_var rfl) ea_nil)) fun H2 f2 => ⟨r, z, rfl, ⟨hl, by omega⟩, fun H3 f3 => q H3 (f1.trans (f2.trans f3))⟩
def sp_is_name (K : PySem.W.Frag) (ts : List Addr) : Sp := fun vs H Q _ => ∃ (v : V) (o : Option (List Nat)), vs = [v] ∧ Th K H v o ∧ TB ts H ∧ RetV (.bl (wr o az)) H Q
theorem ok_is_name {ts : List Addr} {tSL : Tok} (D : Df K mg "is_name" st_is_name ["thing"]) (c_SMALL_LETTERS : mg "SMALL_LETTERS" = some (.str "abcdefghijklmnopqrstuvwxyz" tSL)) (A_is_written_in : At P w K mg base "is_written_in" st_is_written_in 2 ["thing", "signs"] (sp_is_written_in K ts)) : At P w K mg base "is_name" st_is_name 3 ["thing"] (sp_is_name K ts) := by
  obtain ⟨f, fd, F, b, g⟩ := D
  obtain ⟨f_is_written_in, fd_is_written_in, F_is_written_in, b_is_written_in, g_is_written_in, G_is_written_in⟩ := A_is_written_in
  refine ⟨f, fd, F, b, g, F.ok sc_is_name (fun vs H Q E h => ?_) (fun cdv A outer s H vs Q E hr h => ?_)⟩
  · obtain ⟨v, o, rfl, _⟩ := h
    rfl
  · obtain ⟨v, o, rfl, hv, hT, q⟩ := h
    refine ⟨_, (pss_one (ps_ret (pe_call G_is_written_in (hr.mono (by decide)) (by rfl) g_is_written_in F_is_written_in.kp b_is_written_in .nil pass0 (pa_cons (pv 0) (pa_cons (pe_glob (v := .str "abcdefghijklmnopqrstuvwxyz") (by rfl) c_SMALL_LETTERS ⟨_, rfl⟩) pa_nil))))), ?_⟩
    exact c_call (ea_cons (ev_var rfl) (ea_cons ev_c ea_nil)) fun H1 e1 => ⟨v, o, az, rfl, hv.ex e1, hT.ex e1, fun H2 e2 => q H2 (e1.trans e2)⟩
end
end Hid

namespace Hid
open PySem PySem.Spec PyProof.Rows L2 Evl
theorem eqv_strs : ∀ D : List Str, PyData.eqv (.list (D.map PyData.str)) (.list (D.map PyData.str)) = true := by
  intro D
  have h : ∀ D : List Str, PySem.W.alikeAll (D.map PyData.str) (D.map PyData.str) = true := by
    intro D
    induction D with
    | nil => simp [PySem.W.alikeAll]
    | cons x D ih => simpa [PySem.W.alikeAll, PySem.W.alike] using ih
  exact PySem.W.eqv_refl_alike _ (by simpa [PySem.W.alike] using h D)
theorem shaped_strs {hs : List (List Nat)} (h : ∀ x ∈ hs, ∀ c ∈ x, c < 200) : SeqAt.shaped (.list ((hs.map tx).map PyData.str)) = true := by
  have h1 : ∀ hs : List (List Nat), (∀ x ∈ hs, ∀ c ∈ x, c < 200) → PyData.canLayAll0 ((hs.map tx).map PyData.str) = true := by
    intro hs
    induction hs with
    | nil => intro _; rfl
    | cons p ps ih =>
      intro hh
      show (PyData.canLay0 (.str (tx p)) && PyData.canLayAll0 ((ps.map tx).map PyData.str)) = true
      rw [ih fun q hq => hh q (List.mem_cons_of_mem _ hq)]
      simp [PyData.canLay0, strOk_sm (hh p List.mem_cons_self)]
  have h2 : ∀ hs : List Str, PyData.depthAll (hs.map PyData.str) ≤ 2 := by
    intro hs
    induction hs with
    | nil => exact Nat.zero_le _
    | cons p ps ih =>
      show max (PyData.depth (.str p)) (PyData.depthAll (ps.map PyData.str)) ≤ 2
      have : PyData.depth (.str p) ≤ 2 := by simp [PyData.depth]
      omega
  unfold SeqAt.shaped
  rw [Bool.and_eq_true]
  refine ⟨h1 hs h, decide_eq_true ?_⟩
  have := h2 (hs.map tx)
  simp only [PyData.depth]
  omega
abbrev HfS (n : Nat) (h : Str) : Prop := HalfN n (zl h)
def stV (s : Stp) : List V := [.str s.1, .str s.2.1, .str s.2.2]
theorem th_S {K : PySem.W.Frag} {H : Hp} {h : Str} (hl : (zl h).length ≤ 1000) : Th K H (.str h) (some (zl h)) := ⟨by rw [tx_cps], hl⟩
theorem half_wr {n : Nat} {z : List Nat} (h : HalfN n z) (h1 : 1 ≤ n) (h8 : n ≤ 8) : wr (some z) [110, 121] = true := by
  unfold wr
  rw [Bool.and_eq_true]
  refine ⟨decide_eq_true (by rw [h.1]; exact ⟨h1, h8⟩), List.all_eq_true.mpr fun c hc => decide_eq_true ?_⟩
  rcases h.2 c hc with z | z <;> rw [z] <;> simp
theorem name_wr {z : List Nat} (h : NameL z) : wr (some z) az = true := by
  unfold wr
  rw [Bool.and_eq_true]
  refine ⟨decide_eq_true h.1, List.all_eq_true.mpr fun c hc => decide_eq_true ?_⟩
  obtain ⟨a, b⟩ := h.2 c hc
  unfold az
  simp
  omega
theorem find_first {p : Str → Bool} {z : Str} : ∀ {ys : List Str} {m : Nat}, ys[m]? = some z → p z = true → (∀ (j : Nat) y, j < m → ys[j]? = some y → p y = false) → ys.find? p = some z
  | y :: ys, 0, e, pz, _ => by cases e; rw [List.find?_cons, pz]
  | y :: ys, m + 1, e, pz, n => by
    rw [List.find?_cons, n 0 y (Nat.succ_pos _) rfl]
    exact find_first (m := m) e pz fun j w hj hw => n (j + 1) w (Nat.succ_lt_succ hj) hw
theorem srt_perm {l m : List Str} (h : l.Perm m) : srt l = srt m := by
  have p : (srt l).Perm (srt m) := (List.mergeSort_perm l strLe).trans (h.trans (List.mergeSort_perm m strLe).symm)
  exact p.eq_of_pairwise (fun a b _ _ x y => str_ext (List.le_antisymm x y)) (srt_sorted l) (srt_sorted m)
theorem tx_zl (l : List Str) : (l.map zl).map tx = l := by
  rw [List.map_map, show (tx ∘ zl) = id from funext fun z => tx_cps z, List.map_id]
section
variable {K : PySem.W.Frag} {σ : L2.St} {H : Hp} {ta tb te tl : TE}
theorem el_isL {xs ys : List V} (h : EvL ta σ H xs) (e : xs = ys) : EvL ta σ H ys := e ▸ h
theorem el_sortLS {xs : List Str} (h : EvL tl σ H (xs.map V.str)) : EvL (tCB (rSortLS K) (tCons tl tNil)) σ H ((srt xs).map V.str) := fun H1 e Q q =>
  h H1 e _ fun p H2 np e2 h2 => ⟨p, xs, rfl, sq_of h2, fun p2 np2 => q p2 _ (fresh_back e2 np2) (e2.trans (Ex.new np2)) upd_same⟩
theorem ev_dget {d : Addr} {y v : V} (ha : Ev ta σ H (.ref d)) (hb : Ev tb σ H y) (h : ∀ G, Ex H G → DGet G d y (some v)) : Ev (tDGet ta tb) σ H v := fun H1 e Q q =>
  ha H1 e _ fun H2 e2 => hb H2 (e.trans e2) _ fun H3 e3 => ⟨d, v, rfl, h H3 (e.trans (e2.trans e3)), q H3 (e2.trans e3)⟩
/-- a comprehension over a tuple of pairs -/
theorem el_lcPT {a : Addr} {xs : List V} {i j : Nat} {vs : List Nat} (v : Nat → V) (h : Ev tl σ H (.ref a)) (hx : SqT K H a xs) (hz : xs.length ≤ 40000)
    (hw : ∀ p q, wipe (((wipe σ vs).set i (some p)).set j (some q)) vs = wipe σ vs)
    (hp : ∀ n x, xs[n]? = some x → ∃ t p q, x = .ref t ∧ SqT K H t [p, q] ∧ Ev te (((wipe σ vs).set i (some p)).set j (some q)) H (v n)) :
    EvL (tLc (iTup K tl) (gTup K 2 (gCons (gName i) (gCons (gName j) gNil))) tYes te vs) σ H ((List.range xs.length).map v) := fun H0 e Q q => h H0 e _ fun H1 e1 => ⟨a, rfl, ⟨xs, ex_t (e.trans e1) hx⟩, fun Dl hD =>
  lc_it (walk_tup (xs := xs)) (Cw H1 (fun _ => true) v Dl) ⟨hD, Ex.new hD, upd_same⟩ (fun i H' _ p => ex_t ((e.trans e1).trans p.2.1) hx) (fun n x H' H'' hn p hY => by
      obtain ⟨rfl, hxn⟩ := hY
      obtain ⟨t, x1, x2, rfl, hT, hE⟩ := hp n x hxn
      exact ⟨t, [x1, x2], rfl, ex_t ((e.trans e1).trans p.2.1) hT, rfl, x1, [x2], rfl, x2, [], rfl, rfl, hw x1 x2, cw_turn (f := fun _ => true) p (by omega) et_yes fun _ => hE.mono (e.trans e1)⟩)
    (fun H' p => q Dl H' (fresh_back e1 p.1) (e1.trans p.2.1) (by rw [p.2.2, given_true]))⟩
end
/-- rising, by neighbours -/
theorem adj_rise : ∀ {ys : List Str}, (∀ (i : Nat) a b, ys[i]? = some a → ys[i + 1]? = some b → a.cps.toList < b.cps.toList) → Rise ys
  | [], _ => .nil
  | [x], _ => List.pairwise_singleton _ _
  | x :: y :: ys, h => by
    have ih := adj_rise (ys := y :: ys) fun i a b ha hb => h (i + 1) a b ha hb
    have hxy := h 0 x y rfl rfl
    refine List.pairwise_cons.mpr ⟨fun z hz => ?_, ih⟩
    rcases List.mem_cons.mp hz with e | e
    · rw [e]; exact hxy
    · exact List.lt_trans hxy ((List.pairwise_cons.mp ih).1 z e)
theorem wr_half {n : Nat} {z : List Nat} (h : wr (some z) [110, 121] = true) (hn : z.length = n) : HalfN n z := by
  have h : (decide (1 ≤ z.length ∧ z.length ≤ 8) && z.all fun c => decide (c ∈ ([110, 121] : List Nat))) = true := h
  rw [Bool.and_eq_true] at h
  refine ⟨hn, fun c hc => ?_⟩
  have := of_decide_eq_true (List.all_eq_true.mp h.2 c hc)
  simpa using this
theorem wr_name {z : List Nat} (h : wr (some z) az = true) : NameL z := by
  have h : (decide (1 ≤ z.length ∧ z.length ≤ 8) && z.all fun c => decide (c ∈ az)) = true := h
  rw [Bool.and_eq_true] at h
  refine ⟨of_decide_eq_true h.1, fun c hc => ?_⟩
  have h2 := of_decide_eq_true (List.all_eq_true.mp h.2 c hc)
  have : ∀ c ∈ az, 97 ≤ c ∧ c ≤ 122 := by decide
  exact this c h2
theorem zl_tx (z : List Nat) : zl (tx z) = z := by simp [zl, tx]
/-- half-rows that are known: texts of n signs, rising -/
def knO (n : Nat) : Option (List (Option (List Nat))) → Prop
  | none => False
  | some os => ∃ ys : List Str, os = (ys.map fun y => some (zl y)) ∧ (∀ y ∈ ys, HfS n y) ∧ Rise ys
/-- an order of these names -/
def ordO (rs : List (List Nat × List Nat)) : Option (List (Option (List Nat))) → Prop
  | none => False
  | some os => ∃ ws : List Str, os = (ws.map fun y => some (zl y)) ∧ ws.Perm (rs.map fun p => tx p.1)
def lenO : Option (List (Option (List Nat))) → Nat
  | none => 0
  | some os => os.length
theorem all_strs : ∀ {os : List (Option (List Nat))}, (∀ x ∈ os, ∃ z, x = some z) → ∃ ys : List Str, os = ys.map fun y => some (zl y)
  | [], _ => ⟨[], rfl⟩
  | x :: os, h => by
    obtain ⟨ys, e⟩ := all_strs (os := os) fun y hy => h y (List.mem_cons_of_mem _ hy)
    obtain ⟨z, rfl⟩ := h x List.mem_cons_self
    exact ⟨tx z :: ys, by rw [List.map_cons, zl_tx, e]⟩
theorem strs_of {K : PySem.W.Frag} {H : Hp} : ∀ {vs : List V} {ys : List Str}, Paired (Th K H) vs (ys.map fun y => some (zl y)) → vs = ys.map V.str
  | [], [], .nil => rfl
  | v :: vs, y :: ys, .cons h r => by
    rw [strs_of r, List.map_cons]
    obtain ⟨e, _⟩ := h
    rw [e, tx_cps]
theorem map_str_inj : ∀ {a b : List Str}, (a.map fun y => some (zl y)) = (b.map fun y => some (zl y)) → a = b
  | [], [], _ => rfl
  | x :: a, y :: b, h => by
    rw [List.map_cons, List.map_cons] at h
    injection h with h1 h2
    rw [map_str_inj h2]
    have := congrArg tx (Option.some.inj h1)
    rw [tx_cps, tx_cps] at this
    rw [this]
theorem srt_eq {l m : List Str} : srt l = srt m ↔ l.Perm m := ⟨fun h => (List.mergeSort_perm l strLe).symm.trans ((show (srt l).Perm (srt m) from h ▸ .refl _).trans (List.mergeSort_perm m strLe)), srt_perm⟩
theorem eqv_strD : ∀ A B : List Str, PyData.eqv (.list (A.map PyData.str)) (.list (B.map PyData.str)) = decide (A = B)
  | [], [] => rfl
  | [], _ :: _ => rfl
  | _ :: _, [] => rfl
  | a :: A, b :: B => by
    have ih := eqv_strD A B
    show (PyData.eqv (.str a) (.str b) && PyData.eqv (.list (A.map PyData.str)) (.list (B.map PyData.str))) = _
    rw [ih]
    by_cases h : a = b
    · subst h
      rw [show PyData.eqv (.str a) (.str a) = true by simp [PyData.eqv], Bool.true_and]
      by_cases h2 : A = B
      · rw [decide_eq_true h2, decide_eq_true (by rw [h2])]
      · rw [decide_eq_false h2, decide_eq_false (fun z => h2 (List.cons.inj z).2)]
    · rw [show PyData.eqv (.str a) (.str b) = false by simp [PyData.eqv, h], Bool.false_and, decide_eq_false (fun z => h (List.cons.inj z).1)]
theorem ev_isU {K : PySem.W.Frag} {ta : TE} {σ : L2.St} {H : Hp} {v : V} (ha : Ev ta σ H v) (h : NotU K H v) : Ev (tCB (rIsi K) (tCons ta (tCons (tC (.ty "tuple")) tNil))) σ H (.bl false) := by
  obtain ⟨t, hk, ht⟩ := h
  exact ev_isi ha ht hk
section
variable {P : Program} {w : World} {K : PySem.W.Frag} {mg : Str → Option Value} {base : Heap}
def sp_rises (K : PySem.W.Frag) (ts : List Addr) : Sp := fun vs H Q _ => ∃ (t : Addr) (ys : List Str) (b : Bool), vs = [.ref t] ∧ SqT K H t (ys.map V.str) ∧ (b = true ↔ Rise ys) ∧ TB ts H ∧ RetV (.bl b) H Q
theorem ok_rises {cc pp : Addr} {ts : List Addr} (D : DfC K mg "rises" st_rises ["things"] cc) (B_rises : GxR.TabB base mg cc pp) (hpp : pp ∈ ts) (m_zip : mg "zip" = none) (m_all : mg "all" = none) : At P w K mg base "rises" st_rises 2 ["things"] (sp_rises K ts) := by
  obtain ⟨f, fd, F, b, g, hcd⟩ := D
  refine ⟨f, fd, F, b, g, okC F hcd sc_rises (fun vs H Q E h => ?_) (fun A outer s H vs Q E hr h => ?_)⟩
  · obtain ⟨t, ys, b, rfl, _⟩ := h
    rfl
  · obtain ⟨t, ys, bb, rfl, ht, hri, hT, q⟩ := h
    refine ⟨_, (pss_one (ps_ret (Hid.pe_allG (own := [("thing", 1), ("after", 2)]) (gg := gTup K 2 (gCons (gName 1) (gCons (gName 2) gNil))) hr rfl sc_rises.nd (by rfl) m_all B_rises rfl (RZ.pi_zipA (by rfl) m_zip (pa_cons (pv 0) (pa_cons (pe_slice sl_tupA (pv 0) (po_some pe_int) po_none) pa_nil))) (blkOk_by (N := ["things", "thing", "after"]) (sc := defScope st_rises) (by decide +kernel)) (fun _ _ _ _ _ _ _ _ => (pg_tup (by rfl) (pgs_cons (pg_name (i := 1) sc_rises.nd rfl (.inl rfl)) (pgs_cons (pg_name (i := 2) sc_rises.nd rfl (.inl rfl)) pgs_nil)))) (fun _ _ _ _ _ _ _ _ hr => (pe_cmpR op_lt_str (pv 1) (pv 2) (nomark _)))))), ?_⟩
    have hsl : cutV (ys.map V.str) (some 1) none = (ys.drop 1).map V.str := by have := cut_drop (xs := ys.map V.str) 1; rw [List.map_drop]; exact this
    refine ⟨_, rfl, (ep_sl (K := K) (ev_var rfl) ht (eo_some ev_c) eo_none) H (Ex.refl _) _ fun v H1 e1 hv => ?_⟩
    obtain ⟨b, rfl, hb⟩ := hv
    rw [hsl] at hb
    refine ⟨t, b, _, _, rfl, .inr ⟨ex_t e1 ht, hb, hT.ex e1 _ hpp, gx_it (walk_zipT (K := K) (xs := ys.map V.str) (ys := (ys.drop 1).map V.str) rfl) (fun i H' => Ex H1 H' ∧ ∀ (j : Nat) a b, j < i → ys[j]? = some a → ys[j + 1]? = some b → a.cps.toList < b.cps.toList) ⟨Ex.refl _, fun j a b h => absurd h (Nat.not_lt_zero _)⟩ (fun i H' _ hP => ⟨ex_t (e1.trans hP.1) ht, ex_t hP.1 hb⟩) (fun i x H2 H2' hi hP hY => ?_) (fun H2 hP => ?_)⟩⟩
    · obtain ⟨T, x1, x2, rfl, hTn, rfl, hx1, hx2⟩ := hY
      replace hx1 : (ys.map V.str)[i]? = some x1 := hx1
      replace hx2 : ((ys.drop 1).map V.str)[i]? = some x2 := hx2
      rw [List.getElem?_map] at hx1 hx2
      obtain ⟨a1, ha1, rfl⟩ := Option.map_eq_some_iff.mp hx1
      obtain ⟨a2, ha2, rfl⟩ := Option.map_eq_some_iff.mp hx2
      rw [List.getElem?_drop] at ha2
      refine ⟨T, [.str a1, .str a2], rfl, st_of upd_same, rfl, _, _, rfl, _, _, rfl, rfl, rfl, _, rfl, _, rfl, a1, a2, rfl, rfl, _, rfl, fun z => ⟨hP.1.trans (Ex.new hTn), fun j a b hj ha hb => ?_⟩, fun z => ?_⟩
      · rcases Nat.lt_or_eq_of_le (Nat.le_of_lt_succ hj) with h | h
        · exact hP.2 j a b h ha hb
        · subst h
          rw [ha1] at ha
          rw [show j + 1 = 1 + j by omega, ha2] at hb
          cases ha
          cases hb
          exact of_decide_eq_true z
      · have hbf : bb = false := by
          cases bb with
          | false => rfl
          | true =>
            obtain ⟨l1, r1⟩ := List.getElem?_eq_some_iff.mp ha1
            obtain ⟨l2, r2⟩ := List.getElem?_eq_some_iff.mp ha2
            have := List.pairwise_iff_getElem.mp (hri.mp rfl) i (1 + i) l1 l2 (by omega)
            rw [r1, r2] at this
            exact absurd (decide_eq_true this) z
        rw [hbf] at q
        exact q _ (e1.trans (hP.1.trans (Ex.new hTn)))
    · have hbt : bb = true := hri.mpr (adj_rise fun i a b ha hb2 => hP.2 i a b (by
        have h1 := (List.getElem?_eq_some_iff.mp hb2).1
        show i < min (ys.map V.str).length ((ys.drop 1).map V.str).length
        rw [List.length_map, List.length_map, List.length_drop]
        omega) ha hb2)
      rw [hbt] at q
      exact q H2 (e1.trans hP.1)
def sp_are_known (K : PySem.W.Frag) (ts : List Addr) : Sp := fun vs H Q _ => ∃ (bv : V) (n : Nat) (rs : List (List Nat × List Nat)) (v : V) (o : Option (List (Option (List Nat)))) (b : Bool), vs = [bv, v] ∧ BookF K H bv n rs ∧ (1 ≤ n ∧ n ≤ 8) ∧ YgOk K H v o ∧ lenO o ≤ 100 ∧ (b = true ↔ knO n o) ∧ TB ts H ∧ RetV (.bl b) H Q
theorem ok_are_known {cc pp : Addr} {ts : List Addr} (D : DfC K mg "are_known" st_are_known ["book", "thing"] cc) (B_are_known : GxR.TabB base mg cc pp) (hpp : pp ∈ ts) (m_len : mg "len" = none) (m_all : mg "all" = none) (m_isinstance : mg "isinstance" = none) (m_tuple : mg "tuple" = none) (A_is_half : At P w K mg base "is_half" st_is_half 3 ["thing"] (sp_is_half K ts)) (A_rises : At P w K mg base "rises" st_rises 2 ["things"] (sp_rises K ts)) : At P w K mg base "are_known" st_are_known 5 ["book", "thing"] (sp_are_known K ts) := by
  obtain ⟨f, fd, F, b, g, hcd⟩ := D
  obtain ⟨f_is_half, fd_is_half, F_is_half, b_is_half, g_is_half, G_is_half⟩ := A_is_half
  obtain ⟨f_rises, fd_rises, F_rises, b_rises, g_rises, G_rises⟩ := A_rises
  refine ⟨f, fd, F, b, g, okC F hcd sc_are_known (fun vs H Q E h => ?_) (fun A outer s H vs Q E hr h => ?_)⟩
  · obtain ⟨bv, n, rs, v, o, b, rfl, _⟩ := h
    rfl
  · obtain ⟨bv, n, rs, v, o, bb, rfl, hB, hn, hv, hlo, hbb, hT, q⟩ := h
    refine ⟨_, (pss_cons (ps_if (PW.pt (pw_or (pt_not (pt_val (pe_callB call_isi (by rfl) m_isinstance (by decide +kernel) (pa_cons (pv 1) (pa_cons (pe_bltn (v := .ty "tuple") (by rfl) m_tuple (by decide +kernel) rfl) pa_nil))))) (pw_or1 (pt_not (pt_val (Hid.pe_allG (own := [("half", 2)]) (gg := gName 2) hr rfl sc_are_known.nd (by rfl) m_all B_are_known rfl (pi_tup (pv 1)) (blkOk_by (N := ["book", "thing", "half"]) (sc := defScope st_are_known) (by decide +kernel)) (fun _ _ _ _ _ _ _ _ => (pg_name (i := 2) sc_are_known.nd rfl (.inl rfl))) (fun _ _ _ _ _ _ _ _ hr => (pe_and (pe_call G_is_half (hr.mono (by decide)) (by rfl) g_is_half F_is_half.kp b_is_half .nil pass0 (pa_cons (pv 2) pa_nil)) (pe_one (pe_cmpR op_eq (pe_callB call_len_str (by rfl) m_len (by decide +kernel) (pa_cons (pv 2) pa_nil)) (pe_ix (show IxR _ (rIxT K) from ix_tup) (pv 0) pe_int (fun _ _ => rfl)) (nomark _)))))))))))
      (pss_one (ps_ret pe_bl))
      pss_nil)
      (pss_one (ps_ret (pe_call G_rises (hr.mono (by decide)) (by rfl) g_rises F_rises.kp b_rises .nil pass0 (pa_cons (pv 1) pa_nil))))), ?_⟩
    obtain ⟨tb, b, vs, rfl, hBt, hBb, hBp⟩ := id hB
    cases o with
    | none =>
      have hbf : bb = false := by
        cases bb with
        | false => rfl
        | true => exact (hbb.mp rfl).elim
      rw [hbf] at q
      exact q_when (b := true) (et_is (et_or (a := true) (b := true) (et_is (b := true) (et_not (et_B (ev_isU (ev_var rfl) hv))) rfl) fun z => absurd z (by decide)) rfl) (fun _ H1 e1 => s_ret ev_c fun H2 e2 => q H2 (e1.trans e2)) (fun hb => absurd hb (by decide))
    | some os =>
    obtain ⟨t, ws, rfl, ht, hp⟩ := hv
    have hwl := paired_len hp
    by_cases hg : ∀ x ∈ os, ∃ z, x = some z ∧ HalfN n z
    · obtain ⟨ys, rfl⟩ := all_strs fun x hx => let ⟨z, a, _⟩ := hg x hx; ⟨z, a⟩
      obtain rfl := strs_of hp
      have hhf : ∀ y ∈ ys, HfS n y := fun y hy => by
        obtain ⟨z, a, c⟩ := hg _ (List.mem_map.mpr ⟨y, hy, rfl⟩)
        cases a
        exact c
      have hri : bb = true ↔ Rise ys := hbb.trans ⟨fun ⟨ys', e, _, r⟩ => by rw [map_str_inj e]; exact r, fun r => ⟨ys, rfl, hhf, r⟩⟩
      refine q_when (b := false) (et_is (et_or (et_not (et_B (ev_isi (b := true) (ev_var rfl) (fun H1 e => .base (.tup (e _ _ ht))) (by decide +kernel)))) fun _ => et_not (et_B (b := true) fun G g Q1 q1 => ?_)) rfl) (fun hb H1 e1 => absurd hb (by decide)) (fun hb H1 e1 => ?_)
      · refine ⟨_, rfl, t, rfl, ⟨_, st_of (g _ _ ht)⟩, hT.ex g _ hpp, gx_it (walk_tup (xs := ys.map V.str)) (fun i H' => Ex G H') (Ex.refl _) (fun i H' _ hP => st_of (hP _ _ (g _ _ ht))) (fun i x H2 H2' hi hP hY => ?_) (fun H2 hP => q1 H2 hP)⟩
        obtain ⟨rfl, hx⟩ := hY
        rw [List.getElem?_map] at hx
        obtain ⟨a1, ha1, rfl⟩ := Option.map_eq_some_iff.mp hx
        have hh := hhf a1 (List.mem_of_getElem? ha1)
        refine ⟨rfl, (ev_andV (a := true) (b := true) (ev_call (ea_cons (ev_var rfl) ea_nil) fun G3 g3 Q3 q3 E3 => ⟨_, some (zl a1), rfl, th_S (by rw [hh.1]; omega), hT.ex (g.trans (hP.trans g3)), by rw [half_wr hh hn.1 hn.2]; exact q3⟩) fun _ => ev_is (ev_op (ev_lenS (ev_var rfl) (by show a1.cps.size ≤ 100000; have := hh.1; rw [Array.length_toList] at this; omega)) (ev_op (ev_var rfl) ev_c (rv_ixT (st_of ((g.trans hP) _ _ hBt)) (atI_nat (j := 0) rfl))) (rv_eq rfl)) ?_) H2' (Ex.refl _) _ fun H3 e3 => ⟨_, rfl, fun _ => hP.trans e3, fun z => absurd rfl z⟩⟩
        congr 1
        refine decide_eq_true ?_
        have := hh.1
        rw [Array.length_toList] at this
        show V.int (a1.cps.size : Int) = V.int (n : Int)
        rw [this]
      · exact c_call (ea_cons (ev_var rfl) ea_nil) fun H2 e2 => ⟨t, ys, bb, rfl, st_of ((e1.trans e2) _ _ ht), hri, hT.ex (e1.trans e2), fun H3 e3 => q H3 (e1.trans (e2.trans e3))⟩
    · have hbf : bb = false := by
        cases bb with
        | false => rfl
        | true =>
          obtain ⟨ys, rfl, hh, _⟩ := hbb.mp rfl
          refine absurd (fun x hx => ?_) hg
          obtain ⟨y, hy, rfl⟩ := List.mem_map.mp hx
          exact ⟨_, rfl, hh y hy⟩
      rw [hbf] at q
      refine q_when (b := true) (et_is (et_or (a := false) (b := true) (et_is (et_not (et_B (ev_isi (b := true) (ev_var rfl) (fun H1 e => .base (.tup (e _ _ ht))) (by decide +kernel)))) rfl) fun _ => et_is (et_not (et_B (b := false) fun G g Q1 q1 => ?_)) rfl) rfl) (fun hb H1 e1 => s_ret ev_c fun H2 e2 => q H2 (e1.trans e2)) (fun hb H1 e1 => absurd hb (by decide))
      refine ⟨_, rfl, t, rfl, ⟨_, st_of (g _ _ ht)⟩, hT.ex g _ hpp, gx_it (walk_tup (xs := ws)) (fun i H' => Ex G H' ∧ ∀ j < i, ∀ x, os[j]? = some x → ∃ z, x = some z ∧ HalfN n z) ⟨Ex.refl _, fun j h => absurd h (Nat.not_lt_zero _)⟩ (fun i H' _ hP => st_of (hP.1 _ _ (g _ _ ht))) (fun i x H2 H2' hi hP hY => ?_) (fun H2 hP => ?_)⟩
      · obtain ⟨rfl, hx⟩ := hY
        obtain ⟨oi, hoi, hth⟩ := paired_get hp i x hx
        have th2 := hth.ex (g.trans hP.1)
        cases oi with
        | none =>
          exact ⟨rfl, (ev_andV (a := false) (b := false) (ev_call (ea_cons (ev_var rfl) ea_nil) fun G3 g3 Q3 q3 E3 => ⟨_, none, rfl, th2.ex g3, hT.ex (g.trans (hP.1.trans g3)), q3⟩) fun z => absurd z (by decide)) H2' (Ex.refl _) _ fun H3 e3 => ⟨_, rfl, fun z => absurd z (by decide), fun _ => q1 H3 (hP.1.trans e3)⟩⟩
        | some z =>
          obtain ⟨rfl, hzl⟩ := id th2
          refine ⟨rfl, (ev_andV (a := wr (some z) [110, 121]) (b := decide (z.length = n)) (ev_call (ea_cons (ev_var rfl) ea_nil) fun G3 g3 Q3 q3 E3 => ⟨_, some z, rfl, th2.ex g3, hT.ex (g.trans (hP.1.trans g3)), q3⟩) fun _ => ev_is (ev_op (ev_lenS (ev_var rfl) (by rw [tx_len]; omega)) (ev_op (ev_var rfl) ev_c (rv_ixT (st_of ((g.trans hP.1) _ _ hBt)) (atI_nat (j := 0) rfl))) (rv_eq rfl)) ?_) H2' (Ex.refl _) _ fun H3 e3 => ⟨_, rfl, fun w => ⟨hP.1.trans e3, fun j hj x2 hx2 => ?_⟩, fun _ => q1 H3 (hP.1.trans e3)⟩⟩
          · rw [tx_len]
            exact congrArg V.bl (decide_eq_decide.mpr ⟨fun w => by have := V.int.inj w; omega, fun w => by rw [w]⟩)
          · rcases Nat.lt_or_eq_of_le (Nat.le_of_lt_succ hj) with h | h
            · exact hP.2 j h x2 hx2
            · subst h
              rw [hoi] at hx2
              cases hx2
              have w : (wr (some z) [110, 121] && decide (z.length = n)) = true := w
              rw [Bool.and_eq_true, decide_eq_true_iff] at w
              exact ⟨z, rfl, wr_half w.1 w.2⟩
      · refine absurd (fun x hx => ?_) hg
        obtain ⟨j, hj, rfl⟩ := List.getElem_of_mem hx
        exact hP.2 j (by rw [hwl]; exact hj) _ (List.getElem?_eq_getElem hj)
def sp_names_in (K : PySem.W.Frag) (ts : List Addr) : Sp := fun vs H Q _ => ∃ (bv : V) (n : Nat) (rs : List (List Nat × List Nat)), vs = [bv] ∧ BookF K H bv n rs ∧ rs.length ≤ 100 ∧ RetL ((srt (rs.map fun p => tx p.1)).map V.str) H Q
theorem ok_names_in {ts : List Addr} (D : Df K mg "names_in" st_names_in ["book"]) (m_sorted : mg "sorted" = none) : At P w K mg base "names_in" st_names_in 1 ["book"] (sp_names_in K ts) := by
  obtain ⟨f, fd, F, b, g⟩ := D
  refine ⟨f, fd, F, b, g, F.ok sc_names_in (fun vs H Q E h => ?_) (fun cdv A outer s H vs Q E hr h => ?_)⟩
  · obtain ⟨bv, n, rs, rfl, _⟩ := h
    rfl
  · obtain ⟨bv, n, rs, rfl, hB, hl, q⟩ := h
    refine ⟨_, (pss_one (ps_ret (pe_callB (Hid.cr_sortLS hr.units) (by rfl) m_sorted (by decide +kernel) (pa_cons (pe_lc (own := [("name", 1), ("row", 2)]) (g := gTup K 2 (gCons (gName 1) (gCons (gName 2) gNil))) (by rfl) sc_names_in.nd (pi_tup (pe_ix ix_tup (pv 0) pe_int (fun _ _ => rfl))) (blkOk_by (N := ["book", "name", "row"]) (sc := defScope st_names_in) (by decide +kernel)) (fun _ _ _ _ _ => (pg_tup (by rfl) (pgs_cons (pg_name (i := 1) sc_names_in.nd rfl (.inl rfl)) (pgs_cons (pg_name (i := 2) sc_names_in.nd rfl (.inl rfl)) pgs_nil)))) (fun _ _ _ _ _ => pts_nil) (fun _ _ _ _ _ => (pv 1))) pa_nil)))), ?_⟩
    obtain ⟨tb, b, vs, rfl, hBt, hBb, hBp⟩ := id hB
    have hvl : vs.length = rs.length := paired_len hBp
    refine s_retL (el_sortLS (el_isL (el_lcPT (K := K) (xs := vs) (fun i => V.str (tx (rs.getD i ([], [])).1)) (ev_op (ev_var rfl) ev_c (rv_ixT (st_of hBt) (atI_nat (j := 1) rfl))) hBb.sq (by omega) (fun _ _ => rfl) (fun m x hx => ?_)) ?_)) fun p H1 np e1 h1 => q p H1 np e1 h1
    · obtain ⟨z, hz, t9, rfl, c9⟩ := paired_get hBp m x hx
      refine ⟨t9, _, _, rfl, st_of c9, ?_⟩
      rw [List.getD_eq_getElem?_getD, hz]
      exact ev_var rfl
    · rw [hvl, List.map_map]
      conv => rhs; rw [← map_range_getD' rs ([], [])]
      rw [List.map_map]
      rfl
def sp_is_order (K : PySem.W.Frag) (ts : List Addr) : Sp := fun vs H Q _ => ∃ (bv : V) (n : Nat) (rs : List (List Nat × List Nat)) (v : V) (o : Option (List (Option (List Nat)))) (b : Bool), vs = [bv, v] ∧ BookF K H bv n rs ∧ BookOk n rs ∧ YgOk K H v o ∧ lenO o ≤ 100 ∧ (b = true ↔ ordO rs o) ∧ TB ts H ∧ RetV (.bl b) H Q
theorem ok_is_order {cc pp : Addr} {ts : List Addr} (D : DfC K mg "is_order" st_is_order ["book", "thing"] cc) (B_is_order : GxR.TabB base mg cc pp) (hpp : pp ∈ ts) (m_all : mg "all" = none) (m_isinstance : mg "isinstance" = none) (m_tuple : mg "tuple" = none) (m_sorted : mg "sorted" = none) (A_is_name : At P w K mg base "is_name" st_is_name 3 ["thing"] (sp_is_name K ts)) (A_names_in : At P w K mg base "names_in" st_names_in 1 ["book"] (sp_names_in K ts)) : At P w K mg base "is_order" st_is_order 5 ["book", "thing"] (sp_is_order K ts) := by
  obtain ⟨f, fd, F, b, g, hcd⟩ := D
  obtain ⟨f_is_name, fd_is_name, F_is_name, b_is_name, g_is_name, G_is_name⟩ := A_is_name
  obtain ⟨f_names_in, fd_names_in, F_names_in, b_names_in, g_names_in, G_names_in⟩ := A_names_in
  refine ⟨f, fd, F, b, g, okC F hcd sc_is_order (fun vs H Q E h => ?_) (fun A outer s H vs Q E hr h => ?_)⟩
  · obtain ⟨bv, n, rs, v, o, b, rfl, _⟩ := h
    rfl
  · obtain ⟨bv, n, rs, v, o, bb, rfl, hB, hBk, hv, hlo, hbb, hT, q⟩ := h
    refine ⟨_, (pss_cons (ps_if (PW.pt (pw_or (pt_not (pt_val (pe_callB call_isi (by rfl) m_isinstance (by decide +kernel) (pa_cons (pv 1) (pa_cons (pe_bltn (v := .ty "tuple") (by rfl) m_tuple (by decide +kernel) rfl) pa_nil))))) (pw_or1 (pt_not (pt_val (Hid.pe_allG (own := [("name", 2)]) (gg := gName 2) hr rfl sc_is_order.nd (by rfl) m_all B_is_order rfl (pi_tup (pv 1)) (blkOk_by (N := ["book", "thing", "name"]) (sc := defScope st_is_order) (by decide +kernel)) (fun _ _ _ _ _ _ _ _ => (pg_name (i := 2) sc_is_order.nd rfl (.inl rfl))) (fun _ _ _ _ _ _ _ _ hr => (pe_call G_is_name (hr.mono (by decide)) (by rfl) g_is_name F_is_name.kp b_is_name .nil pass0 (pa_cons (pv 2) pa_nil)))))))))
      (pss_one (ps_ret pe_bl))
      pss_nil)
      (pss_one (ps_ret (pe_cmpR (op_eqD hr.units) (pe_callB (Hid.cr_sortedT hr.units) (by rfl) m_sorted (by decide +kernel) (pa_cons (pv 1) pa_nil)) (pe_call G_names_in (hr.mono (by decide)) (by rfl) g_names_in F_names_in.kp b_names_in .nil pass0 (pa_cons (pv 0) pa_nil)) (nomark _))))), ?_⟩
    cases o with
    | none =>
      have hbf : bb = false := by
        cases bb with
        | false => rfl
        | true => exact (hbb.mp rfl).elim
      rw [hbf] at q
      exact q_when (b := true) (et_is (et_or (a := true) (b := true) (et_is (b := true) (et_not (et_B (ev_isU (ev_var rfl) hv))) rfl) fun z => absurd z (by decide)) rfl) (fun _ H1 e1 => s_ret ev_c fun H2 e2 => q H2 (e1.trans e2)) (fun hb => absurd hb (by decide))
    | some os =>
    obtain ⟨t, ws, rfl, ht, hp⟩ := hv
    have hwl := paired_len hp
    have hos : os.length ≤ 100 := hlo
    by_cases hg : ∀ x ∈ os, ∃ z, x = some z ∧ NameL z
    · obtain ⟨ys, rfl⟩ := all_strs fun x hx => let ⟨z, a, _⟩ := hg x hx; ⟨z, a⟩
      obtain rfl := strs_of hp
      rw [List.length_map] at hos
      have hnm : ∀ y ∈ ys, NameL (zl y) := fun y hy => by
        obtain ⟨z, a, c⟩ := hg _ (List.mem_map.mpr ⟨y, hy, rfl⟩)
        cases a
        exact c
      have hbp : bb = decide (srt ys = srt (rs.map fun p => tx p.1)) := by
        rw [Bool.eq_iff_iff, decide_eq_true_iff, srt_eq]
        exact hbb.trans ⟨fun ⟨ys', e, r⟩ => by rw [map_str_inj e]; exact r, fun r => ⟨ys, rfl, r⟩⟩
      refine q_when (b := false) (et_is (et_or (et_not (et_B (ev_isi (b := true) (ev_var rfl) (fun H1 e => .base (.tup (e _ _ ht))) (by decide +kernel)))) fun _ => et_not (et_B (b := true) fun G g Q1 q1 => ?_)) rfl) (fun hb H1 e1 => absurd hb (by decide)) (fun hb H1 e1 => ?_)
      · refine ⟨_, rfl, t, rfl, ⟨_, st_of (g _ _ ht)⟩, hT.ex g _ hpp, gx_it (walk_tup (xs := ys.map V.str)) (fun i H' => Ex G H') (Ex.refl _) (fun i H' _ hP => st_of (hP _ _ (g _ _ ht))) (fun i x H2 H2' hi hP hY => ?_) (fun H2 hP => q1 H2 hP)⟩
        obtain ⟨rfl, hx⟩ := hY
        rw [List.getElem?_map] at hx
        obtain ⟨a1, ha1, rfl⟩ := Option.map_eq_some_iff.mp hx
        have hz := hnm a1 (List.mem_of_getElem? ha1)
        exact ⟨rfl, c_call (ea_cons (ev_var rfl) ea_nil) fun H3 e3 => ⟨_, some (zl a1), rfl, th_S (by have := hz.1; omega), hT.ex (g.trans (hP.trans e3)), fun H4 e4 => ⟨_, rfl, fun _ => hP.trans (e3.trans e4), fun w => absurd (name_wr hz) w⟩⟩⟩
      · have sm : ∀ l : List Str, (∀ y ∈ l, NameL (zl y)) → SeqAt.shaped (.list (l.map PyData.str)) = true := fun l hl => by
          have : SeqAt.shaped (.list (((l.map zl).map tx).map PyData.str)) = true := shaped_strs fun x hx c hc => by
            obtain ⟨y, hy, rfl⟩ := List.mem_map.mp hx
            have := (hl y hy).2 c hc
            omega
          rw [tx_zl] at this
          exact this
        have s1 := sm (srt ys) fun y hy => hnm y (mem_srt.mp hy)
        have s2 := sm (srt (rs.map fun p => tx p.1)) fun y hy => by
          obtain ⟨p, hpp2, rfl⟩ := List.mem_map.mp (mem_srt.mp hy)
          rw [zl_tx]
          exact hBk.hm p hpp2
        refine s_ret (v := .bl bb) (ev_is (ev_opLL (xs := (srt ys).map V.str) (ys := (srt (rs.map fun p => tx p.1)).map V.str) (el_cb (ea_cons (ev_var rfl) ea_nil) fun G g Q1 q1 => ⟨t, ys, rfl, st_of ((e1.trans g) _ _ ht), by omega, fun p hp => q1 p _ hp (Ex.new hp) upd_same⟩) (el_call (ea_cons (ev_var rfl) ea_nil) fun G g Q1 q1 E1 => ⟨bv, n, rs, rfl, hB.ex (e1.trans g), by have := hBk.hl; omega, fun p G2 np g2 h2 => q1 p G2 np g2 h2⟩) fun p p2 G hp hp2 g G1 g1 Q1 q1 => ⟨.list ((srt ys).map PyData.str), .list ((srt (rs.map fun p => tx p.1)).map PyData.str), .lst (sq_of (g1 _ _ hp)) (strs_dp _), .lst (sq_of (g1 _ _ hp2)) (strs_dp _), s1, s2, q1 G1 (Ex.refl _)⟩) (by rw [eqv_strD, hbp])) fun H2 e2 => q H2 (e1.trans e2)
    · have hbf : bb = false := by
        cases bb with
        | false => rfl
        | true =>
          obtain ⟨ys, rfl, hpm⟩ := hbb.mp rfl
          refine absurd (fun x hx => ?_) hg
          obtain ⟨y, hy, rfl⟩ := List.mem_map.mp hx
          obtain ⟨p, hp2, rfl⟩ := List.mem_map.mp (hpm.mem_iff.mp hy)
          exact ⟨_, rfl, by rw [zl_tx]; exact hBk.hm p hp2⟩
      rw [hbf] at q
      refine q_when (b := true) (et_is (et_or (a := false) (b := true) (et_is (et_not (et_B (ev_isi (b := true) (ev_var rfl) (fun H1 e => .base (.tup (e _ _ ht))) (by decide +kernel)))) rfl) fun _ => et_is (et_not (et_B (b := false) fun G g Q1 q1 => ?_)) rfl) rfl) (fun hb H1 e1 => s_ret ev_c fun H2 e2 => q H2 (e1.trans e2)) (fun hb H1 e1 => absurd hb (by decide))
      refine ⟨_, rfl, t, rfl, ⟨_, st_of (g _ _ ht)⟩, hT.ex g _ hpp, gx_it (walk_tup (xs := ws)) (fun i H' => Ex G H' ∧ ∀ j < i, ∀ x, os[j]? = some x → ∃ z, x = some z ∧ NameL z) ⟨Ex.refl _, fun j h => absurd h (Nat.not_lt_zero _)⟩ (fun i H' _ hP => st_of (hP.1 _ _ (g _ _ ht))) (fun i x H2 H2' hi hP hY => ?_) (fun H2 hP => ?_)⟩
      · obtain ⟨rfl, hx⟩ := hY
        obtain ⟨oi, hoi, hth⟩ := paired_get hp i x hx
        have th2 := hth.ex (g.trans hP.1)
        refine ⟨rfl, c_call (ea_cons (ev_var rfl) ea_nil) fun H3 e3 => ⟨_, oi, rfl, th2.ex e3, hT.ex (g.trans (hP.1.trans e3)), fun H4 e4 => ⟨_, rfl, fun w => ⟨hP.1.trans (e3.trans e4), fun j hj x2 hx2 => ?_⟩, fun _ => q1 H4 (hP.1.trans (e3.trans e4))⟩⟩⟩
        rcases Nat.lt_or_eq_of_le (Nat.le_of_lt_succ hj) with h | h
        · exact hP.2 j h x2 hx2
        · subst h
          rw [hoi] at hx2
          cases hx2
          cases oi with
          | none => exact absurd w (by decide)
          | some z => exact ⟨z, rfl, wr_name w⟩
      · refine absurd (fun x hx => ?_) hg
        obtain ⟨j, hj, rfl⟩ := List.getElem_of_mem hx
        exact hP.2 j (by rw [hwl]; exact hj) _ (List.getElem?_eq_getElem hj)
def sp_next_step (K : PySem.W.Frag) (ts : List Addr) : Sp := fun vs H Q _ => ∃ (d k w0 : Addr) (n : Nat) (rs : List (List Nat × List Nat)) (ys ws : List Str), vs = [.ref d, .ref k, .ref w0] ∧ BookOk n rs ∧ H d = some (.dK (mergeK [] (rs.map kS))) ∧ H k = some (.lst (ys.map V.str)) ∧ H w0 = some (.lst (ws.map V.str)) ∧ Rise ys ∧ (∀ y ∈ ys, HfS n y) ∧ (∀ x ∈ ws, ∃ p ∈ rs, x = tx p.1) ∧ TB ts H ∧ (pick (rowOf rs) ys ws = none → RetV .non H Q) ∧ ∀ s, pick (rowOf rs) ys ws = some s → RetT (stV s) H Q
theorem ok_next_step {ts : List Addr} (D : Df K mg "next_step" st_next_step ["rows", "known", "waiting"]) (A_other_half : At P w K mg base "other_half" st_other_half 6 ["row", "half"] (sp_other_half K ts)) : At P w K mg base "next_step" st_next_step 7 ["rows", "known", "waiting"] (sp_next_step K ts) := by
  obtain ⟨f, fd, F, b, g⟩ := D
  obtain ⟨f_other_half, fd_other_half, F_other_half, b_other_half, g_other_half, G_other_half⟩ := A_other_half
  refine ⟨f, fd, F, b, g, F.ok sc_next_step (fun vs H Q E h => ?_) (fun cdv A outer s H vs Q E hr h => ?_)⟩
  · obtain ⟨d, k, w0, n, rs, ys, ws, rfl, _⟩ := h
    rfl
  · obtain ⟨d, k, w0, n, rs, ys, ws, rfl, hBk, hd, hk, hw, hri, hhf, hnm, hT, q1, q2⟩ := h
    refine ⟨_, (pss_cons (ps_for PassesOwn.never rfl (pi_list (pv 2)) (pg_name (i := 3) sc_next_step.nd rfl (.inl rfl))
      (pss_one (ps_for PassesOwn.never rfl (pi_list (pv 1)) (pg_name (i := 4) sc_next_step.nd rfl (.inl rfl))
      (pss_cons (ps_set (i := 5) sc_next_step.nd rfl (.inl rfl) (pe_call G_other_half (hr.mono (by decide)) (by rfl) g_other_half F_other_half.kp b_other_half .nil pass0 (pa_cons (pe_dget (Hid.u1 hr) (pv 0) (pv 3) (fun _ _ => rfl)) (pa_cons (pv 4) pa_nil))))
      (pss_one (ps_if (pt_cmpR op_notN (pv 5) pe_non (nomark _))
      (pss_one (ps_ret (pe_tup (pa_cons (pv 3) (pa_cons (pv 4) (pa_cons (pv 5) pa_nil))))))
      pss_nil))))))
      (pss_one (ps_ret pe_non))), ?_⟩
    refine q_forLn (ev_var rfl) (sq_of hw) (fun i σ' H' => ∃ y3 y4 y5 : Option V, σ' = [some (.ref d), some (.ref k), some (.ref w0), y3, y4, y5] ∧ Ex H H' ∧ ∀ (j : Nat) y, j < i → ws[j]? = some y → fit1 (rowOf rs y) ys = none) (fun H1 e1 => ⟨_, _, _, rfl, e1, fun j y hj => absurd hj (Nat.not_lt_zero _)⟩) (fun i σ' H' _ hP => ?_) (fun i x σ' H1 hx hP => ?_) (fun σ' H1 hP => ?_)
    · obtain ⟨y3, y4, y5, _, e1, _⟩ := hP
      exact sq_of (e1 _ _ hw)
    · obtain ⟨y3, y4, y5, rfl, e1, hno⟩ := hP
      rw [List.getElem?_map] at hx
      obtain ⟨wx, hwx, rfl⟩ := Option.map_eq_some_iff.mp hx
      obtain ⟨p, hp, rfl⟩ := hnm wx (List.mem_of_getElem? hwx)
      have hrow : RowL (rowOf rs (tx p.1)) := by rw [rowOf_in hBk.hd p hp]; exact (hBk.hr p hp).1
      have hrl : (rowOf rs (tx p.1)).length = n := by rw [rowOf_in hBk.hd p hp]; exact (hBk.hr p hp).2
      refine s_forLn (ev_var rfl) (sq_of (e1 _ _ hk)) (fun m σ' H' => ∃ y4 y5 : Option V, σ' = [some (.ref d), some (.ref k), some (.ref w0), some (.str (tx p.1)), y4, y5] ∧ Ex H H' ∧ ∀ (j : Nat) z, j < m → ys[j]? = some z → fitsO (rowOf rs (tx p.1)) (some (zl z)) = false) (fun H2 e2 => ⟨_, _, rfl, e1.trans e2, fun j y hj => absurd hj (Nat.not_lt_zero _)⟩) (fun m σ' H' _ hP => ?_) (fun m x σ' H2 hx hP => ?_) (fun σ' H2 hP => ?_)
      · obtain ⟨y4, y5, _, e2, _⟩ := hP
        exact sq_of (e2 _ _ hk)
      · obtain ⟨y4, y5, rfl, e2, hnf⟩ := hP
        rw [List.getElem?_map] at hx
        obtain ⟨hz, hhz, rfl⟩ := Option.map_eq_some_iff.mp hx
        have hh := hhf hz (List.mem_of_getElem? hhz)
        have hz8 : (zl hz).length ≤ 1000 := by rw [hh.1, ← hrl]; have := hrow.1; omega
        refine q_asg (v := otherO (rowOf rs (tx p.1)) (some (zl hz))) (ev_call (ea_cons (ev_dget (ev_var rfl) (ev_var rfl) (fun G g => book_get hBk.hd ((e2.trans g) _ _ hd) hp)) (ea_cons (ev_var rfl) ea_nil)) fun G g Q3 q3 E3 => ⟨rowOf rs (tx p.1), _, some (zl hz), rfl, hrow, th_S hz8, hT.ex (e2.trans g), q3⟩) fun H3 e3 => ?_
        cases hf : fitsO (rowOf rs (tx p.1)) (some (zl hz)) with
        | false =>
          rw [otherO_no hf]
          refine s_when (b := false) (et_is (et_test (ev_op (ev_var rfl) ev_c rv_notN)) (by simp)) (fun hb H4 e4 => absurd hb (by decide)) (fun hb H4 e4 => ⟨_, _, rfl, e2.trans (e3.trans e4), fun j z hj hjz => ?_⟩)
          rcases Nat.lt_succ_iff_lt_or_eq.mp hj with hj | rfl
          · exact hnf j z hj hjz
          · rw [hhz] at hjz
            cases hjz
            exact hf
        | true =>
          rw [otherO_yes hf]
          have hpk : pick (rowOf rs) ys ws = some (stp (rowOf rs) (tx p.1) hz) := pick_at hwx hno hz (by rw [← fit1_rise hri]; exact find_first hhz hf hnf)
          refine s_when (b := true) (et_is (et_test (ev_op (ev_var rfl) ev_c rv_notN)) (by simp)) (fun hb H4 e4 => ?_) (fun hb H4 e4 => absurd hb (by decide))
          exact s_retU (xs := stV (stp (rowOf rs) (tx p.1) hz)) (eu_tup (ea_cons (ev_var rfl) (ea_cons (ev_var rfl) (ea_cons (ev_var rfl) ea_nil))) (by show 3 ≤ 100000; decide)) fun p5 H5 np5 e5 h5 => q2 _ hpk p5 H5 (e2.trans (e3.trans (e4.trans e5))) h5
      · obtain ⟨y4, y5, rfl, e2, hnf⟩ := hP
        refine ⟨_, _, _, rfl, e2, fun j y hj hjy => ?_⟩
        rcases Nat.lt_succ_iff_lt_or_eq.mp hj with hj | rfl
        · exact hno j y hj hjy
        · rw [hwx] at hjy
          cases hjy
          rw [← fit1_rise hri, List.find?_eq_none]
          intro z hz
          obtain ⟨j, hj, rfl⟩ := List.getElem_of_mem hz
          rw [List.length_map] at hnf
          simp [hnf j _ hj (List.getElem?_eq_getElem hj)]
    · obtain ⟨y3, y4, y5, rfl, e1, hno⟩ := hP
      rw [List.length_map] at hno
      exact s_ret ev_c fun H2 e2 => q1 (pick_none fun j y hj => hno j y (List.getElem?_eq_some_iff.mp hj).1 hj) H2 (e1.trans e2)
end
end Hid

namespace Hid
open PySem PySem.Spec PyProof.Rows L2
/-! an exception kept as a value behind its suite -/
def ExcH (a : Addr) (cls : Value) (d : Option Addr) (h : Heap) : Prop := ∃ oe vs, h.get? a = some oe ∧ Zc cls d oe ∧ oe.data = .fields vs
def ExcX (a : Addr) (cls : Value) (d : Option Addr) : HO := .ext (ExcH a cls d)
theorem excX_ok {Pr : Program} {w : World} {H : Hp} {h : Heap} {a : Addr} {cls : Value} {d : Option Addr} (x : ExcH a cls d h) : ObjOk Pr w H h a (ExcX a cls d) := by
  obtain ⟨oe, vs, e, z⟩ := x
  exact ⟨⟨oe, vs, e, z⟩, ⟨_, e⟩, fun h1 h2 p k => let ⟨oe, vs, e, z⟩ := p; ⟨oe, vs, k _ e, z⟩⟩
section
variable {X : Cx} {pins : List (Addr × Obj)} {σ : L2.St} {H : Hp} {s : Shared}
/-- an object that came within this def, untracked until now, is tracked -/
theorem inv_track {a : Addr} {oe : Obj} {φ : Heap → Prop} (I : Inv X ((a, oe) :: pins) σ H s) (h0 : X.s_0.heap.get? a = none) (hp : ∀ p ∈ X.pn ++ pins, p.1 ≠ a) (new : ObjOk X.prog X.w (upd H a (.ext φ)) s.heap a (.ext φ)) : Inv X pins σ (upd H a (.ext φ)) s := by
  obtain ⟨ea, na, nL, nF, nc⟩ := I.pin (a, oe) (List.mem_append_right _ List.mem_cons_self)
  have ne : ∀ {b : Addr}, b ≠ a → upd H a (.ext φ) b = H b := fun h => upd_ne h
  have nH : ∀ {b : Addr} {u : HO}, H b = some u → b ≠ a := fun {b u} e z => by rw [z, show H a = none from na] at e; cases e
  have n0 : ∀ {b : Addr} {o : Obj}, X.s_0.heap.get? b = some o → b ≠ a := fun {b o} e z => by rw [z, h0] at e; cases e
  refine ⟨I.ok, I.os, I.bare, ⟨I.base.keep, I.base.slot, fun b o e n hx => ?_, I.base.there, fun b xs e => ?_, fun b o u e => ?_, fun b ps e => ?_⟩, I.loc, I.cell, ?_, fun x c e => ?_, fun p hp' => ?_, fun b u e => ?_, I.len⟩
  · rw [ne (n0 e)]; exact I.base.free b o e n hx
  · have q := I.base.tups b xs e; rw [ne (nH q)]; exact q
  · have q := I.base.frzs b o u e; rw [ne (nH q)]; exact q
  · obtain ⟨more, q⟩ := I.base.tbls b ps e; exact ⟨more, by rw [ne (nH q)]; exact q⟩
  · rw [ne fun z => nL z.symm]; exact I.free
  · have hc : c ≠ a := fun z => by
      obtain ⟨v, o, e1, e2⟩ := I.cell x c e
      rw [z] at e1
      have e3 : some o = some oe := e1.symm.trans ea
      cases e3
      exact nc _ e2
    rw [ne hc]; exact I.freeC x c e
  · have hpa := hp p hp'
    obtain ⟨q1, q2, q3⟩ := I.pin p ((List.mem_append.mp hp').elim (fun z => List.mem_append_left _ z) fun z => List.mem_append_right _ (List.mem_cons_of_mem _ z))
    exact ⟨q1, by rw [ne hpa]; exact q2, q3⟩
  · by_cases hb : b = a
    · subst hb
      rw [upd_same] at e
      cases e
      exact new
    · rw [ne hb] at e
      exact (I.hok b u e).stay (fun c v _ q => q) (fun c q => by rw [ne (nH q)]; exact q) fun c xs q => by rw [ne (nH q)]; exact q
end
/-- what 'except x as n' wishes, the exception tracked behind it -/
def wKeep (K : PySem.W.Frag) (c : Value) (i : Nat) (ts : Addr → Value → Option Addr → TS) (Wout : WX) (D : Ends) : WX := fun cls d σ H =>
  ∃ b, PySem.W.exmOne K cls c = some b ∧ (b = true → ∀ a, H a = none → ts a cls d { nx := fun σ' H' => D.nx (σ'.set i none) (upd H' a (ExcX a cls d)), rt := fun _ _ => False, bk := fun _ _ => False, ct := fun _ _ => False } (σ.set i (some (.ref a))) H) ∧ (b = false → Wout cls d σ H)
section
variable {X : Cx} {x n : Str} {c : Value} {i : Nat} {body suite : List Stmt} {b₀ : Stmt} {np pos pos' : Pos} {tb : WX → TS} {ts : Addr → Value → Option Addr → TS} {Wout : WX}
theorem ps_try_keep (hs : X.stack = X.env :: X.outer) (hf : X.env.frame = some X.env.locals) (hex : X.ex = []) (hN : X.N.Nodup) (hi : X.N[i]? = some n) (hln : X.env.kindOf n = some .local) (hc : Names X x c) (tk : Takes X Wout)
    (hb : ∀ (W : WX) (pn : List (Addr × Obj)) (xe : Value → Shared → Prop), Takes (X.tr pn xe) W → PassesOwn (model X.prog X.w) X.A X.env xe → PSs (X.tr pn xe) body (tb W))
    (hsu : ∀ (a : Addr) (oe : Obj) (cls : Value) (d : Option Addr) (pn : List (Addr × Obj)), Zc cls d oe → (∃ vs, oe.data = .fields vs) → PSs (X.suite a ((a, oe) :: pn)) (b₀ :: suite) (ts a cls d)) :
    PS X (.Try body [.ExceptHandler (some (.Name x np)) (some n) (b₀ :: suite) pos'] [] [] pos) (fun D σ H => tb (wKeep X.K c i ts Wout D) D σ H) := by
  refine ⟨fun pins s σ H D I h => ?_⟩
  have ok := I.ok
  have hfr : X.A.frames = some (X.env :: X.outer) := by rw [ok.frames, hs]
  have hloc : Loc X.env.scope n := .inl hln
  refine wpAny_Try_except (wpAny_mono ((hb (wKeep X.K c i ts Wout D) (X.pn ++ pins) (fun e s₁ => wpAny (model X.prog X.w) X.A (noteFrame e X.env) (fun _ s₂ => wpAny (model X.prog X.w) X.A (setFlight e none) (fun _ s₃ =>
    wpAny (model X.prog X.w) X.A (handleBy e X.env [.ExceptHandler (some (.Name x np)) (some n) (b₀ :: suite) pos']) (SP X pins D) X.xe s₃) X.xe s₂) X.xe s₁) (fun u s' xx => ?_) PassesOwn.looking).run [] s σ H D (I.toTry _) h) (fun f s1 hsp => ?_) (fun e s1 he => he))
  · obtain ⟨a, B, sI, pins', σ', H', cls, d, rfl, J', nb, up, sky, na, os, ag, b, hb1, hyes, hno⟩ := xx
    have J : Inv X pins σ' H' sI := J'.ofTry ok
    have sky' : Sky B (X.env :: X.outer) a (Zc cls d) X.env.locals s'.heap := by rw [← hs]; exact sky
    show wpAny (model X.prog X.w) X.A (noteFrame (.ref a) X.env) _ _ (s' : Shared)
    refine Sky.land Zc.steady hfr hf sky' fun h3 fl3 up3 => ?_
    have J3 : Inv X pins σ' H' { s' with heap := h3 } := J.landed nb fl3.1 (up.trans up3) os ag
    obtain ⟨oe3, vs3, he3, hz3, hd3⟩ := fl3.there
    have nfr : a ∉ frs (X.env :: X.outer) := fun hm => by
      obtain ⟨_, o', e', hnf⟩ := fl3.2.2.1.mem hm
      rw [he3] at e'; cases e'
      exact hnf _ hd3
    have nL : a ≠ X.env.locals := fun z => nfr (List.mem_filterMap.mpr ⟨X.env, List.mem_cons_self, by rw [hf, z]⟩)
    have nF : a ∉ X.fs := fun hm => by
      obtain ⟨e, he, q⟩ := List.mem_filterMap.mp hm
      exact nfr (List.mem_filterMap.mpr ⟨e, List.mem_cons_of_mem _ he, q⟩)
    have hBa : B.get? a = none := fl3.2.1
    have hI : sI.heap.get? a = none := by
      cases q : sI.heap.get? a with
      | none => rfl
      | some o => rw [nb a o q (by rw [hs]; exact nfr)] at hBa; cases hBa
    have h00 : X.s_0.heap.get? a = none := by
      cases q : X.s_0.heap.get? a with
      | none => rfl
      | some o =>
        obtain ⟨o', e'⟩ := J.base.there a o q (by rw [hex]; simp)
        rw [hI] at e'; cases e'
    have hpa : ∀ p ∈ X.pn ++ pins, p.1 ≠ a := fun p hp z => by
      have e := (J.pin p hp).1
      rw [z, hI] at e; cases e
    have S3 := J3.suite he3 hd3 na nL nF
    refine wpAny_handleBy_cons (codeAny_handlers_test ?_) (by intro q; cases q)
    have LT : PySem.W.Looks (model X.prog X.w) h3 (typeOf (.ref a)) cls := fun A Q E s k q => wpAny_typeOf_ref (k _ _ he3) (by rw [hz3.1]; exact q)
    have LM := PySem.W.exm_one (M := model X.prog X.w) (J3.kIn) LT hb1
    have test : ∀ {Q : Value → Shared → Prop} {E : Value → Shared → Prop}, Q c { s' with heap := h3 } → wpAny (model X.prog X.w) (X.A.mark (some (.ref a))) (eval (.Name x np) X.env) Q E { s' with heap := h3 } := fun {Q E} q => by
      obtain ⟨hg, hdbg, hm | ⟨hm, hv, hnn⟩⟩ := hc
      · exact ld_glob (X := X.suite a ((a, oe3) :: (X.pn ++ pins))) S3 hg hm q hdbg
      · exact ld_blt (X := X.suite a ((a, oe3) :: (X.pn ++ pins))) S3 hg hm hv q hnn hdbg
    refine test (LM.here ?_)
    cases b with
    | true =>
      refine codeAny_handlers_suite_as (HandSPX.lands_againZ fl3 fun h4 fl4 up4 => ?_)
      have J4 : Inv X pins σ' H' { s' with heap := h4 } := J.landed nb fl4.1 ((up.trans up3).trans up4) os ag
      obtain ⟨oe4, vs4, he4, hz4, hd4⟩ := fl4.there
      have S4 := J4.suite he4 hd4 na nL nF
      refine store_ok (X := X.suite a ((a, oe4) :: (X.pn ++ pins))) (v := .ref a) S4 hN hi hloc rfl (fun s5 S5 => ?_) (.inr hln)
      refine wpAny_mono ((hsu a oe4 cls d (X.pn ++ pins) hz4 ⟨_, hd4⟩).run [] s5 _ H' _ S5 (hyes rfl a na)) (fun f s6 hsp => ?_) (fun _ _ z => False.elim z)
      cases f with
      | next =>
        obtain ⟨σ6, H6, S6, q6⟩ := hsp
        have P6 := S6.pin (a, oe4) (by rw [List.append_nil]; exact List.mem_cons_self)
        have J6 : Inv X ((a, oe4) :: pins) σ6 H6 s6 := (S6.unsuite ok).pins_of fun p hp => (List.mem_cons.mp hp).elim (fun z => by rw [z]; exact P6) fun z => (S6.unsuite ok).pin p (List.mem_append_right _ z)
        refine gone_ok J6 hN hi hln fun s7 J7 => ?_
        have P7 := J7.pin (a, oe4) (List.mem_append_right _ List.mem_cons_self)
        exact ⟨_, _, inv_track J7 h00 hpa (excX_ok ⟨oe4, vs4, P7.1, hz4, hd4⟩), q6⟩
      | brk => obtain ⟨_, _, _, q6⟩ := hsp; exact q6.elim
      | cont => obtain ⟨_, _, _, q6⟩ := hsp; exact q6.elim
      | ret u => obtain ⟨_, _, _, _, _, q6⟩ := hsp; exact q6.elim
    | false =>
      show wpAny _ X.A (handleBy (.ref a) X.env []) _ _ _
      refine wpAny_handleBy_nil ?_
      obtain ⟨k1, k2, k3, oe, vs, T, oT, ts', he, hz, hd, h1, hr⟩ := id fl3
      unfold PySem.passOn
      refine wpAny_bind (wpAny_field he hd h1 ?_)
      rw [if_neg (show ¬ ((Value.ref T == Value.none) = true) from by simp)]
      have fin : wpAny (model X.prog X.w) X.A (setFlight (.ref a) X.env.frame) (fun _ s4 => wpAny (model X.prog X.w) X.A (throw (.ref a) : Sem Flow) (SP X pins D) X.xe s4) X.xe { s' with heap := h3 } := by
        rw [hf]
        refine HandSPX.setFlight_upZ fl3 fun h4 hh4 up4 => wpAny_throw (tk _ _ ?_)
        exact ⟨a, B, sI, pins, σ', H', cls, d, rfl, J, nb, (up.trans up3).trans up4, .inr (.inr (by rw [hs]; exact hh4)), na, os, ag, hno rfl⟩
      first
        | exact wpAny_bind (wpAny_pure (wpAny_bind fin))
        | exact wpAny_bind fin
  · cases f with
    | next => obtain ⟨σ', H', J', q⟩ := hsp; exact wpAny_execs_nil ⟨σ', H', J'.ofTry ok, q⟩
    | brk => obtain ⟨σ', H', J', q⟩ := hsp; exact ⟨σ', H', J'.ofTry ok, q⟩
    | cont => obtain ⟨σ', H', J', q⟩ := hsp; exact ⟨σ', H', J'.ofTry ok, q⟩
    | ret u => obtain ⟨v, σ', H', J', r, q⟩ := hsp; exact ⟨v, σ', H', J'.ofTry ok, r, q⟩
/-- isinstance(e, c), e an exception that was kept -/
def rIsX (K : PySem.W.Frag) : List V → Hp → VK → Prop := fun xs H Q => ∃ (a D : Addr) (c : V) (cv : Value) (b : Bool), xs = [.ref a, c] ∧ H a = some (ExcX a (.ref D) none) ∧ ExcC K D ∧ (∀ u, RelV c u → u = cv) ∧ PySem.W.kitOne K (.ref D) cv = some b ∧ Q (.bl b) H
theorem call_isX {X : Cx} : CallR X (.builtin "isinstance") (rIsX X.K) := by
  intro pins s σ H xs us Q I r h
  obtain ⟨a, D, c, cv, b, rfl, ha, C, hcv, e, q⟩ := h
  cases r with
  | cons rx rr =>
    cases rr with
    | cons rt rr =>
      cases rr
      cases rx
      obtain rfl := hcv _ rt
      obtain ⟨⟨oe, vs, hget, hz, hv⟩, _⟩ := I.hok a _ ha
      have J : PySem.W.InstAt s.heap a oe D none := by
        obtain ⟨oc, od, oda, osl⟩ := oe
        obtain ⟨h1, h2⟩ := hz
        dsimp only at h1 h2 hv
        subst h1 h2 hv
        exact ⟨hget, rfl, rfl, trivial⟩
      exact PySem.W.kia_one (PySem.W.handS_kitx_exc C.hg C.hk C.hs C.hd C.ha C.hn C.ht C.hm) I.kIn J e (fun z => nomatch z) fun tk => ⟨.bl b, H, I.kept (t' := tk) fun _ _ z => z, rfl, q⟩
end
end Hid

namespace Hid
open PySem PySem.Spec PyProof.Rows L2
/-- C(e, ..), C an own exception class whose __init__ is a def of the text (its own or one above it) and lays no field -/
def tMk0 (C : Addr) (sp : Sp) (dvs : List V) (ta : TA) : L2.St → Hp → XK → Prop := fun σ H Q => ta σ H fun vs H1 => vs.length ≤ 1000 ∧ ∀ a, H1 a = none → sp (.ref a :: (vs ++ dvs)) (upd H1 a (exo a C none)) (fun v H2 => v = .non ∧ H2 a = some (exo a C none) ∧ Q (.ref C) none (del H2 a)) (fun _ _ _ => False)
section
variable {X : Cx} {e : Expr} {es : List Expr} {ta : TA} {p pos : Pos}
theorem mk_none {pins : List (Addr × Obj)} {σ : L2.St} {H1 H2 : Hp} {Q : XK} {hp hp2 h2 : Heap} {g1 g2 : Array GenState} {d1 d2 : Drawn} {t1 t2 : Nat} {os1 os2 : OsState} {a C : Addr} (T : Raises X (.ref C)) (I1 : Inv X pins σ H1 ⟨hp, g1, d1, t1, os1⟩)
    (ha : hp.objs.size ≤ a) (k : ∀ b o, hp.get? b = some o → hp2.get? b = some o) (un : Un (frs X.stack) [] (upd H1 a (exo a C none)) H2 hp2 h2) (hok : HOk X.prog X.w H2 h2) (ho : os2 = os1) (hb : AllBare g2)
    (ea : H2 a = some (exo a C none)) (q : Q (.ref C) none (del H2 a)) : MkP X pins σ Q (.ref a) ⟨h2, g2, d2, t2, os2⟩ := by
  obtain ⟨t0, hoe⟩ := exo_at hok ea
  have hn : H1 a = none := I1.hok.fresh ha
  obtain ⟨G, gIn, gOut⟩ := restrict h2 fun b => decide (b ≠ a)
  have gk : ∀ b, b ≠ a → G.get? b = h2.get? b := fun b hb => gIn b (decide_eq_true hb)
  have ge : G.get? a = none := gOut a (by simp)
  have nh : ∀ {b : Addr} {o : Obj}, hp.get? b = some o → b ≠ a := fun {b o} z => Nat.ne_of_lt (Nat.lt_of_lt_of_le (Heap.lt_size z) ha)
  have up : ∀ {b : Addr}, b ≠ a → H1 b = none → upd H1 a (exo a C none) b = none := fun {b} hb n => (upd_ne hb).trans n
  have U : Un (frs X.stack) [] H1 (del H2 a) hp G := by
    refine ⟨fun b o z n hf hx => ?_, fun b o z n hf hx => ?_, fun b o z n hx => ?_, fun b o z hx => ?_, fun b xs z => ?_, fun b o v z => ?_, fun b ps z => ?_⟩
    · exact (gk b (nh z)).trans (un.keep b o (k b o z) (up (nh z) n) hf hx)
    · obtain ⟨sl, w⟩ := un.slot b o (k b o z) (up (nh z) n) hf hx
      exact ⟨sl, (gk b (nh z)).trans w⟩
    · exact (del_ne (nh z)).trans (un.free b o (k b o z) (up (nh z) n) hx)
    · obtain ⟨o', w⟩ := un.there b o (k b o z) hx
      exact ⟨o', (gk b (nh z)).trans w⟩
    · exact (del_ne (ne_of_none z hn)).trans (un.tups b xs ((upd_ne (ne_of_none z hn)).trans z))
    · exact (del_ne (ne_of_none z hn)).trans (un.frzs b o v ((upd_ne (ne_of_none z hn)).trans z))
    · obtain ⟨more, w⟩ := un.tbls b ps ((upd_ne (ne_of_none z hn)).trans z)
      exact ⟨more, (del_ne (ne_of_none z hn)).trans w⟩
  have hok3 : HOk X.prog X.w (del H2 a) G := fun b o z => by
    have hba : b ≠ a := fun e => by rw [e, del_same] at z; cases z
    rw [del_ne hba] at z
    have noa : ∀ {c : Addr}, H2 c = some (.own b) → c ≠ a := fun {c} hc => at_ne ea hc exo_own
    refine (hok b o z).stay (fun c v hc y => ?_) (fun c hc => (del_ne (noa hc)).trans hc) fun c xs hc => (del_ne (at_ne ea hc exo_tup)).trans hc
    refine (gk c ?_).trans y
    rcases hc with hc | hc
    · rw [hc]; exact hba
    · exact noa hc
  have J : Inv X pins σ (del H2 a) ⟨G, g2, d2, t2, os2⟩ := I1.call' (ch := []) ho U hok3 hb fun b z => nomatch z
  refine ⟨a, _, _, ⟨G, g2, d2, t2, os2⟩, _, .ref C, none, rfl, J, fun b o z => ?_, ge, hoe, ⟨rfl, rfl⟩, rfl, rfl, del_same, rfl, hb, T, q⟩
  by_cases hba : b = a
  · rw [hba, ge] at z; cases z
  · exact (gk b hba).symm.trans z
theorem pmk_none {CX : CXT} {x : Str} {C fI : Addr} {k : Nat} {fd : FuncData} {ps : List Str} {sp : Sp} {ds : List Value} {dvs : List V} (T : OexC X.K C) (iC : PySem.W.findIn X.K (.ref C) "__init__" = some (some (.ref fI))) (tI : PySem.W.typeIn X.K (.ref fI) = some (.type "function"))
    (F1 : FnOk X.prog X.w X.K X.mg X.base CX k fI fd ps sp) (hr : Room (k + 1) X.A) (hb : Binds X.K fd ps ds) (hd : Vals dvs ds) (hx : Passes CX X (fun _ _ _ => False)) (hg : Gl X x) (hm : X.mg x = some (.ref C)) (ha : PA X (e :: es) ta)
    (hdb : (x == ("__debug__" : Str)) = false := by decide) (he : starEach (e :: es) X.env = (false, eval e X.env) :: starEach es X.env := by rfl) (hpl : (backTo pos (starEach es X.env)).any (·.1) = false := by rfl) :
    PMk X (.Call (.Name x p) (e :: es) [] pos) (tMk0 C sp dvs ta) := by
  intro pins s σ H Q I h
  obtain ⟨nm, q, N, bs, bm, sn, sub, ab, col, dd, k0, k1, k2, k3, k5, hC, hbm⟩ := T.cls
  refine wpAny_Call_Name_kw (ld_glob I hg hm (PySem.W.callWith_K (h₀ := X.base) I.ok.mod.kin T.kC (thn (ha.run pos pins s σ H _ I h) fun us s1 ⟨vs, H1, I1, r1, hz, q1⟩ => ⟨I1.kIn, ?_⟩) he hpl) hdb)
  show wpAny _ _ (call (.ref C) us) _ _ s1
  obtain ⟨hp, g, dr, tk, os⟩ := s1
  have hsz : hp.objs.size ≤ hp.objs.size + 1 := Nat.le_succ _
  have hq := q1 (hp.objs.size + 1) (I1.hok.fresh hsz)
  have kk : ∀ b o, hp.get? b = some o → ((hp.push (PySem.W.kdv_tup us)).push (PySem.HandSPX.excO C hp.objs.size)).get? b = some o := fun b o e => Heap.get?_push_of_some _ (Heap.get?_push_of_some _ e)
  have hget : ((hp.push (PySem.W.kdv_tup us)).push (PySem.HandSPX.excO C hp.objs.size)).get? (hp.objs.size + 1) = some (PySem.HandSPX.excO C hp.objs.size) := by heap_get
  have I2 : Inv X pins σ (upd H1 (hp.objs.size + 1) (exo (hp.objs.size + 1) C none)) ⟨(hp.push (PySem.W.kdv_tup us)).push (PySem.HandSPX.excO C hp.objs.size), g, dr, tk, os⟩ := I1.laid (t' := tk) (o := exo (hp.objs.size + 1) C none) kk hsz (exo_ok hget)
  have r2 : Vals (V.ref (hp.objs.size + 1) :: (vs ++ dvs)) (Value.ref (hp.objs.size + 1) :: (us ++ ds)) := .cons rfl (r1.append hd)
  have hl : (Value.ref (hp.objs.size + 1) :: us ++ ds).length = ps.length := by
    have e := r2.length
    rw [F1.len _ _ _ _ hq] at e; exact e.symm
  have hus : us.length ≤ sizeLine := by rw [← Paired.length r1, sizeLine_eq]; omega
  refine wpAny_call (PySem.HandSPX.call_own F.excBase_ValueError (fun Y => PySem.HandSPX.refsVE_contains Y bm hbm) (I1.kIn _ _ hC) (PySem.W.looks_findIn I1.kIn iC) (fun self => PySem.W.bind_fn I1.kIn self tI) hus
    (codeAny_mono (F1.run _ X.stack _ _ ⟨Value.ref (hp.objs.size + 1) :: us, []⟩ (Value.ref (hp.objs.size + 1) :: (us ++ ds)) _ _ (fun _ _ _ => False) (hr.make C us []) (I2.env0.make C us []) (hb _ (Value.ref (hp.objs.size + 1) :: us) I2.kIn hl) r2 hq) fun r s' hq' => ?_))
  cases r with
  | error er => exact hx pins σ _ _ er s' I2 hq'
  | ok fl =>
    cases fl with
    | ret u =>
      obtain ⟨v, H2, os2, bare2, un2, hok2, rv, ev, ea, q2⟩ := hq'
      subst ev
      obtain ⟨h2, g2, d2, t2, os'⟩ := s'
      exact ⟨rv, mk_none (raises_own T.exC T.tyC) I1 hsz kk un2 hok2 os2 bare2 ea q2⟩
    | next => exact False.elim hq'
    | brk => exact False.elim hq'
    | cont => exact False.elim hq'
end
end Hid

namespace Hid
open PySem PySem.Spec PyProof.Rows L2 Evl
/-- what the written part says of a class of refusals without a field -/
structure ErrC (K : PySem.W.Frag) (mg : Str → Option Value) (x : Str) (C fI : Addr) : Prop where
  oex : OexC K C
  ini : PySem.W.findIn K (.ref C) "__init__" = some (some (.ref fI))
  glob : mg x = some (.ref C)
  exc : ExcC K C
def sp_hinit (K : PySem.W.Frag) : Sp := fun vs H Q _ => ∃ (a C : Addr) (y : V), vs = [.ref a, y] ∧ OexC K C ∧ H a = some (exo a C none) ∧ Q .non H
/-- the base's __init__ -/
def HIn (P : Program) (w : World) (K : PySem.W.Frag) (mg : Str → Option Value) (base : Heap) (fI : Addr) (fd : FuncData) : Prop :=
  Binds K fd ["self", "why"] [] ∧ PySem.W.typeIn K (.ref fI) = some (.type "function") ∧ FnOk P w K mg base CX0 1 fI fd ["self", "why"] (sp_hinit K)
/-- a def that may raise, and what it promises -/
def AtX (P : Program) (w : World) (K : PySem.W.Frag) (mg : Str → Option Value) (base : Heap) (x : Str) (st : Stmt) (n : Nat) (ps : List Str) (sp : Sp) : Prop :=
  ∃ (f : Addr) (fd : FuncData), Fun K x x st f fd ∧ Binds K fd ps [] ∧ mg x = some (.ref f) ∧ FnOk P w K mg base (L2.CX P w) n f fd ps sp
section
variable {K : PySem.W.Frag} {σ : L2.St} {H : Hp} {ta tb tc : TE}
theorem ev_isX {a D : Addr} {c : V} {cv : Value} {b : Bool} (ha : Ev ta σ H (.ref a)) (hc : Ev tc σ H c) (hx : H a = some (ExcX a (.ref D) none)) (C : ExcC K D) (hcv : ∀ u, RelV c u → u = cv) (e : PySem.W.kitOne K (.ref D) cv = some b) : Ev (tCB (rIsX K) (tCons ta (tCons tc tNil))) σ H (.bl b) := fun H1 e1 Q q =>
  ha H1 e1 _ fun H2 e2 => hc H2 (e1.trans e2) _ fun H3 e3 => ⟨a, D, c, cv, b, rfl, e3 _ _ (e2 _ _ (e1 _ _ hx)), C, hcv, e, q H3 (e2.trans e3)⟩
theorem ev_isXr {a D C' : Addr} {b : Bool} (ha : Ev ta σ H (.ref a)) (hx : H a = some (ExcX a (.ref D) none)) (C : ExcC K D) (e : PySem.W.kitOne K (.ref D) (.ref C') = some b) : Ev (tCB (rIsX K) (tCons ta (tCons (tC (.ref C')) tNil))) σ H (.bl b) := ev_isX ha ev_c hx C (fun u r => r) e
theorem ev_isXt {a D : Addr} {n : String} {b : Bool} (ha : Ev ta σ H (.ref a)) (hx : H a = some (ExcX a (.ref D) none)) (C : ExcC K D) (e : PySem.W.kitOne K (.ref D) (.type n) = some b) : Ev (tCB (rIsX K) (tCons ta (tCons (tC (.ty n)) tNil))) σ H (.bl b) := ev_isX ha ev_c hx C (fun u r => r) e
theorem el_catV {l : Addr} {xs ys : List V} (ha : Ev ta σ H (.ref l)) (hx : H l = some (.lst xs)) (hb : EvL tb σ H ys) (hl : xs.length + ys.length ≤ 100000) : EvL (tOp rCat ta tb) σ H (xs ++ ys) := fun H1 e Q q =>
  ha H1 e _ fun H2 e2 => hb H2 (e.trans e2) _ fun p' H3 hp' e3 h3 => ⟨l, p', xs, ys, rfl, rfl, e3 _ _ (e2 _ _ (e _ _ hx)), h3, sz_of hl, fun r hr => q r _ (fresh_back (e2.trans e3) hr) ((e2.trans e3).trans (Ex.new hr)) upd_same⟩
end
theorem bools_dp {K : PySem.W.Frag} {H : Hp} : ∀ ns : List Bool, DpAll K H (ns.map V.bl) (ns.map PyData.bool)
  | [] => .nil
  | n :: ns => .cons (.bl n) (bools_dp ns)
theorem shaped_bools (ns : List Bool) : SeqAt.shaped (.list (ns.map PyData.bool)) = true := by
  have h1 : ∀ ns : List Bool, PyData.canLayAll0 (ns.map PyData.bool) = true := by
    intro ns
    induction ns with
    | nil => rfl
    | cons n ns ih => show (PyData.canLay0 (.bool n) && PyData.canLayAll0 (ns.map PyData.bool)) = true; rw [ih]; rfl
  have h2 : ∀ ns : List Bool, PyData.depthAll (ns.map PyData.bool) ≤ 2 := by
    intro ns
    induction ns with
    | nil => exact Nat.zero_le _
    | cons n ns ih =>
      show max (PyData.depth (.bool n)) (PyData.depthAll (ns.map PyData.bool)) ≤ 2
      have : PyData.depth (.bool n) ≤ 2 := by simp [PyData.depth]
      omega
  unfold SeqAt.shaped
  rw [Bool.and_eq_true]
  refine ⟨h1 ns, decide_eq_true ?_⟩
  have := h2 ns
  simp only [PyData.depth]
  omega
theorem eqv_bools (D : List Bool) : PyData.eqv (.list (D.map PyData.bool)) (.list (D.map PyData.bool)) = true := by
  have h : ∀ D : List Bool, PySem.W.alikeAll (D.map PyData.bool) (D.map PyData.bool) = true := by
    intro D
    induction D with
    | nil => simp [PySem.W.alikeAll]
    | cons x D ih => simpa [PySem.W.alikeAll, PySem.W.alike] using ih
  exact PySem.W.eqv_refl_alike _ (by simpa [PySem.W.alike] using h D)
end Hid

namespace Hid
open PySem PySem.Spec PyProof.Rows L2 Evl
def StpT (H : Hp) (v : V) (s : Stp) : Prop := ∃ t, v = .ref t ∧ H t = some (.tup (stV s))
abbrev Stps (H : Hp) (vs : List V) (S : List Stp) : Prop := Paired (StpT H) vs S
theorem Stps.ex {H H' : Hp} {vs : List V} {S : List Stp} (h : Stps H vs S) (e : Ex H H') : Stps H' vs S := paired_mono (fun _ _ ⟨t, a, c⟩ => ⟨t, a, e _ _ c⟩) h
theorem Stps.upd {H : Hp} {vs : List V} {S : List Stp} {D : Addr} {xs : List V} {o : HO} (hD : H D = some (.lst xs)) (h : Stps H vs S) : Stps (upd H D o) vs S := paired_mono (fun _ _ ⟨t, a, c⟩ => ⟨t, a, by rw [upd_ne (tup_lst c hD)]; exact c⟩) h
/-- the loop of the steps, so many names being left -/
def Loop (rs : List (List Nat × List Nat)) (n : Nat) (d w0 l : Addr) (H : Hp) (T : List Stp × List Str) (m : Nat) (σ' : L2.St) (H' : Hp) (tb t o : Addr) : Prop :=
  ∃ (k : Addr) (Kn Wt : List Str) (S : List Stp) (us : List V) (y7 : V) (y8 y9 y10 : Option V), σ' = [some (.ref tb), some (.ref t), some (.ref o), some (.ref d), some (.ref k), some (.ref w0), some (.ref l), some y7, y8, y9, y10] ∧ m = Wt.length ∧ Ex H H' ∧ H' d = some (.dK (mergeK [] (rs.map kS))) ∧ H' k = some (.lst (Kn.map V.str)) ∧ k ≠ w0 ∧ k ≠ l ∧ (Rise Kn ∧ (∀ y ∈ Kn, HfS n y) ∧ Kn.length + Wt.length ≤ 110) ∧ H' w0 = some (.lst (Wt.map V.str)) ∧ (Wt.Nodup ∧ ∀ x ∈ Wt, ∃ p ∈ rs, x = tx p.1) ∧ H' l = some (.lst us) ∧ Stps H' us S ∧ (S ++ (stl (rowOf rs) Kn Wt).1 = T.1 ∧ (stl (rowOf rs) Kn Wt).2 = T.2 ∧ S.length + Wt.length ≤ 10) ∧ ((pick (rowOf rs) Kn Wt = none ∧ y7 = .non) ∨ ∃ s tt, pick (rowOf rs) Kn Wt = some s ∧ y7 = .ref tt ∧ H' tt = some (.tup (stV s)))
section
variable {K : PySem.W.Frag} {σ : L2.St} {H : Hp} {ta tb te tl : TE}
theorem el_listT {p : Addr} {xs : List V} (ha : Ev ta σ H (.ref p)) (h : SqT K H p xs) : EvL (tCB (rListS K) (tCons ta tNil)) σ H xs := fun H1 e Q q =>
  ha H1 e _ fun H2 e2 => ⟨p, xs, rfl, .inr (ex_t (e.trans e2) h), fun l nl => q l _ (fresh_back e2 nl) (e2.trans (Ex.new nl)) upd_same⟩
end
theorem ex_del {H : Hp} {a : Addr} {o : HO} (na : H a = none) : Ex H (del (upd H a o) a) := fun b u hb => by
  rw [del_ne (ne_of_none hb na), upd_ne (ne_of_none hb na)]; exact hb
section
variable {P : Program} {w : World} {K : PySem.W.Frag} {mg : Str → Option Value} {base : Heap}
def sp_steps_by (K : PySem.W.Frag) (ts : List Addr) : Sp := fun vs H Q _ => ∃ (bv : V) (n : Nat) (rs : List (List Nat × List Nat)) (t o : Addr) (ys ws : List Str), vs = [bv, .ref t, .ref o] ∧ BookF K H bv n rs ∧ BookOk n rs ∧ H t = some (.tup (ys.map V.str)) ∧ H o = some (.tup (ws.map V.str)) ∧ (Rise ys ∧ ys.length ≤ 100 ∧ ∀ y ∈ ys, HfS n y) ∧ (ws.Nodup ∧ ws.length ≤ 10 ∧ ∀ x ∈ ws, ∃ p ∈ rs, x = tx p.1) ∧ TB ts H ∧ ∀ (a b c : Addr) (us : List V) H2, Ex H H2 → H a = none → H b = none → a ≠ b → H2 c = some (.tup [.ref a, .ref b]) → H2 a = some (.lst us) → Stps H2 us (stl (rowOf rs) ys ws).1 → H2 b = some (.lst ((stl (rowOf rs) ys ws).2.map V.str)) → Q (.ref c) H2
theorem ok_steps_by {ts : List Addr} (D : Df K mg "steps_by" st_steps_by ["book", "known", "order"]) (m_dict : mg "dict" = none) (m_list : mg "list" = none) (m_sorted : mg "sorted" = none) (m_set : mg "set" = none) (A_next_step : At P w K mg base "next_step" st_next_step 7 ["rows", "known", "waiting"] (sp_next_step K ts)) : At P w K mg base "steps_by" st_steps_by 8 ["book", "known", "order"] (sp_steps_by K ts) := by
  obtain ⟨f, fd, F, b, g⟩ := D
  obtain ⟨f_next_step, fd_next_step, F_next_step, b_next_step, g_next_step, G_next_step⟩ := A_next_step
  refine ⟨f, fd, F, b, g, F.ok sc_steps_by (fun vs H Q E h => ?_) (fun cdv A outer s H vs Q E hr h => ?_)⟩
  · obtain ⟨bv, n, rs, t, o, ys, ws, rfl, _⟩ := h
    rfl
  · obtain ⟨bv, n, rs, t, o, ys, ws, rfl, hB, hBk, ht, ho, ⟨hri, hyl, hhf⟩, ⟨hnd, hwl, hnm⟩, hT, q⟩ := h
    refine ⟨_, (pss_cons (ps_set (i := 3) sc_steps_by.nd rfl (.inl rfl) (pe_callTy (Hid.cr_dictF rfl) (by rfl) m_dict (by decide +kernel) (pa_cons (pe_ix ix_tup (pv 0) pe_int (fun _ _ => rfl)) pa_nil)))
      (pss_cons (ps_set (i := 4) sc_steps_by.nd rfl (.inl rfl) (pe_callTy call_list_of (by rfl) m_list (by decide +kernel) (pa_cons (pv 1) pa_nil)))
      (pss_cons (ps_set (i := 5) sc_steps_by.nd rfl (.inl rfl) (pe_callTy call_list_of (by rfl) m_list (by decide +kernel) (pa_cons (pv 2) pa_nil)))
      (pss_cons (ps_set (i := 6) sc_steps_by.nd rfl (.inl rfl) (pe_lst pa_nil))
      (pss_cons (ps_set (i := 7) sc_steps_by.nd rfl (.inl rfl) (pe_call G_next_step (hr.mono (by decide)) (by rfl) g_next_step F_next_step.kp b_next_step .nil pass0 (pa_cons (pv 3) (pa_cons (pv 4) (pa_cons (pv 5) pa_nil)))))
      (pss_cons (ps_while PassesOwn.never (pt_cmpR op_notN (pv 7) pe_non (nomark _)) (pss_cons (ps_asg (pv 7) (pg_tup (by rfl) (pgs_cons (pg_name (i := 8) sc_steps_by.nd rfl (.inl rfl)) (pgs_cons (pg_name (i := 9) sc_steps_by.nd rfl (.inl rfl)) (pgs_cons (pg_name (i := 10) sc_steps_by.nd rfl (.inl rfl)) pgs_nil)))))
      (pss_cons (ps_expr (pe_bm PySem.F.plainAttrs_list PySem.F.slot_list_append PySem.F.type_list_append mt_append (pv 6) (pa_cons (pv 7) pa_nil)))
      (pss_cons (ps_expr (pe_bm PySem.F.plainAttrs_list PySem.F.slot_list_remove PySem.F.type_list_remove Hid.mt_removeS (pv 5) (pa_cons (pv 8) pa_nil)))
      (pss_cons (ps_set (i := 4) sc_steps_by.nd rfl (.inl rfl) (Hid.pe_sortSetL rfl hr.units (by rfl) m_sorted (by rfl) m_set (pe_op op_cat (pv 4) (pe_lst (pa_cons (pv 10) pa_nil)))))
      (pss_one (ps_set (i := 7) sc_steps_by.nd rfl (.inl rfl) (pe_call G_next_step (hr.mono (by decide)) (by rfl) g_next_step F_next_step.kp b_next_step .nil pass0 (pa_cons (pv 3) (pa_cons (pv 4) (pa_cons (pv 5) pa_nil)))))))))))
      (pss_one (ps_ret (pe_tup (pa_cons (pv 6) (pa_cons (pv 5) pa_nil))))))))))), ?_⟩
    obtain ⟨tb, b, vs, rfl, hBt, hBb, hBp⟩ := id hB
    refine (ev_op (ev_var rfl) ev_c (rv_ixT (st_of hBt) (atI_nat (j := 1) rfl))) H (Ex.refl _) _ fun H1 e1 => ⟨b, vs, rs, rfl, hBb.ex e1, hBp.ex e1, fun d nd => ?_⟩
    have e2 : Ex H (upd H1 d (.dK (mergeK [] (rs.map kS)))) := e1.trans (Ex.new nd)
    have hd2 : (upd H1 d (.dK (mergeK [] (rs.map kS)))) d = some (.dK (mergeK [] (rs.map kS))) := upd_same
    generalize upd H1 d (.dK (mergeK [] (rs.map kS))) = H2 at e2 hd2
    refine q_asgL (el_listT (ev_var rfl) (st_of (e2 _ _ ht))) fun k0 H3 nk0 e3 hk0 => ?_
    refine q_asgL (el_listT (ev_var rfl) (st_of ((e2.trans e3) _ _ ho))) fun w0 H4 nw0 e4 hw0 => ?_
    refine q_asgL (el_lst ea_nil (by decide)) fun l H5 nl e5 hl5 => ?_
    have nkw : k0 ≠ w0 := ne_of_none hk0 nw0
    have nkl : k0 ≠ l := ne_of_none (e4 _ _ hk0) nl
    have nwl : w0 ≠ l := ne_of_none hw0 nl
    have w0H : H w0 = none := fresh_back (e2.trans e3) nw0
    have lH : H l = none := fresh_back (e2.trans (e3.trans e4)) nl
    have eH5 : Ex H H5 := e2.trans (e3.trans (e4.trans e5))
    refine c_call (ea_cons (ev_var rfl) (ea_cons (ev_var rfl) (ea_cons (ev_var rfl) ea_nil))) fun G6 g6 => ⟨d, k0, w0, n, rs, ys, ws, rfl, hBk, g6 _ _ ((e3.trans (e4.trans e5)) _ _ hd2), g6 _ _ ((e4.trans e5) _ _ hk0), g6 _ _ (e5 _ _ hw0), hri, hhf, hnm, hT.ex (eH5.trans g6), ?_⟩
    have main : ∀ (y7 : V) (H6 : Hp), Ex H5 H6 → ((pick (rowOf rs) ys ws = none ∧ y7 = .non) ∨ ∃ s tt, pick (rowOf rs) ys ws = some s ∧ y7 = .ref tt ∧ H6 tt = some (.tup (stV s))) → Loop rs n d w0 l H (stl (rowOf rs) ys ws) ws.length (([some (.ref tb), some (.ref t), some (.ref o), some (.ref d), some (.ref k0), some (.ref w0), some (.ref l), some y7, none, none, none] : L2.St)) H6 tb t o := fun y7 H6 e6 hy => ⟨k0, ys, ws, [], [], y7, none, none, none, rfl, rfl, eH5.trans e6, (e3.trans (e4.trans (e5.trans e6))) _ _ hd2, (e4.trans (e5.trans e6)) _ _ hk0, nkw, nkl, ⟨hri, hhf, by omega⟩, (e5.trans e6) _ _ hw0, ⟨hnd, hnm⟩, e6 _ _ hl5, .nil, ⟨rfl, rfl, by simp; omega⟩, hy⟩
    have fin : ∀ (y7 : V) (H6 : Hp), Loop rs n d w0 l H (stl (rowOf rs) ys ws) ws.length (([some (.ref tb), some (.ref t), some (.ref o), some (.ref d), some (.ref k0), some (.ref w0), some (.ref l), some y7, none, none, none] : L2.St)) H6 tb t o → tSeq (tWhile (tTest (tOp (fun x y H Q => y = .non ∧ Q (.bl (!decide (x = .non))) H) (tVar 7) (tC .non))) (tSeq (tAsg (tVar 7) (gTup K 3 (gCons (gName 8) (gCons (gName 9) (gCons (gName 10) gNil))))) (tSeq (tDrop (tBM K "list" rAppend (tVar 6) (tCons (tVar 7) tNil))) (tSeq (tDrop (tBM K "list" rRemS (tVar 5) (tCons (tVar 8) tNil))) (tSeq (tAsg (tSortSetL K (tOp rCat (tVar 4) (tLst (tCons (tVar 10) tNil)))) (gName 4)) (tAsg (tCall (sp_next_step K ts) [] E0 (tCons (tVar 3) (tCons (tVar 4) (tCons (tVar 5) tNil)))) (gName 7))))))) (tRet (tTup (tCons (tVar 6) (tCons (tVar 5) tNil)))) { nx := fun x H' => Q V.non H', rt := Q } ([some (.ref tb), some (.ref t), some (.ref o), some (.ref d), some (.ref k0), some (.ref w0), some (.ref l), some y7, none, none, none] : L2.St) H6 := fun y7 H6 hL => by
      refine q_while (fun m σ' H' => Loop rs n d w0 l H (stl (rowOf rs) ys ws) m σ' H' tb t o) _ hL (fun m σ' H7 hW => ?_)
      obtain ⟨k, Kn, Wt, S, us, y7, y8, y9, y10, rfl, rfl, e7, hd7, hk7, nkw, nkl, ⟨kri, khf, kln⟩, hw7, ⟨wnd, wnm⟩, hl7, hus, ⟨hS1, hS2, hSl⟩, hy⟩ := hW
      rcases hy with ⟨hpk, rfl⟩ | ⟨s, tt, hpk, rfl, htt⟩
      · refine ⟨false, et_is (et_test (ev_op (ev_var rfl) ev_c rv_notN)) (by simp), fun h => absurd h (by decide), fun _ H8 e8 => ?_⟩
        rw [stl_none hpk] at hS1 hS2
        rw [List.append_nil] at hS1
        refine s_retU (eu_tup (ea_cons (ev_var rfl) (ea_cons (ev_var rfl) ea_nil)) (by show 2 ≤ 100000; decide)) fun c H9 nc e9 h9 => q l w0 c us H9 (e7.trans (e8.trans e9)) lH w0H nwl.symm h9 ((e8.trans e9) _ _ hl7) (by rw [← hS1]; exact hus.ex (e8.trans e9)) ?_
        rw [← hS2]
        exact (e8.trans e9) _ _ hw7
      · refine ⟨true, et_is (et_test (ev_op (ev_var rfl) ev_c rv_notN)) (by simp), fun _ H8 e8 => ⟨fun σ' H' => ∃ m', m' < Wt.length ∧ Loop rs n d w0 l H (stl (rowOf rs) ys ws) m' σ' H' tb t o, fun σ2 H2 h => h, ?_⟩, fun h => absurd h (by decide)⟩
        obtain ⟨hsm, h0, hfit, hse⟩ := pick_mem hpk
        refine ⟨_, rfl, tt, stV s, rfl, st_of (e8 _ _ htt), rfl, _, _, rfl, _, _, rfl, _, _, rfl, rfl, ?_⟩
        have usl : us.length = S.length := paired_len hus
        refine q_app (v := .ref tt) (e8 _ _ hl7) (ev_var rfl) (ev_var rfl) (by omega) fun H9 e9 => ?_
        have e89 : Ex H7 H9 := e8.trans e9
        have hw10 : (upd H9 l (.lst (us ++ [.ref tt]))) w0 = some (.lst (Wt.map V.str)) := by rw [upd_ne nwl]; exact e89 _ _ hw7
        have hk10 : (upd H9 l (.lst (us ++ [.ref tt]))) k = some (.lst (Kn.map V.str)) := by rw [upd_ne nkl]; exact e89 _ _ hk7
        have hd10 : (upd H9 l (.lst (us ++ [.ref tt]))) d = some (.dK (mergeK [] (rs.map kS))) := by rw [upd_ne (ne_of (e89 _ _ hd7) (e89 _ _ hl7) (by simp))]; exact e89 _ _ hd7
        have hl10 : (upd H9 l (.lst (us ++ [.ref tt]))) l = some (.lst (us ++ [.ref tt])) := upd_same
        have hu10 : Stps (upd H9 l (.lst (us ++ [.ref tt]))) (us ++ [.ref tt]) (S ++ [s]) := Stps.upd (e89 _ _ hl7) (paired_app (hus.ex e89) (.cons ⟨tt, rfl, e89 _ _ htt⟩ .nil))
        have e10 : Ex H (upd H9 l (.lst (us ++ [.ref tt]))) := (e7.trans e89).mut lH
        generalize upd H9 l (.lst (us ++ [.ref tt])) = H10 at hw10 hk10 hd10 hl10 hu10 e10
        refine ⟨_, rfl, .inl ⟨rfl, _, sq_of hw10⟩, _, rfl, w0, Wt, s.1, rfl, rfl, hw10, hsm, ?_⟩
        have hw11 : (upd H10 w0 (.lst ((Wt.erase s.1).map V.str))) w0 = some (.lst ((Wt.erase s.1).map V.str)) := upd_same
        have hk11 : (upd H10 w0 (.lst ((Wt.erase s.1).map V.str))) k = some (.lst (Kn.map V.str)) := by rw [upd_ne nkw]; exact hk10
        have hd11 : (upd H10 w0 (.lst ((Wt.erase s.1).map V.str))) d = some (.dK (mergeK [] (rs.map kS))) := by rw [upd_ne (ne_of hd10 hw10 (by simp))]; exact hd10
        have hl11 : (upd H10 w0 (.lst ((Wt.erase s.1).map V.str))) l = some (.lst (us ++ [.ref tt])) := by rw [upd_ne nwl.symm]; exact hl10
        have hu11 : Stps (upd H10 w0 (.lst ((Wt.erase s.1).map V.str))) (us ++ [.ref tt]) (S ++ [s]) := Stps.upd hw10 hu10
        have e11 : Ex H (upd H10 w0 (.lst ((Wt.erase s.1).map V.str))) := e10.mut w0H
        generalize upd H10 w0 (.lst ((Wt.erase s.1).map V.str)) = H11 at hw11 hk11 hd11 hl11 hu11 e11
        refine (el_catV (ev_var rfl) hk11 (el_lst (ea_cons (ev_var rfl) ea_nil) (by show 1 ≤ 100000; decide)) (by rw [List.length_map]; show Kn.length + 1 ≤ 100000; omega)) H11 (Ex.refl _) _ fun pc H12 npc e12 h12 => ⟨pc, Kn ++ [s.2.2], rfl, sq_of (by rw [List.map_append]; exact h12), by rw [List.length_append]; show Kn.length + 1 < 4000; omega, fun Kn2 k2 ri2 len2 hm2 nk2 => ?_⟩
        have hk13 : (upd H12 k2 (.lst (Kn2.map V.str))) k2 = some (.lst (Kn2.map V.str)) := upd_same
        have e13 : Ex H11 (upd H12 k2 (.lst (Kn2.map V.str))) := e12.trans (Ex.new nk2)
        have nk2w : k2 ≠ w0 := (ne_of_none (e12 _ _ hw11) nk2).symm
        have nk2l : k2 ≠ l := (ne_of_none (e12 _ _ hl11) nk2).symm
        generalize upd H12 k2 (.lst (Kn2.map V.str)) = H13 at hk13 e13
        rw [List.length_append] at len2
        have len2' : Kn2.length ≤ Kn.length + 1 := len2
        have ew : (Wt.erase s.1).length = Wt.length - 1 := List.length_erase_of_mem hsm
        have wp : 0 < Wt.length := List.length_pos_of_mem hsm
        have hf2 : ∀ y ∈ Kn2, HfS n y := fun y hy => by
          rcases List.mem_append.mp ((hm2 y).mp hy) with z | z
          · exact khf y z
          · rw [List.mem_singleton.mp z, hse]
            obtain ⟨hm0, hft⟩ := fit1_mem hfit
            obtain ⟨p, hp, hpe⟩ := wnm _ hsm
            have hrow : RowL (rowOf rs s.1) ∧ (rowOf rs s.1).length = n := by rw [hpe, rowOf_in hBk.hd p hp]; exact hBk.hr p hp
            have f2 := (fit_turned hrow.1.2 hft).1
            have l2 := fit_len f2
            show HalfN n (zl (tx (turned (rowOf rs s.1) (zl h0))))
            rw [show zl (tx (turned (rowOf rs s.1) (zl h0))) = turned (rowOf rs s.1) (zl h0) by simp [zl, tx]]
            exact ⟨by rw [l2.1, hrow.2], l2.2⟩
        have wnm2 : ∀ x ∈ Wt.erase s.1, ∃ p ∈ rs, x = tx p.1 := fun x hx => wnm x (List.mem_of_mem_erase hx)
        have hst := stl_some hpk
        have sm2 : stl (rowOf rs) Kn2 (Wt.erase s.1) = stl (rowOf rs) (Kn ++ [s.2.2]) (Wt.erase s.1) := stl_same hm2
        have nxt : ∀ (v : V) (H14 : Hp), Ex H13 H14 → ((pick (rowOf rs) Kn2 (Wt.erase s.1) = none ∧ v = .non) ∨ ∃ s' tt', pick (rowOf rs) Kn2 (Wt.erase s.1) = some s' ∧ v = .ref tt' ∧ H14 tt' = some (.tup (stV s'))) → ∃ m', m' < Wt.length ∧ Loop rs n d w0 l H (stl (rowOf rs) ys ws) m' ([some (.ref tb), some (.ref t), some (.ref o), some (.ref d), some (.ref k2), some (.ref w0), some (.ref l), some v, some (.str s.1), some (.str s.2.1), some (.str s.2.2)] : L2.St) H14 tb t o := fun v H14 e14 hv => ⟨(Wt.erase s.1).length, by omega, k2, Kn2, Wt.erase s.1, S ++ [s], us ++ [.ref tt], v, _, _, _, rfl, rfl, e11.trans (e13.trans e14), (e13.trans e14) _ _ hd11, e14 _ _ hk13, nk2w, nk2l, ⟨ri2, hf2, by omega⟩, (e13.trans e14) _ _ hw11, ⟨wnd.erase _, wnm2⟩, (e13.trans e14) _ _ hl11, hu11.ex (e13.trans e14), ⟨by rw [← hS1, hst, sm2, List.append_assoc]; rfl, by rw [← hS2, hst, sm2], by rw [List.length_append]; show S.length + 1 + _ ≤ _; omega⟩, hv⟩
        refine c_call (ea_cons (ev_var rfl) (ea_cons (ev_var rfl) (ea_cons (ev_var rfl) ea_nil))) fun G14 g14 => ⟨d, k2, w0, n, rs, Kn2, Wt.erase s.1, rfl, hBk, (e13.trans g14) _ _ hd11, g14 _ _ hk13, (e13.trans g14) _ _ hw11, ri2, hf2, wnm2, hT.ex (e11.trans (e13.trans g14)), fun hn H15 e15 => nxt .non H15 (g14.trans e15) (.inl ⟨hn, rfl⟩), fun s' hs' p15 H15 e15 h15 => nxt (.ref p15) H15 (g14.trans e15) (.inr ⟨s', p15, hs', rfl, h15⟩)⟩
    exact ⟨fun hn H7 e7 => fin .non H7 (main .non H7 (g6.trans e7) (.inl ⟨hn, rfl⟩)), fun s hs p7 H7 e7 h7 => fin (.ref p7) H7 (main (.ref p7) H7 (g6.trans e7) (.inr ⟨s, p7, hs, rfl, h7⟩))⟩
def sp_settled (K : PySem.W.Frag) (ts : List Addr) (c_NoHalf : Addr) (c_NoOrder : Addr) : Sp := fun vs H Q E => ∃ (bv v v2 : V) (n : Nat) (rs : List (List Nat × List Nat)) (o o2 : Option (List (Option (List Nat)))), vs = [bv, v, v2] ∧ BookF K H bv n rs ∧ BookOk n rs ∧ YgOk K H v o ∧ YgOk K H v2 o2 ∧ (lenO o ≤ 100 ∧ lenO o2 ≤ 100) ∧ TB ts H ∧ (¬ knO n o → ∀ H2, Ex H H2 → E (.ref c_NoHalf) none H2) ∧ (knO n o → ¬ ordO rs o2 → ∀ H2, Ex H H2 → E (.ref c_NoOrder) none H2) ∧ (knO n o → ordO rs o2 → ∀ v3 H2, Ex H H2 → Q v3 H2)
theorem ok_settled {ts : List Addr} {c_NoHalf : Addr} {c_NoOrder : Addr} {fI : Addr} {fdI : FuncData} (D : Df K mg "settled" st_settled ["book", "known", "order"]) (hI : HIn P w K mg base fI fdI) (E_NoHalf : ErrC K mg "NoHalf" c_NoHalf fI) (E_NoOrder : ErrC K mg "NoOrder" c_NoOrder fI) (A_are_known : At P w K mg base "are_known" st_are_known 5 ["book", "thing"] (sp_are_known K ts)) (A_is_order : At P w K mg base "is_order" st_is_order 5 ["book", "thing"] (sp_is_order K ts)) (A_steps_by : At P w K mg base "steps_by" st_steps_by 8 ["book", "known", "order"] (sp_steps_by K ts)) : AtX P w K mg base "settled" st_settled 9 ["book", "known", "order"] (sp_settled K ts c_NoHalf c_NoOrder) := by
  obtain ⟨f, fd, F, b, g⟩ := D
  obtain ⟨f_are_known, fd_are_known, F_are_known, b_are_known, g_are_known, G_are_known⟩ := A_are_known
  obtain ⟨f_is_order, fd_is_order, F_is_order, b_is_order, g_is_order, G_is_order⟩ := A_is_order
  obtain ⟨f_steps_by, fd_steps_by, F_steps_by, b_steps_by, g_steps_by, G_steps_by⟩ := A_steps_by
  refine ⟨f, fd, F, b, g, F.okX sc_settled (fun vs H Q E h => ?_) (fun cdv A outer s H vs Q E hr h => ?_)⟩
  · obtain ⟨bv, v, v2, n, rs, o, o2, rfl, _⟩ := h
    rfl
  · obtain ⟨bv, v, v2, n, rs, o, o2, rfl, hB, hBk, hv, hv2, ⟨hl, hl2⟩, hT, q1, q2, q⟩ := h
    have tk : Takes (cxOf (L2.CX P w) P w K mg base ["book", "known", "order"] "settled" (defScope st_settled) f cdv A outer s H E) (fun cls d _ H => E cls d H) := takes_of rfl rfl rfl rfl
    have psO : PassesOwn (model P w) (cxOf (L2.CX P w) P w K mg base ["book", "known", "order"] "settled" (defScope st_settled) f cdv A outer s H E).A (cxOf (L2.CX P w) P w K mg base ["book", "known", "order"] "settled" (defScope st_settled) f cdv A outer s H E).env (cxOf (L2.CX P w) P w K mg base ["book", "known", "order"] "settled" (defScope st_settled) f cdv A outer s H E).xe := passes_of rfl
    refine ⟨_, (pss_cons (ps_if (pt_not (pt_val (pe_call G_are_known (hr.mono (by decide)) (by rfl) g_are_known F_are_known.kp b_are_known .nil pass0 (pa_cons (pv 0) (pa_cons (pv 1) pa_nil)))))
      (pss_one (ps_raise rfl tk (Hid.pmk_none E_NoHalf.oex E_NoHalf.ini hI.2.1 hI.2.2 (hr.mono (by decide)) hI.1 .nil pass0 (by rfl) E_NoHalf.glob (pa_cons pe_str pa_nil))))
      pss_nil)
      (pss_cons (ps_if (pt_not (pt_val (pe_call G_is_order (hr.mono (by decide)) (by rfl) g_is_order F_is_order.kp b_is_order .nil pass0 (pa_cons (pv 0) (pa_cons (pv 2) pa_nil)))))
      (pss_one (ps_raise rfl tk (Hid.pmk_none E_NoOrder.oex E_NoOrder.ini hI.2.1 hI.2.2 (hr.mono (by decide)) hI.1 .nil pass0 (by rfl) E_NoOrder.glob (pa_cons pe_str pa_nil))))
      pss_nil)
      (pss_one (ps_ret (pe_call G_steps_by (hr.mono (by decide)) (by rfl) g_steps_by F_steps_by.kp b_steps_by .nil pass0 (pa_cons (pv 0) (pa_cons (pv 1) (pa_cons (pv 2) pa_nil)))))))), ?_⟩
    have hk : ∃ b : Bool, b = true ↔ knO n o := by
      by_cases h : knO n o
      · exact ⟨true, fun _ => h, fun _ => rfl⟩
      · exact ⟨false, fun z => absurd z (by decide), fun z => absurd z h⟩
    have ho : ∃ b : Bool, b = true ↔ ordO rs o2 := by
      by_cases h : ordO rs o2
      · exact ⟨true, fun _ => h, fun _ => rfl⟩
      · exact ⟨false, fun z => absurd z (by decide), fun z => absurd z h⟩
    obtain ⟨b1, hb1⟩ := hk
    obtain ⟨b2, hb2⟩ := ho
    refine q_when (b := !b1) (et_not (et_B (b := b1) (ev_call (ea_cons (ev_var rfl) (ea_cons (ev_var rfl) ea_nil)) fun G g Q1 q1 E1 => ⟨bv, n, rs, v, o, b1, rfl, hB.ex g, hBk.hn, hv.ex g, hl, hb1, hT.ex g, q1⟩))) (fun hb H1 e1 => ?_) (fun hb H1 e1 => ?_)
    · refine ⟨by show 1 ≤ 1000; decide, fun a na => ⟨a, c_NoHalf, _, rfl, E_NoHalf.oex, upd_same, rfl, upd_same, q1 (fun h => ?_) _ (e1.trans (ex_del na))⟩⟩
      rw [hb1.mpr h] at hb
      cases hb
    have hk1 : knO n o := hb1.mp (by cases b1 <;> first | rfl | cases hb)
    refine q_when (b := !b2) (et_not (et_B (b := b2) (ev_call (ea_cons (ev_var rfl) (ea_cons (ev_var rfl) ea_nil)) fun G g Q1 q1 E1 => ⟨bv, n, rs, v2, o2, b2, rfl, hB.ex (e1.trans g), hBk, hv2.ex (e1.trans g), hl2, hb2, hT.ex (e1.trans g), q1⟩))) (fun hbb H2 e2 => ?_) (fun hbb H2 e2 => ?_)
    · refine ⟨by show 1 ≤ 1000; decide, fun a na => ⟨a, c_NoOrder, _, rfl, E_NoOrder.oex, upd_same, rfl, upd_same, q2 hk1 (fun h => ?_) _ (e1.trans (e2.trans (ex_del na)))⟩⟩
      rw [hb2.mpr h] at hbb
      cases hbb
    have ho2 : ordO rs o2 := hb2.mp (by cases b2 <;> first | rfl | cases hbb)
    have q9 := q hk1 ho2
    cases o with
    | none => exact hk1.elim
    | some os =>
    cases o2 with
    | none => exact ho2.elim
    | some os2 =>
    obtain ⟨ys, rfl, hhf, hri⟩ := hk1
    obtain ⟨ws, rfl, hpm⟩ := ho2
    obtain ⟨t, vs1, rfl, ht, hp1⟩ := hv
    obtain ⟨t2, vs2, rfl, ht2, hp2⟩ := hv2
    obtain rfl := strs_of hp1
    obtain rfl := strs_of hp2
    have hyl : ys.length ≤ 100 := by have : (ys.map fun y => some (zl y)).length ≤ 100 := hl; rw [List.length_map] at this; exact this
    have nmd : (rs.map fun p => tx p.1).Nodup := by
      have := nodup_tx hBk.hd
      rw [List.map_map] at this
      exact this
    refine c_call (ea_cons (ev_var rfl) (ea_cons (ev_var rfl) (ea_cons (ev_var rfl) ea_nil))) fun H3 e3 => ⟨bv, n, rs, t, t2, ys, ws, rfl, hB.ex (e1.trans (e2.trans e3)), hBk, (e1.trans (e2.trans e3)) _ _ ht, (e1.trans (e2.trans e3)) _ _ ht2, ⟨hri, hyl, hhf⟩, ⟨hpm.nodup_iff.mpr nmd, by rw [hpm.length_eq, List.length_map]; exact hBk.hl, fun x hx => ?_⟩, hT.ex (e1.trans (e2.trans e3)), fun a b c us H4 e4 na nb => fun _ _ _ _ _ => q9 _ H4 (e1.trans (e2.trans (e3.trans e4)))⟩
    obtain ⟨p, hp, rfl⟩ := List.mem_map.mp (hpm.mem_iff.mp hx)
    exact ⟨p, hp, rfl⟩
end
end Hid

namespace Hid
open PySem PySem.Spec PyProof.Rows L2
/-! all orders of names, in plain words -/
def ordN : Nat → List Str → List (List Str)
  | 0, _ => [[]]
  | n + 1, m => (List.range m.length).flatMap fun k => (ordN n (m.take k ++ m.drop (k + 1))).map fun r => m.getD k "" :: r
def ords (m : List Str) : List (List Str) := ordN m.length m
/-- the law's orders, name by name at the end -/
def ordL (ns : List Str) : Nat → List (List Str)
  | 0 => [[]]
  | t + 1 => (ordL ns t).flatMap fun o => (ns.filter fun x => !decide (x ∈ o)).map fun x => o ++ [x]
def ordU (ns : List Str) : Nat → List Str → List (List Str)
  | 0, _ => [[]]
  | k + 1, u => (ns.filter fun x => !decide (x ∈ u)).flatMap fun x => (ordU ns k (u ++ [x])).map fun r => x :: r
theorem ordU_back (ns : List Str) : ∀ (k : Nat) (u : List Str), ordU ns (k + 1) u = (ordU ns k u).flatMap fun o => (ns.filter fun x => !decide (x ∈ u ++ o)).map fun x => o ++ [x]
  | 0, u => by
    show (ns.filter fun x => !decide (x ∈ u)).flatMap (fun x => [[]].map fun r => x :: r) = [[]].flatMap _
    rw [List.flatMap_singleton, List.append_nil]
    rw [show (fun x : Str => ([[]] : List (List Str)).map fun r => x :: r) = fun x => [[x]] from rfl]
    induction (ns.filter fun x => !decide (x ∈ u)) with
    | nil => rfl
    | cons a l ih => rw [List.flatMap_cons, ih]; rfl
  | k + 1, u => by
    show (ns.filter fun x => !decide (x ∈ u)).flatMap (fun x => (ordU ns (k + 1) (u ++ [x])).map fun r => x :: r) = ((ns.filter fun x => !decide (x ∈ u)).flatMap fun x => (ordU ns k (u ++ [x])).map fun r => x :: r).flatMap _
    rw [List.flatMap_assoc]
    congr 1
    funext x
    rw [ordU_back ns k (u ++ [x]), List.map_flatMap, List.flatMap_map]
    congr 1
    funext o
    rw [List.map_map, show u ++ [x] ++ o = u ++ x :: o by simp]
    rfl
theorem ordL_U (ns : List Str) : ∀ t, ordL ns t = ordU ns t []
  | 0 => rfl
  | t + 1 => by
    rw [ordU_back ns t [], ← ordL_U ns t]
    rfl
theorem flat_ix {β : Type} (g : List Str → Str → List β) : ∀ (m : List Str), ((List.range m.length).flatMap fun k => g (m.take k ++ m.drop (k + 1)) (m.getD k "")) = (List.range m.length).flatMap fun k => g (m.eraseIdx k) (m.getD k "") := fun m => by
  congr 1
  funext k
  rw [List.eraseIdx_eq_take_drop_succ]
theorem map_range_getD2 (m : List Str) : (List.range m.length).map (fun k => m.getD k "") = m := by
  apply List.ext_getElem?
  intro i
  rw [List.getElem?_map]
  by_cases h : i < m.length
  · rw [List.getElem?_range h, List.getElem?_eq_getElem h]
    show some (m.getD i "") = _
    rw [List.getD_eq_getElem?_getD, List.getElem?_eq_getElem h]
    rfl
  · rw [List.getElem?_eq_none (by rw [List.length_range]; omega), List.getElem?_eq_none (by omega)]
    rfl
theorem split_at {m : List Str} {j : Nat} (hj : j < m.length) : m = m.take j ++ m[j] :: m.drop (j + 1) := by
  rw [← List.drop_eq_getElem_cons hj, List.take_append_drop]
theorem cut_filter {m : List Str} (nd : m.Nodup) {j : Nat} {x : Str} (hx : m[j]? = some x) : m.take j ++ m.drop (j + 1) = m.filter fun y => !decide (y = x) := by
  obtain ⟨hj, rfl⟩ := List.getElem?_eq_some_iff.mp hx
  have e := split_at hj
  have nd' := nd
  rw [e] at nd'
  generalize m[j] = z at nd' e
  rw [List.nodup_append] at nd'
  obtain ⟨_, n2, n3⟩ := nd'
  rw [List.nodup_cons] at n2
  conv => rhs; rw [e]
  rw [List.filter_append, List.filter_cons]
  rw [if_neg (by simp)]
  rw [List.filter_eq_self.mpr fun y hy => ?_, List.filter_eq_self.mpr fun y hy => ?_]
  · rw [Bool.not_eq_true', decide_eq_false_iff_not]
    intro h
    rw [h] at hy
    exact n2.1 hy
  · rw [Bool.not_eq_true', decide_eq_false_iff_not]
    intro h
    exact n3 y hy z List.mem_cons_self h
theorem ordN_U {ns : List Str} (nd : ns.Nodup) : ∀ (k : Nat) (u : List Str), (ns.filter fun x => !decide (x ∈ u)).length = k → ordN k (ns.filter fun x => !decide (x ∈ u)) = ordU ns k u
  | 0, _, _ => rfl
  | k + 1, u, hl => by
    have mnd : (ns.filter fun x => !decide (x ∈ u)).Nodup := nd.filter _
    have key : ∀ j, j < (ns.filter fun x => !decide (x ∈ u)).length → (ns.filter fun x => !decide (x ∈ u)).take j ++ (ns.filter fun x => !decide (x ∈ u)).drop (j + 1) = ns.filter fun x => !decide (x ∈ u ++ [(ns.filter fun x => !decide (x ∈ u)).getD j ""]) := fun j hj => by
      have hx : (ns.filter fun x => !decide (x ∈ u))[j]? = some ((ns.filter fun x => !decide (x ∈ u)).getD j "") := by rw [List.getD_eq_getElem?_getD, List.getElem?_eq_getElem hj]; rfl
      rw [cut_filter mnd hx]
      generalize (ns.filter fun x => !decide (x ∈ u)).getD j "" = z
      rw [List.filter_filter]
      refine List.filter_congr fun x _ => ?_
      by_cases a : x ∈ u <;> by_cases b : x = z <;> simp [a, b]
    show (List.range _).flatMap _ = (ns.filter fun x => !decide (x ∈ u)).flatMap _
    conv => rhs; rw [← map_range_getD2 (ns.filter fun x => !decide (x ∈ u)), List.flatMap_map]
    rw [List.flatMap_def, List.flatMap_def]
    congr 1
    refine List.map_congr_left fun j hj => ?_
    have hj' := List.mem_range.mp hj
    rw [key j hj']
    congr 1
    refine ordN_U nd k _ ?_
    rw [← key j hj', List.length_append, List.length_take, List.length_drop]
    omega
/-- the program's orders and the law's -/
theorem ords_law {ns : List Str} (nd : ns.Nodup) : ords ns = ordL ns ns.length := by
  have h := ordN_U nd ns.length [] (by simp)
  rw [show (ns.filter fun x => !decide (x ∈ ([] : List Str))) = ns by simp] at h
  rw [ordL_U]
  exact h
theorem ords_head : ∀ (k : Nat) (m : List Str), m.length = k → ∃ r, ordN k m = m :: r
  | 0, m, h => ⟨[], by rw [List.length_eq_zero_iff.mp h]; rfl⟩
  | k + 1, [], h => by cases h
  | k + 1, a :: t, h => by
    obtain ⟨r, hr⟩ := ords_head k t (Nat.succ.inj h)
    refine ⟨r.map (fun x => a :: x) ++ ((List.range t.length).map Nat.succ).flatMap fun k' => (ordN k ((a :: t).take k' ++ (a :: t).drop (k' + 1))).map fun r => (a :: t).getD k' "" :: r, ?_⟩
    show (List.range (t.length + 1)).flatMap _ = _
    rw [List.range_succ_eq_map, List.flatMap_cons]
    rw [show (List.take 0 (a :: t) ++ List.drop (0 + 1) (a :: t)) = t from rfl, hr]
    rfl
theorem ords_perm : ∀ (k : Nat) (m o : List Str), m.length = k → o ∈ ordN k m → o.Perm m
  | 0, m, o, h, ho => by
    rw [List.length_eq_zero_iff.mp h]
    rw [show o = [] from List.mem_singleton.mp ho]
  | k + 1, m, o, h, ho => by
    obtain ⟨j, hj, hm⟩ := List.mem_flatMap.mp (show o ∈ (List.range m.length).flatMap _ from ho)
    obtain ⟨r, hr, rfl⟩ := List.mem_map.mp hm
    have hj' := List.mem_range.mp hj
    have hp := ords_perm k _ r (by rw [List.length_append, List.length_take, List.length_drop]; omega) hr
    have hg : m.getD j "" = m[j] := by rw [List.getD_eq_getElem?_getD, List.getElem?_eq_getElem hj']; rfl
    rw [hg]
    refine (hp.cons m[j]).trans ?_
    conv => rhs; rw [split_at hj']
    exact List.perm_middle.symm
def facN : Nat → Nat
  | 0 => 1
  | n + 1 => (n + 1) * facN n
theorem ords_len : ∀ (k : Nat) (m : List Str), m.length = k → (ordN k m).length = facN k
  | 0, _, _ => rfl
  | k + 1, m, h => by
    show ((List.range m.length).flatMap _).length = (k + 1) * facN k
    rw [List.length_flatMap, h]
    have : ∀ l : List Nat, (∀ j ∈ l, j < k + 1) → (l.map fun j => ((ordN k (m.take j ++ m.drop (j + 1))).map fun r => m.getD j "" :: r).length).sum = l.length * facN k := by
      intro l
      induction l with
      | nil => intro _; simp
      | cons a l ih =>
        intro hh
        have ha := hh a List.mem_cons_self
        rw [List.map_cons, List.sum_cons, ih fun j hj => hh j (List.mem_cons_of_mem _ hj), List.length_map, ords_len k _ (by rw [List.length_append, List.length_take, List.length_drop]; omega), List.length_cons, Nat.add_mul]
        omega
    have h2 := this (List.range (k + 1)) fun j hj => List.mem_range.mp hj
    rw [List.length_range] at h2
    exact h2
theorem facN_le {k : Nat} (h : k ≤ 5) : facN k ≤ 120 := by
  have : k = 0 ∨ k = 1 ∨ k = 2 ∨ k = 3 ∨ k = 4 ∨ k = 5 := by omega
  rcases this with rfl | rfl | rfl | rfl | rfl | rfl <;> decide
/-- the first place at which f is greatest -/
def bst (f : List Str → Nat) (os : List (List Str)) : Nat := argBest (fun a b => decide (((f (os.getD a []) : Nat) : Int) > (f (os.getD b []) : Nat))) (os.length - 1)
theorem argBest_le (bt : Nat → Nat → Bool) : ∀ k, argBest bt k ≤ k
  | 0 => Nat.le_refl _
  | k + 1 => by
    show (if bt (k + 1) (argBest bt k) then k + 1 else argBest bt k) ≤ k + 1
    have := argBest_le bt k
    split <;> omega
theorem argBest_no (bt : Nat → Nat → Bool) (h : ∀ a b, bt a b = false) : ∀ k, argBest bt k = 0
  | 0 => rfl
  | k + 1 => by
    show (if bt (k + 1) (argBest bt k) then k + 1 else argBest bt k) = 0
    rw [h, argBest_no bt h k]
    rfl
/-- rows by names, the book told in another order -/
theorem argBest_congr {bt bt' : Nat → Nat → Bool} : ∀ k, (∀ a b, a ≤ k → b ≤ k → bt a b = bt' a b) → argBest bt k = argBest bt' k
  | 0, _ => rfl
  | k + 1, h => by
    have ih := argBest_congr k fun a b ha hb => h a b (by omega) (by omega)
    have := argBest_le bt' k
    show (if bt (k + 1) (argBest bt k) then k + 1 else argBest bt k) = (if bt' (k + 1) (argBest bt' k) then k + 1 else argBest bt' k)
    rw [ih, h (k + 1) _ (Nat.le_refl _) (by omega)]
end Hid

namespace Hid
open PySem PySem.Spec PyProof.Rows L2 LamX
/-! max(l, key=lambda x: body), min likewise: a lambda with one parameter, called once for each item -/
/-- one parameter, no other name of its own: captured ones and globals -/
structure LamP (sc scope : Scope) (x : Str) : Prop where
  kind : scope.kind = .function
  co : scope.isCoroutine = false
  gen : scope.isGenerator = false
  par : scope.names.lookup x = some .local
  own : ∀ y ∈ scope.names, (y.2 = .local → y.1 = x) ∧ y.2 ≠ .cell
  free : ∀ y ∈ scope.names, y.2 = .free → sc.names.lookup y.1 = some .cell ∨ sc.names.lookup y.1 = some .free
def lamPB (sc scope : Scope) (x : Str) : Bool :=
  decide (scope.kind = .function) && !scope.isCoroutine && !scope.isGenerator && decide (scope.names.lookup x = some .local) && scope.names.all fun y => (!decide (y.2 = .local) || decide (y.1 = x)) && !decide (y.2 = .cell) && (!decide (y.2 = .free) || decide (sc.names.lookup y.1 = some .cell) || decide (sc.names.lookup y.1 = some .free))
theorem lamP_by {sc scope : Scope} {x : Str} (h : lamPB sc scope x = true) : LamP sc scope x := by
  unfold lamPB at h
  simp only [Bool.and_eq_true, Bool.or_eq_true, Bool.not_eq_true', decide_eq_true_eq, decide_eq_false_iff_not, List.all_eq_true] at h
  obtain ⟨⟨⟨⟨h1, h2⟩, h3⟩, h5⟩, h4⟩ := h
  refine ⟨h1, h2, h3, h5, fun y hy => ⟨fun e => ?_, (h4 y hy).1.2⟩, fun y hy e => ?_⟩
  · rcases (h4 y hy).1.1 with z | z
    · exact absurd e z
    · exact z
  · rcases (h4 y hy).2 with (z | z) | z
    · exact absurd e z
    · exact .inl z
    · exact .inr z
theorem LamP.has {X : Cx} {scope : Scope} {x : Str} (L : LamP X.env.scope scope x) (ok : X.Ok) : ∀ y ∈ scope.names, y.2 = .free → ∃ c, X.env.cells.lookup y.1 = some c := fun y hy e => by
  rcases L.free y hy e with k | k
  · exact ok.has _ (.inl k)
  · exact ok.has _ (.inr k)
section
variable {X : Cx} {pins : List (Addr × Obj)} {σ : L2.St} {H : Hp} {s : Shared}
theorem lamP_start {A : Around} {outer : List Env} {E : XK} {scope : Scope} {f c' : Addr} {h₁ : Heap} {tk : Nat} {x : Str} {i : Nat} {av : V} {u : Value} (I : Inv X pins σ H s) (L : LamP X.env.scope scope x) (hN : X.N.Nodup) (hi : X.N[i]? = some x) (ru : RelV av u) (e0 : Env0 X.prog X.w X.K X.mg X.base A outer s H) (hd : A.handled = none)
    (hns : h₁.Ns s.heap.objs.size fun y => ([(x, u)] : List (Str × Value)).reverse.lookup y) (kp : ∀ b o, s.heap.get? b = some o → h₁.get? b = some o) :
    Inv (lamCx X A outer s H E scope f c') [] (σ.set i (some av)) H { s with heap := h₁, toks := tk } := by
  have hfree := L.has I.ok
  have cm : ∀ {y c}, (cloFrom X.env.cells scope.names []).lookup y = some c → X.env.cells.lookup y = some c := fun {y c} e => by
    rcases cloFrom_mem (PySem.mem_of_lookup e) with hm | ⟨h1, h2⟩
    · cases hm
    · obtain ⟨c1, hc⟩ := hfree _ h1 rfl
      have hc : X.env.cells.lookup y = some c1 := hc
      have e2 : c = c1 := by
        rw [h2, hc] <;> rfl
      rw [e2]
      exact hc
  have look : ∀ {y}, scope.names.lookup y = some .free → ∃ c, (cloFrom X.env.cells scope.names []).lookup y = some c := fun {y} hl => by
    have hy : (y, NameKind.free) ∈ scope.names := PySem.mem_of_lookup hl
    exact mem_lookup (cloFrom_has (cells := X.env.cells) (acc := []) hy)
  have cellK : ∀ {c : Addr} {v : Option Value}, s.heap.IsCell c v → h₁.IsCell c v := fun {c v} ⟨o, ho, hd⟩ => ⟨_, kp _ _ ho, hd⟩
  have noA : ∀ b : Addr, b ∉ (lamCx X A outer s H E scope f c').ex := fun b z => absurd (show b ∈ ([] : List Addr) from z) (by simp)
  have hiσ : i < σ.length := by rw [I.len]; exact (List.getElem?_eq_some_iff.mp hi).1
  refine ⟨⟨e0.mod, L.kind, rfl, rfl, Nat.le_refl _, fun y z c e1 e2 => I.ok.inj y z c (cm e1) (cm e2), fun y hy => ?_, fun y c z _ => ?_, fun _ => hd, Around.frames_deeper e0.frames, .inr ⟨rfl, rfl⟩, fun b z => absurd z (noA b), e0.bs, e0.bsz, fun b _ _ => noA b,
      fun b z => absurd z (noA b), e0.funs, e0.frf⟩,
    rfl, e0.bare, Un.kept kp, ⟨_, hns, fun j y v e1 e2 e3 => ?_⟩, fun y c e => ?_, e0.hok.fresh (Nat.le_refl _), fun y c e => I.freeC y c (cm e), fun q hq => absurd (show q ∈ ([] : List (Addr × Obj)) ++ [] from hq) (by simp), e0.hok.kept kp, by rw [List.length_set]; exact I.len⟩
  · have hy : scope.names.lookup y = some .cell ∨ scope.names.lookup y = some .free := hy
    rcases hy with hy | hy
    · exact absurd rfl (L.own _ (PySem.mem_of_lookup hy)).2
    · exact look hy
  · have z : false = true := z
    cases z
  · have e3 : Vis scope y := e3
    have e1 : X.N[j]? = some y := e1
    by_cases hj : j = i
    · subst hj
      rw [hi] at e1
      cases e1
      rw [List.getElem?_set_self hiσ] at e2
      cases e2
      exact ⟨u, ru, .inl ⟨L.par, by simp⟩⟩
    · rw [List.getElem?_set_ne (Ne.symm hj)] at e2
      rcases e3 with k | k | k
      · have := (L.own _ (PySem.mem_of_lookup k)).1 rfl
        rw [show y = x from this] at e1
        exact absurd (nodup_ix hN e1 hi) hj
      · exact absurd rfl (L.own _ (PySem.mem_of_lookup k)).2
      · obtain ⟨m, hn, hl⟩ := I.loc
        have hvis : Vis X.env.scope y := (L.free _ (PySem.mem_of_lookup k) rfl).elim (fun k => .inr (.inl k)) (fun k => .inr (.inr k))
        obtain ⟨w', r, q⟩ := hl j y v e1 e2 hvis
        obtain ⟨c2, h2⟩ := look k
        refine ⟨w', r, .inr ⟨.inr k, c2, h2, ?_⟩⟩
        have c1 := cm h2
        rcases q with ⟨k', _⟩ | ⟨_, c3, e', z⟩
        · have k' : X.env.scope.names.lookup y = some .local := k'
          rcases L.free _ (PySem.mem_of_lookup k) rfl with k2 | k2 <;> rw [show X.env.scope.names.lookup y = _ from k2] at k' <;> cases k'
        · rw [c1] at e'
          cases e'
          exact cellK z
  · obtain ⟨w', z⟩ := I.cell y c (cm e)
    exact ⟨w', cellK z⟩
abbrev lamO (X : Cx) (params : Arguments) (body : Expr) (scope : Scope) (pm : Value) (c' : Addr) (ctv : Value) : Obj := PySem.W.kla_obj "<lambda>" (X.env.qual ++ "<lambda>") params body scope (cloFrom X.env.cells scope.names []) pm c' ctv
/-- the lambda called with one value, within a built-in -/
theorem lamP_call {f c' : Addr} {pm ctv : Value} {params : Arguments} {body : Expr} {scope : Scope} {k i : Nat} {x : Str} {tb : TE} {av : V} {u : Value} {Q : VK}
    (I : Inv X pins σ H s) (L : LamP X.env.scope scope x) (hN : X.N.Nodup) (hi : X.N[i]? = some x) (hf : s.heap.get? f = some (lamO X params body scope pm c' ctv)) (hc : H c' = some (CodeO c' (X.env.qual ++ "<lambda>"))) (ru : RelV av u)
    (hbind : bindArgs (PySem.W.kla_fn "<lambda>" (X.env.qual ++ "<lambda>") params body scope (cloFrom X.env.cells scope.names []) pm (.ref c') ctv) ⟨[u], []⟩ = pure [(x, u)]) (hr : Room (k + 1) X.A.in1)
    (hbody : ∀ (A : Around) (outer : List Env) (s : Shared) (H : Hp), Room k (A.deeper (lamEnv X scope s.heap.objs.size f c')) → PE (lamCx X A outer s H E0 scope f c') body tb)
    (h : tb (σ.set i (some av)) H Q) : codeAny (model X.prog X.w) X.A.in1 (.call (.ref f) ⟨[u], []⟩) (CR (L2.CX X.prog X.w) X.stack X.prog X.w H s Q E0) s := by
  have e0 : Env0 X.prog X.w X.K X.mg X.base X.A.in1 X.stack s H := ⟨I.ok.frames, I.ok.mod, I.bs, Nat.le_trans I.ok.bsz I.sz, I.stack, I.stkFree, I.hok, I.bare⟩
  obtain ⟨⟨oc, vs, t, hoc, hdc, hvc⟩, _, _⟩ := I.hok c' _ hc
  refine PySem.W.kla_callFunE hr.depth hf rfl L.co L.gen rfl ⟨c', oc, vs, t, rfl, hoc, hdc, hvc⟩ ?_
  rw [hbind]
  refine wpAny_pure (wpAny_newFunctionEnv (fun y hy => (L.own y hy).2) (fun y hy => by rw [List.mem_singleton.mp hy]; exact L.par) (fun h₁ hns hsb => ⟨I.nolimit.fresh _ hsb, ?_⟩) L.kind)
  show codeAny _ _ (.expr body (lamEnv X scope s.heap.objs.size f c')) _ _
  have kp : ∀ b o, s.heap.get? b = some o → h₁.get? b = some o := fun b o e => hsb.extBut b o (Nat.ne_of_lt (Heap.lt_size e)) (Heap.get?_push_of_some _ e)
  have J : Inv (lamCx X X.A.in1 X.stack s H E0 scope f c') [] (σ.set i (some av)) H { s with heap := h₁, toks := s.toks + ([(x, u)] : List (Str × Value)).length } := lamP_start I L hN hi ru e0 hr.hd hns kp
  refine PySem.W.kla_codeExpr (wpAny_mono ((hbody _ _ s H (hr.deeper _)).run [] _ _ H Q J h) (fun v s' hq => ?_) fun e s' hq => hq)
  obtain ⟨w', H', J', rv, q⟩ := hq
  exact ⟨w', H', J'.os, J'.bare, J'.base, J'.hok, rv, q⟩
/-- untracked records of ours have turned -/
theorem inv_moved {ch : List Addr} {s' : Shared} (I : Inv X pins σ H s) (hf : ∀ b ∈ ch, FpOk X pins H b) (m : Moved ch (fun a b => b = a) s s') : Inv X pins σ H s' := by
  obtain ⟨h', g', d', t', os'⟩ := s'
  obtain rfl : os' = s.os := m.os
  have eg : g' = s.gens := m.gens
  have nch : ∀ b u, H b = some u → b ∉ ch := fun b u e z => by rw [(hf b z).1] at e; cases e
  refine I.step (ch := ch) (fun b hb => let ⟨_, f2, _, f4, f5, f6⟩ := hf b hb; ⟨f4, f2, f5, f6⟩) (fun b o _ _ hc e _ => m.heap b o hc e) (fun b o _ _ hc e _ => ⟨o.slots, m.heap b o hc e⟩) (fun _ _ _ _ n => n)
    (fun b o hc e => ⟨o, m.heap b o hc e⟩) (fun _ _ e => e) (fun _ _ _ e => e) (fun b ps e => ⟨#[], by rw [e]; simp⟩) (fun mm hm => ?_) (fun b u e => ?_) (by rw [eg]; exact I.bare)
  · obtain ⟨o, es, ep, ho, r⟩ := hm
    exact ⟨o, es, ep, m.heap _ o (fun z => (hf _ z).2.1 rfl) ho, r⟩
  · refine (I.hok b u e).stay (fun c v hc q => m.heap c v ?_ q) (fun _ q => q) fun _ _ q => q
    rcases hc with z | z
    · rw [z]; exact nch b u e
    · exact nch c _ z
end
/-- a list's iterator, the list's items told by their values -/
def LSt (it l : Addr) (xs : List V) (i : Nat) (s : Shared) : Prop := s.heap.IsListIter it l i ∧ ∃ its : List Value, Vals xs its ∧ PlainL s.heap l its.toArray
theorem walks_lst {prog : Program} {w : World} {A : Around} (hh : A.handled = none) {it l : Addr} (hne : l ≠ it) (xs : List V) :
    WalksS prog w A it [it, l] [it] (fun a b => b = a) xs.length (fun i v => ∃ x, xs[i]? = some x ∧ RelV x v) (LSt it l xs) where
  sub := fun b hb => by simp at hb; simp [hb]
  grefl := fun _ => rfl
  gtrans := fun _ _ _ h1 h2 => h2.trans h1
  frame := fun i s h' tk st _ hk => by
    obtain ⟨a, its, rv, o, n, e, r⟩ := st
    exact ⟨a.at fun o e => hk it (by simp) o e, its, rv, o, n, hk l (by simp) o e, r⟩
  item := fun i s Q E hi st hQ => by
    obtain ⟨a, its, rv, p⟩ := st
    have hl : its.length = xs.length := rv.length.symm
    have hit : i < its.length := by omega
    refine wpAny_pyNext_list_item a p.isList (x := its[i]) (by simp [hit]) fun h' hit' hs' => ?_
    refine hQ _ _ ⟨xs[i], by simp [hi], ?_⟩ ⟨hit', its, rv, p.extBut hs'.extBut hne⟩ ⟨fun b o hb e => hs'.extBut b o (fun h => hb (by simp [h])) e, rfl, rfl, rfl, Nat.le_refl _⟩
    obtain ⟨u, hu, ru⟩ := rv.get (i := i) (x := xs[i]) (by simp [hi])
    rw [List.getElem?_eq_getElem hit] at hu
    cases hu
    exact ru
  done := fun s Q E st hQ => by
    obtain ⟨a, its, rv, p⟩ := st
    have hl : its.length = xs.length := rv.length.symm
    exact wpAny_pyNext_list_end hh a p.isList (by simp [hl]) fun h' he' => hQ _ ⟨fun b o hb e => he' b o (fun h => hb (by simp [h])) e, rfl, rfl, rfl, Nat.le_refl _⟩
  self := fun i s Q E st hQ => wpAny_pyIter_listiter st.1 hQ
/-- the reading: the keys are told place by place; the heap is kept by the lambda's body -/
def tBestK (gt : Bool) (T : List (Addr × Str)) (i : Nat) (te tb : TE) : TE := fun σ H Q => te σ H fun v H1 => ∃ (p : Addr) (xs : List V) (ks : Nat → Int), v = .ref p ∧ H1 p = some (.lst xs) ∧ 0 < xs.length ∧ Tabs T H1 ∧
  ∀ H2, ExtN H1 H2 → Tabs T H2 → (∀ j x H3, xs[j]? = some x → Evl.Ex H2 H3 → tb (σ.set i (some x)) H3 fun k H4 => k = .int (ks j) ∧ Evl.Ex H3 H4) ∧
    ∀ H3 x, Evl.Ex H2 H3 → xs[argBest (fun a b => if gt then decide (ks a > ks b) else decide (ks a < ks b)) (xs.length - 1)]? = some x → Q x H3
section
variable {X : Cx}
/-- what the lambda's runs keep -/
theorem key_run {pins : List (Addr × Obj)} {σ : L2.St} {H2 : Hp} {f c' p S it : Addr} {pm ctv : Value} {params : Arguments} {body : Expr} {scope : Scope} {k i : Nat} {x : Str} {tb : TE} {xs : List V} {ks : Nat → Int} {op : CmpOp} {bt : Nat → Nat → Bool}
    (hN : X.N.Nodup) (hi : X.N[i]? = some x) (L : LamP X.env.scope scope x) (hr : Room (k + 2) X.A) (hbind : ∀ u, bindArgs (PySem.W.kla_fn "<lambda>" (X.env.qual ++ "<lambda>") params body scope (cloFrom X.env.cells scope.names []) pm (.ref c') ctv) ⟨[u], []⟩ = pure [(x, u)])
    (hbody : ∀ (A : Around) (outer : List Env) (s : Shared) (H : Hp), Room k (A.deeper (lamEnv X scope s.heap.objs.size f c')) → PE (lamCx X A outer s H E0 scope f c') body tb)
    (hco : H2 c' = some (CodeO c' (X.env.qual ++ "<lambda>"))) (hp : H2 p = some (.lst xs)) (hfs : f ∉ frs X.stack) (hSit : S ≠ it)
    (ht : ∀ j y H3, xs[j]? = some y → Evl.Ex H2 H3 → tb (σ.set i (some y)) H3 fun k H4 => k = .int (ks j) ∧ Evl.Ex H3 H4)
    (hcmp : CmpOf X.prog X.w X.A.in1 op (fun i v => ∃ t, v = .int (ks i) t) bt) :
    KeyRun X.prog X.w X.A.in1 (.ref f) op S [it] (fun a b => b = a) xs.length (fun i v => ∃ x, xs[i]? = some x ∧ RelV x v) (LSt it p xs)
      (fun s => ∃ H', Evl.Ex H2 H' ∧ Inv X pins σ H' s ∧ s.heap.get? f = some (lamO X params body scope pm c' ctv) ∧ H' f = none ∧ f ≠ S ∧ f ≠ it ∧ FpOk X pins H' S ∧ FpOk X pins H' it) (fun i v s => ∃ t, v = .int (ks i) t) bt := by
  have nst : ∀ {H' : Hp} {s : Shared} {b : Addr}, Inv X pins σ H' s → FpOk X pins H' b → b ∉ frs X.stack := fun {H' s b} I F z => by
    rcases List.mem_cons.mp (I.stkSub b z) with q | q
    · exact F.2.1 q
    · exact F.2.2.1 q
  refine ⟨fun s s' hJ m => ?_, fun i k s s' h _ => h, fun j v s o Q E hj hP hJ hst hS hQ => ?_, fun i j ki kj s Q E _ h1 h2 hq => hcmp i j ki kj s Q E h1 h2 hq⟩
  · obtain ⟨H', ex, I, hf, fn, n1, n2, FS, Fi⟩ := hJ
    refine ⟨H', ex, inv_moved I (fun b hb => ?_) m, m.heap f _ (fun z => ?_) hf, fn, n1, n2, FS, Fi⟩
    · rcases List.mem_cons.mp hb with z | z
      · rw [z]; exact FS
      · rw [List.mem_singleton.mp z]; exact Fi
    · rcases List.mem_cons.mp z with z | z
      · exact n1 z
      · exact n2 (List.mem_singleton.mp z)
  · obtain ⟨H', ex, I, hf, fn, n1, n2, FS, Fi⟩ := hJ
    obtain ⟨y, hy, ry⟩ := hP
    have rc := lamP_call (Q := fun k H4 => k = .int (ks j) ∧ Evl.Ex H' H4) I L hN hi hf (ex _ _ hco) ry (hbind v) hr.in1 hbody (ht j y H' hy ex)
    refine wpAny_call (codeAny_mono rc fun r s' hq => ?_)
    cases r with
    | error e =>
      obtain ⟨_, _, _, _, _, _, _, _, _, _, _, _, z⟩ := (show L2.CX X.prog X.w X.stack H' s E0 e s' from hq)
      exact z.elim
    | ok fl =>
      cases fl with
      | next => exact False.elim hq
      | brk => exact False.elim hq
      | cont => exact False.elim hq
      | ret u =>
        obtain ⟨kv, H4, os, bare, un, hok, rv, rfl, ex4⟩ := id hq
        have I4 : Inv X pins σ H4 s' := I.call' (ch := []) os un hok bare fun b z => nomatch z
        obtain ⟨⟨oi, hoi, ri⟩, its, rvs, pl⟩ := hst
        have kS := un.keep S o hS FS.1 (nst I FS) (fun z => nomatch z)
        have kI := un.keep it oi hoi Fi.1 (nst I Fi) (fun z => nomatch z)
        have kF := un.keep f _ hf fn hfs (fun z => nomatch z)
        have fS := un.free S o hS FS.1 (fun z => nomatch z)
        have fI := un.free it oi hoi Fi.1 (fun z => nomatch z)
        have fF := un.free f _ hf fn (fun z => nomatch z)
        obtain ⟨its2, rv2, pl2, _⟩ := I4.list (SqL.of ((ex.trans ex4) _ _ hp))
        exact hQ u s' ⟨H4, ex.trans ex4, I4, kF, fF, n1, n2, ⟨fS, FS.2⟩, ⟨fI, Fi.2⟩⟩ ⟨⟨oi, kI, ri⟩, its2, rv2, pl2⟩ kS rv fun j k' h => h
theorem pe_maxK {T : List (Addr × Str)} {c P : Addr} {params : Arguments} {body e : Expr} {scope : Scope} {k i : Nat} {x : Str} {te tb : TE} {p lpos pos kpos : Pos}
    (hr : Room (k + 2) X.A) (hN : X.N.Nodup) (hg : Gl X "max") (hm : X.mg "max" = none) (TB : LamX.TabB X.base X.mg c P) (hcode : X.env.code = .ref c) (hmT : (P, X.env.qual ++ "<lambda>") ∈ T) (hu : ∀ p ∈ T, p.1 = P → p.2 = X.env.qual ++ "<lambda>")
    (L : LamP X.env.scope scope x) (hi : X.N[i]? = some x) (hdef : defaultsOf params X.env = ([], []))
    (hbind : ∀ (q : Str) (cl : List (Str × Addr)) (pm cv ctv u : Value), bindArgs (PySem.W.kla_fn "<lambda>" q params body scope cl pm cv ctv) ⟨[u], []⟩ = pure [(x, u)])
    (he : PE X e te) (hbody : ∀ (A : Around) (outer : List Env) (s : Shared) (H : Hp) (f c' : Addr), Room k (A.deeper (lamEnv X scope s.heap.objs.size f c')) → PE (lamCx X A outer s H E0 scope f c') body tb)
    (hh : X.calm = true) (he2 : backTo pos (starEach [e] X.env) = (false, eval e X.env) :: backTo pos (starEach [] X.env) := by rfl) :
    PE X (.Call (.Name "max" p) [e] [⟨some "key", .Lambda params body scope lpos, kpos⟩] pos) (tBestK true T i te tb) := by
  refine ⟨fun pins s σ H Q I h => ?_⟩
  refine wpAny_Call_Name_kw (ld_blt (u := .builtin "max") I hg hm (by decide +kernel) ?_)
  refine PyProof.Rows.callWith_kw ?_ he2 (by rw [he2]; rfl)
  rw [he2]
  refine Calls.spliced_cons (thn (he.run pins s σ H _ I h) fun u s1 ⟨v, H1, I1, r1, q1⟩ => Calls.spliced_nil ?_)
  obtain ⟨l, xs, ks, rfl, hl, hx, hT, hq⟩ := q1
  obtain rfl : u = Value.ref l := r1
  refine PyProof.Rows.kwAll_cons (lam_make2 I1 TB hcode hmT hu hT hdef (L.has I1.ok) fun f c' pm' ctv H2 s2 I2 eN T2 hf hfn hfr hco => PyProof.Rows.kwAll_nil ?_)
  obtain ⟨ht, hQ⟩ := hq H2 eN T2
  have hl2 : H2 l = some (.lst xs) := eN _ _ hl (fun _ z => nomatch z)
  obtain ⟨its, rv, pl, _⟩ := I2.list (SqL.of hl2)
  refine call_max_walkK (wpAny_pyIter_list pl.isList ?_)
  have I3 : Inv X pins σ H2 { s2 with heap := s2.heap.push { cls := .type "list_iterator", data := .fields #[.ref l, .int 0 0] } } := I2.kept (t' := s2.toks) fun b o e => Heap.get?_push_of_some _ e
  have nli : l ≠ s2.heap.objs.size := Nat.ne_of_lt (I2.hok.lt hl2)
  have nfi : f ≠ s2.heap.objs.size := Nat.ne_of_lt (Heap.lt_size hf)
  refine ⟨s2.heap.objs.size, _, _, _, _, _, _, _, _, _, rfl, walks_lst (A := X.A.in1) (I2.ok.hd hh) nli xs, ⟨⟨_, Heap.get?_push_size _ rfl, rfl, rfl⟩, its, rv, pl.keeps fun b o e => Heap.get?_push_of_some _ e⟩, fun b hb => ?_, hx,
    key_run (pins := pins) (σ := σ) (H2 := H2) (pm := pm') (ctv := ctv) hN hi L hr (fun u => hbind _ _ _ _ _ u) (fun A outer s H r => hbody A outer s H f c' r) hco hl2 hfr ?_ ht (CmpOf.ints_gt ks fun i v h => h), ?_, fun v s' hP hJ => ?_⟩
  · show b < (s2.heap.push _).objs.size
    rw [Heap.size_push]
    rcases List.mem_cons.mp hb with z | z
    · rw [z]; exact Nat.lt_succ_self _
    · rw [List.mem_singleton.mp z]; exact Nat.lt_succ_of_lt (I2.hok.lt hl2)
  · show (s2.heap.push _).objs.size ≠ s2.heap.objs.size
    rw [Heap.size_push]; omega
  · refine ⟨H2, Evl.Ex.refl _, I3, Heap.get?_push_of_some _ hf, hfn, ?_, nfi, I3.fpOk (Nat.le_refl _) (I3.hok.fresh (Nat.le_refl _)), I2.fpOk (Nat.le_refl _) (I2.hok.fresh (Nat.le_refl _))⟩
    show f ≠ (s2.heap.push _).objs.size
    rw [Heap.size_push]
    exact Nat.ne_of_lt (Nat.lt_succ_of_lt (Heap.lt_size hf))
  · obtain ⟨y, hy, ry⟩ := hP
    obtain ⟨H', ex, I', _⟩ := hJ
    exact ⟨y, H', I', ry, hQ H' y ex (by simpa using hy)⟩
theorem pe_minK {T : List (Addr × Str)} {c P : Addr} {params : Arguments} {body e : Expr} {scope : Scope} {k i : Nat} {x : Str} {te tb : TE} {p lpos pos kpos : Pos}
    (hr : Room (k + 2) X.A) (hN : X.N.Nodup) (hg : Gl X "min") (hm : X.mg "min" = none) (TB : LamX.TabB X.base X.mg c P) (hcode : X.env.code = .ref c) (hmT : (P, X.env.qual ++ "<lambda>") ∈ T) (hu : ∀ p ∈ T, p.1 = P → p.2 = X.env.qual ++ "<lambda>")
    (L : LamP X.env.scope scope x) (hi : X.N[i]? = some x) (hdef : defaultsOf params X.env = ([], []))
    (hbind : ∀ (q : Str) (cl : List (Str × Addr)) (pm cv ctv u : Value), bindArgs (PySem.W.kla_fn "<lambda>" q params body scope cl pm cv ctv) ⟨[u], []⟩ = pure [(x, u)])
    (he : PE X e te) (hbody : ∀ (A : Around) (outer : List Env) (s : Shared) (H : Hp) (f c' : Addr), Room k (A.deeper (lamEnv X scope s.heap.objs.size f c')) → PE (lamCx X A outer s H E0 scope f c') body tb)
    (hh : X.calm = true) (he2 : backTo pos (starEach [e] X.env) = (false, eval e X.env) :: backTo pos (starEach [] X.env) := by rfl) :
    PE X (.Call (.Name "min" p) [e] [⟨some "key", .Lambda params body scope lpos, kpos⟩] pos) (tBestK false T i te tb) := by
  refine ⟨fun pins s σ H Q I h => ?_⟩
  refine wpAny_Call_Name_kw (ld_blt (u := .builtin "min") I hg hm (by decide +kernel) ?_)
  refine PyProof.Rows.callWith_kw ?_ he2 (by rw [he2]; rfl)
  rw [he2]
  refine Calls.spliced_cons (thn (he.run pins s σ H _ I h) fun u s1 ⟨v, H1, I1, r1, q1⟩ => Calls.spliced_nil ?_)
  obtain ⟨l, xs, ks, rfl, hl, hx, hT, hq⟩ := q1
  obtain rfl : u = Value.ref l := r1
  refine PyProof.Rows.kwAll_cons (lam_make2 I1 TB hcode hmT hu hT hdef (L.has I1.ok) fun f c' pm' ctv H2 s2 I2 eN T2 hf hfn hfr hco => PyProof.Rows.kwAll_nil ?_)
  obtain ⟨ht, hQ⟩ := hq H2 eN T2
  have hl2 : H2 l = some (.lst xs) := eN _ _ hl (fun _ z => nomatch z)
  obtain ⟨its, rv, pl, _⟩ := I2.list (SqL.of hl2)
  refine call_min_walkK (wpAny_pyIter_list pl.isList ?_)
  have I3 : Inv X pins σ H2 { s2 with heap := s2.heap.push { cls := .type "list_iterator", data := .fields #[.ref l, .int 0 0] } } := I2.kept (t' := s2.toks) fun b o e => Heap.get?_push_of_some _ e
  have nli : l ≠ s2.heap.objs.size := Nat.ne_of_lt (I2.hok.lt hl2)
  have nfi : f ≠ s2.heap.objs.size := Nat.ne_of_lt (Heap.lt_size hf)
  refine ⟨s2.heap.objs.size, _, _, _, _, _, _, _, _, _, rfl, walks_lst (A := X.A.in1) (I2.ok.hd hh) nli xs, ⟨⟨_, Heap.get?_push_size _ rfl, rfl, rfl⟩, its, rv, pl.keeps fun b o e => Heap.get?_push_of_some _ e⟩, fun b hb => ?_, hx,
    key_run (pins := pins) (σ := σ) (H2 := H2) (pm := pm') (ctv := ctv) hN hi L hr (fun u => hbind _ _ _ _ _ u) (fun A outer s H r => hbody A outer s H f c' r) hco hl2 hfr ?_ ht (CmpOf.ints_lt ks fun i v h => h), ?_, fun v s' hP hJ => ?_⟩
  · show b < (s2.heap.push _).objs.size
    rw [Heap.size_push]
    rcases List.mem_cons.mp hb with z | z
    · rw [z]; exact Nat.lt_succ_self _
    · rw [List.mem_singleton.mp z]; exact Nat.lt_succ_of_lt (I2.hok.lt hl2)
  · show (s2.heap.push _).objs.size ≠ s2.heap.objs.size
    rw [Heap.size_push]; omega
  · refine ⟨H2, Evl.Ex.refl _, I3, Heap.get?_push_of_some _ hf, hfn, ?_, nfi, I3.fpOk (Nat.le_refl _) (I3.hok.fresh (Nat.le_refl _)), I2.fpOk (Nat.le_refl _) (I2.hok.fresh (Nat.le_refl _))⟩
    show f ≠ (s2.heap.push _).objs.size
    rw [Heap.size_push]
    exact Nat.ne_of_lt (Nat.lt_succ_of_lt (Heap.lt_size hf))
  · obtain ⟨y, hy, ry⟩ := hP
    obtain ⟨H', ex, I', _⟩ := hJ
    exact ⟨y, H', I', ry, hQ H' y ex (by simpa using hy)⟩
end
end Hid

namespace Hid
open PySem PySem.Spec PyProof.Rows L2 Evl
def OrdT (H : Hp) (v : V) (o : List Str) : Prop := ∃ t, v = .ref t ∧ H t = some (.tup (o.map V.str))
abbrev Ords (H : Hp) (vs : List V) (S : List (List Str)) : Prop := Paired (OrdT H) vs S
theorem Ords.ex {H H' : Hp} {vs : List V} {S : List (List Str)} (h : Ords H vs S) (e : Ex H H') : Ords H' vs S := paired_mono (fun _ _ ⟨t, a, c⟩ => ⟨t, a, e _ _ c⟩) h
theorem Ords.upd {H : Hp} {vs : List V} {S : List (List Str)} {D : Addr} {xs : List V} {o : HO} (hD : H D = some (.lst xs)) (h : Ords H vs S) : Ords (upd H D o) vs S := paired_mono (fun _ _ ⟨t, a, c⟩ => ⟨t, a, by rw [upd_ne (tup_lst c hD)]; exact c⟩) h
theorem flat_len {α : Type} {g : Nat → List α} (B : Nat) : ∀ {l : List Nat}, (∀ j ∈ l, (g j).length ≤ B) → (l.flatMap g).length ≤ l.length * B
  | [], _ => by simp
  | a :: l, h => by
    rw [List.flatMap_cons, List.length_append, List.length_cons, Nat.add_mul]
    have h1 := h a List.mem_cons_self
    have h2 := flat_len B (l := l) fun j hj => h j (List.mem_cons_of_mem _ hj)
    omega
theorem cut_take {xs : List V} (n : Nat) : cutV xs none (some (n : Int)) = xs.take n := by
  unfold cutV
  rw [HT.sIx_nat]
  show List.take (min n xs.length - 0) (List.drop 0 xs) = _
  rw [List.drop_zero, Nat.sub_zero]
  by_cases h : n ≤ xs.length
  · rw [Nat.min_eq_left h]
  · rw [Nat.min_eq_right (by omega), List.take_length, List.take_of_length_le (by omega)]
theorem lc2_of {wi : TI} {g : TG} {tt : TT} {wi1 : TI} {g1 : TG} {tt1 : TT} {te : TE} {vs vs1 : List Nat} {σ : L2.St} {H : Hp} {Q : VK} (h : wi σ H fun J H1 => ∀ D, H1 D = none → ∃ W : Nat → Nat → Hp → Prop, (∃ m, W 0 m (upd H1 D (.lst []))) ∧ Cla J g tt (tIn wi1 g1 tt1 (fun σ H Nx => te σ H fun y H7 => ∃ acc, H7 D = some (.lst acc) ∧ acc.length < sizeLine ∧ Nx (upd H7 D (.lst (acc ++ [y])))) vs1) vs σ (fun H' => Q (.ref D) H') W) : tLc2 wi g tt wi1 g1 tt1 te vs vs1 σ H Q := h
section
variable {K : PySem.W.Frag} {σ : L2.St} {H : Hp} {ta tb te tl : TE}
theorem et_truL {a : Addr} {xs : List V} (h : Ev ta σ H (.ref a)) (hx : SqL K H a xs) : EvT (fun σ H Q => ta σ H fun x H' => ∃ k, TruV K x H' k ∧ Q k H') σ H (!xs.isEmpty) := fun H1 e Q q =>
  h H1 e _ fun H2 e2 => ⟨!xs.isEmpty, .inl ⟨xs, ex_l (e.trans e2) hx, rfl⟩, q H2 e2⟩
theorem el_cat {xs ys : List V} (ha : EvL ta σ H xs) (hb : EvL tb σ H ys) (hl : xs.length + ys.length ≤ 100000) : EvL (tOp rCat ta tb) σ H (xs ++ ys) := fun H1 e Q q =>
  ha H1 e _ fun p H2 hp e2 h2 => hb H2 (e.trans e2) _ fun p' H3 hp' e3 h3 => ⟨p, p', xs, ys, rfl, rfl, e3 _ _ h2, h3, sz_of hl, fun r hr => q r _ (fresh_back (e2.trans e3) hr) ((e2.trans e3).trans (Ex.new hr)) upd_same⟩
end
section
variable {P : Program} {w : World} {K : PySem.W.Frag} {mg : Str → Option Value} {base : Heap}
def sp_ordersN (K : PySem.W.Frag) (ts : List Addr) (n : Nat) : Sp := fun vs H Q _ => ∃ (a : Addr) (ns : List Str), vs = [.ref a] ∧ SqL K H a (ns.map V.str) ∧ ns.length ≤ n ∧ n ≤ 5 ∧ ∀ (p : Addr) (us : List V) (H2 : Hp), H p = none → Ex H H2 → H2 p = some (.lst us) → Ords H2 us (ords ns) → Q (.ref p) H2
theorem ok_ordersZ {ts : List Addr} (D : Df K mg "orders_of" st_orders_of ["names"]) : At P w K mg base "orders_of" st_orders_of 1 ["names"] (sp_ordersN K ts 0) := by
  obtain ⟨f, fd, F, b, g⟩ := D
  refine ⟨f, fd, F, b, g, F.ok sc_orders_of (fun vs H Q E h => ?_) (fun cdv A outer s H vs Q E hr h => ?_)⟩
  · obtain ⟨a, ns, rfl, _⟩ := h
    rfl
  · obtain ⟨a, ns, rfl, ha, hn, hn5, q⟩ := h
    refine ⟨_, (pss_cons (ps_if (pt_not (pt_truth (pv 0) (by intro _; rfl)))
      (pss_one (ps_ret (pe_lst (pa_cons (pe_tup pa_nil) pa_nil))))
      pss_nil)
      (pss_one ps_never)), ?_⟩
    have hns : ns = [] := List.length_eq_zero_iff.mp (by omega)
    subst hns
    refine q_when (b := true) (et_not (a := false) (et_truL (ev_var rfl) ha)) (fun hb H1 e1 => ?_) (fun hb H1 e1 => absurd hb (by decide))
    refine ⟨by show 0 ≤ sizeLine; decide, fun t nt => ⟨by show 1 ≤ sizeLine; decide, fun p np => ?_⟩⟩
    exact q p [.ref t] _ (fresh_back (e1.trans (Ex.new nt)) np) (e1.trans ((Ex.new nt).trans (Ex.new np))) upd_same (.cons ⟨t, rfl, (Ex.new np) _ _ upd_same⟩ .nil)
theorem ok_ordersS {ts : List Addr} {n : Nat} (D : Df K mg "orders_of" st_orders_of ["names"]) (m_enumerate : mg "enumerate" = none) (A_orders_of : At P w K mg base "orders_of" st_orders_of (n + 1) ["names"] (sp_ordersN K ts n)) : At P w K mg base "orders_of" st_orders_of (n + 2) ["names"] (sp_ordersN K ts (n + 1)) := by
  obtain ⟨f, fd, F, b, g⟩ := D
  obtain ⟨f_orders_of, fd_orders_of, F_orders_of, b_orders_of, g_orders_of, G_orders_of⟩ := A_orders_of
  refine ⟨f, fd, F, b, g, F.ok sc_orders_of (fun vs H Q E h => ?_) (fun cdv A outer s H vs Q E hr h => ?_)⟩
  · obtain ⟨a, ns, rfl, _⟩ := h
    rfl
  · obtain ⟨a, ns, rfl, ha, hn, hn5, q⟩ := h
    refine ⟨_, (pss_cons (ps_if (pt_not (pt_truth (pv 0) (by intro _; rfl)))
      (pss_one (ps_ret (pe_lst (pa_cons (pe_tup pa_nil) pa_nil))))
      pss_nil)
      (pss_one (ps_ret (pe_lc2 (own := [("at", 1), ("name", 2), ("rest", 3)]) (vs1 := [3]) (g := gTup K 2 (gCons (gName 1) (gCons (gName 2) gNil))) (g1 := gName 3) (by rfl) sc_orders_of.nd (pi_enum (by rfl) m_enumerate (pa_cons (pv 0) pa_nil)) (blkOk_by (N := ["names", "at", "name", "rest"]) (sc := defScope st_orders_of) (by decide +kernel)) (by decide) (fun _ _ _ _ _ => (pg_tup (by rfl) (pgs_cons (pg_name (i := 1) sc_orders_of.nd rfl (.inl rfl)) (pgs_cons (pg_name (i := 2) sc_orders_of.nd rfl (.inl rfl)) pgs_nil)))) (fun _ _ _ _ _ => pts_nil) (fun _ _ _ _ _ => (show PI _ _ _ (iList K (tCall (sp_ordersN K ts n) [] E0 (tCons _ tNil))) from pi_list (pe_call G_orders_of hr (by rfl) g_orders_of F_orders_of.kp b_orders_of .nil pass0 (pa_cons (pe_op op_cat (pe_slice (show SlR _ (rSlL K) from sl_list) (pv 0) po_none (po_some (pv 1))) (pe_slice (show SlR _ (rSlL K) from sl_list) (pv 0) (po_some (pe_op op_add (pv 1) pe_int)) po_none)) pa_nil)))) (fun _ _ _ _ _ => (pg_name (i := 3) sc_orders_of.nd rfl (.inl rfl))) (fun _ _ _ _ _ => pts_nil) (fun _ _ _ _ _ => (pe_op (show OpR _ (binaryOp .Add) (rCatT K) from op_catT) (pe_tup (pa_cons (pv 2) pa_nil)) (pv 3))))))), ?_⟩
    refine q_when (b := !(!(ns.map V.str).isEmpty)) (et_not (et_truL (ev_var rfl) ha)) (fun hb H1 e1 => ?_) (fun hb H1 e1 => ?_)
    · have hns : ns = [] := by
        cases ns with
        | nil => rfl
        | cons x t => cases hb
      subst hns
      refine ⟨by show 0 ≤ sizeLine; decide, fun t nt => ⟨by show 1 ≤ sizeLine; decide, fun p np => ?_⟩⟩
      exact q p [.ref t] _ (fresh_back (e1.trans (Ex.new nt)) np) (e1.trans ((Ex.new nt).trans (Ex.new np))) upd_same (.cons ⟨t, rfl, (Ex.new np) _ _ upd_same⟩ .nil)
    · obtain ⟨k, hk⟩ : ∃ k, ns.length = k + 1 := by
        cases ns with
        | nil => cases hb
        | cons x t => exact ⟨t.length, rfl⟩
      have cutl : ∀ j, j < ns.length → (ns.take j ++ ns.drop (j + 1)).length = k := fun j hj => by rw [List.length_append, List.length_take, List.length_drop]; omega
      have fb : ∀ j, j < ns.length → (ords (ns.take j ++ ns.drop (j + 1))).length ≤ 120 := fun j hj => by
        unfold ords
        rw [ords_len _ _ rfl, cutl j hj]
        exact facN_le (by omega)
      have hall : ords ns = (List.range ns.length).flatMap fun j => (ords (ns.take j ++ ns.drop (j + 1))).map fun r => ns.getD j "" :: r := by
        unfold ords
        conv => lhs; rw [hk]
        show (List.range ns.length).flatMap _ = _
        rw [List.flatMap_def, List.flatMap_def]
        congr 1
        refine List.map_congr_left fun j hj => ?_
        rw [cutl j (List.mem_range.mp hj)]
      show tLc2 _ _ _ _ _ _ _ _ _ _ _ _
      refine lc2_of ?_
      refine ⟨_, rfl, a, _, rfl, ex_l e1 ha, fun D hD => cla_it (walk_enum (xs := ns.map V.str)) (fun i H' => Ex H1 H' ∧ ∃ us, H' D = some (.lst us) ∧ Ords H' us ((List.range i).flatMap fun j => (ords (ns.take j ++ ns.drop (j + 1))).map fun r => ns.getD j "" :: r)) ⟨Ex.new hD, [], upd_same, .nil⟩ (fun i H' _ hP => ex_l (e1.trans hP.1) ha) (fun i x H2 H2' hi hP hY => ?_) (fun H2 hP => ?_)⟩
      · obtain ⟨e2, us, h2, hp2⟩ := hP
        obtain ⟨T, x1, x2, rfl, hTn, rfl, hx1, hx2⟩ := hY
        cases hx1
        replace hx2 : (ns.map V.str)[i]? = some x2 := hx2
        rw [List.getElem?_map] at hx2
        obtain ⟨z, hz, rfl⟩ := Option.map_eq_some_iff.mp hx2
        rw [List.length_map] at hi
        have hgz : ns.getD i "" = z := by rw [List.getD_eq_getElem?_getD, hz]; rfl
        have eT := Ex.new (o := .tup [.int (i : Nat), .str z]) hTn
        have pl : ((List.range i).flatMap fun j => (ords (ns.take j ++ ns.drop (j + 1))).map fun r => ns.getD j "" :: r).length ≤ 5 * 120 := by
          refine Nat.le_trans (flat_len 120 fun j hj => ?_) (Nat.mul_le_mul_right _ (by rw [List.length_range]; omega))
          rw [List.length_map]
          exact fb j (by have := List.mem_range.mp hj; omega)
        refine ⟨T, [.int (i : Nat), .str z], rfl, st_of upd_same, rfl, _, [_], rfl, _, [], rfl, rfl, rfl, tyes ?_⟩
        have c1 : cutV (ns.map V.str) none (some (i : Int)) = (ns.take i).map V.str := by rw [cut_take, List.map_take]
        have c2 : cutV (ns.map V.str) (some ((i : Int) + 1)) none = (ns.drop (i + 1)).map V.str := by have := cut_drop (xs := ns.map V.str) (i + 1); rw [Int.natCast_add] at this; rw [List.map_drop]; exact this
        have haT := ex_l (e1.trans (e2.trans eT)) ha
        refine (el_cat (el_sl (ev_var rfl) eo_none (eo_some (ev_var rfl)) haT) (el_sl (ev_var rfl) (eo_some (ev_op (ev_var rfl) ev_c rv_I0)) eo_none haT) (by rw [c1, c2, List.length_map, List.length_map, List.length_take, List.length_drop]; omega)) _ (Ex.refl _) _ fun pr H3 npr e3 h3 => ?_
        rw [c1, c2, ← List.map_append] at h3
        refine ⟨pr, ns.take i ++ ns.drop (i + 1), rfl, sq_of h3, by rw [cutl i hi]; omega, by omega, fun pI usI H4 npI e4 h4 hp4 => ?_⟩
        have g24 : Ex H2 H4 := eT.trans (e3.trans e4)
        refine ⟨pI, rfl, ⟨_, sq_of h4⟩, cla_it (walk_list (xs := usI)) (fun j H' => Ex H1 H' ∧ H' pI = some (.lst usI) ∧ Ords H' usI (ords (ns.take i ++ ns.drop (i + 1))) ∧ ∃ us, H' D = some (.lst us) ∧ Ords H' us (((List.range i).flatMap fun j => (ords (ns.take j ++ ns.drop (j + 1))).map fun r => ns.getD j "" :: r) ++ ((ords (ns.take i ++ ns.drop (i + 1))).take j).map fun r => z :: r)) ⟨e2.trans g24, h4, hp4, us, g24 _ _ h2, by rw [List.take_zero, List.map_nil, List.append_nil]; exact hp2.ex g24⟩ (fun j H' _ hP => sq_of hP.2.1) (fun j y H5 H5' hj hP hY => ?_) (fun H5 hP => ?_)⟩
        · obtain ⟨e5, hI5, hpI5, us5, h5, hp5⟩ := hP
          obtain ⟨rfl, hy⟩ := hY
          obtain ⟨o, ho, tr, rfl, htr⟩ := paired_get hpI5 j y hy
          have hto : (ords (ns.take i ++ ns.drop (i + 1))).take (j + 1) = (ords (ns.take i ++ ns.drop (i + 1))).take j ++ [o] := by rw [List.take_add_one, ho]; rfl
          have ol : o.length ≤ 5 := by
            have := (ords_perm _ _ o rfl (List.mem_of_getElem? ho)).length_eq
            rw [cutl i hi] at this
            omega
          have u5 : us5.length ≤ 720 := by
            rw [paired_len hp5, List.length_append, List.length_map, List.length_take]
            have := fb i hi
            omega
          have nDI : D ≠ pI := fun e => by
            have hD2 := h2
            rw [e] at hD2
            have : H2 pI = none := fresh_back (eT.trans e3) npI
            rw [this] at hD2
            cases hD2
          refine ⟨rfl, tyes ⟨_, rfl, by show 1 ≤ sizeLine; decide, fun t nt => ⟨_, rfl, t, tr, [.str z], o.map V.str, rfl, rfl, st_of upd_same, st_of ((Ex.new nt) _ _ htr), by simp, by rw [List.length_map]; exact sz_of (by show 1 + o.length ≤ 100000; omega), fun ho0 => ?_, fun hoN p np => ?_⟩⟩⟩
          · have eN := Ex.new (o := .tup [V.str z]) nt
            have hoe : o = [] := List.map_eq_nil_iff.mp ho0
            refine ⟨us5, eN _ _ h5, sz_lt (by omega), (e5.trans eN).mut hD, by rw [upd_ne nDI.symm]; exact eN _ _ hI5, Ords.upd (eN _ _ h5) (hpI5.ex eN), us5 ++ [.ref t], upd_same, ?_⟩
            rw [hto, List.map_append, ← List.append_assoc]
            refine Ords.upd (eN _ _ h5) (paired_app (hp5.ex eN) (.cons ⟨t, rfl, ?_⟩ .nil))
            rw [hoe]
            exact upd_same
          · have eN := (Ex.new (o := .tup [V.str z]) nt).trans (Ex.new (o := .tup ([V.str z] ++ o.map V.str)) np)
            refine ⟨us5, eN _ _ h5, sz_lt (by omega), (e5.trans eN).mut hD, by rw [upd_ne nDI.symm]; exact eN _ _ hI5, Ords.upd (eN _ _ h5) (hpI5.ex eN), us5 ++ [.ref p], upd_same, ?_⟩
            rw [hto, List.map_append, ← List.append_assoc]
            exact Ords.upd (eN _ _ h5) (paired_app (hp5.ex eN) (.cons ⟨p, rfl, upd_same⟩ .nil))
        · obtain ⟨e5, hI5, hpI5, us5, h5, hp5⟩ := hP
          refine ⟨e5, us5, h5, ?_⟩
          rw [List.take_of_length_le (by rw [paired_len hpI5]; exact Nat.le_refl _)] at hp5
          rw [List.range_succ, List.flatMap_append, List.flatMap_singleton, hgz]
          exact hp5
      · obtain ⟨e2, us, h2, hp2⟩ := hP
        rw [List.length_map, ← hall] at hp2
        exact q D us H2 (fresh_back e1 hD) (e1.trans e2) h2 hp2
def sp_orders_of (K : PySem.W.Frag) (ts : List Addr) : Sp := sp_ordersN K ts 5
theorem ok_orders_of {ts : List Addr} (D : Df K mg "orders_of" st_orders_of ["names"]) (m_enumerate : mg "enumerate" = none) : At P w K mg base "orders_of" st_orders_of 6 ["names"] (sp_orders_of K ts) :=
  ok_ordersS D m_enumerate (ok_ordersS D m_enumerate (ok_ordersS D m_enumerate (ok_ordersS D m_enumerate (ok_ordersS D m_enumerate (ok_ordersZ D)))))
end
end Hid

namespace Hid
open PySem PySem.Spec PyProof.Rows L2 Evl
/-! lists of ints that are known only to be such -/
section
variable {K : PySem.W.Frag} {σ : L2.St} {H : Hp} {ta tb te : TE} {D : Ends} {tz tu : TS}
def EvZ (te : TE) (σ : L2.St) (H : Hp) : Prop := ∀ H1, Ex H H1 → ∀ Q : VK, (∀ (c : Int) H2, Ex H1 H2 → Q (.int c) H2) → te σ H1 Q
def EvI (te : TE) (σ : L2.St) (H : Hp) : Prop := ∀ H1, Ex H H1 → ∀ Q : VK, (∀ p (zs : List Int) H2, Ex H1 H2 → H2 p = some (.lst (zs.map V.int)) → zs.length ≤ 1000 → Q (.ref p) H2) → te σ H1 Q
theorem cut_ints (ns : List Int) (lo hi : Option Int) : ∃ zs : List Int, cutV (ns.map V.int) lo hi = zs.map V.int ∧ zs.length ≤ ns.length := by
  unfold cutV
  refine ⟨(ns.drop (HT.sIx (ns.map V.int).length 0 lo)).take (HT.sIx (ns.map V.int).length (ns.map V.int).length hi - HT.sIx (ns.map V.int).length 0 lo), by rw [List.map_take, List.map_drop], ?_⟩
  rw [List.length_take, List.length_drop]
  omega
theorem ei_cells {tl th : TO} {a : Addr} {ns : List Int} {lo hi : Option Int} (hz : EvZ ta σ H) (h : Ev te σ H (.ref a)) (hs : SqL K H a (ns.map V.int)) (hn : ns.length ≤ 900) (h1 : EvO tl σ H lo) (h2 : EvO th σ H hi) : EvI (tOp rCat (tLst (tCons ta tNil)) (tSl (rSlL K) te tl th)) σ H := fun H1 e Q q =>
  hz H1 e _ fun c H2 e2 => ⟨by show 1 ≤ sizeLine; decide, fun p1 np1 => by
    have f2 := Ex.new (o := .lst [.int c]) np1
    refine (el_sl h h1 h2 hs) _ (e.trans (e2.trans f2)) _ fun p2 H3 np2 e3 h3 => ⟨p1, p2, _, _, rfl, rfl, e3 _ _ upd_same, h3, ?_, fun pl npl => ?_⟩
    · obtain ⟨zs, hz, hl⟩ := cut_ints ns lo hi
      rw [hz, List.length_map]
      exact sz_of (by show 1 + zs.length ≤ 100000; omega)
    · obtain ⟨zs, hz, hl⟩ := cut_ints ns lo hi
      refine q pl (c :: zs) _ (e2.trans (f2.trans (e3.trans (Ex.new npl)))) ?_ (by rw [List.length_cons]; omega)
      rw [upd_same, hz]
      rfl⟩
theorem q_forI {j : Nat} (h : EvI te σ H) (Pv : Hp → Nat → L2.St → Hp → Prop) (h0 : ∀ G, Ex H G → Pv G 0 σ G) (hE : ∀ G i σ' H', Pv G i σ' H' → Ex G H')
    (hs : ∀ G i (z : Int) σ' H', Ex H G → Pv G i σ' H' → tu { D with nx := Pv G (i + 1), ct := Pv G (i + 1), bk := tz D } (σ'.set j (some (.int z))) H') (hd : ∀ G m σ' H', Ex H G → Pv G m σ' H' → tz D σ' H') : tSeq (tFor (iList K te) (gName j) tu) tz D σ H :=
  h H (Ex.refl _) _ fun p zs G g hp hl => ⟨p, rfl, ⟨_, sq_of hp⟩, for_list (K := K) (xs := zs.map V.int) (Pv G) (h0 G g) (fun i σ' H' _ hP => sq_of (hE G i σ' H' hP _ _ hp)) (fun i x σ' H' hx hP => by
    rw [List.getElem?_map] at hx
    obtain ⟨z, _, rfl⟩ := Option.map_eq_some_iff.mp hx
    exact hs G i z σ' H' g hP) (fun σ' H' hP => hd G _ σ' H' g hP)⟩
end
end Hid

namespace Hid
open PySem PySem.Spec PyProof.Rows L2
section
variable {P : Program} {w : World} {K : PySem.W.Frag} {mg : Str → Option Value} {base : Heap} {f : Addr} {fd : FuncData} {ps : List Str} {k : Nat} {sp : Sp}
/-- a def that may raise, its code object known -/
theorem okCX {x qual : Str} {st : Stmt} {N : List Str} {c : Addr} (F : Fun K x qual st f fd) (hc : fd.code = .ref c) (S : FnScope N ps (defScope st)) (len : ∀ vs H Q E, sp vs H Q E → vs.length = ps.length)
    (hbody : ∀ (A : Around) (outer : List Env) (s : Shared) (H : Hp) (vs : List V) (Q : VK) (E : XK), Room k (A.deeper (envOfC qual (defScope st) s.heap.objs.size f (.ref c))) → sp vs H Q E →
      ∃ t, PSs (cxOf (L2.CX P w) P w K mg base N qual (defScope st) f (.ref c) A outer s H E) (defBody st) t ∧ t { nx := fun _ H' => Q .non H', rt := Q } (start N vs) H) : FnOk P w K mg base (L2.CX P w) (k + 1) f fd ps sp := by
  obtain ⟨oc, od, kV, doc, pm, an, cdv, ct, osl, rfl, lk, hcd⟩ := F.ex
  obtain rfl : cdv = .ref c := hc
  exact fn_of lk hcd S len fun A outer s H vs Q E hr hsp => hbody A outer s H vs Q E hr hsp
end
end Hid

namespace Hid
open PySem PySem.Spec PyProof.Rows L2 Evl
abbrev LTab (P : Addr) (H : Hp) : Prop := LamX.Tabs [(P, ("best_order" : Str) ++ ".<locals>." ++ "<lambda>")] H
theorem LTab.ex {P : Addr} {H H' : Hp} (h : LTab P H) (e : Ex H H') : LTab P H' := LamX.Tabs.ext h e
theorem BookF.exN {K : PySem.W.Frag} {H H' : Hp} {v : V} {n : Nat} {rs : List (List Nat × List Nat)} (h : BookF K H v n rs) (e : LamX.ExtN H H') : BookF K H' v n rs := by
  obtain ⟨t, b, vs, rfl, h1, ⟨ob, td, h2⟩, hp⟩ := h
  exact ⟨t, b, vs, rfl, e _ _ h1 (fun _ z => nomatch z), ⟨ob, td, e _ _ h2 (fun _ z => nomatch z)⟩, paired_mono (fun _ _ ⟨t, a, c⟩ => ⟨t, a, e _ _ c (fun _ z => nomatch z)⟩) hp⟩
theorem TB.exN {ts : List Addr} {H H' : Hp} (h : TB ts H) (e : LamX.ExtN H H') : TB ts H' := fun P hP => e _ _ (h P hP) (fun _ z => nomatch z)
theorem ords_ok {n : Nat} {rs : List (List Nat × List Nat)} (hBk : BookOk n rs) {o : List Str} (ho : o ∈ ords (srt (rs.map fun p => tx p.1))) : o.Nodup ∧ o.length ≤ 10 ∧ ∀ x ∈ o, ∃ p ∈ rs, x = tx p.1 := by
  have nmd : (rs.map fun p => tx p.1).Nodup := by
    have := nodup_tx hBk.hd
    rw [List.map_map] at this
    exact this
  have hpm : o.Perm (rs.map fun p => tx p.1) := (ords_perm _ _ o rfl ho).trans (List.mergeSort_perm _ _)
  refine ⟨hpm.nodup_iff.mpr nmd, by rw [hpm.length_eq, List.length_map]; exact hBk.hl, fun x hx => ?_⟩
  obtain ⟨p, hp, rfl⟩ := List.mem_map.mp (hpm.mem_iff.mp hx)
  exact ⟨p, hp, rfl⟩
/-- the best order, and how many rows it settles -/
def bestB (rs : List (List Nat × List Nat)) (ys : List Str) : List Str := (ords (srt (rs.map fun p => tx p.1))).getD (bst (fun o => (stl (rowOf rs) ys o).1.length) (ords (srt (rs.map fun p => tx p.1)))) []
def manyB (rs : List (List Nat × List Nat)) (ys : List Str) : Nat := (stl (rowOf rs) ys (bestB rs ys)).1.length
theorem flat_lenL {α β : Type} {g : α → List β} (B : Nat) : ∀ {l : List α}, (∀ j ∈ l, (g j).length ≤ B) → (l.flatMap g).length ≤ l.length * B
  | [], _ => by simp
  | a :: l, h => by
    rw [List.flatMap_cons, List.length_append, List.length_cons, Nat.add_mul]
    have h1 := h a List.mem_cons_self
    have h2 := flat_lenL B (l := l) fun j hj => h j (List.mem_cons_of_mem _ hj)
    omega
section
variable {P : Program} {w : World} {K : PySem.W.Frag} {mg : Str → Option Value} {base : Heap}
def sp_best_order (K : PySem.W.Frag) (ts : List Addr) (c_LAM : Addr) (c_NoHalf : Addr) (c_NoRoom : Addr) : Sp := fun vs H Q E => ∃ (bv v : V) (n : Nat) (rs : List (List Nat × List Nat)) (o : Option (List (Option (List Nat)))), vs = [bv, v] ∧ BookF K H bv n rs ∧ BookOk n rs ∧ YgOk K H v o ∧ lenO o ≤ 100 ∧ TB ts H ∧ LTab c_LAM H ∧ (¬ knO n o → ∀ H2, Ex H H2 → E (.ref c_NoHalf) none H2) ∧ (knO n o → 5 < rs.length → ∀ H2, Ex H H2 → E (.ref c_NoRoom) none H2) ∧ (knO n o → rs.length ≤ 5 → ∀ v3 H2, LamX.ExtN H H2 → LTab c_LAM H2 → Q v3 H2)
theorem ok_best_order {cc : Addr} {ts : List Addr} {tMO : Tok} {c_NoHalf : Addr} {c_NoRoom : Addr} {c_LAM : Addr} {fI : Addr} {fdI : FuncData} (D : DfC K mg "best_order" st_best_order ["book", "known"] cc) (B_best_order : GxR.TabB base mg cc c_LAM) (m_len : mg "len" = none) (m_max : mg "max" = none) (c_MOST_ORDERED : mg "MOST_ORDERED" = some (.int 5 tMO)) (hI : HIn P w K mg base fI fdI) (E_NoHalf : ErrC K mg "NoHalf" c_NoHalf fI) (E_NoRoom : ErrC K mg "NoRoom" c_NoRoom fI) (A_are_known : At P w K mg base "are_known" st_are_known 5 ["book", "thing"] (sp_are_known K ts)) (A_orders_of : At P w K mg base "orders_of" st_orders_of 6 ["names"] (sp_orders_of K ts)) (A_names_in : At P w K mg base "names_in" st_names_in 1 ["book"] (sp_names_in K ts)) (A_steps_by : At P w K mg base "steps_by" st_steps_by 8 ["book", "known", "order"] (sp_steps_by K ts)) : AtX P w K mg base "best_order" st_best_order 11 ["book", "known"] (sp_best_order K ts c_LAM c_NoHalf c_NoRoom) := by
  obtain ⟨f, fd, F, b, g, hcd⟩ := D
  obtain ⟨f_are_known, fd_are_known, F_are_known, b_are_known, g_are_known, G_are_known⟩ := A_are_known
  obtain ⟨f_orders_of, fd_orders_of, F_orders_of, b_orders_of, g_orders_of, G_orders_of⟩ := A_orders_of
  obtain ⟨f_names_in, fd_names_in, F_names_in, b_names_in, g_names_in, G_names_in⟩ := A_names_in
  obtain ⟨f_steps_by, fd_steps_by, F_steps_by, b_steps_by, g_steps_by, G_steps_by⟩ := A_steps_by
  refine ⟨f, fd, F, b, g, okCX F hcd sc_best_order (fun vs H Q E h => ?_) (fun A outer s H vs Q E hr h => ?_)⟩
  · obtain ⟨bv, v, n, rs, o, rfl, _⟩ := h
    rfl
  · obtain ⟨bv, v, n, rs, o, rfl, hB, hBk, hv, hl, hT, hL, q1, q2, q⟩ := h
    have tk : Takes (cxOf (L2.CX P w) P w K mg base ["book", "known", "best", "order"] "best_order" (defScope st_best_order) f (.ref cc) A outer s H E) (fun cls d _ H => E cls d H) := takes_of rfl rfl rfl rfl
    have psO : PassesOwn (model P w) (cxOf (L2.CX P w) P w K mg base ["book", "known", "best", "order"] "best_order" (defScope st_best_order) f (.ref cc) A outer s H E).A (cxOf (L2.CX P w) P w K mg base ["book", "known", "best", "order"] "best_order" (defScope st_best_order) f (.ref cc) A outer s H E).env (cxOf (L2.CX P w) P w K mg base ["book", "known", "best", "order"] "best_order" (defScope st_best_order) f (.ref cc) A outer s H E).xe := passes_of rfl
    refine ⟨_, (pss_cons (ps_if (pt_not (pt_val (pe_call G_are_known (hr.mono (by decide)) (by rfl) g_are_known F_are_known.kp b_are_known .nil pass0 (pa_cons (pv 0) (pa_cons (pv 1) pa_nil)))))
      (pss_one (ps_raise rfl tk (Hid.pmk_none E_NoHalf.oex E_NoHalf.ini hI.2.1 hI.2.2 (hr.mono (by decide)) hI.1 .nil pass0 (by rfl) E_NoHalf.glob (pa_cons pe_str pa_nil))))
      pss_nil)
      (pss_cons (ps_if (pt_cmpR op_gt (pe_callB call_len_seq (by rfl) m_len (by decide +kernel) (pa_cons (pe_ix ix_tup (pv 0) pe_int (fun _ _ => rfl)) pa_nil)) (pe_glob (v := .int 5) (by rfl) c_MOST_ORDERED ⟨_, rfl⟩) (nomark _))
      (pss_one (ps_raise rfl tk (Hid.pmk_none E_NoRoom.oex E_NoRoom.ini hI.2.1 hI.2.2 (hr.mono (by decide)) hI.1 .nil pass0 (by rfl) E_NoRoom.glob (pa_cons pe_str pa_nil))))
      pss_nil)
      (pss_cons (ps_set (i := 2) sc_best_order.nd rfl (.inl rfl) (Hid.pe_maxK (T := [(c_LAM, ("best_order" : Str) ++ ".<locals>." ++ "<lambda>")]) (k := 8) (i := 3) (hr.mono (by decide)) sc_best_order.nd (by rfl) m_max ⟨B_best_order.code, B_best_order.bm, B_best_order.gP⟩ rfl (List.mem_singleton.mpr rfl) (fun p hp _ => congrArg Prod.snd (List.mem_singleton.mp hp)) (Hid.lamP_by (sc := defScope st_best_order) (by decide +kernel)) rfl rfl (fun _ _ _ _ _ _ => rfl) (pe_call G_orders_of (hr.mono (by decide)) (by rfl) g_orders_of F_orders_of.kp b_orders_of .nil pass0 (pa_cons (pe_call G_names_in (hr.mono (by decide)) (by rfl) g_names_in F_names_in.kp b_names_in .nil pass0 (pa_cons (pv 0) pa_nil)) pa_nil)) (fun _ _ _ _ _ _ hr => (pe_callB (show CallR _ (.builtin "len") (Evl.rLenS K) from call_len_seq) (by rfl) m_len (by decide +kernel) (pa_cons (pe_ix (show IxR _ (rIxT K) from ix_tup) (pe_call G_steps_by (hr.mono (by decide)) (by rfl) g_steps_by F_steps_by.kp b_steps_by .nil pass0 (pa_cons (pv 0) (pa_cons (pv 1) (pa_cons (pv 3) pa_nil)))) pe_int (fun _ _ => rfl)) pa_nil))) rfl))
      (pss_one (ps_ret (pe_tup (pa_cons (pe_callB call_len_seq (by rfl) m_len (by decide +kernel) (pa_cons (pe_ix ix_tup (pe_call G_steps_by (hr.mono (by decide)) (by rfl) g_steps_by F_steps_by.kp b_steps_by .nil pass0 (pa_cons (pv 0) (pa_cons (pv 1) (pa_cons (pv 2) pa_nil)))) pe_int (fun _ _ => rfl)) pa_nil)) (pa_cons (pv 2) pa_nil)))))))), ?_⟩
    obtain ⟨b1, hb1⟩ : ∃ b : Bool, b = true ↔ knO n o := by
      by_cases h : knO n o
      · exact ⟨true, fun _ => h, fun _ => rfl⟩
      · exact ⟨false, fun z => absurd z (by decide), fun z => absurd z h⟩
    refine q_when (b := !b1) (et_not (et_B (b := b1) (ev_call (ea_cons (ev_var rfl) (ea_cons (ev_var rfl) ea_nil)) fun G g Q1 q1 E1 => ⟨bv, n, rs, v, o, b1, rfl, hB.ex g, hBk.hn, hv.ex g, hl, hb1, hT.ex g, q1⟩))) (fun hb H1 e1 => ?_) (fun hb H1 e1 => ?_)
    · refine ⟨by show 1 ≤ 1000; decide, fun a na => ⟨a, c_NoHalf, _, rfl, E_NoHalf.oex, upd_same, rfl, upd_same, q1 (fun h => ?_) _ (e1.trans (ex_del na))⟩⟩
      rw [hb1.mpr h] at hb
      cases hb
    have hk1 : knO n o := hb1.mp (by cases b1 <;> first | rfl | cases hb)
    have q9 := q hk1
    have q8 := q2 hk1
    clear q q1 q2
    cases o with
    | none => exact hk1.elim
    | some os =>
    obtain ⟨ys, rfl, hhf, hri⟩ := hk1
    obtain ⟨t, vs1, rfl, ht, hp1⟩ := hv
    obtain rfl := strs_of hp1
    have hyl : ys.length ≤ 100 := by have : (ys.map fun y => some (zl y)).length ≤ 100 := hl; rw [List.length_map] at this; exact this
    obtain ⟨tb, b, vs, rfl, hBt, hBb, hBp⟩ := id hB
    have hvl : vs.length = rs.length := paired_len hBp
    refine q_when (b := decide (5 < rs.length)) (et_is (et_test (ev_op (ev_lenT (ev_op (ev_var rfl) ev_c (rv_ixT (st_of (e1 _ _ hBt)) (atI_nat (j := 1) rfl))) (hBb.ex e1).sq) ev_c rv_I0)) (by rw [hvl]; exact decide_eq_decide.mpr (by omega))) (fun hb2 H2 e2 => ?_) (fun hb2 H2 e2 => ?_)
    · exact ⟨by show 1 ≤ 1000; decide, fun a na => ⟨a, c_NoRoom, _, rfl, E_NoRoom.oex, upd_same, rfl, upd_same, q8 (of_decide_eq_true hb2) _ (e1.trans (e2.trans (ex_del na)))⟩⟩
    have hr5 : rs.length ≤ 5 := by have := of_decide_eq_false hb2; omega
    have q9 := q9 hr5
    have nmd : (rs.map fun p => tx p.1).Nodup := by
      have := nodup_tx hBk.hd
      rw [List.map_map] at this
      exact this
    have snl : (srt (rs.map fun p => tx p.1)).length = rs.length := by rw [(List.mergeSort_perm _ _).length_eq, List.length_map]
    have hos : ∀ o ∈ ords (srt (rs.map fun p => tx p.1)), o.Nodup ∧ o.length ≤ 10 ∧ ∀ x ∈ o, ∃ p ∈ rs, x = tx p.1 := fun o ho => ords_ok hBk ho
    have h0 : 0 < (ords (srt (rs.map fun p => tx p.1))).length := by
      obtain ⟨r, hr⟩ := ords_head _ (srt (rs.map fun p => tx p.1)) rfl
      unfold ords
      rw [hr]
      exact Nat.succ_pos _
    have many_at : ∀ {σ : L2.St} {G : Hp} {Qm : VK} {i : Nat} {to : Addr} {o : List Str}, o ∈ ords (srt (rs.map fun p => tx p.1)) → σ[0]? = some (some (.ref tb)) → σ[1]? = some (some (.ref t)) → σ[i]? = some (some (.ref to)) → LamX.ExtN H G → G to = some (.tup (o.map V.str)) → (∀ G2, Ex G G2 → Qm (.int ((stl (rowOf rs) ys o).1.length : Nat)) G2) → tCB (rLenS K) (tCons (tOp (rIxT K) (tCall (sp_steps_by K ts) [] E0 (tCons (tVar 0) (tCons (tVar 1) (tCons (tVar i) tNil)))) (tC (.int 0))) tNil) σ G Qm := fun {σ G Qm i to o} ho s0 s1 si eN hto qm => by
      obtain ⟨o1, o2, o3⟩ := hos o ho
      refine c_call (ea_cons (ev_var s0) (ea_cons (ev_var s1) (ea_cons (ev_var si) ea_nil))) fun G1 g1 => ⟨.ref tb, n, rs, t, to, ys, o, rfl, (hB.exN eN).ex g1, hBk, g1 _ _ (eN _ _ ht (fun _ z => nomatch z)), g1 _ _ hto, ⟨hri, hyl, hhf⟩, ⟨o1, o2, o3⟩, (hT.exN eN).ex g1, fun a2 b2 c2 us2 H7 e7 _ _ _ hc2 ha2 hu2 _ => ?_⟩
      refine ⟨c2, [.ref a2, .ref b2], 0, .ref a2, rfl, rfl, st_of hc2, rfl, a2, us2, rfl, .inl (sq_of ha2), ?_⟩
      rw [paired_len hu2]
      exact qm H7 (g1.trans e7)
    have e02 := e1.trans e2
    refine (el_call (ea_cons (ev_var rfl) ea_nil) (fun G g Q1 q1 E1 => ⟨.ref tb, n, rs, rfl, hB.ex (e02.trans g), by omega, q1⟩)) H2 (Ex.refl _) _ fun pn H3 npn e3 h3 => ⟨pn, srt (rs.map fun p => tx p.1), rfl, sq_of h3, by omega, by decide, fun p us H4 np e4 h4 ho4 => ?_⟩
    have e04 : Ex H H4 := e02.trans (e3.trans e4)
    have ul : us.length = (ords (srt (rs.map fun p => tx p.1))).length := paired_len ho4
    refine ⟨p, us, fun j => ((stl (rowOf rs) ys ((ords (srt (rs.map fun p => tx p.1))).getD j [])).1.length : Nat), rfl, h4, by omega, hL.ex e04, fun H5 eN5 T5 => ⟨fun j x H6 hx e6 => ?_, fun H6 x e6 hx => ?_⟩⟩
    · have eN6 : LamX.ExtN H H6 := ((LamX.ExtN.of e04).trans eN5).trans (LamX.ExtN.of e6)
      obtain ⟨o, ho, to, rfl, hto⟩ := paired_get ho4 j x hx
      have hg : (ords (srt (rs.map fun p => tx p.1))).getD j [] = o := by rw [List.getD_eq_getElem?_getD, ho]; rfl
      refine many_at (i := 3) (List.mem_of_getElem? ho) rfl rfl rfl eN6 (e6 _ _ (eN5 _ _ hto (fun _ z => nomatch z))) fun G2 g2 => ⟨congrArg (fun z : List Str => V.int ((stl (rowOf rs) ys z).1.length : Nat)) hg.symm, g2⟩
    · have eN6 : LamX.ExtN H H6 := ((LamX.ExtN.of e04).trans eN5).trans (LamX.ExtN.of e6)
      rw [ul] at hx
      obtain ⟨o, ho, to, rfl, hto⟩ := paired_get ho4 _ x hx
      have hto6 := e6 _ _ (eN5 _ _ hto (fun _ z => nomatch z))
      have hbo : bestB rs ys = o := by
        unfold bestB bst
        rw [List.getD_eq_getElem?_getD]
        have ho' := ho
        simp only [if_true] at ho'
        rw [ho']
        rfl
      show tCB (rLenS K) (tCons (tOp (rIxT K) (tCall (sp_steps_by K ts) [] E0 (tCons (tVar 0) (tCons (tVar 1) (tCons (tVar 2) tNil)))) (tC (.int 0))) tNil) ([some (.ref tb), some (.ref t), some (.ref to), none] : L2.St) H6 fun x H1 => tVar 2 ([some (.ref tb), some (.ref t), some (.ref to), none] : L2.St) H1 fun y H2 => 2 ≤ sizeLine ∧ ∀ p, H2 p = none → Q (.ref p) (upd H2 p (.tup [x, y]))
      refine many_at (i := 2) (List.mem_of_getElem? ho) rfl rfl rfl eN6 hto6 fun G2 g2 => ⟨_, rfl, by decide, fun c nc => ?_⟩
      have eC := Ex.new (o := .tup [.int ((stl (rowOf rs) ys o).1.length : Nat), .ref to]) nc
      exact q9 _ _ (eN6.trans (LamX.ExtN.of (g2.trans eC))) ((LTab.ex T5 (e6.trans (g2.trans eC))))
end
end Hid

namespace Hid
open PySem PySem.Spec PyProof.Rows L2 Evl
/-! C.m(e, ..), C a class of the text's, m a def of its: the def itself is called -/
def tCDef (C : Addr) (sp : Sp) (dvs : List V) (E : XK) (ta : TE) (t : TA) : TE := fun σ H Q => ta σ H fun x H1 => x = .ref C ∧ t σ H1 fun vs H2 => sp (vs ++ dvs) H2 Q E
theorem pe_cdef {X : Cx} {CX : CXT} {o e : Expr} {es : List Expr} {ta : TE} {t : TA} {m : Str} {C f : Addr} {mc : Value} {fd : FuncData} {ps : List Str} {sp : Sp} {ds : List Value} {dvs : List V} {E : XK} {k : Nat} {pos apos : Pos} {pl : Sem Bool} (he : PE X o ta) (r : ClX.CRead X.K C mc) (at_ : PySem.W.findCls X.K (.ref C) mc m = some (.val (.ref f))) (F : FnOk X.prog X.w X.K X.mg X.base CX k f fd ps sp) (hr : Room k X.A) (hk : PySem.W.keepIn X.K (.ref f) = true) (hb : Binds X.K fd ps ds) (hd : Vals dvs ds) (hx : Passes CX X E) (ha : PA X (e :: es) t)
    (hst : starEach (e :: es) X.env = (false, eval e X.env) :: starEach es X.env := by rfl) (hpl : (backTo pos (starEach es X.env)).any (·.1) = false := by rfl)
    (ht : eval (.Call (.Attribute o m apos) (e :: es) [] pos) X.env = (do
      let ov ← eval o X.env
      standAt apos.atName
      let (f, first) ← holding [ov] (getMethod ov m pl)
      callWith pos f first (backTo pos (starEach (e :: es) X.env)) (backToKw pos (keywordEach [] X.env))) := by rfl) :
    PE X (.Call (.Attribute o m apos) (e :: es) [] pos) (tCDef C sp dvs E ta t) := by
  refine ⟨fun pins s σ H Q I h => ?_⟩
  refine PySem.W.methodCall_KW (pl := pl) (thn (he.run pins s σ H _ I h) fun u s1 ⟨x, H1, I1, rx, ex, q⟩ => ?_) ht
  subst ex
  obtain rfl : u = Value.ref C := rx
  refine PySem.W.method_cls I1.kIn r.ga (ClX.getcval_ok (v := .ref f) I1 r ⟨at_, rfl⟩ fun s2 I2 => ?_)
  refine PySem.W.callWith_K (h₀ := X.base) I2.ok.mod.kin hk (thn (ha.run pos pins s2 σ H1 _ I2 q) fun us s3 ⟨vs, H2, I3, r3, q2⟩ => ⟨I3.kIn, ?_⟩) hst hpl
  exact run_fn F hr hb hd hx I3 r3 q2
end Hid

namespace Hid
open PySem PySem.Spec PyProof.Rows L2 Evl
/-! refusals with one field: the class's own __init__ calls the base's and lays the field -/
/-- __init__ of a class whose one argument becomes the field f -/
def sp_finit (K : PySem.W.Frag) (f : Str) : Sp := fun vs H Q _ => ∃ (a C : Addr) (y : V), vs = [.ref a, y] ∧ OexC K C ∧ PySem.W.findIn K (.ref C) f = some none ∧ H a = some (exo a C none) ∧
  ∀ (d : Addr) (H2 : Hp), H d = none → d ≠ a → H2 = upd (upd H d (exd d [(f, y)])) a (exo a C (some d)) → Q .non H2
structure ErrF (P : Program) (w : World) (K : PySem.W.Frag) (mg : Str → Option Value) (base : Heap) (x f : Str) (C fX : Addr) (fdX : FuncData) : Prop where
  oex : OexC K C
  ini : PySem.W.findIn K (.ref C) "__init__" = some (some (.ref fX))
  glob : mg x = some (.ref C)
  ty : PySem.W.typeIn K (.ref fX) = some (.type "function")
  fn : FnOk P w K mg base CX0 2 fX fdX ["self", f] (sp_finit K f)
  bn : Binds K fdX ["self", f] []
  nof : PySem.W.findIn K (.ref C) f = some none
section
variable {K : PySem.W.Frag} {σ : L2.St} {H : Hp} {te : TE}
theorem mk_fld {C : Addr} {f : Str} {y : V} {Q : XK} (hO : OexC K C) (hf : PySem.W.findIn K (.ref C) f = some none) (h : Ev te σ H y)
    (q : ∀ (d : Addr) (H2 : Hp), H d = none → Ex H H2 → H2 d = some (.xd [(f, y)]) → Q (.ref C) (some d) H2) : tMkO C (sp_finit K f) [] (tCons te tNil) σ H Q := h H (Ex.refl H) _ fun H1 e1 =>
  ⟨by show 1 ≤ 1000; decide, fun a na => ⟨a, C, y, rfl, hO, hf, upd_same, fun d H2 hd hda e2 => by
    subst e2
    have hd1 : H1 d = none := by rw [upd_ne hda] at hd; exact hd
    refine ⟨rfl, d, [(f, y)], upd_same, by rw [upd_ne hda]; exact upd_same, hd1, q d _ (fresh_back e1 hd1) ?_ upd_same⟩
    intro b o hb
    have hb1 := e1 _ _ hb
    have hbd : b ≠ d := fun z => by rw [z, hd1] at hb1; cases hb1
    have hba : b ≠ a := fun z => by rw [z, na] at hb1; cases hb1
    rw [upd_ne hbd, del_ne hba, upd_ne hba, upd_ne hbd, upd_ne hba]
    exact hb1⟩⟩
/-- the field read in the suite that holds the refusal -/
theorem ev_fld {a d C : Addr} {f : Str} {y : V} (h : Ev te σ H (.ref a)) (hd : H d = some (.xd [(f, y)])) : Ev (tXf a (.ref C) (some d) C f te) σ H y := fun H1 e Q q =>
  h H1 e _ fun H2 e2 => ⟨rfl, rfl, d, _, y, rfl, e2 _ _ (e _ _ hd), by simp [List.lookup], q H2 e2⟩
end
end Hid

namespace Hid
open PySem PySem.Spec PyProof.Rows L2 Evl
/-- isinstance(e, (C, ..)), e an exception that was kept -/
def rIsXT (K : PySem.W.Frag) : List V → Hp → VK → Prop := fun xs H Q => ∃ (a D p : Addr) (cs : List Addr) (b : Bool), xs = [.ref a, .ref p] ∧ H a = some (ExcX a (.ref D) none) ∧ ExcC K D ∧ H p = some (.tup (cs.map V.ref)) ∧ PySem.W.kitAny K (.ref D) (cs.map Value.ref) = some b ∧ Q (.bl b) H
theorem refs_vals : ∀ {cs : List Addr} {its : List Value}, Vals (cs.map V.ref) its → its = cs.map Value.ref
  | [], _, .nil => rfl
  | _ :: _, _, .cons rx rr => by
    cases rx
    rw [refs_vals rr]
    rfl
theorem call_isXT {X : Cx} : CallR X (.builtin "isinstance") (rIsXT X.K) := by
  intro pins s σ H xs us Q I r h
  obtain ⟨a, D, p, cs, b, rfl, ha, C, hp, e, q⟩ := h
  cases r with
  | cons rx rr =>
    cases rr with
    | cons rt rr =>
      cases rr
      cases rx
      cases rt
      obtain ⟨⟨oe, vs, hget, hz, hv⟩, _⟩ := I.hok a _ ha
      have J : PySem.W.InstAt s.heap a oe D none := by
        obtain ⟨oc, od, oda, osl⟩ := oe
        obtain ⟨h1, h2⟩ := hz
        dsimp only at h1 h2 hv
        subst h1 h2 hv
        exact ⟨hget, rfl, rfl, trivial⟩
      obtain ⟨hlen, its, hv2, ⟨⟨tc, td, tda, tsl⟩, ho, hc, n, hd⟩⟩ := I.hok p _ hp
      dsimp only at hc hd
      subst hc hd
      obtain rfl := refs_vals hv2
      exact PySem.W.kia_tup (PySem.W.handS_kitx_exc C.hg C.hk C.hs C.hd C.ha C.hn C.ht C.hm) I.kIn J ho e (fun z => nomatch z) fun tk => ⟨.bl b, H, I.kept (t' := tk) fun _ _ z => z, rfl, q⟩
/-- l.count(x), by data -/
def rCountD (K : PySem.W.Frag) : V → List V → Hp → VK → Prop := fun x xs H Q => ∃ (a : Addr) (y : V) (d : PyData) (ds : List PyData), x = V.ref a ∧ xs = [y] ∧ Dp K H (V.ref a) (.list ds) ∧ Dp K H y d ∧
  SeqAt.shaped (.list ds) = true ∧ SeqAt.shaped d = true ∧ Q (.int (ds.countP fun z => PyData.eqv z d : Nat)) H
theorem mt_countD {X : Cx} (hu : X.A.units + 65 < cLine) : MtR X "list.count" (rCountD X.K) := by
  intro pins s σ H x xs v us Q I rx rxs h
  obtain ⟨a, y, d, ds, rfl, rfl, hl, hy, sl, sd, q⟩ := h
  cases rx
  cases rxs with
  | cons ry rt =>
    rename_i uy ut
    cases rt
    obtain ⟨bs, r1⟩ := Dp.reads I d y uy hy ry
    have hxs : PyData.canLayAll0 ds = true := SeqAt.canLay_of_shaped sl
    have hroom : X.A.units + 1 + min (PyData.depthAll ds) d.depth < cLine := room_in_shaped sd hu
    cases hl with
    | lst hs ha =>
      obtain ⟨its, rv, ⟨⟨cls, dd, data, sls⟩, n, ho, hc, hdn, hdt⟩, hlen⟩ := I.list hs
      simp only at hc hdt
      subst hc hdt
      obtain ⟨as, h4⟩ := Dp.readsAll I ds _ its ha rv
      have hmap : its.map (SeqAt.readOf s.heap) = ds := SeqAt.readsAll_map ds its as hxs h4
      refine call_meets PySem.F.slot_list_count ⟨_, ho, rfl⟩ PySem.F.entry_list_count (PySem.F.args_list_count_2 _ _)
        (SeqAt.list_countAt a its.toArray n dd sls uy (fun u => PyData.eqv (SeqAt.readOf s.heap u) d)) ⟨ho, SeqAt.items_eqAt (vs := its.toArray) (show ReadsAll s.heap its.toArray.toList ds as from h4) r1 hxs (SeqAt.canLay_of_shaped sd) hroom, ?_⟩
      have ec : its.toArray.toList.countP (fun u => PyData.eqv (SeqAt.readOf s.heap u) d) = ds.countP fun z => PyData.eqv z d := by
        rw [← hmap, List.countP_map]
        rfl
      refine ⟨.int (ds.countP fun z => PyData.eqv z d : Nat), H, I.tok _, ⟨s.toks, ?_⟩, q⟩
      rw [← ec]
/-- the i-th slot holds the def at f, which may raise -/
def tCallLS (i : Nat) (f : Addr) (sp : Sp) (E : L2.St → XK) (t : TA) : TE := fun σ H Q => σ[i]? = some (some (.ref f)) ∧ t σ H fun vs H1 => sp vs H1 Q (E σ)
section
variable {X : Cx} {CX : CXT} {k i : Nat} {f : Addr} {fd : FuncData} {ps : List Str} {sp : Sp} {E : L2.St → XK} {x : Str} {p pos : Pos} {e : Expr} {es : List Expr} {t : TA} {t1 t2 : TE}
theorem pe_callLS (F : FnOk X.prog X.w X.K X.mg X.base CX k f fd ps sp) (hr : Room k X.A) (hN : X.N[i]? = some x) (hv : Vis X.env.scope x) (hk : PySem.W.keepIn X.K (.ref f) = true) (hb : Binds X.K fd ps []) (hx : ∀ σ, PassesAt CX X σ (E σ)) (ha : PA X (e :: es) t)
    (hdb : (x == ("__debug__" : Str)) = false := by decide) (hcd : (x == ("__classdict__" : Str)) = false := by decide)
    (he : starEach (e :: es) X.env = (false, eval e X.env) :: starEach es X.env := by rfl) (hpl : (backTo pos (starEach es X.env)).any (·.1) = false := by rfl) : PE X (.Call (.Name x p) (e :: es) [] pos) (tCallLS i f sp E t) := by
  refine ⟨fun pins s σ H Q I h => ?_⟩
  obtain ⟨hs, ht⟩ := h
  refine wpAny_Call_Name_kw (thn ((pe_var (pos := p) hN hv hdb hcd).run pins s σ H (fun v H1 => v = .ref f ∧ H1 = H) I ⟨.ref f, hs, rfl, rfl⟩) fun u s1 ⟨v, H1, I1, r1, q1⟩ => ?_)
  obtain ⟨rfl, rfl⟩ := q1
  cases r1
  refine PySem.W.callWith_K (h₀ := X.base) I.ok.mod.kin hk (thn (ha.run pos pins s1 σ _ _ I1 ht) fun us s2 ⟨vs, H2, I2, r, q⟩ => ⟨I2.kIn, ?_⟩) he hpl
  exact run_fnS F hr hb (hx σ) I2 r q
def tOrE (t1 t2 : TE) : TE := fun σ H Q => t1 σ H Q ∨ t2 σ H Q
theorem pe_orE {e : Expr} (h1 : PE X e t1) (h2 : PE X e t2) : PE X e (tOrE t1 t2) := ⟨fun pins s σ H Q I h => h.elim (fun z => h1.run pins s σ H Q I z) fun z => h2.run pins s σ H Q I z⟩
end
/-- a def at an address that may raise, and what it promises -/
def HeldX (P : Program) (w : World) (K : PySem.W.Frag) (mg : Str → Option Value) (base : Heap) (k : Nat) (f : Addr) (ps : List Str) (sp : Sp) : Prop := ∃ fd, FnOk P w K mg base (L2.CX P w) k f fd ps sp ∧ PySem.W.keepIn K (.ref f) = true ∧ Binds K fd ps []
section
variable {K : PySem.W.Frag} {σ : L2.St} {H : Hp} {ta : TE} {tc : TA}
theorem ev_isXT {a D : Addr} {cs : List Addr} {b : Bool} (ha : Ev ta σ H (.ref a)) (hc : EvA tc σ H (cs.map V.ref)) (hl : cs.length ≤ 100) (hx : H a = some (ExcX a (.ref D) none)) (C : ExcC K D) (e : PySem.W.kitAny K (.ref D) (cs.map Value.ref) = some b) : Ev (tCB (rIsXT K) (tCons ta (tCons (tTup tc) tNil))) σ H (.bl b) := fun H1 e1 Q q =>
  ha H1 e1 _ fun H2 e2 => (eu_tup hc (by rw [List.length_map]; omega)) H2 (e1.trans e2) _ fun p H3 np e3 h3 => ⟨a, D, p, cs, b, rfl, e3 _ _ (e2 _ _ (e1 _ _ hx)), C, h3, e, q H3 (e2.trans e3)⟩
end
end Hid
namespace Hid
open L2
theorem u65 {k : Nat} {A : PySem.Around} (r : Room k A) : A.units + 65 < PySem.cLine := by have := r.un; omega
end Hid

namespace Hid
open PySem PySem.Spec PyProof.Rows L2 Evl
open L2H (RoomH PinOk cxH inv_startH)
/-! defs called from an except suite, with the refusal that the suite holds among what they are handed: p is that refusal -/
structure FnP (P : Program) (w : World) (K : PySem.W.Frag) (mg : Str → Option Value) (base : Heap) (k : Nat) (f : Addr) (fd : FuncData) (ps : List Str) (sp : Addr × Obj → Sp) : Prop where
  len : ∀ p vs H Q, sp p vs H Q E0 → vs.length = ps.length
  run : ∀ (A : Around) (outer : List Env) (s : Shared) (H : Hp) (us : List Value) (vs : List V) (Q : VK) (p : Addr × Obj), RoomH k A → PinOk outer H s p → Env0 P w K mg base A outer s H →
    BindsTo s fd ⟨us, []⟩ (ps.zip us) → Vals vs us → sp p vs H Q E0 → codeAny (model P w) A (.call (.ref f) ⟨us, []⟩) (CR CX0 outer P w H s Q E0) s
def AtP (P : Program) (w : World) (K : PySem.W.Frag) (mg : Str → Option Value) (base : Heap) (x : Str) (st : Stmt) (n : Nat) (ps : List Str) (sp : Addr × Obj → Sp) : Prop :=
  ∃ (f : Addr) (fd : FuncData), Fun K x x st f fd ∧ Binds K fd ps [] ∧ mg x = some (.ref f) ∧ FnP P w K mg base n f fd ps sp
theorem rmH {k : Nat} {A : Around} {v : Option Value} (r : Room k A) : RoomH k (A.mark v) := ⟨r.dp, r.un⟩
section
variable {P : Program} {w : World} {K : PySem.W.Frag} {mg : Str → Option Value} {base : Heap}
theorem okP {x qual : Str} {st : Stmt} {f : Addr} {fd : FuncData} {N ps : List Str} {k : Nat} {sp : Addr × Obj → Sp} (F : Fun K x qual st f fd) (S : FnScope N ps (defScope st)) (len : ∀ p vs H Q, sp p vs H Q E0 → vs.length = ps.length)
    (body : ∀ (cdv : Value) (A : Around) (outer : List Env) (s : Shared) (H : Hp) (vs : List V) (Q : VK) (p : Addr × Obj), RoomH k (A.deeper (envOfC qual (defScope st) s.heap.objs.size f cdv)) → sp p vs H Q E0 →
      ∃ t, PSs (cxH CX0 P w K mg base N qual (defScope st) f cdv A outer s H E0 p) (defBody st) t ∧ t { nx := fun _ H' => Q .non H', rt := Q } (L2.start N vs) H) : FnP P w K mg base (k + 1) f fd ps sp := by
  obtain ⟨oc, od, kV, doc, pm, an, cdv, ct, osl, rfl, lk, hcd⟩ := F.ex
  refine ⟨len, fun A outer s H us vs Q p hr pin e0 hb r h => ?_⟩
  have nl := len _ _ _ _ h
  have kin : K.In s.heap := e0.mod.kin.keeps fun b o z => (e0.bs b o z).1
  have nolim : s.heap.NoLimit := e0.mod.nolimit.keeps fun b o z => (e0.bs b o z).1
  refine codeAny_call_function hr.depth (kin _ _ lk) rfl S.co S.gen rfl (PySem.W.codeRec_of kin hcd) (hb _ _ _ _ (wpAny_newFunctionEnv_cells S.kind (fun y hy => ?_) fun env he s1 x => ?_))
  · exact (S.par y.1 (List.of_mem_zip (show (y.1, y.2) ∈ ps.zip us from hy)).1).elim .inl fun z => .inr ⟨z, PySem.W.cellsFrom_some _ _ _ (.inl z)⟩
  · subst he
    obtain ⟨t, ht, q⟩ := body cdv A outer s H vs Q p (hr.deeper _) h
    have J := inv_startH (CX := CX0) (P := P) (w := w) (K := K) (mg := mg) (base := base) (N := N) (f := f) (A := A) (E := E0) S pin e0 nl r x
    refine ⟨nolim.keeps x.toInCall.keep, codeAny_func (wpAny_mono (ht.run [] s1 (L2.start N vs) H _ J q) (fun fl s' z => ?_) fun e s' z => z)⟩
    cases fl with
    | ret u => obtain ⟨v, σ', H', J', rv, q'⟩ := z; exact ⟨v, H', J'.os, J'.bare, J'.base, J'.hok, rv, q'⟩
    | next => obtain ⟨σ', H', J', q'⟩ := z; exact ⟨V.non, H', J'.os, J'.bare, J'.base, J'.hok, rfl, q'⟩
    | brk => exact z.elim fun _ z => z.elim fun _ z => z.2.elim
    | cont => exact z.elim fun _ z => z.elim fun _ z => z.2.elim
end
def tCallP (sp : Addr × Obj → Sp) (a : Addr) (cls : Value) (d : Option Addr) (t : TA) : TE := fun σ H Q => t σ H fun vs H1 => ∀ oe : Obj, Zc cls d oe → (∃ us, oe.data = .fields us) → sp (a, oe) vs H1 Q E0
section
variable {X : Cx} {k : Nat} {f : Addr} {fd : FuncData} {ps : List Str} {sp : Addr × Obj → Sp} {x : Str} {q pos : Pos} {e : Expr} {es : List Expr} {t : TA} {a : Addr} {oe : Obj} {cls : Value} {d : Option Addr}
theorem pe_callP (F : FnP X.prog X.w X.K X.mg X.base k f fd ps sp) (hr : RoomH k X.A) (hp : (a, oe) ∈ X.pn) (hz : Zc cls d oe) (hf : ∃ us, oe.data = .fields us) (hg : Gl X x) (hm : X.mg x = some (.ref f)) (hk : PySem.W.keepIn X.K (.ref f) = true) (hb : Binds X.K fd ps [])
    (ha : PA X (e :: es) t) (hdb : (x == ("__debug__" : Str)) = false := by decide) (he : starEach (e :: es) X.env = (false, eval e X.env) :: starEach es X.env := by rfl) (hpl : (backTo pos (starEach es X.env)).any (·.1) = false := by rfl) :
    PE X (.Call (.Name x q) (e :: es) [] pos) (tCallP sp a cls d t) := by
  refine ⟨fun pins s σ H Q I h => wpAny_Call_Name_kw (ld_glob I hg hm (PySem.W.callWith_K (h₀ := X.base) I.ok.mod.kin hk (thn (ha.run pos pins s σ H _ I h) fun us s1 ⟨vs, H1, I1, r, q0⟩ => ⟨I1.kIn, ?_⟩) he hpl) hdb)⟩
  have q1 := q0 oe hz hf
  have b := hb s1 us I1.kIn (by rw [List.append_nil, ← r.length]; exact F.len _ _ _ _ q1)
  rw [List.append_nil] at b
  obtain ⟨g1, g2, g3, g4, g5⟩ := I1.pin (a, oe) (List.mem_append_left _ hp)
  refine wpAny_call (codeAny_mono (F.run X.A X.stack s1 H1 us vs Q (a, oe) hr ⟨g1, g2, fun z => (List.mem_cons.mp (I1.stkSub a z)).elim g3 g4, g5⟩ I1.env0 b r q1) fun r' s' z => ?_)
  cases r' with
  | error er => exact z.elim
  | ok fl =>
    cases fl with
    | ret u => exact I1.after z
    | next => exact z.elim
    | brk => exact z.elim
    | cont => exact z.elim
end
/-! what the refusal's own dict is: none, or one that is told -/
def DxOk (d : Option Addr) (H : Hp) : Prop := d = none ∨ ∃ dd fs, d = some dd ∧ H dd = some (.xd fs)
theorem DxOk.ex {d : Option Addr} {H H' : Hp} (h : DxOk d H) (e : Ex H H') : DxOk d H' := h.imp id fun ⟨dd, fs, h1, h2⟩ => ⟨dd, fs, h1, e _ _ h2⟩
theorem inst_of {X : Cx} {a D : Addr} {oe : Obj} {d : Option Addr} {pins : List (Addr × Obj)} {σ : L2.St} {H : Hp} {s : Shared} (hp : (a, oe) ∈ X.pn) (hz : Zc (.ref D) d oe) (hf : ∃ vs, oe.data = .fields vs) (I : Inv X pins σ H s) (hd : DxOk d H) :
    ∃ od, PySem.W.InstAt s.heap a oe D od := by
  obtain ⟨g1, _⟩ := I.pin (a, oe) (List.mem_append_left _ hp)
  obtain ⟨vs, hv⟩ := hf
  have nc : PySem.W.notCls oe = true := by unfold PySem.W.notCls; rw [hv] <;> rfl
  rcases hd with rfl | ⟨dd, fs, rfl, hx⟩
  · exact ⟨none, g1, hz.1, nc, by rw [hz.2]; exact trivial⟩
  · have ox : ObjOk X.prog X.w H s.heap dd (.xd fs) := I.hok dd _ hx
    obtain ⟨mA, hns, _⟩ := ox
    obtain ⟨od, ho, _⟩ := lookIn_ns hns
    exact ⟨some od, g1, hz.1, nc, by rw [hz.2]; exact ho⟩
def rIsP (K : PySem.W.Frag) (cls : Value) (d : Option Addr) (a : Addr) : List V → Hp → VK → Prop := fun xs H Q => ∃ (D : Addr) (c : V) (cv : Value) (b : Bool), (cls = .ref D ∧ ExcC K D ∧ DxOk d H) ∧ xs = [.ref a, c] ∧ (∀ u, RelV c u → u = cv) ∧ PySem.W.kitOne K (.ref D) cv = some b ∧ Q (.bl b) H
def rIsPT (K : PySem.W.Frag) (cls : Value) (d : Option Addr) (a : Addr) : List V → Hp → VK → Prop := fun xs H Q => ∃ (D p : Addr) (cs : List Addr) (b : Bool), (cls = .ref D ∧ ExcC K D ∧ DxOk d H) ∧ xs = [.ref a, .ref p] ∧ H p = some (.tup (cs.map V.ref)) ∧ PySem.W.kitAny K (.ref D) (cs.map Value.ref) = some b ∧ Q (.bl b) H
theorem kit_of {K : PySem.W.Frag} {D : Addr} {x : Addr} {ox : Obj} {od : Option Obj} (C : ExcC K D) : PySem.W.KitX K (.ref x) (.ref D) (fun h => PySem.W.InstAt h x ox D od) :=
  PySem.W.kitx_exc (by obtain ⟨cd, hc, _⟩ := PySem.W.any_some C.hd; rw [hc]; rfl) C.hg C.hk C.hs C.ha C.hn C.ht C.hm
theorem call_isP {X : Cx} {a : Addr} {cls : Value} {d : Option Addr} {oe : Obj} (hp : (a, oe) ∈ X.pn) (hz : Zc cls d oe) (hf : ∃ vs, oe.data = .fields vs) : CallR X (.builtin "isinstance") (rIsP X.K cls d a) := by
  intro pins s σ H xs us Q I r h
  obtain ⟨D, c, cv, b, ⟨rfl, C, hd⟩, rfl, hcv, e, q⟩ := h
  match us, r with
  | [_, u], .cons rx (.cons rt .nil) =>
    cases rx
    obtain rfl := hcv _ rt
    obtain ⟨od, J⟩ := inst_of hp hz hf I hd
    exact PySem.W.kia_one (kit_of C) I.kIn J e (fun z => nomatch z) fun tk => ⟨.bl b, H, I.kept (t' := tk) fun _ _ z => z, rfl, q⟩
theorem call_isPT {X : Cx} {a : Addr} {cls : Value} {d : Option Addr} {oe : Obj} (hp : (a, oe) ∈ X.pn) (hz : Zc cls d oe) (hf : ∃ vs, oe.data = .fields vs) : CallR X (.builtin "isinstance") (rIsPT X.K cls d a) := by
  intro pins s σ H xs us Q I r h
  obtain ⟨D, p, cs, b, ⟨rfl, C, hd⟩, rfl, ht, e, q⟩ := h
  match us, r with
  | [_, u], .cons rx (.cons rt .nil) =>
    cases rx
    cases rt
    obtain ⟨od, J⟩ := inst_of hp hz hf I hd
    obtain ⟨hlen, its, hv2, ⟨⟨tc, td, tda, tsl⟩, ho, hc, n, hdt⟩⟩ := I.hok p _ ht
    dsimp only at hc hdt
    subst hc hdt
    obtain rfl := refs_vals hv2
    exact PySem.W.kia_tup (kit_of C) I.kIn J ho e (fun z => nomatch z) fun tk => ⟨.bl b, H, I.kept (t' := tk) fun _ _ z => z, rfl, q⟩
/-- e.f, e the refusal -/
theorem pe_fldP {X : Cx} {a C : Addr} {oe : Obj} {cls : Value} {d : Option Addr} {e : Expr} {te : TE} {pos : Pos} {n : Str} (T : XfC X.K C) (hno : PySem.W.findIn X.K (.ref C) n = some none) (hp : (a, oe) ∈ X.pn)
    (hz : Zc cls d oe) (hf : ∃ vs, oe.data = .fields vs) (he : PE X e te) (hb : attributeBase e n X.env (eval e X.env) = eval e X.env := by rfl) : PE X (.Attribute e n pos) (tXf a cls d C n te) := by
  refine ⟨fun pins s σ H Q I h => attr_of hb (thn (he.run pins s σ H _ I h) fun u s1 z => ?_)⟩
  obtain ⟨x, H1, I1, rx, rfl, rfl, dd, fs, v, rfl, ea, l, q⟩ := z
  obtain rfl : u = Value.ref a := rx
  obtain ⟨g1, _⟩ := I1.pin (a, oe) (List.mem_append_left _ hp)
  obtain ⟨vs, hv⟩ := hf
  have ox : ObjOk X.prog X.w H1 s1.heap dd (.xd fs) := I1.hok dd _ ea
  obtain ⟨mA, hns, hr⟩ := ox
  obtain ⟨od, ho, hl⟩ := lookIn_ns hns
  obtain ⟨u, hu, ru⟩ := RelO.some_of (v := v) (o := mA n) (by rw [← l]; exact hr n)
  exact HandSPX.exc_get I1.kIn (⟨g1, hz.1, (by unfold PySem.W.notCls; rw [hv] <;> rfl), by rw [hz.2]; exact ho⟩ : PySem.W.InstAt s1.heap a oe C (some od)) T.ga T.gg T.exC (PySem.W.findObj_own T.hdC hno rfl (by rw [hl, hu])) (handed_of ru) ⟨v, H1, I1.tok _, ru, q⟩
section
variable {K : PySem.W.Frag} {σ : L2.St} {H : Hp} {ta tb tc : TE} {a D : Addr} {d : Option Addr}
theorem ev_isP {c : V} {cv : Value} {b : Bool} (ha : Ev ta σ H (.ref a)) (hc : Ev tc σ H c) (C : ExcC K D) (hd : DxOk d H) (hcv : ∀ u, RelV c u → u = cv) (e : PySem.W.kitOne K (.ref D) cv = some b) : Ev (tCB (rIsP K (.ref D) d a) (tCons ta (tCons tc tNil))) σ H (.bl b) := fun H1 e1 Q q =>
  ha H1 e1 _ fun H2 e2 => hc H2 (e1.trans e2) _ fun H3 e3 => ⟨D, c, cv, b, ⟨rfl, C, hd.ex (e1.trans (e2.trans e3))⟩, rfl, hcv, e, q H3 (e2.trans e3)⟩
theorem ev_isPr {C' : Addr} {b : Bool} (ha : Ev ta σ H (.ref a)) (C : ExcC K D) (hd : DxOk d H) (e : PySem.W.kitOne K (.ref D) (.ref C') = some b) : Ev (tCB (rIsP K (.ref D) d a) (tCons ta (tCons (tC (.ref C')) tNil))) σ H (.bl b) := ev_isP ha ev_c C hd (fun u r => r) e
theorem ev_isPt {n : String} {b : Bool} (ha : Ev ta σ H (.ref a)) (C : ExcC K D) (hd : DxOk d H) (e : PySem.W.kitOne K (.ref D) (.type n) = some b) : Ev (tCB (rIsP K (.ref D) d a) (tCons ta (tCons (tC (.ty n)) tNil))) σ H (.bl b) := ev_isP ha ev_c C hd (fun u r => r) e
theorem ev_isPT {ts : TA} {cs : List Addr} {b : Bool} (ha : Ev ta σ H (.ref a)) (ht : EvA ts σ H (cs.map V.ref)) (hl : cs.length ≤ 100) (C : ExcC K D) (hd : DxOk d H) (e : PySem.W.kitAny K (.ref D) (cs.map Value.ref) = some b) : Ev (tCB (rIsPT K (.ref D) d a) (tCons ta (tCons (tTup ts) tNil))) σ H (.bl b) := fun H1 e1 Q q =>
  ha H1 e1 _ fun H2 e2 => (eu_tup ht (by rw [List.length_map]; omega)) H2 (e1.trans e2) _ fun p H3 np e3 h3 => ⟨D, p, cs, b, ⟨rfl, C, hd.ex (e1.trans (e2.trans e3))⟩, rfl, h3, e, q H3 (e2.trans e3)⟩
theorem ev_callP {sp : Addr × Obj → Sp} {cls : Value} {ts : TA} {vs : List V} {z : V} (h : EvA ts σ H vs) (hs : ∀ H1, Ex H H1 → ∀ oe : Obj, Zc cls d oe → (∃ us, oe.data = .fields us) → ∀ Q : VK, (∀ H2, Ex H1 H2 → Q z H2) → sp (a, oe) vs H1 Q E0) : Ev (tCallP sp a cls d ts) σ H z := fun H1 e Q q =>
  h H1 e _ fun H2 e2 oe hz hf => hs H2 (e.trans e2) oe hz hf _ fun H3 e3 => q H3 (e2.trans e3)
end
end Hid

namespace Hid
open PySem PySem.Spec PyProof.Rows L2 Evl
section
variable {K : PySem.W.Frag} {σ : L2.St} {H : Hp} {ta : TE} {tc : TA}
theorem ev_cntB {l : Addr} {bs : List Bool} (ha : Ev ta σ H (.ref l)) (hl : H l = some (.lst (bs.map V.bl))) : Ev (tBM K "list" (rCountD K) ta (tCons (tC (.bl true)) tNil)) σ H (.int ((bs.map PyData.bool).countP fun z => PyData.eqv z (.bool true) : Nat)) := fun H1 e Q q =>
  ha H1 e _ fun H2 e2 => ⟨.inl ⟨rfl, _, sq_of ((e.trans e2) _ _ hl)⟩, l, .bl true, .bool true, bs.map PyData.bool, rfl, rfl, .lst (sq_of ((e.trans e2) _ _ hl)) (bools_dp bs), .bl true, shaped_bools bs, by decide, q H2 e2⟩
theorem ev_ixB {l : Addr} {bs : List Bool} {j : Nat} (ha : Ev ta σ H (.ref l)) (hl : H l = some (.lst (bs.map V.bl))) (hj : bs[j]? = some true) (hn : ∀ m, m < j → bs[m]? = some false) : Ev (tBM K "list" (rIndexD K) ta (tCons (tC (.bl true)) tNil)) σ H (.int (j : Nat)) := fun H1 e Q q =>
  ha H1 e _ fun H2 e2 => ⟨.inl ⟨rfl, _, sq_of ((e.trans e2) _ _ hl)⟩, l, .bl true, .bool true, bs.map PyData.bool, j, .bool true, rfl, rfl, .lst (sq_of ((e.trans e2) _ _ hl)) (bools_dp bs), .bl true, shaped_bools bs, by decide, by rw [List.getElem?_map, hj]; rfl, by decide, fun m z hm hz => by
    rw [List.getElem?_map, hn m hm] at hz
    cases hz
    decide, q H2 e2⟩
end
theorem u65H {k : Nat} {A : PySem.Around} (r : L2H.RoomH k A) : A.units + 65 < PySem.cLine := by have := r.un; omega
section
variable {K : PySem.W.Frag} {σ : L2.St} {H : Hp} {D : Ends} {tz : L2.TS}
theorem q_tryC {sp : Sp} {E : Ends → L2.St → XK} {ts : TA} {vs : List V} (h : EvA ts σ H vs) (k : ∀ G, Ex H G → sp vs G (fun _ H' => tz D σ H') (E { D with nx := tz D } σ)) : tSeq (fun D σ H => tDrop (tCallS sp (E D) ts) D σ H) tz D σ H := h H (Ex.refl _) _ k
theorem ret_callP {sp : Addr × Obj → Sp} {a : Addr} {cls : Value} {d : Option Addr} {ts : TA} {vs : List V} (h : EvA ts σ H vs) (k : ∀ G, Ex H G → ∀ oe : Obj, Zc cls d oe → (∃ us, oe.data = .fields us) → sp (a, oe) vs G D.rt E0) : tRet (tCallP sp a cls d ts) D σ H := h H (Ex.refl _) _ fun G g oe hz hf => k G g oe hz hf
end
section
variable {P : Program} {w : World} {K : PySem.W.Frag} {mg : Str → Option Value} {base : Heap}
def sp__law_sort (K : PySem.W.Frag) (ts : List Addr) (c_NoCall : Addr) (c_NoFit : Addr) (c_NoKnot : Addr) (c_NoLikeness : Addr) (c_NoName : Addr) (c_NoNumber : Addr) (c_NoParting : Addr) (c_NoPlace : Addr) (c_NoRow : Addr) (c_NoRule : Addr) (c_NoText : Addr) (c_NoTree : Addr) (c_NoUndo : Addr) (c_NoHalf : Addr) (c_NoOrder : Addr) (c_NoRoom : Addr) : Addr × Obj → Sp := fun p vs H Q _ => ∃ (cls : Value) (d : Option Addr) (D : Addr) (b1 b2 b3 : Bool), vs = [.ref p.1] ∧ Zc cls d p.2 ∧ (∃ us, p.2.data = .fields us) ∧ cls = .ref D ∧ ExcC K D ∧ DxOk d H ∧ PySem.W.kitAny K (.ref D) [.ref c_NoCall, .ref c_NoFit, .ref c_NoKnot, .ref c_NoLikeness, .ref c_NoName, .ref c_NoNumber, .ref c_NoParting, .ref c_NoPlace, .ref c_NoRow, .ref c_NoRule] = some false ∧ PySem.W.kitAny K (.ref D) [.ref c_NoText, .ref c_NoTree, .ref c_NoUndo] = some false ∧ PySem.W.kitOne K (.ref D) (.type "ValueError") = some true ∧ PySem.W.kitOne K (.ref D) (.ref c_NoHalf) = some b1 ∧ PySem.W.kitOne K (.ref D) (.ref c_NoOrder) = some b2 ∧ PySem.W.kitOne K (.ref D) (.ref c_NoRoom) = some b3 ∧ ((b1 = true ∧ b2 = false ∧ b3 = false ∧ RetV (.str "half") H Q) ∨ (b1 = false ∧ b2 = true ∧ b3 = false ∧ RetV (.str "order") H Q) ∨ (b1 = false ∧ b2 = false ∧ b3 = true ∧ RetV (.str "room") H Q))
theorem ok__law_sort {ts : List Addr} {c_NoRule : Addr} {c_NoRow : Addr} {c_NoPlace : Addr} {c_NoParting : Addr} {c_NoNumber : Addr} {c_NoName : Addr} {c_NoLikeness : Addr} {c_NoKnot : Addr} {c_NoFit : Addr} {c_NoCall : Addr} {c_NoUndo : Addr} {c_NoTree : Addr} {c_NoText : Addr} {c_NoRoom : Addr} {c_NoOrder : Addr} {c_NoHalf : Addr} (D : Df K mg "_law_sort" st__law_sort ["_law_e"]) (m_isinstance : mg "isinstance" = none) (m_ValueError : mg "ValueError" = none) (gc_NoRule : mg "NoRule" = some (.ref c_NoRule)) (gc_NoRow : mg "NoRow" = some (.ref c_NoRow)) (gc_NoPlace : mg "NoPlace" = some (.ref c_NoPlace)) (gc_NoParting : mg "NoParting" = some (.ref c_NoParting)) (gc_NoNumber : mg "NoNumber" = some (.ref c_NoNumber)) (gc_NoName : mg "NoName" = some (.ref c_NoName)) (gc_NoLikeness : mg "NoLikeness" = some (.ref c_NoLikeness)) (gc_NoKnot : mg "NoKnot" = some (.ref c_NoKnot)) (gc_NoFit : mg "NoFit" = some (.ref c_NoFit)) (gc_NoCall : mg "NoCall" = some (.ref c_NoCall)) (gc_NoUndo : mg "NoUndo" = some (.ref c_NoUndo)) (gc_NoTree : mg "NoTree" = some (.ref c_NoTree)) (gc_NoText : mg "NoText" = some (.ref c_NoText)) (gc_NoRoom : mg "NoRoom" = some (.ref c_NoRoom)) (gc_NoOrder : mg "NoOrder" = some (.ref c_NoOrder)) (gc_NoHalf : mg "NoHalf" = some (.ref c_NoHalf)) : AtP P w K mg base "_law_sort" st__law_sort 1 ["_law_e"] (sp__law_sort K ts c_NoCall c_NoFit c_NoKnot c_NoLikeness c_NoName c_NoNumber c_NoParting c_NoPlace c_NoRow c_NoRule c_NoText c_NoTree c_NoUndo c_NoHalf c_NoOrder c_NoRoom) := by
  obtain ⟨f, fd, F, b, g⟩ := D
  refine ⟨f, fd, F, b, g, okP F sc__law_sort (fun p vs H Q h => ?_) (fun cdv A outer s H vs Q p hr h => ?_)⟩
  · obtain ⟨cls, d, D, b1, b2, b3, rfl, _⟩ := h
    rfl
  · obtain ⟨a, oe⟩ := p
    obtain ⟨cls, d, D, b1, b2, b3, rfl, hz, hf, hc, C, hd, k10, k3, kv, kb1, kb2, kb3, q⟩ := h
    refine ⟨_, (pss_cons (ps_set (i := 1) sc__law_sort.nd rfl (.inl rfl) (pe_callB (show CallR _ (.builtin "isinstance") (Hid.rIsPT K cls d a) from Hid.call_isPT (List.mem_singleton.mpr rfl) hz hf) (by rfl) m_isinstance (by decide +kernel) (pa_cons (pv 0) (pa_cons (pe_tup (pa_cons (pe_glob (v := .ref c_NoCall) (by rfl) gc_NoCall rfl) (pa_cons (pe_glob (v := .ref c_NoFit) (by rfl) gc_NoFit rfl) (pa_cons (pe_glob (v := .ref c_NoKnot) (by rfl) gc_NoKnot rfl) (pa_cons (pe_glob (v := .ref c_NoLikeness) (by rfl) gc_NoLikeness rfl) (pa_cons (pe_glob (v := .ref c_NoName) (by rfl) gc_NoName rfl) (pa_cons (pe_glob (v := .ref c_NoNumber) (by rfl) gc_NoNumber rfl) (pa_cons (pe_glob (v := .ref c_NoParting) (by rfl) gc_NoParting rfl) (pa_cons (pe_glob (v := .ref c_NoPlace) (by rfl) gc_NoPlace rfl) (pa_cons (pe_glob (v := .ref c_NoRow) (by rfl) gc_NoRow rfl) (pa_cons (pe_glob (v := .ref c_NoRule) (by rfl) gc_NoRule rfl) pa_nil))))))))))) pa_nil))))
      (pss_cons (ps_if (PW.pt (pw_or (pt_val (pv 1)) (pw_or (pt_val (pe_callB (show CallR _ (.builtin "isinstance") (Hid.rIsPT K cls d a) from Hid.call_isPT (List.mem_singleton.mpr rfl) hz hf) (by rfl) m_isinstance (by decide +kernel) (pa_cons (pv 0) (pa_cons (pe_tup (pa_cons (pe_glob (v := .ref c_NoText) (by rfl) gc_NoText rfl) (pa_cons (pe_glob (v := .ref c_NoTree) (by rfl) gc_NoTree rfl) (pa_cons (pe_glob (v := .ref c_NoUndo) (by rfl) gc_NoUndo rfl) pa_nil)))) pa_nil)))) (pw_or1 (pt_not (pt_val (pe_callB (show CallR _ (.builtin "isinstance") (Hid.rIsP K cls d a) from Hid.call_isP (List.mem_singleton.mpr rfl) hz hf) (by rfl) m_isinstance (by decide +kernel) (pa_cons (pv 0) (pa_cons (pe_bltn (v := .ty "ValueError") (by rfl) m_ValueError (by decide +kernel) rfl) pa_nil)))))))))
      (pss_one (ps_ret pe_str))
      pss_nil)
      (pss_cons (ps_set (i := 2) sc__law_sort.nd rfl (.inl rfl) (pe_lst (pa_cons (pe_callB (show CallR _ (.builtin "isinstance") (Hid.rIsP K cls d a) from Hid.call_isP (List.mem_singleton.mpr rfl) hz hf) (by rfl) m_isinstance (by decide +kernel) (pa_cons (pv 0) (pa_cons (pe_glob (v := .ref c_NoHalf) (by rfl) gc_NoHalf rfl) pa_nil))) (pa_cons (pe_callB (show CallR _ (.builtin "isinstance") (Hid.rIsP K cls d a) from Hid.call_isP (List.mem_singleton.mpr rfl) hz hf) (by rfl) m_isinstance (by decide +kernel) (pa_cons (pv 0) (pa_cons (pe_glob (v := .ref c_NoOrder) (by rfl) gc_NoOrder rfl) pa_nil))) (pa_cons (pe_callB (show CallR _ (.builtin "isinstance") (Hid.rIsP K cls d a) from Hid.call_isP (List.mem_singleton.mpr rfl) hz hf) (by rfl) m_isinstance (by decide +kernel) (pa_cons (pv 0) (pa_cons (pe_glob (v := .ref c_NoRoom) (by rfl) gc_NoRoom rfl) pa_nil))) pa_nil)))))
      (pss_cons (ps_if (pt_cmpR op_ne (pe_bm PySem.F.plainAttrs_list PySem.F.slot_list_count PySem.F.type_list_count (Hid.mt_countD (Hid.u65H hr)) (pv 2) (pa_cons pe_bl pa_nil)) pe_int (nomark _))
      (pss_one (ps_ret pe_str))
      pss_nil)
      (pss_one (ps_ret (pe_ix ix_list (pe_lst (pa_cons pe_str (pa_cons pe_str (pa_cons pe_str pa_nil)))) (pe_bm PySem.F.plainAttrs_list PySem.F.slot_list_index PySem.F.type_list_index (mt_indexD (Hid.u65H hr)) (pv 2) (pa_cons pe_bl pa_nil)) (fun _ _ => rfl)))))))), ?_⟩
    subst hc
    refine q_asg (v := .bl false) (ev_isPT (cs := [c_NoCall, c_NoFit, c_NoKnot, c_NoLikeness, c_NoName, c_NoNumber, c_NoParting, c_NoPlace, c_NoRow, c_NoRule]) (ev_var rfl) (ea_cons ev_c (ea_cons ev_c (ea_cons ev_c (ea_cons ev_c (ea_cons ev_c (ea_cons ev_c (ea_cons ev_c (ea_cons ev_c (ea_cons ev_c (ea_cons ev_c ea_nil)))))))))) (by show 10 ≤ 100; decide) C hd k10) fun H1 e1 => ?_
    refine q_when (b := false) (et_is (et_or (a := false) (b := false) (et_B (ev_var rfl)) fun _ => et_is (et_or (a := false) (b := false) (et_B (ev_isPT (cs := [c_NoText, c_NoTree, c_NoUndo]) (ev_var rfl) (ea_cons ev_c (ea_cons ev_c (ea_cons ev_c ea_nil))) (by show 3 ≤ 100; decide) C (hd.ex e1) k3)) fun _ => et_is (et_not (et_B (ev_isPt (ev_var rfl) C (hd.ex e1) kv))) rfl) rfl) rfl) (fun hb H2 e2 => absurd hb (by decide)) (fun _ H2 e2 => ?_)
    have e02 := e1.trans e2
    refine q_asgL (xs := [b1, b2, b3].map V.bl) (el_lst (ea_cons (ev_isPr (ev_var rfl) C (hd.ex e02) kb1) (ea_cons (ev_isPr (ev_var rfl) C (hd.ex e02) kb2) (ea_cons (ev_isPr (ev_var rfl) C (hd.ex e02) kb3) ea_nil))) (by show 3 ≤ 100000; decide)) fun l H3 nl e3 h3 => ?_
    have e03 := e02.trans e3
    refine q_when (b := false) (et_is (et_test (ev_op (ev_cntB (bs := [b1, b2, b3]) (ev_var rfl) h3) ev_c (rv_ne rfl))) ?_) (fun hb H4 e4 => absurd hb (by decide)) (fun _ H4 e4 => ?_)
    · rcases q with ⟨rfl, rfl, rfl, _⟩ | ⟨rfl, rfl, rfl, _⟩ | ⟨rfl, rfl, rfl, _⟩ <;> decide
    have e04 := e03.trans e4
    have h4 := e4 _ _ h3
    rcases q with ⟨rfl, rfl, rfl, q⟩ | ⟨rfl, rfl, rfl, q⟩ | ⟨rfl, rfl, rfl, q⟩
    · exact s_ret (v := .str "half") (ev_opL1 (el_lst (ea_cons ev_c (ea_cons ev_c (ea_cons ev_c ea_nil))) (by show 3 ≤ 100000; decide)) (fun G g => ev_ixB (j := 0) (bs := [true, false, false]) (ev_var rfl) (g _ _ h4) rfl (fun m hm => by
        have hm : m < 0 := hm
        exact absurd hm (Nat.not_lt_zero _))) (fun p G hp g => rv_ixL (sq_of hp) (atI_nat rfl))) fun H6 e6 => q H6 (e04.trans e6)
    · exact s_ret (v := .str "order") (ev_opL1 (el_lst (ea_cons ev_c (ea_cons ev_c (ea_cons ev_c ea_nil))) (by show 3 ≤ 100000; decide)) (fun G g => ev_ixB (j := 1) (bs := [false, true, false]) (ev_var rfl) (g _ _ h4) rfl (fun m hm => by
        have hm : m < 1 := hm
        match m, hm with
        | 0, _ => rfl)) (fun p G hp g => rv_ixL (sq_of hp) (atI_nat rfl))) fun H6 e6 => q H6 (e04.trans e6)
    · exact s_ret (v := .str "room") (ev_opL1 (el_lst (ea_cons ev_c (ea_cons ev_c (ea_cons ev_c ea_nil))) (by show 3 ≤ 100000; decide)) (fun G g => ev_ixB (j := 2) (bs := [false, false, true]) (ev_var rfl) (g _ _ h4) rfl (fun m hm => by
        have hm : m < 2 := hm
        match m, hm with
        | 0, _ => rfl
        | 1, _ => rfl)) (fun p G hp g => rv_ixL (sq_of hp) (atI_nat rfl))) fun H6 e6 => q H6 (e04.trans e6)
def sp__law_told (K : PySem.W.Frag) (ts : List Addr) (c_HalvesError : Addr) (c_NoCall : Addr) (c_NoFit : Addr) (c_NoKnot : Addr) (c_NoLikeness : Addr) (c_NoName : Addr) (c_NoNumber : Addr) (c_NoParting : Addr) (c_NoPlace : Addr) (c_NoRow : Addr) (c_NoRule : Addr) (c_NoText : Addr) (c_NoTree : Addr) (c_NoUndo : Addr) (c_NoHalf : Addr) (c_NoOrder : Addr) (c_NoRoom : Addr) : Sp := fun vs H Q _ => ∃ (bv v v2 : V) (n : Nat) (rs : List (List Nat × List Nat)) (o o2 : Option (List (Option (List Nat)))), vs = [bv, v, v2] ∧ BookF K H bv n rs ∧ BookOk n rs ∧ YgOk K H v o ∧ YgOk K H v2 o2 ∧ (lenO o ≤ 100 ∧ lenO o2 ≤ 100) ∧ TB ts H ∧ (¬ knO n o → RetV (.str "half") H Q) ∧ (knO n o → ¬ ordO rs o2 → RetV (.str "order") H Q) ∧ (knO n o → ordO rs o2 → RetV (.str "told") H Q)
theorem ok__law_told {ts : List Addr} {c_HalvesError : Addr} {c_NoCall : Addr} {c_NoFit : Addr} {c_NoKnot : Addr} {c_NoLikeness : Addr} {c_NoName : Addr} {c_NoNumber : Addr} {c_NoParting : Addr} {c_NoPlace : Addr} {c_NoRow : Addr} {c_NoRule : Addr} {c_NoText : Addr} {c_NoTree : Addr} {c_NoUndo : Addr} {c_NoHalf : Addr} {c_NoOrder : Addr} {c_NoRoom : Addr} (D : Df K mg "_law_told" st__law_told ["_law_book_here", "_law_known", "_law_order"]) (gc_HalvesError : mg "HalvesError" = some (.ref c_HalvesError)) (xc_NoHalf : ExcC K c_NoHalf) (xm_NoHalf : PySem.W.exmOne K (.ref c_NoHalf) (.ref c_HalvesError) = some true) (k10_NoHalf : PySem.W.kitAny K (.ref c_NoHalf) [.ref c_NoCall, .ref c_NoFit, .ref c_NoKnot, .ref c_NoLikeness, .ref c_NoName, .ref c_NoNumber, .ref c_NoParting, .ref c_NoPlace, .ref c_NoRow, .ref c_NoRule] = some false) (k3_NoHalf : PySem.W.kitAny K (.ref c_NoHalf) [.ref c_NoText, .ref c_NoTree, .ref c_NoUndo] = some false) (kv_NoHalf : PySem.W.kitOne K (.ref c_NoHalf) (.type "ValueError") = some true) (k_NoHalf_NoHalf : PySem.W.kitOne K (.ref c_NoHalf) (.ref c_NoHalf) = some true) (k_NoHalf_NoOrder : PySem.W.kitOne K (.ref c_NoHalf) (.ref c_NoOrder) = some false) (k_NoHalf_NoRoom : PySem.W.kitOne K (.ref c_NoHalf) (.ref c_NoRoom) = some false) (xc_NoOrder : ExcC K c_NoOrder) (xm_NoOrder : PySem.W.exmOne K (.ref c_NoOrder) (.ref c_HalvesError) = some true) (k10_NoOrder : PySem.W.kitAny K (.ref c_NoOrder) [.ref c_NoCall, .ref c_NoFit, .ref c_NoKnot, .ref c_NoLikeness, .ref c_NoName, .ref c_NoNumber, .ref c_NoParting, .ref c_NoPlace, .ref c_NoRow, .ref c_NoRule] = some false) (k3_NoOrder : PySem.W.kitAny K (.ref c_NoOrder) [.ref c_NoText, .ref c_NoTree, .ref c_NoUndo] = some false) (kv_NoOrder : PySem.W.kitOne K (.ref c_NoOrder) (.type "ValueError") = some true) (k_NoOrder_NoHalf : PySem.W.kitOne K (.ref c_NoOrder) (.ref c_NoHalf) = some false) (k_NoOrder_NoOrder : PySem.W.kitOne K (.ref c_NoOrder) (.ref c_NoOrder) = some true) (k_NoOrder_NoRoom : PySem.W.kitOne K (.ref c_NoOrder) (.ref c_NoRoom) = some false) (A_settled : AtX P w K mg base "settled" st_settled 9 ["book", "known", "order"] (sp_settled K ts c_NoHalf c_NoOrder)) (A__law_sort : AtP P w K mg base "_law_sort" st__law_sort 1 ["_law_e"] (sp__law_sort K ts c_NoCall c_NoFit c_NoKnot c_NoLikeness c_NoName c_NoNumber c_NoParting c_NoPlace c_NoRow c_NoRule c_NoText c_NoTree c_NoUndo c_NoHalf c_NoOrder c_NoRoom)) : At P w K mg base "_law_told" st__law_told 10 ["_law_book_here", "_law_known", "_law_order"] (sp__law_told K ts c_HalvesError c_NoCall c_NoFit c_NoKnot c_NoLikeness c_NoName c_NoNumber c_NoParting c_NoPlace c_NoRow c_NoRule c_NoText c_NoTree c_NoUndo c_NoHalf c_NoOrder c_NoRoom) := by
  obtain ⟨f, fd, F, b, g⟩ := D
  obtain ⟨f_settled, fd_settled, F_settled, b_settled, g_settled, G_settled⟩ := A_settled
  obtain ⟨f__law_sort, fd__law_sort, F__law_sort, b__law_sort, g__law_sort, G__law_sort⟩ := A__law_sort
  refine ⟨f, fd, F, b, g, F.ok sc__law_told (fun vs H Q E h => ?_) (fun cdv A outer s H vs Q E hr h => ?_)⟩
  · obtain ⟨bv, v, v2, n, rs, o, o2, rfl, _⟩ := h
    rfl
  · obtain ⟨bv, v, v2, n, rs, o, o2, rfl, hB, hBk, hv, hv2, hl, hT, q1, q2, q⟩ := h
    refine ⟨_, (pss_cons (L2.ps_try_as (i := 3) rfl rfl sc__law_told.nd rfl rfl ⟨by rfl, by decide, .inl gc_HalvesError⟩ takes0 (fun W pn xe tkW psW => (pss_one (ps_expr (pe_callS G_settled (hr.mono (by decide)) (by rfl) g_settled F_settled.kp b_settled (fun σ => passAt tkW σ) (pa_cons (pv 0) (pa_cons (pv 1) (pa_cons (pv 2) pa_nil))))))) (fun a oe cls d pn hz hf => (pss_one (ps_ret (Hid.pe_callP G__law_sort (Hid.rmH (hr.mono (by decide))) List.mem_cons_self hz hf (by rfl) g__law_sort F__law_sort.kp b__law_sort (pa_cons (pv 3) pa_nil))))))
      (pss_one (ps_ret pe_str))), ?_⟩
    exact q_tryC (ea_cons (ev_var rfl) (ea_cons (ev_var rfl) (ea_cons (ev_var rfl) ea_nil))) fun H2 e2 => ⟨bv, v, v2, n, rs, o, o2, rfl, hB.ex e2, hBk, hv.ex e2, hv2.ex e2, hl, hT.ex e2, fun hn H3 e3 => ⟨true, xm_NoHalf, fun _ a9 na9 => ret_callP (ea_cons (ev_var rfl) ea_nil) fun G9 g9 oe hz hf => ⟨_, _, c_NoHalf, true, false, false, rfl, hz, hf, rfl, xc_NoHalf, .inl rfl, k10_NoHalf, k3_NoHalf, kv_NoHalf, k_NoHalf_NoHalf, k_NoHalf_NoOrder, k_NoHalf_NoRoom, .inl ⟨rfl, rfl, rfl, fun H9 e9 => q1 hn H9 ((e2.trans e3).trans (g9.trans e9))⟩⟩, fun h => absurd h (by decide)⟩, fun hk ho H3 e3 => ⟨true, xm_NoOrder, fun _ a9 na9 => ret_callP (ea_cons (ev_var rfl) ea_nil) fun G9 g9 oe hz hf => ⟨_, _, c_NoOrder, false, true, false, rfl, hz, hf, rfl, xc_NoOrder, .inl rfl, k10_NoOrder, k3_NoOrder, kv_NoOrder, k_NoOrder_NoHalf, k_NoOrder_NoOrder, k_NoOrder_NoRoom, .inr (.inl ⟨rfl, rfl, rfl, fun H9 e9 => q2 hk ho H9 ((e2.trans e3).trans (g9.trans e9))⟩)⟩, fun h => absurd h (by decide)⟩, fun hk ho v3 H3 e3 => s_ret ev_c fun H4 e4 => q hk ho H4 (e2.trans (e3.trans e4))⟩
def sp__law_best_told (K : PySem.W.Frag) (ts : List Addr) (c_LAM : Addr) (c_HalvesError : Addr) (c_NoCall : Addr) (c_NoFit : Addr) (c_NoKnot : Addr) (c_NoLikeness : Addr) (c_NoName : Addr) (c_NoNumber : Addr) (c_NoParting : Addr) (c_NoPlace : Addr) (c_NoRow : Addr) (c_NoRule : Addr) (c_NoText : Addr) (c_NoTree : Addr) (c_NoUndo : Addr) (c_NoHalf : Addr) (c_NoOrder : Addr) (c_NoRoom : Addr) : Sp := fun vs H Q _ => ∃ (bv v : V) (n : Nat) (rs : List (List Nat × List Nat)) (o : Option (List (Option (List Nat)))), vs = [bv, v] ∧ BookF K H bv n rs ∧ BookOk n rs ∧ YgOk K H v o ∧ lenO o ≤ 100 ∧ TB ts H ∧ LTab c_LAM H ∧ (¬ knO n o → RetV (.str "half") H Q) ∧ (knO n o → 5 < rs.length → RetV (.str "room") H Q) ∧ (knO n o → rs.length ≤ 5 → ∀ H2, LamX.ExtN H H2 → LTab c_LAM H2 → Q (.str "told") H2)
theorem ok__law_best_told {ts : List Addr} {c_HalvesError : Addr} {c_LAM : Addr} {c_NoCall : Addr} {c_NoFit : Addr} {c_NoKnot : Addr} {c_NoLikeness : Addr} {c_NoName : Addr} {c_NoNumber : Addr} {c_NoParting : Addr} {c_NoPlace : Addr} {c_NoRow : Addr} {c_NoRule : Addr} {c_NoText : Addr} {c_NoTree : Addr} {c_NoUndo : Addr} {c_NoHalf : Addr} {c_NoOrder : Addr} {c_NoRoom : Addr} (D : Df K mg "_law_best_told" st__law_best_told ["_law_book_here", "_law_known"]) (gc_HalvesError : mg "HalvesError" = some (.ref c_HalvesError)) (xc_NoHalf : ExcC K c_NoHalf) (xm_NoHalf : PySem.W.exmOne K (.ref c_NoHalf) (.ref c_HalvesError) = some true) (k10_NoHalf : PySem.W.kitAny K (.ref c_NoHalf) [.ref c_NoCall, .ref c_NoFit, .ref c_NoKnot, .ref c_NoLikeness, .ref c_NoName, .ref c_NoNumber, .ref c_NoParting, .ref c_NoPlace, .ref c_NoRow, .ref c_NoRule] = some false) (k3_NoHalf : PySem.W.kitAny K (.ref c_NoHalf) [.ref c_NoText, .ref c_NoTree, .ref c_NoUndo] = some false) (kv_NoHalf : PySem.W.kitOne K (.ref c_NoHalf) (.type "ValueError") = some true) (k_NoHalf_NoHalf : PySem.W.kitOne K (.ref c_NoHalf) (.ref c_NoHalf) = some true) (k_NoHalf_NoOrder : PySem.W.kitOne K (.ref c_NoHalf) (.ref c_NoOrder) = some false) (k_NoHalf_NoRoom : PySem.W.kitOne K (.ref c_NoHalf) (.ref c_NoRoom) = some false) (xc_NoRoom : ExcC K c_NoRoom) (xm_NoRoom : PySem.W.exmOne K (.ref c_NoRoom) (.ref c_HalvesError) = some true) (k10_NoRoom : PySem.W.kitAny K (.ref c_NoRoom) [.ref c_NoCall, .ref c_NoFit, .ref c_NoKnot, .ref c_NoLikeness, .ref c_NoName, .ref c_NoNumber, .ref c_NoParting, .ref c_NoPlace, .ref c_NoRow, .ref c_NoRule] = some false) (k3_NoRoom : PySem.W.kitAny K (.ref c_NoRoom) [.ref c_NoText, .ref c_NoTree, .ref c_NoUndo] = some false) (kv_NoRoom : PySem.W.kitOne K (.ref c_NoRoom) (.type "ValueError") = some true) (k_NoRoom_NoHalf : PySem.W.kitOne K (.ref c_NoRoom) (.ref c_NoHalf) = some false) (k_NoRoom_NoOrder : PySem.W.kitOne K (.ref c_NoRoom) (.ref c_NoOrder) = some false) (k_NoRoom_NoRoom : PySem.W.kitOne K (.ref c_NoRoom) (.ref c_NoRoom) = some true) (A_best_order : AtX P w K mg base "best_order" st_best_order 11 ["book", "known"] (sp_best_order K ts c_LAM c_NoHalf c_NoRoom)) (A__law_sort : AtP P w K mg base "_law_sort" st__law_sort 1 ["_law_e"] (sp__law_sort K ts c_NoCall c_NoFit c_NoKnot c_NoLikeness c_NoName c_NoNumber c_NoParting c_NoPlace c_NoRow c_NoRule c_NoText c_NoTree c_NoUndo c_NoHalf c_NoOrder c_NoRoom)) : At P w K mg base "_law_best_told" st__law_best_told 12 ["_law_book_here", "_law_known"] (sp__law_best_told K ts c_LAM c_HalvesError c_NoCall c_NoFit c_NoKnot c_NoLikeness c_NoName c_NoNumber c_NoParting c_NoPlace c_NoRow c_NoRule c_NoText c_NoTree c_NoUndo c_NoHalf c_NoOrder c_NoRoom) := by
  obtain ⟨f, fd, F, b, g⟩ := D
  obtain ⟨f_best_order, fd_best_order, F_best_order, b_best_order, g_best_order, G_best_order⟩ := A_best_order
  obtain ⟨f__law_sort, fd__law_sort, F__law_sort, b__law_sort, g__law_sort, G__law_sort⟩ := A__law_sort
  refine ⟨f, fd, F, b, g, F.ok sc__law_best_told (fun vs H Q E h => ?_) (fun cdv A outer s H vs Q E hr h => ?_)⟩
  · obtain ⟨bv, v, n, rs, o, rfl, _⟩ := h
    rfl
  · obtain ⟨bv, v, n, rs, o, rfl, hB, hBk, hv, hl, hT, hL, q1, q2, q⟩ := h
    refine ⟨_, (pss_cons (L2.ps_try_as (i := 2) rfl rfl sc__law_best_told.nd rfl rfl ⟨by rfl, by decide, .inl gc_HalvesError⟩ takes0 (fun W pn xe tkW psW => (pss_one (ps_expr (pe_callS G_best_order (hr.mono (by decide)) (by rfl) g_best_order F_best_order.kp b_best_order (fun σ => passAt tkW σ) (pa_cons (pv 0) (pa_cons (pv 1) pa_nil)))))) (fun a oe cls d pn hz hf => (pss_one (ps_ret (Hid.pe_callP G__law_sort (Hid.rmH (hr.mono (by decide))) List.mem_cons_self hz hf (by rfl) g__law_sort F__law_sort.kp b__law_sort (pa_cons (pv 2) pa_nil))))))
      (pss_one (ps_ret pe_str))), ?_⟩
    exact q_tryC (ea_cons (ev_var rfl) (ea_cons (ev_var rfl) ea_nil)) fun H2 e2 => ⟨bv, v, n, rs, o, rfl, hB.ex e2, hBk, hv.ex e2, hl, hT.ex e2, hL.ex e2, fun hn H3 e3 => ⟨true, xm_NoHalf, fun _ a9 na9 => ret_callP (ea_cons (ev_var rfl) ea_nil) fun G9 g9 oe hz hf => ⟨_, _, c_NoHalf, true, false, false, rfl, hz, hf, rfl, xc_NoHalf, .inl rfl, k10_NoHalf, k3_NoHalf, kv_NoHalf, k_NoHalf_NoHalf, k_NoHalf_NoOrder, k_NoHalf_NoRoom, .inl ⟨rfl, rfl, rfl, fun H9 e9 => q1 hn H9 ((e2.trans e3).trans (g9.trans e9))⟩⟩, fun h => absurd h (by decide)⟩, fun hk ho H3 e3 => ⟨true, xm_NoRoom, fun _ a9 na9 => ret_callP (ea_cons (ev_var rfl) ea_nil) fun G9 g9 oe hz hf => ⟨_, _, c_NoRoom, false, false, true, rfl, hz, hf, rfl, xc_NoRoom, .inl rfl, k10_NoRoom, k3_NoRoom, kv_NoRoom, k_NoRoom_NoHalf, k_NoRoom_NoOrder, k_NoRoom_NoRoom, .inr (.inr ⟨rfl, rfl, rfl, fun H9 e9 => q2 hk ho H9 ((e2.trans e3).trans (g9.trans e9))⟩)⟩, fun h => absurd h (by decide)⟩, fun hk ho v3 H3 e3 t3 => s_ret ev_c fun H4 e4 => q hk ho H4 (((LamX.ExtN.of e2).trans e3).trans (LamX.ExtN.of e4)) (LTab.ex t3 e4)⟩
end
end Hid

namespace Hid
open PySem PySem.Spec PyProof.Rows L2
/-! enumerate(x) of a text -/
def EsIt (x : Str) : It := ⟨fun i _ => i < x.cps.size, fun i G v G' => ∃ T c, v = .ref T ∧ G T = none ∧ G' = upd G T (.tup [.int (i : Nat), .str ⟨#[c]⟩]) ∧ x.cps[i]? = some c, fun i _ => x.cps.size ≤ i⟩
def EsAt (e it : Addr) (x : Str) (t : Tok) (i : Nat) (h : Heap) : Prop := i ≤ x.cps.size ∧ (∃ old, IsEnum h e it (0 + (i : Int)) old) ∧ h.IsStrIter it (strIterType x) x t i
theorem es_turn {P : Program} {w : World} {K : PySem.W.Frag} {es : List Expr} {kk : Nat} {tp : Pos} {e it : Addr} {x : Str} {t : Tok} (hei : e ≠ it) : Turn P w K (.Tuple es kk tp) (EsIt x) (e :: [it]) e (EsAt e it x t) where
  mem := List.mem_cons_self
  obj := fun i h st b hb => by
    obtain ⟨_, ⟨old, he⟩, ⟨o1, e1, _, d1⟩⟩ := st
    have e' : b = e ∨ b = it := by simpa using hb
    rcases e' with r | r <;> rw [r]
    · exact ⟨_, he, fun v n => nomatch n⟩
    · exact ⟨o1, e1, fun v n => by rw [d1] at n; cases n⟩
  keep := fun i h h' st k => let ⟨hi, ⟨old, he⟩, ⟨o1, e1, r1⟩⟩ := st; ⟨hi, ⟨old, k e (by simp) _ he⟩, ⟨o1, k it (by simp) _ e1, r1⟩⟩
  item := by
    intro X hP hw hK hc i pins s σ H E I hf st hg
    subst hP hw hK
    have G := GoesN.enumFrom (prog := X.prog) (w := X.w) (A := X.A) (elts := es) (x1 := kk) (pos := tp) 0 (Draws.text (A := X.A.in1) (I.ok.hd hc) it x t) e hei (by simpa using hei) (by simp)
    obtain ⟨hi, st⟩ := st
    refine wpAny_mono (G.goes i s (fun v s2 => ∃ xv H', Inv X pins σ H' s2 ∧ RelV xv v ∧ (EsIt x).yld i H xv H' ∧ EsAt e it x t (i + 1) s2.heap ∧ ∀ b ∈ e :: [it], H' b = none) E hg st fun v h' tk hY st' hk htk => ?_) (fun r s1 h1 => ?_) fun _ _ e => e
    · obtain ⟨T, tt, v2, rfl, hT, ⟨c, u1, hc1, rfl⟩, o, ho, ho1, n, ho2⟩ := hY
      have new : ObjOk X.prog X.w (upd H T (.tup [.int (i : Nat), .str ⟨#[c]⟩])) h' T (.tup [.int (i : Nat), .str ⟨#[c]⟩]) := ⟨by show 2 ≤ sizeLine; decide, [_, _], .cons ⟨tt, by rw [Int.zero_add]⟩ (.cons ⟨u1, rfl⟩ .nil), ⟨o, ho, ho1, n, ho2⟩⟩
      have J := I.turnedNew (t' := tk) (ch := [e, it]) hk (fun b hb => hf b hb) hT new
      refine ⟨.ref T, _, J, rfl, ⟨T, c, rfl, I.hok.fresh hT, rfl, hc1⟩, ⟨hg, by rw [Int.natCast_add] at *; exact st'⟩, fun b hb => ?_⟩
      have hb1 : b < s.heap.objs.size := by
        obtain ⟨⟨old, he⟩, ⟨o1, e1, r1⟩⟩ := st
        have e' : b = e ∨ b = it := by simpa using hb
        rcases e' with r | r <;> rw [r]
        · exact Heap.lt_size he
        · exact Heap.lt_size e1
      rw [upd_ne (Nat.ne_of_lt (Nat.lt_of_lt_of_le hb1 hT))]
      exact (hf b hb).1
    · exact h1
  done := by
    intro X hP hw hK hc i pins s σ H E I hf st hg
    subst hP hw hK
    have G := GoesN.enumFrom (prog := X.prog) (w := X.w) (A := X.A) (elts := es) (x1 := kk) (pos := tp) 0 (Draws.text (A := X.A.in1) (I.ok.hd hc) it x t) e hei (by simpa using hei) (by simp)
    obtain ⟨hi, st⟩ := st
    obtain rfl : i = x.cps.size := Nat.le_antisymm hi hg
    exact G.stops s (fun s1 => Inv X pins σ H s1) E st fun h' tk hk htk => I.turnedL (t' := tk) (ch := [e, it]) hk fun b hb => hf b hb
  self := fun A i s Q E st h => let ⟨_, ⟨_, he⟩, _⟩ := st; wpAny_pyIter_enum he h
def iEs (ta : TA) : TI := fun σ H R => ta σ H fun vs H1 => ∃ x, vs = [.str x] ∧ R (EsIt x) H1
theorem pi_es {X : Cx} {e : Expr} {ta : TA} {p pos tp : Pos} {es : List Expr} {kk : Nat} (hg : Gl X "enumerate") (hm : X.mg "enumerate" = none) (ha : PA X [e] ta) (hs : starEach [e] X.env = [(false, eval e X.env)] := by rfl) :
    PI X (.Tuple es kk tp) (.Call (.Name "enumerate" p) [e] [] pos) (iEs ta) := by
  refine ⟨fun pins s σ H R I h => ?_⟩
  refine Call_ (ld_blt I hg hm boot_enumerate (callWith_type1 (thn (ha.run pos pins s σ H _ I h) fun us s1 ⟨vs, H1, I1, r1, x, ex, q⟩ => ?_) hs rfl))
  subst ex
  cases r1 with
  | cons r rr =>
    cases rr
    obtain ⟨t, rfl⟩ := r
    refine call_enumerate_str fun h' he hit hsz hk => wpAny_pyIter_enum he ?_
    refine ⟨s1.heap.objs.size + 1, _, _, _, H1, rfl, I1.kept (t' := s1.toks) hk, es_turn (Nat.succ_ne_self _), ⟨Nat.zero_le _, ⟨.none, he⟩, hit⟩, fun b hb => ?_, q⟩
    have e' : b = s1.heap.objs.size + 1 ∨ b = s1.heap.objs.size := by simpa using hb
    have hle : s1.heap.objs.size ≤ b := by rcases e' with z | z <;> rw [z]; exact Nat.le_add_right _ _; exact Nat.le_refl _
    exact I1.fpOk hle (I1.hok.fresh hle)
end Hid

namespace Hid
open PySem PySem.Spec PyProof.Rows L2 Evl
/-! enumerate(l, start=k) of a list -/
def EkIt (a : Addr) (k : Int) : It := ⟨fun i G => ∃ xs x, G a = some (.lst xs) ∧ xs[i]? = some x, fun i G v G' => ∃ T x, v = .ref T ∧ G T = none ∧ G' = upd G T (.tup [.int (k + (i : Int)), x]) ∧ ∀ xs, G a = some (.lst xs) → xs[i]? = some x, fun i G => ∃ xs, G a = some (.lst xs) ∧ xs.length = i⟩
def EkAt (e it a : Addr) (k : Int) (i : Nat) (h : Heap) : Prop := (∃ old, IsEnum h e it (k + (i : Int)) old) ∧ h.IsListIter it a i
theorem ek_turn {P : Program} {w : World} {K : PySem.W.Frag} {es : List Expr} {kk : Nat} {tp : Pos} {e it a : Addr} {k : Int} (hei : e ≠ it) : Turn P w K (.Tuple es kk tp) (EkIt a k) (e :: [it]) e (EkAt e it a k) where
  mem := List.mem_cons_self
  obj := fun i h st b hb => by
    obtain ⟨⟨old, he⟩, ⟨o1, e1, _, d1⟩⟩ := st
    have e' : b = e ∨ b = it := by simpa using hb
    rcases e' with r | r <;> rw [r]
    · exact ⟨_, he, fun v n => nomatch n⟩
    · exact ⟨o1, e1, fun v n => by rw [d1] at n; cases n⟩
  keep := fun i h h' st k => let ⟨⟨old, he⟩, ⟨o1, e1, r1⟩⟩ := st; ⟨⟨old, k e (by simp) _ he⟩, ⟨o1, k it (by simp) _ e1, r1⟩⟩
  item := by
    intro X hP hw hK hc i pins s σ H E I hf st hg
    subst hP hw hK
    obtain ⟨xs, x, hq, hx⟩ := hg
    have nai : a ≠ it := ne_of_none hq (hf it (by simp)).1
    have nae : a ≠ e := ne_of_none hq (hf e (by simp)).1
    obtain ⟨its, rv, p, hz⟩ := I.list (SqL.of hq)
    obtain ⟨u, hu, ru⟩ := rv.get hx
    have G := GoesN.enumFrom (prog := X.prog) (w := X.w) (A := X.A) (elts := es) (x1 := kk) (pos := tp) k (Draws.list (A := X.A.in1) (I.ok.hd hc) it a nai its.toArray) e hei (by simp; exact ⟨hei, nae.symm⟩) (by simp)
    have hi : i < its.toArray.size := by rw [List.size_toArray]; exact (List.getElem?_eq_some_iff.mp hu).1
    refine wpAny_mono (G.goes i s (fun v s2 => ∃ xv H', Inv X pins σ H' s2 ∧ RelV xv v ∧ (EkIt a k).yld i H xv H' ∧ EkAt e it a k (i + 1) s2.heap ∧ ∀ b ∈ e :: [it], H' b = none) E hi ⟨st.1, st.2, p.isList⟩ fun v h' tk hY st' hk htk => ?_) (fun r s1 h1 => h1) fun _ _ e => e
    obtain ⟨T, tt, v2, rfl, hT, hv2, o, ho, ho1, n, ho2⟩ := hY
    obtain rfl : v2 = u := by
      have hv3 : its.toArray[i]? = some v2 := hv2
      rw [List.getElem?_toArray, hu] at hv3
      exact (Option.some.inj hv3).symm
    have new : ObjOk X.prog X.w (upd H T (.tup [.int (k + (i : Int)), x])) h' T (.tup [.int (k + (i : Int)), x]) := ⟨by show 2 ≤ sizeLine; decide, [_, _], .cons ⟨tt, rfl⟩ (.cons ru .nil), ⟨o, ho, ho1, n, ho2⟩⟩
    have J := I.turnedNew (t' := tk) (ch := [e, it]) hk (fun b hb => hf b hb) hT new
    refine ⟨.ref T, _, J, rfl, ⟨T, x, rfl, I.hok.fresh hT, rfl, fun ys hy => ?_⟩, ⟨by have := st'.1; rw [Int.natCast_add] at *; exact this, st'.2.1⟩, fun b hb => ?_⟩
    · rw [hq] at hy
      cases hy
      exact hx
    · have hb1 : b < s.heap.objs.size := by
        obtain ⟨⟨old, he⟩, ⟨o1, e1, r1⟩⟩ := st
        have e' : b = e ∨ b = it := by simpa using hb
        rcases e' with r | r <;> rw [r]
        · exact Heap.lt_size he
        · exact Heap.lt_size e1
      rw [upd_ne (Nat.ne_of_lt (Nat.lt_of_lt_of_le hb1 hT))]
      exact (hf b hb).1
  done := by
    intro X hP hw hK hc i pins s σ H E I hf st hg
    subst hP hw hK
    obtain ⟨xs, hq, hx⟩ := hg
    have nai : a ≠ it := ne_of_none hq (hf it (by simp)).1
    have nae : a ≠ e := ne_of_none hq (hf e (by simp)).1
    obtain ⟨its, rv, p, hz⟩ := I.list (SqL.of hq)
    have G := GoesN.enumFrom (prog := X.prog) (w := X.w) (A := X.A) (elts := es) (x1 := kk) (pos := tp) k (Draws.list (A := X.A.in1) (I.ok.hd hc) it a nai its.toArray) e hei (by simp; exact ⟨hei, nae.symm⟩) (by simp)
    obtain rfl : i = its.toArray.size := by rw [List.size_toArray, ← rv.length]; exact hx.symm
    exact G.stops s (fun s1 => Inv X pins σ H s1) E ⟨st.1, st.2, p.isList⟩ fun h' tk hk htk => I.turnedL (t' := tk) (ch := [e, it]) hk fun b hb => hf b hb
  self := fun A i s Q E st h => let ⟨⟨_, he⟩, _⟩ := st; wpAny_pyIter_enum he h
theorem walk_ek {a : Addr} {k : Int} {xs : List V} : Walk (EkIt a k) xs.length (fun H => H a = some (.lst xs)) (YPair (fun i => some (.int (k + (i : Int)))) (fun i => xs[i]?)) := by
  refine ⟨fun i G hi q => ⟨xs, xs[i], q, List.getElem?_eq_getElem hi⟩, fun G q => ⟨xs, q, rfl⟩, fun i G v G' hi q y => ?_⟩
  obtain ⟨T, x, h1, h2, h3, h4⟩ := y
  exact ⟨T, _, x, h1, h2, h3, rfl, h4 xs q⟩
theorem callWith_typeK {M : Model} {A : Around} {E : Value → Shared → Prop} {s : Shared} {pos : Pos} {T : String} {args : List (Bool × Sem Value)} {keywords : List (Option Str × Sem Value)} {Q : Value → Shared → Prop} (hp : args.any (·.1) = false) (hk : keywords.any (·.1.isNone) = false)
    (h : wpAny M A (evalArgs (.type T) true args keywords) (fun a s₁ => wpAny M A (call (.type T) a.pos a.kw) Q E s₁) E s) : wpAny M A (callWith pos (.type T) [] args keywords) Q E s := by
  unfold callWith; refine wpAny_bind (wpAny_holding (wpAny_mono h (fun a s₁ h₁ => wpAny_bind (wpAny_standAt ?_)) fun _ _ x => x)); simp only [hp, hk, Bool.or_false]
  refine wpAny_bind (wpAny_pure ?_); exact wpAny_bind (wpAny_mono h₁ (fun r s₂ hr => wpAny_bind (wpAny_holding (wpAny_point (wpAny_pure hr)))) fun _ _ x => x)
def iEk (ta tk : TA) : TI := fun σ H R => ta σ H fun vs H1 => tk σ H1 fun ws H2 => ∃ a xs k, vs = [.ref a] ∧ ws = [.int k] ∧ H2 a = some (.lst xs) ∧ (-1000 ≤ k ∧ k ≤ 1000) ∧ R (EkIt a k) H2
theorem pi_ek {X : Cx} {e c : Expr} {ta tk : TA} {p pos tp kp : Pos} {es : List Expr} {kk : Nat} (hg : Gl X "enumerate") (hm : X.mg "enumerate" = none) (ha : PA X [e] ta) (hk : PK X [⟨some "start", c, kp⟩] tk) (hs : starEach [e] X.env = [(false, eval e X.env)] := by rfl)
    (hks : (backToKw pos (keywordEach [⟨some "start", c, kp⟩] X.env)).filterMap (·.1) = [Str.ofString "start"] := by rfl) (hall : (backToKw pos (keywordEach [⟨some "start", c, kp⟩] X.env)).all (·.1.isSome) = true := by rfl) (hno : (backToKw pos (keywordEach [⟨some "start", c, kp⟩] X.env)).any (·.1.isNone) = false := by rfl) :
    PI X (.Tuple es kk tp) (.Call (.Name "enumerate" p) [e] [⟨some "start", c, kp⟩] pos) (iEk ta tk) := by
  refine ⟨fun pins s σ H R I h => ?_⟩
  have hA := ha.run pos pins s σ H _ I h
  rw [hs] at hA
  refine wpAny_Call_Name_kw (ld_blt I hg hm boot_enumerate ?_)
  rw [hs]
  refine callWith_typeK rfl hno (evalArgs_kwB hall (thn hA fun us s1 ⟨vs, H1, I1, r1, q1⟩ => thn (hk.run pos pins s1 σ H1 _ I1 q1) fun ws s2 ⟨zs, H2, I2, r2, q2⟩ => ?_))
  rw [hks]
  obtain ⟨a, xs, k, ex, ez, hq, ⟨k0, k1⟩, q⟩ := q2
  subst ex ez
  obtain ⟨u, rfl, ru⟩ := vals1 r1
  obtain ⟨v, rfl, t, rfl⟩ := vals1 r2
  cases ru
  obtain ⟨its, rv, p', hz⟩ := I2.list (SqL.of hq)
  refine enum_begins_start (begins_list a its.toArray) p'.isList (by omega) (by omega) fun h' he hit hsz hkp => wpAny_pyIter_enum he ?_
  refine ⟨s2.heap.objs.size + 1, _, _, _, H2, rfl, I2.kept (t' := s2.toks) hkp, ek_turn (Nat.succ_ne_self _), ⟨⟨.none, by rw [show k + ((0 : Nat) : Int) = k by omega]; exact he⟩, ⟨_, hit, rfl, rfl⟩⟩, fun b hb => ?_, q⟩
  have e' : b = s2.heap.objs.size + 1 ∨ b = s2.heap.objs.size := by simpa using hb
  have hle : s2.heap.objs.size ≤ b := by rcases e' with z | z <;> rw [z]; exact Nat.le_add_right _ _; exact Nat.le_refl _
  exact I2.fpOk hle (I2.hok.fresh hle)
/-! tuple(d.values()) -/
section
variable {prog : Program} {w : World} {A : Around} {E : Value → Shared → Prop} {s : Shared} {T : String} {r d : Addr} {n : Nat} {P : Nat → Value → Prop} {OK : Heap → Prop}
theorem collect_src {Q : List Value → Shared → Prop} (K : PySem.W.KdlSrc prog w T r d n P OK) (hh : A.handled = none) (hok : OK s.heap) (hn : n ≤ sizeLine)
    (hQ : ∀ h' tk acc, (∀ b o, s.heap.get? b = some o → h'.get? b = some o) → ItemsOf P acc n → Q acc.toList { s with heap := h', toks := tk }) : wpAny (model prog w) A (collect (.ref r)) Q E s := by
  have hlt := K.there _ hok
  unfold collect
  refine wpAny_bind (wpAny_runValue ((?_ : ∀ R : Result → Shared → Prop, (∀ h' tk acc' c', (∀ b o, s.heap.get? b = some o → h'.get? b = some o) → h'.get? s.heap.objs.size = some { cls := .type "list", dict := none, data := .seq acc' c', slots := #[] } → ItemsOf P acc' n → R (.ok (.ret (.ref s.heap.objs.size))) { s with heap := h', toks := tk }) → codeAny (model prog w) A _ R s) _ fun h' tk acc' c' hk hS' hacc => ?_))
  · intro R hR
    refine codeAny_builtin F.entry_proto_collect ?_
    rw [Around.under_plainId F.plain_proto_collect _]
    show wpAny _ A.in1 (newList [] >>= fun l => again (.builtin "list.__iadd__" ⟨[l, .ref r], []⟩)) _ _ s
    refine wpAny_bind (wpAny_newObj_type ?_); refine wpAny_pure ⟨plainId_quiet F.plain_list_iadd _, codeAny_builtin F.entry_list_iadd ?_⟩; rw [Around.under_plainId F.plain_list_iadd _]
    show wpAny _ A.in1 (Builtin.List.listExtendWith (.ref s.heap.objs.size) (.ref r) (.ref s.heap.objs.size)) _ _ _
    exact PySem.W.kdl_extend (R := R) (s := { s with heap := s.heap.push { cls := .type "list", data := .seq ([] : List Value).toArray } }) K hh (K.keep _ _ hok fun b _ o e => Heap.get?_push_of_some _ e) _ (Nat.ne_of_gt hlt.1) (Nat.ne_of_gt hlt.2) _ 0 (Heap.get?_push_size _ rfl) (fun h' tk acc' c' hk hS' hacc => hR h' tk acc' c' (fun b o e => hk b o (Nat.ne_of_lt (Heap.lt_size e)) (Heap.get?_push_of_some _ e)) hS' hacc) hn
  · show wpAny _ A (load s.heap.objs.size >>= _) _ _ _
    refine wpAny_bind (wpAny_load hS' ?_)
    exact wpAny_pure (hQ h' tk acc' hk hacc)
theorem tupSrc {Q : Value → Shared → Prop} (K : PySem.W.KdlSrc prog w T r d n P OK) (hh : A.handled = none) (hok : OK s.heap) (hn : n ≤ sizeLine)
    (hQ : ∀ (h' : Heap) (tk : Nat) (acc : Array Value), (∀ b o, s.heap.get? b = some o → h'.get? b = some o) → ItemsOf P acc n → Q (.ref h'.objs.size) { s with heap := h'.push { cls := .type "tuple", data := .seq acc }, toks := tk }) :
    wpAny (model prog w) A (call (.type "tuple") [.ref r]) Q E s := by
  have code : codeAny (model prog w) A.in1 (.call (.builtin "tuple.__new__") ⟨[.type "tuple", .ref r], []⟩) (wants (fun obj s₁ => s₁.TypeIs obj "tuple" ∧ Q obj s₁) E) s := by
    refine codeAny_of_tree ?_
    show wpAny _ A.in1.in1 (do checkBuiltinCall "tuple.__new__" ⟨[.type "tuple", .ref r], []⟩; again (.builtin "tuple.__new__" ⟨[.type "tuple", .ref r], []⟩)) _ _ s
    refine wpAny_bind (wpAny_of_eq (F.newCall_tuple_1 _) (wpAny_pure ⟨plainId_quiet F.plain_tuple_new _, codeAny_builtin F.entry_tuple_new ?_⟩)); rw [Around.under_plainId F.plain_tuple_new _]
    have hsub := sub_tuple_self; have hinit := init_tuple_lookup; have hmh := madeHere_tuple
    have hTI : s.TypeIs (.ref r) T := K.type s hok
    have hnt := K.notTuple
    wp_walk using wpAny_typeOf hTI, collect_src (A := A.in1.in1) K hh hok hn
    intro h' tk acc hk hacc
    show wpAny _ _ (Builtin.Tuple.tupleExact acc.toList.toArray >>= fun v => ret v) _ _ _
    unfold Builtin.Tuple.tupleExact; refine wpAny_bind (wpAny_newObj_type ?_ (by show acc.toList.toArray.size ≤ sizeLine; simp only [Array.toArray_toList]; rw [hacc.1]; exact hn)) <;> refine wpAny_pure ?_
    rw [show acc.toList.toArray = acc by simp]
    exact ⟨⟨_, Heap.get?_push_size _ rfl, rfl⟩, hQ h' tk acc hk hacc⟩
  refine callType_codes (Q₁ := fun obj s₁ => s₁.TypeIs obj "tuple" ∧ Q obj s₁) F.called_tuple (F.typeCall_tuple_1 _) F.entry_object_init code fun obj s₁ h₁ => ?_
  exact ⟨h₁.1, F.args_object_init_2 obj _, object_init_meets F.called_tuple.init.lookup F.called_tuple.made (by decide) prog w A.in1 _ s₁ ⟨h₁.1, rfl, h₁.2⟩⟩
end
def tTupVals (te : TE) : TE := fun σ H Q => te σ H fun x H1 => ∃ d kvs, x = .ref d ∧ H1 d = some (.dK kvs) ∧ ∀ p o, H1 p = none → TD o → Q (.ref p) (upd H1 p (.frz o (.tup (kvs.map (·.2)))))
theorem pe_tupVals {X : Cx} {e : Expr} {te : TE} {p pos apos cpos : Pos} (hc : X.calm = true) (hg : Gl X "tuple") (hm : X.mg "tuple" = none) (he : PE X e te) (hbase : attributeBase e "values" X.env (eval e X.env) = eval e X.env := by rfl) (hline : (apos.endLine == cpos.line) = true := by rfl)
    (hs : starEach [.Call (.Attribute e "values" apos) [] [] cpos] X.env = (false, eval (.Call (.Attribute e "values" apos) [] [] cpos) X.env) :: starEach [] X.env := by rfl) :
    PE X (.Call (.Name "tuple" p) [.Call (.Attribute e "values" apos) [] [] cpos] [] pos) (tTupVals te) := by
  refine ⟨fun pins s σ H Q I h => ?_⟩
  refine Call_ (ld_blt I hg hm (by decide +kernel : bootBuiltins "tuple" = some (.type "tuple")) (callWith_type1 (args_cons ?_ hs) hs rfl))
  refine wpAny_Call_method (T := "dict") (id := "dict.values") hbase rfl hline PySem.F.plainAttrs_dict PySem.F.slot_dict_values PySem.F.type_dict_values (thn (he.run pins s σ H _ I h) fun u s1 ⟨x, H1, I1, rx, d, kvs, ex, hd, q⟩ => ?_)
  subst ex
  obtain rfl : u = Value.ref d := rx
  obtain ⟨hz, hsy, vs, kv, hD⟩ := I1.hok d _ hd
  have hl : kvs.length = vs.length := Paired.length kv
  refine ⟨hD.typeIs, hD.mapOf.noDict, ?_⟩
  have I2 : Inv X pins σ H1 { s1 with heap := s1.heap.push { cls := .type "dict_values", data := .fields #[.ref d] } } := I1.kept (t' := s1.toks) fun b ob q => Heap.get?_push_of_some _ q
  have hh := I1.ok.hd hc
  have fin : wpAny (model X.prog X.w) X.A (call (.type "tuple") [.ref s1.heap.objs.size]) (EP X pins σ Q) X.xe { s1 with heap := s1.heap.push { cls := .type "dict_values", data := .fields #[.ref d] } } := by
    obtain ⟨o, es, ep, ho, hx⟩ := hD
    refine tupSrc (n := vs.length) (PySem.W.kdl_values (knd := mixKind X.prog X.w) (kvs := vs) (ep := ep) (d := d) (r := s1.heap.objs.size)) hh ⟨⟨_, Heap.get?_push_size _ rfl, rfl, rfl⟩, ?_⟩ (by rw [← hl]; exact hz) fun h' tk acc hk hacc => ?_
    · exact ⟨o, es, Heap.get?_push_of_some _ ho, hx⟩
    · have I3 : Inv X pins σ H1 { s1 with heap := h', toks := tk } := I1.kept (t' := tk) fun b ob e => hk b ob (Heap.get?_push_of_some _ e)
      have rv : Vals (kvs.map (·.2)) acc.toList := by
        have key : ∀ {kvs : List (Key × V)} {vs : List (Key × Value)}, KV kvs vs → ∀ us : List Value, us.length = vs.length → (∀ (j : Nat) v, us[j]? = some v → ∃ k, vs[j]? = some (k, v)) → Vals (kvs.map (·.2)) us := by
          intro kvs vs kv
          induction kv with
          | nil =>
            intro us hl _
            cases us with
            | nil => exact .nil
            | cons u us => cases hl
          | @cons a b l m r t ih =>
            intro us hl hu
            cases us with
            | nil => cases hl
            | cons u us =>
              obtain ⟨k, hk⟩ := hu 0 u rfl
              have hb : b = (k, u) := Option.some.inj hk
              subst hb
              exact .cons r.2 (ih us (by simpa using hl) fun j v hj => hu (j + 1) v hj)
        refine key kv acc.toList (by rw [Array.length_toList]; exact hacc.1) fun j v hj => hacc.2 j v (by rw [← Array.getElem?_toList]; exact hj)
      have hlen : (kvs.map (·.2)).length ≤ sizeLine := by rw [List.length_map]; exact hz
      refine ⟨.ref h'.objs.size, _, I3.laid (t' := tk) (fun c o e => Heap.get?_push_of_some _ e) (Nat.le_refl _) ?_, rfl, q _ { cls := .type "tuple", data := .seq acc } (I3.hok.fresh (Nat.le_refl _)) ⟨rfl, rfl⟩⟩
      refine ⟨Heap.get?_push_size _ rfl, hlen, acc.toList, rv, ?_⟩
      rw [Array.toArray_toList]; exact IsTup.new _ _
  show wpAny _ _ (callWith cpos (.builtin "dict.values") [.ref d] [] []) _ X.xe s1
  exact method_meetsIn PySem.F.slot_dict_values PySem.F.entry_dict_values rfl (PySem.evalArgs_none ⟨rfl, hD.typeIs, PySem.F.args_dict_values_1 _, _, meets_dict_values (mixKind X.prog X.w) d hsy, ⟨vs, hD⟩, args_nil fin⟩)
end Hid

namespace Hid
open PySem PySem.Spec PyProof.Rows L2
/-! texts laid together with one sign between, and parted again -/
def jn (c : Nat) : List (List Nat) → List Nat
  | [] => []
  | [l] => l
  | l :: m :: r => l ++ c :: jn c (m :: r)
theorem join_jn (c : Nat) : ∀ ls : List (List Nat), Txt.join (sg1 c) (ls.map tx) = tx (jn c ls) := by
  intro ls
  show Builtin.Str.glued _ _ = _
  rw [StrLaws.glued_eq_join]
  induction ls with
  | nil => rfl
  | cons l r ih =>
    cases r with
    | nil => rfl
    | cons m r =>
      have e : Str.join (sg1 c) ((l :: m :: r).map tx) = tx l ++ sg1 c ++ Str.join (sg1 c) ((m :: r).map tx) := rfl
      rw [e, ih]
      show (⟨(l.toArray ++ #[c]) ++ (jn c (m :: r)).toArray⟩ : Str) = ⟨(l ++ c :: jn c (m :: r)).toArray⟩
      simp
theorem cut_at {c : Nat} : ∀ {l m r s : List Nat}, c ∉ l → c ∉ m → l ++ c :: r = m ++ c :: s → l = m ∧ r = s
  | [], [], r, s, _, _, e => by simp at e; exact ⟨rfl, e⟩
  | [], y :: m, r, s, _, hm, e => by
    simp at e
    exact absurd (by rw [e.1]; exact List.mem_cons_self) hm
  | x :: l, [], r, s, hl, _, e => by
    simp at e
    exact absurd (by rw [e.1]; exact List.mem_cons_self) hl
  | x :: l, y :: m, r, s, hl, hm, e => by
    simp at e
    obtain ⟨a, b⟩ := cut_at (fun z => hl (List.mem_cons_of_mem _ z)) (fun z => hm (List.mem_cons_of_mem _ z)) e.2
    exact ⟨by rw [e.1, a], b⟩
theorem jn_inj {c : Nat} : ∀ {ls ms : List (List Nat)}, ls ≠ [] → ms ≠ [] → (∀ l ∈ ls, c ∉ l) → (∀ l ∈ ms, c ∉ l) → jn c ls = jn c ms → ls = ms
  | [], _, h, _, _, _, _ => absurd rfl h
  | _ :: _, [], _, h, _, _, _ => absurd rfl h
  | [l], [m], _, _, _, _, e => by
    have : l = m := e
    rw [this]
  | [l], m :: m' :: r, _, _, hl, _, e => by
    have e' : l = m ++ c :: jn c (m' :: r) := e
    exact absurd (by rw [e']; simp) (hl l List.mem_cons_self)
  | l :: l' :: r, [m], _, _, _, hm, e => by
    have e' : l ++ c :: jn c (l' :: r) = m := e
    exact absurd (by rw [← e']; simp) (hm m List.mem_cons_self)
  | l :: l' :: r, m :: m' :: s, _, _, hl, hm, e => by
    have e' : l ++ c :: jn c (l' :: r) = m ++ c :: jn c (m' :: s) := e
    obtain ⟨a, b⟩ := cut_at (hl l List.mem_cons_self) (hm m List.mem_cons_self) e'
    rw [a, jn_inj (by simp) (by simp) (fun x hx => hl x (List.mem_cons_of_mem _ hx)) (fun x hx => hm x (List.mem_cons_of_mem _ hx)) b]
theorem split_jn {c : Nat} {ls : List (List Nat)} (h0 : ls ≠ []) (hf : ∀ l ∈ ls, c ∉ l) : Txt.split (tx (jn c ls)) (sg1 c) = ls.map tx := by
  have h1 := StrLaws.join_split (tx (jn c ls)) (sg1 c)
  have h2 := StrLaws.split_free (tx (jn c ls)) c
  have h3 : 1 ≤ (Txt.split (tx (jn c ls)) (sg1 c)).length := PyProof.Rows.split_pos _ _
  generalize hP : Txt.split (tx (jn c ls)) (sg1 c) = parts at h1 h3
  rw [show (⟨#[c]⟩ : Str) = sg1 c from rfl, hP] at h2
  have hm : parts = (parts.map fun p => p.cps.toList).map tx := by
    rw [List.map_map, show (tx ∘ fun p : Str => p.cps.toList) = id from funext fun z => tx_cps z, List.map_id]
  have h4 : Txt.join (sg1 c) ((parts.map fun p => p.cps.toList).map tx) = tx (jn c ls) := by
    rw [← hm]
    show Builtin.Str.glued _ _ = _
    rw [StrLaws.glued_eq_join]
    exact h1
  rw [join_jn] at h4
  have h5 := jn_inj (c := c) (by intro z; rw [List.map_eq_nil_iff] at z; rw [z] at h3; exact absurd h3 (by decide)) h0 (fun l hl => by
    obtain ⟨p, hp, rfl⟩ := List.mem_map.mp hl
    exact h2 p hp) hf (tx_inj h4)
  rw [hm, h5]
/-! a book as a text -/
def lineP (n : Nat) : List Nat := [112, 108, 97, 99, 101, 115, 32, 48 + n]
def lineR (p : List Nat × List Nat) : List Nat := p.1 ++ 32 :: p.2
def bookT (n : Nat) (rs : List (List Nat × List Nat)) : List Nat := jn 10 (lineP n :: rs.map lineR)
theorem jn_snoc (c : Nat) : ∀ (l : List Nat) (r : List (List Nat)) (m : List Nat), jn c (l :: r ++ [m]) = jn c (l :: r) ++ c :: m
  | l, [], m => rfl
  | l, x :: r, m => by
    show l ++ c :: jn c (x :: r ++ [m]) = (l ++ c :: jn c (x :: r)) ++ c :: m
    rw [jn_snoc c x r m]
    simp
theorem bookT_snoc (n : Nat) (rs : List (List Nat × List Nat)) (p : List Nat × List Nat) : bookT n (rs ++ [p]) = bookT n rs ++ 10 :: lineR p := by
  unfold bookT
  rw [List.map_append]
  exact jn_snoc 10 _ _ _
theorem lineR_split {p : List Nat × List Nat} (h1 : 32 ∉ p.1) (h2 : 32 ∉ p.2) : Txt.split (tx (lineR p)) (sg1 32) = [tx p.1, tx p.2] := by
  have := split_jn (c := 32) (ls := [p.1, p.2]) (by simp) (by
    intro l hl
    rcases List.mem_cons.mp hl with e | e
    · rw [e]; exact h1
    · rw [List.mem_singleton.mp e]; exact h2)
  exact this
theorem name_free {z : List Nat} (h : NameL z) {c : Nat} (hc : c < 97) : c ∉ z := fun hm => by have := (h.2 c hm).1; omega
theorem row_free {z : List Nat} (h : RowL z) {c : Nat} (hc : c < 97) : c ∉ z := fun hm => by rcases h.2 c hm with e | e | e <;> omega
theorem bookT_split {n : Nat} {rs : List (List Nat × List Nat)} (h : BookOk n rs) : Txt.split (tx (bookT n rs)) (sg1 10) = (lineP n :: rs.map lineR).map tx := by
  refine split_jn (by simp) fun l hl => ?_
  rcases List.mem_cons.mp hl with e | e
  · rw [e]
    unfold lineP
    simp
    omega
  · obtain ⟨p, hp, rfl⟩ := List.mem_map.mp e
    unfold lineR
    intro hm
    rcases List.mem_append.mp hm with z | z
    · exact name_free (h.hm p hp) (by decide) z
    · rcases List.mem_cons.mp z with z | z
      · cases z
      · exact row_free (h.hr p hp).1 (by decide) z
theorem bookT_len {n : Nat} {rs : List (List Nat × List Nat)} (h : BookOk n rs) : (bookT n rs).length ≤ 8 + 18 * rs.length := by
  have key : ∀ (l : List Nat) (ls : List (List Nat)), (∀ x ∈ ls, x.length ≤ 17) → (jn 10 (l :: ls)).length ≤ l.length + 18 * ls.length := by
    intro l ls
    induction ls generalizing l with
    | nil => intro _; exact Nat.le_refl _
    | cons m r ih =>
      intro hh
      have := ih m fun x hx => hh x (List.mem_cons_of_mem _ hx)
      have h2 := hh m List.mem_cons_self
      show (l ++ 10 :: jn 10 (m :: r)).length ≤ _
      rw [List.length_append, List.length_cons, List.length_cons]
      omega
  have := key (lineP n) (rs.map lineR) fun x hx => by
    obtain ⟨p, hp, rfl⟩ := List.mem_map.mp hx
    have a := (h.hm p hp).1
    have b := (h.hr p hp).1.1
    unfold lineR
    rw [List.length_append, List.length_cons]
    omega
  rw [List.length_map] at this
  exact this
theorem digit_str {n : Nat} (h : 1 ≤ n ∧ n ≤ 8) : (Str.ofString (toString (n : Int))) = sg1 (48 + n) := by
  have : n = 1 ∨ n = 2 ∨ n = 3 ∨ n = 4 ∨ n = 5 ∨ n = 6 ∨ n = 7 ∨ n = 8 := by omega
  rcases this with e | e | e | e | e | e | e | e <;> subst e <;> decide +kernel
end Hid

namespace Hid
open PySem PySem.Spec PyProof.Rows L2 Evl
/-! values told by their data -/
section
variable {K : PySem.W.Frag} {σ : L2.St} {H H' : Hp} {ta tb te tl : TE}
def EvD (K : PySem.W.Frag) (te : TE) (σ : L2.St) (H : Hp) (d : PyData) : Prop := ∀ H1, Ex H H1 → ∀ Q : VK, (∀ v H2, Ex H1 H2 → (∀ H3, Ex H2 H3 → Dp K H3 v d) → Q v H2) → te σ H1 Q
theorem ed_ev {v : V} {d : PyData} (h : Ev te σ H v) (hd : ∀ H1, Ex H H1 → Dp K H1 v d) : EvD K te σ H d := fun H1 e Q q => h H1 e _ fun H2 e2 => q v H2 e2 fun H3 e3 => hd H3 (e.trans (e2.trans e3))
theorem ed_tup2 {x : V} {dx d : PyData} (ha : Ev ta σ H x) (hx : ∀ G, Dp K G x dx) (hb : EvD K tb σ H d) : EvD K (tTup (tCons ta (tCons tb tNil))) σ H (.tuple [dx, d]) := fun H1 e Q q =>
  ha H1 e _ fun H2 e2 => hb H2 (e.trans e2) _ fun v H3 e3 hv => ⟨by show 2 ≤ sizeLine; decide, fun p np => q _ _ (e2.trans (e3.trans (Ex.new np))) fun H4 e4 => .tup (st_of (e4 _ _ upd_same)) (.cons (hx _) (.cons (hv H4 ((Ex.new np).trans e4)) .nil))⟩
theorem ev_eqD {d : PyData} (ha : EvD K ta σ H d) (hb : EvD K tb σ H d) (hs : SeqAt.shaped d = true) : Ev (tOp (rEqD K) ta tb) σ H (.bl true) := fun H1 e Q q =>
  ha H1 e _ fun v H2 e2 hv => hb H2 (e.trans e2) _ fun u H3 e3 hu => ⟨d, d, hv H3 e3, hu H3 (Ex.refl _), hs, hs, by rw [SeqAt.eqv_refl _ (SeqAt.canLay_of_shaped hs)]; exact q H3 (e2.trans e3)⟩
theorem ev_neD {d : PyData} (ha : EvD K ta σ H d) (hb : EvD K tb σ H d) (hs : SeqAt.shaped d = true) : Ev (tOp (rNeD K) ta tb) σ H (.bl false) := fun H1 e Q q =>
  ha H1 e _ fun v H2 e2 hv => hb H2 (e.trans e2) _ fun u H3 e3 hu => ⟨d, d, hv H3 e3, hu H3 (Ex.refl _), hs, hs, by rw [SeqAt.eqv_refl _ (SeqAt.canLay_of_shaped hs)]; exact q H3 (e2.trans e3)⟩
end
/-! books as data -/
def dBook (n : Nat) (rs : List (List Nat × List Nat)) : PyData := .tuple [.int (n : Nat), .tuple (rs.map dSS)]
theorem BookF.dp {K : PySem.W.Frag} {H : Hp} {v : V} {n : Nat} {rs : List (List Nat × List Nat)} (h : BookF K H v n rs) : Dp K H v (dBook n rs) := by
  obtain ⟨t, b, vs, rfl, c, d, p⟩ := h
  exact .tup (st_of c) (.cons (.int _) (.cons (.tup d.sq (Prs.dp p)) .nil))
theorem shaped_book {n : Nat} {rs : List (List Nat × List Nat)} (h : ∀ p ∈ rs, (∀ c ∈ p.1, c < 200) ∧ ∀ c ∈ p.2, c < 200) : SeqAt.shaped (dBook n rs) = true := by
  have a := (shaped_prs rs h).2
  unfold SeqAt.shaped at a ⊢
  rw [Bool.and_eq_true] at a ⊢
  obtain ⟨a1, a2⟩ := a
  have a2' := of_decide_eq_true a2
  have b2 : ∀ ps : List (List Nat × List Nat), PyData.depthAll (ps.map dSS) ≤ 4 := by
    intro ps
    induction ps with
    | nil => exact Nat.zero_le _
    | cons p ps ih =>
      show max (PyData.depth (dSS p)) (PyData.depthAll (ps.map dSS)) ≤ 4
      have : PyData.depth (dSS p) ≤ 4 := by simp [dSS, PyData.depth, PyData.depthAll]
      omega
  have b3 := b2 rs
  refine ⟨?_, decide_eq_true ?_⟩
  · show (PyData.canLayAll0 [.int (n : Nat), .tuple (rs.map dSS)]) = true
    show (PyData.canLay0 (.int (n : Nat)) && (PyData.canLay0 (.tuple (rs.map dSS)) && true)) = true
    rw [a1]
    rfl
  · simp only [dBook, PyData.depth, PyData.depthAll]
    omega
theorem BookOk.sub {n : Nat} {rs qs : List (List Nat × List Nat)} (h : BookOk n rs) (hl : qs.length ≤ 10) (hm : ∀ p ∈ qs, p ∈ rs) (hd : (qs.map (·.1)).Nodup) : BookOk n qs := ⟨h.hn, hl, fun p hp => h.hr p (hm p hp), fun p hp => h.hm p (hm p hp), hd⟩
theorem BookOk.perm {n : Nat} {rs qs : List (List Nat × List Nat)} (h : BookOk n rs) (p : qs.Perm rs) : BookOk n qs := h.sub (by rw [p.length_eq]; exact h.hl) (fun x hx => p.mem_iff.mp hx) ((p.map (·.1)).nodup_iff.mpr h.hd)
theorem BookOk.subl {n : Nat} {rs qs : List (List Nat × List Nat)} (h : BookOk n rs) (s : qs.Sublist rs) : BookOk n qs := h.sub (Nat.le_trans s.length_le h.hl) (fun x hx => s.subset hx) (h.hd.sublist (s.map _))
def NoN (K : PySem.W.Frag) (H : Hp) (t : Addr) (xs : List V) : Prop := H t = some (.tup xs) ∨ TupF H t xs
theorem NoN.sq {K : PySem.W.Frag} {H : Hp} {t : Addr} {xs : List V} (h : NoN K H t xs) : SqT K H t xs := h.elim st_of TupF.sq
theorem NoN.ty {K : PySem.W.Frag} {H : Hp} {t : Addr} {xs : List V} (h : NoN K H t xs) : TyX K H (.ref t) (.type "tuple") := h.elim (fun e => .base (.tup e)) fun ⟨o, _, c⟩ => .fTuple c
theorem NoN.ex {K : PySem.W.Frag} {H H' : Hp} {t : Addr} {xs : List V} (h : NoN K H t xs) (e : Ex H H') : NoN K H' t xs := h.elim (fun c => .inl (e _ _ c)) fun c => .inr (c.ex e)
end Hid

namespace Hid
open PySem PySem.Spec PyProof.Rows L2 Evl
/-! lists told by a word -/
theorem given_repW (n : Nat) : given n (fun _ => true) (fun _ => V.bl true) = (List.replicate n true).map V.bl := by
  rw [given_true, List.map_const', List.length_range, List.map_replicate]
def UpP (P : V → Hp → Prop) : Prop := ∀ v H H', Ex H H' → P v H → P v H'
def AllP (P : V → Hp → Prop) (n : Nat) (vs : List V) (H : Hp) : Prop := vs.length = n ∧ ∀ v ∈ vs, P v H
def LstP (P : V → Hp → Prop) (n : Nat) (v : V) (H : Hp) : Prop := ∃ p vs, v = .ref p ∧ H p = some (.lst vs) ∧ AllP P n vs H
theorem AllP.ex {P : V → Hp → Prop} {n : Nat} {vs : List V} {H H' : Hp} (u : UpP P) (h : AllP P n vs H) (e : Ex H H') : AllP P n vs H' := ⟨h.1, fun v hv => u v H H' e (h.2 v hv)⟩
theorem lst_up {P : V → Hp → Prop} {n : Nat} (u : UpP P) : UpP (LstP P n) := fun v H H' e ⟨p, vs, a, b, c⟩ => ⟨p, vs, a, e _ _ b, c.ex u e⟩
theorem cutV_mem {xs : List V} {lo hi : Option Int} {x : V} (h : x ∈ cutV xs lo hi) : x ∈ xs := by
  unfold cutV at h
  exact List.mem_of_mem_drop (List.mem_of_mem_take h)
section
variable {K : PySem.W.Frag} {σ : L2.St} {H : Hp} {ta tb tc te tl ty : TE} {t : TT} {D : Ends} {tu tz : L2.TS} {ts : TA} {b : Nat} {P P' : V → Hp → Prop}
theorem ap_nil : EvPs tNil σ H (AllP P 0) := fun H1 _ Q q => q [] H1 (Ex.refl _) ⟨rfl, fun _ z => nomatch z⟩
theorem ap_cons {n : Nat} (u : UpP P) (h : EvP ta σ H P) (hr : EvPs ts σ H (AllP P n)) : EvPs (tCons ta ts) σ H (AllP P (n + 1)) := fun H1 e Q q =>
  h H1 e _ fun v H2 e2 hv => hr H2 (e.trans e2) _ fun vs H3 e3 hvs => q _ H3 (e2.trans e3) ⟨congrArg Nat.succ hvs.1, fun x hx => (List.mem_cons.mp hx).elim (fun z => z ▸ u _ _ _ e3 hv) (hvs.2 x)⟩
theorem lp_lst {n : Nat} (u : UpP P) (h : EvPs ts σ H (AllP P n)) (hn : n ≤ 1000) : EvP (tLst ts) σ H (LstP P n) := fun H1 e Q q =>
  h H1 e _ fun vs H2 e2 hv => ⟨sz_of (by have := hv.1; omega), fun p hp => q _ _ (e2.trans (Ex.new hp)) ⟨p, vs, rfl, upd_same, hv.ex u (Ex.new hp)⟩⟩
theorem lp_cat {m n : Nat} (u : UpP P) (ha : EvP ta σ H (LstP P m)) (hb : EvP tb σ H (LstP P n)) (hn : m + n ≤ 1000) : EvP (tOp rCat ta tb) σ H (LstP P (m + n)) := fun H1 e Q q =>
  ha H1 e _ fun v H2 e2 ⟨l, xs, ev, hl, hx⟩ => hb H2 (e.trans e2) _ fun w H3 e3 ⟨p, ys, ew, hp, hy⟩ => by
    subst ev ew
    refine ⟨l, p, xs, ys, rfl, rfl, e3 _ _ hl, hp, sz_of (by rw [hx.1, hy.1]; omega), fun r nr => ?_⟩
    have e4 := Ex.new (o := .lst (xs ++ ys)) nr
    exact q _ _ (e2.trans (e3.trans e4)) ⟨r, _, rfl, upd_same, by rw [List.length_append, hx.1, hy.1], fun v hv => (List.mem_append.mp hv).elim (fun z => u _ _ _ (e3.trans e4) (hx.2 v z)) fun z => u _ _ _ e4 (hy.2 v z)⟩
theorem lp_ix {n j : Nat} (u : UpP P) (ha : EvP ta σ H (LstP P n)) (hi : Ev tb σ H (.int (j : Nat))) (hj : j < n) : EvP (tOp (rIxL K) ta tb) σ H P := fun H1 e Q q =>
  ha H1 e _ fun v H2 e2 ⟨l, xs, ev, hl, hx⟩ => hi H2 (e.trans e2) _ fun H3 e3 => by
    subst ev
    have hjx : j < xs.length := by rw [hx.1]; exact hj
    exact ⟨l, xs, (j : Int), xs[j], rfl, rfl, sq_of (e3 _ _ hl), atI_nat (List.getElem?_eq_getElem hjx), q _ H3 (e2.trans e3) (u _ _ _ e3 (hx.2 _ (List.getElem_mem hjx)))⟩
theorem ep_at {v : V} (h : Ev te σ H v) (hv : P v H) (u : UpP P) : EvP te σ H P := fun H1 e Q q => h H1 e _ fun H2 e2 => q v H2 e2 (u _ _ _ (e.trans e2) hv)
theorem s_retP (h : EvP te σ H P) (k : ∀ v H1, Ex H H1 → P v H1 → D.rt v H1) : tRet te D σ H := h H (Ex.refl _) _ fun v H1 e1 hv => k v H1 e1 hv
theorem q_asgP {i : Nat} (h : EvP te σ H P) (k : ∀ v H1, Ex H H1 → P v H1 → tz D (σ.set i (some v)) H1) : tSeq (tAsg te (gName i)) tz D σ H := h H (Ex.refl _) _ fun v H1 e1 hv => k v H1 e1 hv
theorem ep_i (h : EvP te σ H P) (i : ∀ v H, P v H → P' v H) : EvP te σ H P' := fun H1 e Q q => h H1 e Q fun v H2 e2 hv => q v H2 e2 (i v H2 hv)
theorem ev_allP {n j : Nat} {vs : List Nat} (u : UpP P) (hl : EvP tl σ H (LstP P n)) (hn : n ≤ 1000) (hw : ∀ x, wipe ((wipe σ vs).set j (some x)) vs = wipe σ vs) (he : ∀ x G, Ex H G → P x G → Ev ty ((wipe σ vs).set j (some x)) G (.bl true)) : Ev (tCB (rAll K) (tCons (tLc (iList K tl) (gName j) tYes ty vs) tNil)) σ H (.bl true) := fun H1 e Q q =>
  hl H1 e _ fun v H2 e2 ⟨p, ws, ev, h2, hw2⟩ => by
    subst ev
    have key := el_lcL (K := K) (t := tYes) (te := ty) (tl := tC (.ref p)) (vs := vs) (j := j) (fun _ => true) (fun _ => V.bl true) (σ := σ) (H := H2) ev_c (sq_of h2) (by have := hw2.1; omega) hw (fun i x G g hx => et_yes) (fun i x G g hx _ => he x G (e.trans (e2.trans g)) (u _ _ _ g (hw2.2 x (List.mem_of_getElem? hx))))
    rw [given_repW] at key
    have fin : tLc (iList K (tC (.ref p))) (gName j) tYes ty vs σ H2 (fun x H3 => rAll K [x] H3 Q) := key H2 (Ex.refl _) _ fun pl H3 np e3 h3 => ⟨pl, _, rfl, sq_of h3, by
      rw [show (List.replicate ws.length true).all id = true by simp]
      exact q H3 (e2.trans e3)⟩
    exact fin
theorem ev_callPW {sp : Sp} {E : XK} {z : V} (h : EvP ta σ H P) (k : ∀ v G, Ex H G → P v G → ∀ Q : VK, RetV z G Q → sp [v] G Q E) : Ev (tCall sp [] E (tCons ta tNil)) σ H z := fun H1 e Q q =>
  h H1 e _ fun v H2 e2 hv => k v H2 (e.trans e2) hv _ fun H3 e3 => q H3 (e2.trans e3)
/-- lists whose length is told by bounds -/
def LstQ (P : V → Hp → Prop) (m M : Nat) (v : V) (H : Hp) : Prop := ∃ p vs, v = .ref p ∧ H p = some (.lst vs) ∧ (m ≤ vs.length ∧ vs.length ≤ M) ∧ ∀ v ∈ vs, P v H
theorem LstP.q {n : Nat} {v : V} {H : Hp} (h : LstP P n v H) : LstQ P n n v H := let ⟨p, vs, a, b, c, d⟩ := h; ⟨p, vs, a, b, ⟨by omega, by omega⟩, d⟩
theorem lq_up {m M : Nat} (u : UpP P) : UpP (LstQ P m M) := fun v H H' e ⟨p, vs, a, b, c, d⟩ => ⟨p, vs, a, e _ _ b, c, fun x hx => u _ _ _ e (d x hx)⟩
theorem lq_lc {S : V → Prop} {xs : List V} {M j : Nat} {vs : List Nat} (hS : ∀ v G, S v → P v G) (hl : EvL tl σ H xs) (hM : xs.length ≤ M ∧ M ≤ 1000) (hw : ∀ x, wipe ((wipe σ vs).set j (some x)) vs = wipe σ vs)
    (ht : ∀ x ∈ xs, ∀ G, Ex H G → ∃ b, EvT t ((wipe σ vs).set j (some x)) G b ∧ (b = true → EvP te ((wipe σ vs).set j (some x)) G fun v _ => S v)) : EvP (tLc (iList K tl) (gName j) t te vs) σ H (LstQ P 0 M) := fun H1 e Q q =>
  hl H1 e _ fun a H2 na e2 ha => ⟨a, rfl, ⟨xs, sq_of ha⟩, fun Dl hD => by
    have e02 := e.trans e2
    refine lc_it (walk_list (xs := xs)) (fun i H' => ∃ us : List V, Ex H2 H' ∧ H' Dl = some (.lst us) ∧ us.length ≤ i ∧ ∀ v ∈ us, S v) ⟨[], Ex.new hD, upd_same, Nat.le_refl _, fun _ h => by cases h⟩ (fun i H' _ hP => sq_of (hP.choose_spec.1 _ _ ha)) (fun i x H3 H3' hi hP hY => ?_) (fun H3 hP => ?_)
    · obtain ⟨us, e3, h3, hul, hpu⟩ := hP
      obtain ⟨rfl, hx⟩ := hY
      obtain ⟨b, htb, hte⟩ := ht x (List.mem_of_getElem? hx) H3' (e02.trans e3)
      refine ⟨hw _, htb H3' (Ex.refl _) _ fun H4 e4 => ?_⟩
      cases b with
      | false =>
        rw [if_neg (by decide)]
        exact ⟨us, e3.trans e4, e4 _ _ h3, by omega, hpu⟩
      | true =>
        rw [if_pos rfl]
        exact hte rfl H4 e4 _ fun v H5 e5 hv => ⟨us, e5 _ _ (e4 _ _ h3), sz_lt (by omega), us ++ [v], (e3.trans (e4.trans e5)).mut hD, upd_same, by rw [List.length_append]; show us.length + 1 ≤ i + 1; omega, fun y hy => (List.mem_append.mp hy).elim (hpu y) fun z => by rw [List.mem_singleton.mp z]; exact hv⟩
    · obtain ⟨us, e3, h3, hul, hpu⟩ := hP
      exact q _ H3 (e2.trans e3) ⟨Dl, us, rfl, h3, ⟨Nat.zero_le _, by omega⟩, fun v hv => hS v H3 (hpu v hv)⟩⟩
theorem lq_cat {m M n N : Nat} (u : UpP P) (ha : EvP ta σ H (LstQ P m M)) (hb : EvP tb σ H (LstQ P n N)) (hn : M + N ≤ 1000) : EvP (tOp rCat ta tb) σ H (LstQ P (m + n) (M + N)) := fun H1 e Q q =>
  ha H1 e _ fun v H2 e2 ⟨l, xs, ev, hl, hx, hxp⟩ => hb H2 (e.trans e2) _ fun w H3 e3 ⟨p, ys, ew, hp, hy, hyp⟩ => by
    subst ev ew
    refine ⟨l, p, xs, ys, rfl, rfl, e3 _ _ hl, hp, sz_of (by omega), fun r nr => ?_⟩
    have e4 := Ex.new (o := .lst (xs ++ ys)) nr
    exact q _ _ (e2.trans (e3.trans e4)) ⟨r, _, rfl, upd_same, by rw [List.length_append]; omega, fun v hv => (List.mem_append.mp hv).elim (fun z => u _ _ _ (e3.trans e4) (hxp v z)) fun z => u _ _ _ e4 (hyp v z)⟩
theorem lq_mono {m M : Nat} (h : EvP te σ H (LstQ P m M)) (i : ∀ v H, P v H → P' v H) : EvP te σ H (LstQ P' m M) := ep_i h fun v H ⟨p, vs, a, b, c, d⟩ => ⟨p, vs, a, b, c, fun x hx => i x H (d x hx)⟩
theorem lp_q {n : Nat} (h : EvP te σ H (LstP P n)) : EvP te σ H (LstQ P n n) := ep_i h fun v H h => h.q
/-- the first words of a book's rows -/
theorem lp_names {a : Addr} {xs : List V} {ps : List (List Nat × List Nat)} {j : Nat} {vs : List Nat} (h : Ev tl σ H (.ref a)) (hs : SqT K H a xs) (hp : Prs K H xs ps) (hz : ps.length ≤ 1000) (hw : ∀ x, wipe ((wipe σ vs).set j (some x)) vs = wipe σ vs) (hv : ∀ x, ((wipe σ vs).set j (some x))[j]? = some (some x))
    (hP : ∀ p ∈ ps, ∀ G, P (.str (tx p.1)) G) : EvP (tLc (iTup K tl) (gName j) tYes (tOp (rIxT K) (tVar j) (tC (.int 0))) vs) σ H (LstP P ps.length) := fun H1 e Q q => h H1 e _ fun H2 e2 => ⟨a, rfl, ⟨xs, ex_t (e.trans e2) hs⟩, fun Dl hD => by
  have e02 : Ex H H2 := e.trans e2
  have hxl : xs.length = ps.length := paired_len hp
  refine lc_it (walk_tup (xs := xs)) (fun i H' => ∃ us : List V, Ex H2 H' ∧ H' Dl = some (.lst us) ∧ us.length = i ∧ ∀ v ∈ us, ∀ G, P v G) ⟨[], Ex.new hD, upd_same, rfl, fun _ h => by cases h⟩ (fun i H' _ hP => ex_t (e02.trans hP.choose_spec.1) hs) (fun i x H3 H3' hi hI hY => ?_) (fun H3 hI => ?_)
  · obtain ⟨us, e3, h3, hul, hpu⟩ := hI
    obtain ⟨rfl, hx⟩ := hY
    obtain ⟨c, hc, tc, rfl, hTc⟩ := paired_get hp i x hx
    refine ⟨hw _, et_yes H3' (Ex.refl _) _ fun H4 e4 => ?_⟩
    rw [if_pos rfl]
    refine (ev_op (H := H4) (ev_var (hv _)) ev_c (rv_ixT (v := .str (tx c.1)) (st_of ((e02.trans (e3.trans e4)) _ _ hTc)) (atI_nat (j := 0) rfl))) H4 (Ex.refl _) _ fun H5 e5 => ⟨us, e5 _ _ (e4 _ _ h3), sz_lt (by omega), us ++ [.str (tx c.1)], (e3.trans (e4.trans e5)).mut hD, upd_same, by rw [List.length_append, hul]; rfl, fun y hy => (List.mem_append.mp hy).elim (hpu y) fun z => by rw [List.mem_singleton.mp z]; exact hP c (List.mem_of_getElem? hc)⟩
  · obtain ⟨us, e3, h3, hul, hpu⟩ := hI
    exact q _ H3 (e2.trans e3) ⟨Dl, us, rfl, h3, by omega, fun v hv => hpu v hv H3⟩⟩
/-- a display kept, and known to be new -/
theorem q_asgLF {i n : Nat} (u : UpP P) (h : EvPs ts σ H (AllP P n)) (hn : n ≤ 1000) (k : ∀ p H1 vs, H p = none → Ex H H1 → H1 p = some (.lst vs) → AllP P n vs H1 → tz D (σ.set i (some (.ref p))) H1) : tSeq (tAsg (tLst ts) (gName i)) tz D σ H :=
  h H (Ex.refl H) _ fun vs H2 e2 hv => ⟨sz_of (by have := hv.1; omega), fun p hp => k p _ vs (fresh_back e2 hp) (e2.trans (Ex.new hp)) upd_same (hv.ex u (Ex.new hp))⟩
end
/-- all but one object stays -/
def ExNe (p : Addr) (G G' : Hp) : Prop := ∀ a o, a ≠ p → G a = some o → G' a = some o
theorem exne_up {P : V → Hp → Prop} {p : Addr} : UpP (fun v G => ∀ G', ExNe p G G' → P v G') := fun v H H' e h G' g => h G' fun a o na ha => g a o na (e a o ha)
theorem exne_upd {p : Addr} {G : Hp} {o : HO} : ExNe p G (upd G p o) := fun a u na ha => by rw [upd_ne na]; exact ha
end Hid

namespace Hid
open PySem PySem.Spec PyProof.Rows L2 Evl
section
variable {K : PySem.W.Frag} {σ : L2.St} {H : Hp} {ta tb tc te tl : TE} {t : TT} {D : Ends} {tu tz : L2.TS} {ts : TA} {P : V → Hp → Prop}
theorem el_lcS {z : Str} {j : Nat} {vs : List Nat} (f : Nat → Bool) (v : Nat → V) (h : Ev tl σ H (.str z)) (hz : z.cps.size ≤ 40000) (hw : ∀ x, wipe ((wipe σ vs).set j (some x)) vs = wipe σ vs)
    (ht : ∀ (i c : Nat) H1, Ex H H1 → z.cps[i]? = some c → EvT t ((wipe σ vs).set j (some (.str ⟨#[c]⟩))) H1 (f i)) (he : ∀ (i c : Nat) H1, Ex H H1 → z.cps[i]? = some c → f i = true → Ev te ((wipe σ vs).set j (some (.str ⟨#[c]⟩))) H1 (v i)) :
    EvL (tLc (iStr tl) (gName j) t te vs) σ H (given z.cps.size f v) := fun H0 e Q q => h H0 e _ fun H1 e1 => ⟨z, rfl, fun Dl hD =>
  lc_it walk_str (Cw H1 f v Dl) ⟨hD, Ex.new hD, upd_same⟩ (fun _ _ _ _ => trivial) (fun i x H2 H2' hi p hY => by
      obtain ⟨rfl, c, hc, rfl⟩ := hY
      exact ⟨hw _, cw_turn p (by omega) (ht i c H1 (e.trans e1) hc) (fun hf => he i c H1 (e.trans e1) hc hf)⟩)
    (fun H' p => q Dl H' (fresh_back e1 p.1) (e1.trans p.2.1) p.2.2)⟩
theorem ep_of {P' : V → Hp → Prop} (h : EvP te σ H P) (i : ∀ v H, P v H → P' v H) : EvP te σ H P' := fun H1 e Q q => h H1 e Q fun v H2 e2 hv => q v H2 e2 (i v H2 hv)
end
/-- things within a tuple: a text of plain signs, or no text -/
def ItS (K : PySem.W.Frag) (v : V) (H : Hp) : Prop := ∃ o, Th K H v o ∧ ∀ z, o = some z → ∀ c ∈ z, c < 200
theorem it_up {K : PySem.W.Frag} : UpP (ItS K) := fun v H H' e ⟨o, h, s⟩ => ⟨o, h.ex e, s⟩
def TuS (K : PySem.W.Frag) (n : Nat) (v : V) (H : Hp) : Prop := ∃ b vs, v = .ref b ∧ H b = some (.tup vs) ∧ vs.length ≤ n ∧ ∀ x ∈ vs, ItS K x H
theorem tu_up {K : PySem.W.Frag} {n : Nat} : UpP (TuS K n) := fun v H H' e ⟨b, vs, a, c, d, f⟩ => ⟨b, vs, a, e _ _ c, d, fun x hx => it_up _ _ _ e (f x hx)⟩
def smY (o : Option (List (Option (List Nat)))) : Prop := ∀ os, o = some os → ∀ x ∈ os, ∀ z, x = some z → ∀ c ∈ z, c < 200
/-- things of any kind, told as half-rows or orders might be -/
def ThS (K : PySem.W.Frag) (v : V) (H : Hp) : Prop := ∃ o, YgOk K H v o ∧ lenO o ≤ 60 ∧ smY o
theorem ths_up {K : PySem.W.Frag} : UpP (ThS K) := fun v H H' e ⟨o, h, s⟩ => ⟨o, h.ex e, s⟩
theorem it_os {K : PySem.W.Frag} {H : Hp} : ∀ vs : List V, (∀ x ∈ vs, ItS K x H) → ∃ os, Paired (Th K H) vs os ∧ ∀ x ∈ os, ∀ z, x = some z → ∀ c ∈ z, c < 200
  | [], _ => ⟨[], .nil, fun _ h => nomatch h⟩
  | x :: vs, h => by
    obtain ⟨o, ho, so⟩ := h x List.mem_cons_self
    obtain ⟨os, hos, ss⟩ := it_os vs fun y hy => h y (List.mem_cons_of_mem _ hy)
    exact ⟨o :: os, .cons ho hos, fun y hy => (List.mem_cons.mp hy).elim (fun e => e ▸ so) (ss y)⟩
theorem tu_th {K : PySem.W.Frag} {n : Nat} (hn : n ≤ 60) (v : V) (H : Hp) (h : TuS K n v H) : ThS K v H := by
  obtain ⟨b, vs, rfl, hb, hl, hx⟩ := h
  obtain ⟨os, ho, hs⟩ := it_os vs hx
  have hlo := paired_len ho
  refine ⟨some os, ⟨b, vs, rfl, hb, ho⟩, by show os.length ≤ 60; omega, fun os' e => ?_⟩
  cases e
  exact hs
theorem nu_th {K : PySem.W.Frag} (v : V) (H : Hp) (h : NotU K H v) : ThS K v H := ⟨none, h, Nat.zero_le _, fun _ z => nomatch z⟩
theorem cutV_memS {xs : List V} {lo hi : Option Int} {x : V} (h : x ∈ cutV xs lo hi) : x ∈ xs := List.mem_of_mem_drop (List.mem_of_mem_take h)
theorem cutV_leS {xs : List V} {lo hi : Option Int} : (cutV xs lo hi).length ≤ xs.length := by
  unfold cutV
  rw [List.length_take, List.length_drop]
  omega
theorem sh_strs {l : List Str} (h : ∀ y ∈ l, ∀ c ∈ zl y, c < 200) : SeqAt.shaped (.list (l.map PyData.str)) = true := by
  have : SeqAt.shaped (.list (((l.map zl).map tx).map PyData.str)) = true := shaped_strs fun x hx c hc => by
    obtain ⟨y, hy, rfl⟩ := List.mem_map.mp hx
    exact h y hy c hc
  rw [tx_zl] at this
  exact this
theorem emod_nat (z : Int) {n : Nat} (h : 0 < n) : ∃ k : Nat, z % (n : Int) = (k : Nat) ∧ k < n := by
  have m0 := Int.emod_nonneg z (show (n : Int) ≠ 0 by omega)
  have m1 := Int.emod_lt_of_pos z (show (0 : Int) < (n : Int) by omega)
  exact ⟨(z % (n : Int)).toNat, by omega, by omega⟩
section
variable {K : PySem.W.Frag} {σ : L2.St} {H : Hp} {ta tb tc te : TE} {tl th : TO} {D : Ends} {tz : L2.TS} {P : V → Hp → Prop} {ts : TA}
theorem tu_sl {b : Addr} {vs : List V} {n : Nat} {lo hi : Option Int} (h : Ev te σ H (.ref b)) (hb : H b = some (.tup vs)) (hl : vs.length ≤ n) (hx : ∀ x ∈ vs, ItS K x H) (h1 : EvO tl σ H lo) (h2 : EvO th σ H hi) : EvP (tSl (rSlA K) te tl th) σ H (TuS K n) := fun H1 e Q q =>
  h H1 e _ fun H2 e2 => h1 H2 (e.trans e2) _ fun H3 e3 => h2 H3 ((e.trans e2).trans e3) _ fun H4 e4 => by
    have e14 : Ex H1 H4 := e2.trans (e3.trans e4)
    exact ⟨b, vs, rfl, st_of ((e.trans e14) _ _ hb), fun _ => q _ H4 e14 ⟨b, vs, rfl, (e.trans e14) _ _ hb, hl, fun x m => it_up _ _ _ (e.trans e14) (hx x m)⟩, fun _ p hp => q _ _ (e14.trans (Ex.new hp)) ⟨p, _, rfl, upd_same, Nat.le_trans cutV_leS hl, fun x m => it_up _ _ _ (e.trans (e14.trans (Ex.new hp))) (hx x (cutV_memS m))⟩⟩
theorem tu_rev {b : Addr} {vs : List V} {n : Nat} (h : Ev te σ H (.ref b)) (hb : H b = some (.tup vs)) (hl : vs.length ≤ n) (hx : ∀ x ∈ vs, ItS K x H) : EvP (tRevT K te) σ H (TuS K n) := fun H1 e Q q =>
  h H1 e _ fun H2 e2 => ⟨b, vs, rfl, st_of ((e.trans e2) _ _ hb), fun p hp => q _ _ (e2.trans (Ex.new hp)) ⟨p, _, rfl, upd_same, by rw [List.length_reverse]; exact hl, fun x m => it_up _ _ _ (e.trans (e2.trans (Ex.new hp))) (hx x (List.mem_reverse.mp m))⟩⟩
theorem tu_one {v : V} (h : Ev te σ H v) (hv : ItS K v H) : EvP (tTup (tCons te tNil)) σ H (TuS K 1) := fun H1 e Q q =>
  (eu_tup (ea_cons h ea_nil) (by show 1 ≤ 100000; decide)) H1 e _ fun p H2 _ e2 h2 => q _ H2 e2 ⟨p, _, rfl, h2, Nat.le_refl 1, fun x m => by rw [List.mem_singleton.mp m]; exact it_up _ _ _ (e.trans e2) hv⟩
theorem tu_cat {m n : Nat} (ha : EvP ta σ H (TuS K m)) (hb : EvP tb σ H (TuS K n)) (hl : m + n ≤ 100000) : EvP (tOp (rCatA K) ta tb) σ H (TuS K (m + n)) := fun H1 e Q q =>
  ha H1 e _ fun v H2 e2 ⟨a, xs, ea, sa, la, xa⟩ => hb H2 (e.trans e2) _ fun w H3 e3 ⟨b, ys, eb, sb, lb, xb⟩ => by
    subst ea eb
    refine ⟨a, b, xs, ys, rfl, rfl, st_of (e3 _ _ sa), st_of sb, sz_of (by omega), fun _ => q _ H3 (e2.trans e3) ⟨b, ys, rfl, sb, by omega, xb⟩, fun _ _ => q _ H3 (e2.trans e3) ⟨a, xs, rfl, e3 _ _ sa, by omega, fun x hx => it_up _ _ _ e3 (xa x hx)⟩, fun _ _ p hp => q _ _ ((e2.trans e3).trans (Ex.new hp)) ⟨p, _, rfl, upd_same, by rw [List.length_append]; omega, fun x hx => ?_⟩⟩
    exact (List.mem_append.mp hx).elim (fun z => it_up _ _ _ (e3.trans (Ex.new hp)) (xa x z)) fun z => it_up _ _ _ (Ex.new hp) (xb x z)
theorem tu_nil : EvP (tTup tNil) σ H (TuS K 0) := fun H1 e Q q => ⟨by show 0 ≤ sizeLine; decide, fun p np => q _ _ (Ex.new np) ⟨p, [], rfl, upd_same, Nat.le_refl 0, fun _ z => nomatch z⟩⟩
theorem nl_listP {xs : List V} (h : EvL te σ H xs) : EvP te σ H (fun v H => NotU K H v) := fun H1 e Q q => h H1 e _ fun p H2 _ e2 h2 => q _ H2 e2 ⟨"list", by decide +kernel, fun _ e => .base (.lst (e _ _ h2))⟩
theorem ev_eqSet {a : Addr} {ys : List Str} {b : Bool} (ha : H a = some (.tup (ys.map V.str))) (h1 : Ev ta σ H (.ref a)) (h2 : Ev tb σ H (.ref a)) (hl : ys.length < 4000) (hsm : ∀ y ∈ ys, ∀ c ∈ zl y, c < 200) (hb : b = true ↔ Rise ys) : Ev (tOp (rEqD K) (tCB (rListS K) (tCons ta tNil)) (tSortSet K tb)) σ H (.bl b) := fun H1 e Q q =>
  (el_listT h1 (st_of ha)) H1 e _ fun p H2 np e2 h2' => h2 H2 (e.trans e2) _ fun H3 e3 => ⟨a, ys, rfl, st_of ((e.trans (e2.trans e3)) _ _ ha), hl, fun zs p2 hri hln hm np2 => by
    have e9 := Ex.new (o := .lst (zs.map V.str)) np2
    refine ⟨.list (ys.map PyData.str), .list (zs.map PyData.str), .lst (sq_of ((e3.trans e9) _ _ h2')) (strs_dp _), .lst (sq_of upd_same) (strs_dp _), sh_strs hsm, sh_strs fun y hy => hsm y ((hm y).mp hy), ?_⟩
    rw [eqv_strD, show decide (ys = zs) = b from ?_]
    · exact q _ (e2.trans (e3.trans e9))
    · rw [Bool.eq_iff_iff, decide_eq_true_iff, hb]
      exact ⟨fun h => by rw [h]; exact hri, fun h => rise_uniq h hri fun x => (hm x).symm⟩⟩
end
section
variable {P : Program} {w : World} {K : PySem.W.Frag} {mg : Str → Option Value} {base : Heap}
def sp__law_written (K : PySem.W.Frag) (ts : List Addr) : Sp := fun vs H Q _ => ∃ (v : V) (o : Option (List Nat)) (g : List Nat), vs = [v, .str (tx g), .int 8] ∧ Th K H v o ∧ g.length ≤ 1000 ∧ RetV (.bl (wr o g)) H Q
theorem ok__law_written {ts : List Addr} (D : Df K mg "_law_written" st__law_written ["_law_thing", "_law_signs", "_law_most"]) (m_all : mg "all" = none) (m_len : mg "len" = none) (m_isinstance : mg "isinstance" = none) (m_str : mg "str" = none) : At P w K mg base "_law_written" st__law_written 1 ["_law_thing", "_law_signs", "_law_most"] (sp__law_written K ts) := by
  obtain ⟨f, fd, F, b, g⟩ := D
  refine ⟨f, fd, F, b, g, F.ok sc__law_written (fun vs H Q E h => ?_) (fun cdv A outer s H vs Q E hr h => ?_)⟩
  · obtain ⟨v, o, g, rfl, _⟩ := h
    rfl
  · obtain ⟨v, o, g0, rfl, hv, hg, q⟩ := h
    refine ⟨_, (pss_one (ps_ret (pe_and (pe_callB call_isi (by rfl) m_isinstance (by decide +kernel) (pa_cons (pv 0) (pa_cons (pe_bltn (v := .ty "str") (by rfl) m_str (by decide +kernel) rfl) pa_nil))) (pe_and (pe_chain op_lt op_le pe_int (pe_callB call_len_str (by rfl) m_len (by decide +kernel) (pa_cons (pv 0) pa_nil)) (pv 2)) (pe_one (pe_callB (cr_all rfl) (by rfl) m_all (by decide +kernel) (pa_cons (pe_lc (own := [("_law_sign", 3)]) (g := gName 3) (by rfl) sc__law_written.nd (pi_str (pv 0)) (blkOk_by (N := ["_law_thing", "_law_signs", "_law_most", "_law_sign"]) (sc := defScope st__law_written) (by decide +kernel)) (fun _ _ _ _ _ => (pg_name (i := 3) sc__law_written.nd rfl (.inl rfl))) (fun _ _ _ _ _ => pts_nil) (fun _ _ _ _ _ => (pe_cmpR op_in_sign (pv 3) (pv 1) rfl))) pa_nil))))))), ?_⟩
    cases o with
    | none => exact s_ret (ev_is (ev_andV (a := false) (b := false) (ev_isS (ev_var rfl) hv) fun z => absurd z (by decide)) rfl) fun H1 e1 => q H1 e1
    | some z =>
      obtain ⟨rfl, hz⟩ := id hv
      have hlen : (tx z).length = z.length := tx_len z
      have hall : (List.replicate z.length ()).length = z.length := List.length_replicate
      refine s_ret (ev_is (ev_andV (a := true) (b := decide (1 ≤ z.length ∧ z.length ≤ 8) && z.all fun c => decide (c ∈ g0)) (ev_isS (ev_var rfl) hv) fun _ => ev_andV (a := decide (1 ≤ z.length ∧ z.length ≤ 8)) (b := z.all fun c => decide (c ∈ g0)) (ev_is (ev_chain (b := decide ((0 : Int) < z.length)) (b' := decide ((z.length : Int) ≤ 8)) ev_c (ev_is (ev_lenS (ev_var rfl) (by omega)) (by rw [hlen])) rv_I0 (fun _ => ev_var rfl) fun _ => rv_I0) ?_) fun hd => ?_) rfl) fun H1 e1 => q H1 e1
      · rw [← Bool.decide_and]
        exact congrArg V.bl (decide_eq_decide.mpr (by omega))
      · have h8 := (of_decide_eq_true hd).2
        refine ev_is (ev_all (bs := z.map fun c => decide (c ∈ g0)) (el_isL (el_lcS (z := tx z) (fun _ => true) (fun i => .bl (decide (z.getD i 0 ∈ g0))) (ev_var rfl) (by show (tx z).length ≤ 40000; omega) (fun _ => rfl) (fun i c G g hc => et_yes) fun i c G g hc _ => ?_) ?_)) ?_
        · have hc' : z[i]? = some c := by simpa [tx] using hc
          refine ev_is (ev_op (ev_var rfl) (ev_var rfl) (z := .bl (decide (c ∈ g0))) (fun G1 g1 Q1 q1 => ⟨c, tx g0, rfl, rfl, by rw [tx_toList]; exact q1 G1 (Ex.refl _)⟩)) ?_
          rw [List.getD_eq_getElem?_getD, hc']
          rfl
        · rw [given_true, List.map_map]
          refine List.ext_getElem? fun i => ?_
          rw [List.getElem?_map, List.getElem?_map]
          have hs : (tx z).cps.size = z.length := hlen
          rcases Nat.lt_or_ge i z.length with h | h
          · rw [List.getElem?_range (by omega), List.getElem?_eq_getElem h, Option.map_some, Option.map_some, List.getD_eq_getElem?_getD, List.getElem?_eq_getElem h]
            rfl
          · rw [List.getElem?_eq_none (by rw [List.length_range]; omega), List.getElem?_eq_none h]
            rfl
        · rw [List.all_map]
          rfl
def sp__law_good_known (K : PySem.W.Frag) (ts : List Addr) : Sp := fun vs H Q _ => ∃ (bv : V) (n : Nat) (rs : List (List Nat × List Nat)) (v : V) (o : Option (List (Option (List Nat)))) (b : Bool), vs = [bv, v] ∧ BookF K H bv n rs ∧ (1 ≤ n ∧ n ≤ 8) ∧ YgOk K H v o ∧ lenO o ≤ 100 ∧ (b = true ↔ knO n o) ∧ RetV (.bl b) H Q
theorem ok__law_good_known {ts : List Addr} (D : Df K mg "_law_good_known" st__law_good_known ["_law_book_here", "_law_thing"]) (m_all : mg "all" = none) (m_isinstance : mg "isinstance" = none) (m_tuple : mg "tuple" = none) (m_len : mg "len" = none) (m_list : mg "list" = none) (m_sorted : mg "sorted" = none) (m_set : mg "set" = none) (A__law_written : At P w K mg base "_law_written" st__law_written 1 ["_law_thing", "_law_signs", "_law_most"] (sp__law_written K ts)) : At P w K mg base "_law_good_known" st__law_good_known 2 ["_law_book_here", "_law_thing"] (sp__law_good_known K ts) := by
  obtain ⟨f, fd, F, b, g⟩ := D
  obtain ⟨f__law_written, fd__law_written, F__law_written, b__law_written, g__law_written, G__law_written⟩ := A__law_written
  refine ⟨f, fd, F, b, g, F.ok sc__law_good_known (fun vs H Q E h => ?_) (fun cdv A outer s H vs Q E hr h => ?_)⟩
  · obtain ⟨bv, n, rs, v, o, b, rfl, _⟩ := h
    rfl
  · obtain ⟨bv, n, rs, v, o, bb, rfl, hB, hn, hv, hlo, hbb, q⟩ := h
    refine ⟨_, (pss_cons (ps_if (PW.pt (pw_or (pt_not (pt_val (pe_callB call_isi (by rfl) m_isinstance (by decide +kernel) (pa_cons (pv 1) (pa_cons (pe_bltn (v := .ty "tuple") (by rfl) m_tuple (by decide +kernel) rfl) pa_nil))))) (pw_or1 (pt_not (pt_val (pe_callB (cr_all rfl) (by rfl) m_all (by decide +kernel) (pa_cons (pe_lc (own := [("_law_half", 2)]) (g := gName 2) (by rfl) sc__law_good_known.nd (pi_tup (pv 1)) (blkOk_by (N := ["_law_book_here", "_law_thing", "_law_half"]) (sc := defScope st__law_good_known) (by decide +kernel)) (fun _ _ _ _ _ => (pg_name (i := 2) sc__law_good_known.nd rfl (.inl rfl))) (fun _ _ _ _ _ => pts_nil) (fun _ _ _ _ _ => (pe_call G__law_written (hr.mono (by decide)) (by rfl) g__law_written F__law_written.kp b__law_written .nil pass0 (pa_cons (pv 2) (pa_cons pe_str (pa_cons pe_int pa_nil)))))) pa_nil)))))))
      (pss_one (ps_ret pe_bl))
      pss_nil)
      (pss_cons (ps_if (pt_not (pt_val (pe_callB (cr_all rfl) (by rfl) m_all (by decide +kernel) (pa_cons (pe_lc (own := [("_law_half", 2)]) (g := gName 2) (by rfl) sc__law_good_known.nd (pi_tup (pv 1)) (blkOk_by (N := ["_law_book_here", "_law_thing", "_law_half"]) (sc := defScope st__law_good_known) (by decide +kernel)) (fun _ _ _ _ _ => (pg_name (i := 2) sc__law_good_known.nd rfl (.inl rfl))) (fun _ _ _ _ _ => pts_nil) (fun _ _ _ _ _ => (pe_cmpR op_eq (pe_callB call_len_str (by rfl) m_len (by decide +kernel) (pa_cons (pv 2) pa_nil)) (pe_ix (show IxR _ (rIxT K) from ix_tup) (pv 0) pe_int (fun _ _ => rfl)) (nomark _)))) pa_nil))))
      (pss_one (ps_ret pe_bl))
      pss_nil)
      (pss_one (ps_ret (pe_cmpR (op_eqD hr.units) (pe_callTy call_list_of (by rfl) m_list (by decide +kernel) (pa_cons (pv 1) pa_nil)) (Hid.pe_sortSet rfl hr.units (by rfl) m_sorted (by rfl) m_set (pv 1)) (nomark _)))))), ?_⟩
    obtain ⟨tb, b, vs, rfl, hBt, hBb, hBp⟩ := id hB
    cases o with
    | none =>
      have hbf : bb = false := by
        cases bb with
        | false => rfl
        | true => exact (hbb.mp rfl).elim
      rw [hbf] at q
      exact q_when (b := true) (et_is (et_or (a := true) (b := true) (et_is (b := true) (et_not (et_B (ev_isU (ev_var rfl) hv))) rfl) fun z => absurd z (by decide)) rfl) (fun _ H1 e1 => s_ret ev_c fun H2 e2 => q H2 (e1.trans e2)) (fun hb => absurd hb (by decide))
    | some os =>
    obtain ⟨t, ws, rfl, ht, hp⟩ := hv
    have hwl := paired_len hp
    have hos : os.length ≤ 100 := hlo
    have isT : EvT (tNot (tB (tCB (rIsi K) (tCons (tVar 1) (tCons (tC (.ty "tuple")) tNil))))) ([some (.ref tb), some (.ref t), none] : L2.St) H (!true) := et_not (et_B (ev_isi (b := true) (t := "tuple") (ev_var rfl) (fun H1 e => .base (.tup (e _ _ ht))) (by decide +kernel)))
    refine q_when (b := !(os.all fun o => wr o [110, 121])) (et_is (et_or (a := false) (b := !(os.all fun o => wr o [110, 121])) (et_is isT rfl) fun _ => et_not (et_B (ev_is (ev_all (bs := os.map fun o => wr o [110, 121]) (el_isL (el_lcT (K := K) (fun _ => true) (fun i => V.bl (wr (os.getD i none) [110, 121])) (ev_var rfl) (st_of ht) (by omega) (fun _ => rfl) (fun _ _ _ _ _ => et_yes) (fun i x G g hx _ => ?_)) ?_)) ?_))) rfl) (fun hb H1 e1 => ?_) (fun hb H1 e1 => ?_)
    · obtain ⟨oi, hoi, hth⟩ := paired_get hp i x hx
      rw [List.getD_eq_getElem?_getD, hoi]
      exact ev_call (ea_cons (ev_var rfl) (ea_cons ev_c (ea_cons ev_c ea_nil))) fun G3 g3 Q3 q3 E3 => ⟨_, oi, [110, 121], rfl, hth.ex (g.trans g3), by decide, q3⟩
    · rw [given_true, hwl, List.map_map]
      conv => rhs; rw [← map_range_getD' os none]
      rw [List.map_map]
      rfl
    · rw [List.all_map]
      rfl
    · have hbf : bb = false := by
        cases bb with
        | false => rfl
        | true =>
          obtain ⟨ys, rfl, hh, _⟩ := hbb.mp rfl
          rw [List.all_eq_true.mpr fun x hx => ?_] at hb
          · cases hb
          · obtain ⟨y, hy, rfl⟩ := List.mem_map.mp hx
            exact half_wr (hh y hy) hn.1 hn.2
      rw [hbf] at q
      exact s_ret ev_c fun H2 e2 => q H2 (e1.trans e2)
    have hall : ∀ x ∈ os, wr x [110, 121] = true := List.all_eq_true.mp (of_not' hb)
    obtain ⟨ys, rfl⟩ := all_strs fun x hx => by
      have := hall x hx
      cases x with
      | none => cases this
      | some z => exact ⟨z, rfl⟩
    obtain rfl := strs_of hp
    rw [List.length_map] at hos
    have hzl : ∀ y ∈ ys, (zl y).length ≤ 8 := fun y hy => by
      have h : (decide (1 ≤ (zl y).length ∧ (zl y).length ≤ 8) && (zl y).all fun c => decide (c ∈ ([110, 121] : List Nat))) = true := hall _ (List.mem_map.mpr ⟨y, hy, rfl⟩)
      rw [Bool.and_eq_true] at h
      exact (of_decide_eq_true h.1).2
    refine q_when (b := !(ys.all fun y => decide ((zl y).length = n))) (et_not (et_B (ev_is (ev_all (bs := ys.map fun y => decide ((zl y).length = n)) (el_isL (el_lcT (K := K) (fun _ => true) (fun i => V.bl (decide ((zl (ys.getD i "")).length = n))) (ev_var rfl) (st_of (e1 _ _ ht)) (by rw [List.length_map]; omega) (fun _ => rfl) (fun _ _ _ _ _ => et_yes) (fun i x G g hx _ => ?_)) ?_)) ?_))) (fun hb2 H2 e2 => ?_) (fun hb2 H2 e2 => ?_)
    · rw [List.getElem?_map] at hx
      obtain ⟨y, hy, rfl⟩ := Option.map_eq_some_iff.mp hx
      have h8 := hzl y (List.mem_of_getElem? hy)
      rw [List.getD_eq_getElem?_getD, hy]
      refine ev_is (ev_op (ev_lenS (ev_var rfl) (by show y.cps.size ≤ 100000; rw [Array.length_toList] at h8; omega)) (ev_op (ev_var rfl) ev_c (rv_ixT (st_of ((e1.trans g) _ _ hBt)) (atI_nat (j := 0) rfl))) (rv_eq rfl)) (congrArg V.bl (decide_eq_decide.mpr ?_))
      show V.int ((y.cps.size : Nat) : Int) = V.int ((n : Nat) : Int) ↔ y.cps.toList.length = n
      rw [Array.length_toList]
      exact ⟨fun z => by have := V.int.inj z; omega, fun z => by rw [z]⟩
    · rw [given_true, List.length_map, List.map_map]
      conv => rhs; rw [← map_range_getD' ys ""]
      rw [List.map_map]
      rfl
    · rw [List.all_map]
      rfl
    · have hbf : bb = false := by
        cases bb with
        | false => rfl
        | true =>
          obtain ⟨ys', e', hh, _⟩ := hbb.mp rfl
          rw [map_str_inj e'] at hb2
          rw [List.all_eq_true.mpr fun y hy => decide_eq_true (hh y hy).1] at hb2
          cases hb2
      rw [hbf] at q
      exact s_ret ev_c fun H3 e3 => q H3 (e1.trans (e2.trans e3))
    have hln : ∀ y ∈ ys, (zl y).length = n := fun y hy => of_decide_eq_true (List.all_eq_true.mp (of_not' hb2) y hy)
    have hhf : ∀ y ∈ ys, HfS n y := fun y hy => wr_half (hall _ (List.mem_map.mpr ⟨y, hy, rfl⟩)) (hln y hy)
    have hri : bb = true ↔ Rise ys := hbb.trans ⟨fun ⟨ys', e, _, r⟩ => by rw [map_str_inj e]; exact r, fun r => ⟨ys, rfl, hhf, r⟩⟩
    exact s_ret (ev_eqSet ((e1.trans e2) _ _ ht) (ev_var rfl) (ev_var rfl) (by omega) (fun y hy c hc => by rcases (hhf y hy).2 c hc with z | z <;> omega) hri) fun H3 e3 => q H3 (e1.trans (e2.trans e3))
def sp__law_good_order (K : PySem.W.Frag) (ts : List Addr) : Sp := fun vs H Q _ => ∃ (bv : V) (n : Nat) (rs : List (List Nat × List Nat)) (v : V) (o : Option (List (Option (List Nat)))) (b : Bool), vs = [bv, v] ∧ BookF K H bv n rs ∧ BookOk n rs ∧ YgOk K H v o ∧ lenO o ≤ 100 ∧ smY o ∧ (b = true ↔ ordO rs o) ∧ RetV (.bl b) H Q
theorem ok__law_good_order {ts : List Addr} (D : Df K mg "_law_good_order" st__law_good_order ["_law_book_here", "_law_thing"]) (m_all : mg "all" = none) (m_isinstance : mg "isinstance" = none) (m_str : mg "str" = none) (m_tuple : mg "tuple" = none) (m_sorted : mg "sorted" = none) : At P w K mg base "_law_good_order" st__law_good_order 1 ["_law_book_here", "_law_thing"] (sp__law_good_order K ts) := by
  obtain ⟨f, fd, F, b, g⟩ := D
  refine ⟨f, fd, F, b, g, F.ok sc__law_good_order (fun vs H Q E h => ?_) (fun cdv A outer s H vs Q E hr h => ?_)⟩
  · obtain ⟨bv, n, rs, v, o, b, rfl, _⟩ := h
    rfl
  · obtain ⟨bv, n, rs, v, o, bb, rfl, hB, hBk, hv, hlo, hsm, hbb, q⟩ := h
    refine ⟨_, (pss_cons (ps_setLc (i := 2) (own := [("_law_row", 3)]) (g := gName 3) rfl sc__law_good_order.nd rfl rfl (sw_true rfl rfl rfl (by decide +kernel)) (pi_tup (pe_ix ix_tup (pv 0) pe_int (fun _ _ => rfl))) (blkOk_by (N := ["_law_book_here", "_law_thing", "_law_names_here", "_law_row", "_law_name"]) (sc := defScope st__law_good_order) (by decide +kernel)) (fun _ _ _ _ _ => (pg_name (i := 3) sc__law_good_order.nd rfl (.inl rfl))) (fun _ _ _ _ _ => pts_nil) (fun _ _ _ _ _ => (pe_ix (show IxR _ (rIxT K) from ix_tup) (pv 3) pe_int (fun _ _ => rfl))))
      (pss_cons (ps_if (PW.pt (pw_or (pt_not (pt_val (pe_callB call_isi (by rfl) m_isinstance (by decide +kernel) (pa_cons (pv 1) (pa_cons (pe_bltn (v := .ty "tuple") (by rfl) m_tuple (by decide +kernel) rfl) pa_nil))))) (pw_or1 (pt_not (pt_val (pe_callB (cr_all rfl) (by rfl) m_all (by decide +kernel) (pa_cons (pe_lc (own := [("_law_name", 4)]) (g := gName 4) (by rfl) sc__law_good_order.nd (pi_tup (pv 1)) (blkOk_by (N := ["_law_book_here", "_law_thing", "_law_names_here", "_law_row", "_law_name"]) (sc := defScope st__law_good_order) (by decide +kernel)) (fun _ _ _ _ _ => (pg_name (i := 4) sc__law_good_order.nd rfl (.inl rfl))) (fun _ _ _ _ _ => pts_nil) (fun _ _ _ _ _ => (pe_callB (show CallR _ (.builtin "isinstance") (rIsi K) from call_isi) (by rfl) m_isinstance (by decide +kernel) (pa_cons (pv 4) (pa_cons (pe_bltn (v := .ty "str") (by rfl) m_str (by decide +kernel) rfl) pa_nil))))) pa_nil)))))))
      (pss_one (ps_ret pe_bl))
      pss_nil)
      (pss_one (ps_ret (pe_cmpR (op_eqD hr.units) (pe_callB (Hid.cr_sortedT hr.units) (by rfl) m_sorted (by decide +kernel) (pa_cons (pv 1) pa_nil)) (pe_callB (Hid.cr_sortLS hr.units) (by rfl) m_sorted (by decide +kernel) (pa_cons (pv 2) pa_nil)) (nomark _)))))), ?_⟩
    obtain ⟨tb, b, vs, rfl, hBt, hBb, hBp⟩ := id hB
    have hvl : vs.length = rs.length := paired_len hBp
    have hrl := hBk.hl
    refine q_asgL (xs := (rs.map fun p => tx p.1).map V.str) (el_isL (el_lcT (K := K) (fun _ => true) (fun i => V.str (tx (rs.getD i ([], [])).1)) (ev_op (ev_var rfl) ev_c (rv_ixT (st_of hBt) (atI_nat (j := 1) rfl))) hBb.sq (by omega) (fun _ => rfl) (fun _ _ _ _ _ => et_yes) (fun m x G g hx _ => ?_)) ?_) fun ln H1 nln e1 h1 => ?_
    · obtain ⟨z, hz, t9, rfl, c9⟩ := paired_get hBp m x hx
      rw [List.getD_eq_getElem?_getD, hz]
      exact ev_op (ev_var rfl) ev_c (rv_ixT (st_of (g _ _ c9)) (atI_nat (j := 0) rfl))
    · rw [given_true, hvl, List.map_map]
      conv => rhs; rw [← map_range_getD' rs ([], [])]
      rw [List.map_map]
      rfl
    cases o with
    | none =>
      have hbf : bb = false := by
        cases bb with
        | false => rfl
        | true => exact (hbb.mp rfl).elim
      rw [hbf] at q
      exact q_when (b := true) (et_is (et_or (a := true) (b := true) (et_is (b := true) (et_not (et_B (ev_isU (ev_var rfl) (hv.ex e1)))) rfl) fun z => absurd z (by decide)) rfl) (fun _ H2 e2 => s_ret ev_c fun H3 e3 => q H3 (e1.trans (e2.trans e3))) (fun hb => absurd hb (by decide))
    | some os =>
    obtain ⟨t, ws, rfl, ht, hp⟩ := hv
    have hwl := paired_len hp
    have hos : os.length ≤ 100 := hlo
    refine q_when (b := !(os.all fun o => o.isSome)) (et_is (et_or (a := false) (b := !(os.all fun o => o.isSome)) (et_is (et_not (et_B (ev_isi (b := true) (t := "tuple") (ev_var rfl) (fun H2 e => .base (.tup ((e1.trans e) _ _ ht))) (by decide +kernel)))) rfl) fun _ => et_not (et_B (ev_is (ev_all (bs := os.map fun o => o.isSome) (el_isL (el_lcT (K := K) (fun _ => true) (fun i => V.bl (os.getD i none).isSome) (ev_var rfl) (st_of (e1 _ _ ht)) (by omega) (fun _ => rfl) (fun _ _ _ _ _ => et_yes) (fun i x G g hx _ => ?_)) ?_)) ?_))) rfl) (fun hb H2 e2 => ?_) (fun hb H2 e2 => ?_)
    · obtain ⟨oi, hoi, hth⟩ := paired_get hp i x hx
      rw [List.getD_eq_getElem?_getD, hoi]
      exact ev_isS (ev_var rfl) (hth.ex (e1.trans g))
    · rw [given_true, hwl, List.map_map]
      conv => rhs; rw [← map_range_getD' os none]
      rw [List.map_map]
      rfl
    · rw [List.all_map]
      rfl
    · have hbf : bb = false := by
        cases bb with
        | false => rfl
        | true =>
          obtain ⟨ys, rfl, _⟩ := hbb.mp rfl
          rw [List.all_eq_true.mpr fun x hx => ?_] at hb
          · cases hb
          · obtain ⟨y, hy, rfl⟩ := List.mem_map.mp hx
            rfl
      rw [hbf] at q
      exact s_ret ev_c fun H3 e3 => q H3 (e1.trans (e2.trans e3))
    have hall : ∀ x ∈ os, x.isSome = true := List.all_eq_true.mp (of_not' hb)
    obtain ⟨ys, rfl⟩ := all_strs fun x hx => by
      have := hall x hx
      cases x with
      | none => cases this
      | some z => exact ⟨z, rfl⟩
    obtain rfl := strs_of hp
    rw [List.length_map] at hos
    have hbp : bb = decide (srt ys = srt (rs.map fun p => tx p.1)) := by
      rw [Bool.eq_iff_iff, decide_eq_true_iff, srt_eq]
      exact hbb.trans ⟨fun ⟨ys', e, r⟩ => by rw [map_str_inj e]; exact r, fun r => ⟨ys, rfl, r⟩⟩
    have s1 := sh_strs (l := srt ys) fun y hy => hsm _ rfl _ (List.mem_map.mpr ⟨y, mem_srt.mp hy, rfl⟩) _ rfl
    have s2 := sh_strs (l := srt (rs.map fun p => tx p.1)) fun y hy => by
      obtain ⟨p, hpp2, rfl⟩ := List.mem_map.mp (mem_srt.mp hy)
      rw [zl_tx]
      exact (hBk.small p hpp2).1
    refine s_ret (v := .bl bb) (ev_is (ev_opLL (xs := (srt ys).map V.str) (ys := (srt (rs.map fun p => tx p.1)).map V.str) (el_cb (ea_cons (ev_var rfl) ea_nil) fun G g Q1 q1 => ⟨t, ys, rfl, st_of ((e1.trans (e2.trans g)) _ _ ht), by omega, fun p hp => q1 p _ hp (Ex.new hp) upd_same⟩) (el_cb (ea_cons (ev_var rfl) ea_nil) fun G g Q1 q1 => ⟨ln, rs.map fun p => tx p.1, rfl, sq_of ((e2.trans g) _ _ h1), fun p hp => q1 p _ hp (Ex.new hp) upd_same⟩) fun p p2 G hp hp2 g G1 g1 Q1 q1 => ⟨.list ((srt ys).map PyData.str), .list ((srt (rs.map fun p => tx p.1)).map PyData.str), .lst (sq_of (g1 _ _ hp)) (strs_dp _), .lst (sq_of (g1 _ _ hp2)) (strs_dp _), s1, s2, q1 G1 (Ex.refl _)⟩) (by rw [eqv_strD, hbp])) fun H3 e3 => q H3 (e1.trans (e2.trans e3))
def sp__law_bent (K : PySem.W.Frag) (ts : List Addr) : Sp := fun vs H Q _ => ∃ (v : V) (l o : Addr) (xs : List Int) (ods : List V), vs = [v, .ref l, .ref o] ∧ TuS K 20 v H ∧ SqL K H l (xs.map V.int) ∧ 3 ≤ xs.length ∧ H o = some (.lst ods) ∧ (0 < ods.length ∧ ods.length ≤ 100) ∧ (∀ x ∈ ods, ItS K x H ∧ ThS K x H) ∧ ∀ v2 H2, Ex H H2 → ThS K v2 H2 → Q v2 H2
theorem ok__law_bent {ts : List Addr} (D : Df K mg "_law_bent" st__law_bent ["_law_some", "_law_xs", "_law_odd"]) (m_len : mg "len" = none) (m_list : mg "list" = none) : At P w K mg base "_law_bent" st__law_bent 1 ["_law_some", "_law_xs", "_law_odd"] (sp__law_bent K ts) := by
  obtain ⟨f, fd, F, b, g⟩ := D
  refine ⟨f, fd, F, b, g, F.ok sc__law_bent (fun vs H Q E h => ?_) (fun cdv A outer s H vs Q E hr h => ?_)⟩
  · obtain ⟨v, l, o, xs, ods, rfl, _⟩ := h
    rfl
  · obtain ⟨v, l, o, xs, ods, rfl, ⟨t, vs, rfl, hb0, hvl, hvs⟩, hxs, hx3, hos, ⟨ho1, ho2⟩, hod, q⟩ := h
    refine ⟨_, (pss_cons (ps_set (i := 3) sc__law_bent.nd rfl (.inl rfl) (pe_op op_mod (pe_ix ix_list (pv 1) pe_int (fun _ _ => rfl)) (pe_op op_add (pe_callB call_len_seq (by rfl) m_len (by decide +kernel) (pa_cons (pv 0) pa_nil)) pe_int)))
      (pss_cons (ps_set (i := 4) sc__law_bent.nd rfl (.inl rfl) (pe_op op_mod (pe_ix ix_list (pv 1) pe_int (fun _ _ => rfl)) pe_int))
      (pss_cons (ps_if (pt_cmpR op_eq (pv 4) pe_int (nomark _))
      (pss_one (ps_ret (pe_op op_catA (pe_slice sl_tupA (pv 0) po_none (po_some (pv 3))) (pe_slice sl_tupA (pv 0) (po_some (pe_op op_add (pv 3) pe_int)) po_none))))
      pss_nil)
      (pss_cons (ps_if (pt_cmpR op_eq (pv 4) pe_int (nomark _))
      (pss_one (ps_ret (pe_op op_catA (pe_op op_catA (pe_slice sl_tupA (pv 0) po_none (po_some (pv 3))) (pe_slice sl_tupA (pv 0) (po_some (pv 3)) (po_some (pe_op op_add (pv 3) pe_int)))) (pe_slice sl_tupA (pv 0) (po_some (pv 3)) po_none))))
      pss_nil)
      (pss_cons (ps_if (pt_cmpR op_eq (pv 4) pe_int (nomark _))
      (pss_one (ps_ret (Hid.pe_revT (pv 0))))
      pss_nil)
      (pss_cons (ps_if (pt_cmpR op_eq (pv 4) pe_int (nomark _))
      (pss_one (ps_ret (pe_callTy call_list_of (by rfl) m_list (by decide +kernel) (pa_cons (pv 0) pa_nil))))
      pss_nil)
      (pss_cons (ps_if (pt_cmpR op_eq (pv 4) pe_int (nomark _))
      (pss_one (ps_ret (pe_op op_catA (pv 0) (pe_tup (pa_cons (pe_ix ix_list (pv 2) (pe_op op_mod (pe_ix ix_list (pv 1) pe_int (fun _ _ => rfl)) (pe_callB call_len_seq (by rfl) m_len (by decide +kernel) (pa_cons (pv 2) pa_nil))) (fun _ _ => rfl)) pa_nil)))))
      pss_nil)
      (pss_cons (ps_if (pt_cmpR op_eq (pv 4) pe_int (nomark _))
      (pss_one (ps_ret (pe_op op_catA (pe_op op_catA (pe_slice sl_tupA (pv 0) po_none (po_some (pv 3))) (pe_tup (pa_cons (pe_ix ix_list (pv 2) (pe_op op_mod (pe_ix ix_list (pv 1) pe_int (fun _ _ => rfl)) (pe_callB call_len_seq (by rfl) m_len (by decide +kernel) (pa_cons (pv 2) pa_nil))) (fun _ _ => rfl)) pa_nil))) (pe_slice sl_tupA (pv 0) (po_some (pe_op op_add (pv 3) pe_int)) po_none))))
      pss_nil)
      (pss_cons (ps_if (pt_cmpR op_eq (pv 4) pe_int (nomark _))
      (pss_one (ps_ret (pe_ix ix_list (pv 2) (pe_op op_mod (pe_ix ix_list (pv 1) pe_int (fun _ _ => rfl)) (pe_callB call_len_seq (by rfl) m_len (by decide +kernel) (pa_cons (pv 2) pa_nil))) (fun _ _ => rfl))))
      pss_nil)
      (pss_one (ps_ret (pv 0)))))))))))), ?_⟩
    have ax : ∀ (j : Nat) (hj : j < 3), atI (xs.map V.int) (j : Int) = some (.int (xs.getD j 0)) := fun j hj => atI_nat (by rw [List.getElem?_map, List.getD_eq_getElem?_getD, List.getElem?_eq_getElem (by omega)]; rfl)
    obtain ⟨at_, hat, hatn⟩ := emod_nat (xs.getD 0 0) (show 0 < vs.length + 1 by omega)
    obtain ⟨W, hW, hW9⟩ := emod_nat (xs.getD 1 0) (show 0 < 9 by decide)
    obtain ⟨j, hj, hjn⟩ := emod_nat (xs.getD 2 0) ho1
    refine q_asg (v := .int (at_ : Nat)) (ev_is (ev_op (ev_op (ev_var rfl) ev_c (rv_ixL (ex_l (Ex.refl _) hxs) (ax 0 (by omega)))) (ev_is (ev_op (ev_lenT (ev_var rfl) (st_of hb0)) ev_c rv_I0) (congrArg V.int (show ((vs.length : Nat) : Int) + 1 = ((vs.length + 1 : Nat) : Int) from rfl))) (rv_I (by show (0 : Int) < _; omega))) (congrArg V.int hat)) fun H1 e1 => ?_
    refine q_asg (v := .int (W : Nat)) (ev_is (ev_op (ev_op (ev_var rfl) ev_c (rv_ixL (ex_l e1 hxs) (ax 1 (by omega)))) ev_c (rv_I (by show (0 : Int) < 9; decide))) (congrArg V.int hW)) fun H2 e2 => ?_
    have g2 := e1.trans e2
    refine q_when (et_test (ev_op (ev_var rfl) ev_c (rv_eq rfl))) (fun hb G g9 => ?_) (fun hb G g9 => ?_)
    · have g := g2.trans g9
      exact s_retP (P := ThS K) (ep_of (tu_cat (tu_sl (n := 20) (ev_var rfl) (g _ _ hb0) hvl (fun x hx => it_up _ _ _ g (hvs x hx)) eo_none (eo_some (ev_var rfl))) (tu_sl (n := 20) (ev_var rfl) (g _ _ hb0) hvl (fun x hx => it_up _ _ _ g (hvs x hx)) (eo_some (ev_op (ev_var rfl) ev_c rv_I0)) eo_none) (by decide)) (tu_th (by decide))) fun v3 G3 g3 hv3 => q v3 G3 (g.trans g3) hv3
    replace g2 := g2.trans g9
    clear g9
    refine q_when (et_test (ev_op (ev_var rfl) ev_c (rv_eq rfl))) (fun hb G g9 => ?_) (fun hb G g9 => ?_)
    · have g := g2.trans g9
      exact s_retP (P := ThS K) (ep_of (tu_cat (tu_cat (tu_sl (n := 20) (ev_var rfl) (g _ _ hb0) hvl (fun x hx => it_up _ _ _ g (hvs x hx)) eo_none (eo_some (ev_var rfl))) (tu_sl (n := 20) (ev_var rfl) (g _ _ hb0) hvl (fun x hx => it_up _ _ _ g (hvs x hx)) (eo_some (ev_var rfl)) (eo_some (ev_op (ev_var rfl) ev_c rv_I0))) (by decide)) (tu_sl (n := 20) (ev_var rfl) (g _ _ hb0) hvl (fun x hx => it_up _ _ _ g (hvs x hx)) (eo_some (ev_var rfl)) eo_none) (by decide)) (tu_th (by decide))) fun v3 G3 g3 hv3 => q v3 G3 (g.trans g3) hv3
    replace g2 := g2.trans g9
    clear g9
    refine q_when (et_test (ev_op (ev_var rfl) ev_c (rv_eq rfl))) (fun hb G g9 => ?_) (fun hb G g9 => ?_)
    · have g := g2.trans g9
      exact s_retP (P := ThS K) (ep_of (tu_rev (n := 20) (ev_var rfl) (g _ _ hb0) hvl (fun x hx => it_up _ _ _ g (hvs x hx))) (tu_th (by decide))) fun v3 G3 g3 hv3 => q v3 G3 (g.trans g3) hv3
    replace g2 := g2.trans g9
    clear g9
    refine q_when (et_test (ev_op (ev_var rfl) ev_c (rv_eq rfl))) (fun hb G g9 => ?_) (fun hb G g9 => ?_)
    · have g := g2.trans g9
      exact s_retP (P := ThS K) (ep_of (nl_listP (K := K) (el_listT (ev_var rfl) (st_of (g _ _ hb0)))) nu_th) fun v3 G3 g3 hv3 => q v3 G3 (g.trans g3) hv3
    replace g2 := g2.trans g9
    clear g9
    refine q_when (et_test (ev_op (ev_var rfl) ev_c (rv_eq rfl))) (fun hb G g9 => ?_) (fun hb G g9 => ?_)
    · have g := g2.trans g9
      exact s_retP (P := ThS K) (ep_of (tu_cat (ep_at (ev_var rfl) (P := TuS K 20) ⟨t, vs, rfl, g _ _ hb0, hvl, fun x hx => it_up _ _ _ g (hvs x hx)⟩ tu_up) (tu_one (ev_op (ev_var rfl) (ev_is (ev_op (ev_op (ev_var rfl) ev_c (rv_ixL (ex_l g hxs) (ax 2 (by omega)))) (ev_is (ev_len (ev_var rfl) (sq_of (g _ _ hos))) rfl) (rv_I (by show (0 : Int) < _; omega))) (congrArg V.int hj)) (rv_ixL (v := ods[j]) (sq_of (g _ _ hos)) (atI_nat (List.getElem?_eq_getElem hjn)))) (it_up _ _ _ g (hod _ (List.getElem_mem hjn)).1)) (by decide)) (tu_th (by decide))) fun v3 G3 g3 hv3 => q v3 G3 (g.trans g3) hv3
    replace g2 := g2.trans g9
    clear g9
    refine q_when (et_test (ev_op (ev_var rfl) ev_c (rv_eq rfl))) (fun hb G g9 => ?_) (fun hb G g9 => ?_)
    · have g := g2.trans g9
      exact s_retP (P := ThS K) (ep_of (tu_cat (tu_cat (tu_sl (n := 20) (ev_var rfl) (g _ _ hb0) hvl (fun x hx => it_up _ _ _ g (hvs x hx)) eo_none (eo_some (ev_var rfl))) (tu_one (ev_op (ev_var rfl) (ev_is (ev_op (ev_op (ev_var rfl) ev_c (rv_ixL (ex_l g hxs) (ax 2 (by omega)))) (ev_is (ev_len (ev_var rfl) (sq_of (g _ _ hos))) rfl) (rv_I (by show (0 : Int) < _; omega))) (congrArg V.int hj)) (rv_ixL (v := ods[j]) (sq_of (g _ _ hos)) (atI_nat (List.getElem?_eq_getElem hjn)))) (it_up _ _ _ g (hod _ (List.getElem_mem hjn)).1)) (by decide)) (tu_sl (n := 20) (ev_var rfl) (g _ _ hb0) hvl (fun x hx => it_up _ _ _ g (hvs x hx)) (eo_some (ev_op (ev_var rfl) ev_c rv_I0)) eo_none) (by decide)) (tu_th (by decide))) fun v3 G3 g3 hv3 => q v3 G3 (g.trans g3) hv3
    replace g2 := g2.trans g9
    clear g9
    refine q_when (et_test (ev_op (ev_var rfl) ev_c (rv_eq rfl))) (fun hb G g9 => ?_) (fun hb G g9 => ?_)
    · have g := g2.trans g9
      exact s_retP (P := ThS K) (ep_at (ev_op (ev_var rfl) (ev_is (ev_op (ev_op (ev_var rfl) ev_c (rv_ixL (ex_l g hxs) (ax 2 (by omega)))) (ev_is (ev_len (ev_var rfl) (sq_of (g _ _ hos))) rfl) (rv_I (by show (0 : Int) < _; omega))) (congrArg V.int hj)) (rv_ixL (v := ods[j]) (sq_of (g _ _ hos)) (atI_nat (List.getElem?_eq_getElem hjn)))) (ths_up _ _ _ g (hod _ (List.getElem_mem hjn)).2) ths_up) fun v3 G3 g3 hv3 => q v3 G3 (g.trans g3) hv3
    replace g2 := g2.trans g9
    clear g9
    have g := g2
    exact s_retP (P := ThS K) (ep_of (ep_at (ev_var rfl) (P := TuS K 20) ⟨t, vs, rfl, g _ _ hb0, hvl, fun x hx => it_up _ _ _ g (hvs x hx)⟩ tu_up) (tu_th (by decide))) fun v3 G3 g3 hv3 => q v3 G3 (g.trans g3) hv3
end
end Hid

namespace Hid
open PySem PySem.Spec PyProof.Rows L2 Evl CwR
/-! expressions behind which a token is out; written texts replaced within displays -/
def PEK (X : Cx) (e : Expr) (t : TE) : Prop := ∀ (pins : List (Addr × Obj)) (s : Shared) (σ : L2.St) (H : Hp) (Q : VK), Inv X pins σ H s → t σ H Q → wpAny (model X.prog X.w) X.A (eval e X.env) (fun v s' => 1 ≤ s'.toks ∧ EP X pins σ Q v s') X.xe s
section
variable {X : Cx} {a e f : Expr} {te tf ta : TE} {pos p0 c : Pos} {es : List Expr} {st : Stmt} {rest : List Stmt} {u : L2.TS}
theorem pek_ixI {r : R2} {k : Int} {j : Nat} (hr : IxR X r) (ha : PE X a ta) : PEK X (.Subscript a (.Constant (.int k) j c) pos) (tOp r ta (tC (.int k))) := by
  intro pins s σ H Q I h
  refine Subscript_ (thn (ha.run pins s σ H _ I h) fun v s1 ⟨x, H1, I1, rx, q1⟩ => wpAny_Constant_int ?_)
  have key := hr a (.Constant (.int k) j c) pins { s1 with toks := s1.toks + 1 } σ H1 x (.int k) v (.int k s1.toks) Q (I1.tok _) rx ⟨_, rfl⟩ q1 rfl
  exact wpAny_mono (PySem.wpAny_toks key) (fun v s' q => ⟨by have h1 : s1.toks + 1 ≤ s'.toks := q.1; omega, q.2⟩) fun _ _ z => z.2
theorem pek_opL {op : Operator} {r : R2} (ho : OpR X (binaryOp op) r) (ha : PEK X e te) (hb : PE X f tf) : PEK X (.BinOp e op f pos) (tOp r te tf) := by
  intro pins s σ H Q I h
  refine wpAny_BinOp (wpAny_mono (ha pins s σ H _ I h) (fun v s1 ⟨hk, x, H1, I1, r1, q1⟩ => ?_) fun _ _ z => z)
  refine wpAny_mono (PySem.wpAny_toks (hb.run pins s1 σ H1 _ I1 q1)) (fun w s2 ⟨hk2, y, H2, I2, r2, q2⟩ => ?_) fun _ _ z => z.2
  exact wpAny_mono (PySem.wpAny_toks (ho pins s2 σ H2 x y v w Q I2 r1 r2 q2)) (fun _ s' q => ⟨by have := q.1; omega, q.2⟩) fun _ _ z => z.2
/-- x = e, e gives a token: behind it one is out -/
theorem pss_setK {i : Nat} {x : Str} {pos' : Pos} (hN : X.N.Nodup) (hi : X.N[i]? = some x) (hx : Loc X.env.scope x) (he : PEK X e te) (h2 : PSsT X rest u) (hs : swapsWith e (some (.Name x pos')) pos.line X.env = pure false := by rfl) (hf : X.fn x = true ∨ X.env.scope.names.lookup x = some .local := by first | exact .inl rfl | exact .inr rfl | assumption) :
    PSs X (.Assign [.Name x pos'] e pos :: rest) (tSeq (tAsg te (gName i)) u) := by
  refine ⟨fun pins s σ H D I h => ?_⟩
  refine wpAny_execs_cons (wpAny_Assign_Name (wpAny_mono (he pins s σ H _ I h) (fun v s1 ⟨hk, y, H1, I1, r1, q1⟩ => ?_) fun _ _ z => z) hs)
  refine wpAny_mono (PySem.wpAny_toks (store_ok (v := y) (u := v) (Q := fun _ s2 => Inv X pins (σ.set i (some y)) H1 s2) I1 hN hi hx r1 (fun _ I2 => I2) hf)) (fun _ s2 q => ?_) fun _ _ z => z.2
  exact h2 pins s2 _ H1 D (Nat.le_trans hk q.1) q.2 q1
theorem pst_set {i : Nat} {x : Str} {pos' : Pos} (hN : X.N.Nodup) (hi : X.N[i]? = some x) (hx : Loc X.env.scope x) (he : PET X e te) (hs : swapsWith e (some (.Name x pos')) pos.line X.env = pure false := by rfl) (hf : X.fn x = true ∨ X.env.scope.names.lookup x = some .local := by first | exact .inl rfl | exact .inr rfl | assumption) :
    PST X (.Assign [.Name x pos'] e pos) (tAsg te (gName i)) := by
  intro pins s σ H D h0 I h
  refine wpAny_Assign_Name (thn (he pins s σ H _ h0 I h) fun v s1 ⟨y, H1, I1, r1, q1⟩ => ?_) hs
  exact store_ok I1 hN hi hx r1 (fun s2 I2 => ⟨_, H1, I2, q1⟩) hf
theorem pet_tup {x1} {ta : TA} (h : PAT X es ta) : PET X (.Tuple es x1 pos) (tTup ta) := by
  intro pins s σ H Q h0 I hq
  refine wpAny_Tuple_spliced (thn (h pos pins s σ H _ h0 I hq) fun us s1 ⟨xs, H1, I1, r, z, q⟩ => ⟨by rw [← r.length]; exact z, ?_⟩)
  have hf : H1 s1.heap.objs.size = none := I1.hok.fresh (Nat.le_refl _)
  refine ⟨.ref s1.heap.objs.size, upd H1 s1.heap.objs.size (.tup xs), I1.laid (t' := s1.toks) (fun b u e => Heap.get?_push_of_some _ e) (Nat.le_refl _) ?_, rfl, q _ hf⟩
  exact ⟨z, us, r, ⟨_, Heap.get?_push_size _ rfl, rfl, _, rfl⟩⟩
theorem pat_of {ta : TA} (h : PA X es ta) : PAT X es ta := fun pos pins s σ H Q _ I q => h.run pos pins s σ H Q I q
end
section
variable {K : PySem.W.Frag} {σ : L2.St} {H : Hp} {te : TE}
theorem ev_replC {x y z : Str} (h : Ev te σ H (.str x)) (hl : x.length + (x.length + 1) * z.length ≤ 16777216) : Ev (tReplC te y z) σ H (.str (Txt.replace x y z)) := fun H1 e Q q =>
  h H1 e _ fun H2 e2 => ⟨x, rfl, hl, q H2 e2⟩
end
end Hid

namespace Hid
open PySem PySem.Spec PyProof.Rows L2 Evl
/-! one sign replaced by another, sign by sign -/
theorem str_tx (s : Str) : s = tx s.cps.toList := by
  cases s
  simp [tx]
theorem repl_1 (y z : Nat) : ∀ l : List Nat, StrLaws.replS [y] [z] 0 l = l.map fun c => if c = y then z else c
  | [] => rfl
  | c :: r => by
    rw [StrLaws.replS, List.map_cons]
    by_cases h : c = y
    · rw [if_pos (by rw [h]; rfl), if_pos h]
      show z :: StrLaws.replS [y] [z] 0 r = _
      rw [repl_1 y z r]
    · rw [if_neg (fun e => h (by injection e)), if_neg h, repl_1 y z r]
theorem repl_tx (y z : Nat) (l : List Nat) : Txt.replace (tx l) (tx [y]) (tx [z]) = tx (l.map fun c => if c = y then z else c) := by
  rw [str_tx (Txt.replace _ _ _), StrLaws.replace_list (show 1 ≤ (tx [y]).length by rw [tx_len]; exact Nat.le_refl 1), tx_toList, tx_toList, tx_toList]
  unfold StrLaws.replL
  rw [repl_1]
end Hid

namespace Hid
open PySem PySem.Spec PyProof.Rows L2 Evl CwR
/-! e.replace of written texts, where e itself gives a token out -/
section
variable {X : Cx} {o : Expr} {to : TE} {y z : Str} {j k : Nat} {c0 c1 apos pos : Pos}
theorem pe_replK (ho : PEK X o to) (hyz : (y == z) = false := by decide)
    (hst : starEach [.Constant (.str y) j c0, .Constant (.str z) k c1] X.env = [(false, eval (.Constant (.str y) j c0) X.env), (false, eval (.Constant (.str z) k c1) X.env)] := by rfl)
    (hbase : attributeBase o "replace" X.env (eval o X.env) = eval o X.env := by rfl) (hline : (apos.endLine == pos.line) = true := by rfl) :
    PE X (.Call (.Attribute o "replace" apos) [.Constant (.str y) j c0, .Constant (.str z) k c1] [] pos) (tReplC to y z) := by
  refine ⟨fun pins s σ H Q I h => ?_⟩
  refine PySem.Call_method2 hbase hst hline (wpAny_mono (ho pins s σ H _ I h) (fun v s1 q => ?_) fun _ _ z => z)
  obtain ⟨hk, v', H1, I1, r1, x, e1, hb, q⟩ := q
  subst e1
  obtain ⟨tx, e2⟩ := r1
  subst e2
  refine ⟨"str", _, PySem.F.plainAttrs_str, PySem.F.slot_str_replace, PySem.F.type_str_replace, typeIs_str _ _ _, (fun _ e => nomatch e), Calls.callWith_builtin rfl (Calls.evalArgs_plain (Calls.spliced_cons ?_))⟩
  refine Calls.Constant_str (Calls.spliced_cons (Calls.Constant_str (Calls.spliced_nil ?_)))
  exact PySem.SC.replace (by show s1.toks ≠ 0; omega) (by show s1.toks + 1 ≠ 0; omega) (by show s1.toks ≠ s1.toks + 1; omega) hyz hb fun t' k => ⟨.str (Txt.replace x y z), H1, I1.tok k, ⟨t', rfl⟩, q⟩
end
end Hid

namespace Hid
open PySem PySem.Spec PyProof.Rows L2 Evl
theorem prs_exN {K : PySem.W.Frag} {H H' : Hp} {vs : List V} {rs : List (List Nat × List Nat)} (h : Prs K H vs rs) (e : LamX.ExtN H H') : Prs K H' vs rs := paired_mono (fun _ _ ⟨t, a, c⟩ => ⟨t, a, e _ _ c (fun _ z => nomatch z)⟩) h
def repB (l : List Nat) : List Nat := l.map fun c => if c = 98 then 110 else c
theorem repB_small {r : List Nat} (h : RowL r) : ∀ c ∈ repB r, c < 200 := fun c hc => by
  obtain ⟨d, hd, rfl⟩ := List.mem_map.mp hc
  have := h.2 d hd
  split <;> omega
theorem repl_small {n d : Nat} (hd : d < 200) : ∀ c ∈ List.replicate n d, c < 200 := fun c hc => by rw [(List.mem_replicate.mp hc).2]; exact hd
theorem mul_y {n : Nat} (h : n < 10) : Txt.mul "y" (n : Int) = tx (List.replicate n 121) := by
  have : ∀ n < 10, Txt.mul "y" ((n : Nat) : Int) = tx (List.replicate n 121) := by decide +kernel
  exact this n h
theorem mul_b {n : Nat} (h : n < 10) : Txt.mul "b" (n : Int) = tx (List.replicate n 98) := by
  have : ∀ n < 10, Txt.mul "b" ((n : Nat) : Int) = tx (List.replicate n 98) := by decide +kernel
  exact this n h
theorem mul_N {n : Nat} (h : n < 10) : Txt.mul "N" (n : Int) = tx (List.replicate n 78) := by
  have : ∀ n < 10, Txt.mul "N" ((n : Nat) : Int) = tx (List.replicate n 78) := by decide +kernel
  exact this n h
/-- odd things, told by what they are -/
def OdW (v : V) (H : Hp) : Prop := (∃ z : List Nat, v = .str (tx z) ∧ z.length ≤ 100 ∧ ∀ c ∈ z, c < 200) ∨ (v = .non ∨ (∃ i, v = .int i) ∨ ∃ b, v = .bl b) ∨ (∃ a xs, v = .ref a ∧ H a = some (.lst xs)) ∨ (∃ a, v = .ref a ∧ H a = some (.dK [])) ∨ (∃ (a : Addr) (ls : List (List Nat)), v = .ref a ∧ H a = some (.tup (ls.map fun l => V.str (tx l))) ∧ ls.length ≤ 20 ∧ ∀ l ∈ ls, l.length ≤ 100 ∧ ∀ c ∈ l, c < 200)
theorem od_up : UpP OdW := fun v H H' e h => by
  rcases h with h | h | ⟨a, xs, h, g⟩ | ⟨a, h, g⟩ | ⟨a, ls, h, g, k⟩
  · exact .inl h
  · exact .inr (.inl h)
  · exact .inr (.inr (.inl ⟨a, xs, h, e _ _ g⟩))
  · exact .inr (.inr (.inr (.inl ⟨a, h, e _ _ g⟩)))
  · exact .inr (.inr (.inr (.inr ⟨a, ls, h, e _ _ g, k⟩)))
theorem od_exN {v : V} {H H' : Hp} (e : LamX.ExtN H H') (h : OdW v H) : OdW v H' := by
  rcases h with h | h | ⟨a, xs, h, g⟩ | ⟨a, h, g⟩ | ⟨a, ls, h, g, k⟩
  · exact .inl h
  · exact .inr (.inl h)
  · exact .inr (.inr (.inl ⟨a, xs, h, e _ _ g (fun _ z => nomatch z)⟩))
  · exact .inr (.inr (.inr (.inl ⟨a, h, e _ _ g (fun _ z => nomatch z)⟩)))
  · exact .inr (.inr (.inr (.inr ⟨a, ls, h, e _ _ g (fun _ z => nomatch z), k⟩)))
theorem tx_it {K : PySem.W.Frag} {H : Hp} {z : List Nat} (hl : z.length ≤ 1000) (hs : ∀ c ∈ z, c < 200) : ItS K (.str (tx z)) H := ⟨some z, ⟨rfl, hl⟩, fun y e => by cases e; exact hs⟩
theorem no_it {K : PySem.W.Frag} {H : Hp} {v : V} (h : NotS K H v) : ItS K v H := ⟨none, h, fun _ e => nomatch e⟩
theorem od_it {K : PySem.W.Frag} {v : V} {H : Hp} (h : OdW v H) : ItS K v H := by
  rcases h with ⟨z, rfl, hl, hs⟩ | (rfl | ⟨i, rfl⟩ | ⟨b, rfl⟩) | ⟨a, xs, rfl, g⟩ | ⟨a, rfl, g⟩ | ⟨a, ls, rfl, g, _⟩
  · exact tx_it (by omega) hs
  · exact no_it ⟨"NoneType", by decide +kernel, fun _ _ => .base .non⟩
  · exact no_it ⟨"int", by decide +kernel, fun _ _ => .base (.int _)⟩
  · exact no_it ⟨"bool", by decide +kernel, fun _ _ => .base (.bl _)⟩
  · exact no_it ⟨"list", by decide +kernel, fun _ e => .base (.lst (e _ _ g))⟩
  · exact no_it ⟨"dict", by decide +kernel, fun _ e => .base (.dK (e _ _ g))⟩
  · exact no_it ⟨"tuple", by decide +kernel, fun _ e => .base (.tup (e _ _ g))⟩
theorem od_th {K : PySem.W.Frag} {v : V} {H : Hp} (h : OdW v H) : ThS K v H := by
  rcases h with ⟨z, rfl, hl, hs⟩ | (rfl | ⟨i, rfl⟩ | ⟨b, rfl⟩) | ⟨a, xs, rfl, g⟩ | ⟨a, rfl, g⟩ | ⟨a, ls, rfl, g, hl, hs⟩
  · exact nu_th _ _ (nu_str _)
  · exact nu_th _ _ nu_non
  · exact nu_th _ _ ⟨"int", by decide +kernel, fun _ _ => .base (.int _)⟩
  · exact nu_th _ _ ⟨"bool", by decide +kernel, fun _ _ => .base (.bl _)⟩
  · exact nu_th _ _ (nu_lst g)
  · exact nu_th _ _ (nu_dict g)
  · refine tu_th (n := 20) (by decide) _ _ ⟨a, _, rfl, g, by rw [List.length_map]; exact hl, fun x hx => ?_⟩
    obtain ⟨l, hm, rfl⟩ := List.mem_map.mp hx
    exact tx_it (by have := (hs l hm).1; omega) (hs l hm).2
section
variable {K : PySem.W.Frag} {σ : L2.St} {H : Hp} {ta tb tc te : TE} {t : TT} {D : Ends} {tu tz : L2.TS} {ts : TA} {P P' R : V → Hp → Prop}
theorem q_forIN {j : Nat} (h : EvI te σ H) (Pv : Hp → Nat → L2.St → Hp → Prop) (h0 : ∀ G, Ex H G → Pv G 0 σ G) (hE : ∀ G i σ' H', Pv G i σ' H' → LamX.ExtN G H')
    (hs : ∀ G i (z : Int) σ' H', Ex H G → Pv G i σ' H' → tu { D with nx := Pv G (i + 1), ct := Pv G (i + 1), bk := tz D } (σ'.set j (some (.int z))) H') (hd : ∀ G m σ' H', Ex H G → Pv G m σ' H' → tz D σ' H') : tSeq (tFor (iList K te) (gName j) tu) tz D σ H :=
  h H (Ex.refl _) _ fun p zs G g hp hl => ⟨p, rfl, ⟨_, sq_of hp⟩, for_list (K := K) (xs := zs.map V.int) (Pv G) (h0 G g) (fun i σ' H' _ hP => sq_of (hE G i σ' H' hP _ _ hp (fun _ z => nomatch z))) (fun i x σ' H' hx hP => by
    rw [List.getElem?_map] at hx
    obtain ⟨z, _, rfl⟩ := Option.map_eq_some_iff.mp hx
    exact hs G i z σ' H' g hP) (fun σ' H' hP => hd G _ σ' H' g hP)⟩
theorem od_tx {z : List Nat} (h : Ev te σ H (.str (tx z))) (hl : z.length ≤ 100) (hs : ∀ c ∈ z, c < 200) : EvP te σ H OdW := ep_at h (.inl ⟨z, rfl, hl, hs⟩) od_up
theorem od_lit {s : Str} (h : (decide (s.cps.size ≤ 100) && s.cps.toList.all (fun c => decide (c < 200))) = true) : EvP (tC (.str s)) σ H OdW := by
  rw [Bool.and_eq_true] at h
  refine od_tx (z := s.cps.toList) (ev_is ev_c (by rw [← str_tx s])) ?_ fun c hc => of_decide_eq_true (List.all_eq_true.mp h.2 c hc)
  rw [Array.length_toList]
  exact of_decide_eq_true h.1
theorem od_lst {xs : List V} (h : EvL te σ H xs) : EvP te σ H OdW := fun H1 e Q q => h H1 e _ fun p H2 _ e2 h2 => q _ H2 e2 (.inr (.inr (.inl ⟨p, xs, rfl, h2⟩)))
theorem od_dict : EvP tDNewK σ H OdW := fun H1 e Q q d nd => q _ _ (Ex.new nd) (.inr (.inr (.inr (.inl ⟨d, rfl, upd_same⟩))))
theorem od_tup {ls : List (List Nat)} (h : EvU te σ H (ls.map fun l => V.str (tx l))) (hl : ls.length ≤ 20) (hs : ∀ l ∈ ls, l.length ≤ 100 ∧ ∀ c ∈ l, c < 200) : EvP te σ H OdW := fun H1 e Q q => h H1 e _ fun p H2 _ e2 h2 => q _ H2 e2 (.inr (.inr (.inr (.inr ⟨p, ls, rfl, h2, hl, hs⟩))))
theorem rv_mulT {z : Str} {i : Int} (h0 : 0 ≤ i) (h1 : i ≤ 1000) (hz : z.length ≤ 1000) : RV (fun x y H Q => ∃ z i, x = .str z ∧ y = .int i ∧ 0 ≤ i ∧ i ≤ 1000 ∧ z.length ≤ 1000 ∧ Q (.str (Txt.mul z i)) H) (.str z) (.int i) H (.str (Txt.mul z i)) := fun H1 e Q q => ⟨z, i, rfl, rfl, h0, h1, hz, q H1 (Ex.refl _)⟩
theorem eu_tupE {xs : List V} (h : EvL te σ H xs) : EvU (tCB (fun xs H Q => ∃ p ys, xs = [.ref p] ∧ ((SqL K H p ys ∧ ∀ l, H l = none → Q (.ref l) (upd H l (.tup ys))) ∨ (SqT K H p ys ∧ Q (.ref p) H))) (tCons te tNil)) σ H xs := fun H1 e Q q =>
  h H1 e _ fun p H2 np e2 hp => ⟨p, xs, rfl, .inl ⟨sq_of hp, fun l nl => q l _ (fresh_back e2 nl) (e2.trans (Ex.new nl)) upd_same⟩⟩
theorem ep_srtT {xs : List Str} (h : EvL te σ H (xs.map V.str)) (hl : xs.length < 4000) : EvP (tCB (fun xs H Q => ∃ p ys, xs = [.ref p] ∧ ((SqL K H p ys ∧ ∀ l, H l = none → Q (.ref l) (upd H l (.tup ys))) ∨ (SqT K H p ys ∧ Q (.ref p) H))) (tCons (tSortSetL K te) tNil)) σ H (fun v G => ∃ (th : Addr) (zs : List Str), v = .ref th ∧ G th = some (.tup (zs.map V.str)) ∧ zs.length ≤ xs.length ∧ ∀ z ∈ zs, z ∈ xs) := fun H1 e Q q =>
  h H1 e _ fun a H2 np e2 ha => ⟨a, xs, rfl, sq_of ha, hl, fun zs p hri hln hm np2 => ⟨p, zs.map V.str, rfl, .inl ⟨sq_of upd_same, fun l nl => q _ _ (e2.trans ((Ex.new np2).trans (Ex.new nl))) ⟨l, zs, rfl, upd_same, hln, fun z hz => (hm z).mp hz⟩⟩⟩⟩
theorem ep_call3 {sp : Sp} {E : XK} {x y : V} (ha : EvP ta σ H P) (hb : Ev tb σ H x) (hc : Ev tc σ H y) (k : ∀ G v, Ex H G → P v G → ∀ Q : VK, (∀ v2 H2, Ex G H2 → R v2 H2 → Q v2 H2) → sp [v, x, y] G Q E) (u : UpP P) : EvP (tCall sp [] E (tCons ta (tCons tb (tCons tc tNil)))) σ H R := fun H1 e Q q =>
  ha H1 e _ fun v H2 e2 hv => hb H2 (e.trans e2) _ fun H3 e3 => hc H3 (e.trans (e2.trans e3)) _ fun H4 e4 => k H4 v (e.trans (e2.trans (e3.trans e4))) (u _ _ _ (e3.trans e4) hv) Q fun v2 H5 e5 hr => q v2 H5 (e2.trans (e3.trans (e4.trans e5))) hr
theorem ep_call3L {sp : Sp} {E : XK} {y : V} {zs : List V} (ha : EvP ta σ H P) (hb : EvL tb σ H zs) (hc : Ev tc σ H y) (k : ∀ G v p, Ex H G → P v G → G p = some (.lst zs) → ∀ Q : VK, (∀ v2 H2, Ex G H2 → R v2 H2 → Q v2 H2) → sp [v, .ref p, y] G Q E) (u : UpP P) : EvP (tCall sp [] E (tCons ta (tCons tb (tCons tc tNil)))) σ H R := fun H1 e Q q =>
  ha H1 e _ fun v H2 e2 hv => hb H2 (e.trans e2) _ fun p H3 _ e3 hp => hc H3 (e.trans (e2.trans e3)) _ fun H4 e4 => k H4 v p (e.trans (e2.trans (e3.trans e4))) (u _ _ _ (e3.trans e4) hv) (e4 _ _ hp) Q fun v2 H5 e5 hr => q v2 H5 (e2.trans (e3.trans (e4.trans e5))) hr
theorem q_set {b : Bool} {i : Nat} {v w : V} (h : EvT t σ H b) (hv : ∀ H1, Ex H H1 → Ev te σ H1 v) (hs : σ.set i (some w) = σ) (k : ∀ H1, Ex H H1 → tz D (σ.set i (some (if b = true then v else w))) H1) : tSeq (tIfS t (tAsg te (gName i)) tNext) tz D σ H :=
  q_when h (fun hb H1 e1 => hv H1 e1 H1 (Ex.refl _) _ fun H2 e2 => by
    have := k H2 (e1.trans e2)
    rw [if_pos hb] at this
    exact this) fun hb H1 e1 => by
    have := k H1 e1
    rw [if_neg (by rw [hb]; decide), hs] at this
    exact this
theorem rv_neS {x : V} (hx : ∃ s, x = .str s) : RV rNe x x H (.bl false) := by
  obtain ⟨s, rfl⟩ := hx
  have h := rv_ne (H := H) (x := .str s) (y := .str s) rfl
  rw [decide_eq_true rfl] at h
  exact h
theorem s_neC {sp : Sp} {E : XK} {vs : List V} {z : Str} {i : Nat} {PH : Hp → Prop} (h : EvA ts σ H vs) (hi : σ[i]? = some (some (.str z))) (k : ∀ G, Ex H G → ∀ Q : VK, (∀ G2, PH G2 → Q (.str z) G2) → sp vs G Q E) (fin : ∀ G2 H3, PH G2 → Ex G2 H3 → D.nx σ H3) : tIfS (tTest (tOp rNe (tCall sp [] E ts) (tVar i))) tu tNext D σ H := h H (Ex.refl _) _ fun G g => by
  show sp (vs ++ []) G _ E
  rw [List.append_nil]
  exact k G g _ fun G2 hP => ⟨.str z, hi, (rv_ne (x := .str z) (y := .str z) rfl) G2 (Ex.refl _) _ fun H3 e3 => ⟨_, rfl, by
    rw [decide_eq_true rfl]
    show (if (!true) = true then tu D σ H3 else tNext D σ H3)
    rw [if_neg (by decide)]
    exact fin G2 H3 hP e3⟩⟩
end
section
variable {P : Program} {w : World} {K : PySem.W.Frag} {mg : Str → Option Value} {base : Heap}
def sp_law (K : PySem.W.Frag) (ts : List Addr) (c_LAM : Addr) : Sp := fun vs H Q _ => ∃ (a : Addr) (ns : List Int), vs = [.ref a] ∧ SqL K H a (ns.map V.int) ∧ ns.length ≤ 63 ∧ TB ts H ∧ LTab c_LAM H ∧ ∀ H2, LamX.ExtN H H2 → Q (.bl true) H2
theorem ok_law {ts : List Addr} {c_LAM : Addr} {c_HalvesError : Addr} {c_NoCall : Addr} {c_NoFit : Addr} {c_NoKnot : Addr} {c_NoLikeness : Addr} {c_NoName : Addr} {c_NoNumber : Addr} {c_NoParting : Addr} {c_NoPlace : Addr} {c_NoRow : Addr} {c_NoRule : Addr} {c_NoText : Addr} {c_NoTree : Addr} {c_NoUndo : Addr} {c_NoHalf : Addr} {c_NoOrder : Addr} {c_NoRoom : Addr} (D : Df K mg "law" st_law ["_law_script"]) (m_tuple : mg "tuple" = none) (m_sorted : mg "sorted" = none) (m_set : mg "set" = none) (m_int : mg "int" = none) (m_len : mg "len" = none) (A__law_book : At P w K mg base "_law_book" st__law_book 3 ["_law_script", "_law_at", "_law_many", "_law_places"] (sp__law_book K ts)) (A__law_cell : At P w K mg base "_law_cell" st__law_cell 1 ["_law_script", "_law_k"] (sp__law_cell K ts)) (A__law_numbers : At P w K mg base "_law_numbers" st__law_numbers 1 ["_law_cell_here", "_law_many"] (sp__law_numbers K ts)) (A__law_bent : At P w K mg base "_law_bent" st__law_bent 1 ["_law_some", "_law_xs", "_law_odd"] (sp__law_bent K ts)) (A__law_good_order : At P w K mg base "_law_good_order" st__law_good_order 1 ["_law_book_here", "_law_thing"] (sp__law_good_order K ts)) (A__law_good_known : At P w K mg base "_law_good_known" st__law_good_known 2 ["_law_book_here", "_law_thing"] (sp__law_good_known K ts)) (A__law_told : At P w K mg base "_law_told" st__law_told 10 ["_law_book_here", "_law_known", "_law_order"] (sp__law_told K ts c_HalvesError c_NoCall c_NoFit c_NoKnot c_NoLikeness c_NoName c_NoNumber c_NoParting c_NoPlace c_NoRow c_NoRule c_NoText c_NoTree c_NoUndo c_NoHalf c_NoOrder c_NoRoom)) (A__law_best_told : At P w K mg base "_law_best_told" st__law_best_told 12 ["_law_book_here", "_law_known"] (sp__law_best_told K ts c_LAM c_HalvesError c_NoCall c_NoFit c_NoKnot c_NoLikeness c_NoName c_NoNumber c_NoParting c_NoPlace c_NoRow c_NoRule c_NoText c_NoTree c_NoUndo c_NoHalf c_NoOrder c_NoRoom)) : At P w K mg base "law" st_law 13 ["_law_script"] (sp_law K ts c_LAM) := by
  obtain ⟨f, fd, F, b, g⟩ := D
  obtain ⟨f__law_book, fd__law_book, F__law_book, b__law_book, g__law_book, G__law_book⟩ := A__law_book
  obtain ⟨f__law_cell, fd__law_cell, F__law_cell, b__law_cell, g__law_cell, G__law_cell⟩ := A__law_cell
  obtain ⟨f__law_numbers, fd__law_numbers, F__law_numbers, b__law_numbers, g__law_numbers, G__law_numbers⟩ := A__law_numbers
  obtain ⟨f__law_bent, fd__law_bent, F__law_bent, b__law_bent, g__law_bent, G__law_bent⟩ := A__law_bent
  obtain ⟨f__law_good_order, fd__law_good_order, F__law_good_order, b__law_good_order, g__law_good_order, G__law_good_order⟩ := A__law_good_order
  obtain ⟨f__law_good_known, fd__law_good_known, F__law_good_known, b__law_good_known, g__law_good_known, G__law_good_known⟩ := A__law_good_known
  obtain ⟨f__law_told, fd__law_told, F__law_told, b__law_told, g__law_told, G__law_told⟩ := A__law_told
  obtain ⟨f__law_best_told, fd__law_best_told, F__law_best_told, b__law_best_told, g__law_best_told, G__law_best_told⟩ := A__law_best_told
  refine ⟨f, fd, F, b, g, F.ok sc_law (fun vs H Q E h => ?_) (fun cdv A outer s H vs Q E hr h => ?_)⟩
  · obtain ⟨a, ns, rfl, _⟩ := h
    rfl
  · obtain ⟨a, ns, rfl, hS, hl, hT, hL, q⟩ := h
    refine ⟨_, (pss_cons (ps_set (i := 1) sc_law.nd rfl (.inl rfl) (pe_call G__law_book (hr.mono (by decide)) (by rfl) g__law_book F__law_book.kp b__law_book .nil pass0 (pa_cons (pv 0) (pa_cons pe_int (pa_cons pe_int (pa_cons pe_int pa_nil))))))
      (pss_cons (ps_set (i := 2) sc_law.nd rfl (.inl rfl) (pe_callTy call_tuple_of (by rfl) m_tuple (by decide +kernel) (pa_cons (pe_lc (own := [("_law_row", 10)]) (g := gName 10) (by rfl) sc_law.nd (pi_tup (pe_ix ix_tup (pv 1) pe_int (fun _ _ => rfl))) (blkOk_by (N := ["_law_script", "_law_book_here", "_law_names_here", "_law_halves", "_law_odd", "_law_cell_here", "_law_xs", "_law_known", "_law_order", "_law_due", "_law_row"]) (sc := defScope st_law) (by decide +kernel)) (fun _ _ _ _ _ => (pg_name (i := 10) sc_law.nd rfl (.inl rfl))) (fun _ _ _ _ _ => pts_nil) (fun _ _ _ _ _ => (pe_ix (show IxR _ (rIxT K) from ix_tup) (pv 10) pe_int (fun _ _ => rfl)))) pa_nil)))
      (pss_cons (ps_set (i := 3) sc_law.nd rfl (.inl rfl) (pe_callTy call_tuple_of (by rfl) m_tuple (by decide +kernel) (pa_cons (Hid.pe_sortSetL rfl hr.units (by rfl) m_sorted (by rfl) m_set (pe_op op_cat (pe_lc (own := [("_law_row", 10)]) (g := gName 10) (by rfl) sc_law.nd (pi_tup (pe_ix ix_tup (pv 1) pe_int (fun _ _ => rfl))) (blkOk_by (N := ["_law_script", "_law_book_here", "_law_names_here", "_law_halves", "_law_odd", "_law_cell_here", "_law_xs", "_law_known", "_law_order", "_law_due", "_law_row"]) (sc := defScope st_law) (by decide +kernel)) (fun _ _ _ _ _ => (pg_name (i := 10) sc_law.nd rfl (.inl rfl))) (fun _ _ _ _ _ => pts_nil) (fun _ _ _ _ _ => (Hid.pe_replK (y := "b") (z := "n") (Hid.pek_ixI (show IxR _ (rIxT K) from ix_tup) (pv 10))))) (pe_lst (pa_cons (pe_op Hid.op_mul_str pe_str (pe_ix ix_tup (pv 1) pe_int (fun _ _ => rfl))) pa_nil)))) pa_nil)))
      (pss_cons (ps_set (i := 4) sc_law.nd rfl (.inl rfl) (pe_lst (pa_cons pe_non (pa_cons pe_int (pa_cons pe_bl (pa_cons pe_str (pa_cons pe_str (pa_cons (pe_op Hid.op_mul_str pe_str (pe_op op_add (pe_ix ix_tup (pv 1) pe_int (fun _ _ => rfl)) pe_int)) (pa_cons (pe_op Hid.op_mul_str pe_str (pe_ix ix_tup (pv 1) pe_int (fun _ _ => rfl))) (pa_cons (pe_tup (pa_cons pe_str pa_nil)) (pa_cons (pe_lst (pa_cons pe_str pa_nil)) (pa_cons pe_dnewK (pa_cons pe_str (pa_cons (pe_tup pa_nil) (pa_cons (pe_op Hid.op_mul_str pe_str (pe_ix ix_tup (pv 1) pe_int (fun _ _ => rfl))) pa_nil)))))))))))))))
      (pss_cons (ps_set (i := 4) sc_law.nd rfl (.inl rfl) (pe_op op_cat (pv 4) (pe_lst (pa_cons pe_str (pa_cons pe_str (pa_cons (pe_tup (pa_cons pe_str pa_nil)) pa_nil))))))
      (pss_cons (ps_for PassesOwn.never rfl (pi_list (pe_op op_cat (pe_lst (pa_cons (pe_call G__law_cell (hr.mono (by decide)) (by rfl) g__law_cell F__law_cell.kp b__law_cell .nil pass0 (pa_cons (pv 0) (pa_cons pe_int pa_nil))) pa_nil)) (pe_slice sl_list (pv 0) (po_some pe_int) (po_some pe_int)))) (pg_name (i := 5) sc_law.nd rfl (.inl rfl))
      (pss_cons (ps_set (i := 6) sc_law.nd rfl (.inl rfl) (pe_call G__law_numbers (hr.mono (by decide)) (by rfl) g__law_numbers F__law_numbers.kp b__law_numbers .nil pass0 (pa_cons (pv 5) (pa_cons pe_int pa_nil))))
      (pss_cons (ps_set (i := 7) sc_law.nd rfl (.inl rfl) (pe_call G__law_bent (hr.mono (by decide)) (by rfl) g__law_bent F__law_bent.kp b__law_bent .nil pass0 (pa_cons (pe_slice sl_tupA (pv 3) po_none (po_some (pe_op op_add pe_int (pe_op op_mod (pe_ix ix_list (pv 6) pe_int (fun _ _ => rfl)) pe_int)))) (pa_cons (pv 6) (pa_cons (pv 4) pa_nil)))))
      (pss_cons (ps_set (i := 8) sc_law.nd rfl (.inl rfl) (pe_call G__law_bent (hr.mono (by decide)) (by rfl) g__law_bent F__law_bent.kp b__law_bent .nil pass0 (pa_cons (pv 2) (pa_cons (pe_slice sl_list (pv 6) (po_some pe_int) po_none) (pa_cons (pv 4) pa_nil)))))
      (pss_cons (ps_set (i := 9) sc_law.nd rfl (.inl rfl) pe_str)
      (pss_cons (ps_if (pt_not (pt_val (pe_call G__law_good_order (hr.mono (by decide)) (by rfl) g__law_good_order F__law_good_order.kp b__law_good_order .nil pass0 (pa_cons (pv 1) (pa_cons (pv 8) pa_nil)))))
      (pss_one (ps_set (i := 9) sc_law.nd rfl (.inl rfl) pe_str))
      pss_nil)
      (pss_cons (ps_if (pt_not (pt_val (pe_call G__law_good_known (hr.mono (by decide)) (by rfl) g__law_good_known F__law_good_known.kp b__law_good_known .nil pass0 (pa_cons (pv 1) (pa_cons (pv 7) pa_nil)))))
      (pss_one (ps_set (i := 9) sc_law.nd rfl (.inl rfl) pe_str))
      pss_nil)
      (pss_cons (ps_if (pt_cmpR op_ne (pe_call G__law_told (hr.mono (by decide)) (by rfl) g__law_told F__law_told.kp b__law_told .nil pass0 (pa_cons (pv 1) (pa_cons (pv 7) (pa_cons (pv 8) pa_nil)))) (pv 9) (nomark _))
      (pss_one (ps_ret pe_bl))
      pss_nil)
      (pss_cons (ps_set (i := 9) sc_law.nd rfl (.inl rfl) (pe_ix ix_list (pe_lst (pa_cons pe_str (pa_cons pe_str pa_nil))) (pe_callTy call_int1 (by rfl) m_int (by decide +kernel) (pa_cons (pe_cmpR op_gt (pe_callB call_len_seq (by rfl) m_len (by decide +kernel) (pa_cons (pv 2) pa_nil)) pe_int (nomark _)) pa_nil)) (fun _ _ => rfl)))
      (pss_cons (ps_if (pt_not (pt_val (pe_call G__law_good_known (hr.mono (by decide)) (by rfl) g__law_good_known F__law_good_known.kp b__law_good_known .nil pass0 (pa_cons (pv 1) (pa_cons (pv 7) pa_nil)))))
      (pss_one (ps_set (i := 9) sc_law.nd rfl (.inl rfl) pe_str))
      pss_nil)
      (pss_one (ps_if (pt_cmpR op_ne (pe_call G__law_best_told (hr.mono (by decide)) (by rfl) g__law_best_told F__law_best_told.kp b__law_best_told .nil pass0 (pa_cons (pv 1) (pa_cons (pv 7) pa_nil))) (pv 9) (nomark _))
      (pss_one (ps_ret pe_bl))
      pss_nil))))))))))))
      (pss_one (ps_ret pe_bl)))))))), ?_⟩
    refine c_call (ea_cons (ev_var rfl) (ea_cons ev_c (ea_cons ev_c (ea_cons ev_c ea_nil)))) fun G1 g1 => ⟨a, ns, 0, 8, 6, rfl, ex_l g1 hS, ⟨by decide, by decide, by decide, by decide⟩, fun n rs bv H1 e1' hB hBk hrl hn6 => ?_⟩
    have e1 : Ex H H1 := g1.trans e1'
    obtain ⟨tb, b, vs, rfl, hBt, hBb, hBp⟩ := id hB
    have hvl : vs.length = rs.length := paired_len hBp
    have hn1 := hBk.hn.1
    refine q_asgU (xs := (rs.map fun p => tx p.1).map V.str) (eu_tupE (K := K) (el_isL (el_lcT (K := K) (fun _ => true) (fun i => V.str (tx (rs.getD i ([], [])).1)) (ev_op (ev_var rfl) ev_c (rv_ixT (st_of ((Ex.refl _) _ _ hBt)) (atI_nat (j := 1) rfl))) (hBb.ex (Ex.refl _)).sq (by omega) (fun _ => rfl) (fun _ _ _ _ _ => et_yes) (fun m x G g hx _ => ?_)) ?_)) fun tn H2 ntn e2 h2 => ?_
    · obtain ⟨z, hz, t9, rfl, c9⟩ := paired_get hBp m x hx
      rw [List.getD_eq_getElem?_getD, hz]
      exact ev_op (ev_var rfl) ev_c (rv_ixT (st_of (g _ _ c9)) (atI_nat (j := 0) rfl))
    ·
      rw [given_true, hvl, List.map_map]
      conv => rhs; rw [← map_range_getD' rs ([], [])]
      rw [List.map_map]
      rfl
    refine q_asgP (ep_srtT (K := K) (xs := (rs.map fun p => tx (repB p.2)) ++ [tx (List.replicate n 121)]) (el_isL (el_cat (xs := (rs.map fun p => tx (repB p.2)).map V.str) (el_isL (el_lcT (K := K) (fun _ => true) (fun i => V.str (tx (repB (rs.getD i ([], [])).2))) (ev_op (ev_var rfl) ev_c (rv_ixT (st_of (e2 _ _ hBt)) (atI_nat (j := 1) rfl))) (hBb.ex e2).sq (by omega) (fun _ => rfl) (fun _ _ _ _ _ => et_yes) (fun m x G g hx _ => ?_)) ?_) (el_lst (vs := [.str (tx (List.replicate n 121))]) (ea_cons (ev_is (ev_op ev_c (ev_op (ev_var rfl) ev_c (rv_ixT (st_of (e2 _ _ hBt)) (atI_nat (j := 0) rfl))) (rv_mulT (by omega) (by omega) (by decide +kernel))) (congrArg V.str (mul_y (by omega)))) ea_nil) (by show 1 ≤ 100000; decide)) (by rw [List.length_map, List.length_map]; show _ + 1 ≤ 100000; omega)) (by rw [List.map_append]; rfl)) (by rw [List.length_append, List.length_map]; show _ + 1 < 4000; omega)) fun v3 H3 e3 hv3 => ?_
    · obtain ⟨z, hz, t9, rfl, c9⟩ := paired_get hBp m x hx
      rw [List.getD_eq_getElem?_getD, hz]
      have hzr := (hBk.hr z (List.mem_of_getElem? hz)).1.1.2
      exact ev_is (ev_replC (ev_op (ev_var rfl) ev_c (rv_ixT (v := .str (tx z.2)) (st_of ((e2.trans g) _ _ c9)) (atI_nat (j := 1) rfl))) (by rw [tx_len]; show z.2.length + (z.2.length + 1) * 1 ≤ 16777216; omega)) (congrArg V.str (repl_tx 98 110 z.2))
    ·
      rw [given_true, hvl, List.map_map]
      conv => rhs; rw [← map_range_getD' rs ([], [])]
      rw [List.map_map]
      rfl
    obtain ⟨th, zs, rfl, h3, hzl, hzm⟩ := hv3
    have hzi : ∀ z ∈ zs, ∃ l : List Nat, z = tx l ∧ l.length ≤ 100 ∧ ∀ c ∈ l, c < 200 := fun z hz => by
      rcases List.mem_append.mp (hzm z hz) with m | m
      · obtain ⟨p, hp, rfl⟩ := List.mem_map.mp m
        have hr := (hBk.hr p hp).1
        exact ⟨repB p.2, rfl, by unfold repB; rw [List.length_map]; have := hr.1.2; omega, repB_small hr⟩
      · exact ⟨_, List.mem_singleton.mp m, by rw [List.length_replicate]; omega, repl_small (by decide)⟩
    rw [List.length_append, List.length_map] at hzl
    have hzl : zs.length ≤ rs.length + 1 := hzl
    have e13 : Ex H1 H3 := e2.trans e3
    refine q_asgP (P := LstP OdW 13) (lp_lst od_up (ap_cons od_up (ep_at ev_c (.inr (.inl (.inl rfl))) od_up) (ap_cons od_up (ep_at ev_c (.inr (.inl (.inr (.inl ⟨_, rfl⟩)))) od_up) (ap_cons od_up (ep_at ev_c (.inr (.inl (.inr (.inr ⟨_, rfl⟩)))) od_up) (ap_cons od_up (od_lit (by decide +kernel)) (ap_cons od_up (od_lit (by decide +kernel)) (ap_cons od_up (od_tx (z := List.replicate (n + 1) 121) (ev_is (ev_op ev_c (ev_is (ev_op (ev_op (ev_var rfl) ev_c (rv_ixT (st_of (e13 _ _ hBt)) (atI_nat (j := 0) rfl))) ev_c rv_I0) (congrArg V.int (show ((n : Nat) : Int) + 1 = ((n + 1 : Nat) : Int) from rfl))) (rv_mulT (by omega) (by omega) (by decide +kernel))) (congrArg V.str (mul_y (by omega)))) (by rw [List.length_replicate]; omega) (repl_small (by decide))) (ap_cons od_up (od_tx (z := List.replicate n 98) (ev_is (ev_op ev_c (ev_op (ev_var rfl) ev_c (rv_ixT (st_of (e13 _ _ hBt)) (atI_nat (j := 0) rfl))) (rv_mulT (by omega) (by omega) (by decide +kernel))) (congrArg V.str (mul_b (by omega)))) (by rw [List.length_replicate]; omega) (repl_small (by decide))) (ap_cons od_up (od_tup (ls := [[110]]) (eu_tup (ea_cons ev_c ea_nil) (by decide)) (by decide) (by decide)) (ap_cons od_up (od_lst (el_lst (ea_cons ev_c ea_nil) (by decide))) (ap_cons od_up od_dict (ap_cons od_up (od_lit (by decide +kernel)) (ap_cons od_up (od_tup (ls := []) (eu_tup ea_nil (by decide)) (by decide) (by decide)) (ap_cons od_up (od_tx (z := List.replicate n 78) (ev_is (ev_op ev_c (ev_op (ev_var rfl) ev_c (rv_ixT (st_of (e13 _ _ hBt)) (atI_nat (j := 0) rfl))) (rv_mulT (by omega) (by omega) (by decide +kernel))) (congrArg V.str (mul_N (by omega)))) (by rw [List.length_replicate]; omega) (repl_small (by decide))) ap_nil))))))))))))) (by decide)) fun v4 H4 e4 hv4 => ?_
    refine q_asgP (P := LstP OdW 16) (lp_cat od_up (ep_at (ev_var rfl) hv4 (lst_up od_up)) (lp_lst od_up (ap_cons od_up (od_lit (by decide +kernel)) (ap_cons od_up (od_lit (by decide +kernel)) (ap_cons od_up (od_tup (ls := [[97]]) (eu_tup (ea_cons ev_c ea_nil) (by decide)) (by decide) (by decide)) ap_nil))) (by decide)) (by decide)) fun v5 H5 e5 hv5 => ?_
    obtain ⟨po, ods, rfl, hpo, hol, hod⟩ := hv5
    have e15 : Ex H1 H5 := e13.trans (e4.trans e5)
    have hS5 := ex_l (e1.trans e15) hS
    refine q_forIN (K := K) (ei_cells (K := K) (fun G g Q1 q1 => c_call (ea_cons (ev_var rfl) (ea_cons ev_c ea_nil)) fun G2 g2 => ⟨a, ns, 9, rfl, ex_l (g.trans g2) hS5, by decide, fun c G3 g3 => q1 c G3 (g2.trans g3)⟩) (ev_var rfl) hS5 (by omega) (eo_some ev_c) (eo_some ev_c)) (fun G i σ' H' => ∃ y5 y6 y7 y8 y9 : Option V, σ' = [some (.ref a), some (.ref tb), some (.ref tn), some (.ref th), some (.ref po), y5, y6, y7, y8, y9, none] ∧ LamX.ExtN G H' ∧ LTab c_LAM H') (fun G g => ⟨_, _, _, _, _, rfl, LamX.ExtN.refl _, LTab.ex hL ((e1.trans e15).trans g)⟩) (fun G i σ' H' hP => ?_) (fun G i z σ' H6 g hP => ?_) (fun G m σ' H6 g hP => ?_)
    · obtain ⟨_, _, _, _, _, _, e, _⟩ := hP
      exact e
    · obtain ⟨y5, y6, y7, y8, y9, rfl, gN, L6⟩ := hP
      have N5 : LamX.ExtN H5 H6 := (LamX.ExtN.of g).trans gN
      have N1 : LamX.ExtN H1 H6 := (LamX.ExtN.of e15).trans N5
      have hB6 := hB.exN N1
      have hT6 : TB ts H6 := TB.exN hT ((LamX.ExtN.of e1).trans N1)
      have h26 : H6 tn = some (.tup ((rs.map fun p => tx p.1).map V.str)) := N5 _ _ ((e3.trans (e4.trans e5)) _ _ h2) (fun _ z => nomatch z)
      have h36 : H6 th = some (.tup (zs.map V.str)) := N5 _ _ ((e4.trans e5) _ _ h3) (fun _ z => nomatch z)
      have hpo6 : H6 po = some (.lst ods) := N5 _ _ hpo (fun _ z => nomatch z)
      have hod6 : ∀ G, Ex H6 G → ∀ x ∈ ods, ItS K x G ∧ ThS K x G := fun G g x hx => ⟨od_it (od_up _ _ _ g (od_exN N5 (hod x hx))), od_th (od_up _ _ _ g (od_exN N5 (hod x hx)))⟩
      have hz6 : ∀ G : Hp, ∀ x ∈ zs.map V.str, ItS K x G := fun G x hx => by
        obtain ⟨z, hz, rfl⟩ := List.mem_map.mp hx
        obtain ⟨l, rfl, hl1, hl2⟩ := hzi z hz
        exact tx_it (by omega) hl2
      have hn6' : ∀ G : Hp, ∀ x ∈ (rs.map fun p => tx p.1).map V.str, ItS K x G := fun G x hx => by
        obtain ⟨z, hz, rfl⟩ := List.mem_map.mp hx
        obtain ⟨p, hp, rfl⟩ := List.mem_map.mp hz
        exact tx_it (by have := (hBk.hm p hp).1.2; omega) (hBk.small p hp).1
      refine c_call (ea_cons (ev_var rfl) (ea_cons ev_c ea_nil)) fun G7 g7 => ⟨z, 8, rfl, by decide, fun xs hxl hxp px H7 npx g7' h7 => ?_⟩
      have e7 : Ex H6 H7 := g7.trans g7'
      have hxl' : xs.length = 8 := by omega
      have ax : ∀ (j : Nat) (hj : j < 8), atI (xs.map V.int) (j : Int) = some (.int (xs.getD j 0)) := fun j hj => atI_nat (by rw [List.getElem?_map, List.getD_eq_getElem?_getD, List.getElem?_eq_getElem (by omega)]; rfl)
      refine q_asgP (P := ThS K) (ep_call3 (P := TuS K 20) (tu_sl (n := 20) (ev_var rfl) (e7 _ _ h36) (by rw [List.length_map]; omega) (hz6 _) eo_none (eo_some (ev_op ev_c (ev_op (ev_op (ev_var rfl) ev_c (rv_ixL (sq_of h7) (ax 6 (by omega)))) ev_c (rv_I (by show (0 : Int) < 4; decide))) rv_I0))) (ev_var rfl) (ev_var rfl) (fun G v g hv Q1 q1 => ⟨v, px, po, xs, ods, rfl, hv, sq_of (g _ _ h7), by omega, (e7.trans g) _ _ hpo6, ⟨by omega, by omega⟩, hod6 G (e7.trans g), q1⟩) tu_up) fun v7 H8 e8 hv7 => ?_
      refine q_asgP (P := ThS K) (ep_call3L (P := TuS K 20) (zs := (xs.drop 3).map V.int) (ep_at (ev_var rfl) ⟨tn, _, rfl, (e7.trans e8) _ _ h26, by rw [List.length_map, List.length_map]; omega, hn6' _⟩ tu_up) (el_isL (el_sl (K := K) (ev_var rfl) (eo_some ev_c) eo_none (sq_of (e8 _ _ h7))) (by rw [List.map_drop]; exact cut_drop (xs := xs.map V.int) 3)) (ev_var rfl) (fun G v p g hv hp Q1 q1 => ⟨v, p, po, xs.drop 3, ods, rfl, hv, sq_of hp, by rw [List.length_drop]; omega, ((e7.trans e8).trans g) _ _ hpo6, ⟨by omega, by omega⟩, hod6 G ((e7.trans e8).trans g), q1⟩) tu_up) fun v8 H9 e9 hv8 => ?_
      obtain ⟨o7, y7', l7, s7⟩ := ths_up _ _ _ e9 hv7
      obtain ⟨o8, y8', l8, s8⟩ := hv8
      have e69 : Ex H6 H9 := e7.trans (e8.trans e9)
      have hB9 := hB6.ex e69
      obtain ⟨b1, hb1⟩ : ∃ b : Bool, b = true ↔ knO n o7 := by
        by_cases h : knO n o7
        · exact ⟨true, fun _ => h, fun _ => rfl⟩
        · exact ⟨false, fun z => absurd z (by decide), fun z => absurd z h⟩
      obtain ⟨b2, hb2⟩ : ∃ b : Bool, b = true ↔ ordO rs o8 := by
        by_cases h : ordO rs o8
        · exact ⟨true, fun _ => h, fun _ => rfl⟩
        · exact ⟨false, fun z => absurd z (by decide), fun z => absurd z h⟩
      have gk : ∀ {σ : L2.St} {G : Hp}, σ[1]? = some (some (.ref tb)) → σ[7]? = some (some v7) → Ex H9 G → EvT (tNot (tB (tCall (sp__law_good_known K ts) [] E0 (tCons (tVar 1) (tCons (tVar 7) tNil))))) σ G (!b1) := fun s1 s7 g => et_not (et_B (ev_call (ea_cons (ev_var s1) (ea_cons (ev_var s7) ea_nil)) fun G2 g2 Q2 q2 E2 => ⟨_, n, rs, v7, o7, b1, rfl, hB9.ex (g.trans g2), hBk.hn, y7'.ex (g.trans g2), by omega, hb1, q2⟩))
      refine q_asg ev_c fun H10 e10 => ?_
      refine q_set (b := !b2) (v := .str "order") (w := .str "told") (et_not (et_B (ev_call (ea_cons (ev_var rfl) (ea_cons (ev_var rfl) ea_nil)) fun G2 g2 Q2 q2 E2 => ⟨_, n, rs, v8, o8, b2, rfl, hB9.ex (e10.trans g2), hBk, y8'.ex (e10.trans g2), by omega, s8, hb2, q2⟩))) (fun _ _ => ev_c) rfl fun H11 e11 => ?_
      refine q_set (b := !b1) (v := .str "half") (gk rfl rfl (e10.trans e11)) (fun _ _ => ev_c) rfl fun H12 e12 => ?_
      have e912 : Ex H9 H12 := e10.trans (e11.trans e12)
      refine q_when (b := false) (et_is (et_test (ev_op (z := .bl false) (ev_call (z := if (!b1) = true then V.str "half" else if (!b2) = true then V.str "order" else V.str "told") (ea_cons (ev_var rfl) (ea_cons (ev_var rfl) (ea_cons (ev_var rfl) ea_nil))) fun G2 g2 Q2 q2 E2 => ⟨_, v7, v8, n, rs, o7, o8, rfl, hB9.ex (e912.trans g2), hBk, y7'.ex (e912.trans g2), y8'.ex (e912.trans g2), ⟨by omega, by omega⟩, hT6.ex (e69.trans (e912.trans g2)), fun hk => ?_, fun hk ho => ?_, fun hk ho => ?_⟩) (ev_var rfl) ?_)) rfl) (fun hb H13 e13 => absurd hb (by decide)) (fun hb H13 e13 => ?_)
      · have : b1 = false := by cases b1 with | false => rfl | true => exact absurd (hb1.mp rfl) hk
        subst this
        exact q2
      · have h1 : b1 = true := hb1.mpr hk
        have h2 : b2 = false := by cases b2 with | false => rfl | true => exact absurd (hb2.mp rfl) ho
        subst h1 h2
        exact q2
      · have h1 : b1 = true := hb1.mpr hk
        have h2 : b2 = true := hb2.mpr ho
        subst h1 h2
        exact q2
      · exact rv_neS (by cases b1 <;> cases b2 <;> exact ⟨_, rfl⟩)
      have hnl : ((rs.map fun p => tx p.1).map V.str).length = rs.length := by rw [List.length_map, List.length_map]
      refine q_asg (v := if decide (5 < rs.length) = true then V.str "room" else V.str "told") (ev_opL1 (xs := [.str "told", .str "room"]) (el_lst (ea_cons ev_c (ea_cons ev_c ea_nil)) (by show 2 ≤ 100000; decide)) (y := .int (if decide (5 < rs.length) = true then 1 else 0)) (fun G g9 => ev_cb (ea_cons (ev_is (ev_op (ev_lenT (ev_var rfl) (st_of ((e69.trans (e912.trans (e13.trans g9))) _ _ h26))) ev_c rv_I0) (congrArg V.bl (show decide ((5 : Int) < _) = decide (5 < rs.length) from decide_eq_decide.mpr (by rw [hnl]; omega)))) ea_nil) fun G3 g3 Q3 q3 => .inr ⟨_, rfl, q3 G3 (Ex.refl _)⟩) (fun p G hp g9 => ?_)) fun H14 e14 => ?_
      · cases decide (5 < rs.length) with
        | false => exact rv_ixL (sq_of hp) (atI_nat (j := 0) rfl)
        | true => exact rv_ixL (sq_of hp) (atI_nat (j := 1) rfl)
      refine q_set (b := !b1) (v := .str "half") (gk rfl rfl (e912.trans (e13.trans e14))) (fun _ _ => ev_c) rfl fun H15 e15' => ?_
      have e915 : Ex H9 H15 := e912.trans (e13.trans (e14.trans e15'))
      have hzz : (if (!b1) = true then V.str "half" else if decide (5 < rs.length) = true then V.str "room" else V.str "told") = .str (if (!b1) = true then "half" else if decide (5 < rs.length) = true then "room" else "told") := by
        cases b1 <;> cases decide (5 < rs.length) <;> rfl
      rw [hzz]
      refine s_neC (PH := fun G2 => LamX.ExtN H15 G2 ∧ LTab c_LAM G2) (ea_cons (ev_var rfl) (ea_cons (ev_var rfl) ea_nil)) rfl (fun G2 g2 Q2 q2 => ⟨_, v7, n, rs, o7, rfl, hB9.ex (e915.trans g2), hBk, y7'.ex (e915.trans g2), by omega, hT6.ex (e69.trans (e915.trans g2)), LTab.ex L6 (e69.trans (e915.trans g2)), fun hk G3 g3 => ?_, fun hk h5 G3 g3 => ?_, fun hk h5 G3 g3 t3 => ?_⟩) (fun G2 H16 hP e16 => ⟨_, _, _, _, _, rfl, gN.trans ((LamX.ExtN.of (e69.trans e915)).trans (hP.1.trans (LamX.ExtN.of e16))), LTab.ex hP.2 e16⟩)
      · have : b1 = false := by cases b1 with | false => rfl | true => exact absurd (hb1.mp rfl) hk
        subst this
        exact q2 G3 ⟨LamX.ExtN.of (g2.trans g3), LTab.ex L6 (e69.trans (e915.trans (g2.trans g3)))⟩
      · have h1 : b1 = true := hb1.mpr hk
        subst h1
        have := q2 G3 ⟨LamX.ExtN.of (g2.trans g3), LTab.ex L6 (e69.trans (e915.trans (g2.trans g3)))⟩
        rw [decide_eq_true h5] at this
        exact this
      · have h1 : b1 = true := hb1.mpr hk
        subst h1
        have := q2 G3 ⟨(LamX.ExtN.of g2).trans g3, t3⟩
        rw [decide_eq_false (show ¬ 5 < rs.length by omega)] at this
        exact this
    · obtain ⟨y5, y6, y7, y8, y9, rfl, gN, L6⟩ := hP
      exact s_ret ev_c fun H7 e7 => q H7 ((LamX.ExtN.of ((e1.trans e15).trans g)).trans (gN.trans (LamX.ExtN.of e7)))
end
end Hid

namespace Hid
open PySem PySem.Spec PyProof.Rows L2 Evl
/-! the base refusal's __init__ -/
def clsDef (s : Stmt) : Stmt := match s with
  | .ClassDef _ _ _ body _ _ _ _ _ _ _ => body.getD 0 (.Pass ⟨0, 0, 0, 0⟩)
  | _ => .Pass ⟨0, 0, 0, 0⟩
abbrev st_hinit : Stmt := clsDef (topS 1)
theorem sc_hinit : FnScope ["self", "why"] ["self", "why"] (defScope st_hinit) := ⟨rfl, rfl, rfl, by decide +kernel, rfl, by decide +kernel, by decide +kernel⟩
section
variable {P : Program} {w : World} {K : PySem.W.Frag} {mg : Str → Option Value} {base : Heap}
theorem hin_ok {fI : Addr} {fdI : FuncData} (F : FunD K "__init__" "HalvesError.__init__" (defArgs st_hinit) (defBody st_hinit) (defScope st_hinit) [.str "refused"] [] fI fdI) (ty : PySem.W.typeIn K (.ref fI) = some (.type "function")) (m_VE : mg "ValueError" = none)
    (vV : PySem.W.findCls K (.type "ValueError") (.type "type") "__init__" = some (.val (.builtin "ValueError.__init__"))) : HIn P w K mg base fI fdI := by
  refine ⟨?_, ty, ?_⟩
  · obtain ⟨ds, hv, hb⟩ := F.binds1 (ps := ["self", "why"]) 2 1 (by decide) rfl fun T kV doc pm an cdv ct us its hu hi => match us, hu, its, hi with | [_, _], _, [_], _ => ⟨_, rfl, rfl⟩
    cases hv
    exact hb
  · refine F.ok sc_hinit (k := 0) (fun vs H Q E h => ?_) (fun cdv A outer s H vs Q E hr h => ?_)
    · obtain ⟨a, C, y, rfl, _⟩ := h
      rfl
    · obtain ⟨a, C, y, rfl, hO, ea, q⟩ := h
      refine ⟨_, (pss_one (ps_expr (pe_veinit (by rfl) m_VE vV (pa_cons (pv 0) (pa_cons (pv 1) pa_nil))))), ?_⟩
      exact ⟨_, rfl, _, rfl, a, C, [y], rfl, by show 1 ≤ 1000; decide, hO, ea, q⟩
end
end Hid

namespace Hid
open PySem PySem.Spec PyProof.Rows L2 Evl
theorem df_mk {K : PySem.W.Frag} {h : Heap} {mg : Str → Option Value} (X : K.In h) (G : h.Ns mainGlobals mg) {x : Str} {st : Stmt} {ps : List Str} {f : Addr} {od an : Option Addr} {sl : Array (Option Value)} {oc kV dc pm cd ct : Value}
    (a : PySem.W.nsIn K mainGlobals x = some (some (.ref f))) (l : K.lookup f = some ⟨oc, od, .func (PySem.W.fnOf x x (defArgs st) (defBody st) (defScope st) .none kV dc pm an cd ct), sl⟩) (c : PySem.W.codeIn K cd x = true) (k : PySem.W.keepIn K (.ref f) = true)
    (hb : ∀ (kV doc pm : Value) (an : Option Addr) (cdv ct : Value) (us : List Value), us.length = ps.length → bindArgs (PySem.W.fnOf x x (defArgs st) (defBody st) (defScope st) .none kV doc pm an cdv ct) ⟨us, []⟩ = pure (ps.zip us)) : Df K mg x st ps :=
  ⟨f, _, fun_mk (st := st) l c k, (fun_mk (st := st) l c k).binds hb, PySem.W.mg_of X G a⟩
theorem dfc_mk {K : PySem.W.Frag} {h : Heap} {mg : Str → Option Value} (X : K.In h) (G : h.Ns mainGlobals mg) {x : Str} {st : Stmt} {ps : List Str} {f cc : Addr} {od an : Option Addr} {sl : Array (Option Value)} {oc kV dc pm ct : Value}
    (a : PySem.W.nsIn K mainGlobals x = some (some (.ref f))) (l : K.lookup f = some ⟨oc, od, .func (PySem.W.fnOf x x (defArgs st) (defBody st) (defScope st) .none kV dc pm an (.ref cc) ct), sl⟩) (c : PySem.W.codeIn K (.ref cc) x = true) (k : PySem.W.keepIn K (.ref f) = true)
    (hb : ∀ (kV doc pm : Value) (an : Option Addr) (cdv ct : Value) (us : List Value), us.length = ps.length → bindArgs (PySem.W.fnOf x x (defArgs st) (defBody st) (defScope st) .none kV doc pm an cdv ct) ⟨us, []⟩ = pure (ps.zip us)) : DfC K mg x st ps cc :=
  ⟨f, _, fun_mk (st := st) l c k, (fun_mk (st := st) l c k).binds hb, PySem.W.mg_of X G a, rfl⟩
/-- a def's promise at the very data that stands there -/
theorem at_fd {P : Program} {w : World} {K : PySem.W.Frag} {mg : Str → Option Value} {base : Heap} {CX : CXT} {n : Nat} {ps : List Str} {sp : Sp} {x : Str} {st : Stmt} {f : Addr} {fd fd2 : FuncData} (G : FnOk P w K mg base CX n f fd ps sp) (F : Fun K x x st f fd) (F2 : Fun K x x st f fd2) : FnOk P w K mg base CX n f fd2 ps sp := by
  obtain ⟨oc, od, kV, doc, pm, an, cdv, ct, osl, e1, lk, _⟩ := F.ex
  obtain ⟨oc2, od2, kV2, doc2, pm2, an2, cdv2, ct2, osl2, e2, lk2, _⟩ := F2.ex
  have e := lk.symm.trans lk2
  injection e with e
  injection e with _ _ e _
  injection e with e
  rw [← e]
  exact G
theorem all_mk {l : PySem.W.OpenLaw} {w : World} {K : PySem.W.Frag} {h : Heap} {mg : Str → Option Value} {fa : Addr} {Rc : Str → Prop} {f0 : Addr} {od0 an0 : Option Addr} {sl0 : Array (Option Value)} {oc0 kV0 dc0 pm0 ct0 : Value} {cd0 : Addr} {pp0 : Addr} {o10 : Value} {o20 : Option Addr} {s20 : Array (Option Value)} {vs0 : Array Value} {f1 : Addr} {od1 an1 : Option Addr} {sl1 : Array (Option Value)} {oc1 kV1 dc1 pm1 ct1 : Value} {cd1 : Value} {f2 : Addr} {od2 an2 : Option Addr} {sl2 : Array (Option Value)} {oc2 kV2 dc2 pm2 ct2 : Value} {cd2 : Value} {f3 : Addr} {od3 an3 : Option Addr} {sl3 : Array (Option Value)} {oc3 kV3 dc3 pm3 ct3 : Value} {cd3 : Value} {f4 : Addr} {od4 an4 : Option Addr} {sl4 : Array (Option Value)} {oc4 kV4 dc4 pm4 ct4 : Value} {cd4 : Addr} {pp4 : Addr} {o14 : Value} {o24 : Option Addr} {s24 : Array (Option Value)} {vs4 : Array Value} {f5 : Addr} {od5 an5 : Option Addr} {sl5 : Array (Option Value)} {oc5 kV5 dc5 pm5 ct5 : Value} {cd5 : Value} {f6 : Addr} {od6 an6 : Option Addr} {sl6 : Array (Option Value)} {oc6 kV6 dc6 pm6 ct6 : Value} {cd6 : Value} {f7 : Addr} {od7 an7 : Option Addr} {sl7 : Array (Option Value)} {oc7 kV7 dc7 pm7 ct7 : Value} {cd7 : Addr} {pp7 : Addr} {o17 : Value} {o27 : Option Addr} {s27 : Array (Option Value)} {vs7 : Array Value} {f8 : Addr} {od8 an8 : Option Addr} {sl8 : Array (Option Value)} {oc8 kV8 dc8 pm8 ct8 : Value} {cd8 : Value} {f9 : Addr} {od9 an9 : Option Addr} {sl9 : Array (Option Value)} {oc9 kV9 dc9 pm9 ct9 : Value} {cd9 : Addr} {pp9 : Addr} {o19 : Value} {o29 : Option Addr} {s29 : Array (Option Value)} {vs9 : Array Value} {f10 : Addr} {od10 an10 : Option Addr} {sl10 : Array (Option Value)} {oc10 kV10 dc10 pm10 ct10 : Value} {cd10 : Value} {f11 : Addr} {od11 an11 : Option Addr} {sl11 : Array (Option Value)} {oc11 kV11 dc11 pm11 ct11 : Value} {cd11 : Addr} {pp11 : Addr} {o111 : Value} {o211 : Option Addr} {s211 : Array (Option Value)} {vs11 : Array Value} {f12 : Addr} {od12 an12 : Option Addr} {sl12 : Array (Option Value)} {oc12 kV12 dc12 pm12 ct12 : Value} {cd12 : Value} {f13 : Addr} {od13 an13 : Option Addr} {sl13 : Array (Option Value)} {oc13 kV13 dc13 pm13 ct13 : Value} {cd13 : Value} {f14 : Addr} {od14 an14 : Option Addr} {sl14 : Array (Option Value)} {oc14 kV14 dc14 pm14 ct14 : Value} {cd14 : Value} {f15 : Addr} {od15 an15 : Option Addr} {sl15 : Array (Option Value)} {oc15 kV15 dc15 pm15 ct15 : Value} {cd15 : Value} {f16 : Addr} {od16 an16 : Option Addr} {sl16 : Array (Option Value)} {oc16 kV16 dc16 pm16 ct16 : Value} {cd16 : Addr} {pp16 : Addr} {o116 : Value} {o216 : Option Addr} {s216 : Array (Option Value)} {vs16 : Array Value} {f17 : Addr} {od17 an17 : Option Addr} {sl17 : Array (Option Value)} {oc17 kV17 dc17 pm17 ct17 : Value} {cd17 : Value} {f18 : Addr} {od18 an18 : Option Addr} {sl18 : Array (Option Value)} {oc18 kV18 dc18 pm18 ct18 : Value} {cd18 : Value} {f19 : Addr} {od19 an19 : Option Addr} {sl19 : Array (Option Value)} {oc19 kV19 dc19 pm19 ct19 : Value} {cd19 : Value} {f20 : Addr} {od20 an20 : Option Addr} {sl20 : Array (Option Value)} {oc20 kV20 dc20 pm20 ct20 : Value} {cd20 : Value} {f21 : Addr} {od21 an21 : Option Addr} {sl21 : Array (Option Value)} {oc21 kV21 dc21 pm21 ct21 : Value} {cd21 : Value} {f22 : Addr} {od22 an22 : Option Addr} {sl22 : Array (Option Value)} {oc22 kV22 dc22 pm22 ct22 : Value} {cd22 : Value} {f23 : Addr} {od23 an23 : Option Addr} {sl23 : Array (Option Value)} {oc23 kV23 dc23 pm23 ct23 : Value} {cd23 : Value} {f24 : Addr} {od24 an24 : Option Addr} {sl24 : Array (Option Value)} {oc24 kV24 dc24 pm24 ct24 : Value} {cd24 : Value} {f25 : Addr} {od25 an25 : Option Addr} {sl25 : Array (Option Value)} {oc25 kV25 dc25 pm25 ct25 : Value} {cd25 : Value} {f26 : Addr} {od26 an26 : Option Addr} {sl26 : Array (Option Value)} {oc26 kV26 dc26 pm26 ct26 : Value} {cd26 : Value} {f27 : Addr} {od27 an27 : Option Addr} {sl27 : Array (Option Value)} {oc27 kV27 dc27 pm27 ct27 : Value} {cd27 : Value} {f28 : Addr} {od28 an28 : Option Addr} {sl28 : Array (Option Value)} {oc28 kV28 dc28 pm28 ct28 : Value} {cd28 : Value} {f29 : Addr} {od29 an29 : Option Addr} {sl29 : Array (Option Value)} {oc29 kV29 dc29 pm29 ct29 : Value} {cd29 : Value} {f30 : Addr} {od30 an30 : Option Addr} {sl30 : Array (Option Value)} {oc30 kV30 dc30 pm30 ct30 : Value} {cd30 : Value} {f31 : Addr} {od31 an31 : Option Addr} {sl31 : Array (Option Value)} {oc31 kV31 dc31 pm31 ct31 : Value} {cd31 : Value} {f32 : Addr} {od32 an32 : Option Addr} {sl32 : Array (Option Value)} {oc32 kV32 dc32 pm32 ct32 : Value} {cd32 : Value} {tMS : Tok} {tSL : Tok} {tHS : Tok} {tRS : Tok} {tMO : Tok} {c_HalvesError : Addr} {c_NoName : Addr} {c_NoRow : Addr} {c_NoRoom : Addr} {c_NoText : Addr} {c_NoNumber : Addr} {c_NoParting : Addr} {c_NoTree : Addr} {c_NoKnot : Addr} {c_NoPlace : Addr} {c_NoRule : Addr} {c_NoFit : Addr} {c_NoHalf : Addr} {c_NoOrder : Addr} {c_NoUndo : Addr} {c_NoLikeness : Addr} {c_NoCall : Addr} {fI TI : Addr} {odI anI odT : Option Addr} {slI slT : Array (Option Value)} {ocI ocT kVI dcI pmI cdI ctI : Value} {tI : Tok} {nI : Nat} (X : K.In h) (G : h.Ns mainGlobals mg) (hfa : mg "law" = some (.ref fa)) (hTab : ∀ (y : Str) (c P : Addr), Rc y → PySem.W.tabIn K y = some (c, P) → PySem.W.CodeHd h c P ∧ h.get? P = some (PySem.W.tabObj #[]))
    (a0 : PySem.W.nsIn K mainGlobals "is_written_in" = some (some (.ref f0))) (l0 : K.lookup f0 = some ⟨oc0, od0, .func (PySem.W.fnOf "is_written_in" "is_written_in" (defArgs st_is_written_in) (defBody st_is_written_in) (defScope st_is_written_in) .none kV0 dc0 pm0 an0 (.ref cd0) ct0), sl0⟩) (c0 : PySem.W.codeIn K (.ref cd0) "is_written_in" = true) (k0 : PySem.W.keepIn K (.ref f0) = true)
    (tE0 : K.lookup cd0 = some ⟨o10, o20, .fields vs0, s20⟩) (tG0 : vs0[11]? = some (.ref pp0)) (tN0 : K.lookup pp0 = none) (tR0 : Rc "is_written_in")
    (a1 : PySem.W.nsIn K mainGlobals "is_name" = some (some (.ref f1))) (l1 : K.lookup f1 = some ⟨oc1, od1, .func (PySem.W.fnOf "is_name" "is_name" (defArgs st_is_name) (defBody st_is_name) (defScope st_is_name) .none kV1 dc1 pm1 an1 cd1 ct1), sl1⟩) (c1 : PySem.W.codeIn K cd1 "is_name" = true) (k1 : PySem.W.keepIn K (.ref f1) = true)
    (a2 : PySem.W.nsIn K mainGlobals "is_half" = some (some (.ref f2))) (l2 : K.lookup f2 = some ⟨oc2, od2, .func (PySem.W.fnOf "is_half" "is_half" (defArgs st_is_half) (defBody st_is_half) (defScope st_is_half) .none kV2 dc2 pm2 an2 cd2 ct2), sl2⟩) (c2 : PySem.W.codeIn K cd2 "is_half" = true) (k2 : PySem.W.keepIn K (.ref f2) = true)
    (a3 : PySem.W.nsIn K mainGlobals "is_row" = some (some (.ref f3))) (l3 : K.lookup f3 = some ⟨oc3, od3, .func (PySem.W.fnOf "is_row" "is_row" (defArgs st_is_row) (defBody st_is_row) (defScope st_is_row) .none kV3 dc3 pm3 an3 cd3 ct3), sl3⟩) (c3 : PySem.W.codeIn K cd3 "is_row" = true) (k3 : PySem.W.keepIn K (.ref f3) = true)
    (a4 : PySem.W.nsIn K mainGlobals "rises" = some (some (.ref f4))) (l4 : K.lookup f4 = some ⟨oc4, od4, .func (PySem.W.fnOf "rises" "rises" (defArgs st_rises) (defBody st_rises) (defScope st_rises) .none kV4 dc4 pm4 an4 (.ref cd4) ct4), sl4⟩) (c4 : PySem.W.codeIn K (.ref cd4) "rises" = true) (k4 : PySem.W.keepIn K (.ref f4) = true)
    (tE4 : K.lookup cd4 = some ⟨o14, o24, .fields vs4, s24⟩) (tG4 : vs4[11]? = some (.ref pp4)) (tN4 : K.lookup pp4 = none) (tR4 : Rc "rises")
    (a5 : PySem.W.nsIn K mainGlobals "turned_at_both" = some (some (.ref f5))) (l5 : K.lookup f5 = some ⟨oc5, od5, .func (PySem.W.fnOf "turned_at_both" "turned_at_both" (defArgs st_turned_at_both) (defBody st_turned_at_both) (defScope st_turned_at_both) .none kV5 dc5 pm5 an5 cd5 ct5), sl5⟩) (c5 : PySem.W.codeIn K cd5 "turned_at_both" = true) (k5 : PySem.W.keepIn K (.ref f5) = true)
    (a6 : PySem.W.nsIn K mainGlobals "lets" = some (some (.ref f6))) (l6 : K.lookup f6 = some ⟨oc6, od6, .func (PySem.W.fnOf "lets" "lets" (defArgs st_lets) (defBody st_lets) (defScope st_lets) .none kV6 dc6 pm6 an6 cd6 ct6), sl6⟩) (c6 : PySem.W.codeIn K cd6 "lets" = true) (k6 : PySem.W.keepIn K (.ref f6) = true)
    (a7 : PySem.W.nsIn K mainGlobals "fits_row" = some (some (.ref f7))) (l7 : K.lookup f7 = some ⟨oc7, od7, .func (PySem.W.fnOf "fits_row" "fits_row" (defArgs st_fits_row) (defBody st_fits_row) (defScope st_fits_row) .none kV7 dc7 pm7 an7 (.ref cd7) ct7), sl7⟩) (c7 : PySem.W.codeIn K (.ref cd7) "fits_row" = true) (k7 : PySem.W.keepIn K (.ref f7) = true)
    (tE7 : K.lookup cd7 = some ⟨o17, o27, .fields vs7, s27⟩) (tG7 : vs7[11]? = some (.ref pp7)) (tN7 : K.lookup pp7 = none) (tR7 : Rc "fits_row")
    (a8 : PySem.W.nsIn K mainGlobals "other_half" = some (some (.ref f8))) (l8 : K.lookup f8 = some ⟨oc8, od8, .func (PySem.W.fnOf "other_half" "other_half" (defArgs st_other_half) (defBody st_other_half) (defScope st_other_half) .none kV8 dc8 pm8 an8 cd8 ct8), sl8⟩) (c8 : PySem.W.codeIn K cd8 "other_half" = true) (k8 : PySem.W.keepIn K (.ref f8) = true)
    (a9 : PySem.W.nsIn K mainGlobals "are_known" = some (some (.ref f9))) (l9 : K.lookup f9 = some ⟨oc9, od9, .func (PySem.W.fnOf "are_known" "are_known" (defArgs st_are_known) (defBody st_are_known) (defScope st_are_known) .none kV9 dc9 pm9 an9 (.ref cd9) ct9), sl9⟩) (c9 : PySem.W.codeIn K (.ref cd9) "are_known" = true) (k9 : PySem.W.keepIn K (.ref f9) = true)
    (tE9 : K.lookup cd9 = some ⟨o19, o29, .fields vs9, s29⟩) (tG9 : vs9[11]? = some (.ref pp9)) (tN9 : K.lookup pp9 = none) (tR9 : Rc "are_known")
    (a10 : PySem.W.nsIn K mainGlobals "names_in" = some (some (.ref f10))) (l10 : K.lookup f10 = some ⟨oc10, od10, .func (PySem.W.fnOf "names_in" "names_in" (defArgs st_names_in) (defBody st_names_in) (defScope st_names_in) .none kV10 dc10 pm10 an10 cd10 ct10), sl10⟩) (c10 : PySem.W.codeIn K cd10 "names_in" = true) (k10 : PySem.W.keepIn K (.ref f10) = true)
    (a11 : PySem.W.nsIn K mainGlobals "is_order" = some (some (.ref f11))) (l11 : K.lookup f11 = some ⟨oc11, od11, .func (PySem.W.fnOf "is_order" "is_order" (defArgs st_is_order) (defBody st_is_order) (defScope st_is_order) .none kV11 dc11 pm11 an11 (.ref cd11) ct11), sl11⟩) (c11 : PySem.W.codeIn K (.ref cd11) "is_order" = true) (k11 : PySem.W.keepIn K (.ref f11) = true)
    (tE11 : K.lookup cd11 = some ⟨o111, o211, .fields vs11, s211⟩) (tG11 : vs11[11]? = some (.ref pp11)) (tN11 : K.lookup pp11 = none) (tR11 : Rc "is_order")
    (a12 : PySem.W.nsIn K mainGlobals "next_step" = some (some (.ref f12))) (l12 : K.lookup f12 = some ⟨oc12, od12, .func (PySem.W.fnOf "next_step" "next_step" (defArgs st_next_step) (defBody st_next_step) (defScope st_next_step) .none kV12 dc12 pm12 an12 cd12 ct12), sl12⟩) (c12 : PySem.W.codeIn K cd12 "next_step" = true) (k12 : PySem.W.keepIn K (.ref f12) = true)
    (a13 : PySem.W.nsIn K mainGlobals "steps_by" = some (some (.ref f13))) (l13 : K.lookup f13 = some ⟨oc13, od13, .func (PySem.W.fnOf "steps_by" "steps_by" (defArgs st_steps_by) (defBody st_steps_by) (defScope st_steps_by) .none kV13 dc13 pm13 an13 cd13 ct13), sl13⟩) (c13 : PySem.W.codeIn K cd13 "steps_by" = true) (k13 : PySem.W.keepIn K (.ref f13) = true)
    (a14 : PySem.W.nsIn K mainGlobals "settled" = some (some (.ref f14))) (l14 : K.lookup f14 = some ⟨oc14, od14, .func (PySem.W.fnOf "settled" "settled" (defArgs st_settled) (defBody st_settled) (defScope st_settled) .none kV14 dc14 pm14 an14 cd14 ct14), sl14⟩) (c14 : PySem.W.codeIn K cd14 "settled" = true) (k14 : PySem.W.keepIn K (.ref f14) = true)
    (a15 : PySem.W.nsIn K mainGlobals "orders_of" = some (some (.ref f15))) (l15 : K.lookup f15 = some ⟨oc15, od15, .func (PySem.W.fnOf "orders_of" "orders_of" (defArgs st_orders_of) (defBody st_orders_of) (defScope st_orders_of) .none kV15 dc15 pm15 an15 cd15 ct15), sl15⟩) (c15 : PySem.W.codeIn K cd15 "orders_of" = true) (k15 : PySem.W.keepIn K (.ref f15) = true)
    (a16 : PySem.W.nsIn K mainGlobals "best_order" = some (some (.ref f16))) (l16 : K.lookup f16 = some ⟨oc16, od16, .func (PySem.W.fnOf "best_order" "best_order" (defArgs st_best_order) (defBody st_best_order) (defScope st_best_order) .none kV16 dc16 pm16 an16 (.ref cd16) ct16), sl16⟩) (c16 : PySem.W.codeIn K (.ref cd16) "best_order" = true) (k16 : PySem.W.keepIn K (.ref f16) = true)
    (tE16 : K.lookup cd16 = some ⟨o116, o216, .fields vs16, s216⟩) (tG16 : vs16[11]? = some (.ref pp16)) (tN16 : K.lookup pp16 = none) (tR16 : Rc "best_order")
    (a17 : PySem.W.nsIn K mainGlobals "_law_cell" = some (some (.ref f17))) (l17 : K.lookup f17 = some ⟨oc17, od17, .func (PySem.W.fnOf "_law_cell" "_law_cell" (defArgs st__law_cell) (defBody st__law_cell) (defScope st__law_cell) .none kV17 dc17 pm17 an17 cd17 ct17), sl17⟩) (c17 : PySem.W.codeIn K cd17 "_law_cell" = true) (k17 : PySem.W.keepIn K (.ref f17) = true)
    (a18 : PySem.W.nsIn K mainGlobals "_law_numbers" = some (some (.ref f18))) (l18 : K.lookup f18 = some ⟨oc18, od18, .func (PySem.W.fnOf "_law_numbers" "_law_numbers" (defArgs st__law_numbers) (defBody st__law_numbers) (defScope st__law_numbers) .none kV18 dc18 pm18 an18 cd18 ct18), sl18⟩) (c18 : PySem.W.codeIn K cd18 "_law_numbers" = true) (k18 : PySem.W.keepIn K (.ref f18) = true)
    (a19 : PySem.W.nsIn K mainGlobals "_law_names" = some (some (.ref f19))) (l19 : K.lookup f19 = some ⟨oc19, od19, .func (PySem.W.fnOf "_law_names" "_law_names" (defArgs st__law_names) (defBody st__law_names) (defScope st__law_names) .none kV19 dc19 pm19 an19 cd19 ct19), sl19⟩) (c19 : PySem.W.codeIn K cd19 "_law_names" = true) (k19 : PySem.W.keepIn K (.ref f19) = true)
    (a20 : PySem.W.nsIn K mainGlobals "_law_any_row" = some (some (.ref f20))) (l20 : K.lookup f20 = some ⟨oc20, od20, .func (PySem.W.fnOf "_law_any_row" "_law_any_row" (defArgs st__law_any_row) (defBody st__law_any_row) (defScope st__law_any_row) .none kV20 dc20 pm20 an20 cd20 ct20), sl20⟩) (c20 : PySem.W.codeIn K cd20 "_law_any_row" = true) (k20 : PySem.W.keepIn K (.ref f20) = true)
    (a21 : PySem.W.nsIn K mainGlobals "_law_turned_at" = some (some (.ref f21))) (l21 : K.lookup f21 = some ⟨oc21, od21, .func (PySem.W.fnOf "_law_turned_at" "_law_turned_at" (defArgs st__law_turned_at) (defBody st__law_turned_at) (defScope st__law_turned_at) .none kV21 dc21 pm21 an21 cd21 ct21), sl21⟩) (c21 : PySem.W.codeIn K cd21 "_law_turned_at" = true) (k21 : PySem.W.keepIn K (.ref f21) = true)
    (a22 : PySem.W.nsIn K mainGlobals "_law_tree_halves" = some (some (.ref f22))) (l22 : K.lookup f22 = some ⟨oc22, od22, .func (PySem.W.fnOf "_law_tree_halves" "_law_tree_halves" (defArgs st__law_tree_halves) (defBody st__law_tree_halves) (defScope st__law_tree_halves) .none kV22 dc22 pm22 an22 cd22 ct22), sl22⟩) (c22 : PySem.W.codeIn K cd22 "_law_tree_halves" = true) (k22 : PySem.W.keepIn K (.ref f22) = true)
    (a23 : PySem.W.nsIn K mainGlobals "_law_joined_row" = some (some (.ref f23))) (l23 : K.lookup f23 = some ⟨oc23, od23, .func (PySem.W.fnOf "_law_joined_row" "_law_joined_row" (defArgs st__law_joined_row) (defBody st__law_joined_row) (defScope st__law_joined_row) .none kV23 dc23 pm23 an23 cd23 ct23), sl23⟩) (c23 : PySem.W.codeIn K cd23 "_law_joined_row" = true) (k23 : PySem.W.keepIn K (.ref f23) = true)
    (a24 : PySem.W.nsIn K mainGlobals "_law_book" = some (some (.ref f24))) (l24 : K.lookup f24 = some ⟨oc24, od24, .func (PySem.W.fnOf "_law_book" "_law_book" (defArgs st__law_book) (defBody st__law_book) (defScope st__law_book) .none kV24 dc24 pm24 an24 cd24 ct24), sl24⟩) (c24 : PySem.W.codeIn K cd24 "_law_book" = true) (k24 : PySem.W.keepIn K (.ref f24) = true)
    (a25 : PySem.W.nsIn K mainGlobals "_law_written" = some (some (.ref f25))) (l25 : K.lookup f25 = some ⟨oc25, od25, .func (PySem.W.fnOf "_law_written" "_law_written" (defArgs st__law_written) (defBody st__law_written) (defScope st__law_written) .none kV25 dc25 pm25 an25 cd25 ct25), sl25⟩) (c25 : PySem.W.codeIn K cd25 "_law_written" = true) (k25 : PySem.W.keepIn K (.ref f25) = true)
    (a26 : PySem.W.nsIn K mainGlobals "_law_sort" = some (some (.ref f26))) (l26 : K.lookup f26 = some ⟨oc26, od26, .func (PySem.W.fnOf "_law_sort" "_law_sort" (defArgs st__law_sort) (defBody st__law_sort) (defScope st__law_sort) .none kV26 dc26 pm26 an26 cd26 ct26), sl26⟩) (c26 : PySem.W.codeIn K cd26 "_law_sort" = true) (k26 : PySem.W.keepIn K (.ref f26) = true)
    (a27 : PySem.W.nsIn K mainGlobals "_law_told" = some (some (.ref f27))) (l27 : K.lookup f27 = some ⟨oc27, od27, .func (PySem.W.fnOf "_law_told" "_law_told" (defArgs st__law_told) (defBody st__law_told) (defScope st__law_told) .none kV27 dc27 pm27 an27 cd27 ct27), sl27⟩) (c27 : PySem.W.codeIn K cd27 "_law_told" = true) (k27 : PySem.W.keepIn K (.ref f27) = true)
    (a28 : PySem.W.nsIn K mainGlobals "_law_best_told" = some (some (.ref f28))) (l28 : K.lookup f28 = some ⟨oc28, od28, .func (PySem.W.fnOf "_law_best_told" "_law_best_told" (defArgs st__law_best_told) (defBody st__law_best_told) (defScope st__law_best_told) .none kV28 dc28 pm28 an28 cd28 ct28), sl28⟩) (c28 : PySem.W.codeIn K cd28 "_law_best_told" = true) (k28 : PySem.W.keepIn K (.ref f28) = true)
    (a29 : PySem.W.nsIn K mainGlobals "_law_good_known" = some (some (.ref f29))) (l29 : K.lookup f29 = some ⟨oc29, od29, .func (PySem.W.fnOf "_law_good_known" "_law_good_known" (defArgs st__law_good_known) (defBody st__law_good_known) (defScope st__law_good_known) .none kV29 dc29 pm29 an29 cd29 ct29), sl29⟩) (c29 : PySem.W.codeIn K cd29 "_law_good_known" = true) (k29 : PySem.W.keepIn K (.ref f29) = true)
    (a30 : PySem.W.nsIn K mainGlobals "_law_good_order" = some (some (.ref f30))) (l30 : K.lookup f30 = some ⟨oc30, od30, .func (PySem.W.fnOf "_law_good_order" "_law_good_order" (defArgs st__law_good_order) (defBody st__law_good_order) (defScope st__law_good_order) .none kV30 dc30 pm30 an30 cd30 ct30), sl30⟩) (c30 : PySem.W.codeIn K cd30 "_law_good_order" = true) (k30 : PySem.W.keepIn K (.ref f30) = true)
    (a31 : PySem.W.nsIn K mainGlobals "_law_bent" = some (some (.ref f31))) (l31 : K.lookup f31 = some ⟨oc31, od31, .func (PySem.W.fnOf "_law_bent" "_law_bent" (defArgs st__law_bent) (defBody st__law_bent) (defScope st__law_bent) .none kV31 dc31 pm31 an31 cd31 ct31), sl31⟩) (c31 : PySem.W.codeIn K cd31 "_law_bent" = true) (k31 : PySem.W.keepIn K (.ref f31) = true)
    (a32 : PySem.W.nsIn K mainGlobals "law" = some (some (.ref f32))) (l32 : K.lookup f32 = some ⟨oc32, od32, .func (PySem.W.fnOf "law" "law" (defArgs st_law) (defBody st_law) (defScope st_law) .none kV32 dc32 pm32 an32 cd32 ct32), sl32⟩) (c32 : PySem.W.codeIn K cd32 "law" = true) (k32 : PySem.W.keepIn K (.ref f32) = true)
    (z_len : PySem.W.nsIn K mainGlobals "len" = some none)
    (z_isinstance : PySem.W.nsIn K mainGlobals "isinstance" = some none)
    (z_str : PySem.W.nsIn K mainGlobals "str" = some none)
    (z_all : PySem.W.nsIn K mainGlobals "all" = some none)
    (z_zip : PySem.W.nsIn K mainGlobals "zip" = some none)
    (z_tuple : PySem.W.nsIn K mainGlobals "tuple" = some none)
    (z_sorted : PySem.W.nsIn K mainGlobals "sorted" = some none)
    (z_dict : PySem.W.nsIn K mainGlobals "dict" = some none)
    (z_list : PySem.W.nsIn K mainGlobals "list" = some none)
    (z_set : PySem.W.nsIn K mainGlobals "set" = some none)
    (z_enumerate : PySem.W.nsIn K mainGlobals "enumerate" = some none)
    (z_max : PySem.W.nsIn K mainGlobals "max" = some none)
    (z_abs : PySem.W.nsIn K mainGlobals "abs" = some none)
    (z_range : PySem.W.nsIn K mainGlobals "range" = some none)
    (z_int : PySem.W.nsIn K mainGlobals "int" = some none)
    (z_ValueError : PySem.W.nsIn K mainGlobals "ValueError" = some none)
    (y_MOST_SIGNS : PySem.W.nsIn K mainGlobals "MOST_SIGNS" = some (some (.int 8 tMS)))
    (y_SMALL_LETTERS : PySem.W.nsIn K mainGlobals "SMALL_LETTERS" = some (some (.str "abcdefghijklmnopqrstuvwxyz" tSL)))
    (y_HALF_SIGNS : PySem.W.nsIn K mainGlobals "HALF_SIGNS" = some (some (.str "ny" tHS)))
    (y_ROW_SIGNS : PySem.W.nsIn K mainGlobals "ROW_SIGNS" = some (some (.str "nby" tRS)))
    (y_MOST_ORDERED : PySem.W.nsIn K mainGlobals "MOST_ORDERED" = some (some (.int 5 tMO)))
    (nL : pp16 ∉ ([pp0, pp4, pp7, pp9, pp11] : List Addr))
    (q_HalvesError : PySem.W.nsIn K mainGlobals "HalvesError" = some (some (.ref c_HalvesError)))
    (q_NoName : PySem.W.nsIn K mainGlobals "NoName" = some (some (.ref c_NoName)))
    (q_NoRow : PySem.W.nsIn K mainGlobals "NoRow" = some (some (.ref c_NoRow)))
    (q_NoRoom : PySem.W.nsIn K mainGlobals "NoRoom" = some (some (.ref c_NoRoom)))
    (q_NoText : PySem.W.nsIn K mainGlobals "NoText" = some (some (.ref c_NoText)))
    (q_NoNumber : PySem.W.nsIn K mainGlobals "NoNumber" = some (some (.ref c_NoNumber)))
    (q_NoParting : PySem.W.nsIn K mainGlobals "NoParting" = some (some (.ref c_NoParting)))
    (q_NoTree : PySem.W.nsIn K mainGlobals "NoTree" = some (some (.ref c_NoTree)))
    (q_NoKnot : PySem.W.nsIn K mainGlobals "NoKnot" = some (some (.ref c_NoKnot)))
    (q_NoPlace : PySem.W.nsIn K mainGlobals "NoPlace" = some (some (.ref c_NoPlace)))
    (q_NoRule : PySem.W.nsIn K mainGlobals "NoRule" = some (some (.ref c_NoRule)))
    (q_NoFit : PySem.W.nsIn K mainGlobals "NoFit" = some (some (.ref c_NoFit)))
    (q_NoHalf : PySem.W.nsIn K mainGlobals "NoHalf" = some (some (.ref c_NoHalf)))
    (q_NoOrder : PySem.W.nsIn K mainGlobals "NoOrder" = some (some (.ref c_NoOrder)))
    (q_NoUndo : PySem.W.nsIn K mainGlobals "NoUndo" = some (some (.ref c_NoUndo)))
    (q_NoLikeness : PySem.W.nsIn K mainGlobals "NoLikeness" = some (some (.ref c_NoLikeness)))
    (q_NoCall : PySem.W.nsIn K mainGlobals "NoCall" = some (some (.ref c_NoCall)))
    (o1_NoHalf : ∃ nm q N bs bm sn sub ab col dd k0 k1 k2 k3 k5, K.lookup c_NoHalf = some (excClassObj nm q c_NoHalf N bs bm true sn sub ab col dd k0 k1 k2 k3 k5 "ValueError.__new__") ∧ PySem.HandSPX.refsVE bm = true)
    (o2_NoHalf : PySem.W.findIn K (.ref c_NoHalf) "__setattr__" = some (some (.builtin "object.__setattr__")))
    (o3_NoHalf : PySem.W.subIn K (.ref c_NoHalf) (.type "BaseException") = some true)
    (o4_NoHalf : PySem.W.typeIn K (.ref c_NoHalf) = some (.type "type"))
    (o5_NoHalf : PySem.W.keepIn K (.ref c_NoHalf) = true)
    (o6_NoHalf : PySem.W.findIn K (.ref c_NoHalf) "__init__" = some (some (.ref fI)))
    (x1_NoHalf : PySem.W.findIn K (.ref c_NoHalf) "__getattribute__" = some (some (.builtin "BaseException.__getattribute__")))
    (x2_NoHalf : PySem.W.findIn K (.ref c_NoHalf) "__getattr__" = some none)
    (x4_NoHalf : PySem.W.hasDictIn K c_NoHalf = true)
    (x5_NoHalf : PySem.W.findIn K (.ref c_NoHalf) "__class__" = some (some (.builtin "object.__class__")))
    (x8_NoHalf : PySem.W.mroIn K c_NoHalf (.type "object") = some true)
    (o1_NoOrder : ∃ nm q N bs bm sn sub ab col dd k0 k1 k2 k3 k5, K.lookup c_NoOrder = some (excClassObj nm q c_NoOrder N bs bm true sn sub ab col dd k0 k1 k2 k3 k5 "ValueError.__new__") ∧ PySem.HandSPX.refsVE bm = true)
    (o2_NoOrder : PySem.W.findIn K (.ref c_NoOrder) "__setattr__" = some (some (.builtin "object.__setattr__")))
    (o3_NoOrder : PySem.W.subIn K (.ref c_NoOrder) (.type "BaseException") = some true)
    (o4_NoOrder : PySem.W.typeIn K (.ref c_NoOrder) = some (.type "type"))
    (o5_NoOrder : PySem.W.keepIn K (.ref c_NoOrder) = true)
    (o6_NoOrder : PySem.W.findIn K (.ref c_NoOrder) "__init__" = some (some (.ref fI)))
    (x1_NoOrder : PySem.W.findIn K (.ref c_NoOrder) "__getattribute__" = some (some (.builtin "BaseException.__getattribute__")))
    (x2_NoOrder : PySem.W.findIn K (.ref c_NoOrder) "__getattr__" = some none)
    (x4_NoOrder : PySem.W.hasDictIn K c_NoOrder = true)
    (x5_NoOrder : PySem.W.findIn K (.ref c_NoOrder) "__class__" = some (some (.builtin "object.__class__")))
    (x8_NoOrder : PySem.W.mroIn K c_NoOrder (.type "object") = some true)
    (o1_NoRoom : ∃ nm q N bs bm sn sub ab col dd k0 k1 k2 k3 k5, K.lookup c_NoRoom = some (excClassObj nm q c_NoRoom N bs bm true sn sub ab col dd k0 k1 k2 k3 k5 "ValueError.__new__") ∧ PySem.HandSPX.refsVE bm = true)
    (o2_NoRoom : PySem.W.findIn K (.ref c_NoRoom) "__setattr__" = some (some (.builtin "object.__setattr__")))
    (o3_NoRoom : PySem.W.subIn K (.ref c_NoRoom) (.type "BaseException") = some true)
    (o4_NoRoom : PySem.W.typeIn K (.ref c_NoRoom) = some (.type "type"))
    (o5_NoRoom : PySem.W.keepIn K (.ref c_NoRoom) = true)
    (o6_NoRoom : PySem.W.findIn K (.ref c_NoRoom) "__init__" = some (some (.ref fI)))
    (x1_NoRoom : PySem.W.findIn K (.ref c_NoRoom) "__getattribute__" = some (some (.builtin "BaseException.__getattribute__")))
    (x2_NoRoom : PySem.W.findIn K (.ref c_NoRoom) "__getattr__" = some none)
    (x4_NoRoom : PySem.W.hasDictIn K c_NoRoom = true)
    (x5_NoRoom : PySem.W.findIn K (.ref c_NoRoom) "__class__" = some (some (.builtin "object.__class__")))
    (x8_NoRoom : PySem.W.mroIn K c_NoRoom (.type "object") = some true)
    (x6 : PySem.W.specialIn K (.builtin "object.__class__") "__get__" = some (some (.builtin "getset_descriptor.__get__")))
    (x7 : PySem.W.takesIn K (.builtin "object.__class__") = some true)
    (i0 : PySem.W.findIn K (.ref c_HalvesError) "__init__" = some (some (.ref fI)))
    (i1 : K.lookup fI = some ⟨ocI, odI, .func (PySem.W.fnOf "__init__" "HalvesError.__init__" (defArgs st_hinit) (defBody st_hinit) (defScope st_hinit) (.ref TI) kVI dcI pmI anI cdI ctI), slI⟩)
    (i2 : PySem.W.codeIn K cdI "HalvesError.__init__" = true)
    (i3 : K.lookup TI = some ⟨ocT, odT, .seq #[.str "refused" tI] nI, slT⟩)
    (i4 : PySem.W.keepIn K (.ref fI) = true)
    (i5 : PySem.W.typeIn K (.ref fI) = some (.type "function"))
    (i6 : PySem.W.findCls K (.type "ValueError") (.type "type") "__init__" = some (.val (.builtin "ValueError.__init__")))
    (xm_NoHalf : PySem.W.exmOne K (.ref c_NoHalf) (.ref c_HalvesError) = some true)
    (k10_NoHalf : PySem.W.kitAny K (.ref c_NoHalf) [.ref c_NoCall, .ref c_NoFit, .ref c_NoKnot, .ref c_NoLikeness, .ref c_NoName, .ref c_NoNumber, .ref c_NoParting, .ref c_NoPlace, .ref c_NoRow, .ref c_NoRule] = some false)
    (k3_NoHalf : PySem.W.kitAny K (.ref c_NoHalf) [.ref c_NoText, .ref c_NoTree, .ref c_NoUndo] = some false)
    (kv_NoHalf : PySem.W.kitOne K (.ref c_NoHalf) (.type "ValueError") = some true)
    (k_NoHalf_NoHalf : PySem.W.kitOne K (.ref c_NoHalf) (.ref c_NoHalf) = some true)
    (k_NoHalf_NoOrder : PySem.W.kitOne K (.ref c_NoHalf) (.ref c_NoOrder) = some false)
    (k_NoHalf_NoRoom : PySem.W.kitOne K (.ref c_NoHalf) (.ref c_NoRoom) = some false)
    (xm_NoOrder : PySem.W.exmOne K (.ref c_NoOrder) (.ref c_HalvesError) = some true)
    (k10_NoOrder : PySem.W.kitAny K (.ref c_NoOrder) [.ref c_NoCall, .ref c_NoFit, .ref c_NoKnot, .ref c_NoLikeness, .ref c_NoName, .ref c_NoNumber, .ref c_NoParting, .ref c_NoPlace, .ref c_NoRow, .ref c_NoRule] = some false)
    (k3_NoOrder : PySem.W.kitAny K (.ref c_NoOrder) [.ref c_NoText, .ref c_NoTree, .ref c_NoUndo] = some false)
    (kv_NoOrder : PySem.W.kitOne K (.ref c_NoOrder) (.type "ValueError") = some true)
    (k_NoOrder_NoHalf : PySem.W.kitOne K (.ref c_NoOrder) (.ref c_NoHalf) = some false)
    (k_NoOrder_NoOrder : PySem.W.kitOne K (.ref c_NoOrder) (.ref c_NoOrder) = some true)
    (k_NoOrder_NoRoom : PySem.W.kitOne K (.ref c_NoOrder) (.ref c_NoRoom) = some false)
    (xm_NoRoom : PySem.W.exmOne K (.ref c_NoRoom) (.ref c_HalvesError) = some true)
    (k10_NoRoom : PySem.W.kitAny K (.ref c_NoRoom) [.ref c_NoCall, .ref c_NoFit, .ref c_NoKnot, .ref c_NoLikeness, .ref c_NoName, .ref c_NoNumber, .ref c_NoParting, .ref c_NoPlace, .ref c_NoRow, .ref c_NoRule] = some false)
    (k3_NoRoom : PySem.W.kitAny K (.ref c_NoRoom) [.ref c_NoText, .ref c_NoTree, .ref c_NoUndo] = some false)
    (kv_NoRoom : PySem.W.kitOne K (.ref c_NoRoom) (.type "ValueError") = some true)
    (k_NoRoom_NoHalf : PySem.W.kitOne K (.ref c_NoRoom) (.ref c_NoHalf) = some false)
    (k_NoRoom_NoOrder : PySem.W.kitOne K (.ref c_NoRoom) (.ref c_NoOrder) = some false)
    (k_NoRoom_NoRoom : PySem.W.kitOne K (.ref c_NoRoom) (.ref c_NoRoom) = some true) :
    LamX.LawAtS l w K CX0 13 63 "_law_script" mg fa h := by
  have m_len := PySem.W.mg_none_of X G z_len
  have m_isinstance := PySem.W.mg_none_of X G z_isinstance
  have m_str := PySem.W.mg_none_of X G z_str
  have m_all := PySem.W.mg_none_of X G z_all
  have m_zip := PySem.W.mg_none_of X G z_zip
  have m_tuple := PySem.W.mg_none_of X G z_tuple
  have m_sorted := PySem.W.mg_none_of X G z_sorted
  have m_dict := PySem.W.mg_none_of X G z_dict
  have m_list := PySem.W.mg_none_of X G z_list
  have m_set := PySem.W.mg_none_of X G z_set
  have m_enumerate := PySem.W.mg_none_of X G z_enumerate
  have m_max := PySem.W.mg_none_of X G z_max
  have m_abs := PySem.W.mg_none_of X G z_abs
  have m_range := PySem.W.mg_none_of X G z_range
  have m_int := PySem.W.mg_none_of X G z_int
  have m_ValueError := PySem.W.mg_none_of X G z_ValueError
  have c_MOST_SIGNS := PySem.W.mg_of X G y_MOST_SIGNS
  have c_SMALL_LETTERS := PySem.W.mg_of X G y_SMALL_LETTERS
  have c_HALF_SIGNS := PySem.W.mg_of X G y_HALF_SIGNS
  have c_ROW_SIGNS := PySem.W.mg_of X G y_ROW_SIGNS
  have c_MOST_ORDERED := PySem.W.mg_of X G y_MOST_ORDERED
  have D_is_written_in : DfC K mg "is_written_in" st_is_written_in ["thing", "signs"] cd0 := dfc_mk X G a0 l0 c0 k0 (fun _ _ _ _ _ _ us hl => match us, hl with | [_, _], _ => rfl)
  have T0 := hTab "is_written_in" cd0 pp0 tR0 (tabIn_mk a0 l0 rfl tE0 tG0)
  have D_is_name : Df K mg "is_name" st_is_name ["thing"] := df_mk X G a1 l1 c1 k1 (fun _ _ _ _ _ _ us hl => match us, hl with | [_], _ => rfl)
  have D_is_half : Df K mg "is_half" st_is_half ["thing"] := df_mk X G a2 l2 c2 k2 (fun _ _ _ _ _ _ us hl => match us, hl with | [_], _ => rfl)
  have D_is_row : Df K mg "is_row" st_is_row ["thing"] := df_mk X G a3 l3 c3 k3 (fun _ _ _ _ _ _ us hl => match us, hl with | [_], _ => rfl)
  have D_rises : DfC K mg "rises" st_rises ["things"] cd4 := dfc_mk X G a4 l4 c4 k4 (fun _ _ _ _ _ _ us hl => match us, hl with | [_], _ => rfl)
  have T4 := hTab "rises" cd4 pp4 tR4 (tabIn_mk a4 l4 rfl tE4 tG4)
  have D_turned_at_both : Df K mg "turned_at_both" st_turned_at_both ["row", "half"] := df_mk X G a5 l5 c5 k5 (fun _ _ _ _ _ _ us hl => match us, hl with | [_, _], _ => rfl)
  have D_lets : Df K mg "lets" st_lets ["mark", "sign"] := df_mk X G a6 l6 c6 k6 (fun _ _ _ _ _ _ us hl => match us, hl with | [_, _], _ => rfl)
  have D_fits_row : DfC K mg "fits_row" st_fits_row ["row", "half"] cd7 := dfc_mk X G a7 l7 c7 k7 (fun _ _ _ _ _ _ us hl => match us, hl with | [_, _], _ => rfl)
  have T7 := hTab "fits_row" cd7 pp7 tR7 (tabIn_mk a7 l7 rfl tE7 tG7)
  have D_other_half : Df K mg "other_half" st_other_half ["row", "half"] := df_mk X G a8 l8 c8 k8 (fun _ _ _ _ _ _ us hl => match us, hl with | [_, _], _ => rfl)
  have D_are_known : DfC K mg "are_known" st_are_known ["book", "thing"] cd9 := dfc_mk X G a9 l9 c9 k9 (fun _ _ _ _ _ _ us hl => match us, hl with | [_, _], _ => rfl)
  have T9 := hTab "are_known" cd9 pp9 tR9 (tabIn_mk a9 l9 rfl tE9 tG9)
  have D_names_in : Df K mg "names_in" st_names_in ["book"] := df_mk X G a10 l10 c10 k10 (fun _ _ _ _ _ _ us hl => match us, hl with | [_], _ => rfl)
  have D_is_order : DfC K mg "is_order" st_is_order ["book", "thing"] cd11 := dfc_mk X G a11 l11 c11 k11 (fun _ _ _ _ _ _ us hl => match us, hl with | [_, _], _ => rfl)
  have T11 := hTab "is_order" cd11 pp11 tR11 (tabIn_mk a11 l11 rfl tE11 tG11)
  have D_next_step : Df K mg "next_step" st_next_step ["rows", "known", "waiting"] := df_mk X G a12 l12 c12 k12 (fun _ _ _ _ _ _ us hl => match us, hl with | [_, _, _], _ => rfl)
  have D_steps_by : Df K mg "steps_by" st_steps_by ["book", "known", "order"] := df_mk X G a13 l13 c13 k13 (fun _ _ _ _ _ _ us hl => match us, hl with | [_, _, _], _ => rfl)
  have D_settled : Df K mg "settled" st_settled ["book", "known", "order"] := df_mk X G a14 l14 c14 k14 (fun _ _ _ _ _ _ us hl => match us, hl with | [_, _, _], _ => rfl)
  have D_orders_of : Df K mg "orders_of" st_orders_of ["names"] := df_mk X G a15 l15 c15 k15 (fun _ _ _ _ _ _ us hl => match us, hl with | [_], _ => rfl)
  have D_best_order : DfC K mg "best_order" st_best_order ["book", "known"] cd16 := dfc_mk X G a16 l16 c16 k16 (fun _ _ _ _ _ _ us hl => match us, hl with | [_, _], _ => rfl)
  have T16 := hTab "best_order" cd16 pp16 tR16 (tabIn_mk a16 l16 rfl tE16 tG16)
  have D__law_cell : Df K mg "_law_cell" st__law_cell ["_law_script", "_law_k"] := df_mk X G a17 l17 c17 k17 (fun _ _ _ _ _ _ us hl => match us, hl with | [_, _], _ => rfl)
  have D__law_numbers : Df K mg "_law_numbers" st__law_numbers ["_law_cell_here", "_law_many"] := df_mk X G a18 l18 c18 k18 (fun _ _ _ _ _ _ us hl => match us, hl with | [_, _], _ => rfl)
  have D__law_names : Df K mg "_law_names" st__law_names ["_law_xs", "_law_many"] := df_mk X G a19 l19 c19 k19 (fun _ _ _ _ _ _ us hl => match us, hl with | [_, _], _ => rfl)
  have D__law_any_row : Df K mg "_law_any_row" st__law_any_row ["_law_xs", "_law_places"] := df_mk X G a20 l20 c20 k20 (fun _ _ _ _ _ _ us hl => match us, hl with | [_, _], _ => rfl)
  have D__law_turned_at : Df K mg "_law_turned_at" st__law_turned_at ["_law_half", "_law_place"] := df_mk X G a21 l21 c21 k21 (fun _ _ _ _ _ _ us hl => match us, hl with | [_, _], _ => rfl)
  have D__law_tree_halves : Df K mg "_law_tree_halves" st__law_tree_halves ["_law_xs", "_law_places"] := df_mk X G a22 l22 c22 k22 (fun _ _ _ _ _ _ us hl => match us, hl with | [_, _], _ => rfl)
  have D__law_joined_row : Df K mg "_law_joined_row" st__law_joined_row ["_law_one", "_law_other"] := df_mk X G a23 l23 c23 k23 (fun _ _ _ _ _ _ us hl => match us, hl with | [_, _], _ => rfl)
  have D__law_book : Df K mg "_law_book" st__law_book ["_law_script", "_law_at", "_law_many", "_law_places"] := df_mk X G a24 l24 c24 k24 (fun _ _ _ _ _ _ us hl => match us, hl with | [_, _, _, _], _ => rfl)
  have D__law_written : Df K mg "_law_written" st__law_written ["_law_thing", "_law_signs", "_law_most"] := df_mk X G a25 l25 c25 k25 (fun _ _ _ _ _ _ us hl => match us, hl with | [_, _, _], _ => rfl)
  have D__law_sort : Df K mg "_law_sort" st__law_sort ["_law_e"] := df_mk X G a26 l26 c26 k26 (fun _ _ _ _ _ _ us hl => match us, hl with | [_], _ => rfl)
  have D__law_told : Df K mg "_law_told" st__law_told ["_law_book_here", "_law_known", "_law_order"] := df_mk X G a27 l27 c27 k27 (fun _ _ _ _ _ _ us hl => match us, hl with | [_, _, _], _ => rfl)
  have D__law_best_told : Df K mg "_law_best_told" st__law_best_told ["_law_book_here", "_law_known"] := df_mk X G a28 l28 c28 k28 (fun _ _ _ _ _ _ us hl => match us, hl with | [_, _], _ => rfl)
  have D__law_good_known : Df K mg "_law_good_known" st__law_good_known ["_law_book_here", "_law_thing"] := df_mk X G a29 l29 c29 k29 (fun _ _ _ _ _ _ us hl => match us, hl with | [_, _], _ => rfl)
  have D__law_good_order : Df K mg "_law_good_order" st__law_good_order ["_law_book_here", "_law_thing"] := df_mk X G a30 l30 c30 k30 (fun _ _ _ _ _ _ us hl => match us, hl with | [_, _], _ => rfl)
  have D__law_bent : Df K mg "_law_bent" st__law_bent ["_law_some", "_law_xs", "_law_odd"] := df_mk X G a31 l31 c31 k31 (fun _ _ _ _ _ _ us hl => match us, hl with | [_, _, _], _ => rfl)
  have D_law : Df K mg "law" st_law ["_law_script"] := df_mk X G a32 l32 c32 k32 (fun _ _ _ _ _ _ us hl => match us, hl with | [_], _ => rfl)
  have gc_HalvesError := PySem.W.mg_of X G q_HalvesError
  have gc_NoName := PySem.W.mg_of X G q_NoName
  have gc_NoRow := PySem.W.mg_of X G q_NoRow
  have gc_NoRoom := PySem.W.mg_of X G q_NoRoom
  have gc_NoText := PySem.W.mg_of X G q_NoText
  have gc_NoNumber := PySem.W.mg_of X G q_NoNumber
  have gc_NoParting := PySem.W.mg_of X G q_NoParting
  have gc_NoTree := PySem.W.mg_of X G q_NoTree
  have gc_NoKnot := PySem.W.mg_of X G q_NoKnot
  have gc_NoPlace := PySem.W.mg_of X G q_NoPlace
  have gc_NoRule := PySem.W.mg_of X G q_NoRule
  have gc_NoFit := PySem.W.mg_of X G q_NoFit
  have gc_NoHalf := PySem.W.mg_of X G q_NoHalf
  have gc_NoOrder := PySem.W.mg_of X G q_NoOrder
  have gc_NoUndo := PySem.W.mg_of X G q_NoUndo
  have gc_NoLikeness := PySem.W.mg_of X G q_NoLikeness
  have gc_NoCall := PySem.W.mg_of X G q_NoCall
  have xc_NoHalf : ExcC K c_NoHalf := ⟨x1_NoHalf, x2_NoHalf, o3_NoHalf, x4_NoHalf, x5_NoHalf, x6, x7, x8_NoHalf⟩
  have xc_NoOrder : ExcC K c_NoOrder := ⟨x1_NoOrder, x2_NoOrder, o3_NoOrder, x4_NoOrder, x5_NoOrder, x6, x7, x8_NoOrder⟩
  have xc_NoRoom : ExcC K c_NoRoom := ⟨x1_NoRoom, x2_NoRoom, o3_NoRoom, x4_NoRoom, x5_NoRoom, x6, x7, x8_NoRoom⟩
  have E_NoHalf : ErrC K mg "NoHalf" c_NoHalf fI := ⟨⟨o1_NoHalf, o2_NoHalf, o3_NoHalf, o4_NoHalf, o5_NoHalf⟩, o6_NoHalf, gc_NoHalf, xc_NoHalf⟩
  have E_NoOrder : ErrC K mg "NoOrder" c_NoOrder fI := ⟨⟨o1_NoOrder, o2_NoOrder, o3_NoOrder, o4_NoOrder, o5_NoOrder⟩, o6_NoOrder, gc_NoOrder, xc_NoOrder⟩
  have E_NoRoom : ErrC K mg "NoRoom" c_NoRoom fI := ⟨⟨o1_NoRoom, o2_NoRoom, o3_NoRoom, o4_NoRoom, o5_NoRoom⟩, o6_NoRoom, gc_NoRoom, xc_NoRoom⟩
  have FI : FunD K "__init__" "HalvesError.__init__" (defArgs st_hinit) (defBody st_hinit) (defScope st_hinit) [.str "refused"] [] fI _ := ⟨⟨_, _, _, _, _, _, _, _, _, _, rfl, i1, i2, .inr ⟨by decide, TI, _, _, _, rfl, i3, rfl, .cons ⟨_, rfl⟩ .nil⟩, .inl rfl⟩, i4⟩
  have e := hfa.symm.trans (PySem.W.mg_of X G a32)
  cases e
  refine ⟨PySem.W.fnOf "law" "law" (defArgs st_law) (defBody st_law) (defScope st_law) .none kV32 dc32 pm32 an32 cd32 ct32, [(cd0, pp0), (cd4, pp4), (cd7, pp7), (cd9, pp9), (cd11, pp11), (cd16, pp16)], spT [pp0, pp4, pp7, pp9, pp11] (sp_law K [pp0, pp4, pp7, pp9, pp11] pp16), ?_, ?_, ?_, fun s v => .of_eq rfl, fun H a ns hl _ hH hS => ?_, fun base _ _ hB => ?_⟩
  · intro p hp
    simp only [List.mem_cons, List.not_mem_nil, or_false] at hp
    rcases hp with rfl | rfl | rfl | rfl | rfl | rfl
    · exact T0.2
    · exact T4.2
    · exact T7.2
    · exact T9.2
    · exact T11.2
    · exact T16.2
  · intro p hp
    simp only [List.mem_cons, List.not_mem_nil, or_false] at hp
    rcases hp with rfl | rfl | rfl | rfl | rfl | rfl
    · exact tN0
    · exact tN4
    · exact tN7
    · exact tN9
    · exact tN11
    · exact tN16
  · intro p hp
    simp only [List.mem_cons, List.not_mem_nil, or_false] at hp
    rcases hp with rfl | rfl | rfl | rfl | rfl | rfl
    · exact T0.1
    · exact T4.1
    · exact T7.1
    · exact T9.1
    · exact T11.1
    · exact T16.1
  · have hT : ∀ b ∈ ([pp0, pp4, pp7, pp9, pp11] : List Addr), H b = some (.tbl #[]) := fun b hb => by
      simp only [List.mem_cons, List.not_mem_nil, or_false] at hb
      rcases hb with e | e | e | e | e
      · rw [e]; exact hH (cd0, pp0) (by simp)
      · rw [e]; exact hH (cd4, pp4) (by simp)
      · rw [e]; exact hH (cd7, pp7) (by simp)
      · rw [e]; exact hH (cd9, pp9) (by simp)
      · rw [e]; exact hH (cd11, pp11) (by simp)
    exact ⟨hT, a, ns, rfl, xtab_sq hT hS, hl, fun P hP => xtab_in hP, fun p hp => by rw [List.mem_singleton.mp hp]; exact LamX.TabS.nil (by rw [xtab_out nL]; exact hH (cd16, pp16) (by simp)), fun H2 e2 => ⟨fun P hP => e2 _ _ (xtab_in hP) (fun _ z => nomatch z), fun _ _ => rfl⟩⟩
  · refine tab_law ?_
    have B0 : GxR.TabB base mg cd0 pp0 := let z := hB (cd0, pp0) (by simp); ⟨z.code, z.bm, z.gP⟩
    have B4 : GxR.TabB base mg cd4 pp4 := let z := hB (cd4, pp4) (by simp); ⟨z.code, z.bm, z.gP⟩
    have B7 : GxR.TabB base mg cd7 pp7 := let z := hB (cd7, pp7) (by simp); ⟨z.code, z.bm, z.gP⟩
    have B9 : GxR.TabB base mg cd9 pp9 := let z := hB (cd9, pp9) (by simp); ⟨z.code, z.bm, z.gP⟩
    have B11 : GxR.TabB base mg cd11 pp11 := let z := hB (cd11, pp11) (by simp); ⟨z.code, z.bm, z.gP⟩
    have B16 : GxR.TabB base mg cd16 pp16 := let z := hB (cd16, pp16) (by simp); ⟨z.code, z.bm, z.gP⟩
    have hI := hin_ok (P := l.prog) (w := w) (mg := mg) (base := base) FI i5 m_ValueError i6
    have A__law_numbers := ok__law_numbers (P := l.prog) (w := w) (base := base) (ts := [pp0, pp4, pp7, pp9, pp11]) D__law_numbers m_abs m_range m_int
    have A__law_cell := ok__law_cell (P := l.prog) (w := w) (base := base) (ts := [pp0, pp4, pp7, pp9, pp11]) D__law_cell m_len
    have A__law_names := ok__law_names (P := l.prog) (w := w) (base := base) (ts := [pp0, pp4, pp7, pp9, pp11]) D__law_names m_range
    have A__law_turned_at := ok__law_turned_at (P := l.prog) (w := w) (base := base) (ts := [pp0, pp4, pp7, pp9, pp11]) D__law_turned_at m_int
    have A__law_tree_halves := ok__law_tree_halves (P := l.prog) (w := w) (base := base) (ts := [pp0, pp4, pp7, pp9, pp11]) D__law_tree_halves m_list m_range m_len A__law_turned_at
    have A__law_joined_row := ok__law_joined_row (P := l.prog) (w := w) (base := base) (ts := [pp0, pp4, pp7, pp9, pp11]) D__law_joined_row m_range m_len
    have A__law_any_row := ok__law_any_row (P := l.prog) (w := w) (base := base) (ts := [pp0, pp4, pp7, pp9, pp11]) D__law_any_row m_range
    have A__law_book := ok__law_book (P := l.prog) (w := w) (base := base) (ts := [pp0, pp4, pp7, pp9, pp11]) D__law_book m_range m_len m_tuple A__law_numbers A__law_cell A__law_names A__law_tree_halves A__law_joined_row A__law_any_row
    have A__law_bent := ok__law_bent (P := l.prog) (w := w) (base := base) (ts := [pp0, pp4, pp7, pp9, pp11]) D__law_bent m_len m_list
    have A__law_good_order := ok__law_good_order (P := l.prog) (w := w) (base := base) (ts := [pp0, pp4, pp7, pp9, pp11]) D__law_good_order m_all m_isinstance m_str m_tuple m_sorted
    have A__law_written := ok__law_written (P := l.prog) (w := w) (base := base) (ts := [pp0, pp4, pp7, pp9, pp11]) D__law_written m_all m_len m_isinstance m_str
    have A__law_good_known := ok__law_good_known (P := l.prog) (w := w) (base := base) (ts := [pp0, pp4, pp7, pp9, pp11]) D__law_good_known m_all m_isinstance m_tuple m_len m_list m_sorted m_set A__law_written
    have A_is_written_in := ok_is_written_in (P := l.prog) (w := w) (base := base) (ts := [pp0, pp4, pp7, pp9, pp11]) D_is_written_in B0 (by simp) m_len m_isinstance m_str m_all c_MOST_SIGNS
    have A_is_half := ok_is_half (P := l.prog) (w := w) (base := base) (ts := [pp0, pp4, pp7, pp9, pp11]) D_is_half c_HALF_SIGNS A_is_written_in
    have A_rises := ok_rises (P := l.prog) (w := w) (base := base) (ts := [pp0, pp4, pp7, pp9, pp11]) D_rises B4 (by simp) m_zip m_all
    have A_are_known := ok_are_known (P := l.prog) (w := w) (base := base) (ts := [pp0, pp4, pp7, pp9, pp11]) D_are_known B9 (by simp) m_len m_all m_isinstance m_tuple A_is_half A_rises
    have A_is_name := ok_is_name (P := l.prog) (w := w) (base := base) (ts := [pp0, pp4, pp7, pp9, pp11]) D_is_name c_SMALL_LETTERS A_is_written_in
    have A_names_in := ok_names_in (P := l.prog) (w := w) (base := base) (ts := [pp0, pp4, pp7, pp9, pp11]) D_names_in m_sorted
    have A_is_order := ok_is_order (P := l.prog) (w := w) (base := base) (ts := [pp0, pp4, pp7, pp9, pp11]) D_is_order B11 (by simp) m_all m_isinstance m_tuple m_sorted A_is_name A_names_in
    have A_is_row := ok_is_row (P := l.prog) (w := w) (base := base) (ts := [pp0, pp4, pp7, pp9, pp11]) D_is_row c_ROW_SIGNS A_is_written_in
    have A_lets := ok_lets (P := l.prog) (w := w) (base := base) (ts := [pp0, pp4, pp7, pp9, pp11]) D_lets
    have A_fits_row := ok_fits_row (P := l.prog) (w := w) (base := base) (ts := [pp0, pp4, pp7, pp9, pp11]) D_fits_row B7 (by simp) m_len m_zip m_all A_is_half A_is_row A_lets
    have A_turned_at_both := ok_turned_at_both (P := l.prog) (w := w) (base := base) (ts := [pp0, pp4, pp7, pp9, pp11]) D_turned_at_both m_zip
    have A_other_half := ok_other_half (P := l.prog) (w := w) (base := base) (ts := [pp0, pp4, pp7, pp9, pp11]) D_other_half A_fits_row A_turned_at_both
    have A_next_step := ok_next_step (P := l.prog) (w := w) (base := base) (ts := [pp0, pp4, pp7, pp9, pp11]) D_next_step A_other_half
    have A_steps_by := ok_steps_by (P := l.prog) (w := w) (base := base) (ts := [pp0, pp4, pp7, pp9, pp11]) D_steps_by m_dict m_list m_sorted m_set A_next_step
    have A_settled := ok_settled (P := l.prog) (w := w) (base := base) (ts := [pp0, pp4, pp7, pp9, pp11]) D_settled hI E_NoHalf E_NoOrder A_are_known A_is_order A_steps_by
    have A__law_sort := ok__law_sort (P := l.prog) (w := w) (base := base) (ts := [pp0, pp4, pp7, pp9, pp11]) D__law_sort m_isinstance m_ValueError gc_NoRule gc_NoRow gc_NoPlace gc_NoParting gc_NoNumber gc_NoName gc_NoLikeness gc_NoKnot gc_NoFit gc_NoCall gc_NoUndo gc_NoTree gc_NoText gc_NoRoom gc_NoOrder gc_NoHalf
    have A__law_told := ok__law_told (P := l.prog) (w := w) (base := base) (ts := [pp0, pp4, pp7, pp9, pp11]) D__law_told gc_HalvesError xc_NoHalf xm_NoHalf k10_NoHalf k3_NoHalf kv_NoHalf k_NoHalf_NoHalf k_NoHalf_NoOrder k_NoHalf_NoRoom xc_NoOrder xm_NoOrder k10_NoOrder k3_NoOrder kv_NoOrder k_NoOrder_NoHalf k_NoOrder_NoOrder k_NoOrder_NoRoom A_settled A__law_sort
    have A_orders_of := ok_orders_of (P := l.prog) (w := w) (base := base) (ts := [pp0, pp4, pp7, pp9, pp11]) D_orders_of m_enumerate
    have A_best_order := ok_best_order (P := l.prog) (w := w) (base := base) (ts := [pp0, pp4, pp7, pp9, pp11]) D_best_order B16 m_len m_max c_MOST_ORDERED hI E_NoHalf E_NoRoom A_are_known A_orders_of A_names_in A_steps_by
    have A__law_best_told := ok__law_best_told (P := l.prog) (w := w) (base := base) (ts := [pp0, pp4, pp7, pp9, pp11]) D__law_best_told gc_HalvesError xc_NoHalf xm_NoHalf k10_NoHalf k3_NoHalf kv_NoHalf k_NoHalf_NoHalf k_NoHalf_NoOrder k_NoHalf_NoRoom xc_NoRoom xm_NoRoom k10_NoRoom k3_NoRoom kv_NoRoom k_NoRoom_NoHalf k_NoRoom_NoOrder k_NoRoom_NoRoom A_best_order A__law_sort
    have A_law := ok_law (P := l.prog) (w := w) (base := base) (ts := [pp0, pp4, pp7, pp9, pp11]) D_law m_tuple m_sorted m_set m_int m_len A__law_book A__law_cell A__law_numbers A__law_bent A__law_good_order A__law_good_known A__law_told A__law_best_told
    obtain ⟨f9, fd9, F9, b9, g9, G9⟩ := A_law
    have e9 := g9.symm.trans hfa
    cases e9
    exact at_fd G9 F9 (fun_mk (st := st_law) l32 c32 k32)
end Hid
open PySem PySem.W PyProof.Rows
set_option maxHeartbeats 0 in
theorem PySem.Challenge.cw_hidhalves_k34_refused_known_and_orders_holds : PySem.Challenge.rw_hidhalves_k34_refused_known_and_orders.Holds := by
  w_on; o_law; k_head; (case hw => w_witness2)
  k_fill
  refine Hid.walk_ofG (l := PySem.Challenge.rw_hidhalves_k34_refused_known_and_orders) (n := 63) (k := 13) (x := "_law_script") (CX := fun _ => L2.CX0) rfl (by decide) rfl ⟨rfl, by decide, by decide⟩ (fun w h Y => PySem.W.km_in_of Y) ?F (fun _ _ _ _ _ h => h)
  case F =>
    intro w mg fa h KX G hmg hTab
    refine' Hid.all_mk KX G hmg hTab ?a0 ?l0 ?c0 ?k0 ?tE0 ?tG0 ?tN0 ?tR0 ?a1 ?l1 ?c1 ?k1 ?a2 ?l2 ?c2 ?k2 ?a3 ?l3 ?c3 ?k3 ?a4 ?l4 ?c4 ?k4 ?tE4 ?tG4 ?tN4 ?tR4 ?a5 ?l5 ?c5 ?k5 ?a6 ?l6 ?c6 ?k6 ?a7 ?l7 ?c7 ?k7 ?tE7 ?tG7 ?tN7 ?tR7 ?a8 ?l8 ?c8 ?k8 ?a9 ?l9 ?c9 ?k9 ?tE9 ?tG9 ?tN9 ?tR9 ?a10 ?l10 ?c10 ?k10 ?a11 ?l11 ?c11 ?k11 ?tE11 ?tG11 ?tN11 ?tR11 ?a12 ?l12 ?c12 ?k12 ?a13 ?l13 ?c13 ?k13 ?a14 ?l14 ?c14 ?k14 ?a15 ?l15 ?c15 ?k15 ?a16 ?l16 ?c16 ?k16 ?tE16 ?tG16 ?tN16 ?tR16 ?a17 ?l17 ?c17 ?k17 ?a18 ?l18 ?c18 ?k18 ?a19 ?l19 ?c19 ?k19 ?a20 ?l20 ?c20 ?k20 ?a21 ?l21 ?c21 ?k21 ?a22 ?l22 ?c22 ?k22 ?a23 ?l23 ?c23 ?k23 ?a24 ?l24 ?c24 ?k24 ?a25 ?l25 ?c25 ?k25 ?a26 ?l26 ?c26 ?k26 ?a27 ?l27 ?c27 ?k27 ?a28 ?l28 ?c28 ?k28 ?a29 ?l29 ?c29 ?k29 ?a30 ?l30 ?c30 ?k30 ?a31 ?l31 ?c31 ?k31 ?a32 ?l32 ?c32 ?k32 ?z_len ?z_isinstance ?z_str ?z_all ?z_zip ?z_tuple ?z_sorted ?z_dict ?z_list ?z_set ?z_enumerate ?z_max ?z_abs ?z_range ?z_int ?z_ValueError ?y_MOST_SIGNS ?y_SMALL_LETTERS ?y_HALF_SIGNS ?y_ROW_SIGNS ?y_MOST_ORDERED ?nL ?q_HalvesError ?q_NoName ?q_NoRow ?q_NoRoom ?q_NoText ?q_NoNumber ?q_NoParting ?q_NoTree ?q_NoKnot ?q_NoPlace ?q_NoRule ?q_NoFit ?q_NoHalf ?q_NoOrder ?q_NoUndo ?q_NoLikeness ?q_NoCall ?o1_NoHalf ?o2_NoHalf ?o3_NoHalf ?o4_NoHalf ?o5_NoHalf ?o6_NoHalf ?x1_NoHalf ?x2_NoHalf ?x4_NoHalf ?x5_NoHalf ?x8_NoHalf ?o1_NoOrder ?o2_NoOrder ?o3_NoOrder ?o4_NoOrder ?o5_NoOrder ?o6_NoOrder ?x1_NoOrder ?x2_NoOrder ?x4_NoOrder ?x5_NoOrder ?x8_NoOrder ?o1_NoRoom ?o2_NoRoom ?o3_NoRoom ?o4_NoRoom ?o5_NoRoom ?o6_NoRoom ?x1_NoRoom ?x2_NoRoom ?x4_NoRoom ?x5_NoRoom ?x8_NoRoom ?x6 ?x7 ?i0 ?i1 ?i2 ?i3 ?i4 ?i5 ?i6 ?xm_NoHalf ?k10_NoHalf ?k3_NoHalf ?kv_NoHalf ?k_NoHalf_NoHalf ?k_NoHalf_NoOrder ?k_NoHalf_NoRoom ?xm_NoOrder ?k10_NoOrder ?k3_NoOrder ?kv_NoOrder ?k_NoOrder_NoHalf ?k_NoOrder_NoOrder ?k_NoOrder_NoRoom ?xm_NoRoom ?k10_NoRoom ?k3_NoRoom ?kv_NoRoom ?k_NoRoom_NoHalf ?k_NoRoom_NoOrder ?k_NoRoom_NoRoom
    (case a0 => k_is)
    (case l0 => k_is)
    (case c0 => k_is)
    (case k0 => k_is)
    (case tE0 => k_is)
    (case tG0 => rfl)
    (case tN0 => first | rfl | with_unfolding_all rfl)
    (case tR0 => first | rfl | decide +kernel)
    (case a1 => k_is)
    (case l1 => k_is)
    (case c1 => k_is)
    (case k1 => k_is)
    (case a2 => k_is)
    (case l2 => k_is)
    (case c2 => k_is)
    (case k2 => k_is)
    (case a3 => k_is)
    (case l3 => k_is)
    (case c3 => k_is)
    (case k3 => k_is)
    (case a4 => k_is)
    (case l4 => k_is)
    (case c4 => k_is)
    (case k4 => k_is)
    (case tE4 => k_is)
    (case tG4 => rfl)
    (case tN4 => first | rfl | with_unfolding_all rfl)
    (case tR4 => first | rfl | decide +kernel)
    (case a5 => k_is)
    (case l5 => k_is)
    (case c5 => k_is)
    (case k5 => k_is)
    (case a6 => k_is)
    (case l6 => k_is)
    (case c6 => k_is)
    (case k6 => k_is)
    (case a7 => k_is)
    (case l7 => k_is)
    (case c7 => k_is)
    (case k7 => k_is)
    (case tE7 => k_is)
    (case tG7 => rfl)
    (case tN7 => first | rfl | with_unfolding_all rfl)
    (case tR7 => first | rfl | decide +kernel)
    (case a8 => k_is)
    (case l8 => k_is)
    (case c8 => k_is)
    (case k8 => k_is)
    (case a9 => k_is)
    (case l9 => k_is)
    (case c9 => k_is)
    (case k9 => k_is)
    (case tE9 => k_is)
    (case tG9 => rfl)
    (case tN9 => first | rfl | with_unfolding_all rfl)
    (case tR9 => first | rfl | decide +kernel)
    (case a10 => k_is)
    (case l10 => k_is)
    (case c10 => k_is)
    (case k10 => k_is)
    (case a11 => k_is)
    (case l11 => k_is)
    (case c11 => k_is)
    (case k11 => k_is)
    (case tE11 => k_is)
    (case tG11 => rfl)
    (case tN11 => first | rfl | with_unfolding_all rfl)
    (case tR11 => first | rfl | decide +kernel)
    (case a12 => k_is)
    (case l12 => k_is)
    (case c12 => k_is)
    (case k12 => k_is)
    (case a13 => k_is)
    (case l13 => k_is)
    (case c13 => k_is)
    (case k13 => k_is)
    (case a14 => k_is)
    (case l14 => k_is)
    (case c14 => k_is)
    (case k14 => k_is)
    (case a15 => k_is)
    (case l15 => k_is)
    (case c15 => k_is)
    (case k15 => k_is)
    (case a16 => k_is)
    (case l16 => k_is)
    (case c16 => k_is)
    (case k16 => k_is)
    (case tE16 => k_is)
    (case tG16 => rfl)
    (case tN16 => first | rfl | with_unfolding_all rfl)
    (case tR16 => first | rfl | decide +kernel)
    (case a17 => k_is)
    (case l17 => k_is)
    (case c17 => k_is)
    (case k17 => k_is)
    (case a18 => k_is)
    (case l18 => k_is)
    (case c18 => k_is)
    (case k18 => k_is)
    (case a19 => k_is)
    (case l19 => k_is)
    (case c19 => k_is)
    (case k19 => k_is)
    (case a20 => k_is)
    (case l20 => k_is)
    (case c20 => k_is)
    (case k20 => k_is)
    (case a21 => k_is)
    (case l21 => k_is)
    (case c21 => k_is)
    (case k21 => k_is)
    (case a22 => k_is)
    (case l22 => k_is)
    (case c22 => k_is)
    (case k22 => k_is)
    (case a23 => k_is)
    (case l23 => k_is)
    (case c23 => k_is)
    (case k23 => k_is)
    (case a24 => k_is)
    (case l24 => k_is)
    (case c24 => k_is)
    (case k24 => k_is)
    (case a25 => k_is)
    (case l25 => k_is)
    (case c25 => k_is)
    (case k25 => k_is)
    (case a26 => k_is)
    (case l26 => k_is)
    (case c26 => k_is)
    (case k26 => k_is)
    (case a27 => k_is)
    (case l27 => k_is)
    (case c27 => k_is)
    (case k27 => k_is)
    (case a28 => k_is)
    (case l28 => k_is)
    (case c28 => k_is)
    (case k28 => k_is)
    (case a29 => k_is)
    (case l29 => k_is)
    (case c29 => k_is)
    (case k29 => k_is)
    (case a30 => k_is)
    (case l30 => k_is)
    (case c30 => k_is)
    (case k30 => k_is)
    (case a31 => k_is)
    (case l31 => k_is)
    (case c31 => k_is)
    (case k31 => k_is)
    (case a32 => k_is)
    (case l32 => k_is)
    (case c32 => k_is)
    (case k32 => k_is)
    (case z_len => k_is)
    (case z_isinstance => k_is)
    (case z_str => k_is)
    (case z_all => k_is)
    (case z_zip => k_is)
    (case z_tuple => k_is)
    (case z_sorted => k_is)
    (case z_dict => k_is)
    (case z_list => k_is)
    (case z_set => k_is)
    (case z_enumerate => k_is)
    (case z_max => k_is)
    (case z_abs => k_is)
    (case z_range => k_is)
    (case z_int => k_is)
    (case z_ValueError => k_is)
    (case y_MOST_SIGNS => k_is)
    (case y_SMALL_LETTERS => k_is)
    (case y_HALF_SIGNS => k_is)
    (case y_ROW_SIGNS => k_is)
    (case y_MOST_ORDERED => k_is)
    (case nL => decide)
    (case q_HalvesError => first | k_is | rfl | decide +kernel)
    (case q_NoName => first | k_is | rfl | decide +kernel)
    (case q_NoRow => first | k_is | rfl | decide +kernel)
    (case q_NoRoom => first | k_is | rfl | decide +kernel)
    (case q_NoText => first | k_is | rfl | decide +kernel)
    (case q_NoNumber => first | k_is | rfl | decide +kernel)
    (case q_NoParting => first | k_is | rfl | decide +kernel)
    (case q_NoTree => first | k_is | rfl | decide +kernel)
    (case q_NoKnot => first | k_is | rfl | decide +kernel)
    (case q_NoPlace => first | k_is | rfl | decide +kernel)
    (case q_NoRule => first | k_is | rfl | decide +kernel)
    (case q_NoFit => first | k_is | rfl | decide +kernel)
    (case q_NoHalf => first | k_is | rfl | decide +kernel)
    (case q_NoOrder => first | k_is | rfl | decide +kernel)
    (case q_NoUndo => first | k_is | rfl | decide +kernel)
    (case q_NoLikeness => first | k_is | rfl | decide +kernel)
    (case q_NoCall => first | k_is | rfl | decide +kernel)
    (case o1_NoHalf => exact ⟨_, _, _, _, _, _, _, _, _, _, _, _, _, _, _, (by k_is), rfl⟩)
    (case o2_NoHalf => first | k_is | rfl | decide +kernel)
    (case o3_NoHalf => first | k_is | rfl | decide +kernel)
    (case o4_NoHalf => first | k_is | rfl | decide +kernel)
    (case o5_NoHalf => first | k_is | rfl | decide +kernel)
    (case o6_NoHalf => first | k_is | rfl | decide +kernel)
    (case x1_NoHalf => first | k_is | rfl | decide +kernel)
    (case x2_NoHalf => first | k_is | rfl | decide +kernel)
    (case x4_NoHalf => first | k_is | rfl | decide +kernel)
    (case x5_NoHalf => first | k_is | rfl | decide +kernel)
    (case x8_NoHalf => first | k_is | rfl | decide +kernel)
    (case o1_NoOrder => exact ⟨_, _, _, _, _, _, _, _, _, _, _, _, _, _, _, (by k_is), rfl⟩)
    (case o2_NoOrder => first | k_is | rfl | decide +kernel)
    (case o3_NoOrder => first | k_is | rfl | decide +kernel)
    (case o4_NoOrder => first | k_is | rfl | decide +kernel)
    (case o5_NoOrder => first | k_is | rfl | decide +kernel)
    (case o6_NoOrder => first | k_is | rfl | decide +kernel)
    (case x1_NoOrder => first | k_is | rfl | decide +kernel)
    (case x2_NoOrder => first | k_is | rfl | decide +kernel)
    (case x4_NoOrder => first | k_is | rfl | decide +kernel)
    (case x5_NoOrder => first | k_is | rfl | decide +kernel)
    (case x8_NoOrder => first | k_is | rfl | decide +kernel)
    (case o1_NoRoom => exact ⟨_, _, _, _, _, _, _, _, _, _, _, _, _, _, _, (by k_is), rfl⟩)
    (case o2_NoRoom => first | k_is | rfl | decide +kernel)
    (case o3_NoRoom => first | k_is | rfl | decide +kernel)
    (case o4_NoRoom => first | k_is | rfl | decide +kernel)
    (case o5_NoRoom => first | k_is | rfl | decide +kernel)
    (case o6_NoRoom => first | k_is | rfl | decide +kernel)
    (case x1_NoRoom => first | k_is | rfl | decide +kernel)
    (case x2_NoRoom => first | k_is | rfl | decide +kernel)
    (case x4_NoRoom => first | k_is | rfl | decide +kernel)
    (case x5_NoRoom => first | k_is | rfl | decide +kernel)
    (case x8_NoRoom => first | k_is | rfl | decide +kernel)
    (case x6 => first | k_is | rfl | decide +kernel)
    (case x7 => first | k_is | rfl | decide +kernel)
    (case i0 => first | k_is | rfl | decide +kernel)
    (case i1 => first | k_is | rfl | decide +kernel)
    (case i2 => first | k_is | rfl | decide +kernel)
    (case i3 => first | k_is | rfl | decide +kernel)
    (case i4 => first | k_is | rfl | decide +kernel)
    (case i5 => first | k_is | rfl | decide +kernel)
    (case i6 => first | k_is | rfl | decide +kernel)
    (case xm_NoHalf => first | k_is | rfl | decide +kernel)
    (case k10_NoHalf => first | k_is | rfl | decide +kernel)
    (case k3_NoHalf => first | k_is | rfl | decide +kernel)
    (case kv_NoHalf => first | k_is | rfl | decide +kernel)
    (case k_NoHalf_NoHalf => first | k_is | rfl | decide +kernel)
    (case k_NoHalf_NoOrder => first | k_is | rfl | decide +kernel)
    (case k_NoHalf_NoRoom => first | k_is | rfl | decide +kernel)
    (case xm_NoOrder => first | k_is | rfl | decide +kernel)
    (case k10_NoOrder => first | k_is | rfl | decide +kernel)
    (case k3_NoOrder => first | k_is | rfl | decide +kernel)
    (case kv_NoOrder => first | k_is | rfl | decide +kernel)
    (case k_NoOrder_NoHalf => first | k_is | rfl | decide +kernel)
    (case k_NoOrder_NoOrder => first | k_is | rfl | decide +kernel)
    (case k_NoOrder_NoRoom => first | k_is | rfl | decide +kernel)
    (case xm_NoRoom => first | k_is | rfl | decide +kernel)
    (case k10_NoRoom => first | k_is | rfl | decide +kernel)
    (case k3_NoRoom => first | k_is | rfl | decide +kernel)
    (case kv_NoRoom => first | k_is | rfl | decide +kernel)
    (case k_NoRoom_NoHalf => first | k_is | rfl | decide +kernel)
    (case k_NoRoom_NoOrder => first | k_is | rfl | decide +kernel)
    (case k_NoRoom_NoRoom => first | k_is | rfl | decide +kernel)
