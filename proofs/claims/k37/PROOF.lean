import PyProof.Rows.All
import Wide.All
import OpenK.AllK
import Wide.FinOn
import HandS.Base
import HandS.Call
import HandS.List
import HandS.Comp
import HandS.Ends
import HandS.Dict
import HandS.Iter
import HandS.Text
import HandS.Words
import KE.GoesNew
import HandS.Rev
import PyProof.JoinWalk
import KE.SortData
import HandS.Evl
import HandS.Walk
import HandS.IsInst
import HandS.ForMost
import HandS.Set
import HandS.Strs
import HandS.TupAny
import HandS.TupMul
import HandS.Style
import HandS.SetKeys
import HandS.WordsDict
import HandS.WideBits
import HandS.AnyAll
import HandS.GenOver
import HandS.GenList
import HandS.EndTab
import HandS.Conv
import PyProof.CollectStr
import PySem.Challenge.RW_hidhalves_k37_what_families_are
set_option Elab.async false
set_option linter.all false
set_option maxRecDepth 100000
set_option maxHeartbeats 4000000
namespace Hid
open PySem PySem.Spec PyProof.Rows L2
/-- two texts side by side: the signs in new pairs -/
def ZsIt (x y : Str) : It :=
  ⟨fun i _ => i < min x.cps.size y.cps.size,
    fun i G v G' => ∃ T c d, v = .ref T ∧ G T = none ∧ G' = upd G T (.tup [.str ⟨#[c]⟩, .str ⟨#[d]⟩]) ∧ x.cps[i]? = some c ∧ y.cps[i]? = some d,
    fun i _ => min x.cps.size y.cps.size ≤ i⟩
/-- where the walk of two texts stands -/
def ZsAt (z TI TO i1 i2 : Addr) (x y : Str) (t u : Tok) (i : Nat) (h : Heap) : Prop :=
  i ≤ min x.cps.size y.cps.size ∧ IsZip h z TI TO .none ∧ IsTupOf2 h TI (.ref i1) (.ref i2) ∧ (∃ a1 a2, IsTupOf2 h TO a1 a2) ∧ h.IsStrIter i1 (strIterType x) x t i ∧ h.IsStrIter i2 (strIterType y) y u i
theorem zs_turn {P : Program} {w : World} {K : PySem.W.Frag} {es : List Expr} {kk : Nat} {tp : Pos} {z TI TO i1 i2 : Addr} {x y : Str} {t u : Tok} (S : ZipSep2 z TI TO i1 i2 [i1] [i2]) :
    Turn P w K (.Tuple es kk tp) (ZsIt x y) (z :: TI :: TO :: ([i1] ++ [i2])) z (ZsAt z TI TO i1 i2 x y t u) where
  mem := List.mem_cons_self
  obj := fun i h st b hb => by
    obtain ⟨_, hz, hTI, ⟨p, q, hTO⟩, ⟨o1, e1, _, d1⟩, ⟨o2, e2, _, d2⟩⟩ := st
    have e' : b = z ∨ b = TI ∨ b = TO ∨ b = i1 ∨ b = i2 := by simpa using hb
    rcases e' with r | r | r | r | r <;> rw [r]
    · exact ⟨_, hz, fun v n => nomatch n⟩
    · exact ⟨_, hTI, fun v n => nomatch n⟩
    · exact ⟨_, hTO, fun v n => nomatch n⟩
    · exact ⟨o1, e1, fun v n => by rw [d1] at n; cases n⟩
    · exact ⟨o2, e2, fun v n => by rw [d2] at n; cases n⟩
  keep := fun i h h' st k => by
    obtain ⟨hi, hz, hTI, ⟨p, q, hTO⟩, ⟨o1, e1, r1⟩, ⟨o2, e2, r2⟩⟩ := st
    exact ⟨hi, k z (by simp) _ hz, k TI (by simp) _ hTI, ⟨p, q, k TO (by simp) _ hTO⟩, ⟨o1, k i1 (by simp) _ e1, r1⟩, ⟨o2, k i2 (by simp) _ e2, r2⟩⟩
  item := by
    intro X hP hw hK hc i pins s σ H E I hf st hg
    subst hP hw hK
    have hh := I.ok.hd hc
    have G := GoesN.zip2 (prog := X.prog) (w := X.w) (A := X.A) (elts := es) (x1 := kk) (pos := tp) S (Draws.text (A := X.A.in1) hh i1 x t) (Draws.text (A := X.A.in1) hh i2 y u)
    obtain ⟨hi, st⟩ := st
    refine wpAny_mono (G.goes i s (fun v s2 => ∃ xv H', Inv X pins σ H' s2 ∧ RelV xv v ∧ (ZsIt x y).yld i H xv H' ∧ ZsAt z TI TO i1 i2 x y t u (i + 1) s2.heap ∧ ∀ b ∈ z :: TI :: TO :: ([i1] ++ [i2]), H' b = none) E hg st fun v h' tk hY st' hk htk => ?_) (fun r s1 h1 => ?_) fun _ _ e => e
    · obtain ⟨T, v1, v2, rfl, hT, ⟨c, u1, hc1, rfl⟩, ⟨d, u2, hd1, rfl⟩, o, ho, ho1, n, ho2⟩ := hY
      have new : ObjOk X.prog X.w (upd H T (.tup [.str ⟨#[c]⟩, .str ⟨#[d]⟩])) h' T (.tup [.str ⟨#[c]⟩, .str ⟨#[d]⟩]) :=
        ⟨by show 2 ≤ sizeLine; decide, [_, _], .cons ⟨u1, rfl⟩ (.cons ⟨u2, rfl⟩ .nil), ⟨o, ho, ho1, n, ho2⟩⟩
      have J : Inv X pins σ (upd H T (.tup [.str ⟨#[c]⟩, .str ⟨#[d]⟩])) { s with heap := h', toks := tk } :=
        I.turnedNew (t' := tk) (ch := [z, TO, i1, i2]) hk (fun b hb => hf b (by simp at hb ⊢; rcases hb with q | q | q | q <;> simp [q])) hT new
      refine ⟨.ref T, _, J, rfl, ⟨T, c, d, rfl, I.hok.fresh hT, rfl, hc1, hd1⟩, ⟨hg, st'⟩, fun b hb => ?_⟩
      have hb1 : b < s.heap.objs.size := by
        obtain ⟨hz, hTI, ⟨p, q, hTO⟩, ⟨o1, e1, r1⟩, ⟨o2, e2, r2⟩⟩ := st
        have e' : b = z ∨ b = TI ∨ b = TO ∨ b = i1 ∨ b = i2 := by simpa using hb
        rcases e' with r | r | r | r | r <;> rw [r]
        · exact Heap.lt_size hz
        · exact Heap.lt_size hTI
        · exact Heap.lt_size hTO
        · exact Heap.lt_size e1
        · exact Heap.lt_size e2
      rw [upd_ne (Nat.ne_of_lt (Nat.lt_of_lt_of_le hb1 hT))]
      exact (hf b hb).1
    · obtain ⟨v, rfl, q⟩ := h1
      exact ⟨v, rfl, q⟩
  done := by
    intro X hP hw hK hc i pins s σ H E I hf st hg
    subst hP hw hK
    have hh := I.ok.hd hc
    have G := GoesN.zip2 (prog := X.prog) (w := X.w) (A := X.A) (elts := es) (x1 := kk) (pos := tp) S (Draws.text (A := X.A.in1) hh i1 x t) (Draws.text (A := X.A.in1) hh i2 y u)
    obtain ⟨hi, st⟩ := st
    have ei : i = min x.cps.size y.cps.size := Nat.le_antisymm hi hg
    subst ei
    exact G.stops s (fun s1 => Inv X pins σ H s1) E st fun h' tk hk htk => I.turnedL (t' := tk) (ch := [z, TO, i1, i2]) hk (fun b hb => hf b (by simp at hb ⊢; rcases hb with q | q | q | q <;> simp [q]))
  self := fun A i s Q E st h => wpAny_pyIter_zip st.2.1 h
def iZs (ta : TA) : TI := fun σ H R => ta σ H fun vs H1 => ∃ x y, vs = [.str x, .str y] ∧ R (ZsIt x y) H1
/-- zip(x, y) of two texts -/
theorem pi_zs {X : Cx} {e e2 : Expr} {ta : TA} {p pos tp : Pos} {es : List Expr} {kk : Nat} (hg : Gl X "zip") (hm : X.mg "zip" = none) (ha : PA X [e, e2] ta)
    (hs : starEach [e, e2] X.env = (false, eval e X.env) :: starEach [e2] X.env := by rfl) (hpl : (backTo pos (starEach [e2] X.env)).any (·.1) = false := by rfl) :
    PI X (.Tuple es kk tp) (.Call (.Name "zip" p) [e, e2] [] pos) (iZs ta) := by
  refine ⟨fun pins s σ H R I h => ?_⟩
  refine Call_ (ld_blt I hg hm boot_zip (callWith_type1 (thn (ha.run pos pins s σ H _ I h) fun us s1 ⟨vs, H1, I1, r1, x, y, ex, q⟩ => ?_) hs hpl))
  subst ex
  cases r1 with
  | cons r rr =>
    cases rr with
    | cons r' rr =>
      cases rr
      obtain ⟨t, rfl⟩ := r
      obtain ⟨u, rfl⟩ := r'
      refine zip_begins2 (begins_text x t) (begins_text y u) trivial trivial fun h' hz hTI hTO g1 g2 hsz hk => wpAny_pyIter_zip hz ?_
      refine ⟨s1.heap.objs.size + 4, _, _, _, H1, rfl, I1.kept (t' := s1.toks) hk, zs_turn (zip_sep2 (fp1 := []) (fp2 := []) (fun b n => nomatch n) (fun b n => nomatch n)),
        ⟨Nat.zero_le _, hz, hTI, ⟨_, _, hTO⟩, ⟨_, g1, rfl, rfl⟩, ⟨_, g2, rfl, rfl⟩⟩, fun c hcm => ?_, q⟩
      have e' : c = s1.heap.objs.size + 4 ∨ c = s1.heap.objs.size + 2 ∨ c = s1.heap.objs.size + 3 ∨ c = s1.heap.objs.size ∨ c = s1.heap.objs.size + 1 := by simpa using hcm
      have hle : s1.heap.objs.size ≤ c := by
        rcases e' with r | r | r | r | r <;> rw [r] <;> first | exact Nat.le_refl _ | exact Nat.le_add_right _ _
      exact I1.fpOk hle (I1.hok.fresh hle)
/-- a loop over two texts side by side -/
theorem for_zs {x y : Str} {g : TG} {tb : TS} {D : Ends} {σ : L2.St} {H : Hp} {n : Nat} (hn : n = min x.cps.size y.cps.size) (Pv : Nat → L2.St → Hp → Prop) (h0 : Pv 0 σ H)
    (hs : ∀ (i c d : Nat) (T : Addr) (σ : L2.St) (H : Hp), i < n → x.cps[i]? = some c → y.cps[i]? = some d → H T = none → Pv i σ H →
      g (.ref T) σ (upd H T (.tup [.str ⟨#[c]⟩, .str ⟨#[d]⟩])) fun σ2 H2 => tb { D with nx := Pv (i + 1), ct := Pv (i + 1), bk := D.nx } σ2 H2) (hd : ∀ σ H, Pv n σ H → D.nx σ H) :
    ∃ W : Nat → Nat → L2.St → Hp → Prop, (∃ m, W 0 m σ H) ∧ ∀ i m σ H, W i m σ H →
      ((ZsIt x y).stop i H ∧ D.nx σ H) ∨ ((ZsIt x y).go i H ∧ ∃ N : L2.St → Hp → Prop, (∀ σ' H', N σ' H' → ∃ m', m' < m ∧ W (i + 1) m' σ' H') ∧ ∀ v H', (ZsIt x y).yld i H v H' → g v σ H' fun σ2 H2 => tb { D with nx := N, ct := N, bk := D.nx } σ2 H2) := by
  subst hn
  refine ⟨fun i m σ H => m = min x.cps.size y.cps.size - i ∧ i ≤ min x.cps.size y.cps.size ∧ Pv i σ H, ⟨_, rfl, Nat.zero_le _, h0⟩, ?_⟩
  rintro i m σ H ⟨rfl, hi, p⟩
  by_cases hlt : i < min x.cps.size y.cps.size
  · refine .inr ⟨hlt, Pv (i + 1), fun σ' H' p' => ⟨_, by omega, rfl, hlt, p'⟩, fun v H' r => ?_⟩
    obtain ⟨T, c, d, rfl, hT, rfl, hc, hd'⟩ := r
    exact hs i c d T σ H hlt hc hd' hT p
  · have e : i = min x.cps.size y.cps.size := by omega
    subst e
    exact .inl ⟨Nat.le_refl _, hd σ H p⟩
end Hid

namespace Hid
open PySem PySem.Spec PyProof.Rows L2
theorem str_norev : typeLookup (.type "str") "__reversed__" = pure none := by rw [typeLookup_type, builtinLookup_eq_fast]; kernel_rfl
theorem str_getit : typeLookup (.type "str") "__getitem__" = pure (some (.builtin "str.__getitem__")) := by rw [typeLookup_type, builtinLookup_eq_fast]; kernel_rfl
abbrev rsObj (x : Str) (t : Tok) (i : Int) : Obj := { cls := .type "reversed", data := .fields #[.str x t, rawInt i] }
/-- reversed(x) of a text, the next place i -/
def IsRs (h : Heap) (a : Addr) (x : Str) (t : Tok) (i : Int) : Prop := ∃ o, h.get? a = some o ∧ o.cls = .type "reversed" ∧ o.data = .fields #[.str x t, rawInt i]
section
variable {prog : Program} {w : World} {A : Around} {E : Value → Shared → Prop} {s : Shared}
theorem IsRs.kind {a : Addr} {x : Str} {t : Tok} {i : Int} (q : IsRs s.heap a x t i) : s.TypeIs (.ref a) "reversed" := let ⟨o, ho, hc, _⟩ := q; ⟨o, ho, hc⟩
theorem rs_code {x : Str} {t : Tok} {Q₁ : Value → Shared → Prop} (hx : x.length ≤ sizeLine)
    (h : Q₁ (.ref s.heap.objs.size) { s with heap := s.heap.push (rsObj x t ((x.length : Int) - 1)), toks := s.toks + 1 + 1 }) :
    codeAny (model prog w) A (.call (.builtin "reversed.__new__") ⟨[.type "reversed", .str x t], []⟩) (wants Q₁ E) s := by
  have kx := typeIs_str s x t
  refine codeAny_of_tree ?_
  show wpAny _ A.in1 (do checkBuiltinCall "reversed.__new__" ⟨[.type "reversed", .str x t], []⟩; again (.builtin "reversed.__new__" ⟨[.type "reversed", .str x t], []⟩)) _ _ s
  refine wpAny_bind (wpAny_of_eq (F.newCall_reversed_1 _) (wpAny_pure ⟨plainId_quiet F.plain_reversed_new _, codeAny_builtin F.entry_reversed_new ?_⟩))
  rw [Around.under_plainId F.plain_reversed_new _] <;> unfold Builtin.«reversed.__new__»
  refine wpAny_bind (wpAny_of_eq (newClass_reversed _) ?_) <;> try dsimp only
  refine wpAny_bind (wpAny_of_eq (a := ()) (by first | rfl | kernel_rfl) ?_) <;> try dsimp only
  refine wpAny_bind (wpAny_of_eq (a := ()) (by first | rfl | kernel_rfl) ?_) <;> try dsimp only
  refine wpAny_bind (wpAny_specialOf kx str_norev ?_) <;> try dsimp only
  refine wpAny_bind ?_ <;> wp_delta
  refine wpAny_bind (wpAny_isInstance (T := "str") (U := "dict") (b := false) kx PySem.F.sub_str_dict ?_)
  try dsimp only
  try rw [if_neg Bool.false_ne_true]
  try dsimp only
  refine wpAny_bind (wpAny_specialOf kx str_getit ?_)
  try dsimp only
  try rw [if_pos (by decide +kernel)]
  refine wpAny_pure ?_
  try dsimp only
  try rw [if_neg (by decide)]
  try dsimp only
  have hn := line63
  refine wpAny_bind (PySem.P.len_str (by omega) ?_)
  refine wpAny_bind (wpAny_of_eq (a := some ((x.length : Nat) : Int)) rfl ?_) <;> try dsimp only
  refine wpAny_bind ?_
  show wpAny _ _ (newObj (.type "reversed") (.fields #[.str x t, rawInt ((x.length : Int) - 1)])) _ _ _
  refine wpAny_newObj_type ?_
  exact wpAny_pure h
theorem rs_call {x : Str} {t : Tok} {Q : Value → Shared → Prop} (hx : x.length ≤ sizeLine)
    (h : Q (.ref s.heap.objs.size) { s with heap := s.heap.push (rsObj x t ((x.length : Int) - 1)), toks := s.toks + 1 + 1 }) : wpAny (model prog w) A (call (.type "reversed") [.str x t]) Q E s := by
  refine callType_codes (Q₁ := fun obj s₁ => s₁.TypeIs obj "reversed" ∧ Q obj s₁) RT.called_rt (F.typeCall_reversed_1 _) F.entry_object_init
    (rs_code (A := A.in1) hx ⟨⟨_, Heap.get?_push_size _ rfl, rfl⟩, h⟩) fun obj s₁ g => ?_
  exact ⟨g.1, F.args_object_init_2 obj _, object_init_meets RT.called_rt.init.lookup RT.called_rt.made (by decide) prog w A.in1 _ s₁ ⟨g.1, rfl, g.2⟩⟩
theorem rs_next {it : Addr} {i c : Nat} {x : Str} {t : Tok} {Q : Option Value → Shared → Prop} (hit : IsRs s.heap it x t (i : Int)) (hx : x.cps[i]? = some c) (hsz : x.length ≤ sizeLine)
    (hQ : ∀ h' u k, IsRs h' it x t ((i : Int) - 1) → Heap.SameBut it s.heap h' → Q (some (.str ⟨#[c]⟩ u)) { s with heap := h', toks := k }) : wpAny (model prog w) A (pyNext (.ref it)) Q E s := by
  obtain ⟨o, ho, hc, hd⟩ := id hit
  have hi : i < x.cps.size := (Array.getElem?_eq_some_iff.mp hx).1
  have kx := typeIs_str s x t
  have hn := line63
  have hl : x.length = x.cps.size := rfl
  unfold pyNext
  refine wpAny_bind (wpAny_attempt (wpAny_callSpecial?_slot (name := Str.ofString "__next__") hit.kind RT.slot_rt_next (wpAny_call_entry RT.slot_rt_next hit.kind RT.entry_rt_next ?_ (RT.args_rt_next _))))
  unfold Builtin.«reversed.__next__»
  refine wpAny_bind (wpAny_of_eq (a := (Value.ref it, [])) rfl ?_) <;> try dsimp only
  refine wpAny_bind (wpAny_field ho hd (x := .str x t) rfl ?_) <;> try dsimp only
  refine wpAny_bind (wpAny_field ho hd (x := rawInt (i : Int)) rfl ?_)
  show wpAny _ _ (if (i : Int) < 0 then _ else _) _ _ s
  rw [if_neg (by omega)] <;> try dsimp only
  refine wpAny_bind (wpAny_specialOf kx str_getit ?_)
  try dsimp only
  try rw [if_neg (by decide)]
  try dsimp only
  refine wpAny_bind (wpAny_mkInt ?_) <;> refine wpAny_bind (wpAny_attempt ?_)
  have fin : seqIndex? (i : Int) x.length = some i := seqIndex_of (by omega) (by omega)
  refine PySem.P.getItem_str (s := { s with toks := s.toks + 1 }) (c := c) (by
    have e1 : decide ((i : Int) < -(2 ^ 63 : Int)) = false := decide_eq_false (by omega)
    have e2 : decide ((i : Int) ≥ 2 ^ 63) = false := decide_eq_false (by omega)
    rw [e1, e2] <;> rfl) (by rw [fin]; exact hx) ?_
  try dsimp only
  refine wpAny_bind (wpAny_field (s := { s with toks := s.toks + 1 + 1 }) ho hd (x := rawInt (i : Int)) rfl ?_)
  try dsimp only
  refine wpAny_bind (wpAny_setField (s := { s with toks := s.toks + 1 + 1 }) ho hd (by simp) ?_)
  first
  | refine wpAny_pure ⟨_, rfl, wpAny_pure (hQ _ _ _ ?_ (Heap.SameBut.update ..))⟩
  | refine wpAny_bind (wpAny_pure (wpAny_pure ⟨_, rfl, wpAny_pure (hQ _ _ _ ?_ (Heap.SameBut.update ..))⟩))
  exact ⟨_, Heap.get?_update_self _ ho (Obj.isFreed_of_fields (Obj.data_mapFields hd _)), (Obj.cls_mapFields ..).trans hc, by rw [Obj.data_mapFields hd]; simp⟩
theorem rs_end {it : Addr} {x : Str} {t : Tok} {Q : Option Value → Shared → Prop} (hh : A.handled = none) (hit : IsRs s.heap it x t (-1))
    (hQ : ∀ h', Heap.ExtBut it s.heap h' → Q none { s with heap := h' }) : wpAny (model prog w) A (pyNext (.ref it)) Q E s := by
  obtain ⟨o, ho, hc, hd⟩ := id hit
  unfold pyNext
  refine wpAny_bind (wpAny_attempt (wpAny_callSpecial?_slot (name := Str.ofString "__next__") hit.kind RT.slot_rt_next (wpAny_call_entry RT.slot_rt_next hit.kind RT.entry_rt_next ?_ (RT.args_rt_next _))))
  unfold Builtin.«reversed.__next__»
  refine wpAny_bind (wpAny_of_eq (a := (Value.ref it, [])) rfl ?_) <;> try dsimp only
  refine wpAny_bind (wpAny_field ho hd (x := .str x t) rfl ?_) <;> try dsimp only
  refine wpAny_bind (wpAny_field ho hd (x := rawInt (-1)) rfl ?_)
  show wpAny _ _ (if (-1 : Int) < 0 then _ else _) _ _ s
  rw [if_pos (by decide)] <;> try dsimp only
  refine wpAny_bind (wpAny_rule ?_) <;> refine wpAny_bind ?_ <;> wp_delta
  refine wpAny_bind (wpAny_setField ho hd (by simp) ?_)
  have ho2 := Heap.get?_update_self (Obj.mapFields (·.setIfInBounds 1 (rawInt (-1)))) ho (Obj.isFreed_of_fields (Obj.data_mapFields hd _))
  refine wpAny_setField (s := { s with heap := s.heap.update it (Obj.mapFields (·.setIfInBounds 1 (rawInt (-1)))) }) ho2 (Obj.data_mapFields hd _) (by simp) ?_
  try dsimp only
  first
  | show wpAny _ _ (newExc (.type "StopIteration") [] >>= _) _ _ _
  | (refine wpAny_bind ?_; show wpAny _ _ (newExc (.type "StopIteration") [] >>= _) _ _ _)
  | (refine wpAny_bind ?_; wp_delta; show wpAny _ _ (newExc (.type "StopIteration") [] >>= _) _ _ _)
  refine wpAny_bind ?_
  simp only [newExc, newTuple]
  refine wpAny_bind (wpAny_newObj_type ?_ (by size_fits))
  refine wpAny_bind (m := firstArgMember _ _) (wpAny_of_eq (a := Value.none) (by first | rfl | (simp only [firstArgMember]; rfl)) ?_)
  refine wpAny_newObj_type ?_ (by size_fits)
  simp only [raiseNew]
  refine wpAny_bind (wpAny_handled ?_)
  first | rw [show A.in1.handled = none from hh] | rw [hh]
  refine wpAny_bind (wpAny_pure (wpAny_throw ?_))
  refine wpAny_bind (wpAny_isInstance (T := "StopIteration") (b := true) ⟨_, Heap.get?_push_size _ rfl, rfl⟩ isSubtype_stop ?_)
  refine wpAny_pure (hQ _ ?_)
  refine ((?_ : Heap.ExtBut it s.heap _).push _).push _
  exact fun b ob hb e => (Heap.get?_update_other _ _ (Ne.symm hb)).trans ((Heap.get?_update_other _ _ (Ne.symm hb)).trans e)
theorem rs_iter {it : Addr} {x : Str} {t : Tok} {i : Int} {Q : Value → Shared → Prop} (hit : IsRs s.heap it x t i) (h : Q (.ref it) s) : wpAny (model prog w) A (pyIter (.ref it)) Q E s := by
  refine wpAny_pyIter_slot hit.kind RT.slot_rt_iter (wpAny_call_entry RT.slot_rt_iter hit.kind RT.entry_rt_iter ?_ (RT.args_rt_iter _))
  show wpAny _ _ (ret (.ref it)) _ _ s
  exact wpAny_pure ⟨_, rfl, "reversed", _, hit.kind, RT.slot_rt_next.lookup, h⟩
end
/-- the signs of a text from the last -/
def RsIt (x : Str) : It := ⟨fun i _ => i < x.cps.size, fun i H v H' => H' = H ∧ ∃ c, x.cps[x.cps.size - 1 - i]? = some c ∧ v = .str ⟨#[c]⟩, fun i _ => x.cps.size ≤ i⟩
theorem rs_turn {P : Program} {w : World} {K : PySem.W.Frag} {tg : Expr} (it : Addr) (x : Str) (t : Tok) (hx : x.length ≤ sizeLine) :
    Turn P w K tg (RsIt x) [it] it (fun i h => i ≤ x.cps.size ∧ IsRs h it x t ((x.cps.size : Int) - 1 - (i : Nat))) where
  mem := by simp
  obj := fun i h st b hb => by
    obtain rfl : b = it := by simpa using hb
    obtain ⟨_, o, e, c, d⟩ := st
    exact ⟨o, e, fun v z => by rw [d] at z; cases z⟩
  keep := fun i h h' st k => by
    obtain ⟨hi, o, e, r⟩ := st
    exact ⟨hi, o, k it (by simp) o e, r⟩
  item := by
    intro X hP hw hK hc i pins s σ H E I hf st hg
    subst hP hw hK
    have hlt : i < x.cps.size := hg
    obtain ⟨f0, f1, f2, f3, f4, f5⟩ := hf it (by simp)
    obtain ⟨_, hit⟩ := st
    have e1 : (x.cps.size : Int) - 1 - ((i : Nat) : Int) = ((x.cps.size - 1 - i : Nat) : Int) := by omega
    rw [e1] at hit
    have hj : x.cps.size - 1 - i < x.cps.size := by omega
    have hcx : x.cps[x.cps.size - 1 - i]? = some x.cps[x.cps.size - 1 - i] := Array.getElem?_eq_getElem hj
    refine rs_next hit hcx hx fun h' u k st' sb => ?_
    have e2 : ((x.cps.size - 1 - i : Nat) : Int) - 1 = (x.cps.size : Int) - 1 - ((i + 1 : Nat) : Int) := by omega
    rw [e2] at st'
    have J : Inv X pins σ H { s with heap := h', toks := k } := I.turned (t' := k) (fun b o hb e => (sb.2 b hb).trans e) f0 f1 f3 f4 f5
    obtain ⟨o, e, c, d⟩ := id st'
    exact ⟨_, rfl, go_of (s := { s with heap := h', toks := k }) e c d (by decide) ⟨.str ⟨#[_]⟩, H, J, ⟨u, rfl⟩, ⟨rfl, _, hcx, rfl⟩, ⟨hlt, st'⟩, fun b hb => (hf b hb).1⟩⟩
  done := by
    intro X hP hw hK hc i pins s σ H E I hf st hg
    subst hP hw hK
    obtain ⟨f0, f1, f2, f3, f4, f5⟩ := hf it (by simp)
    obtain ⟨hin, hit⟩ := st
    have hge : x.cps.size ≤ i := hg
    have e1 : (x.cps.size : Int) - 1 - ((i : Nat) : Int) = -1 := by omega
    rw [e1] at hit
    exact rs_end (I.ok.hd hc) hit fun h' eb => ⟨rfl, I.turned (t' := s.toks) (fun b o hb e => eb b o hb e) f0 f1 f3 f4 f5⟩
  self := fun A i s Q E st h => rs_iter st.2 h
def iRs (te : TE) : TI := fun σ H R => te σ H fun v H1 => ∃ x, v = .str x ∧ x.length ≤ sizeLine ∧ R (RsIt x) H1
/-- for c in reversed(x) of a text -/
theorem pi_rs {X : Cx} {tg e : Expr} {te : TE} {p pos : Pos} (hg : Gl X "reversed") (hm : X.mg "reversed" = none) (he : PE X e te) (hs : starEach [e] X.env = (false, eval e X.env) :: starEach [] X.env := by rfl) : PI X tg (.Call (.Name "reversed" p) [e] [] pos) (iRs te) := by
  refine ⟨fun pins s σ H R I h => ?_⟩
  refine Call_ (ld_blt I hg hm boot_reversed (callWith_type1 (args_cons (thn (he.run pins s σ H _ I h) fun u s1 ⟨v, H1, I1, r1, x, ev, hx, q⟩ => args_nil ?_) hs) hs rfl))
  subst ev
  obtain ⟨t, rfl⟩ := r1
  refine rs_call hx (rs_iter (x := x) (t := t) (i := (x.length : Int) - 1) ⟨_, Heap.get?_push_size _ rfl, rfl, rfl⟩ ?_)
  refine pi_one (tk := s1.toks + 1 + 1) I1 _ (rs_turn _ x t hx) ⟨Nat.zero_le _, ?_⟩ q
  have e1 : (x.length : Int) - 1 = (x.cps.size : Int) - 1 - ((0 : Nat) : Int) := by show (x.cps.size : Int) - 1 = _; omega
  rw [← e1]
  exact ⟨_, Heap.get?_push_size _ rfl, rfl, rfl⟩
theorem for_rs {x : Str} {g : TG} {tb : TS} {D : Ends} {σ : L2.St} {H : Hp} (Pv : Nat → L2.St → Hp → Prop) (h0 : Pv 0 σ H)
    (hs : ∀ (i c : Nat) (σ : L2.St) (H : Hp), i < x.cps.size → x.cps[x.cps.size - 1 - i]? = some c → Pv i σ H → g (.str ⟨#[c]⟩) σ H fun σ2 H2 => tb { D with nx := Pv (i + 1), ct := Pv (i + 1), bk := D.nx } σ2 H2) (hd : ∀ σ H, Pv x.cps.size σ H → D.nx σ H) :
    ∃ W : Nat → Nat → L2.St → Hp → Prop, (∃ m, W 0 m σ H) ∧ ∀ i m σ H, W i m σ H →
      ((RsIt x).stop i H ∧ D.nx σ H) ∨ ((RsIt x).go i H ∧ ∃ N : L2.St → Hp → Prop, (∀ σ' H', N σ' H' → ∃ m', m' < m ∧ W (i + 1) m' σ' H') ∧ ∀ v H', (RsIt x).yld i H v H' → g v σ H' fun σ2 H2 => tb { D with nx := N, ct := N, bk := D.nx } σ2 H2) := by
  refine ⟨fun i m σ H => m = x.cps.size - i ∧ i ≤ x.cps.size ∧ Pv i σ H, ⟨_, rfl, Nat.zero_le _, h0⟩, ?_⟩
  rintro i m σ H ⟨rfl, hi, p⟩
  by_cases hlt : i < x.cps.size
  · refine .inr ⟨hlt, Pv (i + 1), fun σ' H' p' => ⟨_, by omega, rfl, hlt, p'⟩, fun v H' r => ?_⟩
    obtain ⟨rfl, c, hc, rfl⟩ := r
    exact hs i c σ _ hlt hc p
  · obtain rfl : i = x.cps.size := by omega
    exact .inl ⟨Nat.le_refl _, hd σ H p⟩
end Hid

namespace Hid
open PySem PySem.Spec PyProof.Rows L2
/-! sorted of data -/
section
variable {X : Cx} {β : Type}
def rSortD (K : PySem.W.Frag) (enc : β → PyData) : List V → Hp → VK → Prop := fun vs H Q => ∃ (a : Addr) (xs : List V) (bs : List β) (R : V → β → Prop), vs = [.ref a] ∧ SqL K H a xs ∧ Paired R xs bs ∧ (∀ v b, R v b → Dp K H v (enc b)) ∧
  PySem.W.AllAlike (bs.map enc) ∧ PySem.W.Sortable (bs.map enc) ∧ (∀ b ∈ bs, (enc b).depth ≤ 8) ∧ ∀ ys p, Paired R ys (bs.mergeSort (PySem.W.dataLe false enc)) → H p = none → Q (.ref p) (upd H p (.lst ys))
theorem each_of_paired {R : V → β → Prop} : ∀ {xs : List V} {its : List Value} {bs : List β}, Vals xs its → Paired R xs bs → PySem.W.EachIs (fun v b => ∃ x, RelV x v ∧ R x b) its bs
  | _, _, _, .nil, .nil => .nil
  | _, _, _, .cons r rs, .cons d ds => .cons ⟨_, r, d⟩ (each_of_paired rs ds)
theorem paired_of_each {R : V → β → Prop} : ∀ {out : List Value} {bs : List β}, PySem.W.EachIs (fun v b => ∃ x, RelV x v ∧ R x b) out bs → ∃ ys, Vals ys out ∧ Paired R ys bs
  | _, _, .nil => ⟨[], .nil, .nil⟩
  | _, _, .cons ⟨x, r, d⟩ t => let ⟨ys, h1, h2⟩ := paired_of_each t; ⟨x :: ys, .cons r h1, .cons d h2⟩
theorem paired_len {α γ : Type} {F : α → γ → Prop} : ∀ {l : List α} {m : List γ}, Paired F l m → l.length = m.length
  | _, _, .nil => rfl
  | _, _, .cons _ t => congrArg (· + 1) (paired_len t)
theorem each_mono {α γ : Type} {R R' : α → γ → Prop} (h : ∀ a b, R a b → R' a b) : ∀ {l : List α} {m : List γ}, PySem.W.EachIs R l m → PySem.W.EachIs R' l m
  | _, _, .nil => .nil
  | _, _, .cons a t => .cons (h _ _ a) (each_mono h t)
theorem cr_sortD {enc : β → PyData} (hu : X.A.units + 64 < cLine) : CallR X (.builtin "sorted") (rSortD X.K enc) := by
  intro pins s σ H vs us Q I r h
  obtain ⟨a, xs, bs, R, rfl, hs, hp, hR, hal, hk, hd, q⟩ := h
  obtain ⟨its, rv, hl, hz⟩ := I.list hs
  rw [Vals.ref1 r]
  have e := each_of_paired rv hp
  have hlen : bs.length = xs.length := (paired_len hp).symm
  refine PySem.W.sorted_data (vs := its) hl.isList e (each_mono (fun v b ⟨x, r, d⟩ => Dp.reads I _ _ _ (hR _ _ d) r) e) hal hk (by rw [hlen]; exact hz) (fun b hb => ?_) fun out ho eo => ?_
  · have := hd b hb
    omega
  · obtain ⟨ys, h1, h2⟩ := paired_of_each eo
    obtain ⟨c, hc⟩ := sortedAll_at s.heap its (List.toArray out)
    have hle : s.heap.objs.size ≤ s.heap.objs.size + 1 := Nat.le_succ _
    refine ⟨.ref (s.heap.objs.size + 1), upd H (s.heap.objs.size + 1) (.lst ys), I.laid (t' := s.toks) (fun _ _ => sortedAll_old) hle ⟨?_, out, c, h1, hc⟩, rfl, q ys _ h2 (I.hok.fresh hle)⟩
    rw [h1.length, ho, hlen]
    exact hz
end
/-- pairs of texts as data -/
def encSS (p : Str × Str) : PyData := .tuple [.str p.1, .str p.2]
theorem cr_sortSS {X : Cx} (hu : X.A.units + 64 < cLine) : CallR X (.builtin "sorted") (rSortD X.K encSS) := cr_sortD hu
theorem le_ss (p q : Str × Str) (h : p.1.cps.toList < q.1.cps.toList) : PySem.W.dataLe false encSS p q = true := by
  show (!PySem.W.dataLt (.tuple [.str q.1, .str q.2]) (.tuple [.str p.1, .str p.2])) = true
  have ne : PyData.eqv (.str q.1) (.str p.1) = false := by
    show (q.1 == p.1) = false
    rw [beq_eq_false_iff_ne]
    intro e
    rw [e] at h
    exact List.lt_irrefl _ h
  rw [PySem.W.dataLt_pair (by simp [PySem.W.alike]) (by simp [PySem.W.alike]), ne, if_neg Bool.false_ne_true, PySem.W.dataLt_str]
  have : ¬ q.1.cps.toList < p.1.cps.toList := fun z => List.lt_irrefl _ (List.lt_trans h z)
  simp [this]
/-! text * number, >>= -/
section
variable {X : Cx}
theorem op_mul_str : OpR X (binaryOp .Mult) (fun x y H Q => ∃ z i, x = .str z ∧ y = .int i ∧ 0 ≤ i ∧ i ≤ 1000 ∧ z.length ≤ 1000 ∧ Q (.str (Txt.mul z i)) H) := by
  intro pins s σ H x y v u Q I rx ry h
  obtain ⟨z, i, rfl, rfl, h0, h1, h2, q⟩ := h
  obtain ⟨t, rfl⟩ := rx
  obtain ⟨t', rfl⟩ := ry
  refine PySem.SB.mul ⟨?_, fun n1 _ => ?_, fun n1 _ => ?_⟩ fun t' k => ⟨.str _, H, I.tok k, ⟨t', rfl⟩, q⟩
  · have e1 : decide (i < -(2 ^ 63 : Int)) = false := decide_eq_false (by omega)
    have e2 : decide (i ≥ 2 ^ 63) = false := decide_eq_false (by omega)
    rw [e1, e2] <;> rfl
  · have : (1000 : Int) ≤ (2 ^ 63 - 1) / i := (Int.le_ediv_iff_mul_le (by omega)).mpr (by omega)
    omega
  · unfold Builtin.Str.tooLong
    have h3 : z.length * i.toNat ≤ 1000 * 1000 := Nat.mul_le_mul h2 (by omega)
    have h4 : (1000 * 1000 : Nat) ≤ sizeLine := by decide
    exact decide_eq_false (by omega)
theorem ip_shr : PIp X .RShift (rI (fun _ j => 0 ≤ j) fun i j => .int (i / 2 ^ j.toNat)) := iop_shr
end
/-! sep.join(reversed(list)) -/
theorem gives_join {x : Str} (lz : List (Str × Tok)) (g0 : Builtin.Str.tooLong ((lz.map (·.1)).toArray.foldl (· + ·.length + x.length) 0) = false) : Gives (PySem.joinTail x (strValues lz)) (joinMade x lz) := by
  have g1 := gives_joinTail x lz g0
  match lz, g0, g1 with
  | [], _, g1 => exact g1
  | [_], _, g1 => exact g1
  | _ :: _ :: _, _, g1 => exact g1
section
variable {prog : Program} {w : World} {A : Around} {E : Value → Shared → Prop} {s : Shared}
theorem join_rev {it l : Addr} {items : Array Value} {ys : List Str} {x : Str} {t : Tok} {Q : Value → Shared → Prop} (hh : A.handled = none) (hit : s.heap.IsRevIter it l ((items.size : Int) - 1)) (hl : s.heap.IsList l items) (hne : l ≠ it) (hn : items.size ≤ sizeLine)
    (hy : StrsAre items.toList ys) (hok : (ys.map (·.length)).sum + ys.length * x.length ≤ 16777216)
    (hq : ∀ (h' : Heap) t' k, (∀ b o, b ≠ it → s.heap.get? b = some o → h'.get? b = some o) → Q (.str (Txt.join x ys.reverse) t') { s with heap := h', toks := k }) :
    wpAny (model prog w) A (call (.builtin "str.join") [.str x t, .ref it]) Q E s := by
  refine wpAny_call (codeAny_call_builtin F.slot_str_join.plain F.entry_str_join (F.slot_str_join.check _ _ _ _ _ _ _ _ (typeIs_str _ _ _) (F.args_str_join_2 _ _) ?_))
  rw [PySem.join_tree_other]
  refine wpAny_bind (wpAny_typeOf hit.typeIs ?_)
  show wpAny _ A.in1 ((pyIter (.ref it)).tryCatch _ >>= fun i => collect i >>= fun items => PySem.joinTail x items) _ _ s
  refine wpAny_bind (wpAny_tryCatch (wpAny_pyIter_revIter hit ?_))
  refine wpAny_bind (RT.collect_rev (A := A.in1) hh hit hl hne hn fun h' tk acc hk hacc => ?_)
  have hr : acc.toList = items.toList.reverse := by
    apply List.ext_getElem?
    intro j
    by_cases hj : j < items.size
    · have h1 : j < acc.size := by rw [hacc.1]; exact hj
      have e1 : acc.toList[j]? = some acc[j] := by rw [Array.getElem?_toList, Array.getElem?_eq_getElem h1]
      have e2 := hacc.2 j acc[j] (Array.getElem?_eq_getElem h1)
      rw [e1, List.getElem?_reverse (by simpa using hj)] <;> simpa using e2.symm
    · rw [List.getElem?_eq_none (by rw [Array.length_toList, hacc.1]; omega), List.getElem?_eq_none (by rw [List.length_reverse, Array.length_toList]; omega)]
  obtain ⟨vals, hv, ht⟩ := strsAre_values hy
  have hl2 : acc.toList = strValues vals.reverse := by
    rw [hr, hv]
    show (List.map _ vals).reverse = List.map _ vals.reverse
    rw [List.map_reverse]
  rw [hl2]
  have hok2 : (((vals.reverse).map (·.1)).map (·.length)).sum + ((vals.reverse).map (·.1)).length * x.length ≤ 16777216 := by
    rw [List.map_reverse, ht, List.map_reverse, List.sum_reverse, List.length_reverse]
    exact hok
  have g0 := joinOk_of hok2
  unfold JoinOk at g0
  rw [Bool.not_eq_true'] at g0
  refine Hid.gives_join vals.reverse g0 prog w A (wants Q E) { s with heap := h', toks := tk } (post_join vals.reverse ⟨joinFit_length g0, fun t' k => ?_⟩)
  rw [List.map_reverse, ht]
  exact hq h' t' k hk
end
/-- x.join(reversed(xs)), xs a list of texts -/
def tJoinRev (K : PySem.W.Frag) (to te : TE) : TE := fun σ H Q => to σ H fun v H1 => ∃ x, v = .str x ∧ te σ H1 fun y H2 => ∃ (a : Addr) (ys : List Str), y = .ref a ∧ SqL K H2 a (ys.map V.str) ∧ (ys.map (·.length)).sum + ys.length * x.length ≤ 16777216 ∧ Q (.str (Txt.join x ys.reverse)) H2
theorem pe_joinRev {X : Cx} {o e : Expr} {to te : TE} {apos pos p2 pos2 : Pos} (hc : X.calm = true) (hg2 : Gl X "reversed") (hm2 : X.mg "reversed" = none) (ho : PE X o to) (he : PE X e te)
    (hs : starEach [e] X.env = (false, eval e X.env) :: starEach [] X.env := by rfl)
    (hs2 : starEach [.Call (.Name "reversed" p2) [e] [] pos2] X.env = [(false, eval (.Call (.Name "reversed" p2) [e] [] pos2) X.env)] := by rfl)
    (hbase : attributeBase o "join" X.env (eval o X.env) = eval o X.env := by rfl) (hline : (apos.endLine == pos.line) = true := by rfl) :
    PE X (.Call (.Attribute o "join" apos) [.Call (.Name "reversed" p2) [e] [] pos2] [] pos) (tJoinRev X.K to te) := by
  refine ⟨fun pins s σ H Q I h => ?_⟩
  refine PySem.Call_method1 hbase hs2 hline (thn (ho.run pins s σ H _ I h) fun v s1 ⟨x0, H1, I1, r1, x, q1, h1⟩ => ?_)
  subst q1
  obtain ⟨t, rfl⟩ := _root_.id r1
  refine ⟨"str", _, F.plainAttrs_str, F.slot_str_join, F.type_str_join, typeIs_str _ _ _, (fun _ e => nomatch e), Calls.callWith_builtin rfl (Calls.evalArgs_plain (Calls.spliced_cons ?_))⟩
  refine Call_ (ld_blt I1 hg2 hm2 boot_reversed (callWith_type1 (args_cons (thn (he.run pins s1 σ H1 _ I1 h1) fun u s2 ⟨y, H2, I2, r2, q2⟩ => args_nil ?_) hs) hs rfl))
  obtain ⟨a, ys, rfl, hq, hz, q⟩ := q2
  obtain rfl : u = Value.ref a := r2
  obtain ⟨its, rv, p', hn⟩ := I2.list hq
  refine call_reversed_list p'.isList (Calls.spliced_nil ?_)
  have k0 : ∀ b ob, s2.heap.get? b = some ob → (s2.heap.push (revObj a ((its.toArray.size : Int) - 1))).get? b = some ob := fun b ob e => Heap.get?_push_of_some _ e
  have I3 : Inv X pins σ H2 { s2 with heap := s2.heap.push (revObj a ((its.toArray.size : Int) - 1)) } := I2.kept (t' := s2.toks) k0
  obtain ⟨f0, f1, f2, f3, f4, f5⟩ := I2.fpOk (H' := H2) (b := s2.heap.objs.size) (Nat.le_refl _) (I2.hok.fresh (Nat.le_refl _))
  have hl := p'.isList
  obtain ⟨ol, hol, _⟩ := _root_.id hl
  have hne : a ≠ s2.heap.objs.size := Nat.ne_of_lt (Heap.lt_size hol)
  refine join_rev (s := { s2 with heap := s2.heap.push (revObj a ((its.toArray.size : Int) - 1)) }) (ys := ys) (I2.ok.hd hc) ⟨_, Heap.get?_push_size _ rfl, rfl, rfl⟩ (hl.push _) hne (by rw [List.size_toArray, ← rv.length]; exact hn) (by rw [List.toList_toArray]; exact strs_of_vals rv) hz fun h' t' k hk => ?_
  exact ⟨.str _, H2, I3.turned (t' := k) (fun b ob hb e => hk b ob hb e) f0 f1 f3 f4 f5, ⟨t', rfl⟩, q⟩
end Hid

namespace Hid
open PySem
/-! texts as lists of signs: n 110, b 98, y 121 -/
abbrev tx (l : List Nat) : Str := ⟨l.toArray⟩
theorem tx_cps (z : Str) : tx z.cps.toList = z := by cases z; simp [tx]
theorem tx_inj {a c : List Nat} (h : tx a = tx c) : a = c := by
  have := congrArg (fun z : Str => z.cps.toList) h
  simpa [tx] using this
def RowL (l : List Nat) : Prop := (1 ≤ l.length ∧ l.length ≤ 8) ∧ ∀ c ∈ l, c = 110 ∨ c = 98 ∨ c = 121
/-! the count of a sign -/
theorem occ_count (x : Str) (c : Nat) : ∀ (n a : Nat) (st : Array Nat × Nat), a + n = x.length + 1 → st.2 ≤ a → st.1.size ≤ a →
    (forIn (List.range' a n) st (StrLaws.occBody x ⟨#[c]⟩ x.length (x.length + 1))).run.fst.size = st.1.size + (x.cps.toList.drop a).count c := by
  intro n
  induction n with
  | zero =>
    intro a st h1 _ _
    have : x.cps.toList.drop a = [] := List.drop_eq_nil_of_le (by simp only [Array.length_toList]; show x.length ≤ a; omega)
    rw [this]
    rfl
  | succ n ih =>
    intro a st h1 h2 h3
    rw [List.range'_succ, List.forIn_cons]
    have hs := StrLaws.subAt_one x c a
    by_cases hc : x.cps.toList[a]? = some c
    · obtain ⟨q1, q2⟩ := hs.mpr hc
      have hlt : a < x.cps.toList.length := (List.getElem?_eq_some_iff.mp hc).1
      have e : x.cps.toList.drop a = c :: x.cps.toList.drop (a + 1) := by
        rw [List.drop_eq_getElem_cons hlt, (List.getElem?_eq_some_iff.mp hc).2]
      unfold StrLaws.occBody
      rw [if_pos ⟨⟨⟨by omega, h2⟩, q1⟩, q2⟩]
      have := ih (a + 1) (st.1.push a, a + (⟨#[c]⟩ : Str).length) (by omega) (Nat.le_refl _) (by rw [Array.size_push]; omega)
      refine Eq.trans this ?_
      rw [e, List.count_cons_self]
      show (st.1.push a).size + _ = _
      rw [Array.size_push]
      omega
    · have hn : ¬ (a + (⟨#[c]⟩ : Str).length ≤ x.length ∧ Builtin.Str.subAt x ⟨#[c]⟩ a = true) := fun h => hc (hs.mp h)
      unfold StrLaws.occBody
      rw [if_neg fun h => hn ⟨h.1.2, h.2⟩]
      have := ih (a + 1) (st.1, st.2) (by omega) (by show st.2 ≤ a + 1; omega) (by show st.1.size ≤ a + 1; omega)
      refine Eq.trans this ?_
      by_cases hlt : a < x.cps.toList.length
      · have e : x.cps.toList.drop a = x.cps.toList[a] :: x.cps.toList.drop (a + 1) := List.drop_eq_getElem_cons hlt
        rw [e, List.count_cons_of_ne]
        intro z
        exact hc (by rw [List.getElem?_eq_getElem hlt, z])
      · rw [List.drop_eq_nil_of_le (by omega), List.drop_eq_nil_of_le (by omega)]
theorem count_one (x : Str) (c : Nat) : Txt.count x ⟨#[c]⟩ = (x.cps.toList.count c : Int) := by
  unfold Txt.count
  rw [StrLaws.occ_eq, Array.length_toList, occ_count x c _ 0 (#[], 0) (by omega) (Nat.le_refl _) (Nat.zero_le _)]
  simp
/-! lists of signs joined -/
def sg1 (c : Nat) : Str := ⟨#[c]⟩
theorem join_one (l : List Nat) : Txt.join (tx []) (l.map sg1) = tx l := by
  show Builtin.Str.glued _ _ = _
  rw [StrLaws.glued_eq_join]
  induction l with
  | nil => rfl
  | cons c r ih =>
    cases r with
    | nil => rfl
    | cons d r =>
      show Str.join (tx []) (sg1 c :: sg1 d :: r.map sg1) = _
      have e : Str.join (tx []) (sg1 c :: sg1 d :: r.map sg1) = sg1 c ++ tx [] ++ Str.join (tx []) ((d :: r).map sg1) := rfl
      rw [e, ih]
      show (⟨(#[c] ++ #[]) ++ (d :: r).toArray⟩ : Str) = ⟨(c :: d :: r).toArray⟩
      simp
theorem sg1_len (l : List Nat) : ((l.map sg1).map (·.length)).sum = l.length := by
  induction l with
  | nil => rfl
  | cons c r ih =>
    show (sg1 c).length + ((r.map sg1).map (·.length)).sum = r.length + 1
    rw [ih]
    show 1 + r.length = _
    omega
/-! the mirror -/
def tw (m s : Nat) : Nat := if m = 98 then (if s = 110 then 121 else 110) else s
def turned (row half : List Nat) : List Nat := List.zipWith tw row half
def rb (s t : Nat) : Nat := if s = t then s else 98
def rowBy (a o : List Nat) : List Nat := List.zipWith rb a o
def sgn (k : Nat) : Nat := if k % 2 = 0 then 110 else 121
def lesR : List Nat → Nat → List Nat
  | [], _ => []
  | c :: r, k => if c = 98 then sgn k :: lesR r (k / 2) else c :: lesR r k
def lesser (row : List Nat) (k : Nat) : List Nat := (lesR row.reverse k).reverse
def many (row : List Nat) : Nat := 2 ^ (row.count 98 - 1)
def part (row : List Nat) (k : Nat) : List Nat × List Nat := (lesser row k, turned row (lesser row k))
def grow (c : Nat) (p : List Nat × List Nat) : List (List Nat × List Nat) :=
  if c ≠ 98 then [(p.1 ++ [c], p.2 ++ [c])] else (p.1 ++ [110], p.2 ++ [121]) :: (if p.1 ≠ p.2 then [(p.1 ++ [121], p.2 ++ [110])] else [])
def allP (row : List Nat) : List (List Nat × List Nat) := row.foldl (fun ps c => ps.flatMap (grow c)) [([], [])]
theorem allP_snoc (r : List Nat) (c : Nat) : allP (r ++ [c]) = (allP r).flatMap (grow c) := by
  unfold allP
  rw [List.foldl_append]
  rfl
theorem lesR_len : ∀ (r : List Nat) (k : Nat), (lesR r k).length = r.length
  | [], _ => rfl
  | c :: r, k => by
    unfold lesR
    split <;> simp [lesR_len]
theorem lesser_len (row : List Nat) (k : Nat) : (lesser row k).length = row.length := by
  unfold lesser
  rw [List.length_reverse, lesR_len, List.length_reverse]
theorem turned_len (row half : List Nat) (h : half.length = row.length) : (turned row half).length = row.length := by
  unfold turned
  rw [List.length_zipWith, h, Nat.min_self]
theorem lesser_b (r : List Nat) (k : Nat) : lesser (r ++ [98]) k = lesser r (k / 2) ++ [sgn k] := by
  unfold lesser
  rw [List.reverse_append]
  show (lesR (98 :: r.reverse) k).reverse = _
  rw [show lesR (98 :: r.reverse) k = sgn k :: lesR r.reverse (k / 2) by conv => lhs; unfold lesR; rw [if_pos rfl]]
  rw [List.reverse_cons]
theorem lesser_o (r : List Nat) (c k : Nat) (h : c ≠ 98) : lesser (r ++ [c]) k = lesser r k ++ [c] := by
  unfold lesser
  rw [List.reverse_append]
  show (lesR (c :: r.reverse) k).reverse = _
  rw [show lesR (c :: r.reverse) k = c :: lesR r.reverse k by conv => lhs; unfold lesR; rw [if_neg h]]
  rw [List.reverse_cons]
theorem turned_snoc (r h : List Nat) (c x : Nat) (e : h.length = r.length) : turned (r ++ [c]) (h ++ [x]) = turned r h ++ [tw c x] := by
  unfold turned
  rw [List.zipWith_append e.symm]
  rfl
theorem rowBy_snoc (a o : List Nat) (x y : Nat) (e : a.length = o.length) : rowBy (a ++ [x]) (o ++ [y]) = rowBy a o ++ [rb x y] := by
  unfold rowBy
  rw [List.zipWith_append e]
  rfl
theorem part_b (r : List Nat) (k : Nat) : part (r ++ [98]) k = ((part r (k / 2)).1 ++ [sgn k], (part r (k / 2)).2 ++ [tw 98 (sgn k)]) := by
  unfold part
  rw [lesser_b, turned_snoc _ _ _ _ (lesser_len _ _)]
theorem part_o (r : List Nat) (c k : Nat) (h : c ≠ 98) : part (r ++ [c]) k = ((part r k).1 ++ [c], (part r k).2 ++ [c]) := by
  unfold part
  rw [lesser_o _ _ _ h, turned_snoc _ _ _ _ (lesser_len _ _)]
  unfold tw
  rw [if_neg h]
/-- two b and more: turned is another -/
theorem turned_ne : ∀ (r h : List Nat), h.length = r.length → 98 ∈ r → h ≠ turned r h
  | [], _, _, m => nomatch m
  | c :: r, [], e, _ => nomatch e
  | c :: r, x :: h, e, m => by
    intro z
    have z' : x :: h = tw c x :: turned r h := z
    injection z' with z1 z2
    rcases List.mem_cons.mp m with q | q
    · subst q
      unfold tw at z1
      rw [if_pos rfl] at z1
      split at z1 <;> omega
    · exact turned_ne r h (by simpa using e) q z2
theorem part_no_b (r : List Nat) (k : Nat) (h : r.count 98 = 0) : part r k = (r, r) := by
  have hm : 98 ∉ r := List.count_eq_zero.mp h
  have e1 : ∀ (l : List Nat) (k : Nat), 98 ∉ l → lesR l k = l := by
    intro l
    induction l with
    | nil => intros; rfl
    | cons c l ih =>
      intro k m
      rw [List.mem_cons, not_or] at m
      unfold lesR
      rw [if_neg (fun z => m.1 z.symm), ih k m.2]
  have e2 : ∀ (l : List Nat), 98 ∉ l → turned l l = l := by
    intro l
    induction l with
    | nil => intros; rfl
    | cons c l ih =>
      intro m
      rw [List.mem_cons, not_or] at m
      show tw c c :: turned l l = _
      rw [ih m.2]
      unfold tw
      rw [if_neg (fun z => m.1 z.symm)]
  unfold part lesser
  rw [e1 _ _ (by simpa using hm), List.reverse_reverse, e2 _ hm]
theorem range_two (m : Nat) : List.range (2 * m) = (List.range m).flatMap fun k => [2 * k, 2 * k + 1] := by
  induction m with
  | zero => rfl
  | succ m ih =>
    rw [List.range_succ, List.flatMap_append, ← ih, show 2 * (m + 1) = 2 * m + 1 + 1 by omega, List.range_succ, List.range_succ]
    simp
theorem many_snoc (r : List Nat) (c : Nat) : many (r ++ [c]) = if c = 98 ∧ r.count 98 ≠ 0 then 2 * many r else many r := by
  unfold many
  rw [List.count_append]
  by_cases hc : c = 98
  · subst hc
    have : List.count 98 [98] = 1 := rfl
    rw [this]
    by_cases h0 : r.count 98 = 0
    · rw [if_neg (fun h => h.2 h0), h0]
    · rw [if_pos ⟨rfl, h0⟩, show r.count 98 + 1 - 1 = r.count 98 - 1 + 1 by omega, Nat.pow_succ]
      omega
  · have : List.count 98 [c] = 0 := List.count_eq_zero.mpr (by simpa using fun z => hc z.symm)
    rw [this, if_neg (fun h => hc h.1)]
    rfl
theorem sgn_two (k : Nat) : sgn (2 * k) = 110 ∧ sgn (2 * k + 1) = 121 := by
  unfold sgn
  constructor
  · rw [if_pos (by omega)]
  · rw [if_neg (by omega)]
theorem tw_b : tw 98 110 = 121 ∧ tw 98 121 = 110 := by decide
/-- the law's own list is the list by numbers -/
theorem allP_eq (row : List Nat) : allP row = (List.range (many row)).map (part row) := by
  induction h : row.length generalizing row with
  | zero =>
    have : row = [] := List.length_eq_zero_iff.mp h
    subst this
    rfl
  | succ n ih =>
    have hne : row ≠ [] := fun z => by rw [z] at h; cases h
    obtain ⟨r, c, rfl⟩ : ∃ r c, row = r ++ [c] := ⟨row.dropLast, row.getLast hne, (List.dropLast_concat_getLast hne).symm⟩
    have hr : r.length = n := by simpa using h
    rw [allP_snoc, ih r hr, many_snoc]
    by_cases hc : c = 98
    · subst hc
      by_cases h0 : r.count 98 = 0
      · rw [if_neg (fun h => h.2 h0)]
        have hm : many r = 1 := by unfold many; rw [h0]
        rw [hm]
        show grow 98 (part r 0) ++ [] = [part (r ++ [98]) 0]
        rw [part_b, part_no_b r 0 h0, List.append_nil]
        unfold grow
        rw [if_neg (by decide), if_neg (by simp)]
        rfl
      · rw [if_pos ⟨rfl, h0⟩, range_two, List.map_flatMap, List.flatMap_map]
        congr 1
        funext k
        show grow 98 (part r k) = [part (r ++ [98]) (2 * k), part (r ++ [98]) (2 * k + 1)]
        rw [part_b, part_b, show 2 * k / 2 = k by omega, show (2 * k + 1) / 2 = k by omega, (sgn_two k).1, (sgn_two k).2, tw_b.1, tw_b.2]
        have hd : (part r k).1 ≠ (part r k).2 := turned_ne r _ (lesser_len _ _) (List.count_pos_iff.mp (by omega))
        unfold grow
        rw [if_neg (by decide), if_pos hd]
    · rw [if_neg (fun h => hc h.1), List.flatMap_map, ← List.flatMap_singleton' ((List.range (many r)).map _), List.flatMap_map]
      congr 1
      funext k
      show grow c (part r k) = [part (r ++ [c]) k]
      rw [part_o _ _ _ hc]
      unfold grow
      rw [if_pos hc]
/-! order -/
theorem app_lt : ∀ (a o x y : List Nat), a.length = o.length → a < o → a ++ x < o ++ y
  | [], [], x, y, _, h => absurd h (List.lt_irrefl _)
  | [], _ :: _, _, _, e, _ => nomatch e
  | _ :: _, [], _, _, e, _ => nomatch e
  | p :: a, q :: o, x, y, e, h => by
    rcases List.cons_lt_cons_iff.mp h with h1 | ⟨h1, h2⟩
    · exact List.cons_lt_cons_iff.mpr (.inl h1)
    · exact List.cons_lt_cons_iff.mpr (.inr ⟨h1, app_lt a o x y (by simpa using e) h2⟩)
theorem app_same : ∀ (a : List Nat) (x y : Nat), x < y → a ++ [x] < a ++ [y]
  | [], x, y, h => List.cons_lt_cons_iff.mpr (.inl h)
  | p :: a, x, y, h => List.cons_lt_cons_iff.mpr (.inr ⟨rfl, app_same a x y h⟩)
/-- what the law asks of each -/
theorem part_good (row : List Nat) : (∀ k, (part row k).1.length = row.length ∧ (part row k).2.length = row.length ∧ rowBy (part row k).1 (part row k).2 = row) ∧
    (∀ k, k < many row → (part row k).1 = (part row k).2 ∨ (part row k).1 < (part row k).2) ∧ ∀ k l, k < l → l < many row → (part row k).1 < (part row l).1 := by
  induction h : row.length generalizing row with
  | zero =>
    have : row = [] := List.length_eq_zero_iff.mp h
    subst this
    refine ⟨fun k => ⟨rfl, rfl, rfl⟩, fun k _ => .inl rfl, fun k l h1 h2 => ?_⟩
    have : many [] = 1 := rfl
    omega
  | succ n ih =>
    have hne : row ≠ [] := fun z => by rw [z] at h; cases h
    obtain ⟨r, c, rfl⟩ : ∃ r c, row = r ++ [c] := ⟨row.dropLast, row.getLast hne, (List.dropLast_concat_getLast hne).symm⟩
    have hr : r.length = n := by simpa using h
    obtain ⟨g1, g2, g3⟩ := ih r hr
    rw [List.length_append] at h
    by_cases hc : c = 98
    · subst hc
      refine ⟨fun k => ?_, fun k hk => ?_, fun k l h1 h2 => ?_⟩
      · obtain ⟨q1, q2, q3⟩ := g1 (k / 2)
        rw [part_b, ← h]
        refine ⟨by simp [q1, hr], by simp [q2, hr], ?_⟩
        show rowBy (_ ++ [sgn k]) (_ ++ [tw 98 (sgn k)]) = _
        rw [rowBy_snoc _ _ _ _ (q1.trans q2.symm), q3]
        congr 2
        unfold sgn
        split <;> rfl
      · rw [part_b]
        obtain ⟨q1, q2, q3⟩ := g1 (k / 2)
        rw [many_snoc] at hk
        by_cases h0 : r.count 98 = 0
        · rw [if_neg (fun h => h.2 h0)] at hk
          have hm : many r = 1 := by unfold many; rw [h0]
          have k0 : k = 0 := by omega
          subst k0
          rw [part_no_b r _ h0]
          exact .inr (app_same r 110 121 (by decide))
        · rw [if_pos ⟨rfl, h0⟩] at hk
          rcases g2 (k / 2) (by omega) with q | q
          · exact absurd q (turned_ne r _ (lesser_len _ _) (List.count_pos_iff.mp (by omega)))
          · exact .inr (app_lt _ _ _ _ (q1.trans q2.symm) q)
      · rw [part_b, part_b]
        rw [many_snoc] at h2
        by_cases h0 : r.count 98 = 0
        · rw [if_neg (fun h => h.2 h0)] at h2
          have hm : many r = 1 := by unfold many; rw [h0]
          omega
        · rw [if_pos ⟨rfl, h0⟩] at h2
          by_cases hkl : k / 2 = l / 2
          · rw [hkl]
            have e1 : sgn k = 110 := by unfold sgn; rw [if_pos (by omega)]
            have e2 : sgn l = 121 := by unfold sgn; rw [if_neg (by omega)]
            rw [e1, e2]
            exact app_same _ _ _ (by decide)
          · exact app_lt _ _ _ _ ((g1 _).1.trans (g1 _).1.symm) (g3 _ _ (by omega) (by omega))
    · have hm : many (r ++ [c]) = many r := by rw [many_snoc, if_neg (fun h => hc h.1)]
      refine ⟨fun k => ?_, fun k hk => ?_, fun k l h1 h2 => ?_⟩
      · obtain ⟨q1, q2, q3⟩ := g1 k
        rw [part_o _ _ _ hc, ← h]
        refine ⟨by simp [q1, hr], by simp [q2, hr], ?_⟩
        show rowBy (_ ++ [c]) (_ ++ [c]) = _
        rw [rowBy_snoc _ _ _ _ (q1.trans q2.symm), q3]
        congr 2
        unfold rb
        rw [if_pos rfl]
      · rw [part_o _ _ _ hc]
        rcases g2 k (by omega) with q | q
        · left
          show _ ++ [c] = _ ++ [c]
          rw [q]
        · exact .inr (app_lt _ _ _ _ ((g1 k).1.trans (g1 k).2.1.symm) q)
      · rw [part_o _ _ _ hc, part_o _ _ _ hc]
        exact app_lt _ _ _ _ ((g1 _).1.trans (g1 _).1.symm) (g3 _ _ h1 (by omega))
end Hid

namespace Hid
open PySem PySem.Spec PyProof.Rows L2 Evl
/-- a def of the text: where it stands -/
def Df (K : PySem.W.Frag) (mg : Str → Option Value) (x : Str) (st : Stmt) (ps : List Str) : Prop := ∃ (f : Addr) (fd : FuncData), Fun K x x st f fd ∧ Binds K fd ps [] ∧ mg x = some (.ref f)
/-- .. and what it promises -/
def At (P : Program) (w : World) (K : PySem.W.Frag) (mg : Str → Option Value) (base : Heap) (x : Str) (st : Stmt) (n : Nat) (ps : List Str) (sp : Sp) : Prop :=
  ∃ (f : Addr) (fd : FuncData), Fun K x x st f fd ∧ Binds K fd ps [] ∧ mg x = some (.ref f) ∧ FnOk P w K mg base CX0 n f fd ps sp
section
variable {K : PySem.W.Frag} {σ : L2.St} {H H' : Hp} {ta tb tc te tl : TE}
theorem walk_zs {x y : Str} {n : Nat} (hn : n = min x.cps.size y.cps.size) : Walk (ZsIt x y) n (fun _ => True) (fun i G v G' => ∃ T c d, v = .ref T ∧ G T = none ∧ G' = upd G T (.tup [.str ⟨#[c]⟩, .str ⟨#[d]⟩]) ∧ x.cps[i]? = some c ∧ y.cps[i]? = some d) := by
  subst hn
  exact ⟨fun _ _ hi _ => hi, fun _ _ => Nat.le_refl _, fun _ _ _ _ _ _ q => q⟩
abbrev vs1 (l : List Nat) : List V := l.map fun c => V.str (sg1 c)
theorem vs1_str (l : List Nat) : vs1 l = (l.map sg1).map V.str := by rw [List.map_map]; rfl
/-- ''.join of a list of signs -/
theorem r_join {l : List Nat} {p : Addr} {Q : VK} (hp : SqL K H p (vs1 l)) (hl : l.length ≤ 1000000) (q : Q (.str (tx l)) H) :
    ∃ a p', ∃ ys : List Str, (V.str (tx []) : V) = .str a ∧ [V.ref p] = [V.ref p'] ∧ (SqL K H p' (ys.map V.str) ∨ SqT K H p' (ys.map V.str)) ∧ (ys.map (·.length)).sum + ys.length * a.length ≤ 16777216 ∧ Q (.str (Txt.join a ys)) H := by
  refine ⟨tx [], p, l.map sg1, rfl, rfl, .inl (by rw [← vs1_str]; exact hp), ?_, ?_⟩
  · rw [sg1_len]
    show l.length + _ * 0 ≤ 16777216
    omega
  · rw [join_one]
    exact q
theorem str1_dec (c d : Nat) : decide ((V.str (sg1 c) : V) = V.str (sg1 d)) = decide (c = d) := by
  by_cases h : c = d
  · rw [decide_eq_true h, decide_eq_true (by rw [h])]
  · rw [decide_eq_false h, decide_eq_false]
    intro z
    have z2 : sg1 c = sg1 d := V.str.inj z
    have := congrArg (fun s : Str => s.cps.toList) z2
    simp [sg1] at this
    exact h this
theorem strtx_dec (a o : List Nat) : decide ((V.str (tx a) : V) = V.str (tx o)) = decide (a = o) := by
  by_cases h : a = o
  · rw [decide_eq_true h, decide_eq_true (by rw [h])]
  · rw [decide_eq_false h, decide_eq_false]
    intro z
    exact h (tx_inj (V.str.inj z))
theorem ev_chain {r r' : R2} {x y z : V} {b b' : Bool} (ha : Ev ta σ H x) (hb : Ev tb σ H y) (hr : RV r x y H (.bl b)) (hc : b = true → Ev tc σ H z) (hr' : b = true → RV r' y z H (.bl b')) : Ev (tChain r r' ta tb tc) σ H (.bl (b && b')) := fun H1 e Q q =>
  ha H1 e _ fun H2 e2 => hb H2 (e.trans e2) _ fun H3 e3 => hr H3 ((e.trans e2).trans e3) _ fun H4 e4 => ⟨b, rfl, by
    cases b with
    | true => exact iteT (hc rfl H4 (((e.trans e2).trans e3).trans e4) _ fun H5 e5 => hr' rfl H5 ((((e.trans e2).trans e3).trans e4).trans e5) _ fun H6 e6 => q H6 ((((e2.trans e3).trans e4).trans e5).trans e6))
    | false => exact iteF (q H4 ((e2.trans e3).trans e4))⟩
theorem ev_isi {x : V} {t n : String} {b : Bool} (ha : Ev ta σ H x) (ht : ∀ H1, Ex H H1 → TyX K H1 x (.type t)) (hk : kitB t n = some b) : Ev (tCB (rIsi K) (tCons ta (tCons (tC (.ty n)) tNil))) σ H (.bl b) := fun H1 e Q q =>
  ha H1 e _ fun H2 e2 => ⟨x, .ty n, _, _, b, rfl, .ty n, ht H2 (e.trans e2), kit_ty hk, q H2 e2⟩
theorem ev_all {bs : List Bool} (h : EvL tl σ H (bs.map V.bl)) : Ev (tCB (rAll K) (tCons tl tNil)) σ H (.bl (bs.all id)) := fun H1 e Q q =>
  h H1 e _ fun p H2 hp e2 h2 => ⟨p, bs, rfl, sq_of h2, q H2 e2⟩
theorem given_true (n : Nat) (v : Nat → V) : given n (fun _ => true) v = (List.range n).map v := by
  unfold given
  rw [List.filter_eq_self.mpr fun _ _ => rfl]
theorem c_call {sp : Sp} {E : XK} {ta : TA} {vs : List V} {Q : VK} (h : EvA ta σ H vs) (k : ∀ H2, Ex H H2 → sp vs H2 Q E) : tCall sp [] E ta σ H Q := h H (Ex.refl _) _ fun H2 e2 => by
  show sp (vs ++ []) H2 Q E
  rw [List.append_nil]
  exact k H2 e2
theorem c_call1 {sp : Sp} {E : XK} {ta : TA} {vs : List V} {Q : List V → Hp → Prop} (h : EvA ta σ H vs) (k : ∀ H2, Ex H H2 → sp vs H2 (fun x H3 => Q [x] H3) E) : tCons (tCall sp [] E ta) tNil σ H Q := c_call h k
theorem tyes {T E : Hp → Prop} (h : T H) : tYes σ H (fun b H3 => if b = true then T H3 else E H3) := by
  show if true = true then T H else E H
  rw [if_pos rfl]
  exact h
theorem et_yes : EvT tYes σ H true := fun H1 _ _ q => q H1 (Ex.refl _)
/-- a comprehension over a list of pairs -/
theorem el_lcP {a : Addr} {xs : List V} {i j : Nat} {vs : List Nat} (v : Nat → V) (h : Ev tl σ H (.ref a)) (hx : SqL K H a xs) (hz : xs.length ≤ 40000)
    (hw : ∀ p q, wipe (((wipe σ vs).set i (some p)).set j (some q)) vs = wipe σ vs)
    (hp : ∀ n x, xs[n]? = some x → ∃ t p q, x = .ref t ∧ SqT K H t [p, q] ∧ Ev te (((wipe σ vs).set i (some p)).set j (some q)) H (v n)) :
    EvL (tLc (iList K tl) (gTup K 2 (gCons (gName i) (gCons (gName j) gNil))) tYes te vs) σ H ((List.range xs.length).map v) := fun H0 e Q q => h H0 e _ fun H1 e1 => ⟨a, rfl, ⟨xs, ex_l (e.trans e1) hx⟩, fun Dl hD =>
  lc_list (xs := xs) (Cw H1 (fun _ => true) v Dl) ⟨hD, Ex.new hD, upd_same⟩ (fun i H' _ p => ex_l ((e.trans e1).trans p.2.1) hx) (fun n x H' hn p => by
      obtain ⟨t, x1, x2, rfl, hT, hE⟩ := hp n x hn
      exact ⟨t, [x1, x2], rfl, ex_t ((e.trans e1).trans p.2.1) hT, rfl, x1, [x2], rfl, x2, [], rfl, rfl, hw x1 x2, cw_turn (f := fun _ => true) p (by have := (List.getElem?_eq_some_iff.mp hn).1; omega) et_yes fun _ => hE.mono (e.trans e1)⟩)
    (fun H' p => q Dl H' (fresh_back e1 p.1) (e1.trans p.2.1) (by rw [p.2.2, given_true]))⟩
/-! pairs of texts -/
def PrT (K : PySem.W.Frag) (H : Hp) (v : V) (p : List Nat × List Nat) : Prop := ∃ t, v = .ref t ∧ H t = some (.tup [.str (tx p.1), .str (tx p.2)])
abbrev Prs (K : PySem.W.Frag) (H : Hp) (vs : List V) (ps : List (List Nat × List Nat)) : Prop := Paired (PrT K H) vs ps
theorem PrT.ex {v : V} {p : List Nat × List Nat} (e : Ex H H') (h : PrT K H v p) : PrT K H' v p := let ⟨t, a, c⟩ := h; ⟨t, a, e _ _ c⟩
theorem paired_mono {α γ : Type} {F G : α → γ → Prop} (h : ∀ a b, F a b → G a b) : ∀ {l : List α} {m : List γ}, Paired F l m → Paired G l m
  | _, _, .nil => .nil
  | _, _, .cons a t => .cons (h _ _ a) (paired_mono h t)
theorem paired_app {α γ : Type} {F : α → γ → Prop} : ∀ {l l' : List α} {m m' : List γ}, Paired F l m → Paired F l' m' → Paired F (l ++ l') (m ++ m')
  | _, _, _, _, .nil, h => h
  | _, _, _, _, .cons a t, h => .cons a (paired_app t h)
theorem paired_get {α γ : Type} {F : α → γ → Prop} : ∀ {l : List α} {m : List γ}, Paired F l m → ∀ (i : Nat) (x : α), l[i]? = some x → ∃ y, m[i]? = some y ∧ F x y
  | _, _, .nil, i, x, h => by simp at h
  | _, _, .cons a t, 0, x, h => by
    cases h
    exact ⟨_, rfl, a⟩
  | _, _, .cons a t, i + 1, x, h => paired_get t i x h
theorem Prs.ex {vs : List V} {ps : List (List Nat × List Nat)} (e : Ex H H') (h : Prs K H vs ps) : Prs K H' vs ps := paired_mono (fun _ _ q => q.ex e) h
/-- a list changed: the pairs stand -/
theorem Prs.upd {vs : List V} {ps : List (List Nat × List Nat)} {D : Addr} {xs : List V} {o : HO} (hD : H D = some (.lst xs)) (h : Prs K H vs ps) : Prs K (upd H D o) vs ps := paired_mono (fun v p ⟨t, a, c⟩ => ⟨t, a, by
  rw [upd_ne]
  · exact c
  · intro z
    rw [z, hD] at c
    cases c⟩) h
def dSS (p : List Nat × List Nat) : PyData := .tuple [.str (tx p.1), .str (tx p.2)]
theorem PrT.dp {v : V} {p : List Nat × List Nat} (h : PrT K H v p) : Dp K H v (dSS p) := by
  obtain ⟨t, rfl, c⟩ := h
  exact .tup (st_of c) (.cons (.str _) (.cons (.str _) .nil))
theorem Prs.dp : ∀ {vs : List V} {ps : List (List Nat × List Nat)}, Prs K H vs ps → DpAll K H vs (ps.map dSS)
  | _, _, .nil => .nil
  | _, _, .cons a t => .cons a.dp (Prs.dp t)
end
end Hid

namespace Hid
open PySem PySem.Spec PyProof.Rows L2
/-! sets of texts: the members as a list without doubles -/
def tKey (e : Int × Value) : Str := match e.2 with | .str k _ => k | _ => Str.empty
def TGood (w : World) (e : Int × Value) : Prop := ∃ k tk, e.2 = Value.str k tk ∧ e.1 = hashStr w k
def SetT (w : World) (h : Heap) (a : Addr) (xs : List Str) : Prop :=
  ∃ o es ep t, h.get? a = some o ∧ o.ExactSet ∧ o.data = .set es ep t ∧ (∀ e ∈ es.toList, TGood w e) ∧ (es.toList.map tKey).Perm xs ∧ xs.Nodup ∧ es.size < scanBound ∧ t.fits es.size = true ∧
    Ris t.place.toList ∧ (w.params.followText "set-order" = true ∨ t.led = true)
/-- one more, where it isn't in -/
def putT (x : Str) (xs : List Str) : List Str := if x ∈ xs then xs else x :: xs
theorem SetT.keep {w : World} {h h' : Heap} {a : Addr} {xs : List Str} (R : SetT w h a xs) (k : ∀ o, h.get? a = some o → h'.get? a = some o) : SetT w h' a xs := by
  obtain ⟨o, es, ep, t, ho, r⟩ := R
  exact ⟨o, es, ep, t, k o ho, r⟩
section
variable {P : Program} {w : World} {A : Around} {E : Value → Shared → Prop} {s : Shared} {a : Addr} {xs : List Str}
theorem tElems {l : List (Int × Value)} (g : ∀ e ∈ l, TGood w e) : ElemsOf (PySem.strKind P w) l := fun e he => by
  obtain ⟨k, tk, h1, h2⟩ := g e he
  refine ⟨⟨k, ?_, h2⟩, ?_⟩ <;> rw [h1]
  · exact strKind_is P w k tk
  · rfl
theorem tIs {e : Int × Value} (g : TGood w e) (k : Str) : (PySem.strKind P w).is k e.2 = true ↔ tKey e = k := by
  obtain ⟨k0, tk, h1, _⟩ := g
  unfold tKey
  rw [h1]
  constructor
  · intro z
    obtain ⟨u, hu⟩ := Value.isStrOf_shape (show Value.isStrOf k (Value.str k0 tk) = true from z)
    injection hu
  · intro z
    subst z
    exact strKind_is P w _ tk
/-- the stores behind a laying: the table is laid anew where it is too full -/
theorem tStore {g : Bool → Sem Unit} (hg : ∀ (b : Bool) (s₁ : Shared) (Q' : Unit → Shared → Prop), Q' () s₁ → wpAny (model P w) A (g b) Q' E s₁)
    {o : Obj} {es es1 : Array (Int × Value)} {ep : Nat} {t t2 : SetTable} {ys : List Str} (ho : s.heap.get? a = some o) (hex : o.ExactSet) (hd : o.data = .set es ep t)
    (g1 : ∀ e ∈ es1.toList, TGood w e) (p1 : (es1.toList.map tKey).Perm ys) (n1 : ys.Nodup) (b1 : es1.size < scanBound) (f2 : t2.fits es1.size = true) (r2 : Ris t2.place.toList) (l2 : w.params.followText "set-order" = true ∨ t2.led = true)
    {was : Bool} {R : Option Bool → Shared → Prop} (hR : ∀ h', Heap.SameBut a s.heap h' → SetT w h' a ys → R (some true) { s with heap := h' }) :
    wpAny (model P w) A (do
        storeSet a es1 t2
        if (!was && t2.tooFull) = true then do
            g (relayAll t2 es1 (SetTable.grown es1.size)).2.2
            storeSet a (relayAll t2 es1 (SetTable.grown es1.size)).1 (relayAll t2 es1 (SetTable.grown es1.size)).2.1
            pure (some true)
          else pure (some true)) R E s := by
  have sb1 := Heap.SameBut.update s.heap a (Obj.putSet es1 t2)
  have ho1 := store_at (es' := es1) (t' := t2) ho hd
  refine wpAny_bind (wpAny_storeSet_of ho hd ?_ (fits_of_scanBound b1))
  by_cases hfull : (!was && t2.tooFull) = true
  · rw [if_pos hfull]
    obtain ⟨pm, f3, r3, l3⟩ := And.intro (relayAll_perm t2 es1 (SetTable.grown es1.size)) (And.intro (relayAll_fits t2 es1 (SetTable.grown es1.size)) (And.intro (relayAll_ris t2 es1 (SetTable.grown es1.size)) (relayAll_led t2 es1 (SetTable.grown es1.size))))
    generalize relayAll t2 es1 (SetTable.grown es1.size) = Z at pm f3 r3 l3 ⊢
    obtain ⟨es2, t3, gave⟩ := Z
    dsimp only at pm f3 r3 l3 ⊢
    have hsz : es2.size < scanBound := by
      rw [← Array.length_toList, pm.length_eq, Array.length_toList]
      exact b1
    refine wpAny_bind (hg _ _ _ (wpAny_bind (wpAny_storeSet_of ho1 rfl ?_ (fits_of_scanBound hsz))))
    exact wpAny_pure (hR _ (sb1.trans (Heap.SameBut.update _ a _)) ⟨_, es2, _, t3, store_at (es' := es2) (t' := t3) ho1 rfl, hex, rfl, fun e he => g1 e (pm.mem_iff.mp he), (pm.map tKey).trans p1, n1, hsz, f3, r3, l2.imp id fun z => l3.trans z⟩)
  · rw [if_neg hfull]
    exact wpAny_pure (hR _ sb1 ⟨_, es1, _, t2, ho1, hex, rfl, g1, p1, n1, b1, f2, r2, l2⟩)
theorem tAdd {k : Str} {tk : Tok} {Q : Bool → Shared → Prop} (R : SetT w s.heap a xs) (room : xs.length + 1 < scanBound)
    (hQ : ∀ b h', Heap.SameBut a s.heap h' → SetT w h' a (putT k xs) → Q b { s with heap := h' }) :
    wpAny (model P w) A (setAddHashed a (.str k tk) ((PySem.strKind P w).hash k)) Q E s := by
  obtain ⟨o, es, ep, t, ho, hex, hd, g, pm, nd, hb, hf, hr, hl⟩ := R
  have hkey : (PySem.strKind P w).is k (.str k tk) = true := strKind_is P w k tk
  have hsc : (Value.str k tk).scannable = true := rfl
  have hel : ElemsOf (PySem.strKind P w) es.toList := tElems g
  unfold setAddHashed setAddHashedIn
  refine wpAny_holding (wpAny_bind (wpAny_setState_of ho hd hf ?_))
  dsimp only
  rw [byScan_of hsc hb hel] <;> simp only [↓reduceIte]
  unfold setAddByScan
  refine wpAny_bind (wpAny_bind (wpAny_rule (wpAny_bind (wpAny_setScan_of hkey ho hd hf hel ?_))))
  have mem_iff : k ∈ xs ↔ ∃ e ∈ es.toList, (PySem.strKind P w).is k e.2 = true := by
    rw [← pm.mem_iff, List.mem_map]
    exact ⟨fun ⟨e, he, q⟩ => ⟨e, he, (tIs (g e he) k).mpr q⟩, fun ⟨e, he, q⟩ => ⟨e, he, (tIs (g e he) k).mp q⟩⟩
  cases hfi : List.findIdx? (fun e => (PySem.strKind P w).is k e.2) es.toList with
  | some j =>
    dsimp only
    obtain ⟨hj, pj, _⟩ := List.findIdx?_eq_some_iff_getElem.mp hfi
    have hin : k ∈ xs := mem_iff.mpr ⟨es.toList[j], List.getElem_mem hj, pj⟩
    refine wpAny_pure (wpAny_pure (hQ _ s.heap (Heap.SameBut.refl a s.heap) ?_))
    unfold putT
    rw [if_pos hin]
    exact ⟨o, es, ep, t, ho, hex, hd, g, pm, nd, hb, hf, hr, hl⟩
  | none =>
    dsimp only
    have hin : k ∉ xs := fun z => by
      obtain ⟨e, he, q⟩ := mem_iff.mp z
      have c := List.findIdx?_eq_none_iff.mp hfi e he
      rw [q] at c
      cases c
    have hput : putT k xs = k :: xs := by unfold putT; rw [if_neg hin]
    have hgw : ∀ (b : Bool) {s₁ : Shared} {Q' : Unit → Shared → Prop}, Q' () s₁ → wpAny (model P w) A (match b with | true => rule "set.scan.the-table-gave-way" | false => pure ()) Q' E s₁ := fun b s₁ Q' q => by
      cases b
      · exact wpAny_pure q
      · exact wpAny_rule q
    obtain ⟨lp, lf, lr, ll⟩ := And.intro (layNew_perm t es ((PySem.strKind P w).hash k) (.str k tk)) (And.intro (layNew_fits t es ((PySem.strKind P w).hash k) (.str k tk)) (And.intro (layNew_ris t es ((PySem.strKind P w).hash k) (.str k tk) hr) (layNew_led t es ((PySem.strKind P w).hash k) (.str k tk))))
    generalize layNew t es ((PySem.strKind P w).hash k) (.str k tk) = Z at lp lf lr ll ⊢
    obtain ⟨es1, t1, was, gave⟩ := Z
    dsimp only at lp lf lr ll ⊢
    rw [Array.toList_push] at lp
    have pc : es1.toList.Perm (((PySem.strKind P w).hash k, Value.str k tk) :: es.toList) := lp.trans (List.perm_append_singleton _ _)
    have p1 : (es1.toList.map tKey).Perm (putT k xs) := by
      rw [hput]
      exact (pc.map tKey).trans (List.Perm.cons k pm)
    have n1 : (putT k xs).Nodup := by
      rw [hput]
      exact List.nodup_cons.mpr ⟨hin, nd⟩
    have g1 : ∀ e ∈ es1.toList, TGood w e := fun e he => by
      rcases List.mem_cons.mp (pc.mem_iff.mp he) with z | z
      · rw [z]
        exact ⟨k, tk, rfl, rfl⟩
      · exact g e z
    have b1 : es1.size < scanBound := by
      rw [← Array.length_toList, pc.length_eq, List.length_cons, ← List.length_map (f := tKey), pm.length_eq]
      exact room
    have l1 : w.params.followText "set-order" = true ∨ t1.led = true := hl.imp id fun z => ll.trans z
    refine wpAny_bind (hgw _ ?_)
    split
    · refine wpAny_bind ?_
      rw [hashByValue_scannable 8 hsc]
      refine wpAny_pure (tStore (fun b s₁ Q' q => hgw b q) ho hex hd g1 p1 n1 b1 ?_ ?_ ?_ ?_)
      · first | (split <;> first | exact lf | exact SetTable.fits_plain_off lf) | exact lf
      · first | (split <;> exact lr) | exact lr
      · first | (split <;> exact l1) | exact l1
      · exact fun h' sb r => wpAny_pure (hQ _ h' sb r)
    · refine wpAny_bind (wpAny_pure ?_)
      simp only [↓reduceIte]
      exact tStore (fun b s₁ Q' q => hgw b q) ho hex hd g1 p1 n1 b1 lf lr l1 fun h' sb r => wpAny_pure (hQ _ h' sb r)
end
/-- all of a list put in, one behind the other -/
def putAll (xs : List Str) : List Str → List Str
  | [] => xs
  | y :: ys => putAll (putT y xs) ys
theorem putAll_snoc (xs : List Str) (y : Str) : ∀ ys, putAll xs (ys ++ [y]) = putT y (putAll xs ys) := by
  intro ys
  induction ys generalizing xs with
  | nil => rfl
  | cons z ys ih => exact ih (putT z xs)
theorem putT_mem {x y : Str} {xs : List Str} : y ∈ putT x xs ↔ y = x ∨ y ∈ xs := by
  unfold putT
  split
  · rename_i h
    exact ⟨.inr, fun z => z.elim (fun e => e ▸ h) id⟩
  · rw [List.mem_cons]
theorem putT_nodup {x : Str} {xs : List Str} (h : xs.Nodup) : (putT x xs).Nodup := by
  unfold putT
  split
  · exact h
  · rename_i n
    exact List.nodup_cons.mpr ⟨n, h⟩
theorem putT_len (x : Str) (xs : List Str) : (putT x xs).length ≤ xs.length + 1 := by
  unfold putT
  split
  · exact Nat.le_succ _
  · exact Nat.le_refl _
theorem putAll_mem {y : Str} : ∀ (ys xs : List Str), y ∈ putAll xs ys ↔ y ∈ xs ∨ y ∈ ys
  | [], xs => by simp [putAll]
  | z :: ys, xs => by
    show y ∈ putAll (putT z xs) ys ↔ _
    rw [putAll_mem ys, putT_mem, List.mem_cons]
    constructor
    · rintro ((h | h) | h)
      · exact .inr (.inl h)
      · exact .inl h
      · exact .inr (.inr h)
    · rintro (h | h | h)
      · exact .inl (.inr h)
      · exact .inl (.inl h)
      · exact .inr h
theorem putAll_nodup : ∀ (ys xs : List Str), xs.Nodup → (putAll xs ys).Nodup
  | [], _, h => h
  | z :: ys, xs, h => putAll_nodup ys _ (putT_nodup h)
theorem putAll_len : ∀ (ys xs : List Str), (putAll xs ys).length ≤ xs.length + ys.length
  | [], _ => Nat.le_refl _
  | z :: ys, xs => by
    have := putAll_len ys (putT z xs)
    have := putT_len z xs
    show (putAll (putT z xs) ys).length ≤ xs.length + (ys.length + 1)
    omega
section
variable {prog : Program} {w : World} {A : Around} {R : Result → Shared → Prop} {I : Addr} {fp wr : List Addr} {G : Array GenState → Array GenState → Prop} {n : Nat} {Pv : Nat → Value → Prop} {St : Nat → Shared → Prop}
theorem tFill (W : WalksS prog w A.in1 I fp wr G n Pv St) (S : Addr) (hSf : S ∉ fp) (xs : List Str) (hlen : xs.length = n) (hsm : n < 4000) (hval : ∀ i v, Pv i v → ∃ t, v = .str (xs.getD i Str.empty) t) :
    ∀ (k i : Nat) (s : Shared), n - i = k → i ≤ n → St i s → SetT w s.heap S (putAll [] (xs.take i)) →
      (∀ s', Moved (S :: wr) G s s' → SetT w s'.heap S (putAll [] xs) → R (.ok (.ret .none)) s') → codeAny (model prog w) A (.builtin "set.update.loop" ⟨[.ref S, .ref I], []⟩) R s := by
  have hSw : S ∉ wr := fun h => hSf (W.sub _ h)
  have up : ∀ b ∈ wr, b ∈ S :: wr := fun b hb => List.mem_cons_of_mem _ hb
  intro k
  induction k with
  | zero =>
    intro i s hk hi hst hS hR
    obtain rfl : i = n := by omega
    refine codeAny_builtin PyProof.Rows.F.entry_set_update_loop ?_
    rw [Around.under_plainId PyProof.Rows.F.plain_set_update_loop _] <;> show wpAny _ A.in1 (pyNext (.ref I) >>= _) _ _ s
    refine wpAny_bind (W.done s _ _ hst fun s' hm => ?_)
    show wpAny _ A.in1 (ret Value.none) _ _ s'
    rw [List.take_of_length_le (Nat.le_of_eq hlen)] at hS
    exact wpAny_pure (hR s' (hm.mono up) (hS.keep fun o e => hm.heap S _ hSw e))
  | succ k ih =>
    intro i s hk hi hst hS hR
    have hlt : i < n := by omega
    refine codeAny_builtin PyProof.Rows.F.entry_set_update_loop ?_
    rw [Around.under_plainId PyProof.Rows.F.plain_set_update_loop _] <;> show wpAny _ A.in1 (pyNext (.ref I) >>= _) _ _ s
    refine wpAny_bind (W.item i s _ _ hlt hst fun v s' hP hst' hm => ?_)
    obtain ⟨t, rfl⟩ := hval i v hP
    show wpAny _ A.in1 (holding [Value.str (xs.getD i Str.empty) t] (setAdd S (.str (xs.getD i Str.empty) t)) >>= _) _ _ s'
    refine wpAny_bind (wpAny_holding ?_) <;> unfold setAdd
    refine wpAny_holding (wpAny_bind ((PySem.strKind prog w).pyHash (k := xs.getD i Str.empty) (strKind_is _ _ _ _) ?_))
    have hroom : (putAll [] (xs.take i)).length + 1 < scanBound := by
      have h1 := putAll_len (xs.take i) []
      have h2 : (xs.take i).length ≤ i := by rw [List.length_take]; omega
      have h3 : scanBound = 4096 := rfl
      rw [List.length_nil] at h1
      omega
    refine tAdd (s := { s' with toks := s'.toks + 1 }) (hS.keep fun o e => hm.heap S _ hSw e) hroom fun b h' sb hS2 => ?_
    have hS3 : SetT w h' S (putAll [] (xs.take (i + 1))) := by
      have e : xs.take (i + 1) = xs.take i ++ [xs.getD i Str.empty] := by
        rw [List.take_add_one, List.getD_eq_getElem?_getD, List.getElem?_eq_getElem (by omega)]
        rfl
      rw [e, putAll_snoc]
      exact hS2
    refine wpAny_pure ⟨plainId_quiet PyProof.Rows.F.plain_set_update_loop _, ih (i + 1) _ (by omega) hlt (W.frame _ s' _ _ hst' (Nat.le_succ _) fun b hb o e => ?_) hS3 fun s'' hm2 hS4 => ?_⟩
    · rw [sb.2 b (fun h : b = S => hSf (by rw [← h]; exact hb))]
      exact e
    · refine hR s'' (Moved.trans W.gtrans ((hm.mono up).then_heap (Nat.le_succ _) fun b o hb e => ?_) hm2) hS4
      rw [sb.2 b (fun h : b = S => hb (by rw [h]; exact List.mem_cons_self))]
      exact e
end
/-! set(t), t a tuple of texts; sorted of a set of texts -/
abbrev newSet (led : Bool) : Obj := { cls := .type "set", dict := none, data := .set #[] 0 (.fresh 0 0 led) }
theorem newSet_ok {w : World} {h : Heap} {a : Addr} {led : Bool} (hl : w.params.followText "set-order" = true ∨ led = true) (e : h.get? a = some (newSet led)) : SetT w h a [] := by
  refine ⟨_, #[], 0, .fresh 0 0 led, e, ⟨rfl, rfl, rfl⟩, rfl, (fun e m => absurd m (by simp)), List.Perm.refl _, List.nodup_nil, (by decide), rfl, List.Pairwise.nil, hl⟩
section
variable {prog : Program} {w : World} {A : Around} {E : Value → Shared → Prop} {s : Shared}
theorem tSetNew (a : Value) {Q₁ : Value → Shared → Prop} (h : Q₁ (.ref s.heap.objs.size) { s with heap := s.heap.push (newSet (!w.params.followText "set-order")) }) :
    codeAny (model prog w) A (.call (.builtin "set.__new__") ⟨[.type "set", a], []⟩) (wants Q₁ E) s := by
  refine codeAny_of_tree ?_
  show wpAny _ A.in1 (do checkBuiltinCall "set.__new__" ⟨[.type "set", a], []⟩; again (.builtin "set.__new__" ⟨[.type "set", a], []⟩)) _ _ s
  refine wpAny_bind (wpAny_of_eq (PySem.F.newCall_set_1 a) (wpAny_pure ⟨plainId_quiet PySem.F.plain_set_new _, codeAny_builtin PySem.F.entry_set_new ?_⟩))
  rw [Around.under_plainId PySem.F.plain_set_new _] <;> unfold Builtin.«set.__new__» Builtin.Frozenset.newClass
  have hsub := sub_set_self; obtain ⟨hp, g, d, tk, os⟩ := s
  dsimp only <;> wp_walk
  refine wpAny_askSetting (wpAny_pure ?_) <;> dsimp only <;> simp only [newObj]
  exact wpAny_bind (wpAny_alloc (wpAny_pure (wpAny_pure h)))
theorem tSetOf {l : Addr} {items : Array Value} {xs : List Str} {Q : Value → Shared → Prop} (hh : A.handled = none) (hl : s.heap.IsTuple l items) (hi : StrsAre items.toList xs) (hsm : xs.length < 4000)
    (h : ∀ (h' : Heap) (tk : Nat), SetT w h' s.heap.objs.size (putAll [] xs) → (∀ b o, b < s.heap.objs.size → s.heap.get? b = some o → h'.get? b = some o) → Q (.ref s.heap.objs.size) { s with heap := h', toks := tk }) :
    wpAny (model prog w) A (call (.type "set") [.ref l]) Q E s := by
  obtain ⟨c, tl, hmro⟩ := PySem.F.called_set.mro
  have hmade := PySem.F.called_set.made; have hsub := PySem.F.called_set.sub
  refine wpAny_call (codeAny_of_tree ?_)
  show wpAny _ _ (callAny (.type "set") _) _ _ _
  refine wpAny_pure ⟨Code.quiet_builtin _ (by decide +kernel), codeAny_builtin PySem.F.entry_type_call ?_⟩
  rw [Around.under_plain (weight_type_call_type "set" [.ref l] []) rfl]
  have h1 := PySem.F.called_set.notType; have h2 := PySem.F.called_set.canCreate; have hct := PySem.F.typeCall_set_1 (.ref l)
  repeat any_goals (first | assumption | wp_step)
  refine codeAny_mono (tSetNew (.ref l) (E := E) (Q₁ := fun obj s₁ => obj = .ref s.heap.objs.size ∧ s₁ = { s with heap := s.heap.push (newSet (!w.params.followText "set-order")) }) ⟨rfl, rfl⟩) fun r s₁ hr => ?_
  cases r with
  | error e => exact hr
  | ok fl =>
    cases fl with
    | next => exact hr.elim
    | brk => exact hr.elim
    | cont => exact hr.elim
    | ret obj =>
      obtain ⟨rfl, rfl⟩ := hr
      generalize hled : (!w.params.followText "set-order") = led
      have hlo : w.params.followText "set-order" = true ∨ led = true := by
        rw [← hled]
        cases w.params.followText "set-order" <;> simp
      have hS : (s.heap.push (newSet led)).get? s.heap.objs.size = some (newSet led) := Heap.get?_push_size _ rfl
      have hT : Shared.TypeIs { s with heap := s.heap.push (newSet led) } (.ref s.heap.objs.size) "set" := ⟨_, hS, rfl⟩
      have hli := PySem.F.called_set.init.lookup; have hbi := PySem.F.called_set.init.bind (.ref s.heap.objs.size)
      repeat any_goals (first | assumption | wp_step)
      refine codeAny_mono (codeAny_call_builtin (R := wants (fun r s₂ => r = .none ∧ ∃ h' tk, s₂ = { s with heap := h', toks := tk } ∧ SetT w h' s.heap.objs.size (putAll [] xs) ∧ (∀ b o, b < s.heap.objs.size → s.heap.get? b = some o → h'.get? b = some o)) E) PySem.F.called_set.init.plain PySem.F.entry_set_init (check_set_init_1 hT ?_)) fun r₂ s₂ hr₂ => ?_
      · obtain ⟨⟨ocls, odict, odata, oslots⟩, hol, hcl, nl, hdl⟩ := hl
        simp only at hcl hdl
        subst hcl; subst hdl
        have hol' : (s.heap.push (newSet led)).get? l = some { cls := .type "tuple", dict := odict, data := .seq items nl, slots := oslots } := Heap.get?_push_of_some _ hol
        have hsls := PySem.F.sub_tuple_set; have hslf := PySem.F.sub_tuple_frozenset
        have hne : (Value.type "tuple" == Value.type "dict") = false := by decide
        have hl1 : (s.heap.push (newSet led)).IsTuple l items := ⟨_, hol', rfl, nl, rfl⟩
        unfold Builtin.«set.__init__» noKeywords Builtin.Frozenset.updateFrom
        generalize hPI : pyIter = PI
        wp_walk
        subst hPI
        refine wpAny_pyIter_tuple hl1 (wpAny_bind (wpAny_runValue ?_))
        have hlS : l < s.heap.objs.size := Heap.lt_size hol
        have hh3 : A.in1.in1.in1.handled = none := by simp [hh]
        have hneI : l ≠ (s.heap.push (newSet led)).objs.size := by
          rw [Heap.size_push]
          exact Nat.ne_of_lt (Nat.lt_succ_of_lt hlS)
        have hSf : s.heap.objs.size ∉ [(s.heap.push (newSet led)).objs.size, l] := by
          rw [Heap.size_push]
          simp only [List.mem_cons, List.not_mem_nil, or_false, not_or]
          exact ⟨Nat.ne_of_lt (Nat.lt_succ_self _), Nat.ne_of_gt hlS⟩
        have hsz : xs.length = items.size := by rw [← StrsAre.len_eq hi, Array.length_toList]
        refine tFill ((Walks.tuple hh3 _ l hneI items).toS) s.heap.objs.size hSf xs hsz (by omega) (fun i v hv => SS.strs_at hi i v (by rw [Array.getElem?_toList]; exact hv)) (items.size - 0) 0 _ (by omega) (Nat.zero_le _)
          ⟨⟨_, Heap.get?_push_size _ rfl, rfl, rfl⟩, (hl1.push _)⟩ (newSet_ok hlo (Heap.get?_push_of_some _ hS)) fun s' hm hS' => ?_
        obtain ⟨h', g', d', tk', os'⟩ := s'
        obtain rfl : g' = s.gens := hm.gens
        obtain rfl : d' = s.drawn := hm.drawn
        obtain rfl : os' = s.os := hm.os
        show wpAny _ _ _ _ _ _
        refine wpAny_pure ?_
        show wpAny _ _ (ret Value.none) _ _ _
        refine wpAny_pure ⟨rfl, h', tk', rfl, hS', fun b o hb e => hm.heap b o ?_ (Heap.get?_push_of_some _ (Heap.get?_push_of_some _ e))⟩
        simp only [List.mem_cons, List.not_mem_nil, or_false, not_or]
        refine ⟨Nat.ne_of_lt hb, ?_⟩
        rw [Heap.size_push]
        exact Nat.ne_of_lt (Nat.lt_succ_of_lt hb)
      · cases r₂ with
        | error e => exact hr₂
        | ok fl₂ =>
          cases fl₂ with
          | next => exact hr₂.elim
          | brk => exact hr₂.elim
          | cont => exact hr₂.elim
          | ret r =>
            obtain ⟨rfl, h', tk, rfl, hS', hk'⟩ := hr₂
            repeat any_goals (first | assumption | wp_step)
            exact h _ _ hS' hk'
end
end Hid

namespace Hid
open PySem PySem.Spec PyProof.Rows L2
def strLe (a b : Str) : Bool := decide (a.cps.toList ≤ b.cps.toList)
theorem str_ext {a b : Str} (h : a.cps.toList = b.cps.toList) : a = b := by
  cases a; cases b
  simp at h
  simpa using h
/-- rising, no two alike -/
abbrev Rise (ys : List Str) : Prop := ys.Pairwise fun a b => a.cps.toList < b.cps.toList
theorem rise_of {ks : List Str} (nd : ks.Nodup) : Rise (ks.mergeSort strLe) ∧ (ks.mergeSort strLe).Perm ks := by
  have pm := List.mergeSort_perm ks strLe
  refine ⟨?_, pm⟩
  have h1 : (ks.mergeSort strLe).Pairwise fun a b => strLe a b = true := List.pairwise_mergeSort (le := strLe) (fun a b c x y => by
      unfold strLe at *
      exact decide_eq_true (List.le_trans (of_decide_eq_true x) (of_decide_eq_true y))) (fun a b => by
      unfold strLe
      rcases List.le_total a.cps.toList b.cps.toList with h | h
      · rw [decide_eq_true h]; rfl
      · rw [decide_eq_true h, Bool.or_true]) ks
  have h2 : (ks.mergeSort strLe).Nodup := pm.nodup_iff.mpr nd
  refine (List.pairwise_and_iff.mpr ⟨h1, h2⟩ : (ks.mergeSort strLe).Pairwise fun a b => strLe a b = true ∧ a ≠ b).imp fun {a b} h => ?_
  have hle : a.cps.toList ≤ b.cps.toList := of_decide_eq_true h.1
  by_cases z : a.cps.toList < b.cps.toList
  · exact z
  · exact absurd (str_ext (List.le_antisymm hle (List.not_lt.mp z))) h.2
theorem each_mono2 {α γ : Type} {R R' : α → γ → Prop} (h : ∀ a b, R a b → R' a b) : ∀ {l : List α} {m : List γ}, PySem.W.EachIs R l m → PySem.W.EachIs R' l m
  | _, _, .nil => .nil
  | _, _, .cons a t => .cons (h _ _ a) (each_mono2 h t)
theorem vals_of_strs : ∀ {us : List Value} {ys : List Str}, StrsAre us ys → Vals (ys.map V.str) us
  | _, _, .nil => .nil
  | _, _, .cons n t h => .cons ⟨t, rfl⟩ (vals_of_strs h)
theorem each_strs {R : Value → Str → Prop} (hR : ∀ v k, R v k → ∃ t, v = .str k t) : ∀ {out : List Value} {ks : List Str}, PySem.W.EachIs R out ks → StrsAre out ks
  | _, _, .nil => .nil
  | _, _, .cons h t => by
    obtain ⟨u, rfl⟩ := hR _ _ h
    exact .cons _ u (each_strs hR t)
theorem strs_each : ∀ {vs : List Value}, (∀ v ∈ vs, ∃ k t, v = Value.str k t) → ∃ ks : List Str, PySem.W.EachIs (fun v k => ∃ t, v = Value.str k t) vs ks ∧ ks = vs.map fun v => tKey (0, v)
  | [], _ => ⟨[], .nil, rfl⟩
  | v :: vs, h => by
    obtain ⟨k, t, rfl⟩ := h v List.mem_cons_self
    obtain ⟨ks, e, q⟩ := strs_each fun u hu => h u (List.mem_cons_of_mem _ hu)
    exact ⟨k :: ks, .cons ⟨t, rfl⟩ e, by rw [q]; rfl⟩
section
variable {P : Program} {w : World} {A : Around} {E : Value → Shared → Prop} {s : Shared} {a : Addr} {xs : List Str}
theorem tSorted {Q : Value → Shared → Prop} (R : SetT w s.heap a xs) (hh : A.handled = none) (hu : A.units + 64 < cLine)
    (hQ : ∀ s' p (out : Array Value) (c : Nat) (ys : List Str), (∀ b o, s.heap.get? b = some o → s'.heap.get? b = some o) → s'.gens = s.gens → s'.os = s.os → s.heap.objs.size ≤ p →
      s'.heap.get? p = some (seqObj "list" out c) → StrsAre out.toList ys → Rise ys → ys.Perm xs → Q (.ref p) s') :
    wpAny (model P w) A (call (.builtin "sorted") [.ref a]) Q E s := by
  obtain ⟨o, es, ep, t, ho, hex, hd, g, pm, nd, hb, hf, hr, hl⟩ := R
  refine Calls.call_function_entry kind_sorted plain_sorted entry_sorted (args_sorted1 _) ?_
  unfold Builtin.«sorted»
  refine wpAny_bind (m := checkCount "sorted" 1 1 _) (wpAny_pure (wpAny_bind (collect_set (A := A.in1) hh ⟨o, ho, hex.1, hd⟩ hf hb hr hl fun s1 vs k1 hz g1 o1 pv => ?_)))
  obtain ⟨ks, ek, hks⟩ := strs_each (vs := vs) fun v hv => by
    obtain ⟨e, he, q⟩ := List.mem_map.mp (pv.mem_iff.mp hv)
    obtain ⟨k, tk, h1, _⟩ := g e he
    exact ⟨k, tk, by rw [← q]; exact h1⟩
  have pk : ks.Perm xs := by
    have q := pv.map fun v => tKey (0, v)
    rw [List.map_map] at q
    rw [hks]
    exact q.trans pm
  have hvl : vs.length < 4096 := by
    rw [pv.length_eq, List.length_map, Array.length_toList]
    exact hb
  have hkl : ks.length = vs.length := ek.length.symm
  refine wpAny_bind (wpAny_newList ?_ (by rw [sizeLine_eq]; omega))
  have hoL : (s1.heap.push (seqObj "list" vs.toArray 0)).get? s1.heap.objs.size = some (seqObj "list" vs.toArray 0) := Heap.get?_push_size _ rfl
  refine wpAny_bind (wpAny_holding ?_)
  refine PySem.W.list_sort_data (s := { s1 with heap := s1.heap.push (seqObj "list" vs.toArray 0) }) (enc := fun k : Str => PyData.str k) hoL ek (each_mono2 (fun v k h => ?_) ek) ?_ ?_ (by rw [sizeLine_eq]; omega) (fun k _ => ?_) fun out hlo eo => ?_
  · obtain ⟨t, rfl⟩ := h
    exact ⟨[], .str k t, fun m => nomatch m⟩
  · exact PySem.W.AllAlike.of fun _ _ => by simp [PySem.W.alike]
  · exact PySem.W.Sortable.others fun _ => ⟨(fun z => nomatch z), (fun _ z => nomatch z)⟩
  · show A.in1.units + 1 + PyData.depth (.str k) < cLine
    have : PyData.depth (.str k) = 0 := by simp [PyData.depth]
    have h2 : A.in1.units = A.units + 1 := rfl
    omega
  · rw [PySem.W.dataLe_str (β := Str) (fun k => k)] at eo
    obtain ⟨c, hc⟩ := sortedHeap_at (vs := vs) (out := out.toArray) hoL
    obtain ⟨rs, rp⟩ := rise_of (pk.nodup_iff.mpr nd)
    refine wpAny_pure ⟨_, rfl, hQ _ s1.heap.objs.size out.toArray c (ks.mergeSort strLe) (fun b u e => ?_) g1 o1 hz hc (by rw [List.toList_toArray]; exact each_strs (fun _ _ h => h) eo) rs (rp.trans pk)⟩
    have q := k1 b u e
    have hlt := Heap.lt_size q
    show (sortedHeap (s1.heap.push (seqObj "list" vs.toArray 0)) s1.heap.objs.size vs out.toArray).get? b = some u
    rw [sortedHeap_old (Nat.ne_of_lt hlt) (by rw [size_push']; exact Nat.lt_succ_of_lt hlt)]
    exact Heap.get?_push_of_some _ q
end
/-- sorted(set(e)), e a tuple of texts -/
def tSortSet (K : PySem.W.Frag) (te : TE) : TE := fun σ H Q => te σ H fun v H1 => ∃ (a : Addr) (xs : List Str), v = .ref a ∧ SqT K H1 a (xs.map V.str) ∧ xs.length < 4000 ∧ ∀ (ys : List Str) (p : Addr), Rise ys → ys.length ≤ xs.length → (∀ x, x ∈ ys ↔ x ∈ xs) → H1 p = none → Q (.ref p) (upd H1 p (.lst (ys.map V.str)))
theorem pe_sortSet {X : Cx} {e : Expr} {te : TE} {p p2 pos pos2 : Pos} (hc : X.calm = true) (hu : X.A.units + 64 < cLine) (hg : Gl X "sorted") (hm : X.mg "sorted" = none) (hg2 : Gl X "set") (hm2 : X.mg "set" = none) (he : PE X e te)
    (hs : starEach [e] X.env = (false, eval e X.env) :: starEach [] X.env := by rfl)
    (hs2 : starEach [.Call (.Name "set" p2) [e] [] pos2] X.env = (false, eval (.Call (.Name "set" p2) [e] [] pos2) X.env) :: starEach [] X.env := by rfl) :
    PE X (.Call (.Name "sorted" p) [.Call (.Name "set" p2) [e] [] pos2] [] pos) (tSortSet X.K te) := by
  refine ⟨fun pins s σ H Q I h => ?_⟩
  refine wpAny_Call_Name_kw (ld_blt I hg hm (by decide +kernel : bootBuiltins "sorted" = some (.builtin "sorted")) ?_)
  refine callWith_builtin1 (args_cons (Call_ (ld_blt I hg2 hm2 (by decide +kernel : bootBuiltins "set" = some (.type "set")) (callWith_type1 (args_cons (thn (he.run pins s σ H _ I h) fun u s1 ⟨v, H1, I1, r1, q1⟩ => args_nil ?_) hs) hs rfl))) hs2) hs2 rfl
  obtain ⟨a, xs, ev, hq, hsm, q⟩ := q1
  subst ev
  obtain rfl : u = Value.ref a := r1
  obtain ⟨its, rv, p', hz⟩ := I1.tuple hq
  have hh := I1.ok.hd hc
  refine tSetOf hh p' (by rw [List.toList_toArray]; exact strs_of_vals rv) hsm fun h' tk hS hk => args_nil ?_
  have I2 : Inv X pins σ H1 { s1 with heap := h', toks := tk } := I1.kept (t' := tk) fun b o e => hk b o (Heap.lt_size e) e
  refine tSorted (s := { s1 with heap := h', toks := tk }) hS hh hu fun s' p3 out c ys k g o hp hget hst hri hpm => ?_
  have hn : H1 p3 = none := I2.hok.fresh hp
  have hys : ys.length ≤ sizeLine := by
    have h1 := putAll_len xs []
    rw [hpm.length_eq, sizeLine_eq]
    rw [List.length_nil] at h1
    omega
  have J : Inv X pins σ (upd H1 p3 (.lst (ys.map V.str))) { ({ s1 with heap := h', toks := tk } : Shared) with heap := s'.heap, gens := s'.gens, drawn := s'.drawn, toks := s'.toks } :=
    I2.call (ch := []) (Un.laid k hp hn) (I2.hok.laid k hp ⟨by rw [List.length_map]; exact hys, out.toList, c, vals_of_strs hst, hget⟩) (by rw [g]; exact I2.bare) (fun _ z => nomatch z)
  have e : s' = { ({ s1 with heap := h', toks := tk } : Shared) with heap := s'.heap, gens := s'.gens, drawn := s'.drawn, toks := s'.toks } := by
    have o2 : s'.os = s1.os := o
    obtain ⟨x1, x2, x3, x4, x5⟩ := s'
    dsimp only at o2 ⊢
    rw [o2]
  rw [e]
  refine ⟨.ref p3, _, J, rfl, q ys p3 hri (by have h1 := putAll_len xs []; rw [List.length_nil] at h1; rw [hpm.length_eq]; omega) (fun x => ?_) hn⟩
  rw [hpm.mem_iff, putAll_mem]
  simp
end Hid

namespace Hid
open PySem PySem.Spec PyProof.Rows L2
/-! t[::-1] -/
theorem back_pick (xs : Array Value) : ((List.range xs.size).filterMap fun (k : Nat) => xs[(((xs.size : Int) - 1) + (k : Int) * (-1)).toNat]?).toArray = xs.toList.reverse.toArray := by
  congr 1
  have h1 : ((List.range xs.size).filterMap fun (k : Nat) => xs[(((xs.size : Int) - 1) + (k : Int) * (-1)).toNat]?) = (List.range xs.size).map fun k => xs.getD (xs.size - 1 - k) .none := by
    have : ∀ l : List Nat, (∀ k ∈ l, k < xs.size) → (l.filterMap fun (k : Nat) => xs[(((xs.size : Int) - 1) + (k : Int) * (-1)).toNat]?) = l.map fun k => xs.getD (xs.size - 1 - k) .none := by
      intro l
      induction l with
      | nil => intro _; rfl
      | cons k l ih =>
        intro h
        have hk := h k List.mem_cons_self
        have e : (((xs.size : Int) - 1) + (k : Int) * (-1)).toNat = xs.size - 1 - k := by omega
        have hlt : xs.size - 1 - k < xs.size := by omega
        rw [List.filterMap_cons, e, Array.getElem?_eq_getElem hlt, List.map_cons, ← ih fun z hz => h z (List.mem_cons_of_mem _ hz)]
        simp [Array.getD, hlt]
    exact this _ fun k hk => List.mem_range.mp hk
  rw [h1]
  apply List.ext_getElem?
  intro i
  by_cases hi : i < xs.size
  · have hlt : xs.size - 1 - i < xs.size := by omega
    rw [List.getElem?_map, List.getElem?_range hi, List.getElem?_reverse (by rw [Array.length_toList]; exact hi)]
    simp [Array.getD, hlt]
  · rw [List.getElem?_eq_none (by rw [List.length_map, List.length_range]; omega), List.getElem?_eq_none (by rw [List.length_reverse, Array.length_toList]; omega)]
section
variable {prog : Program} {w : World} {A : Around} {E : Value → Shared → Prop} {s : Shared}
theorem back_applied {sl : Addr} {vs : Value} {n : Nat} {Q : Int × Int × Nat → Shared → Prop} (hs : s.heap.IsSliceOf sl .none .none vs) (ps : IsPart vs (some (-1))) (h : Q ((n : Int) - 1, -1, n) s) :
    wpAny (model prog w) A (Builtin.Slice.sliceApplied (.ref sl) (pure (n : Int))) Q E s := by
  obtain ⟨os, hos, hcs, hds⟩ := id hs
  unfold Builtin.Slice.sliceApplied Builtin.Slice.sliceFields
  refine wpAny_bind (wpAny_bind (wpAny_field hos hds (x := .none) rfl (wpAny_bind (wpAny_field hos hds (x := .none) rfl (wpAny_bind (wpAny_field hos hds (x := vs) rfl (wpAny_pure ?_)))))))
  refine wpAny_bind (HT.slicePart_ ps ?_)
  show wpAny _ _ (if ((-1 : Int) == 0) = true then _ else _) _ _ s
  rw [if_neg (by decide)]
  refine wpAny_bind (HT.slicePart_ .none (wpAny_bind (HT.slicePart_ .none (wpAny_bind (wpAny_pure ?_)))))
  have e1 : Builtin.Slice.sliceAdjust none none (-1) (n : Int) = ((n : Int) - 1, -1) := by simp [Builtin.Slice.sliceAdjust]
  have e2 : Builtin.Slice.slicePlaces ((n : Int) - 1) (-1) (-1) = n := by
    unfold Builtin.Slice.slicePlaces
    have h1 : ¬ ((-1 : Int) > 0) := by decide
    simp only [h1, if_false]
    split
    · rw [show (-(-1) : Int) = 1 by decide, Int.ediv_one]
      omega
    · omega
  show wpAny _ _ (match Builtin.Slice.sliceAdjust none none (-1) (n : Int) with | (lo, hi) => pure (lo, (-1 : Int), Builtin.Slice.slicePlaces lo hi (-1))) _ _ s
  rw [e1]
  show wpAny _ _ (pure ((n : Int) - 1, (-1 : Int), Builtin.Slice.slicePlaces ((n : Int) - 1) (-1) (-1))) _ _ s
  rw [e2]
  exact wpAny_pure h
theorem back_item {t sl : Addr} {items : Array Value} {vs : Value} {Q : Value → Shared → Prop} (ht : IsTup s.heap t items) (hs : s.heap.IsSliceOf sl .none .none vs) (ps : IsPart vs (some (-1))) (hsz : items.size ≤ sizeLine)
    (h : Q (.ref s.heap.objs.size) { s with heap := s.heap.push { cls := .type "tuple", data := .seq items.toList.reverse.toArray } }) : wpAny (model prog w) A (getItem (.ref t) (.ref sl)) Q E s := by
  have hok : sizeOk (.seq items.toList.reverse.toArray) := by
    show items.toList.reverse.toArray.size ≤ sizeLine
    simpa using hsz
  obtain ⟨os, hos, hcs, hds⟩ := id hs
  have hTs : s.TypeIs (.ref sl) "slice" := ⟨os, hos, hcs⟩
  unfold getItem
  try with_reducible refine wpAny_holding ?_
  first | refine wpAny_bind (wpAny_pure ?_) | skip
  refine wpAny_bind (wpAny_sequenceKey ht.typeIs (by decide) ?_)
  refine wpAny_bind (wpAny_callSpecial?_slot (name := Str.ofString "__getitem__") ht.typeIs PyProof.Rows.slot_tuple_getitem (wpAny_call_entry PyProof.Rows.slot_tuple_getitem ht.typeIs entry_tuple_getitem ?_ (args_tuple_getitem _ _)))
  show wpAny _ _ (Builtin.Tuple.tupleItemsOf (.ref t) >>= _) _ _ s
  refine wpAny_bind (tupleItemsOf_ ht (wpAny_bind (wpAny_typeOf hTs ?_)))
  rw [if_pos (by decide)]
  refine wpAny_bind (back_applied hs ps ?_)
  show wpAny _ _ (if (((items.size : Int) - 1 == 0 && (-1 : Int) == 1) && items.size == items.size) = true then _ else _) _ _ s
  rw [if_neg (by intro z; rw [Bool.and_eq_true, Bool.and_eq_true] at z; exact absurd z.1.2 (by decide)), back_pick]
  first
    | exact wpAny_bind (m := Builtin.Tuple.tupleExact _) (wpAny_newObj_type (wpAny_pure ⟨_, rfl, wpAny_pure h⟩) hok)
    | exact wpAny_bind (m := Builtin.Tuple.tupleExact _) (wpAny_newObj_type (wpAny_bind (wpAny_pure (wpAny_pure ⟨_, rfl, wpAny_pure h⟩))) hok)
    | exact wpAny_bind (wpAny_bind (m := Builtin.Tuple.tupleExact _) (wpAny_newObj_type (wpAny_pure (wpAny_pure ⟨_, rfl, wpAny_pure h⟩)) hok))
    | exact wpAny_bind (wpAny_bind (m := Builtin.Tuple.tupleExact _) (wpAny_newObj_type (wpAny_pure ⟨_, rfl, wpAny_pure h⟩) hok))
/-- sorted(t), t a tuple of texts -/
theorem sorted_tupS {l : Addr} {items : Array Value} {ks : List Str} {Q : Value → Shared → Prop} (ht : IsTup s.heap l items) (hi : StrsAre items.toList ks) (hz : items.size ≤ 100000) (hu : A.units + 64 < cLine)
    (hQ : ∀ (h1 h' : Heap) (out : Array Value) (c : Nat), (∀ b o, s.heap.get? b = some o → h1.get? b = some o) → (∀ b o, h1.get? b = some o → h'.get? b = some o) → h'.get? h1.objs.size = some (seqObj "list" out c) → StrsAre out.toList (ks.mergeSort strLe) → Q (.ref h1.objs.size) { s with heap := h' }) :
    wpAny (model prog w) A (call (.builtin "sorted") [.ref l]) Q E s := by
  obtain ⟨o, ho, hc, n, hd⟩ := id ht
  refine Calls.call_function_entry kind_sorted plain_sorted entry_sorted (args_sorted1 _) ?_
  unfold Builtin.«sorted»
  have hsz : items.size ≤ sizeLine := Nat.le_trans hz (by decide)
  refine wpAny_bind (m := checkCount "sorted" 1 1 _) (wpAny_pure (wpAny_bind (wpAny_collect_seq (A := A.in1) l (.inr rfl) ho hc hd (fun h1 k1 => ?_) hsz)))
  have hlen : items.toList.length ≤ sizeLine := by rw [Array.length_toList]; exact hsz
  have ek : PySem.W.EachIs (fun v k => ∃ t, v = Value.str k t) items.toList ks := by
    clear hQ
    generalize items.toList = vs at hi
    induction hi with
    | nil => exact .nil
    | cons k t _ ih => exact .cons ⟨t, rfl⟩ ih
  have hkl : ks.length = items.toList.length := ek.length.symm
  refine wpAny_bind (wpAny_newList ?_ hlen)
  have hoL : (h1.push (seqObj "list" items.toList.toArray 0)).get? h1.objs.size = some (seqObj "list" items.toList.toArray 0) := Heap.get?_push_size _ rfl
  refine wpAny_bind (wpAny_holding ?_)
  refine PySem.W.list_sort_data (s := { s with heap := h1.push (seqObj "list" items.toList.toArray 0) }) (enc := fun k : Str => PyData.str k) hoL ek (each_mono2 (fun v k h => ?_) ek) ?_ ?_ (by rw [hkl]; exact hlen) (fun k _ => ?_) fun out hlo eo => ?_
  · obtain ⟨t, rfl⟩ := h
    exact ⟨[], .str k t, fun m => nomatch m⟩
  · exact PySem.W.AllAlike.of fun _ _ => by simp [PySem.W.alike]
  · exact PySem.W.Sortable.others fun _ => ⟨(fun z => nomatch z), (fun _ z => nomatch z)⟩
  · show A.in1.units + 1 + PyData.depth (.str k) < cLine
    have : PyData.depth (.str k) = 0 := by simp [PyData.depth]
    have h2 : A.in1.units = A.units + 1 := rfl
    omega
  · rw [PySem.W.dataLe_str (β := Str) (fun k => k)] at eo
    obtain ⟨c, hcc⟩ := sortedHeap_at (vs := items.toList) (out := out.toArray) hoL
    refine wpAny_pure ⟨_, rfl, hQ h1 _ out.toArray c k1 (fun b u q => ?_) hcc (by rw [List.toList_toArray]; exact each_strs (fun _ _ h => h) eo)⟩
    have hlt := Heap.lt_size q
    show (sortedHeap (h1.push (seqObj "list" items.toList.toArray 0)) h1.objs.size items.toList out.toArray).get? b = some u
    rw [sortedHeap_old (Nat.ne_of_lt hlt) (by rw [size_push']; exact Nat.lt_succ_of_lt hlt)]
    exact Heap.get?_push_of_some _ q
end
section
variable {X : Cx}
def tRevT (K : PySem.W.Frag) (te : TE) : TE := fun σ H Q => te σ H fun x H1 => ∃ a xs, x = .ref a ∧ SqT K H1 a xs ∧ ∀ p, H1 p = none → Q (.ref p) (upd H1 p (.tup xs.reverse))
theorem pe_revT {e : Expr} {te : TE} {k : Nat} {p1 p2 p3 pos : Pos} (he : PE X e te) : PE X (.Subscript e (.Slice none none (some (.UnaryOp .USub (.Constant (.int 1) k p1) p2)) p3) pos) (tRevT X.K te) := by
  refine ⟨fun pins s σ H Q I h => ?_⟩
  refine Subscript_ (thn (he.run pins s σ H _ I h) fun v s1 ⟨x, H1, I1, r1, a, xs, ex, hx, q⟩ => ?_)
  subst ex
  cases r1
  have hst : PO X (some (.UnaryOp .USub (.Constant (.int 1) k p1) p2)) (tPart (tUn (rU fun i => .int (-i)) (tC (.int 1)))) := po_some (pe_un un_neg pe_int)
  refine wpAny_Slice (thn (po_none.run pins s1 σ H1 (fun o H2 => o = none ∧ H2 = H1) I1 ⟨rfl, rfl⟩) fun vl s2 ⟨l, H2, I2, pl, el, e2⟩ => ?_)
  subst el e2
  refine thn (po_none.run pins s2 σ H2 (fun o H3 => o = none ∧ H3 = H2) I2 ⟨rfl, rfl⟩) fun vu s3 ⟨u, H3, I3, pu, eu, e3⟩ => ?_
  subst eu e3
  refine thn (hst.run pins s3 σ H3 (fun o H4 => o = some (-1) ∧ H4 = H3) I3 ⟨1, rfl, -1, rfl, rfl, rfl⟩) fun vs s4 ⟨o, H4, I4, ps, eo, e4⟩ => ?_
  subst eo e4
  cases pl
  cases pu
  have I5 : Inv X pins σ H4 { s4 with heap := s4.heap.push { cls := .type "slice", data := .fields #[.none, .none, vs] } } := I4.kept (t' := s4.toks) fun b ob z => Heap.get?_push_of_some _ z
  obtain ⟨its, r, ht, hz⟩ := I5.tuple hx
  show wpAny (model X.prog X.w) X.A (subscriptTail e (.Slice none none (some (.UnaryOp .USub (.Constant (.int 1) k p1) p2)) p3) (.ref a) (.ref s4.heap.objs.size)) (EP X pins σ Q) X.xe { s4 with heap := s4.heap.push { cls := .type "slice", data := .fields #[.none, .none, vs] } }
  refine tail_any (ops := [.ref a, .ref s4.heap.objs.size]) ht.typeIs (PyProof.Rows.slot_tuple_getitem.lookup) ?_ (by with_unfolding_all rfl)
  refine back_item ht (Heap.IsSliceOf.new _ .none .none vs) ps (by rw [List.size_toArray, ← r.length]; exact hz) ?_
  refine ⟨.ref _, _, I5.laid (t' := s4.toks) (o := .tup xs.reverse) (fun b ob z => Heap.get?_push_of_some _ z) (Nat.le_refl _) ?_, rfl, q _ (I5.hok.fresh (Nat.le_refl _))⟩
  refine ⟨by rw [List.length_reverse]; exact hz, its.reverse, r.reverse, ?_⟩
  rw [List.toList_toArray]
  exact IsTup.new _ _
theorem cr_sortedT (hu : X.A.units + 64 < cLine) : CallR X (.builtin "sorted") (fun vs H Q => ∃ (a : Addr) (xs : List Str), vs = [.ref a] ∧ SqT X.K H a (xs.map V.str) ∧ xs.length ≤ 100000 ∧ ∀ p, H p = none → Q (.ref p) (upd H p (.lst ((xs.mergeSort strLe).map V.str)))) := by
  intro pins s σ H vs us Q I r h
  obtain ⟨a, xs, rfl, hs, hl, q⟩ := h
  obtain ⟨its, rv, ht, hz⟩ := I.tuple hs
  rw [Vals.ref1 r]
  refine sorted_tupS (ks := xs) ht (by rw [List.toList_toArray]; exact strs_of_vals rv) (by rw [List.size_toArray, ← rv.length, List.length_map]; exact hl) hu fun h1 h' out c k1 k2 hget hst => ?_
  have I1 := I.kept (t' := s.toks) k1
  refine ⟨.ref h1.objs.size, _, I1.laid (t' := s.toks) (o := .lst ((xs.mergeSort strLe).map V.str)) k2 (Nat.le_refl _) ⟨?_, out.toList, c, vals_of_strs hst, hget⟩, rfl, q _ (I1.hok.fresh (Nat.le_refl _))⟩
  rw [List.length_map, List.length_mergeSort]
  exact Nat.le_trans hl (by decide)
end
end Hid

namespace Hid
open PySem PySem.Spec PyProof.Rows L2
abbrev sgAt (h : Str) (i : Nat) : Nat := h.cps.toList.getD i 0
def prAt (h : Str) (i j : Nat) : Str := ⟨#[sgAt h i, sgAt h j]⟩
def HalfS (m : Nat) (h : Str) : Prop := h.cps.size = m ∧ ∀ c ∈ h.cps.toList, c = 110 ∨ c = 121
def fstAt (rs : List Str) (i j : Nat) (p : Str) : Option Str := rs.find? fun h => decide (prAt h i j = p)
def prs : List Str := ["nn", "ny", "yn", "yy"]
def four (rs : List Str) (i j : Nat) : Option (List Str) := match fstAt rs i j "nn", fstAt rs i j "ny", fstAt rs i j "yn", fstAt rs i j "yy" with
  | some a, some b, some c, some d => some [a, b, c, d]
  | _, _, _, _ => none
abbrev srt (hs : List Str) : List Str := hs.mergeSort strLe
abbrev Sorted (l : List Str) : Prop := l.Pairwise fun a b => a.cps.toList ≤ b.cps.toList
theorem srt_sorted (hs : List Str) : Sorted (srt hs) := by
  have h1 : (hs.mergeSort strLe).Pairwise fun a b => strLe a b = true := List.pairwise_mergeSort (le := strLe) (fun a b c x y => by
      unfold strLe at *
      exact decide_eq_true (List.le_trans (of_decide_eq_true x) (of_decide_eq_true y))) (fun a b => by
      unfold strLe
      rcases List.le_total a.cps.toList b.cps.toList with h | h
      · rw [decide_eq_true h]; rfl
      · rw [decide_eq_true h, Bool.or_true]) hs
  exact h1.imp fun h => of_decide_eq_true h
theorem rise_sorted {l : List Str} (h : Rise l) : Sorted l := h.imp fun h => List.le_of_lt h
theorem mem_srt {hs : List Str} {x : Str} : x ∈ srt hs ↔ x ∈ hs := (List.mergeSort_perm hs strLe).mem_iff
theorem srt_len (hs : List Str) : (srt hs).length = hs.length := List.length_mergeSort _
theorem find_least {p : Str → Bool} {x : Str} : ∀ {l : List Str}, Sorted l → l.find? p = some x → ∀ y ∈ l, p y = true → x.cps.toList ≤ y.cps.toList
  | [], _, h, _, _, _ => by cases h
  | z :: l, hs, h, y, hy, py => by
    rw [List.find?_cons] at h
    cases hz : p z with
    | true =>
      rw [hz] at h
      cases h
      rcases List.mem_cons.mp hy with e | e
      · rw [e]; exact List.le_refl _
      · exact (List.pairwise_cons.mp hs).1 y e
    | false =>
      rw [hz] at h
      rcases List.mem_cons.mp hy with e | e
      · rw [e, hz] at py; cases py
      · exact find_least (List.pairwise_cons.mp hs).2 h y e py
theorem find_same {p : Str → Bool} {l m : List Str} (hl : Sorted l) (hm : Sorted m) (e : ∀ x, x ∈ l ↔ x ∈ m) : l.find? p = m.find? p := by
  cases h1 : l.find? p with
  | none =>
    symm
    rw [List.find?_eq_none] at h1 ⊢
    exact fun x hx => h1 x ((e x).mpr hx)
  | some x =>
    have px := List.find?_some h1
    have mx := List.mem_of_find?_eq_some h1
    cases h2 : m.find? p with
    | none =>
      rw [List.find?_eq_none] at h2
      exact absurd px (h2 x ((e x).mp mx))
    | some y =>
      have py := List.find?_some h2
      have my := List.mem_of_find?_eq_some h2
      rw [str_ext (List.le_antisymm (find_least hl h1 y ((e y).mpr my) py) (find_least hm h2 x ((e x).mp mx) px))]
theorem four_same {l m : List Str} (hl : Sorted l) (hm : Sorted m) (e : ∀ x, x ∈ l ↔ x ∈ m) : four l = four m := by
  funext i j
  have h : ∀ p, fstAt l i j p = fstAt m i j p := fun p => find_same hl hm e
  unfold four
  rw [h, h, h, h]
def IsCross (f : Nat → Nat → Option (List Str)) (m : Nat) : Option (Nat × Nat × List Str) → Prop
  | none => ∀ i j, i < j → j < m → f i j = none
  | some (i, j, F) => i < j ∧ j < m ∧ f i j = some F ∧ ∀ i' j', i' < j' → j' < m → (i' < i ∨ i' = i ∧ j' < j) → f i' j' = none
theorem IsCross.uniq {f : Nat → Nat → Option (List Str)} {m : Nat} : ∀ {r r' : Option (Nat × Nat × List Str)}, IsCross f m r → IsCross f m r' → r = r'
  | none, none, _, _ => rfl
  | none, some (i, j, F), h, h' => by
    have := h i j h'.1 h'.2.1
    rw [h'.2.2.1] at this
    cases this
  | some (i, j, F), none, h', h => by
    have := h i j h'.1 h'.2.1
    rw [h'.2.2.1] at this
    cases this
  | some (i, j, F), some (i', j', F'), h, h' => by
    obtain ⟨a1, a2, a3, a4⟩ := h
    obtain ⟨b1, b2, b3, b4⟩ := h'
    have n1 : ¬ (i' < i ∨ i' = i ∧ j' < j) := fun z => by
      have := a4 i' j' b1 b2 z
      rw [b3] at this
      cases this
    have n2 : ¬ (i < i' ∨ i = i' ∧ j < j') := fun z => by
      have := b4 i j a1 a2 z
      rw [a3] at this
      cases this
    obtain ⟨rfl, rfl⟩ : i = i' ∧ j = j' := by omega
    rw [a3] at b3
    cases b3
    rfl
theorem IsCross.ex (f : Nat → Nat → Option (List Str)) (m : Nat) : ∃ r, IsCross f m r := by
  by_cases h : ∃ i j, i < j ∧ j < m ∧ (f i j).isSome = true
  · have dec : ∀ n, (∃ i j, i < j ∧ j < m ∧ i < n ∧ (f i j).isSome = true) → ∃ r, IsCross f m r := by
      intro n
      induction n with
      | zero => rintro ⟨i, j, _, _, h, _⟩; omega
      | succ n ih =>
        intro hx
        by_cases hn : ∃ i j, i < j ∧ j < m ∧ i < n ∧ (f i j).isSome = true
        · exact ih hn
        · have hrow : ∀ k, (∃ j, n < j ∧ j < m ∧ j < k ∧ (f n j).isSome = true) → ∃ r, IsCross f m r := by
            intro k
            induction k with
            | zero => rintro ⟨j, _, _, h, _⟩; omega
            | succ k ihk =>
              intro hy
              by_cases hk : ∃ j, n < j ∧ j < m ∧ j < k ∧ (f n j).isSome = true
              · exact ihk hk
              · obtain ⟨j, h1, h2, h3, h4⟩ := hy
                have hj : j = k := by
                  by_cases hlt : j < k
                  · exact absurd ⟨j, h1, h2, hlt, h4⟩ hk
                  · omega
                subst hj
                obtain ⟨F, hF⟩ := Option.isSome_iff_exists.mp h4
                refine ⟨some (n, j, F), h1, h2, hF, fun i' j' b1 b2 z => ?_⟩
                cases hq : f i' j' with
                | none => rfl
                | some G =>
                  exfalso
                  rcases z with z | ⟨rfl, z⟩
                  · exact hn ⟨i', j', b1, b2, z, by rw [hq]; rfl⟩
                  · exact hk ⟨j', b1, b2, z, by rw [hq]; rfl⟩
          obtain ⟨i, j, a1, a2, a3, a4⟩ := hx
          have hi : i = n := by
            by_cases hlt : i < n
            · exact absurd ⟨i, j, a1, a2, hlt, a4⟩ hn
            · omega
          subst hi
          exact hrow m ⟨j, a1, a2, a2, a4⟩
    obtain ⟨i, j, a, b, c⟩ := h
    exact dec m ⟨i, j, a, b, by omega, c⟩
  · refine ⟨none, fun i j a b => ?_⟩
    cases hq : f i j with
    | none => rfl
    | some G => exact absurd ⟨i, j, a, b, by rw [hq]; rfl⟩ h
/-- one half-row alone crosses nowhere -/
theorem four_one (h : Str) (i j : Nat) : four [h] i j = none := by
  unfold four fstAt
  have e : ∀ p : Str, [h].find? (fun x => decide (prAt x i j = p)) = if prAt h i j = p then some h else none := fun p => by
    rw [List.find?_cons]
    by_cases q : prAt h i j = p
    · rw [decide_eq_true q, if_pos q]
    · rw [decide_eq_false q, if_neg q]; rfl
  rw [e, e]
  by_cases q : prAt h i j = "nn"
  · rw [if_neg (show ¬ prAt h i j = "ny" by rw [q]; decide)]
    split <;> simp_all
  · rw [if_neg q]
theorem prAt_in {m : Nat} {h : Str} {i j : Nat} (hh : HalfS m h) (hi : i < m) (hj : j < m) : prAt h i j = "nn" ∨ prAt h i j = "ny" ∨ prAt h i j = "yn" ∨ prAt h i j = "yy" := by
  have g : ∀ k, k < m → sgAt h k = 110 ∨ sgAt h k = 121 := fun k hk => by
    have hk' : k < h.cps.toList.length := by rw [Array.length_toList, hh.1]; exact hk
    have e : sgAt h k = h.cps.toList[k] := by unfold sgAt; rw [List.getD_eq_getElem?_getD, List.getElem?_eq_getElem hk']; rfl
    rw [e]
    exact hh.2 _ (List.getElem_mem _)
  unfold prAt
  rcases g i hi with a | a <;> rcases g j hj with b | b <;> rw [a, b]
  · exact .inl rfl
  · exact .inr (.inl rfl)
  · exact .inr (.inr (.inl rfl))
  · exact .inr (.inr (.inr rfl))
theorem at_sg {m : Nat} {h : Str} {i : Nat} (hh : HalfS m h) (hi : i < m) : atI h.cps.toList (i : Int) = some (sgAt h i) := by
  have hk' : i < h.cps.toList.length := by rw [Array.length_toList, hh.1]; exact hi
  refine atI_nat ?_
  rw [List.getElem?_eq_getElem hk']
  unfold sgAt
  rw [List.getD_eq_getElem?_getD, List.getElem?_eq_getElem hk']
  rfl
theorem pr_cat (h : Str) (i j : Nat) : ((⟨#[sgAt h i]⟩ : Str) ++ (⟨#[sgAt h j]⟩ : Str)) = prAt h i j := rfl
/-- turned at a place -/
def flip1 (h : Str) (k : Nat) : Str := ⟨(h.cps.toList.set k (if sgAt h k = 110 then 121 else 110)).toArray⟩
theorem flip_half {m k : Nat} {h : Str} (hh : HalfS m h) : HalfS m (flip1 h k) := by
  refine ⟨by unfold flip1; simp; exact hh.1, fun c hc => ?_⟩
  unfold flip1 at hc
  rw [List.toList_toArray] at hc
  rcases List.mem_or_eq_of_mem_set hc with h1 | h1
  · exact hh.2 c h1
  · rw [h1]; split
    · exact .inr rfl
    · exact .inl rfl
end Hid

namespace Hid
open PySem PySem.Spec PyProof.Rows L2 Evl
theorem map_range_getD' {α : Type} (l : List α) (d : α) : (List.range l.length).map (fun n => l.getD n d) = l := by
  apply List.ext_getElem?
  intro n
  by_cases h : n < l.length
  · rw [List.getElem?_map, List.getElem?_range h, List.getElem?_eq_getElem h]
    simp [List.getD_eq_getElem?_getD, h]
  · rw [List.getElem?_eq_none (by rw [List.length_map, List.length_range]; omega), List.getElem?_eq_none (by omega)]
section
variable {K : PySem.W.Frag} {σ : L2.St} {H H' : Hp} {ta tb tc te tl : TE} {t : TT}
theorem u1 {k : Nat} {A : Around} (r : Room k A) : A.units + 1 < cLine := by have := r.un; omega
theorem ev_lenT {p : Addr} {xs : List V} (ha : Ev ta σ H (.ref p)) (h : SqT K H p xs) : Ev (tCB (rLenS K) (tCons ta tNil)) σ H (.int (xs.length : Int)) := fun H1 e Q q =>
  ha H1 e _ fun H2 e2 => ⟨p, xs, rfl, .inr (ex_t (e.trans e2) h), q H2 e2⟩
theorem ev_lenS {w : Str} (ha : Ev ta σ H (.str w)) (hw : w.length ≤ 100000) : Ev (tCB (fun xs H Q => ∃ z, xs = [V.str z] ∧ z.length ≤ sizeLine ∧ Q (.int z.length) H) (tCons ta tNil)) σ H (.int (w.length : Int)) := fun H1 e Q q =>
  ha H1 e _ fun H2 e2 => ⟨w, rfl, sz_of hw, q H2 e2⟩
def rTupOf (K : PySem.W.Frag) : List V → Hp → VK → Prop := fun xs H Q => ∃ p ys, xs = [.ref p] ∧ ((SqL K H p ys ∧ ∀ l, H l = none → Q (.ref l) (upd H l (.tup ys))) ∨ (SqT K H p ys ∧ Q (.ref p) H))
theorem eu_tupOf {xs : List V} (h : EvL tl σ H xs) : EvU (tCB (rTupOf K) (tCons tl tNil)) σ H xs := fun H1 e Q q =>
  h H1 e _ fun p H2 hp e2 h2 => ⟨p, xs, rfl, .inl ⟨sq_of h2, fun l hl => q l _ (fresh_back e2 hl) (e2.trans (Ex.new hl)) upd_same⟩⟩
theorem eu_tupOfV {p : Addr} {xs : List V} (h : Ev tl σ H (.ref p)) (hs : SqL K H p xs) : EvU (tCB (rTupOf K) (tCons tl tNil)) σ H xs := fun H1 e Q q =>
  h H1 e _ fun H2 e2 => ⟨p, xs, rfl, .inl ⟨ex_l (e.trans e2) hs, fun l hl => q l _ (fresh_back e2 hl) (e2.trans (Ex.new hl)) upd_same⟩⟩
theorem rv_catS {a b : Str} (ha : a.length ≤ 1000) (hb : b.length ≤ 1000) : RV (fun x y H Q => ∃ i j, x = .str i ∧ y = .str j ∧ i.length + j.length ≤ sizeLine ∧ Q (.str (i ++ j)) H) (.str a) (.str b) H (.str (a ++ b)) := fun H1 e Q q =>
  ⟨a, b, rfl, rfl, sz_of (by omega), q H1 (Ex.refl _)⟩
theorem rv_notN {x : V} : RV (fun x y H Q => y = .non ∧ Q (.bl (!decide (x = .non))) H) x .non H (.bl (!decide (x = .non))) := fun H1 _ _ q => ⟨rfl, q H1 (Ex.refl _)⟩
theorem rv_isN {x : V} : RV (fun x y H Q => y = .non ∧ Q (.bl (decide (x = .non))) H) x .non H (.bl (decide (x = .non))) := fun H1 _ _ q => ⟨rfl, q H1 (Ex.refl _)⟩
theorem el_slN {xs : List V} {tl th : TO} {lo hi : Option Int} (h : EvL te σ H xs) (h1 : EvO tl σ H lo) (h2 : EvO th σ H hi) : EvL (tSl (rSlL K) te tl th) σ H (cutV xs lo hi) := fun H1 e Q q =>
  h H1 e _ fun p H2 hp e2 hx => h1 H2 (e.trans e2) _ fun H3 e3 => h2 H3 ((e.trans e2).trans e3) _ fun H4 e4 => ⟨p, xs, rfl, sq_of (e4 _ _ (e3 _ _ hx)), fun r hr =>
    q r _ (fresh_back (e2.trans (e3.trans e4)) hr) ((e2.trans (e3.trans e4)).trans (Ex.new hr)) upd_same⟩
theorem ev_slS {w : Str} {tl th : TO} {lo hi : Option Int} (h : Ev te σ H (.str w)) (h1 : EvO tl σ H lo) (h2 : EvO th σ H hi) (hw : w.length ≤ 100000) : Ev (tSl rSlS te tl th) σ H (.str (cutS w lo hi)) := fun H1 e Q q =>
  h H1 e _ fun H2 e2 => h1 H2 (e.trans e2) _ fun H3 e3 => h2 H3 ((e.trans e2).trans e3) _ fun H4 e4 => ⟨w, rfl, sz_of hw, q H4 (e2.trans (e3.trans e4))⟩
theorem el_lcT {a : Addr} {xs : List V} {tl : TE} {j : Nat} {vs : List Nat} (f : Nat → Bool) (v : Nat → V) (h : Ev tl σ H (.ref a)) (hx : SqT K H a xs) (hz : xs.length ≤ 40000) (hw : ∀ x, wipe ((wipe σ vs).set j (some x)) vs = wipe σ vs)
    (ht : ∀ (i : Nat) (x : V) H1, Ex H H1 → xs[i]? = some x → EvT t ((wipe σ vs).set j (some x)) H1 (f i)) (he : ∀ (i : Nat) (x : V) H1, Ex H H1 → xs[i]? = some x → f i = true → Ev te ((wipe σ vs).set j (some x)) H1 (v i)) :
    EvL (tLc (iTup K tl) (gName j) t te vs) σ H (given xs.length f v) := fun H0 e Q q => h H0 e _ fun H1 e1 => ⟨a, rfl, ⟨xs, ex_t (e.trans e1) hx⟩, fun Dl hD =>
  lc_tup (xs := xs) (Cw H1 f v Dl) ⟨hD, Ex.new hD, upd_same⟩ (fun i H' _ p => ex_t ((e.trans e1).trans p.2.1) hx) (fun i x H' hi p => ⟨hw x, cw_turn p (by have := (List.getElem?_eq_some_iff.mp hi).1; omega) (ht i x H1 (e.trans e1) hi) (fun hf => he i x H1 (e.trans e1) hi hf)⟩)
    (fun H' p => q Dl H' (fresh_back e1 p.1) (e1.trans p.2.1) p.2.2)⟩
/-! values told by a word that stays -/
def EvP (te : TE) (σ : L2.St) (H : Hp) (P : V → Hp → Prop) : Prop := ∀ H1, Ex H H1 → ∀ Q : VK, (∀ v H2, Ex H1 H2 → P v H2 → Q v H2) → te σ H1 Q
def EvPs (ta : TA) (σ : L2.St) (H : Hp) (P : List V → Hp → Prop) : Prop := ∀ H1, Ex H H1 → ∀ Q : List V → Hp → Prop, (∀ v H2, Ex H1 H2 → P v H2 → Q v H2) → ta σ H1 Q
def TupV (K : PySem.W.Frag) (xs : List V) (v : V) (H : Hp) : Prop := ∃ a, v = .ref a ∧ SqT K H a xs
theorem TupV.ex {xs : List V} {v : V} (e : Ex H H') (h : TupV K xs v H) : TupV K xs v H' := let ⟨a, h1, h2⟩ := h; ⟨a, h1, ex_t e h2⟩
abbrev TupVs (K : PySem.W.Frag) (xss : List (List V)) (vs : List V) (H : Hp) : Prop := Paired (fun v xs => TupV K xs v H) vs xss
theorem eps_nil : EvPs tNil σ H (TupVs K []) := fun H1 _ Q q => q [] H1 (Ex.refl _) .nil
theorem eps_cons {ts : TA} {xs : List V} {xss : List (List V)} (h : EvP ta σ H (TupV K xs)) (hr : EvPs ts σ H (TupVs K xss)) : EvPs (tCons ta ts) σ H (TupVs K (xs :: xss)) := fun H1 e Q q =>
  h H1 e _ fun v H2 e2 hv => hr H2 (e.trans e2) _ fun vs H3 e3 hvs => q _ H3 (e2.trans e3) (.cons (hv.ex e3) hvs)
theorem ep_var {a : Addr} {xs : List V} (h : Ev te σ H (.ref a)) (hs : SqT K H a xs) : EvP te σ H (TupV K xs) := fun H1 e Q q => h H1 e _ fun H2 e2 => q _ H2 e2 ⟨a, rfl, ex_t (e.trans e2) hs⟩
theorem ep_new {xs : List V} (h : EvU te σ H xs) : EvP te σ H (TupV K xs) := fun H1 e Q q => h H1 e _ fun p H2 hp e2 h2 => q _ H2 e2 ⟨p, rfl, st_of h2⟩
theorem ep_rev {a : Addr} {xs : List V} (h : Ev te σ H (.ref a)) (hs : SqT K H a xs) : EvP (tRevT K te) σ H (TupV K xs.reverse) := fun H1 e Q q =>
  h H1 e _ fun H2 e2 => ⟨a, xs, rfl, ex_t (e.trans e2) hs, fun p hp => q _ _ (e2.trans (Ex.new hp)) ⟨p, rfl, st_of upd_same⟩⟩
theorem cut_whole {xs : List V} {lo hi : Option Int} (h : HT.sIx xs.length 0 lo = 0 ∧ HT.sIx xs.length xs.length hi = xs.length) : cutV xs lo hi = xs := by
  unfold cutV
  rw [h.1, h.2, List.drop_zero, Nat.sub_zero, List.take_length]
theorem ep_sl {a : Addr} {xs : List V} {tl th : TO} {lo hi : Option Int} (h : Ev te σ H (.ref a)) (hs : SqT K H a xs) (h1 : EvO tl σ H lo) (h2 : EvO th σ H hi) : EvP (tSl (rSlA K) te tl th) σ H (TupV K (cutV xs lo hi)) := fun H1 e Q q =>
  h H1 e _ fun H2 e2 => h1 H2 (e.trans e2) _ fun H3 e3 => h2 H3 ((e.trans e2).trans e3) _ fun H4 e4 => by
    have e14 : Ex H1 H4 := e2.trans (e3.trans e4)
    refine ⟨a, xs, rfl, ex_t (e.trans e14) hs, fun hw => q _ H4 e14 ⟨a, rfl, ?_⟩, fun _ p hp => q _ _ (e14.trans (Ex.new hp)) ⟨p, rfl, st_of upd_same⟩⟩
    rw [cut_whole hw]
    exact ex_t (e.trans e14) hs
theorem ep_cat {xs ys : List V} (ha : EvP ta σ H (TupV K xs)) (hb : EvP tb σ H (TupV K ys)) (hl : xs.length + ys.length ≤ 100000) : EvP (tOp (rCatA K) ta tb) σ H (TupV K (xs ++ ys)) := fun H1 e Q q =>
  ha H1 e _ fun v H2 e2 ⟨a, ea, sa⟩ => hb H2 (e.trans e2) _ fun w H3 e3 ⟨b, eb, sb⟩ => by
    subst ea eb
    refine ⟨a, b, xs, ys, rfl, rfl, ex_t e3 sa, sb, sz_of hl, fun hx => ?_, fun _ hy => ?_, fun _ _ p hp => q _ _ ((e2.trans e3).trans (Ex.new hp)) ⟨p, rfl, st_of upd_same⟩⟩
    · subst hx
      exact q _ H3 (e2.trans e3) ⟨b, rfl, sb⟩
    · subst hy
      rw [List.append_nil] at q
      exact q _ H3 (e2.trans e3) ⟨a, rfl, ex_t e3 sa⟩
theorem ep_rep {a : Addr} {xs : List V} {k : Int} (ha : Ev ta σ H (.ref a)) (hs : SqT K H a xs) (hb : Ev tb σ H (.int k)) (h0 : xs ≠ []) (hk : 2 ≤ k ∧ k ≤ 1000) (hl : xs.length ≤ 1000) : EvP (tOp (rRepT K) ta tb) σ H (TupV K (List.replicate k.toNat xs).flatten) := fun H1 e Q q =>
  ha H1 e _ fun H2 e2 => hb H2 (e.trans e2) _ fun H3 e3 => ⟨a, k, xs, rfl, rfl, ex_t ((e.trans e2).trans e3) hs, h0, hk.1, hk.2, hl, fun p hp => q _ _ ((e2.trans e3).trans (Ex.new hp)) ⟨p, rfl, st_of upd_same⟩⟩
/-! what is told of a crossing -/
def ResF (H : Hp) (v : V) : Option (List Str) → Prop
  | none => v = .non
  | some F => ∃ q, v = .ref q ∧ H q = some (.tup (F.map V.str))
def ResX (H : Hp) (v : V) : Option (Nat × Nat × List Str) → Prop
  | none => v = .non
  | some (i, j, F) => ∃ p q, v = .ref p ∧ H p = some (.tup [.int i, .int j, .ref q]) ∧ H q = some (.tup (F.map V.str))
theorem ResX.ex {v : V} : ∀ {r : Option (Nat × Nat × List Str)}, Ex H H' → ResX H v r → ResX H' v r
  | none, _, h => h
  | some (i, j, F), e, h => let ⟨p, q, h1, h2, h3⟩ := h; ⟨p, q, h1, e _ _ h2, e _ _ h3⟩
def dX : Option (Nat × Nat × List Str) → PyData
  | none => .none
  | some (i, j, F) => .tuple [.int i, .int j, .tuple (F.map PyData.str)]
theorem strs_dp : ∀ F : List Str, DpAll K H (F.map V.str) (F.map PyData.str)
  | [] => .nil
  | x :: F => .cons (.str x) (strs_dp F)
theorem ResX.dp {v : V} : ∀ {r : Option (Nat × Nat × List Str)}, ResX H v r → Dp K H v (dX r)
  | none, h => by
    cases h
    exact .non
  | some (i, j, F), h => by
    obtain ⟨p, q, rfl, h2, h3⟩ := h
    exact .tup (st_of h2) (.cons (.int _) (.cons (.int _) (.cons (.tup (st_of h3) (strs_dp F)) .nil)))
theorem four_shape {rs : List Str} {i j : Nat} {F : List Str} (h : four rs i j = some F) : ∃ a b c d, F = [a, b, c, d] := by
  unfold four at h
  split at h
  · cases h
    exact ⟨_, _, _, _, rfl⟩
  · cases h
theorem four_mem {rs : List Str} {i j : Nat} {F : List Str} (h : four rs i j = some F) : ∀ x ∈ F, x ∈ rs := by
  unfold four at h
  split at h
  · rename_i a b c d h1 h2 h3 h4
    cases h
    have g : ∀ {p : Str} {y : Str}, fstAt rs i j p = some y → y ∈ rs := fun e => List.mem_of_find?_eq_some e
    intro x hx
    simp only [List.mem_cons, List.not_mem_nil, or_false] at hx
    rcases hx with rfl | rfl | rfl | rfl
    · exact g h1
    · exact g h2
    · exact g h3
    · exact g h4
  · cases h
theorem strOk_sm {l : List Nat} (h : ∀ c ∈ l, c < 200) : PyData.strOk (tx l) = true := by
  unfold PyData.strOk; rw [Array.all_eq_true]; intro i hi
  have hi' : i < l.length := by simpa [tx] using hi
  have := h l[i] (List.getElem_mem hi')
  exact decide_eq_true (by show l[i] < 0x110000; omega)
theorem half_strOk {m : Nat} {h : Str} (hh : HalfS m h) : PyData.canLay0 (.str h) = true := by
  have e : h = tx h.cps.toList := by cases h; simp [tx]
  rw [e]
  simp [PyData.canLay0]
  exact strOk_sm fun c hc => by rcases hh.2 c hc with z | z <;> omega
theorem dX_shaped {rs : List Str} {m m2 : Nat} (hr : ∀ h ∈ rs, HalfS m2 h) : ∀ {r : Option (Nat × Nat × List Str)}, IsCross (four rs) m r → SeqAt.shaped (dX r) = true
  | none, _ => rfl
  | some (i, j, F), h => by
    have hm := four_mem h.2.2.1
    obtain ⟨a, b, c, d, rfl⟩ := four_shape h.2.2.1
    have g : ∀ x ∈ [a, b, c, d], PyData.canLay0 (.str x) = true := fun x hx => half_strOk (hr x (hm x hx))
    have ga := g a (by simp)
    have gb := g b (by simp)
    have gc := g c (by simp)
    have gd := g d (by simp)
    unfold SeqAt.shaped
    simp only [PyData.canLay0] at ga gb gc gd
    simp [dX, PyData.canLay0, PyData.canLayAll0, PyData.depth, PyData.depthAll, ga, gb, gc, gd]
end
end Hid

namespace Hid
open PySem PySem.Spec PyProof.Rows L2
/-! a code object's table, held by its form -/
def TabOk (P : Addr) (h : Heap) : Prop := ∃ ps : Array Value, h.get? P = some (PySem.W.tabObj ps) ∧ TriplesOk ps.toList
def TabX (P : Addr) : HO := .ext (TabOk P)
theorem tabX_ok {Pr : Program} {w : World} {H : Hp} {h : Heap} {P : Addr} (x : TabOk P h) : ObjOk Pr w H h P (TabX P) := by
  obtain ⟨ps, e, t⟩ := x
  exact ⟨⟨ps, e, t⟩, ⟨_, e⟩, fun h1 h2 p k => let ⟨ps, e, t⟩ := p; ⟨ps, k _ e, t⟩⟩
theorem upd_id {H : Hp} {a : Addr} {o : HO} (h : H a = some o) : upd H a o = H := by
  funext b
  by_cases e : b = a
  · rw [e, upd_same, h]
  · exact upd_ne e
section
variable {X : Cx} {pins : List (Addr × Obj)} {σ : L2.St} {H : Hp} {s : Shared}
theorem inv_code {P : Addr} {h' : Heap} {t : Nat} (I : Inv X pins σ H s) (hP : H P = some (TabX P)) (k : ∀ b o, b ≠ P → s.heap.get? b = some o → h'.get? b = some o) (hn : TabOk P h') : Inv X pins σ H { s with heap := h', toks := t } := by
  have J := I.write (x := P) (e := P) (o := TabX P) (h' := h') (t' := t) (by rw [hP]; trivial) (.inl rfl) k (let ⟨_, e, _⟩ := hn; ⟨_, e⟩) (tabX_ok hn)
  rwa [upd_id hP] at J
/-- the context of a generator expression's own frame -/
abbrev gx (X : Cx) (s : Shared) (H : Hp) (A' : Around) (cenv : Env) (fp : List Addr) (pn : List (Addr × Obj)) : Cx :=
  { X with A := A', s_0 := s, H_0 := H, env := cenv, outer := X.stack, stack := cenv :: X.stack, ex := fp, fn := fun _ => false, pn := pn, xe := fun _ _ => False }
/-- it stands at its start -/
theorem gx_start {scope : Scope} {own : List (Str × Nat)} {fp : List Addr} {A' : Around} {code : Value} {s6 : Shared} {a : Addr} {go : Obj} {m0 : Str → Option Value} (I : Inv X pins σ H s) (hN : X.N.Nodup) (ok : BlkOk X.N X.env.scope scope own) (hnc : ∀ y ∈ scope.names, y.2 ≠ .cell)
    (hfp : ∀ b ∈ fp, FpOk X pins H b ∧ b < s.heap.objs.size) (hA : A'.handled = none) (hF : A'.frames = some (genEnv scope (cloFrom X.env.cells scope.names []) s.heap.objs.size code builtinsNs X.env :: X.stack))
    (kp : ∀ b o, s.heap.get? b = some o → s6.heap.get? b = some o) (hns : s6.heap.Ns s.heap.objs.size m0) (hos : s6.os = s.os) (hb : AllBare s6.gens) (ha : s.heap.objs.size < a) (hgo : s6.heap.get? a = some go) (hgc : ∀ v, go.data ≠ .cell v) :
    Inv (gx X s H A' (genEnv scope (cloFrom X.env.cells scope.names []) s.heap.objs.size code builtinsNs X.env) fp [(a, go)]) [] (wipe σ (own.map (·.2))) H s6 := by
  have hcl : ∀ {y c}, (cloFrom X.env.cells scope.names []).lookup y = some c → scope.names.lookup y = some .free ∧ X.env.cells.lookup y = some c := fun {y c} e => by
    rcases cloFrom_mem (PySem.mem_of_lookup e) with z | ⟨z, hc⟩
    · cases z
    · refine ⟨ok.uniq _ z, ?_⟩
      have hx : ∃ d, X.env.cells.lookup y = some d := by
        rcases ok.free _ z rfl with q | q
        · exact I.ok.has _ (.inl q)
        · exact I.ok.has _ (.inr q)
      obtain ⟨d, hd⟩ := hx
      rw [hc, hd]
      rfl
  have hfr : ∀ {y}, scope.names.lookup y = some .free → ∃ c, (cloFrom X.env.cells scope.names []).lookup y = some c := fun {y} e => mem_lookup (cloFrom_has (PySem.mem_of_lookup e))
  have hcs : ∀ {y c}, X.env.cells.lookup y = some c → c < s.heap.objs.size := fun {y c} e => by
    obtain ⟨v, z⟩ := I.cell y c e
    exact z.lt
  have okG : (gx X s H A' (genEnv scope (cloFrom X.env.cells scope.names []) s.heap.objs.size code builtinsNs X.env) fp [(a, go)]).Ok := by
    refine ⟨I.ok.mod, ok.kind, I.ok.glob, rfl, Nat.le_refl _, fun y z c e1 e2 => I.ok.inj y z c (hcl e1).2 (hcl e2).2, fun y hy => ?_, (fun y c z => Bool.noConfusion (show false = true from z)), fun _ => hA, hF, .inr ⟨rfl, rfl⟩, fun b hb => ⟨Nat.ne_of_lt (hfp b hb).2, fun y c e => ?_⟩,
      I.bs, Nat.le_trans I.ok.bsz I.sz, fun b o e hb => ?_, fun b hb z => ?_, I.stack, I.stkFree⟩
    · rcases hy with hy | hy
      · exact absurd rfl (hnc _ (PySem.mem_of_lookup (show scope.names.lookup y = _ from hy)))
      · exact hfr hy
    · obtain ⟨_, _, _, _, f5, _⟩ := (hfp b hb).1
      exact f5 y c (hcl e).2
    · obtain ⟨_, _, _, f4, _, _⟩ := (hfp b hb).1
      rcases f4 with z | z
      · exact I.ok.noex b o e z
      · have h1 := Heap.lt_size e
        have h2 := I.ok.bsz
        exact Nat.lt_irrefl _ (Nat.lt_of_lt_of_le h1 (Nat.le_trans h2 z))
    · obtain ⟨_, f2, f3, _, _, _⟩ := (hfp b hb).1
      rcases List.mem_cons.mp (I.stkSub b z) with q | q
      · exact f2 q
      · exact f3 q
  have hCn : H s.heap.objs.size = none := I.hok.fresh (Nat.le_refl _)
  refine ⟨okG, hos, hb, Un.kept kp, ⟨m0, hns, fun i y av e1 e2 e3 => ?_⟩, fun y c e => ?_, hCn, fun y c e => I.freeC y c (hcl e).2, fun p hp => ?_, I.hok.kept kp, by rw [wipe_length]; exact I.len⟩
  · obtain ⟨e2, hne⟩ := wipe_some e2
    have e3' : Vis scope y := e3
    have hfree : scope.names.lookup y = some .free := by
      have no : ∀ k, (k = NameKind.local ∨ k = .cell) → scope.names.lookup y = some k → False := fun k hk e => by
        rcases ok.own _ (PySem.mem_of_lookup e) hk with q | q
        · obtain ⟨p, hp, hpy⟩ := List.mem_map.mp q
          have e5 := ok.ix p hp
          rw [show p.1 = y from hpy] at e5
          exact hne (List.mem_map.mpr ⟨p, hp, nodup_ix hN e5 e1⟩)
        · exact q (List.mem_of_getElem? e1)
      rcases e3' with q | q | q
      · exact (no _ (.inl rfl) q).elim
      · exact (no _ (.inr rfl) q).elim
      · exact q
    obtain ⟨m, _, hl⟩ := I.loc
    have up := ok.free _ (PySem.mem_of_lookup hfree) rfl
    obtain ⟨w, r, q⟩ := hl i y av e1 e2 (up.elim (fun k => .inr (.inl k)) fun k => .inr (.inr k))
    obtain ⟨c, hc⟩ := hfr hfree
    refine ⟨w, r, .inr ⟨.inr hfree, c, hc, ?_⟩⟩
    rcases q with ⟨k, _⟩ | ⟨_, c', e', z⟩
    · have k' : X.env.scope.names.lookup y = some .local := k
      rcases up with u | u <;> rw [show X.env.scope.names.lookup y = _ from u] at k' <;> cases k'
    · rw [(hcl hc).2] at e'
      cases e'
      exact z.keeps kp
  · obtain ⟨w, z⟩ := I.cell y c (hcl e).2
    exact ⟨w, z.keeps kp⟩
  · have : p = (a, go) := by simpa using hp
    subst this
    exact ⟨hgo, I.hok.fresh (Nat.le_of_lt ha), Nat.ne_of_gt ha, fun z => by
      rcases List.mem_cons.mp (I.stkSub a z) with q | q
      · have := I.lt
        rw [← q] at this
        exact Nat.lt_irrefl _ (Nat.lt_trans this ha)
      · exact I.nofs (Nat.le_of_lt ha) q, hgc⟩
end
end Hid

namespace Hid
open PySem PySem.Spec PyProof.Rows L2
/-- nothing but the generators' table and the tokens are other -/
def Near (s s' : Shared) : Prop := ∃ g t, s' = { s with gens := g, toks := t } ∧ AllBare g
theorem Near.trans {s s' s'' : Shared} (a : Near s s') (b : Near s' s'') : Near s s'' := by
  obtain ⟨g, t, rfl, _⟩ := a
  obtain ⟨g2, t2, rfl, h⟩ := b
  exact ⟨g2, t2, rfl, h⟩
theorem near_set {s : Shared} {g : Nat} {x : GenState} (h : AllBare s.gens) (hx : x.bare = true) : Near s (s.setGen g x) := ⟨_, s.toks, rfl, allBare_setGen h hx⟩
theorem inv_near {X : Cx} {pins : List (Addr × Obj)} {σ : L2.St} {H : Hp} {s s' : Shared} (I : Inv X pins σ H s) (n : Near s s') : Inv X pins σ H s' := by
  obtain ⟨g, t, rfl, h⟩ := n
  exact I.call' (ch := []) rfl Un.refl I.hok h fun b z => nomatch z
section
variable {X : Cx}
/-- what is left of a generator expression: handed out truths b; b = cont goes on, else QE; at the end QD -/
def gxR (X : Cx) (σ : L2.St) (QD : Hp → Prop) : Nat → Shared → Shared → Prop := fun _ _ s₁ => ∃ H', Inv X [] σ H' s₁ ∧ QD H'
def gxY (X : Cx) (cont : Bool) (QE : Hp → Prop) : Protocol := fun n s₀ v s kap => ∃ (b : Bool) (σ' : L2.St) (pins : List (Addr × Obj)) (H' : Hp), v = .bool b ∧ Inv X pins σ' H' s ∧ (b = cont → ∀ s'', Near s s'' → kap (.send .none) s'') ∧ (b ≠ cont → QE H')
theorem gx_loop {A : Around} {elt tg iter : Expr} {scope : Scope} {pos : Pos} {it : Addr} {J : It} {fp : List Addr} {tn : Nat → Heap → Prop} {σ : L2.St} {vs : List Nat} {g : TG} {te : TE} {cont : Bool} {QD QE : Hp → Prop} {W : Nat → Nat → Hp → Prop}
    (hA : A.over (.compLoop (.GeneratorExp elt [⟨tg, iter, [], 0⟩] scope pos) 0 (.ref it) .none X.env) [] = X.A) (hc : X.calm = true) (hpn : ∀ p ∈ X.pn, p.1 ∉ fp) (hex : X.ex = fp) (hxe : X.xe = fun _ _ => False) (hco : X.env.scope.isCoroutine = false)
    (T : Turn X.prog X.w X.K tg J fp it tn) (pg : PG X tg g) (pe : PE X elt te)
    (turn : ∀ i m H, W i m H → (J.stop i H ∧ QD H) ∨ (J.go i H ∧ ∃ Nx : Hp → Prop, (∀ H', Nx H' → ∃ m', m' < m ∧ W (i + 1) m' H') ∧ ∀ x H', J.yld i H x H' → g x (wipe σ vs) H' fun σ2 H2 => wipe σ2 vs = wipe σ vs ∧ te σ2 H2 fun y H3 => ∃ b, y = .bl b ∧ (b = cont → Nx H3) ∧ (b ≠ cont → QE H3))) :
    ∀ (m n i : Nat) (s₀ s : Shared) (H5 : Hp), m < n → Inv X [] (wipe σ vs) H5 s → tn i s.heap → (∀ b ∈ fp, H5 b = none) → W i m H5 →
      Seg (model X.prog X.w) A (fun n s₀ r s₁ => r = .ok .next ∧ gxR X (wipe σ vs) QD n s₀ s₁) (gxY X cont QE) n s₀ (.compLoop (.GeneratorExp elt [⟨tg, iter, [], 0⟩] scope pos) 0 (.ref it) .none X.env)
        ((model X.prog X.w).den (.compLoop (.GeneratorExp elt [⟨tg, iter, [], 0⟩] scope pos) 0 (.ref it) .none X.env)) [] s := by
  have fpok : ∀ {σ' : L2.St} {H' : Hp} {s' : Shared}, Inv X [] σ' H' s' → (∀ b ∈ fp, H' b = none) → ∀ b ∈ fp, FpOk X [] H' b := fun {σ' H' s'} I' hn b hb =>
    ⟨hn b hb, (I'.ok.exf b (hex ▸ hb)).1, I'.ok.exfs b (hex ▸ hb), .inl (hex ▸ hb), fun x c e => (I'.ok.exf b (hex ▸ hb)).2 x c e, fun p hp => by
      rw [List.append_nil] at hp
      exact fun z => hpn p hp (z ▸ hb)⟩
  intro m
  induction m using Nat.strongRecOn with
  | ind m ih =>
    intro n i s₀ s H5 hmn I st hn w
    show Seg _ A _ _ _ s₀ _ ((compTurn (.GeneratorExp elt [⟨tg, iter, [], 0⟩] scope pos) 0 (.ref it) .none X.env).onRaise (leaving X.env)) [] s
    rw [compTurn_gen, Sem.onRaise_eq_wrap]
    refine seg_bind_wrap (wpAny_standAt ?_)
    rcases turn i m H5 w with ⟨stop, qd⟩ | ⟨go, Nx, hNx, step⟩
    · refine seg_bind_wrap ?_
      rw [hA]
      refine wpAny_mono (T.done X rfl rfl rfl hc i [] s _ H5 (fun _ _ => False) I (fpok I hn) st stop) (fun r s1 ⟨hr, I1⟩ => ?_) fun _ _ z => z.elim
      subst hr
      exact seg_end (.ok .next) ⟨rfl, H5, I1, qd⟩
    · refine seg_bind_wrap ?_
      rw [hA]
      refine wpAny_mono (T.item X rfl rfl rfl hc i [] s _ H5 (fun _ _ => False) I (fpok I hn) st go) (fun r s1 ⟨u, hr, h1⟩ => ?_) fun _ _ z => z.elim
      subst hr
      refine seg_bind_wrap ?_
      rw [hA]
      refine wpAny_mono h1 (fun _ s2 ⟨x, H2, I2, r2, y2, st2, n2⟩ => ?_) fun _ _ z => z.elim
      have I2' := I2.pinned (fpok I2 n2) (T.obj _ _ st2)
      refine seg_bind_wrap ?_
      rw [hA]
      refine wpAny_mono (pg.run _ s2 _ H2 x u _ I2' r2 (step x H2 y2)) (fun _ s3 ⟨σ3, H3, I3, hw3, q3⟩ => ?_) fun _ _ z => by rw [hxe] at z; exact z.elim
      refine seg_bind_wrap (wpAny_tests_nil ?_)
      obtain ⟨n', rfl⟩ : ∃ n', n = n' + 1 := ⟨n - 1, by omega⟩
      have hy : ∀ v, yieldOut X.env v = yieldValue v := fun v => by simp only [yieldOut, hco, Bool.false_eq_true, if_false]
      simp only [if_true, hy]
      rw [Sem.bind_eq_wrap', Sem.bind_eq_wrap', Sem.wrap_wrap, Sem.wrap_wrap]
      refine seg_wrap ?_
      rw [hA]
      refine wpAny_mono (pe.run _ s3 σ3 H3 _ I3 q3) (fun z s4 ⟨yv, H4, I4, r4, b, hyb, qc, qe⟩ => ?_) fun _ _ z => by rw [hxe] at z; exact z.elim
      subst hyb
      obtain rfl : z = Value.bool b := r4
      refine seg_at (seg_yield rfl rfl rfl ⟨b, σ3, _, H4, rfl, I4, fun hb s'' near => ?_, qe⟩)
      obtain ⟨m', hm, w'⟩ := hNx H4 (qc hb)
      have I5 := inv_near I4 near
      have keepF : ∀ b ∈ fp, ∀ o, s2.heap.get? b = some o → s''.heap.get? b = some o ∧ H4 b = none := fun b hb o e =>
        let z := I5.pin (b, o) (List.mem_append_right _ (List.mem_append_right _ (mem_pinsAt hb e)))
        ⟨z.1, z.2.1⟩
      have hl : (wipe σ vs).length = σ3.length := by rw [← hw3, wipe_length]
      refine seg_again rfl (ih m' hm n' (i + 1) s'' s'' H4 (by omega) ((I5.unpinned (pins := [])).weak hl fun j v e => ?_) (T.keep _ _ _ st2 fun b hb o e => (keepF b hb o e).1) (fun b hb => ?_) w')
      · rw [← hw3] at e
        exact (wipe_some e).1
      · obtain ⟨o, e, _⟩ := T.obj _ _ st2 b hb
        exact (keepF b hb o e).2
/-- from the start -/
theorem gx_begin {A : Around} {elt tg iter : Expr} {scope : Scope} {pos : Pos} {it : Addr} {tn : Nat → Heap → Prop} {J : It} {fp : List Addr} {R : GenEnd} {Y : Protocol} {n : Nat} {s₀ s : Shared}
    (T : Turn X.prog X.w X.K tg J fp it tn) (st : tn 0 s.heap)
    (loop : Seg (model X.prog X.w) A R Y n s₀ (.compLoop (.GeneratorExp elt [⟨tg, iter, [], 0⟩] scope pos) 0 (.ref it) .none X.env) ((model X.prog X.w).den (.compLoop (.GeneratorExp elt [⟨tg, iter, [], 0⟩] scope pos) 0 (.ref it) .none X.env)) [] s) :
    Seg (model X.prog X.w) A R Y n s₀ (.compStart (.GeneratorExp elt [⟨tg, iter, [], 0⟩] scope pos) 0 (.ref it) .none X.env) ((model X.prog X.w).den (.compStart (.GeneratorExp elt [⟨tg, iter, [], 0⟩] scope pos) 0 (.ref it) .none X.env)) [] s := by
  show Seg _ A _ _ _ s₀ _ ((compStart (.GeneratorExp elt [⟨tg, iter, [], 0⟩] scope pos) 0 (.ref it) .none X.env).onRaise (leaving X.env)) [] s
  unfold compStart
  rw [Sem.onRaise_eq_wrap]
  show Seg _ A _ _ _ s₀ _ ((ask >>= _).wrap _ _ _ _) [] s
  refine seg_bind_wrap (wpAny_askSetting ?_)
  split
  · exact seg_again rfl loop
  · refine seg_bind_wrap (wpAny_rule ?_)
    show Seg _ A _ _ _ s₀ _ ((standAt iter.pos >>= _).wrap _ _ _ _) [] s
    exact seg_bind_wrap (wpAny_standAt (seg_bind_wrap (T.self _ 0 s _ _ st (seg_again rfl loop))))
end
end Hid

namespace Hid
open PySem PySem.Spec PyProof.Rows L2
section
variable {X : Cx} {G : Cx} {σ : L2.St} {QD QE : Hp → Prop} {a : Addr} {g : Nat} {go : Obj}
/-- the generator's object at a, number g: n and more turns may follow -/
def gxAt (G : Cx) (A : Around) (σ : L2.St) (cont : Bool) (QD QE : Hp → Prop) (a : Addr) (g n : Nat) (s : Shared) : Prop :=
  s.heap.IsGen a g ∧ s.heap.NoLimit ∧ AllBare s.gens ∧ ∃ gs, s.gens[g]? = some gs ∧ ∀ s'', Near s s'' → gs.Goes (model G.prog G.w) A.in1 (fun n s₀ r s₁ => r = .ok .next ∧ gxR G σ QD n s₀ s₁) (gxY G cont QE) n (.send .none) s''
theorem set_at {s : Shared} {x : GenState} (h : g + 1 ≤ s.gens.size) : (s.setGen g x).gens[g]? = some x := by
  have hlt : g < s.gens.size := h
  simp [Shared.setGen, hlt]
theorem gx_next {A : Around} {cont : Bool} {n : Nat} {s : Shared} {Q : Option Value → Shared → Prop} {E : Value → Shared → Prop} (hh : A.handled = none) (hroom : A.depth < recursionLimit) (hpn : (a, go) ∈ G.pn) (hgo : ∀ h : Heap, h.get? a = some go → h.IsGen a g) (h : gxAt G A σ cont QD QE a g n s)
    (hE : ∀ b σ' pins H' s₁ gs', b ≠ cont → Inv G pins σ' H' s₁ → QE H' → gs'.bare = true → Q (some (.bool b)) (s₁.setGen g gs'))
    (hC : ∀ s' n', n = n' + 1 → gxAt G A σ cont QD QE a g n' s' → Q (some (.bool cont)) s')
    (hD : ∀ s₁ h' H', Inv G [] σ H' s₁ → QD H' → (∀ b o, s₁.heap.get? b = some o → h'.get? b = some o) → Q none { s₁.setGen g .finished with heap := h' }) :
    wpAny (model G.prog G.w) A (pyNext (.ref a)) Q E s := by
  obtain ⟨hg, hl, hb, gs, hgs, goes⟩ := h
  have hsz : g + 1 ≤ s.gens.size := (Array.getElem?_eq_some_iff.mp hgs).1
  refine GenW.wpAny_gsz (n := g + 1) hsz ?_
  refine wpAny_pyNext_genexpQ (P := gxR G σ QD) hh hl hroom hg hgs (goes _ (near_set hb rfl)) (fun v s₁ gs' hb' hv hz => ?_) (fun s₁ hp h' hk hz => ?_)
  · obtain ⟨b, σ', pins, H', rfl, I1, hc, he⟩ := hv
    have hz1 : g + 1 ≤ s₁.gens.size := by rw [GenW.setGen_size] at hz; exact hz
    by_cases hbc : b = cont
    · subst hbc
      cases n with
      | zero => exact (hc rfl s₁ ⟨s₁.gens, s₁.toks, rfl, I1.bare⟩).elim
      | succ n' =>
        refine hC _ n' rfl ⟨hgo _ (I1.pin (a, go) (List.mem_append_left _ hpn)).1, I1.nolimit, allBare_setGen I1.bare hb', gs', set_at hz1, fun s'' near => ?_⟩
        exact hc rfl s'' ((near_set I1.bare hb').trans near)
    · exact hE b σ' pins H' s₁ gs' hbc I1 (he hbc) hb'
  · obtain ⟨H', I1, qd⟩ := hp
    exact hD s₁ h' H' I1 qd hk
theorem gx_all {A : Around} {R : Result → Shared → Prop} (hh : A.handled = none) (hroom : A.depth < recursionLimit) (hpn : (a, go) ∈ G.pn) (hgo : ∀ h : Heap, h.get? a = some go → h.IsGen a g)
    (hE : ∀ σ' pins H' s₁ gs', Inv G pins σ' H' s₁ → QE H' → gs'.bare = true → R (.ok (.ret (.bool false))) (s₁.setGen g gs'))
    (hD : ∀ s₁ h' H', Inv G [] σ H' s₁ → QD H' → (∀ b o, s₁.heap.get? b = some o → h'.get? b = some o) → R (.ok (.ret (.bool true))) { s₁.setGen g .finished with heap := h' }) :
    ∀ (n : Nat) (s : Shared), gxAt G A.in1 σ true QD QE a g n s → codeAny (model G.prog G.w) A (.builtin "all.loop" ⟨[.ref a], []⟩) R s := by
  intro n
  induction n with
  | zero =>
    intro s h
    refine codeAny_builtin F.entry_all_loop ?_
    rw [Around.under_plainId F.plain_all_loop _]
    refine wpAny_bind (m := pyNext (.ref a)) (gx_next (A := A.in1) hh hroom hpn hgo h (fun b σ' pins H' s₁ gs' hb I1 q hbr => ?_) (fun s' n' e _ => nomatch e) fun s₁ h' H' I1 q hk => wpAny_bind (wpAny_rule (wpAny_pure (hD s₁ h' H' I1 q hk))))
    refine wpAny_bind (wpAny_holding (wpAny_truthy_bool (wpAny_bind (wpAny_letGo ?_))))
    cases b with
    | true => exact absurd rfl hb
    | false =>
      simp only [Bool.false_eq_true, if_false]
      exact wpAny_bind (wpAny_rule (wpAny_pure (hE σ' pins H' s₁ gs' I1 q hbr)))
  | succ n ih =>
    intro s h
    refine codeAny_builtin F.entry_all_loop ?_
    rw [Around.under_plainId F.plain_all_loop _]
    refine wpAny_bind (m := pyNext (.ref a)) (gx_next (A := A.in1) hh hroom hpn hgo h (fun b σ' pins H' s₁ gs' hb I1 q hbr => ?_) (fun s' n' e h' => ?_) fun s₁ h' H' I1 q hk => wpAny_bind (wpAny_rule (wpAny_pure (hD s₁ h' H' I1 q hk))))
    · refine wpAny_bind (wpAny_holding (wpAny_truthy_bool (wpAny_bind (wpAny_letGo ?_))))
      cases b with
      | true => exact absurd rfl hb
      | false =>
        simp only [Bool.false_eq_true, if_false]
        exact wpAny_bind (wpAny_rule (wpAny_pure (hE σ' pins H' s₁ gs' I1 q hbr)))
    · cases e
      refine wpAny_bind (wpAny_holding (wpAny_truthy_bool (wpAny_bind (wpAny_letGo ?_))))
      simp only [if_true]
      exact wpAny_pure ⟨plainId_quiet F.plain_all_loop _, ih s' h'⟩
theorem gx_any {A : Around} {R : Result → Shared → Prop} (hh : A.handled = none) (hroom : A.depth < recursionLimit) (hpn : (a, go) ∈ G.pn) (hgo : ∀ h : Heap, h.get? a = some go → h.IsGen a g)
    (hE : ∀ σ' pins H' s₁ gs', Inv G pins σ' H' s₁ → QE H' → gs'.bare = true → R (.ok (.ret (.bool true))) (s₁.setGen g gs'))
    (hD : ∀ s₁ h' H', Inv G [] σ H' s₁ → QD H' → (∀ b o, s₁.heap.get? b = some o → h'.get? b = some o) → R (.ok (.ret (.bool false))) { s₁.setGen g .finished with heap := h' }) :
    ∀ (n : Nat) (s : Shared), gxAt G A.in1 σ false QD QE a g n s → codeAny (model G.prog G.w) A (.builtin "any.loop" ⟨[.ref a], []⟩) R s := by
  intro n
  induction n with
  | zero =>
    intro s h
    refine codeAny_builtin F.entry_any_loop ?_
    rw [Around.under_plainId F.plain_any_loop _]
    refine wpAny_bind (m := pyNext (.ref a)) (gx_next (A := A.in1) hh hroom hpn hgo h (fun b σ' pins H' s₁ gs' hb I1 q hbr => ?_) (fun s' n' e _ => nomatch e) fun s₁ h' H' I1 q hk => wpAny_bind (wpAny_rule (wpAny_pure (hD s₁ h' H' I1 q hk))))
    refine wpAny_bind (wpAny_holding (wpAny_truthy_bool (wpAny_bind (wpAny_letGo ?_))))
    cases b with
    | false => exact absurd rfl hb
    | true =>
      simp only [if_true]
      exact wpAny_bind (wpAny_rule (wpAny_pure (hE σ' pins H' s₁ gs' I1 q hbr)))
  | succ n ih =>
    intro s h
    refine codeAny_builtin F.entry_any_loop ?_
    rw [Around.under_plainId F.plain_any_loop _]
    refine wpAny_bind (m := pyNext (.ref a)) (gx_next (A := A.in1) hh hroom hpn hgo h (fun b σ' pins H' s₁ gs' hb I1 q hbr => ?_) (fun s' n' e h' => ?_) fun s₁ h' H' I1 q hk => wpAny_bind (wpAny_rule (wpAny_pure (hD s₁ h' H' I1 q hk))))
    · refine wpAny_bind (wpAny_holding (wpAny_truthy_bool (wpAny_bind (wpAny_letGo ?_))))
      cases b with
      | false => exact absurd rfl hb
      | true =>
        simp only [if_true]
        exact wpAny_bind (wpAny_rule (wpAny_pure (hE σ' pins H' s₁ gs' I1 q hbr)))
    · cases e
      refine wpAny_bind (wpAny_holding (wpAny_truthy_bool (wpAny_bind (wpAny_letGo ?_))))
      simp only [Bool.false_eq_true, if_false]
      exact wpAny_pure ⟨plainId_quiet F.plain_any_loop _, ih s' h'⟩
/-- back in the def -/
theorem gx_back {pins : List (Addr × Obj)} {τ : L2.St} {H H' : Hp} {s4 s1 s' : Shared} {A' : Around} {cenv : Env} {fp : List Addr} {pn pins' : List (Addr × Obj)} {σ' : L2.St} (I4 : Inv X pins τ H s4) (hfp : ∀ b ∈ fp, FpOk X pins H b) (IG : Inv (gx X s4 H A' cenv fp pn) pins' σ' H' s1)
    (kp : ∀ b o, s1.heap.get? b = some o → s'.heap.get? b = some o) (ho : s'.os = s1.os) (hb : AllBare s'.gens) : Inv X pins τ H' s' := by
  have Jb : Inv (gx X s4 H A' cenv fp pn) pins' σ' H' s' := IG.call' (ch := []) ho (Un.kept kp) (IG.hok.kept kp) hb fun b z => nomatch z
  exact I4.call' (ch := fp) Jb.os Jb.base Jb.hok Jb.bare fun b hb => let ⟨_, f2, _, f4, f5, f6⟩ := hfp b hb; ⟨f4, f2, f5, f6⟩
/-- all(..), any(..) of a generator expression -/
def tGx (cont : Bool) (P : Addr) (wi : TI) (g : TG) (te : TE) (vs : List Nat) : TE := fun σ H Q => wi σ H fun J H1 => H1 P = some (TabX P) ∧ ∃ W : Nat → Nat → Hp → Prop, (∃ m, W 0 m H1) ∧ ∀ i m H, W i m H → (J.stop i H ∧ Q (.bl cont) H) ∨ (J.go i H ∧ ∃ Nx : Hp → Prop, (∀ H', Nx H' → ∃ m', m' < m ∧ W (i + 1) m' H') ∧
  ∀ x H', J.yld i H x H' → g x (wipe σ vs) H' fun σ2 H2 => wipe σ2 vs = wipe σ vs ∧ te σ2 H2 fun y H3 => ∃ b, y = .bl b ∧ (b = cont → Nx H3) ∧ (b ≠ cont → Q (.bl (!cont)) H3))
theorem gx_room {k : Nat} {A : Around} {c : Code} (h : Room (k + 1) A) (hw : c.weight = 1) (hu : c.cUnits = 3) : Room k (A.in1.in1.over c []) := by
  refine ⟨h.hd, ?_, ?_⟩
  · have := h.dp
    show A.depth + 0 + c.weight + 3 * k + 5 < _
    omega
  · have := h.un
    show A.units + 1 + 1 + 0 + c.cUnits + 16 * k + 200 < _
    omega
theorem gx_make {c P : Addr} {elt tg iter : Expr} {scope : Scope} {own : List (Str × Nat)} {gpos : Pos} {wi : TI} {gg : TG} {te : TE} {k : Nat} {cont : Bool} {pins : List (Addr × Obj)} {τ : L2.St} {H : Hp} {s : Shared} {Q : VK} {Q' : Value → Shared → Prop}
    (hr : Room (k + 1) X.A) (hc : X.calm = true) (hN : X.N.Nodup) (TB : GxR.TabB X.base X.mg c P) (hcode : X.env.code = .ref c) (hi : PI X tg iter wi) (ok : BlkOk X.N X.env.scope scope own) (hdot : scope.names.lookup (".0" : Str) = some NameKind.local) (hnc : ∀ y ∈ scope.names, y.2 ≠ .cell) (hco : scope.isCoroutine = false)
    (hg : ∀ s H A' C cl code fp pn, PG (gx X s H A' (genEnv scope cl C code builtinsNs X.env) fp pn) tg gg) (he : ∀ s H A' C cl code fp pn, Room k A' → PE (gx X s H A' (genEnv scope cl C code builtinsNs X.env) fp pn) elt te) (hs : ∀ v, genFold iter X.env v = pure v)
    (I : Inv X pins τ H s) (h : tGx cont P wi gg te (own.map (·.2)) τ H Q)
    (hQ : ∀ (G : Cx) (σ : L2.St) (QD QE : Hp → Prop) (a : Addr) (g n : Nat) (go : Obj) (s5 : Shared), G.prog = X.prog → G.w = X.w → (a, go) ∈ G.pn → (∀ h : Heap, h.get? a = some go → h.IsGen a g) → gxAt G X.A.in1 σ cont QD QE a g n s5 →
      (∀ pins' σ' H' s1 s', Inv G pins' σ' H' s1 → (∀ b o, s1.heap.get? b = some o → s'.heap.get? b = some o) → s'.os = s1.os → AllBare s'.gens → Inv X pins τ H' s') → (∀ H', QD H' → Q (.bl cont) H') → (∀ H', QE H' → Q (.bl (!cont)) H') → Q' (.ref a) s5) :
    wpAny (model X.prog X.w) X.A (eval (.GeneratorExp elt [⟨tg, iter, [], 0⟩] scope gpos) X.env) Q' X.xe s := by
  have hfree : ∀ y ∈ scope.names, y.2 = .free → ∃ c, X.env.cells.lookup y.1 = some c := fun y hy e => (ok.free y hy e).elim (fun q => I.ok.has _ (.inl q)) fun q => I.ok.has _ (.inr q)
  refine wpAny_GeneratorExp_make hco (closure_ok hfree) hnc hdot ok.kind (by have := hr.dp; omega) ?_ hs
  refine thn (hi.run pins s τ H _ I h) fun xv s1 hx => thn hx fun itv s2 h2 => ?_
  obtain ⟨it, fp, tn, J, H2, e, I2, T, st2, f2, hP, W, ⟨m0, w0⟩, turn⟩ := h2
  subst e
  obtain ⟨ps, hPs, htr⟩ : TabOk P s2.heap := (I2.hok P _ hP).1
  have cd : PySem.W.CodeHd s2.heap c P := TB.code.keeps fun b u e => I2.bk b u e
  have nP : ∀ b ∈ fp, b ≠ P := fun b hb z => by
    have := (f2 b hb).1
    rw [z, hP] at this
    cases this
  refine ⟨I2.nolimit, ?_⟩
  have go_on : ∀ (code : Value) (h3 : Heap) (tk : Nat), (∀ b o, b ≠ P → s2.heap.get? b = some o → h3.get? b = some o) → s2.heap.objs.size ≤ h3.objs.size → TabOk P h3 → wpAny (model X.prog X.w) X.A (builtinsFor X.env.globals X.env.builtins) (fun bi s₄ =>
      ∀ h', h'.Ns s₄.heap.objs.size (fun y => if y = ".0" then some (.ref it) else none) → Heap.SameBut s₄.heap.objs.size (s₄.heap.push { cls := .type "frame", data := .dict #[] }) h' →
        Q' (.ref h'.objs.size) { s₄ with gens := s₄.gens.push (.fresh (.compStart (.GeneratorExp elt [⟨tg, iter, [], 0⟩] scope gpos) 0 (.ref it) .none (genEnv scope (cloFrom X.env.cells scope.names []) s₄.heap.objs.size code bi X.env))), toks := s₄.toks + 1 + 1 + 1, heap := h'.push { cls := .type "generator", data := .fields #[.int s₄.gens.size 0, .str "<genexpr>" (s₄.toks + 1), .str (X.env.qual ++ "<genexpr>") (s₄.toks + 1 + 1)] } }) X.xe { s2 with heap := h3, toks := tk } := by
    intro code h3 tk k3 sz3 t3
    have I3 : Inv X pins τ H2 { s2 with heap := h3, toks := tk } := inv_code I2 hP k3 t3
    have st3 : tn 0 h3 := T.keep _ _ _ st2 fun b hb o e => k3 b o (nP b hb) e
    obtain ⟨bm, ob, e1, e2, e3, e4, e5, e6, e7, e8⟩ := TB.bm
    refine wpAny_builtinsFor (m := X.mg) (by rw [I3.ok.glob]; exact I3.mod.glob.keeps I3.bk) e1 e2 (I3.bk _ _ e5) e6 e7 e8 ?_
    generalize hs3 : ({ s2 with heap := h3, toks := tk } : Shared) = s3 at I3 ⊢
    have st3' : tn 0 s3.heap := by rw [← hs3]; exact st3
    intro h' hn' hs'
    have szp : h'.objs.size = s3.heap.objs.size + 1 := by rw [hs'.1, Heap.size_push]
    generalize hgo : ({ cls := .type "generator", data := .fields #[.int s3.gens.size 0, .str "<genexpr>" (s3.toks + 1), .str (X.env.qual ++ "<genexpr>") (s3.toks + 1 + 1)] } : Obj) = go
    have isg : ∀ h : Heap, h.get? h'.objs.size = some go → h.IsGen h'.objs.size s3.gens.size := fun h e => ⟨go, _, _, e, by rw [← hgo], by rw [← hgo], by rw [← hgo]⟩
    have gof : (h'.push go).get? h'.objs.size = some go := Heap.get?_push_size _ (by rw [← hgo]; rfl)
    have kp : ∀ b o, s3.heap.get? b = some o → (h'.push go).get? b = some o := fun b o e => Heap.get?_push_of_some _ (hs'.extBut b o (Nat.ne_of_lt (Heap.lt_size e)) (Heap.get?_push_of_some _ e))
    have hA' : (X.A.in1.in1.over (.compLoop (.GeneratorExp elt [⟨tg, iter, [], 0⟩] scope gpos) 0 (.ref it) .none (genEnv scope (cloFrom X.env.cells scope.names []) s3.heap.objs.size code builtinsNs X.env)) []).frames = some (genEnv scope (cloFrom X.env.cells scope.names []) s3.heap.objs.size code builtinsNs X.env :: X.stack) := by
      show pushEnvs [_] (pushEnvs [] X.A.frames) = _
      rw [I3.ok.frames]
      rfl
    have lt3 : ∀ b ∈ fp, b < s3.heap.objs.size := fun b hb => by
      obtain ⟨o, e, _⟩ := T.obj _ _ st3' b hb
      exact Heap.lt_size e
    have bare5 : AllBare (s3.gens.push (.fresh (.compStart (.GeneratorExp elt [⟨tg, iter, [], 0⟩] scope gpos) 0 (.ref it) .none (genEnv scope (cloFrom X.env.cells scope.names []) s3.heap.objs.size code builtinsNs X.env)))) := I3.bare.push rfl
    refine hQ (gx X s3 H2 (X.A.in1.in1.over (.compLoop (.GeneratorExp elt [⟨tg, iter, [], 0⟩] scope gpos) 0 (.ref it) .none (genEnv scope (cloFrom X.env.cells scope.names []) s3.heap.objs.size code builtinsNs X.env)) []) (genEnv scope (cloFrom X.env.cells scope.names []) s3.heap.objs.size code builtinsNs X.env) fp [(h'.objs.size, go)]) (wipe τ (own.map (·.2))) (fun H' => Q (.bl cont) H') (fun H' => Q (.bl (!cont)) H') h'.objs.size s3.gens.size (m0 + 1) go _ rfl rfl (List.mem_singleton.mpr rfl) isg ?_ (fun pins' σ' H' s1 s' IG k' o' b' => gx_back I3 f2 IG k' o' b') (fun _ q => q) fun _ q => q
    refine ⟨isg _ gof, I3.nolimit.keeps kp, bare5, _, Array.getElem?_push_size .., fun s'' near => ⟨rfl, ?_⟩⟩
    obtain ⟨g', t', rfl, bare'⟩ := near
    have IG := gx_start (s6 := { s3 with gens := g', toks := t', heap := h'.push go }) I3 hN ok hnc (fun b hb => ⟨f2 b hb, lt3 b hb⟩) (show (X.A.in1.in1.over (.compLoop (.GeneratorExp elt [⟨tg, iter, [], 0⟩] scope gpos) 0 (.ref it) .none (genEnv scope (cloFrom X.env.cells scope.names []) s3.heap.objs.size code builtinsNs X.env)) []).handled = none from I3.ok.hd hc) hA' kp (hn'.push _) rfl bare' (by rw [szp]; exact Nat.lt_succ_self _) gof (fun v z => by rw [← hgo] at z; cases z)
    have st5 : tn 0 (h'.push go) := T.keep _ _ _ st3' fun b _ o e => kp b o e
    refine gx_begin (X := gx X s3 H2 (X.A.in1.in1.over (.compLoop (.GeneratorExp elt [⟨tg, iter, [], 0⟩] scope gpos) 0 (.ref it) .none (genEnv scope (cloFrom X.env.cells scope.names []) s3.heap.objs.size code builtinsNs X.env)) []) (genEnv scope (cloFrom X.env.cells scope.names []) s3.heap.objs.size code builtinsNs X.env) fp [(h'.objs.size, go)]) T st5 ?_
    refine gx_loop (X := gx X s3 H2 (X.A.in1.in1.over (.compLoop (.GeneratorExp elt [⟨tg, iter, [], 0⟩] scope gpos) 0 (.ref it) .none (genEnv scope (cloFrom X.env.cells scope.names []) s3.heap.objs.size code builtinsNs X.env)) []) (genEnv scope (cloFrom X.env.cells scope.names []) s3.heap.objs.size code builtinsNs X.env) fp [(h'.objs.size, go)]) rfl hc (fun p hp hm => ?_) rfl rfl hco T (hg _ _ _ _ _ _ _ _) (he _ _ _ _ _ _ _ _ (gx_room hr rfl rfl)) turn m0 (m0 + 1) 0 _ _ H2 (Nat.lt_succ_self _) IG st5 (fun b hb => (f2 b hb).1) w0
    have : p = (h'.objs.size, go) := List.mem_singleton.mp hp
    subst this
    have h9 : h'.objs.size < s3.heap.objs.size := lt3 _ hm
    rw [szp] at h9
    exact absurd h9 (Nat.not_lt.mpr (Nat.le_succ _))
  cases hf : codeAmong gpos ps.toList with
  | none =>
    refine wpAny_genexprCodeX hcode (cd.code hPs htr) (cd.tab hPs) hf fun c' h' tk hx hge hlt hco' _ htab' _ => ?_
    obtain ⟨o1, vs, f1, tf, fl, tg1, inF, tx, tt, op, _, _, _, _, _, _, _, _, _, htr', _⟩ := hco'
    exact go_on _ h' tk (fun b o hb e => hx b o hb e) (Nat.le_trans hge (Nat.le_of_lt hlt)) ⟨_, htab'.2, htr'⟩
  | some cv =>
    refine wpAny_genexprCode_hit hcode (cd.code hPs htr) hf ?_
    exact go_on cv s2.heap s2.toks (fun _ _ _ e => e) (Nat.le_refl _) ⟨ps, hPs, htr⟩
theorem pe_allG {c P : Addr} {elt tg iter : Expr} {scope : Scope} {own : List (Str × Nat)} {p pos gpos : Pos} {wi : TI} {gg : TG} {te : TE} {k : Nat}
    (hr : Room (k + 1) X.A) (hc : X.calm = true) (hN : X.N.Nodup) (hgl : Gl X "all") (hm : X.mg "all" = none) (TB : GxR.TabB X.base X.mg c P) (hcode : X.env.code = .ref c) (hi : PI X tg iter wi) (ok : BlkOk X.N X.env.scope scope own)
    (hg : ∀ s H A' C cl code fp pn, PG (gx X s H A' (genEnv scope cl C code builtinsNs X.env) fp pn) tg gg) (he : ∀ s H A' C cl code fp pn, Room k A' → PE (gx X s H A' (genEnv scope cl C code builtinsNs X.env) fp pn) elt te)
    (hdot : scope.names.lookup (".0" : Str) = some NameKind.local := by rfl) (hnc : (scope.names.all fun y => y.2 != .cell) = true := by rfl) (hco : scope.isCoroutine = false := by rfl) (hs : ∀ v, genFold iter X.env v = pure v := by intro _; rfl)
    (hst : starEach [.GeneratorExp elt [⟨tg, iter, [], 0⟩] scope gpos] X.env = (false, eval (.GeneratorExp elt [⟨tg, iter, [], 0⟩] scope gpos) X.env) :: starEach [] X.env := by rfl) :
    PE X (.Call (.Name "all" p) [.GeneratorExp elt [⟨tg, iter, [], 0⟩] scope gpos] [] pos) (tGx true P wi gg te (own.map (·.2))) := by
  refine ⟨fun pins s σ H Q I h => ?_⟩
  refine wpAny_Call_Name_kw (ld_blt I hgl hm boot_all ?_)
  refine PyProof.Rows.callWith_builtin1 ?_ hst (by rfl)
  rw [hst]
  show wpAny _ _ (spliced ((false, eval (.GeneratorExp elt [⟨tg, iter, [], 0⟩] scope gpos) X.env) :: backTo pos (starEach [] X.env))) _ _ s
  refine Calls.spliced_cons (gx_make hr hc hN TB hcode hi ok hdot (fun y hy e => ?_) hco hg he hs I h fun G τ QD QE a g n go s5 eP eW hpn hgo hat back hD hE => Calls.spliced_nil ?_)
  · have := List.all_eq_true.mp hnc y hy
    rw [e] at this
    exact absurd this (by decide)
  refine call_function_tree F.kind_all F.plain_all F.entry_all (F.args_all1 _) ?_
  unfold Builtin.«all»
  refine wpAny_bind (m := oneArg "all" _) (wpAny_pure (wpAny_bind (wpAny_pyIter_gen hat.1 ?_)))
  have L := gx_all (G := G) (A := X.A) (σ := τ) (QD := QD) (QE := QE) (a := a) (g := g) (go := go) (R := fun r s' => ∃ v, r = .ok (.ret v) ∧ EP X pins σ Q v s') hr.hd (by have := hr.dp; omega) hpn hgo (fun σ' pins' H' s1 gs' IG q hb => ⟨_, rfl, .bl false, H', back _ _ _ _ _ IG (fun _ _ e => e) rfl (allBare_setGen IG.bare hb), rfl, hE _ q⟩)
    (fun s1 h' H' IG q hk => ⟨_, rfl, .bl true, H', back _ _ _ _ _ IG hk rfl (allBare_setGen IG.bare rfl), rfl, hD _ q⟩) n s5 hat
  rw [eP, eW] at L
  exact wpAny_pure ⟨plainId_quiet F.plain_all_loop _, codeAny_mono L fun r s' ⟨v, e, q⟩ => by subst e; simpa using q⟩
theorem pe_anyG {c P : Addr} {elt tg iter : Expr} {scope : Scope} {own : List (Str × Nat)} {p pos gpos : Pos} {wi : TI} {gg : TG} {te : TE} {k : Nat}
    (hr : Room (k + 1) X.A) (hc : X.calm = true) (hN : X.N.Nodup) (hgl : Gl X "any") (hm : X.mg "any" = none) (TB : GxR.TabB X.base X.mg c P) (hcode : X.env.code = .ref c) (hi : PI X tg iter wi) (ok : BlkOk X.N X.env.scope scope own)
    (hg : ∀ s H A' C cl code fp pn, PG (gx X s H A' (genEnv scope cl C code builtinsNs X.env) fp pn) tg gg) (he : ∀ s H A' C cl code fp pn, Room k A' → PE (gx X s H A' (genEnv scope cl C code builtinsNs X.env) fp pn) elt te)
    (hdot : scope.names.lookup (".0" : Str) = some NameKind.local := by rfl) (hnc : (scope.names.all fun y => y.2 != .cell) = true := by rfl) (hco : scope.isCoroutine = false := by rfl) (hs : ∀ v, genFold iter X.env v = pure v := by intro _; rfl)
    (hst : starEach [.GeneratorExp elt [⟨tg, iter, [], 0⟩] scope gpos] X.env = (false, eval (.GeneratorExp elt [⟨tg, iter, [], 0⟩] scope gpos) X.env) :: starEach [] X.env := by rfl) :
    PE X (.Call (.Name "any" p) [.GeneratorExp elt [⟨tg, iter, [], 0⟩] scope gpos] [] pos) (tGx false P wi gg te (own.map (·.2))) := by
  refine ⟨fun pins s σ H Q I h => ?_⟩
  refine wpAny_Call_Name_kw (ld_blt I hgl hm boot_any ?_)
  refine PyProof.Rows.callWith_builtin1 ?_ hst (by rfl)
  rw [hst]
  show wpAny _ _ (spliced ((false, eval (.GeneratorExp elt [⟨tg, iter, [], 0⟩] scope gpos) X.env) :: backTo pos (starEach [] X.env))) _ _ s
  refine Calls.spliced_cons (gx_make hr hc hN TB hcode hi ok hdot (fun y hy e => ?_) hco hg he hs I h fun G τ QD QE a g n go s5 eP eW hpn hgo hat back hD hE => Calls.spliced_nil ?_)
  · have := List.all_eq_true.mp hnc y hy
    rw [e] at this
    exact absurd this (by decide)
  refine call_function_tree F.kind_any F.plain_any F.entry_any (F.args_any1 _) ?_
  unfold Builtin.«any»
  refine wpAny_bind (m := oneArg "any" _) (wpAny_pure (wpAny_bind (wpAny_pyIter_gen hat.1 ?_)))
  have L := gx_any (G := G) (A := X.A) (σ := τ) (QD := QD) (QE := QE) (a := a) (g := g) (go := go) (R := fun r s' => ∃ v, r = .ok (.ret v) ∧ EP X pins σ Q v s') hr.hd (by have := hr.dp; omega) hpn hgo (fun σ' pins' H' s1 gs' IG q hb => ⟨_, rfl, .bl true, H', back _ _ _ _ _ IG (fun _ _ e => e) rfl (allBare_setGen IG.bare hb), rfl, hE _ q⟩)
    (fun s1 h' H' IG q hk => ⟨_, rfl, .bl false, H', back _ _ _ _ _ IG hk rfl (allBare_setGen IG.bare rfl), rfl, hD _ q⟩) n s5 hat
  rw [eP, eW] at L
  exact wpAny_pure ⟨plainId_quiet F.plain_any_loop _, codeAny_mono L fun r s' ⟨v, e, q⟩ => by subst e; simpa using q⟩
end
end Hid

namespace Hid
open PySem PySem.Spec PyProof.Rows L2 Evl
/-! the tables of a law: held by their form within, as they grew at the end -/
def xtab (ts : List Addr) (H : Hp) : Hp := fun b => if b ∈ ts then some (TabX b) else H b
theorem xtab_in {ts : List Addr} {H : Hp} {b : Addr} (h : b ∈ ts) : xtab ts H b = some (TabX b) := if_pos h
theorem xtab_out {ts : List Addr} {H : Hp} {b : Addr} (h : b ∉ ts) : xtab ts H b = H b := if_neg h
/-- back to the tables' contents -/
def grown (ts : List Addr) (h : Heap) (H : Hp) : Hp := fun b => if b ∈ ts then (match h.get? b with | some ⟨_, _, .fields ps, _⟩ => some (.tbl ps) | _ => none) else H b
theorem grown_in {ts : List Addr} {h : Heap} {H : Hp} {b : Addr} {ps : Array Value} (hb : b ∈ ts) (e : h.get? b = some (PySem.W.tabObj ps)) : grown ts h H b = some (.tbl ps) := by
  unfold grown
  rw [if_pos hb, e]
theorem grown_out {ts : List Addr} {h : Heap} {H : Hp} {b : Addr} (hb : b ∉ ts) : grown ts h H b = H b := if_neg hb
/-- all tables stand -/
def TB (ts : List Addr) (H : Hp) : Prop := ∀ P ∈ ts, H P = some (TabX P)
theorem TB.ex {ts : List Addr} {H H' : Hp} (h : TB ts H) (e : Ex H H') : TB ts H' := fun P hP => e _ _ (h P hP)
section
variable {P : Program} {w : World} {K : PySem.W.Frag} {mg : Str → Option Value} {base : Heap} {k : Nat} {f : Addr} {fd : FuncData} {ps : List Str} {sp : Sp} {ts : List Addr}
/-- a promise with tables held by their form, told with the tables' own contents -/
def spT (ts : List Addr) (sp : Sp) : Sp := fun vs H Q E => (∀ b ∈ ts, H b = some (.tbl #[])) ∧ sp vs (xtab ts H) (fun v H' => TB ts H' ∧ ∀ H'', (∀ b, b ∉ ts → H'' b = H' b) → Q v H'') E
theorem tab_law (F : FnOk P w K mg base CX0 k f fd ps sp) : FnOk P w K mg base CX0 k f fd ps (spT ts sp) := by
  refine ⟨fun vs H Q E h => F.len _ _ _ _ h.2, fun A outer s H args us vs Q E hr e0 hb hv h => ?_⟩
  obtain ⟨hT, h⟩ := h
  have out : ∀ {b : Addr}, H b = none → b ∉ ts := fun {b} e m => by
    rw [hT b m] at e
    cases e
  have outK : ∀ {b : Addr} {u : HO}, H b = some u → (∀ q, u ≠ .tbl q) → b ∉ ts := fun {b u} e n m => by
    rw [hT b m] at e
    exact n _ (Option.some.inj e).symm
  have hok : HOk P w (xtab ts H) s.heap := fun b u e => by
    by_cases m : b ∈ ts
    · rw [xtab_in m] at e
      cases e
      have q := e0.hok b _ (hT b m)
      exact tabX_ok ⟨#[], q, by first | trivial | exact .nil | constructor⟩
    · rw [xtab_out m] at e
      refine (e0.hok b u e).stay (fun c v _ q => q) (fun c q => ?_) fun c xs q => ?_
      · rw [xtab_out (outK q fun _ z => nomatch z)]
        exact q
      · rw [xtab_out (outK q fun _ z => nomatch z)]
        exact q
  have e1 : Env0 P w K mg base A outer s (xtab ts H) := ⟨e0.frames, e0.mod, fun b o e => ⟨(e0.bs b o e).1, by rw [xtab_out (out (e0.bs b o e).2)]; exact (e0.bs b o e).2⟩, e0.bsz, e0.funs, fun b hb => by rw [xtab_out (out (e0.frf b hb))]; exact e0.frf b hb, hok, e0.bare⟩
  refine codeAny_mono (F.run A outer s (xtab ts H) args us vs _ E hr e1 hb hv h) fun r s' hq => ?_
  cases r with
  | error e => exact hq.elim
  | ok fl =>
    cases fl with
    | next => exact hq.elim
    | brk => exact hq.elim
    | cont => exact hq.elim
    | ret u =>
      obtain ⟨v, H', os, bare, un, hok', rv, tb, q⟩ := hq
      have at' : ∀ b ∈ ts, ∃ qs, s'.heap.get? b = some (PySem.W.tabObj qs) := fun b m => by
        obtain ⟨⟨qs, e, _⟩, _⟩ := hok' b _ (tb b m)
        exact ⟨qs, e⟩
      have outK' : ∀ {b : Addr} {u : HO}, H' b = some u → (∀ φ, u ≠ .ext φ) → b ∉ ts := fun {b u} e n m => by
        rw [tb b m] at e
        exact n _ (Option.some.inj e).symm
      refine ⟨v, grown ts s'.heap H', os, bare, ⟨fun b o e n => ?_, fun b o e n => ?_, fun b o e n hx => ?_, un.there, fun b xs e => ?_, fun b o u e => ?_, fun b qs e => ?_⟩, fun b u e => ?_, rv, q _ fun b hb => grown_out hb⟩
      · exact un.keep b o e (by rw [xtab_out (out n)]; exact n)
      · exact un.slot b o e (by rw [xtab_out (out n)]; exact n)
      · rw [grown_out (out n)]
        exact un.free b o e (by rw [xtab_out (out n)]; exact n) hx
      · have m := outK e fun _ z => nomatch z
        rw [grown_out m]
        exact un.tups b xs (by rw [xtab_out m]; exact e)
      · have m := outK e fun _ z => nomatch z
        rw [grown_out m]
        exact un.frzs b o u (by rw [xtab_out m]; exact e)
      · by_cases m : b ∈ ts
        · obtain ⟨rs, er⟩ := at' b m
          rw [hT b m] at e
          cases e
          exact ⟨rs, by rw [grown_in m er, Array.empty_append]⟩
        · obtain ⟨more, z⟩ := un.tbls b qs (by rw [xtab_out m]; exact e)
          exact ⟨more, by rw [grown_out m]; exact z⟩
      · by_cases m : b ∈ ts
        · obtain ⟨rs, er⟩ := at' b m
          rw [grown_in m er] at e
          cases e
          exact er
        · rw [grown_out m] at e
          refine (hok' b u e).stay (fun c v _ q => q) (fun c q => ?_) fun c xs q => ?_
          · rw [grown_out (outK' q fun _ z => nomatch z)]
            exact q
          · rw [grown_out (outK' q fun _ z => nomatch z)]
            exact q
/-- a def by its body, the code object known -/
theorem okC {x qual : Str} {st : Stmt} {N : List Str} {c : Addr} (F : Fun K x qual st f fd) (hc : fd.code = .ref c) (S : FnScope N ps (defScope st)) (len : ∀ vs H Q E, sp vs H Q E → vs.length = ps.length)
    (hbody : ∀ (A : Around) (outer : List Env) (s : Shared) (H : Hp) (vs : List V) (Q : VK) (E : XK), Room k (A.deeper (envOfC qual (defScope st) s.heap.objs.size f (.ref c))) → sp vs H Q E →
      ∃ t, PSs (cxOf CX0 P w K mg base N qual (defScope st) f (.ref c) A outer s H E).nox (defBody st) t ∧ t { nx := fun _ H' => Q .non H', rt := Q } (start N vs) H) : FnOk P w K mg base CX0 (k + 1) f fd ps sp := by
  obtain ⟨oc, od, kV, doc, pm, an, cdv, ct, osl, rfl, lk, hcd⟩ := F.ex
  obtain rfl : cdv = .ref c := hc
  exact fn_of lk hcd S len fun A outer s H vs Q E hr hsp => let ⟨t, h, q⟩ := hbody A outer s H vs Q E hr hsp; ⟨t, h.nox, q⟩
end
theorem xtab_sq {K : PySem.W.Frag} {ts : List Addr} {H : Hp} {a : Addr} {xs : List V} (hT : ∀ b ∈ ts, H b = some (.tbl #[])) (h : SqL K H a xs) : SqL K (xtab ts H) a xs := by
  rcases h with (h | ⟨o, h⟩) | h
  · refine .inl (.inl ?_)
    rw [xtab_out fun m => by rw [hT a m] at h; cases h]; exact h
  · refine .inl (.inr ⟨o, ?_⟩)
    rw [xtab_out fun m => by rw [hT a m] at h; cases h]; exact h
  · exact .inr h
/-- a def with a code object that is asked for -/
def DfC (K : PySem.W.Frag) (mg : Str → Option Value) (x : Str) (st : Stmt) (ps : List Str) (c : Addr) : Prop := ∃ (f : Addr) (fd : FuncData), Fun K x x st f fd ∧ Binds K fd ps [] ∧ mg x = some (.ref f) ∧ fd.code = .ref c
theorem tabIn_mk {K : PySem.W.Frag} {x : Str} {f c P : Addr} {oc o1 : Value} {od o2 : Option Addr} {sl sl2 : Array (Option Value)} {fd : FuncData} {vs : Array Value} (a : PySem.W.nsIn K mainGlobals x = some (some (.ref f))) (b : K.lookup f = some ⟨oc, od, .func fd, sl⟩) (d : fd.code = .ref c) (e : K.lookup c = some ⟨o1, o2, .fields vs, sl2⟩) (g : vs[11]? = some (.ref P)) : PySem.W.tabIn K x = some (c, P) := by
  unfold PySem.W.tabIn
  simp only [a, b, d, e, g]
theorem walk_ofG {l : PySem.W.OpenLaw} {n k : Nat} {q : Program} {loose : List Str} {XP : (Str → Option Value) → Heap → Prop} {YP : World → Heap → Prop} {d : DefRec} {K : Params → PySem.W.Frag} {CX : World → CXT} {x : Str}
    (hn : l.most = some n) (hn2 : n ≤ sizeLine) (hdf : d.params.defaults = []) (hr : Room k callerA) (hY : ∀ (w : World) (h : Heap), YP w h → (K w.params).In h)
    (F : ∀ (w : World) (mg : Str → Option Value) (fa : Addr) (h : Heap), (K w.params).In h → h.Ns mainGlobals mg → mg d.name = some (.ref fa) → (∀ (y : Str) (c P : Addr), ((recsOf q).find? fun e => e.name == y).isSome = true → PySem.W.tabIn (K w.params) y = some (c, P) → PySem.W.CodeHd h c P ∧ h.get? P = some (PySem.W.tabObj #[])) → LamX.LawAtS l w (K w.params) (CX w) k n x mg fa h)
    (hCX : ∀ (w : World) (H : Hp) (s : Shared) (e : Value) (s' : Shared), CX w [] H s (fun _ _ _ => False) e s' → False) : PySem.W.WalkO q loose XP YP l.row.toRowW d [] (fun f vs => PySem.call f vs) := by
  refine Att.attach_callB hn hdf fun w s₀ s₁ mg mb fa o pm cd doc a vs ns G Y ho hd hcd hmg hobj hints hlen hbits hg => ?_
  have KX := hY w _ Y
  obtain ⟨fd, cs, sp, hT, nT, C, hb, hsp, hF⟩ := F w mg fa _ KX G.T.g hmg fun y c P hr ht => by
    obtain ⟨e, he⟩ := Option.isSome_iff_exists.mp hr
    exact PySem.W.tab_of G.T KX he ht
  exact LamX.law_callTs KX G.T.g G.T.b G.T.builtins G.T.nolimit hg hT nT C G.T.bmain hobj hints (Nat.le_trans hlen hn2) hr hF hb (fun H hH hS => hsp H a ns hlen hbits hH hS) fun H e s' => hCX w H s₁ e s'
end Hid

namespace Hid
open PySem PySem.Spec PyProof.Rows L2
section
variable {prog : Program} {w : World} {A : Around} {E : Value → Shared → Prop} {s : Shared}
/-- tuple(text): the code of tuple.__new__ -/
theorem tupStr_code {z : Str} {t : Tok} {Q₁ : Value → Shared → Prop} (hh : A.handled = none) (hl : z.cps.size ≤ 100000)
    (h : ∀ (h' : Heap) (tk : Nat) (acc : Array Value), (∀ b o, s.heap.get? b = some o → h'.get? b = some o) → ItemsOf (SignAt z) acc z.cps.size → Q₁ (.ref h'.objs.size) { s with heap := h'.push { cls := .type "tuple", data := .seq acc }, toks := tk }) :
    codeAny (model prog w) A (.call (.builtin "tuple.__new__") ⟨[.type "tuple", .str z t], []⟩) (wants Q₁ E) s := by
  have hsz : z.cps.size ≤ sizeLine := Nat.le_trans hl (by decide)
  refine codeAny_of_tree ?_
  show wpAny _ A.in1 (do checkBuiltinCall "tuple.__new__" ⟨[.type "tuple", .str z t], []⟩; again (.builtin "tuple.__new__" ⟨[.type "tuple", .str z t], []⟩)) _ _ s
  refine wpAny_bind (wpAny_of_eq (F.newCall_tuple_1 _) (wpAny_pure ⟨plainId_quiet F.plain_tuple_new _, codeAny_builtin F.entry_tuple_new ?_⟩))
  rw [Around.under_plainId F.plain_tuple_new _]
  have hsub := sub_tuple_self; have hinit := init_tuple_lookup; have hmh := madeHere_tuple
  have hTI : s.TypeIs (.str z t) "str" := typeIs_str _ _ _
  have hh1 : A.in1.handled = none := hh
  wp_walk using wpAny_typeOf hTI, wpAny_collect_str (A := A.in1) hh1 z t (hn := hsz)
  intro s' acc hk hg hd ho hacc
  obtain ⟨h', g', d', tk, o'⟩ := s'
  obtain rfl : g' = s.gens := hg
  obtain rfl : d' = s.drawn := hd
  obtain rfl : o' = s.os := ho
  show wpAny _ _ (Builtin.Tuple.tupleExact acc.toList.toArray >>= fun v => ret v) _ _ (⟨h', s.gens, s.drawn, tk, s.os⟩ : Shared)
  unfold Builtin.Tuple.tupleExact
  refine wpAny_bind (wpAny_newObj_type ?_ (by show acc.toList.toArray.size ≤ sizeLine; simp only [Array.toArray_toList]; rw [hacc.1]; exact hsz)) <;> refine wpAny_pure ?_
  rw [show acc.toList.toArray = acc by simp]
  exact h h' tk acc hk hacc
theorem tupStr {z : Str} {t : Tok} {Q : Value → Shared → Prop} (hh : A.handled = none) (hl : z.cps.size ≤ 100000)
    (hQ : ∀ (h' : Heap) (tk : Nat) (acc : Array Value), (∀ b o, s.heap.get? b = some o → h'.get? b = some o) → ItemsOf (SignAt z) acc z.cps.size → Q (.ref h'.objs.size) { s with heap := h'.push { cls := .type "tuple", data := .seq acc }, toks := tk }) :
    wpAny (model prog w) A (call (.type "tuple") [.str z t]) Q E s := by
  refine callType_codes (Q₁ := fun obj s₁ => s₁.TypeIs obj "tuple" ∧ Q obj s₁) F.called_tuple (F.typeCall_tuple_1 _) F.entry_object_init (tupStr_code (A := A.in1) hh hl fun h' tk acc hk hacc => ⟨⟨_, Heap.get?_push_size _ rfl, rfl⟩, hQ h' tk acc hk hacc⟩) fun obj s₁ h₁ => ?_
  exact ⟨h₁.1, F.args_object_init_2 obj _, object_init_meets F.called_tuple.init.lookup F.called_tuple.made (by decide) prog w A.in1 _ s₁ ⟨h₁.1, rfl, h₁.2⟩⟩
end
def signsV (z : Str) : List V := z.cps.toList.map fun c => V.str ⟨#[c]⟩
theorem cr_tupS {X : Cx} (hc : X.calm = true) : CallR X (.type "tuple") (fun vs H Q => ∃ z : Str, vs = [.str z] ∧ z.cps.size ≤ 100000 ∧ ∀ p, H p = none → Q (.ref p) (upd H p (.tup (signsV z)))) := by
  intro pins s σ H vs us Q I r h
  obtain ⟨z, rfl, hl, q⟩ := h
  obtain ⟨u, rfl, t, rfl⟩ := r.one
  refine tupStr (I.ok.hd hc) hl fun h' tk acc hk hacc => ?_
  have I2 : Inv X pins σ H { s with heap := h', toks := tk } := I.kept hk
  have rv : Vals (signsV z) acc.toList := by
    have e : signsV z = (List.range acc.toList.length).map fun i => V.str ⟨#[z.cps.toList.getD i 0]⟩ := by
      unfold signsV
      rw [Array.length_toList, hacc.1, ← Array.length_toList]
      conv => lhs; rw [← map_range_getD' z.cps.toList 0]
      rw [List.map_map]; rfl
    rw [e]
    refine vals_of_get acc.toList _ fun j u hj => ?_
    obtain ⟨c, t, hc, rfl⟩ := hacc.2 j u (by rw [← hj, Array.getElem?_toList])
    refine ⟨t, ?_⟩
    rw [List.getD_eq_getElem?_getD, Array.getElem?_toList, hc]; rfl
  have hlen : (signsV z).length ≤ sizeLine := by unfold signsV; rw [List.length_map, Array.length_toList]; exact Nat.le_trans hl (by decide)
  refine ⟨.ref h'.objs.size, upd H h'.objs.size (.tup (signsV z)), I2.laid (t' := tk) (o := .tup (signsV z)) (fun c o e => Heap.get?_push_of_some _ e) (Nat.le_refl _) ⟨hlen, acc.toList, rv, ?_⟩, rfl, q _ (I2.hok.fresh (Nat.le_refl _))⟩
  rw [Array.toArray_toList]; exact IsTup.new _ _
end Hid

namespace Hid
open PySem PySem.Spec PyProof.Rows L2 Evl
section
variable {J : It} {n : Nat} {Gd : Hp → Prop} {Y : Nat → Hp → V → Hp → Prop}
/-- all, any over a walk: Pv by the turn and the heap -/
theorem gx_it (w : Walk J n Gd Y) {cont : Bool} {g : TG} {te : TE} {vs : List Nat} {σ : L2.St} {H1 : Hp} {Q : VK} (Pv : Nat → Hp → Prop) (h0 : Pv 0 H1) (hG : ∀ i H, i ≤ n → Pv i H → Gd H)
    (hs : ∀ i x H H', i < n → Pv i H → Y i H x H' → g x (wipe σ vs) H' fun σ2 H2 => wipe σ2 vs = wipe σ vs ∧ te σ2 H2 fun y H3 => ∃ b, y = .bl b ∧ (b = cont → Pv (i + 1) H3) ∧ (b ≠ cont → Q (.bl (!cont)) H3)) (hd : ∀ H, Pv n H → Q (.bl cont) H) :
    ∃ W : Nat → Nat → Hp → Prop, (∃ m, W 0 m H1) ∧ ∀ i m H, W i m H → (J.stop i H ∧ Q (.bl cont) H) ∨ (J.go i H ∧ ∃ Nx : Hp → Prop, (∀ H', Nx H' → ∃ m', m' < m ∧ W (i + 1) m' H') ∧
      ∀ x H', J.yld i H x H' → g x (wipe σ vs) H' fun σ2 H2 => wipe σ2 vs = wipe σ vs ∧ te σ2 H2 fun y H3 => ∃ b, y = .bl b ∧ (b = cont → Nx H3) ∧ (b ≠ cont → Q (.bl (!cont)) H3)) := by
  refine ⟨fun i m H => m = n - i ∧ i ≤ n ∧ Pv i H, ⟨n, by simp, Nat.zero_le _, h0⟩, fun i m H hw => ?_⟩
  obtain ⟨rfl, hi, p⟩ := hw
  rcases Nat.lt_or_ge i n with hlt | hge
  · exact .inr ⟨w.goes i H hlt (hG i H hi p), Pv (i + 1), fun H' p' => ⟨n - (i + 1), by omega, rfl, hlt, p'⟩, fun x H' y => hs i x H H' hlt p (w.yields i H x H' hlt (hG i H hi p) y)⟩
  · obtain rfl : i = n := by omega
    exact .inl ⟨w.stops H (hG i H hi p), hd H p⟩
end
theorem of_not {b : Bool} (h : (!b) = true) : b = false := by cases b; rfl; cases h
theorem of_not' {b : Bool} (h : (!b) = false) : b = true := by cases b; cases h; rfl
/-! things of any kind: a text, or no text -/
def NotS (K : PySem.W.Frag) (H : Hp) (v : V) : Prop := ∃ t, kitB t "str" = some false ∧ ∀ H1, Ex H H1 → TyX K H1 v (.type t)
theorem NotS.ex {K : PySem.W.Frag} {H H' : Hp} {v : V} (h : NotS K H v) (e : Ex H H') : NotS K H' v := let ⟨t, a, b⟩ := h; ⟨t, a, fun H1 e1 => b H1 (e.trans e1)⟩
def Th (K : PySem.W.Frag) (H : Hp) (v : V) : Option (List Nat) → Prop
  | some z => v = .str (tx z) ∧ z.length ≤ 1000
  | none => NotS K H v
theorem Th.ex {K : PySem.W.Frag} {H H' : Hp} {v : V} : ∀ {o : Option (List Nat)}, Th K H v o → Ex H H' → Th K H' v o
  | some _, h, _ => h
  | none, h, e => NotS.ex h e
theorem th_str {K : PySem.W.Frag} {H : Hp} (z : List Nat) (h : z.length ≤ 1000) : Th K H (.str (tx z)) (some z) := ⟨rfl, h⟩
theorem th_non {K : PySem.W.Frag} {H : Hp} : Th K H .non none := ⟨"NoneType", by decide +kernel, fun _ _ => .base .non⟩
theorem th_bl {K : PySem.W.Frag} {H : Hp} (b : Bool) : Th K H (.bl b) none := ⟨"bool", by decide +kernel, fun _ _ => .base (.bl b)⟩
theorem th_int {K : PySem.W.Frag} {H : Hp} (i : Int) : Th K H (.int i) none := ⟨"int", by decide +kernel, fun _ _ => .base (.int i)⟩
theorem th_tup {K : PySem.W.Frag} {H : Hp} {a : Addr} {xs : List V} (h : H a = some (.tup xs)) : Th K H (.ref a) none := ⟨"tuple", by decide +kernel, fun _ e => .base (.tup (e _ _ h))⟩
theorem th_lst {K : PySem.W.Frag} {H : Hp} {a : Addr} {xs : List V} (h : H a = some (.lst xs)) : Th K H (.ref a) none := ⟨"list", by decide +kernel, fun _ e => .base (.lst (e _ _ h))⟩
theorem th_dict {K : PySem.W.Frag} {H : Hp} {a : Addr} {xs : List (Key × V)} (h : H a = some (.dK xs)) : Th K H (.ref a) none := ⟨"dict", by decide +kernel, fun _ e => .base (.dK (e _ _ h))⟩
section
variable {K : PySem.W.Frag} {σ : L2.St} {H : Hp} {ta : TE}
theorem ev_isS {v : V} {o : Option (List Nat)} (ha : Ev ta σ H v) (h : Th K H v o) : Ev (tCB (rIsi K) (tCons ta (tCons (tC (.ty "str")) tNil))) σ H (.bl o.isSome) := by
  cases o with
  | none => obtain ⟨t, hk, ht⟩ := h; exact ev_isi ha ht hk
  | some z => obtain ⟨rfl, _⟩ := h; exact ev_isi (b := true) ha (fun _ _ => .base (.str _)) (by decide +kernel)
end
/-! what is a text of one to eight of these signs; what fits a row -/
def wr (o : Option (List Nat)) (g : List Nat) : Bool := match o with
  | none => false
  | some z => decide (1 ≤ z.length ∧ z.length ≤ 8) && z.all fun c => decide (c ∈ g)
def lt1 (c d : Nat) : Bool := decide (c = 98) || decide (c = d)
def fitsO (r : List Nat) (o : Option (List Nat)) : Bool := match o with
  | none => false
  | some z => decide (z.length = r.length) && (z.all fun c => decide (c ∈ [110, 121])) && (List.zipWith lt1 r z).all id
def otherO (r : List Nat) (o : Option (List Nat)) : V := match o with
  | none => .non
  | some z => if fitsO r (some z) = true then .str (tx (turned r z)) else .non
theorem otherO_no {r : List Nat} {o : Option (List Nat)} (h : fitsO r o = false) : otherO r o = .non := by
  cases o with
  | none => rfl
  | some z => show (if fitsO r (some z) = true then V.str (tx (turned r z)) else V.non) = V.non; rw [h]; rfl
theorem otherO_yes {r z : List Nat} (h : fitsO r (some z) = true) : otherO r (some z) = .str (tx (turned r z)) := by
  show (if fitsO r (some z) = true then V.str (tx (turned r z)) else V.non) = _; rw [if_pos h]
theorem row_wr {r : List Nat} (h : RowL r) : wr (some r) [110, 98, 121] = true := by
  unfold wr
  rw [Bool.and_eq_true]
  refine ⟨decide_eq_true h.1, List.all_eq_true.mpr fun c hc => decide_eq_true ?_⟩
  rcases h.2 c hc with z | z | z <;> rw [z] <;> simp
/-- fits, step by step -/
theorem fits_step {r : List Nat} (hr : RowL r) (o : Option (List Nat)) : fitsO r o = (wr o [110, 121] && match o with | none => false | some z => decide (r.length = z.length) && (List.zipWith lt1 r z).all id) := by
  cases o with
  | none => rfl
  | some z =>
    show ((decide (z.length = r.length) && z.all fun c => decide (c ∈ [110, 121])) && (List.zipWith lt1 r z).all id) = ((decide (1 ≤ z.length ∧ z.length ≤ 8) && z.all fun c => decide (c ∈ [110, 121])) && (decide (r.length = z.length) && (List.zipWith lt1 r z).all id))
    by_cases h : z.length = r.length
    · have h1 : 1 ≤ z.length ∧ z.length ≤ 8 := by have := hr.1; omega
      simp only [decide_eq_true h, decide_eq_true h1, decide_eq_true h.symm, Bool.true_and]
    · have h' : ¬ r.length = z.length := fun q => h q.symm
      simp only [decide_eq_false h, decide_eq_false h', Bool.false_and, Bool.and_false]
end Hid

namespace Hid
open PySem PySem.Spec PyProof.Rows L2 Evl
/-! half-rows that fit a row, and its partings -/
abbrev Fit (r h : List Nat) : Prop := fitsO r (some h) = true
theorem fit_snoc (r h : List Nat) (c d : Nat) : fitsO (r ++ [c]) (some (h ++ [d])) = (fitsO r (some h) && (decide (d ∈ [110, 121]) && lt1 c d)) := by
  show ((decide ((h ++ [d]).length = (r ++ [c]).length) && ((h ++ [d]).all fun c => decide (c ∈ [110, 121]))) && (List.zipWith lt1 (r ++ [c]) (h ++ [d])).all id) = (((decide (h.length = r.length) && h.all fun c => decide (c ∈ [110, 121])) && (List.zipWith lt1 r h).all id) && (decide (d ∈ [110, 121]) && lt1 c d))
  by_cases hl : h.length = r.length
  · have e : (h ++ [d]).length = (r ++ [c]).length := by simp [hl]
    rw [List.zipWith_append hl.symm, List.all_append, List.all_append, decide_eq_true e, decide_eq_true hl]
    have e1 : ([d].all fun c => decide (c ∈ [110, 121])) = decide (d ∈ [110, 121]) := Bool.and_true _
    have e2 : (List.zipWith lt1 [c] [d]).all id = lt1 c d := Bool.and_true _
    rw [e1, e2]
    ac_rfl
  · have e : ¬ (h ++ [d]).length = (r ++ [c]).length := by simp [hl]
    rw [decide_eq_false e, decide_eq_false hl]
    simp only [Bool.false_and]
theorem fit_len {r h : List Nat} (f : Fit r h) : h.length = r.length ∧ ∀ c ∈ h, c = 110 ∨ c = 121 := by
  have h1 : (decide (h.length = r.length) && (h.all fun c => decide (c ∈ [110, 121])) && (List.zipWith lt1 r h).all id) = true := f
  rw [Bool.and_eq_true, Bool.and_eq_true] at h1
  refine ⟨of_decide_eq_true h1.1.1, fun c hc => ?_⟩
  have := List.all_eq_true.mp h1.1.2 c hc
  simpa using this
theorem sgn_or (k : Nat) : sgn k = 110 ∨ sgn k = 121 := by
  unfold sgn; split <;> simp
theorem tw_or (k : Nat) : tw 98 (sgn k) = 110 ∨ tw 98 (sgn k) = 121 := by
  rcases sgn_or k with h | h <;> rw [h] <;> decide
abbrev NBY (r : List Nat) : Prop := ∀ c ∈ r, c = 110 ∨ c = 98 ∨ c = 121
theorem last_of {n : Nat} {r : List Nat} (h : r.length = n + 1) : ∃ q c, r = q ++ [c] ∧ q.length = n := by
  have hne : r ≠ [] := fun z => by rw [z] at h; cases h
  exact ⟨r.dropLast, r.getLast hne, (List.dropLast_concat_getLast hne).symm, by rw [List.length_dropLast]; omega⟩
theorem fit_part : ∀ (n : Nat) (r : List Nat), r.length = n → NBY r → ∀ h : List Nat, Fit r h ↔ ∃ k, k < many r ∧ (h = (part r k).1 ∨ h = (part r k).2) := by
  intro n
  induction n with
  | zero =>
    intro r hn _ h
    have : r = [] := List.length_eq_zero_iff.mp hn
    subst this
    constructor
    · intro f
      exact ⟨0, by decide, .inl (List.length_eq_zero_iff.mp (fit_len f).1)⟩
    · rintro ⟨k, _, e | e⟩ <;> subst e <;> rfl
  | succ n ih =>
    intro r hn hr h
    obtain ⟨q, c, rfl, hq⟩ := last_of hn
    have hc := hr c (by simp)
    have ihq := ih q hq fun c hc => hr c (List.mem_append_left _ hc)
    constructor
    · intro f
      obtain ⟨fl, fc⟩ := fit_len f
      obtain ⟨g, d, rfl, _⟩ := last_of (fl.trans hn)
      have f' : fitsO (q ++ [c]) (some (g ++ [d])) = true := f
      rw [fit_snoc, Bool.and_eq_true, Bool.and_eq_true] at f'
      obtain ⟨f1, f2, f3⟩ := f'
      have hd : d = 110 ∨ d = 121 := fc d (by simp)
      obtain ⟨k, hk, hg⟩ := (ihq g).mp f1
      by_cases h98 : c = 98
      · subst h98
        by_cases h0 : q.count 98 = 0
        · have hm : many q = 1 := by unfold many; rw [h0]
          have k0 : k = 0 := by omega
          subst k0
          refine ⟨0, by rw [many_snoc, if_neg (fun h => h.2 h0)]; omega, ?_⟩
          rw [part_b]
          show g ++ [d] = (part q 0).1 ++ [110] ∨ g ++ [d] = (part q 0).2 ++ [121]
          rw [part_no_b q 0 h0] at hg ⊢
          have hg' : g = q := hg.elim id id
          rw [hg']
          rcases hd with e | e <;> rw [e]
          · exact .inl rfl
          · exact .inr rfl
        · have hm : many (q ++ [98]) = 2 * many q := by rw [many_snoc, if_pos ⟨rfl, h0⟩]
          have e0 : 2 * k / 2 = k := by omega
          have e1 : (2 * k + 1) / 2 = k := by omega
          rcases hg with e | e <;> rcases hd with e2 | e2
          · refine ⟨2 * k, by omega, .inl ?_⟩
            rw [part_b, e, e2, e0, (sgn_two k).1]
          · refine ⟨2 * k + 1, by omega, .inl ?_⟩
            rw [part_b, e, e2, e1, (sgn_two k).2]
          · refine ⟨2 * k + 1, by omega, .inr ?_⟩
            rw [part_b, e, e2, e1, (sgn_two k).2, tw_b.2]
          · refine ⟨2 * k, by omega, .inr ?_⟩
            rw [part_b, e, e2, e0, (sgn_two k).1, tw_b.1]
      · have hcd : c = d := by
          unfold lt1 at f3
          rw [decide_eq_false h98, Bool.false_or] at f3
          exact of_decide_eq_true f3
        refine ⟨k, by rw [many_snoc, if_neg (fun h => h98 h.1)]; exact hk, ?_⟩
        rw [part_o _ _ _ h98, ← hcd]
        rcases hg with e | e <;> rw [e]
        · exact .inl rfl
        · exact .inr rfl
    · rintro ⟨k, hk, e⟩
      by_cases h98 : c = 98
      · subst h98
        have hk2 : k / 2 < many q := by
          rw [many_snoc] at hk
          by_cases h0 : q.count 98 = 0
          · rw [if_neg (fun h => h.2 h0)] at hk; omega
          · rw [if_pos ⟨rfl, h0⟩] at hk; omega
        rw [part_b] at e
        rcases e with e | e <;> rw [e]
        · show fitsO _ _ = true
          rw [fit_snoc, show fitsO q (some (part q (k / 2)).1) = true from (ihq _).mpr ⟨k / 2, hk2, .inl rfl⟩]
          rcases sgn_or k with z | z <;> rw [z] <;> rfl
        · show fitsO _ _ = true
          rw [fit_snoc, show fitsO q (some (part q (k / 2)).2) = true from (ihq _).mpr ⟨k / 2, hk2, .inr rfl⟩]
          rcases tw_or k with z | z <;> rw [z] <;> rfl
      · have hc2 : c = 110 ∨ c = 121 := by
          rcases hc with z | z | z
          · exact .inl z
          · exact absurd z h98
          · exact .inr z
        rw [many_snoc, if_neg (fun h => h98 h.1)] at hk
        rw [part_o _ _ _ h98] at e
        rcases e with e | e <;> rw [e]
        · show fitsO _ _ = true
          rw [fit_snoc, show fitsO q (some (part q k).1) = true from (ihq _).mpr ⟨k, hk, .inl rfl⟩]
          rcases hc2 with z | z <;> rw [z] <;> rfl
        · show fitsO _ _ = true
          rw [fit_snoc, show fitsO q (some (part q k).2) = true from (ihq _).mpr ⟨k, hk, .inr rfl⟩]
          rcases hc2 with z | z <;> rw [z] <;> rfl
/-! the number read off the lesser half -/
def numB (r h : List Nat) : Nat := (r.zip h).foldl (fun n p => if p.1 = 98 then 2 * n + (if p.2 = 121 then 1 else 0) else n) 0
theorem numB_snoc (r h : List Nat) (c d : Nat) (e : h.length = r.length) : numB (r ++ [c]) (h ++ [d]) = if c = 98 then 2 * numB r h + (if d = 121 then 1 else 0) else numB r h := by
  unfold numB
  rw [List.zip_append e.symm, List.foldl_append]
  rfl
theorem numB_part : ∀ (n : Nat) (r : List Nat), r.length = n → ∀ k, k < 2 ^ r.count 98 → numB r (part r k).1 = k := by
  intro n
  induction n with
  | zero =>
    intro r hn k hk
    have : r = [] := List.length_eq_zero_iff.mp hn
    subst this
    have k0 : k = 0 := by simpa using hk
    subst k0
    rfl
  | succ n ih =>
    intro r hn k hk
    obtain ⟨q, c, rfl, hq⟩ := last_of hn
    by_cases h98 : c = 98
    · subst h98
      rw [part_b]
      show numB (q ++ [98]) ((part q (k / 2)).1 ++ [sgn k]) = k
      rw [List.count_append, show List.count 98 [98] = 1 from rfl, Nat.pow_succ] at hk
      rw [numB_snoc _ _ _ _ (show (part q (k / 2)).1.length = q.length from lesser_len _ _), if_pos rfl, ih q hq (k / 2) (by omega)]
      unfold sgn
      by_cases h2 : k % 2 = 0
      · rw [if_pos h2, if_neg (by decide)]; omega
      · rw [if_neg h2, if_pos rfl]; omega
    · have h0 : List.count 98 [c] = 0 := List.count_eq_zero.mpr (by simpa using fun z => h98 z.symm)
      rw [List.count_append, h0] at hk
      rw [part_o _ _ _ h98]
      show numB (q ++ [c]) ((part q k).1 ++ [c]) = k
      rw [numB_snoc _ _ _ _ (show (part q k).1.length = q.length from lesser_len _ _), if_neg h98]
      exact ih q hq k hk
theorem many_le (r : List Nat) : many r ≤ 2 ^ r.count 98 := Nat.pow_le_pow_right (by decide) (by omega)
theorem turned_back : ∀ (r h : List Nat), h.length = r.length → (∀ c ∈ h, c = 110 ∨ c = 121) → turned r (turned r h) = h
  | [], [], _, _ => rfl
  | [], _ :: _, e, _ => nomatch e
  | _ :: _, [], e, _ => nomatch e
  | c :: r, d :: h, e, hc => by
    show tw c (tw c d) :: turned r (turned r h) = d :: h
    rw [turned_back r h (by simpa using e) fun x hx => hc x (List.mem_cons_of_mem _ hx)]
    congr 1
    by_cases h98 : c = 98 <;> rcases hc d List.mem_cons_self with z | z <;> simp [tw, h98, z]
theorem fit_of {r : List Nat} (hr : NBY r) {h : List Nat} : Fit r h ↔ ∃ k, k < many r ∧ (h = (part r k).1 ∨ h = (part r k).2) := fit_part _ r rfl hr h
theorem part_back {r : List Nat} (hr : NBY r) {k : Nat} (hk : k < many r) : turned r (part r k).2 = (part r k).1 := by
  obtain ⟨h1, h2⟩ := fit_len ((fit_of hr).mpr ⟨k, hk, .inl rfl⟩)
  exact turned_back r _ h1 h2
theorem fit_turned {r h : List Nat} (hr : NBY r) (f : Fit r h) : Fit r (turned r h) ∧ turned r (turned r h) = h := by
  obtain ⟨h1, h2⟩ := fit_len f
  refine ⟨?_, turned_back r h h1 h2⟩
  obtain ⟨k, hk, e | e⟩ := (fit_of hr).mp f
  · exact (fit_of hr).mpr ⟨k, hk, .inr (by rw [e]; rfl)⟩
  · exact (fit_of hr).mpr ⟨k, hk, .inl (by rw [e, part_back hr hk])⟩
theorem part_lt : ∀ (n : Nat) (r : List Nat), r.length = n → 98 ∈ r → ∀ k l, k < many r → l < many r → (part r k).1 < (part r l).2 := by
  intro n
  induction n with
  | zero =>
    intro r hn h
    have : r = [] := List.length_eq_zero_iff.mp hn
    subst this
    cases h
  | succ n ih =>
    intro r hn hm k l hk hl
    obtain ⟨q, c, rfl, hq⟩ := last_of hn
    have ln : ∀ i j, (part q i).1.length = (part q j).2.length := fun i j => ((part_good q).1 i).1.trans ((part_good q).1 j).2.1.symm
    by_cases h98 : c = 98
    · subst h98
      rw [part_b, part_b]
      rw [many_snoc] at hk hl
      by_cases h0 : q.count 98 = 0
      · rw [if_neg (fun h => h.2 h0)] at hk hl
        have hm : many q = 1 := by unfold many; rw [h0]
        have k0 : k = 0 := by omega
        have l0 : l = 0 := by omega
        subst k0 l0
        rw [part_no_b q _ h0]
        exact app_same q 110 121 (by decide)
      · rw [if_pos ⟨rfl, h0⟩] at hk hl
        exact app_lt _ _ _ _ (ln _ _) (ih q hq (List.count_pos_iff.mp (by omega)) _ _ (by omega) (by omega))
    · rw [many_snoc, if_neg (fun h => h98 h.1)] at hk hl
      rw [part_o _ _ _ h98, part_o _ _ _ h98]
      have hq98 : 98 ∈ q := by
        rcases List.mem_append.mp hm with z | z
        · exact z
        · exact absurd (List.mem_singleton.mp z).symm h98
      exact app_lt _ _ _ _ (ln _ _) (ih q hq hq98 _ _ hk hl)
theorem lt_ne {a b : List Nat} (h : a < b) : a ≠ b := fun e => by rw [e] at h; exact List.lt_irrefl _ h
/-! all that is told of the partings -/
def tolds (p : List Nat × List Nat) : List (List Nat) := if p.1 ≠ p.2 then [p.1, p.2] else [p.1]
def told (r : List Nat) (n : Nat) : List (List Nat) := (List.range n).flatMap fun k => tolds (part r k)
theorem told_succ (r : List Nat) (n : Nat) : told r (n + 1) = told r n ++ tolds (part r n) := by
  unfold told
  rw [List.range_succ, List.flatMap_append]
  simp
theorem mem_tolds {x : List Nat} {p : List Nat × List Nat} : x ∈ tolds p ↔ x = p.1 ∨ x = p.2 := by
  unfold tolds
  by_cases h : p.1 = p.2
  · rw [if_neg (by simpa using h)]; simp [h]
  · rw [if_pos h]; simp
theorem mem_told {r : List Nat} (hr : NBY r) {x : List Nat} : x ∈ told r (many r) ↔ Fit r x := by
  unfold told
  rw [List.mem_flatMap, fit_of hr]
  constructor
  · rintro ⟨k, hk, e⟩; exact ⟨k, List.mem_range.mp hk, mem_tolds.mp e⟩
  · rintro ⟨k, hk, e⟩; exact ⟨k, List.mem_range.mpr hk, mem_tolds.mpr e⟩
theorem one_many {r : List Nat} (h : 98 ∉ r) : many r = 1 ∧ ∀ k, part r k = (r, r) := by
  have h0 : r.count 98 = 0 := List.count_eq_zero.mpr h
  exact ⟨by unfold many; rw [h0], fun k => part_no_b r k h0⟩
theorem told_one {r : List Nat} (h : 98 ∉ r) : told r (many r) = [r] := by
  obtain ⟨h1, h2⟩ := one_many h
  rw [h1]
  show tolds (part r 0) ++ [] = [r]
  rw [h2, List.append_nil]
  unfold tolds
  rw [if_neg (by simp)]
theorem part_ne {r : List Nat} (h : 98 ∈ r) (k : Nat) : (part r k).1 ≠ (part r k).2 := turned_ne r _ (lesser_len _ _) h
theorem told_nodup {r : List Nat} (hr : NBY r) : (told r (many r)).Nodup := by
  by_cases h : 98 ∈ r
  · unfold told
    refine List.pairwise_flatMap.mpr ⟨fun k hk => ?_, ?_⟩
    · unfold tolds
      rw [if_pos (part_ne h k)]
      exact List.pairwise_cons.mpr ⟨fun x hx => by rw [List.mem_singleton.mp hx]; exact part_ne h k, List.pairwise_singleton _ _⟩
    · refine List.Pairwise.imp_of_mem ?_ (List.pairwise_lt_range (n := many r))
      intro k l hk hl hkl x hx y hy
      have hk' := List.mem_range.mp hk
      have hl' := List.mem_range.mp hl
      have h1 := lt_ne ((part_good r).2.2 k l hkl hl')
      rcases mem_tolds.mp hx with e | e <;> rcases mem_tolds.mp hy with e2 | e2 <;> rw [e, e2]
      · exact h1
      · exact lt_ne (part_lt _ r rfl h k l hk' hl')
      · exact (lt_ne (part_lt _ r rfl h l k hl' hk')).symm
      · intro z
        refine h1 ?_
        rw [← part_back hr hk', ← part_back hr hl', z]
  · rw [told_one h]
    exact List.pairwise_singleton _ _
theorem told_len (r : List Nat) (h : 98 ∈ r) : ∀ n, (told r n).length = 2 * n
  | 0 => rfl
  | n + 1 => by
    rw [told_succ, List.length_append, told_len r h n]
    unfold tolds
    rw [if_pos (part_ne h n)]
    show 2 * n + 2 = _
    omega
theorem told_le (r : List Nat) : ∀ n, (told r n).length ≤ 2 * n
  | 0 => Nat.le_refl _
  | n + 1 => by
    rw [told_succ, List.length_append]
    have := told_le r n
    have h2 : (tolds (part r n)).length ≤ 2 := by unfold tolds; split <;> simp
    omega
/-! the lesser and the greater -/
def mn (a b : List Nat) : List Nat := if b < a then b else a
def mx (a b : List Nat) : List Nat := if a < b then b else a
theorem mnmx {a b : List Nat} (h : a = b ∨ a < b) : (mn a b, mx a b) = (a, b) ∧ (mn b a, mx b a) = (a, b) := by
  unfold mn mx
  rcases h with e | e
  · subst e
    rw [if_neg (List.lt_irrefl _)]
    exact ⟨rfl, rfl⟩
  · have n : ¬ b < a := fun z => List.lt_irrefl _ (List.lt_trans e z)
    simp only [if_neg n, if_pos e, and_self]
theorem fit_pair {r h : List Nat} (hr : NBY r) (f : Fit r h) : ∃ k, k < many r ∧ part r k = (mn h (turned r h), mx h (turned r h)) := by
  obtain ⟨k, hk, e⟩ := (fit_of hr).mp f
  refine ⟨k, hk, ?_⟩
  obtain ⟨m1, m2⟩ := mnmx ((part_good r).2.1 k hk)
  rcases e with e | e
  · have e2 : turned r h = (part r k).2 := by rw [e]; rfl
    rw [e2, e]
    exact m1.symm
  · have e2 : turned r h = (part r k).1 := by rw [e]; exact part_back hr hk
    rw [e2, e]
    exact m2.symm
/-! two half-rows and their row -/
theorem rowBy_lt : ∀ a b : List Nat, (List.zipWith lt1 (rowBy a b) a).all id = true
  | [], _ => by cases ‹List Nat› <;> rfl
  | _ :: _, [] => rfl
  | s :: a, t :: b => by
    show (lt1 (rb s t) s && (List.zipWith lt1 (rowBy a b) a).all id) = true
    rw [rowBy_lt a b, Bool.and_true]
    unfold lt1 rb
    by_cases h : s = t
    · rw [if_pos h, decide_eq_true rfl, Bool.or_true]
    · rw [if_neg h, decide_eq_true rfl, Bool.true_or]
theorem rowBy_turn : ∀ a b : List Nat, a.length = b.length → (∀ c ∈ a, c = 110 ∨ c = 121) → (∀ c ∈ b, c = 110 ∨ c = 121) → turned (rowBy a b) a = b
  | [], [], _, _, _ => rfl
  | [], _ :: _, e, _, _ => nomatch e
  | _ :: _, [], e, _, _ => nomatch e
  | s :: a, t :: b, e, ha, hb => by
    show tw (rb s t) s :: turned (rowBy a b) a = t :: b
    rw [rowBy_turn a b (by simpa using e) (fun x hx => ha x (List.mem_cons_of_mem _ hx)) fun x hx => hb x (List.mem_cons_of_mem _ hx)]
    congr 1
    rcases ha s List.mem_cons_self with z | z <;> rcases hb t List.mem_cons_self with y | y <;> rw [z, y] <;> decide
theorem rowBy_nby : ∀ a b : List Nat, (∀ c ∈ a, c = 110 ∨ c = 121) → NBY (rowBy a b)
  | [], _, _ => by intro c hc; cases ‹List Nat› <;> cases hc
  | _ :: _, [], _ => by intro c hc; cases hc
  | s :: a, t :: b, ha => by
    intro c hc
    rcases List.mem_cons.mp (show c ∈ rb s t :: rowBy a b from hc) with e | e
    · rw [e]
      unfold rb
      split
      · rcases ha s List.mem_cons_self with z | z <;> simp [z]
      · exact .inr (.inl rfl)
    · exact rowBy_nby a b (fun x hx => ha x (List.mem_cons_of_mem _ hx)) c e
abbrev HalfN (m : Nat) (h : List Nat) : Prop := h.length = m ∧ ∀ c ∈ h, c = 110 ∨ c = 121
theorem fit_mk {r h : List Nat} (hl : h.length = r.length) (hc : ∀ c ∈ h, c = 110 ∨ c = 121) : fitsO r (some h) = (List.zipWith lt1 r h).all id := by
  show ((decide (h.length = r.length) && h.all fun c => decide (c ∈ [110, 121])) && (List.zipWith lt1 r h).all id) = _
  have h2 : (h.all fun c => decide (c ∈ [110, 121])) = true := List.all_eq_true.mpr fun c hx => decide_eq_true (by simpa using hc c hx)
  rw [decide_eq_true hl, h2]
  rfl
theorem two_part {m : Nat} {a b : List Nat} (ha : HalfN m a) (hb : HalfN m b) : ∃ k, k < many (rowBy a b) ∧ part (rowBy a b) k = (mn a b, mx a b) := by
  have hl : a.length = (rowBy a b).length := by unfold rowBy; rw [List.length_zipWith, ha.1, hb.1, Nat.min_self]
  obtain ⟨k, hk, e⟩ := fit_pair (rowBy_nby a b ha.2) (show Fit (rowBy a b) a from (fit_mk hl ha.2).trans (rowBy_lt a b))
  rw [rowBy_turn a b (ha.1.trans hb.1.symm) ha.2 hb.2] at e
  exact ⟨k, hk, e⟩
/-! all half-rows of a length -/
def allH : Nat → List (List Nat)
  | 0 => [[]]
  | n + 1 => (allH n).map (· ++ [110]) ++ (allH n).map (· ++ [121])
theorem allH_mem : ∀ {n : Nat} {h : List Nat}, h ∈ allH n ↔ HalfN n h
  | 0, h => by
    constructor
    · intro q
      rw [List.mem_singleton.mp q]
      exact ⟨rfl, fun c hc => nomatch hc⟩
    · intro q
      rw [List.length_eq_zero_iff.mp q.1]
      exact List.mem_singleton.mpr rfl
  | n + 1, h => by
    have mk : ∀ {g : List Nat} {d : Nat}, (d = 110 ∨ d = 121) → g ∈ allH n → HalfN (n + 1) (g ++ [d]) := fun {g d} hd hg => by
      obtain ⟨l, c⟩ := allH_mem.mp hg
      refine ⟨by rw [List.length_append, l]; rfl, fun x hx => ?_⟩
      rcases List.mem_append.mp hx with z | z
      · exact c x z
      · rw [List.mem_singleton.mp z]; exact hd
    constructor
    · intro q
      rcases List.mem_append.mp q with z | z <;> obtain ⟨g, hg, rfl⟩ := List.mem_map.mp z
      · exact mk (.inl rfl) hg
      · exact mk (.inr rfl) hg
    · rintro ⟨l, c⟩
      obtain ⟨g, d, rfl, hg⟩ := last_of l
      have hm : g ∈ allH n := allH_mem.mpr ⟨hg, fun x hx => c x (List.mem_append_left _ hx)⟩
      rcases c d (by simp) with z | z <;> rw [z]
      · exact List.mem_append_left _ (List.mem_map.mpr ⟨g, hm, rfl⟩)
      · exact List.mem_append_right _ (List.mem_map.mpr ⟨g, hm, rfl⟩)
theorem allH_nodup : ∀ n, (allH n).Nodup
  | 0 => List.pairwise_singleton _ _
  | n + 1 => by
    have hm : ∀ d : Nat, ((allH n).map (· ++ [d])).Nodup := fun d => List.pairwise_map.mpr ((allH_nodup n).imp fun ne e => ne (List.append_cancel_right e))
    refine List.nodup_append.mpr ⟨hm _, hm _, fun x hx y hy e => ?_⟩
    obtain ⟨g, _, rfl⟩ := List.mem_map.mp hx
    obtain ⟨g2, _, rfl⟩ := List.mem_map.mp hy
    have := congrArg List.getLast? e
    simp at this
theorem allH_len : ∀ n, (allH n).length = 2 ^ n
  | 0 => rfl
  | n + 1 => by
    show ((allH n).map _ ++ (allH n).map _).length = _
    rw [List.length_append, List.length_map, List.length_map, allH_len n, Nat.pow_succ]
    omega
theorem rise_uniq : ∀ {l m : List Str}, Rise l → Rise m → (∀ x, x ∈ l ↔ x ∈ m) → l = m
  | [], [], _, _, _ => rfl
  | [], y :: m, _, _, e => absurd ((e y).mpr List.mem_cons_self) (by simp)
  | x :: l, [], _, _, e => absurd ((e x).mp List.mem_cons_self) (by simp)
  | x :: l, y :: m, hl, hm, e => by
    obtain ⟨l1, l2⟩ := List.pairwise_cons.mp hl
    obtain ⟨m1, m2⟩ := List.pairwise_cons.mp hm
    have hxy : x = y := by
      rcases List.mem_cons.mp ((e x).mp List.mem_cons_self) with z | z
      · exact z
      · rcases List.mem_cons.mp ((e y).mpr List.mem_cons_self) with z2 | z2
        · exact z2.symm
        · exact absurd (List.lt_trans (m1 x z) (l1 y z2)) (List.lt_irrefl _)
    subst hxy
    rw [rise_uniq l2 m2 fun z => ?_]
    constructor
    · intro hz
      rcases List.mem_cons.mp ((e z).mp (List.mem_cons_of_mem _ hz)) with w | w
      · have := l1 z hz
        rw [w] at this
        exact absurd this (List.lt_irrefl _)
      · exact w
    · intro hz
      rcases List.mem_cons.mp ((e z).mpr (List.mem_cons_of_mem _ hz)) with w | w
      · have := m1 z hz
        rw [w] at this
        exact absurd this (List.lt_irrefl _)
      · exact w
theorem nodup_tx {l : List (List Nat)} (h : l.Nodup) : (l.map tx).Nodup := List.pairwise_map.mpr (h.imp fun ne e => ne (tx_inj e))
def HL (n : Nat) : List (List Nat) := (srt ((allH n).map tx)).map fun z => z.cps.toList
theorem HL_tx (n : Nat) : (HL n).map tx = srt ((allH n).map tx) := by
  unfold HL
  rw [List.map_map]
  conv => rhs; rw [← List.map_id (srt ((allH n).map tx))]
  exact List.map_congr_left fun z _ => tx_cps z
theorem HL_mem {n : Nat} {h : List Nat} : h ∈ HL n ↔ HalfN n h := by
  rw [← allH_mem]
  constructor
  · intro q
    have : tx h ∈ (HL n).map tx := List.mem_map.mpr ⟨h, q, rfl⟩
    rw [HL_tx, mem_srt] at this
    obtain ⟨g, hg, e⟩ := List.mem_map.mp this
    rw [← tx_inj e]
    exact hg
  · intro q
    have : tx h ∈ srt ((allH n).map tx) := mem_srt.mpr (List.mem_map.mpr ⟨h, q, rfl⟩)
    rw [← HL_tx] at this
    obtain ⟨g, hg, e⟩ := List.mem_map.mp this
    rw [← tx_inj e]
    exact hg
theorem HL_len (n : Nat) : (HL n).length = 2 ^ n := by
  unfold HL
  rw [List.length_map, srt_len, List.length_map, allH_len]
theorem told_sorted {r : List Nat} (hr : NBY r) : srt ((told r (many r)).map tx) = ((HL r.length).filter fun h => fitsO r (some h)).map tx := by
  refine rise_uniq (rise_of (nodup_tx (told_nodup hr))).1 ?_ fun x => ?_
  · have h1 : Rise ((HL r.length).map tx) := by rw [HL_tx]; exact (rise_of (nodup_tx (allH_nodup _))).1
    exact List.Pairwise.sublist (List.filter_sublist.map tx) h1
  · rw [mem_srt, List.mem_map, List.mem_map]
    constructor
    · rintro ⟨h, hm, e⟩
      have f := (mem_told hr).mp hm
      exact ⟨h, List.mem_filter.mpr ⟨HL_mem.mpr (fit_len f), f⟩, e⟩
    · rintro ⟨h, hm, e⟩
      exact ⟨h, (mem_told hr).mpr (List.mem_filter.mp hm).2, e⟩
end Hid

namespace Hid
open PySem PySem.Spec PyProof.Rows L2
/-! the greater, the lesser of two texts -/
theorem two_at {a b : Str} {t u : Tok} : ∀ (i : Nat) (v : Value), (#[Value.str a t, .str b u] : Array Value)[i]? = some v → ∃ t', v = .str (if i = 0 then a else b) t'
  | 0, v, h => ⟨t, by simpa using h.symm⟩
  | 1, v, h => ⟨u, by simpa using h.symm⟩
  | n + 2, v, h => by simp at h
section
variable {prog : Program} {w : World} {A : Around} {E : Value → Shared → Prop} {s : Shared}
theorem far {h : Heap} {c : Addr} {o : Obj} (e : h.get? c = some o) (z : c = h.objs.size + 1) : False := by
  have q := Heap.lt_size e
  rw [z] at q
  exact Nat.lt_irrefl _ (Nat.lt_of_succ_lt q)
theorem strs_gt {P : Nat → Value → Prop} (val : Nat → Str) (hval : ∀ i v, P i v → ∃ t, v = .str (val i) t) : CmpOf prog w A .Gt P (fun i j => decide ((val j).cps.toList < (val i).cps.toList)) := fun i j vi vj s Q E hi hj h => by
  obtain ⟨t, rfl⟩ := hval i vi hi; obtain ⟨u, rfl⟩ := hval j vj hj
  exact PySem.P.gt_str h
theorem strs_lt {P : Nat → Value → Prop} (val : Nat → Str) (hval : ∀ i v, P i v → ∃ t, v = .str (val i) t) : CmpOf prog w A .Lt P (fun i j => decide ((val i).cps.toList < (val j).cps.toList)) := fun i j vi vj s Q E hi hj h => by
  obtain ⟨t, rfl⟩ := hval i vi hi; obtain ⟨u, rfl⟩ := hval j vj hj
  exact lt_str h
theorem max2S {a b : Str} {t u : Tok} {Q : Value → Shared → Prop} (hh : A.handled = none) (h : ∀ h' tk, (∀ c o, s.heap.get? c = some o → h'.get? c = some o) → Q (if a.cps.toList < b.cps.toList then .str b u else .str a t) { s with heap := h', toks := tk }) :
    wpAny (model prog w) A (call (.builtin "max") [.str a t, .str b u]) Q E s := by
  have hT : (s.heap.push { cls := .type "tuple", data := .seq #[.str a t, .str b u] }).IsTuple s.heap.objs.size #[.str a t, .str b u] := ⟨_, Heap.get?_push_size _ rfl, rfl, 0, rfl⟩
  have hsz : (s.heap.push { cls := .type "tuple", data := .seq #[.str a t, .str b u] }).objs.size = s.heap.objs.size + 1 := Heap.size_push ..
  refine call_max_two (wpAny_pyIter_tuple hT ⟨_, [_, s.heap.objs.size], [_], _, _, _, _, rfl, Walks.tuple (A := A.in1) hh _ s.heap.objs.size (by rw [hsz]; exact Nat.ne_of_lt (Nat.lt_succ_self _)) #[.str a t, .str b u], ⟨⟨_, Heap.get?_push_size _ rfl, rfl, rfl⟩, hT.push _⟩, fun c hc => ?_, (by show 0 < 2; decide), strs_gt (fun i => if i = 0 then a else b) two_at, fun v h' tk hP hk => ?_⟩)
  · show c < ((s.heap.push _).push _).objs.size
    rw [Heap.size_push, hsz]
    have hc' : c = s.heap.objs.size + 1 ∨ c = s.heap.objs.size := by simpa [hsz] using hc
    rcases hc' with z | z <;> rw [z]
    · exact Nat.lt_succ_self _
    · exact Nat.lt_succ_of_lt (Nat.lt_succ_self _)
  · have hold : ∀ c o, s.heap.get? c = some o → h'.get? c = some o := fun c o e => hk c o (fun hm => far e (by simpa [hsz] using hm)) (Heap.get?_push_of_some _ (Heap.get?_push_of_some _ e))
    have hq := h h' tk hold
    have hP' : (#[Value.str a t, .str b u] : Array Value)[argBest (fun i j => decide ((if j = 0 then a else b).cps.toList < (if i = 0 then a else b).cps.toList)) 1]? = some v := hP
    by_cases hba : a.cps.toList < b.cps.toList
    · rw [if_pos hba] at hq
      have e : v = .str b u := by simpa [argBest, hba] using hP'.symm
      rw [e]; exact hq
    · rw [if_neg hba] at hq
      have e : v = .str a t := by simpa [argBest, hba] using hP'.symm
      rw [e]; exact hq
theorem min2S {a b : Str} {t u : Tok} {Q : Value → Shared → Prop} (hh : A.handled = none) (h : ∀ h' tk, (∀ c o, s.heap.get? c = some o → h'.get? c = some o) → Q (if b.cps.toList < a.cps.toList then .str b u else .str a t) { s with heap := h', toks := tk }) :
    wpAny (model prog w) A (call (.builtin "min") [.str a t, .str b u]) Q E s := by
  have hT : (s.heap.push { cls := .type "tuple", data := .seq #[.str a t, .str b u] }).IsTuple s.heap.objs.size #[.str a t, .str b u] := ⟨_, Heap.get?_push_size _ rfl, rfl, 0, rfl⟩
  have hsz : (s.heap.push { cls := .type "tuple", data := .seq #[.str a t, .str b u] }).objs.size = s.heap.objs.size + 1 := Heap.size_push ..
  refine call_min_two (wpAny_pyIter_tuple hT ⟨_, [_, s.heap.objs.size], [_], _, _, _, _, rfl, Walks.tuple (A := A.in1) hh _ s.heap.objs.size (by rw [hsz]; exact Nat.ne_of_lt (Nat.lt_succ_self _)) #[.str a t, .str b u], ⟨⟨_, Heap.get?_push_size _ rfl, rfl, rfl⟩, hT.push _⟩, fun c hc => ?_, (by show 0 < 2; decide), strs_lt (fun i => if i = 0 then a else b) two_at, fun v h' tk hP hk => ?_⟩)
  · show c < ((s.heap.push _).push _).objs.size
    rw [Heap.size_push, hsz]
    have hc' : c = s.heap.objs.size + 1 ∨ c = s.heap.objs.size := by simpa [hsz] using hc
    rcases hc' with z | z <;> rw [z]
    · exact Nat.lt_succ_self _
    · exact Nat.lt_succ_of_lt (Nat.lt_succ_self _)
  · have hold : ∀ c o, s.heap.get? c = some o → h'.get? c = some o := fun c o e => hk c o (fun hm => far e (by simpa [hsz] using hm)) (Heap.get?_push_of_some _ (Heap.get?_push_of_some _ e))
    have hq := h h' tk hold
    have hP' : (#[Value.str a t, .str b u] : Array Value)[argBest (fun i j => decide ((if i = 0 then a else b).cps.toList < (if j = 0 then a else b).cps.toList)) 1]? = some v := hP
    by_cases hba : b.cps.toList < a.cps.toList
    · rw [if_pos hba] at hq
      have e : v = .str b u := by simpa [argBest, hba] using hP'.symm
      rw [e]; exact hq
    · rw [if_neg hba] at hq
      have e : v = .str a t := by simpa [argBest, hba] using hP'.symm
      rw [e]; exact hq
end
section
variable {X : Cx}
def rMaxS : List V → Hp → VK → Prop := fun xs H Q => ∃ a b, xs = [.str a, .str b] ∧ Q (.str (if a.cps.toList < b.cps.toList then b else a)) H
def rMinS : List V → Hp → VK → Prop := fun xs H Q => ∃ a b, xs = [.str a, .str b] ∧ Q (.str (if b.cps.toList < a.cps.toList then b else a)) H
theorem call_max2S (hc : X.calm = true) : CallR X (.builtin "max") rMaxS := by
  intro pins s σ H xs us Q I r h
  obtain ⟨a, b, rfl, q⟩ := h
  obtain ⟨u, w', rfl, ⟨t, rfl⟩, ⟨t', rfl⟩⟩ := vals2 r
  refine max2S (I.ok.hd hc) fun h' tk k => ⟨_, H, I.kept k, ?_, q⟩
  split <;> exact ⟨_, rfl⟩
theorem call_min2S (hc : X.calm = true) : CallR X (.builtin "min") rMinS := by
  intro pins s σ H xs us Q I r h
  obtain ⟨a, b, rfl, q⟩ := h
  obtain ⟨u, w', rfl, ⟨t, rfl⟩, ⟨t', rfl⟩⟩ := vals2 r
  refine min2S (I.ok.hd hc) fun h' tk k => ⟨_, H, I.kept k, ?_, q⟩
  split <;> exact ⟨_, rfl⟩
/-! a pair of texts in a list of such -/
def pT (p : List Nat × List Nat) : List V := [.str (tx p.1), .str (tx p.2)]
def rInP (K : PySem.W.Frag) (neg : Bool) : R2 := fun x y H Q => ∃ (p t0 : Addr) (vs : List V) (ps : List (List Nat × List Nat)) (p0 : List Nat × List Nat), x = .ref t0 ∧ y = .ref p ∧ H t0 = some (.tup (pT p0)) ∧ SqL K H p vs ∧ Prs K H vs ps ∧ Q (.bl (if neg then !decide (p0 ∈ ps) else decide (p0 ∈ ps))) H
noncomputable def eP (H : Hp) (p0 : List Nat × List Nat) (u : Value) : Bool := match u with
  | .ref t => @decide (H t = some (.tup (pT p0))) (Classical.propDecidable _)
  | _ => false
theorem pT_inj {p q : List Nat × List Nat} (h : pT p = pT q) : p = q := by
  unfold pT at h
  injection h with h1 h2
  injection h2 with h2 _
  exact Prod.ext (tx_inj (V.str.inj h1)) (tx_inj (V.str.inj h2))
theorem eP_ref {H : Hp} {p p0 : List Nat × List Nat} {t : Addr} (c : H t = some (.tup (pT p))) : eP H p0 (.ref t) = decide (p = p0) := by
  show @decide (H t = some (.tup (pT p0))) (Classical.propDecidable _) = _
  by_cases h : p = p0
  · rw [decide_eq_true h]
    exact @decide_eq_true _ (Classical.propDecidable _) (by rw [c, h])
  · rw [decide_eq_false h]
    refine @decide_eq_false _ (Classical.propDecidable _) fun z => ?_
    rw [c] at z
    injection z with z
    injection z with z
    exact h (pT_inj z)
theorem any_eP {K : PySem.W.Frag} {H : Hp} {p0 : List Nat × List Nat} : ∀ {vs : List V} {its : List Value} {ps : List (List Nat × List Nat)}, Vals vs its → Prs K H vs ps → its.any (eP H p0) = decide (p0 ∈ ps)
  | _, _, _, .nil, .nil => by simp
  | _, _, _, .cons r rs, .cons (b := p) ⟨t, ht, c⟩ ps => by
    subst ht
    cases r
    rw [List.any_cons, any_eP rs ps]
    rw [eP_ref (p := p) c]
    by_cases h : p = p0
    · simp [h]
    · have h' : ¬ p0 = p := fun z => h z.symm
      simp [h, h']
theorem each_eP {pins : List (Addr × Obj)} {s : Shared} {σ : L2.St} {H : Hp} (I : Inv X pins σ H s) (hu : X.A.units + 64 < cLine) {t0 : Addr} {p0 : List Nat × List Nat} (h0 : H t0 = some (.tup (pT p0))) : ∀ {vs : List V} {its : List Value} {ps : List (List Nat × List Nat)}, Vals vs its → Prs X.K H vs ps → ∀ u ∈ its, SeqAt.EqAt X.A.in1 s u (.ref t0) (eP H p0 u)
  | _, _, _, .nil, .nil => fun u hu => by cases hu
  | _, _, _, .cons r rs, .cons (b := p) q ps => fun u' hu' => by
    rcases List.mem_cons.mp hu' with z | z
    · subst z
      obtain ⟨t, ht, c⟩ := id q
      subst ht
      cases r
      obtain ⟨as, r1⟩ := Dp.reads I (dSS p) _ _ q.dp rfl
      obtain ⟨bs, r2⟩ := Dp.reads I (dSS p0) (.ref t0) (.ref t0) (PrT.dp (p := p0) ⟨t0, rfl, h0⟩) rfl
      have key := PySem.W.eqAt_alike (dSS p) (dSS p0) X.A.in1 s _ _ as bs r1 r2 (by simp [dSS, PySem.W.alike, PySem.W.alikeAll]) (by
        have : (dSS p).depth ≤ 8 := by simp [dSS, PyData.depth, PyData.depthAll]
        show X.A.units + 1 + min (dSS p).depth (dSS p0).depth < cLine
        omega)
      have e : PyData.eqv (dSS p) (dSS p0) = eP H p0 (.ref t) := by
        rw [eP_ref (p := p) c]
        by_cases h : p = p0
        · subst h
          rw [PySem.W.eqv_refl_alike _ (by simp [dSS, PySem.W.alike, PySem.W.alikeAll]), decide_eq_true rfl]
        · rw [decide_eq_false h]
          have : ¬ (tx p.1 = tx p0.1 ∧ tx p.2 = tx p0.2) := fun ⟨a, b⟩ => h (Prod.ext (tx_inj a) (tx_inj b))
          simpa [dSS, PyData.eqv, PyData.eqvAll] using this
      rw [← e]
      exact key
    · exact each_eP I hu h0 rs ps u' z
theorem op_niP (hu : X.A.units + 64 < cLine) : OpR X (compareOp .NotIn) (rInP X.K true) := by
  intro pins s σ H x y v u Q I rx ry h
  obtain ⟨p, t0, vs, ps, p0, rfl, rfl, h0, hq, hp, q⟩ := h
  cases ry; cases rx
  obtain ⟨its, r, pl, hz⟩ := I.list hq
  refine SeqAt.notIn_listAt (eP H p0) pl.isList (fun w hw => each_eP I hu h0 r hp w (by simpa using hw)) ⟨.bl _, H, I, rfl, ?_⟩
  rw [show its.toArray.any (eP H p0) = its.any (eP H p0) by simp, any_eP r hp]; exact q
theorem op_inP (hu : X.A.units + 64 < cLine) : OpR X (compareOp .In) (rInP X.K false) := by
  intro pins s σ H x y v u Q I rx ry h
  obtain ⟨p, t0, vs, ps, p0, rfl, rfl, h0, hq, hp, q⟩ := h
  cases ry; cases rx
  obtain ⟨its, r, pl, hz⟩ := I.list hq
  refine SeqAt.in_listAt (eP H p0) pl.isList (fun w hw => each_eP I hu h0 r hp w (by simpa using hw)) ⟨.bl _, H, I, rfl, ?_⟩
  rw [show its.toArray.any (eP H p0) = its.any (eP H p0) by simp, any_eP r hp]; exact q
/-! sorted of a list of texts, of any length -/
def rSortLS (K : PySem.W.Frag) : List V → Hp → VK → Prop := fun vs H Q => ∃ (a : Addr) (xs : List Str), vs = [.ref a] ∧ SqL K H a (xs.map V.str) ∧ ∀ p, H p = none → Q (.ref p) (upd H p (.lst ((srt xs).map V.str)))
theorem paired_strs : ∀ xs : List Str, Paired (fun (v : V) (z : Str) => v = .str z) (xs.map V.str) xs
  | [] => .nil
  | x :: xs => .cons rfl (paired_strs xs)
theorem paired_strs' : ∀ {ys : List V} {xs : List Str}, Paired (fun (v : V) (z : Str) => v = .str z) ys xs → ys = xs.map V.str
  | _, _, .nil => rfl
  | _, _, .cons e t => by rw [paired_strs' t, e]; rfl
theorem cr_sortLS (hu : X.A.units + 64 < cLine) : CallR X (.builtin "sorted") (rSortLS X.K) := by
  intro pins s σ H vs us Q I r h
  obtain ⟨a, xs, rfl, hs, q⟩ := h
  refine cr_sortD (enc := fun k : Str => PyData.str k) hu pins s σ H _ us Q I r ⟨a, _, xs, fun v z => v = .str z, rfl, hs, paired_strs xs, fun v b e => by rw [e]; exact .str _, PySem.W.AllAlike.of fun _ _ => by simp [PySem.W.alike], PySem.W.Sortable.others fun _ => ⟨by simp, by simp⟩, fun b _ => by simp [PyData.depth], fun ys p hp hn => ?_⟩
  rw [PySem.W.dataLe_str (β := Str) (fun k => k)] at hp
  rw [paired_strs' hp]
  exact q p hn
end
end Hid

namespace Hid
open PySem PySem.Spec PyProof.Rows L2 Evl
/-! families: what a thing is, as far as it is looked at -/
def NotU (K : PySem.W.Frag) (H : Hp) (v : V) : Prop := ∃ t, kitB t "tuple" = some false ∧ ∀ H1, Ex H H1 → TyX K H1 v (.type t)
section
variable {K : PySem.W.Frag} {H H' : Hp} {v : V}
theorem NotU.ex (h : NotU K H v) (e : Ex H H') : NotU K H' v := let ⟨t, a, b⟩ := h; ⟨t, a, fun H1 e1 => b H1 (e.trans e1)⟩
theorem nu_non : NotU K H .non := ⟨"NoneType", by decide +kernel, fun _ _ => .base .non⟩
theorem nu_str (x : Str) : NotU K H (.str x) := ⟨"str", by decide +kernel, fun _ _ => .base (.str x)⟩
theorem nu_lst {a : Addr} {xs : List V} (h : H a = some (.lst xs)) : NotU K H (.ref a) := ⟨"list", by decide +kernel, fun _ e => .base (.lst (e _ _ h))⟩
theorem nu_dict {a : Addr} {xs : List (Key × V)} (h : H a = some (.dK xs)) : NotU K H (.ref a) := ⟨"dict", by decide +kernel, fun _ e => .base (.dK (e _ _ h))⟩
end
abbrev nby : List Nat := [110, 98, 121]
def rowO (o : Option (List Nat)) (n : Nat) : Bool := wr o nby && (match o with | none => false | some z => decide (z.length = n))
inductive Fm where
  | non
  | len (n : Nat)
  | three (x y : Option (List Nat)) (z : Option (List (Option (List Nat))))
def YgOk (K : PySem.W.Frag) (H : Hp) (v : V) : Option (List (Option (List Nat))) → Prop
  | none => NotU K H v
  | some os => ∃ b vs, v = .ref b ∧ H b = some (.tup vs) ∧ Paired (Th K H) vs os
def FmOk (K : PySem.W.Frag) (H : Hp) (v : V) : Fm → Prop
  | .non => NotU K H v
  | .len n => n ≠ 3 ∧ ∃ a xs, v = .ref a ∧ H a = some (.tup xs) ∧ xs.length = n
  | .three ox oy oz => ∃ a x y z, v = .ref a ∧ H a = some (.tup [x, y, z]) ∧ Th K H x ox ∧ Th K H y oy ∧ YgOk K H z oz
def famB : Fm → Bool
  | .three (some z) oy (some os) => wr (some z) nby && (rowO oy z.length && (decide (1 ≤ os.length ∧ os.length ≤ 3) && os.all fun o => rowO o z.length))
  | _ => false
section
variable {K : PySem.W.Frag} {H H' : Hp} {v : V}
theorem YgOk.ex : ∀ {o : Option (List (Option (List Nat)))}, YgOk K H v o → Ex H H' → YgOk K H' v o
  | none, h, e => NotU.ex h e
  | some os, h, e => let ⟨b, vs, a, c, d⟩ := h; ⟨b, vs, a, e _ _ c, paired_mono (fun _ _ q => q.ex e) d⟩
theorem FmOk.ex : ∀ {f : Fm}, FmOk K H v f → Ex H H' → FmOk K H' v f
  | .non, h, e => NotU.ex h e
  | .len n, h, e => let ⟨h0, a, xs, h1, h2, h3⟩ := h; ⟨h0, a, xs, h1, e _ _ h2, h3⟩
  | .three ox oy oz, h, e => let ⟨a, x, y, z, h1, h2, h3, h4, h5⟩ := h; ⟨a, x, y, z, h1, e _ _ h2, h3.ex e, h4.ex e, h5.ex e⟩
end
theorem rowO_none (n : Nat) : rowO none n = false := rfl
theorem rowO_len {z : List Nat} {n : Nat} (h : z.length ≠ n) : rowO (some z) n = false := by
  unfold rowO
  show (_ && decide (z.length = n)) = false
  rw [decide_eq_false h, Bool.and_false]
theorem rowO_wr {o : Option (List Nat)} {n : Nat} (h : wr o nby = false) : rowO o n = false := by unfold rowO; rw [h, Bool.false_and]
theorem rowO_row {r : List Nat} (h : RowL r) : rowO (some r) r.length = true := by
  unfold rowO
  rw [row_wr h]
  show (true && decide (r.length = r.length)) = true
  rw [decide_eq_true rfl]
  rfl
theorem bad_x {ox oy : Option (List Nat)} {oz : Option (List (Option (List Nat)))} (h : wr ox nby = false) : famB (.three ox oy oz) = false := by
  cases ox with
  | none => rfl
  | some z =>
    cases oz with
    | none => rfl
    | some os =>
      show (wr (some z) nby && _) = false
      rw [h, Bool.false_and]
theorem bad_y {z : List Nat} {oy : Option (List Nat)} {oz : Option (List (Option (List Nat)))} (h : rowO oy z.length = false) : famB (.three (some z) oy oz) = false := by
  cases oz with
  | none => rfl
  | some os =>
    show (_ && (rowO oy z.length && _)) = false
    rw [h, Bool.false_and, Bool.and_false]
theorem bad_z {ox oy : Option (List Nat)} : famB (.three ox oy none) = false := by cases ox <;> rfl
theorem bad_l {ox oy : Option (List Nat)} {os : List (Option (List Nat))} (h : ¬ (1 ≤ os.length ∧ os.length ≤ 3)) : famB (.three ox oy (some os)) = false := by
  cases ox with
  | none => rfl
  | some z =>
    show (_ && (_ && (decide (1 ≤ os.length ∧ os.length ≤ 3) && _))) = false
    rw [decide_eq_false h, Bool.false_and, Bool.and_false, Bool.and_false]
theorem bad_o {z : List Nat} {oy o : Option (List Nat)} {os : List (Option (List Nat))} (ho : o ∈ os) (h : rowO o z.length = false) : famB (.three (some z) oy (some os)) = false := by
  show (_ && (_ && (_ && os.all fun o => rowO o z.length))) = false
  have : (os.all fun o => rowO o z.length) = false := by
    rw [Bool.eq_false_iff]
    intro hall
    have := List.all_eq_true.mp hall o ho
    rw [h] at this
    cases this
  rw [this, Bool.and_false, Bool.and_false, Bool.and_false]
theorem fam_good {r1 r2 : List Nat} {ys : List (List Nat)} (h1 : RowL r1) (h2 : RowL r2) (hl : r2.length = r1.length) (hn : 1 ≤ ys.length ∧ ys.length ≤ 3) (hy : ∀ y ∈ ys, RowL y ∧ y.length = r1.length) : famB (.three (some r1) (some r2) (some (ys.map some))) = true := by
  show (wr (some r1) nby && (rowO (some r2) r1.length && (decide (1 ≤ (ys.map some).length ∧ (ys.map some).length ≤ 3) && (ys.map some).all fun o => rowO o r1.length))) = true
  have h3 := rowO_row h2
  rw [hl] at h3
  have h4 : ((ys.map some).all fun o => rowO o r1.length) = true := List.all_eq_true.mpr fun o ho => by
    obtain ⟨y, hm, rfl⟩ := List.mem_map.mp ho
    obtain ⟨a, b⟩ := hy y hm
    rw [← b]
    exact rowO_row a
  rw [row_wr h1, h3, h4, List.length_map, decide_eq_true hn]
  rfl
/-! what is no family -/
def Bad (K : PySem.W.Frag) (v : V) (H : Hp) : Prop := ∃ f, FmOk K H v f ∧ famB f = false
theorem Bad.ex {K : PySem.W.Frag} {H H' : Hp} {v : V} (h : Bad K v H) (e : Ex H H') : Bad K v H' := let ⟨f, a, b⟩ := h; ⟨f, a.ex e, b⟩
def Bads (K : PySem.W.Frag) (n : Nat) (vs : List V) (H : Hp) : Prop := vs.length = n ∧ ∀ v ∈ vs, Bad K v H
theorem Bads.ex {K : PySem.W.Frag} {H H' : Hp} {n : Nat} {vs : List V} (h : Bads K n vs H) (e : Ex H H') : Bads K n vs H' := ⟨h.1, fun v hv => (h.2 v hv).ex e⟩
theorem Bads.app {K : PySem.W.Frag} {H : Hp} {m n : Nat} {vs ws : List V} (h : Bads K m vs H) (h' : Bads K n ws H) : Bads K (m + n) (vs ++ ws) H := ⟨by rw [List.length_append, h.1, h'.1], fun v hv => by
  rcases List.mem_append.mp hv with z | z
  · exact h.2 v z
  · exact h'.2 v z⟩
section
variable {K : PySem.W.Frag} {σ : L2.St} {H H' : Hp} {ta tb tc te : TE} {ts : TA} {D : Ends} {tz : TS}
abbrev EvX (K : PySem.W.Frag) (te : TE) (σ : L2.St) (H : Hp) (o : Option (List Nat)) : Prop := EvP te σ H fun v H => Th K H v o
abbrev EvY (K : PySem.W.Frag) (te : TE) (σ : L2.St) (H : Hp) (o : Option (List (Option (List Nat)))) : Prop := EvP te σ H fun v H => YgOk K H v o
theorem ep_ev {v : V} {P : V → Hp → Prop} (h : Ev te σ H v) (hp : ∀ H1, Ex H H1 → P v H1) : EvP te σ H P := fun H1 e Q q => h H1 e _ fun H2 e2 => q _ H2 e2 (hp H2 (e.trans e2))
theorem ep_mono {P : V → Hp → Prop} (h : EvP te σ H P) (e : Ex H H') : EvP te σ H' P := fun H1 e1 Q q => h H1 (e.trans e1) Q q
theorem ex_ev {v : V} {o : Option (List Nat)} (h : Ev te σ H v) (hp : Th K H v o) : EvX K te σ H o := ep_ev h fun _ e => hp.ex e
theorem ey_ev {v : V} {o : Option (List (Option (List Nat)))} (h : Ev te σ H v) (hp : YgOk K H v o) : EvY K te σ H o := ep_ev h fun _ e => hp.ex e
theorem bad3 {ox oy : Option (List Nat)} {oz : Option (List (Option (List Nat)))} (h1 : EvX K ta σ H ox) (h2 : EvX K tb σ H oy) (h3 : EvY K tc σ H oz) (hb : famB (.three ox oy oz) = false) : EvP (tTup (tCons ta (tCons tb (tCons tc tNil)))) σ H (Bad K) := fun H1 e Q q =>
  h1 H1 e _ fun x H2 e2 hx => h2 H2 (e.trans e2) _ fun y H3 e3 hy => h3 H3 ((e.trans e2).trans e3) _ fun z H4 e4 hz => ⟨by show 3 ≤ sizeLine; decide, fun p hp => q _ _ ((e2.trans (e3.trans e4)).trans (Ex.new hp)) ⟨.three ox oy oz, ⟨p, x, y, z, rfl, upd_same, hx.ex ((e3.trans e4).trans (Ex.new hp)), hy.ex (e4.trans (Ex.new hp)), hz.ex (Ex.new hp)⟩, hb⟩⟩
/-- so many of any kind -/
def Any (n : Nat) (vs : List V) (_ : Hp) : Prop := vs.length = n
theorem an_nil : EvPs tNil σ H (Any 0) := fun H1 _ Q q => q [] H1 (Ex.refl _) rfl
theorem an_cons {P : V → Hp → Prop} {n : Nat} (h : EvP ta σ H P) (hr : EvPs ts σ H (Any n)) : EvPs (tCons ta ts) σ H (Any (n + 1)) := fun H1 e Q q =>
  h H1 e _ fun v H2 e2 _ => hr H2 (e.trans e2) _ fun vs H3 e3 hv => q _ H3 (e2.trans e3) (congrArg Nat.succ hv)
theorem badN {n : Nat} (h : EvPs ts σ H (Any n)) (hn : n ≠ 3) (hl : n ≤ 100000) : EvP (tTup ts) σ H (Bad K) := fun H1 e Q q =>
  h H1 e _ fun vs H2 e2 hv => ⟨sz_of (by have : vs.length = n := hv; omega), fun p hp => q _ _ (e2.trans (Ex.new hp)) ⟨.len n, ⟨hn, p, vs, rfl, upd_same, hv⟩, rfl⟩⟩
theorem badL {n : Nat} (h : EvPs ts σ H (Any n)) (hl : n ≤ 100000) : EvP (tLst ts) σ H (Bad K) := fun H1 e Q q =>
  h H1 e _ fun vs H2 e2 hv => ⟨sz_of (by have : vs.length = n := hv; omega), fun p hp => q _ _ (e2.trans (Ex.new hp)) ⟨.non, nu_lst upd_same, rfl⟩⟩
theorem yg0 : EvY K (tTup tNil) σ H (some []) := fun H1 e Q q => ⟨by show 0 ≤ sizeLine; decide, fun p hp => q _ _ (Ex.new hp) ⟨p, [], rfl, upd_same, .nil⟩⟩
theorem yg1 {o : Option (List Nat)} (h : EvX K ta σ H o) : EvY K (tTup (tCons ta tNil)) σ H (some [o]) := fun H1 e Q q =>
  h H1 e _ fun x H2 e2 hx => ⟨by show 1 ≤ sizeLine; decide, fun p hp => q _ _ (e2.trans (Ex.new hp)) ⟨p, [x], rfl, upd_same, .cons (hx.ex (Ex.new hp)) .nil⟩⟩
theorem yg4 {o : Option (List Nat)} (h : EvX K ta σ H o) : EvY K (tOp (rRepT K) (tTup (tCons ta tNil)) (tC (.int 4))) σ H (some [o, o, o, o]) := fun H1 e Q q =>
  h H1 e _ fun x H2 e2 hx => ⟨by show 1 ≤ sizeLine; decide, fun p hp => ⟨p, 4, [x], rfl, rfl, st_of upd_same, by simp, by decide, by decide, by show 1 ≤ 1000; decide, fun p2 hp2 => by
    have e3 := Ex.new (o := .tup [x]) hp
    have e4 := Ex.new (o := .tup (List.replicate (4 : Int).toNat [x]).flatten) hp2
    have hx' := hx.ex (e3.trans e4)
    exact q _ _ (e2.trans (e3.trans e4)) ⟨p2, [x, x, x, x], rfl, upd_same, .cons hx' (.cons hx' (.cons hx' (.cons hx' .nil)))⟩⟩⟩
theorem ygA {a : Addr} {vs : List V} {os : List (Option (List Nat))} {o : Option (List Nat)} (ha : Ev ta σ H (.ref a)) (hs : H a = some (.tup vs)) (hp : Paired (Th K H) vs os) (h0 : vs ≠ []) (hl : vs.length ≤ 1000) (h : EvX K tb σ H o) :
    EvY K (tOp (rCatA K) ta (tTup (tCons tb tNil))) σ H (some (os ++ [o])) := fun H1 e Q q =>
  ha H1 e _ fun H2 e2 => h H2 (e.trans e2) _ fun x H3 e3 hx => ⟨by show 1 ≤ sizeLine; decide, fun p np => by
    have e4 := Ex.new (o := .tup [x]) np
    have e14 : Ex H (upd H3 p (.tup [x])) := e.trans (e2.trans (e3.trans e4))
    refine ⟨a, p, vs, [x], rfl, rfl, st_of (e14 _ _ hs), st_of upd_same, sz_of (by show vs.length + 1 ≤ 100000; omega), fun z => absurd z h0, fun _ z => by simp at z, fun _ _ p2 np2 => ?_⟩
    have e5 := Ex.new (o := .tup (vs ++ [x])) np2
    exact q _ _ ((e2.trans (e3.trans e4)).trans e5) ⟨p2, vs ++ [x], rfl, upd_same, paired_app (paired_mono (fun _ _ z => z.ex (e14.trans e5)) hp) (.cons (hx.ex (e4.trans e5)) .nil)⟩⟩
theorem bps_nil : EvPs tNil σ H (Bads K 0) := fun H1 _ Q q => q [] H1 (Ex.refl _) ⟨rfl, fun _ z => nomatch z⟩
theorem bps_cons {n : Nat} (h : EvP ta σ H (Bad K)) (hr : EvPs ts σ H (Bads K n)) : EvPs (tCons ta ts) σ H (Bads K (n + 1)) := fun H1 e Q q =>
  h H1 e _ fun v H2 e2 hv => hr H2 (e.trans e2) _ fun vs H3 e3 hvs => q _ H3 (e2.trans e3) ⟨congrArg Nat.succ hvs.1, fun x hx => by
    rcases List.mem_cons.mp hx with z | z
    · rw [z]; exact hv.ex e3
    · exact hvs.2 x z⟩
theorem q_asgBs {i n : Nat} (h : EvPs ts σ H (Bads K n)) (hn : n ≤ 1000) (k : ∀ p vs H1, H1 p = none → Ex H H1 → Bads K n vs H1 → tz D (σ.set i (some (.ref p))) (upd H1 p (.lst vs))) : tSeq (tAsg (tLst ts) (gName i)) tz D σ H :=
  h H (Ex.refl _) _ fun vs H1 e1 hv => ⟨sz_of (by have := hv.1; omega), fun p hp => k p vs H1 hp e1 hv⟩
theorem q_asgCt {i j n m : Nat} {l : Addr} {xs : List V} (hx : σ[j]? = some (some (.ref l))) (hl : H l = some (.lst xs)) (hb : Bads K m xs H) (h : EvPs ts σ H (Bads K n)) (hn : m + n ≤ 1000) (k : ∀ p vs H1, H1 p = none → Ex H H1 → Bads K (m + n) vs H1 → tz D (σ.set i (some (.ref p))) (upd H1 p (.lst vs))) :
    tSeq (tAsg (tOp rCat (tVar j) (tLst ts)) (gName i)) tz D σ H :=
  ⟨_, hx, h H (Ex.refl _) _ fun vs H1 e1 hv => ⟨sz_of (by have := hv.1; omega), fun p np => by
    have e2 := Ex.new (o := .lst vs) np
    refine ⟨l, p, xs, vs, rfl, rfl, e2 _ _ (e1 _ _ hl), upd_same, sz_of (by rw [hb.1, hv.1]; omega), fun r hr => k r _ _ hr (e1.trans e2) ((hb.ex (e1.trans e2)).app (hv.ex e2))⟩⟩⟩
end
/-- a family as it stands -/
structure FamAt (H : Hp) (t b : Addr) (n : Nat) (r1 r2 : List Nat) (ys : List (List Nat)) : Prop where
  ht : H t = some (.tup [.str (tx r1), .str (tx r2), .ref b])
  hb : H b = some (.tup (ys.map fun y => .str (tx y)))
  h1 : RowL r1
  h2 : RowL r2
  l1 : r1.length = n
  l2 : r2.length = n
  hn : 1 ≤ ys.length ∧ ys.length ≤ 3
  hy : ∀ y ∈ ys, RowL y ∧ y.length = n
theorem FamAt.ex {H H' : Hp} {t b : Addr} {n : Nat} {r1 r2 : List Nat} {ys : List (List Nat)} (h : FamAt H t b n r1 r2 ys) (e : Ex H H') : FamAt H' t b n r1 r2 ys := { h with ht := e _ _ h.ht, hb := e _ _ h.hb }
theorem rows_th {K : PySem.W.Frag} {H : Hp} : ∀ {ys : List (List Nat)}, (∀ y ∈ ys, y.length ≤ 1000) → Paired (Th K H) (ys.map fun y => V.str (tx y)) (ys.map some)
  | [], _ => .nil
  | y :: ys, h => .cons (th_str y (h y List.mem_cons_self)) (rows_th fun z hz => h z (List.mem_cons_of_mem _ hz))
theorem FamAt.fm {K : PySem.W.Frag} {H : Hp} {t b : Addr} {n : Nat} {r1 r2 : List Nat} {ys : List (List Nat)} (h : FamAt H t b n r1 r2 ys) : FmOk K H (.ref t) (.three (some r1) (some r2) (some (ys.map some))) :=
  ⟨t, _, _, _, rfl, h.ht, th_str r1 (by have := h.h1.1; omega), th_str r2 (by have := h.h2.1; omega), b, _, rfl, h.hb, rows_th fun y hy => by have := (h.hy y hy).1.1; omega⟩
theorem FamAt.good {H : Hp} {t b : Addr} {n : Nat} {r1 r2 : List Nat} {ys : List (List Nat)} (h : FamAt H t b n r1 r2 ys) : famB (.three (some r1) (some r2) (some (ys.map some))) = true :=
  fam_good h.h1 h.h2 (by rw [h.l1, h.l2]) h.hn fun y hy => ⟨(h.hy y hy).1, by rw [(h.hy y hy).2, h.l1]⟩
end Hid

namespace Hid
open PySem PySem.Spec PyProof.Rows L2 Evl
def topS (i : Nat) : Stmt := PySem.Challenge.pw_hidhalves_k37_what_families_are.main.body.getD i (.Pass ⟨0, 0, 0, 0⟩)
abbrev st_is_written_in : Stmt := topS 3
theorem sc_is_written_in : FnScope ["thing", "signs", "sign"] ["thing", "signs"] (defScope st_is_written_in) := ⟨rfl, rfl, rfl, by decide +kernel, rfl, by decide +kernel, by decide +kernel⟩
abbrev st_is_row : Stmt := topS 4
theorem sc_is_row : FnScope ["thing"] ["thing"] (defScope st_is_row) := ⟨rfl, rfl, rfl, by decide +kernel, rfl, by decide +kernel, by decide +kernel⟩
abbrev st_is_row_of : Stmt := topS 5
theorem sc_is_row_of : FnScope ["thing", "places"] ["thing", "places"] (defScope st_is_row_of) := ⟨rfl, rfl, rfl, by decide +kernel, rfl, by decide +kernel, by decide +kernel⟩
abbrev st_is_tuple_of : Stmt := topS 6
theorem sc_is_tuple_of : FnScope ["thing", "many"] ["thing", "many"] (defScope st_is_tuple_of) := ⟨rfl, rfl, rfl, by decide +kernel, rfl, by decide +kernel, by decide +kernel⟩
abbrev st_is_family : Stmt := topS 9
theorem sc_is_family : FnScope ["thing", "one", "other", "young", "row"] ["thing"] (defScope st_is_family) := ⟨rfl, rfl, rfl, by decide +kernel, rfl, by decide +kernel, by decide +kernel⟩
abbrev st__law_cell : Stmt := topS 11
theorem sc__law_cell : FnScope ["_law_script", "_law_k", "_law_state", "_law_cell_here"] ["_law_script", "_law_k"] (defScope st__law_cell) := ⟨rfl, rfl, rfl, by decide +kernel, rfl, by decide +kernel, by decide +kernel⟩
abbrev st__law_numbers : Stmt := topS 12
theorem sc__law_numbers : FnScope ["_law_cell_here", "_law_many", "_law_found", "_law_state", "_law_digits", "_law_k"] ["_law_cell_here", "_law_many"] (defScope st__law_numbers) := ⟨rfl, rfl, rfl, by decide +kernel, rfl, by decide +kernel, by decide +kernel⟩
abbrev st__law_mark : Stmt := topS 13
theorem sc__law_mark : FnScope ["_law_one", "_law_other"] ["_law_one", "_law_other"] (defScope st__law_mark) := ⟨rfl, rfl, rfl, by decide +kernel, rfl, by decide +kernel, by decide +kernel⟩
abbrev st__law_row_of : Stmt := topS 14
theorem sc__law_row_of : FnScope ["_law_one", "_law_other", "_law_k"] ["_law_one", "_law_other"] (defScope st__law_row_of) := ⟨rfl, rfl, rfl, by decide +kernel, rfl, by decide +kernel, by decide +kernel⟩
abbrev st__law_any_half : Stmt := topS 15
theorem sc__law_any_half : FnScope ["_law_x", "_law_places", "_law_place"] ["_law_x", "_law_places"] (defScope st__law_any_half) := ⟨rfl, rfl, rfl, by decide +kernel, rfl, by decide +kernel, by decide +kernel⟩
abbrev st__law_family : Stmt := topS 16
theorem sc__law_family : FnScope ["_law_xs", "_law_most", "_law_plain", "_law_places", "_law_one", "_law_other", "_law_young", "_law_k", "_law_first", "_law_second", "_law_at", "_law_place"] ["_law_xs", "_law_most", "_law_plain"] (defScope st__law_family) := ⟨rfl, rfl, rfl, by decide +kernel, rfl, by decide +kernel, by decide +kernel⟩
abbrev st__law_odd : Stmt := topS 17
theorem sc__law_odd : FnScope ["_law_family_here", "_law_x", "_law_one", "_law_other", "_law_young", "_law_some"] ["_law_family_here", "_law_x"] (defScope st__law_odd) := ⟨rfl, rfl, rfl, by decide +kernel, rfl, by decide +kernel, by decide +kernel⟩
abbrev st_law : Stmt := topS 18
theorem sc_law : FnScope ["_law_script", "_law_k", "_law_xs", "_law_family_here", "_law_x", "_law_found"] ["_law_script"] (defScope st_law) := ⟨rfl, rfl, rfl, by decide +kernel, rfl, by decide +kernel, by decide +kernel⟩
def is3 : Fm → Bool
  | .three _ _ _ => true
  | _ => false
section
variable {P : Program} {w : World} {K : PySem.W.Frag} {mg : Str → Option Value} {base : Heap}
def sp__law_cell (K : PySem.W.Frag) (ts : List Addr) : Sp := fun vs H Q _ => ∃ (a : Addr) (ns : List Int) (k : Int), vs = [.ref a, .int k] ∧ SqL K H a (ns.map V.int) ∧ (0 ≤ k ∧ k ≤ 1000) ∧ ∀ (c : Int) H2, Ex H H2 → Q (.int c) H2
theorem ok__law_cell {ts : List Addr} (D : Df K mg "_law_cell" st__law_cell ["_law_script", "_law_k"]) (m_len : mg "len" = none) : At P w K mg base "_law_cell" st__law_cell 1 ["_law_script", "_law_k"] (sp__law_cell K ts) := by
  obtain ⟨f, fd, F, b, g⟩ := D
  refine ⟨f, fd, F, b, g, F.ok sc__law_cell (fun vs H Q E h => ?_) (fun cdv A outer s H vs Q E hr h => ?_)⟩
  · obtain ⟨a, ns, k, rfl, _⟩ := h
    rfl
  · obtain ⟨a, ns, k, rfl, hS, hk, q⟩ := h
    refine ⟨_, (pss_cons (ps_if (pt_cmpR op_lt (pv 1) (pe_callB call_len_seq (by rfl) m_len (by decide +kernel) (pa_cons (pv 0) pa_nil)) (nomark _))
      (pss_one (ps_ret (pe_ix ix_list (pv 0) (pv 1) (fun _ _ => rfl))))
      pss_nil)
      (pss_cons (ps_set (i := 2) sc__law_cell.nd rfl (.inl rfl) (pe_op op_mod (pe_op op_mul pe_int (pe_op op_add (pe_op op_add (pe_op op_mul (pv 1) (pv 1)) (pe_op op_mul pe_int (pv 1))) pe_int)) pe_int))
      (pss_cons (ps_for PassesOwn.never rfl (pi_list (pe_slice sl_list (pv 0) po_none (po_some pe_int))) (pg_name (i := 3) sc__law_cell.nd rfl (.inl rfl))
      (pss_one (ps_set (i := 2) sc__law_cell.nd rfl (.inl rfl) (pe_op op_mod (pe_op op_add (pe_op op_mul (pv 2) pe_int) (pv 3)) pe_int))))
      (pss_one (ps_ret (pv 2)))))), ?_⟩
    refine q_when (et_test (ev_op (ev_var rfl) (ev_len (ev_var rfl) hS) rv_I0)) (fun hb H1 e1 => ?_) (fun hb H1 e1 => ?_)
    · have hb' : k < ((ns.map V.int).length : Int) := of_decide_eq_true hb
      have hj : k.toNat < ns.length := by rw [List.length_map] at hb'; omega
      have hat : atI (ns.map V.int) k = some (.int ns[k.toNat]) := by
        have := atI_nat (xs := ns.map V.int) (j := k.toNat) (v := .int ns[k.toNat]) (by rw [List.getElem?_map, List.getElem?_eq_getElem hj]; rfl)
        rwa [Int.toNat_of_nonneg hk.1] at this
      exact s_ret (ev_op (ev_var rfl) (ev_var rfl) (rv_ixL (ex_l e1 hS) hat)) fun H2 e2 => q _ _ (e1.trans e2)
    · refine q_asg (ev_op (ev_op ev_c (ev_op (ev_op (ev_op (ev_var rfl) (ev_var rfl) (rv_I (.inl ⟨by omega, by omega⟩))) (ev_op ev_c (ev_var rfl) (rv_I (.inl ⟨by omega, by omega⟩))) rv_I0) ev_c rv_I0) (rv_I (.inl ⟨by omega, by omega⟩))) ev_c (rv_I (by show (0 : Int) < 2147483647; decide))) fun H2 e2 => ?_
      refine q_forNLn (el_sl (ev_var rfl) eo_none (eo_some ev_c) (ex_l (e1.trans e2) hS)) (fun p i σ' H' => ∃ (c : Int) (y3 : Option V), σ' = [some (.ref a), some (.int k), some (.int c), y3] ∧ (0 ≤ c ∧ c < 2147483647) ∧ Ex H H' ∧ H' p = some (.lst (cutV (ns.map V.int) none (some 3)))) (fun p H3 hp e3 h3 => ⟨_, _, rfl, ⟨by omega, by omega⟩, (e1.trans e2).trans e3, h3⟩) (fun p i σ' H' _ hP => ?_) (fun p i x σ' H' hx hP => ?_) (fun p σ' H' hP => ?_)
      · obtain ⟨c, y3, _, _, _, h3⟩ := hP
        exact sq_of h3
      · obtain ⟨c, y3, rfl, hc, e3, h3⟩ := hP
        have hm : x ∈ ns.map V.int := List.mem_of_mem_drop (List.mem_of_mem_take (List.mem_of_getElem? hx))
        obtain ⟨z, _, rfl⟩ := List.mem_map.mp hm
        refine s_asg (ev_op (ev_op (ev_op (ev_var rfl) ev_c (rv_I (.inl ⟨by omega, by omega⟩))) (ev_var rfl) rv_I0) ev_c (rv_I (by show (0 : Int) < 2147483647; decide))) fun H4 e4 => ?_
        exact ⟨_, _, rfl, ⟨by omega, by omega⟩, e3.trans e4, e4 _ _ h3⟩
      · obtain ⟨c, y3, rfl, hc, e3, h3⟩ := hP
        exact s_ret (ev_var rfl) fun H4 e4 => q _ _ (e3.trans e4)
def sp__law_numbers (K : PySem.W.Frag) (ts : List Addr) : Sp := fun vs H Q _ => ∃ (c n : Int), vs = [.int c, .int n] ∧ (0 ≤ n ∧ n ≤ 1000) ∧ ∀ xs : List Int, (xs.length : Int) = n → (∀ x ∈ xs, 0 ≤ x) → RetL (xs.map V.int) H Q
theorem ok__law_numbers {ts : List Addr} (D : Df K mg "_law_numbers" st__law_numbers ["_law_cell_here", "_law_many"]) (m_abs : mg "abs" = none) (m_range : mg "range" = none) (m_int : mg "int" = none) : At P w K mg base "_law_numbers" st__law_numbers 1 ["_law_cell_here", "_law_many"] (sp__law_numbers K ts) := by
  obtain ⟨f, fd, F, b, g⟩ := D
  refine ⟨f, fd, F, b, g, F.ok sc__law_numbers (fun vs H Q E h => ?_) (fun cdv A outer s H vs Q E hr h => ?_)⟩
  · obtain ⟨c, n, rfl, _⟩ := h
    rfl
  · obtain ⟨c, n, rfl, hn, q⟩ := h
    refine ⟨_, (pss_cons (ps_set (i := 2) sc__law_numbers.nd rfl (.inl rfl) (pe_lst pa_nil))
      (pss_cons (ps_set (i := 3) sc__law_numbers.nd rfl (.inl rfl) (pe_op op_mod (pe_op op_mul (pe_op op_add (pe_op op_mod (pv 0) pe_int) pe_int) pe_int) pe_int))
      (pss_cons (ps_set (i := 4) sc__law_numbers.nd rfl (.inl rfl) pe_int)
      (pss_cut (ps_if (PW.pt (pw_or (pt_cmpR op_lt (pv 0) pe_int (nomark _)) (pw_or1 (pt_cmpR op_ge (pv 0) (pe_op op_pow pe_int pe_int) (nomark _)))))
      (pss_one (ps_set (i := 4) sc__law_numbers.nd rfl (.inl rfl) (pe_callB call_abs (by rfl) m_abs (by decide +kernel) (pa_cons (pv 0) pa_nil))))
      pss_nil)
      (pss_cons (ps_for PassesOwn.never rfl (pi_range1 (by rfl) m_range (pa_cons (pv 1) pa_nil)) (pg_name (i := 5) sc__law_numbers.nd rfl (.inl rfl))
      (pss_cons (ps_set (i := 3) sc__law_numbers.nd rfl (.inl rfl) (pe_op op_mod (pe_op op_add (pe_op op_add (pe_op op_mul (pv 3) (pe_op op_add (pe_op op_mod (pv 3) pe_int) pe_int)) (pe_op op_mul pe_int (pv 5))) pe_int) pe_int))
      (pss_cons (ps_expr (pe_bm PySem.F.plainAttrs_list PySem.F.slot_list_append PySem.F.type_list_append mt_append (pv 2) (pa_cons (pe_ix ix_list (pe_lst (pa_cons (pv 3) (pa_cons (pe_op op_mod (pv 4) pe_int) pa_nil))) (pe_callTy call_int1 (by rfl) m_int (by decide +kernel) (pa_cons (pe_cmpR op_gt (pv 4) pe_int (nomark _)) pa_nil)) (fun _ _ => rfl)) pa_nil)))
      (pss_one (ps_set (i := 4) sc__law_numbers.nd rfl (.inl rfl) (pe_op op_fdiv (pv 4) pe_int))))))
      (pss_one (ps_ret (pv 2)))))))), ?_⟩
    refine q_asgL (el_lst ea_nil (by decide)) fun l H1 hl e1 h1 => ?_
    refine q_asg (ev_op (ev_op (ev_op (ev_op (ev_var rfl) ev_c (rv_I (by show (0 : Int) < 1999999973; decide))) ev_c rv_I0) ev_c (rv_I (.inl ⟨by omega, by omega⟩))) ev_c (rv_I (by show (0 : Int) < 1999999973; decide))) fun H2 e2 => ?_
    refine q_asg ev_c fun H3 e3 => ?_
    have e13 : Ex H H3 := (e1.trans e2).trans e3
    have h3 : H3 l = some (.lst []) := e3 _ _ (e2 _ _ h1)
    generalize hst : ((c % 1999999973 + 31) * 765432101) % 1999999973 = st
    have hst1 : 0 ≤ st ∧ st < 1999999973 := by omega
    refine q_cut (M := fun σ' H' => ∃ d : Int, σ' = [some (.int c), some (.int n), some (.ref l), some (.int st), some (.int d), none] ∧ 0 ≤ d ∧ Ex H H' ∧ H' l = some (.lst [])) ?_ ?_
    · refine s_when (et_or (et_test (ev_op (ev_var rfl) ev_c rv_I0)) fun _ => et_test (ev_op (ev_var rfl) (ev_op ev_c ev_c (rv_I ⟨by decide, by decide, by decide⟩)) rv_I0)) (fun hb H4 e4 => ?_) (fun hb H4 e4 => ?_)
      · refine s_asg (ev_cb (ea_cons (ev_var rfl) ea_nil) (z := .int (if c < 0 then -c else c)) (fun Hx ex Qx qx => ⟨c, rfl, qx Hx (Ex.refl _)⟩)) fun H5 e5 => ?_
        exact ⟨_, rfl, by split <;> omega, (e13.trans e4).trans e5, e5 _ _ (e4 _ _ h3)⟩
      · exact ⟨0, rfl, Int.le_refl _, e13.trans e4, e4 _ _ h3⟩
    · rintro σ' H' ⟨d, rfl, hd, e4, h4⟩
      refine q_forR1 (ea_cons (ev_var rfl) ea_nil) ⟨hn.1, by omega⟩ (fun i σ' H' => ∃ (xs : List Int) (st d : Int) (y5 : Option V), σ' = [some (.int c), some (.int n), some (.ref l), some (.int st), some (.int d), y5] ∧ (0 ≤ st ∧ st < 1999999973) ∧ 0 ≤ d ∧ xs.length = i ∧ (∀ x ∈ xs, 0 ≤ x) ∧ Ex H H' ∧ H' l = some (.lst (xs.map V.int))) (fun H5 e5 => ⟨[], st, d, _, rfl, hst1, hd, rfl, (fun _ m => nomatch m), e4.trans e5, e5 _ _ h4⟩) (fun i σ' H' hi hP => ?_) (fun σ' H' hP => ?_)
      · obtain ⟨xs, st, d, y5, rfl, hs, hd, hx, hpos, e6, h6⟩ := hP
        refine q_asg (ev_op (ev_op (ev_op (ev_op (ev_var rfl) (ev_op (ev_op (ev_var rfl) ev_c (rv_I (by show (0 : Int) < 65521; decide))) ev_c rv_I0) (rv_I (.inl ⟨by omega, by omega⟩))) (ev_op ev_c (ev_var rfl) (rv_I (.inl ⟨by omega, by omega⟩))) rv_I0) ev_c rv_I0) ev_c (rv_I (by show (0 : Int) < 1999999973; decide))) fun H7 e7 => ?_
        generalize hst2 : (st * (st % 65521 + 40487) + 7 * (i : Int) + 5) % 1999999973 = st2
        have hb2 : 0 ≤ st2 ∧ st2 < 1999999973 := by rw [← hst2]; exact ⟨Int.emod_nonneg _ (by decide), Int.emod_lt_of_pos _ (by decide)⟩
        have h7 : H7 l = some (.lst (xs.map V.int)) := e7 _ _ h6
        refine q_app (v := .int (if d > 0 then d % 1000000 else st2)) h7 (ev_var rfl) ?_ (by rw [List.length_map]; omega) fun H8 e8 => ?_
        · refine ev_opL1 (el_lst (ea_cons (ev_var rfl) (ea_cons (ev_op (ev_var rfl) ev_c (rv_I (by show (0 : Int) < 1000000; decide))) ea_nil)) (by show 2 ≤ 100000; decide)) (y := .int (if decide (d > 0) = true then 1 else 0)) (fun Hx ex => ev_cb (ea_cons (ev_op (ev_var rfl) ev_c rv_I0) ea_nil) fun Hy ey Qy qy => .inr ⟨_, rfl, qy Hy (Ex.refl _)⟩) fun p Hx hp ex => rv_ixL (sq_of hp) ?_
          by_cases hd0 : d > 0
          · rw [decide_eq_true hd0, if_pos hd0] <;> rfl
          · rw [decide_eq_false hd0, if_neg hd0] <;> rfl
        · refine s_asg (ev_op (ev_var rfl) ev_c (rv_I ⟨by decide, by decide⟩)) fun H9 e9 => ?_
          have ne : H l = none := hl
          refine ⟨xs ++ [if d > 0 then d % 1000000 else st2], st2, d / 1000000, _, rfl, hb2, by omega, by rw [List.length_append, hx]; rfl, fun x hx2 => ?_, ?_, ?_⟩
          · rcases List.mem_append.mp hx2 with h | h
            · exact hpos x h
            · rw [List.mem_singleton.mp h]
              split <;> omega
          · exact ((e6.trans e7).trans e8 |>.mut ne).trans e9
          · refine e9 _ _ ?_
            rw [upd_same, List.map_append] <;> rfl
      · obtain ⟨xs, st, d, y5, rfl, hs, hd, hx, hpos, e6, h6⟩ := hP
        exact s_ret (ev_var rfl) fun H7 e7 => q xs (by omega) hpos l H7 hl (e6.trans e7) (e7 _ _ h6)
def sp_is_written_in (K : PySem.W.Frag) (ts : List Addr) : Sp := fun vs H Q _ => ∃ (v : V) (o : Option (List Nat)) (g : List Nat), vs = [v, .str (tx g)] ∧ Th K H v o ∧ TB ts H ∧ RetV (.bl (wr o g)) H Q
theorem ok_is_written_in {cc pp : Addr} {ts : List Addr} {tMS : Tok} (D : DfC K mg "is_written_in" st_is_written_in ["thing", "signs"] cc) (B_is_written_in : GxR.TabB base mg cc pp) (hpp : pp ∈ ts) (m_len : mg "len" = none) (m_isinstance : mg "isinstance" = none) (m_str : mg "str" = none) (m_all : mg "all" = none) (c_MOST_SIGNS : mg "MOST_SIGNS" = some (.int 8 tMS)) : At P w K mg base "is_written_in" st_is_written_in 2 ["thing", "signs"] (sp_is_written_in K ts) := by
  obtain ⟨f, fd, F, b, g, hcd⟩ := D
  refine ⟨f, fd, F, b, g, okC F hcd sc_is_written_in (fun vs H Q E h => ?_) (fun A outer s H vs Q E hr h => ?_)⟩
  · obtain ⟨v, o, g, rfl, _⟩ := h
    rfl
  · obtain ⟨v, o, g0, rfl, hv, hT, q⟩ := h
    refine ⟨_, (pss_cons (ps_if (PW.pt (pw_or (pt_not (pt_val (pe_callB call_isi (by rfl) m_isinstance (by decide +kernel) (pa_cons (pv 0) (pa_cons (pe_bltn (v := .ty "str") (by rfl) m_str (by decide +kernel) rfl) pa_nil))))) (pw_or1 (pt_not (pt_chain op_le op_le pe_int (pe_callB call_len_str (by rfl) m_len (by decide +kernel) (pa_cons (pv 0) pa_nil)) (pe_glob (v := .int 8) (by rfl) c_MOST_SIGNS ⟨_, rfl⟩))))))
      (pss_one (ps_ret pe_bl))
      pss_nil)
      (pss_one (ps_ret (Hid.pe_allG (own := [("sign", 2)]) (gg := gName 2) hr rfl sc_is_written_in.nd (by rfl) m_all B_is_written_in rfl (pi_str (pv 0)) (blkOk_by (N := ["thing", "signs", "sign"]) (sc := defScope st_is_written_in) (by decide +kernel)) (fun _ _ _ _ _ _ _ _ => (pg_name (i := 2) sc_is_written_in.nd rfl (.inl rfl))) (fun _ _ _ _ _ _ _ _ hr => (pe_cmpR op_in_sign (pv 2) (pv 1) rfl)))))), ?_⟩
    cases o with
    | none =>
      refine q_when (b := true) (et_or (b := false) (et_not (et_B (ev_isS (ev_var rfl) hv))) fun z => absurd z (by decide)) (fun hb H1 e1 => ?_) (fun hb H1 e1 => absurd hb (by decide))
      exact s_ret ev_c fun H2 e2 => q H2 (e1.trans e2)
    | some z =>
      obtain ⟨rfl, hz⟩ := id hv
      have hlen : (tx z).length = z.length := by simp [tx, Str.length]
      refine q_when (b := !decide (1 ≤ z.length ∧ z.length ≤ 8)) (et_is (et_or (et_not (et_B (ev_isS (ev_var rfl) hv))) fun _ => et_not (et_test (ev_chain (b := decide ((1 : Int) ≤ z.length)) (b' := decide ((z.length : Int) ≤ 8)) ev_c (ev_is (ev_lenS (ev_var rfl) (by omega)) (by rw [hlen])) rv_I0 (fun _ => ev_c) fun _ => rv_I0))) ?_) (fun hb H1 e1 => ?_) (fun hb H1 e1 => ?_)
      · show (!true || !(decide ((1 : Int) ≤ z.length) && decide ((z.length : Int) ≤ 8))) = _
        rw [Bool.not_true, Bool.false_or]
        congr 1
        by_cases h1 : 1 ≤ z.length <;> by_cases h2 : z.length ≤ 8 <;> simp [h1, h2] <;> omega
      · have hw : wr (some z) g0 = false := by
          have : decide (1 ≤ z.length ∧ z.length ≤ 8) = false := of_not hb
          show (decide (1 ≤ z.length ∧ z.length ≤ 8) && _) = false
          rw [this, Bool.false_and]
        rw [hw] at q
        exact s_ret ev_c fun H2 e2 => q H2 (e1.trans e2)
      · have hd : decide (1 ≤ z.length ∧ z.length ≤ 8) = true := of_not' hb
        have hw : wr (some z) g0 = z.all fun c => decide (c ∈ g0) := by
          show (decide (1 ≤ z.length ∧ z.length ≤ 8) && _) = _
          rw [hd, Bool.true_and]
        rw [hw] at q
        have hsz : (tx z).cps.size = z.length := by simp [tx]
        refine ⟨_, rfl, tx z, rfl, hT.ex e1 _ hpp, gx_it walk_str (fun i H' => Ex H H' ∧ ((z.take i).all fun c => decide (c ∈ g0)) = true) ⟨e1, rfl⟩ (fun _ _ _ _ => trivial) (fun i x H2 H2' hi hP hY => ?_) (fun H2 hP => ?_)⟩
        · obtain ⟨e2, hall⟩ := hP
          obtain ⟨rfl, c, hc, rfl⟩ := hY
          have hc' : z[i]? = some c := by simpa [tx] using hc
          refine ⟨rfl, _, rfl, _, rfl, c, tx g0, rfl, rfl, _, rfl, fun hb2 => ⟨e2, ?_⟩, fun hb2 => ?_⟩
          · rw [List.take_add_one, hc']
            show ((z.take i ++ [c]).all _) = true
            rw [List.all_append, hall, Bool.true_and]
            show (decide (c ∈ g0) && true) = true
            rw [Bool.and_true]
            simpa [tx] using hb2
          · have hf : (z.all fun c => decide (c ∈ g0)) = false := by
              rw [Bool.eq_false_iff]
              intro ha
              have := List.all_eq_true.mp ha c (List.mem_of_getElem? hc')
              exact hb2 (by simpa [tx] using this)
            rw [hf] at q
            exact q _ e2
        · obtain ⟨e2, hall⟩ := hP
          rw [List.take_of_length_le (by omega)] at hall
          rw [hall] at q
          exact q H2 e2
def sp_is_row (K : PySem.W.Frag) (ts : List Addr) : Sp := fun vs H Q _ => ∃ (v : V) (o : Option (List Nat)), vs = [v] ∧ Th K H v o ∧ TB ts H ∧ RetV (.bl (wr o [110, 98, 121])) H Q
theorem ok_is_row {ts : List Addr} {tRS : Tok} (D : Df K mg "is_row" st_is_row ["thing"]) (c_ROW_SIGNS : mg "ROW_SIGNS" = some (.str "nby" tRS)) (A_is_written_in : At P w K mg base "is_written_in" st_is_written_in 2 ["thing", "signs"] (sp_is_written_in K ts)) : At P w K mg base "is_row" st_is_row 3 ["thing"] (sp_is_row K ts) := by
  obtain ⟨f, fd, F, b, g⟩ := D
  obtain ⟨f_is_written_in, fd_is_written_in, F_is_written_in, b_is_written_in, g_is_written_in, G_is_written_in⟩ := A_is_written_in
  refine ⟨f, fd, F, b, g, F.ok sc_is_row (fun vs H Q E h => ?_) (fun cdv A outer s H vs Q E hr h => ?_)⟩
  · obtain ⟨v, o, rfl, _⟩ := h
    rfl
  · obtain ⟨v, o, rfl, hv, hT, q⟩ := h
    refine ⟨_, (pss_one (ps_ret (pe_call G_is_written_in (hr.mono (by decide)) (by rfl) g_is_written_in F_is_written_in.kp b_is_written_in .nil pass0 (pa_cons (pv 0) (pa_cons (pe_glob (v := .str "nby") (by rfl) c_ROW_SIGNS ⟨_, rfl⟩) pa_nil))))), ?_⟩
    exact c_call (ea_cons (ev_var rfl) (ea_cons ev_c ea_nil)) fun H1 e1 => ⟨v, o, [110, 98, 121], rfl, hv.ex e1, hT.ex e1, fun H2 e2 => q H2 (e1.trans e2)⟩
def sp_is_row_of (K : PySem.W.Frag) (ts : List Addr) : Sp := fun vs H Q _ => ∃ (v : V) (o : Option (List Nat)) (n : Nat), vs = [v, .int (n : Nat)] ∧ Th K H v o ∧ TB ts H ∧ RetV (.bl (rowO o n)) H Q
theorem ok_is_row_of {ts : List Addr} (D : Df K mg "is_row_of" st_is_row_of ["thing", "places"]) (m_len : mg "len" = none) (A_is_row : At P w K mg base "is_row" st_is_row 3 ["thing"] (sp_is_row K ts)) : At P w K mg base "is_row_of" st_is_row_of 4 ["thing", "places"] (sp_is_row_of K ts) := by
  obtain ⟨f, fd, F, b, g⟩ := D
  obtain ⟨f_is_row, fd_is_row, F_is_row, b_is_row, g_is_row, G_is_row⟩ := A_is_row
  refine ⟨f, fd, F, b, g, F.ok sc_is_row_of (fun vs H Q E h => ?_) (fun cdv A outer s H vs Q E hr h => ?_)⟩
  · obtain ⟨v, o, n, rfl, _⟩ := h
    rfl
  · obtain ⟨v, o, n, rfl, hv, hT, q⟩ := h
    refine ⟨_, (pss_one (ps_ret (pe_and (pe_call G_is_row (hr.mono (by decide)) (by rfl) g_is_row F_is_row.kp b_is_row .nil pass0 (pa_cons (pv 0) pa_nil)) (pe_one (pe_cmpR op_eq (pe_callB call_len_str (by rfl) m_len (by decide +kernel) (pa_cons (pv 0) pa_nil)) (pv 1) (nomark _)))))), ?_⟩
    have e1 : ∀ {σ : L2.St} {G : Hp}, σ[0]? = some (some v) → Ex H G → Ev (tCall (sp_is_row K ts) [] E0 (tCons (tVar 0) tNil)) σ G (.bl (wr o nby)) := fun s0 g => ev_call (ea_cons (ev_var s0) ea_nil) fun H1 e1 Q1 q1 E1 => ⟨v, o, rfl, hv.ex (g.trans e1), hT.ex (g.trans e1), q1⟩
    cases o with
    | none => exact s_ret (ev_is (ev_andV (b := false) (e1 rfl (Ex.refl _)) fun z => absurd z (by decide)) rfl) fun H2 e2 => q H2 e2
    | some z =>
      obtain ⟨rfl, hz⟩ := id hv
      have hlen : (tx z).length = z.length := by simp [tx, Str.length]
      exact s_ret (ev_is (ev_andV (e1 rfl (Ex.refl _)) fun _ => ev_op (ev_is (ev_lenS (ev_var rfl) (by omega)) (by rw [hlen])) (ev_var rfl) (rv_eq rfl)) (congrArg V.bl (by unfold rowO; congr 1; exact decide_eq_decide.mpr ⟨fun q => by have := V.int.inj q; omega, fun q => by rw [q]⟩))) fun H2 e2 => q H2 e2
def sp_is_tuple_of (K : PySem.W.Frag) (ts : List Addr) : Sp := fun vs H Q _ => ∃ (v : V) (f : Fm), vs = [v, .int 3] ∧ FmOk K H v f ∧ RetV (.bl (is3 f)) H Q
theorem ok_is_tuple_of {ts : List Addr} (D : Df K mg "is_tuple_of" st_is_tuple_of ["thing", "many"]) (m_len : mg "len" = none) (m_isinstance : mg "isinstance" = none) (m_tuple : mg "tuple" = none) : At P w K mg base "is_tuple_of" st_is_tuple_of 1 ["thing", "many"] (sp_is_tuple_of K ts) := by
  obtain ⟨f, fd, F, b, g⟩ := D
  refine ⟨f, fd, F, b, g, F.ok sc_is_tuple_of (fun vs H Q E h => ?_) (fun cdv A outer s H vs Q E hr h => ?_)⟩
  · obtain ⟨v, f, rfl, _⟩ := h
    rfl
  · obtain ⟨v, fm, rfl, hf, q⟩ := h
    refine ⟨_, (pss_one (ps_ret (pe_and (pe_callB call_isi (by rfl) m_isinstance (by decide +kernel) (pa_cons (pv 0) (pa_cons (pe_bltn (v := .ty "tuple") (by rfl) m_tuple (by decide +kernel) rfl) pa_nil))) (pe_one (pe_cmpR op_eq (pe_callB call_len_seq (by rfl) m_len (by decide +kernel) (pa_cons (pv 0) pa_nil)) (pv 1) (nomark _)))))), ?_⟩
    cases fm with
    | non =>
      obtain ⟨t, hk, ht⟩ := hf
      exact s_ret (ev_is (ev_andV (b := false) (ev_isi (ev_var rfl) ht hk) fun z => absurd z (by decide)) rfl) fun H1 e1 => q H1 e1
    | len n =>
      obtain ⟨h3, a, xs, rfl, ha, hn⟩ := hf
      refine s_ret (ev_is (ev_andV (ev_isi (b := true) (ev_var rfl) (fun H1 e => .base (.tup (e _ _ ha))) (by decide +kernel)) fun _ => ev_op (ev_lenT (ev_var rfl) (st_of ha)) (ev_var rfl) (rv_eq rfl)) ?_) fun H1 e1 => q H1 e1
      rw [hn, decide_eq_false fun z => h3 (by have := V.int.inj z; omega)]
      rfl
    | three ox oy oz =>
      obtain ⟨a, x, y, z, rfl, ha, hx, hy, hz⟩ := hf
      refine s_ret (ev_is (ev_andV (ev_isi (b := true) (ev_var rfl) (fun H1 e => .base (.tup (e _ _ ha))) (by decide +kernel)) fun _ => ev_op (ev_lenT (ev_var rfl) (st_of ha)) (ev_var rfl) (rv_eq rfl)) ?_) fun H1 e1 => q H1 e1
      rw [decide_eq_true (show V.int (([x, y, z] : List V).length : Int) = V.int 3 from rfl)]
      rfl
def sp_is_family (K : PySem.W.Frag) (ts : List Addr) : Sp := fun vs H Q _ => ∃ (v : V) (f : Fm), vs = [v] ∧ FmOk K H v f ∧ TB ts H ∧ RetV (.bl (famB f)) H Q
theorem ok_is_family {cc pp : Addr} {ts : List Addr} {tMY : Tok} (D : DfC K mg "is_family" st_is_family ["thing"] cc) (B_is_family : GxR.TabB base mg cc pp) (hpp : pp ∈ ts) (m_len : mg "len" = none) (m_isinstance : mg "isinstance" = none) (m_tuple : mg "tuple" = none) (m_all : mg "all" = none) (c_MOST_YOUNG : mg "MOST_YOUNG" = some (.int 3 tMY)) (A_is_tuple_of : At P w K mg base "is_tuple_of" st_is_tuple_of 1 ["thing", "many"] (sp_is_tuple_of K ts)) (A_is_row_of : At P w K mg base "is_row_of" st_is_row_of 4 ["thing", "places"] (sp_is_row_of K ts)) (A_is_row : At P w K mg base "is_row" st_is_row 3 ["thing"] (sp_is_row K ts)) : At P w K mg base "is_family" st_is_family 6 ["thing"] (sp_is_family K ts) := by
  obtain ⟨f, fd, F, b, g, hcd⟩ := D
  obtain ⟨f_is_tuple_of, fd_is_tuple_of, F_is_tuple_of, b_is_tuple_of, g_is_tuple_of, G_is_tuple_of⟩ := A_is_tuple_of
  obtain ⟨f_is_row_of, fd_is_row_of, F_is_row_of, b_is_row_of, g_is_row_of, G_is_row_of⟩ := A_is_row_of
  obtain ⟨f_is_row, fd_is_row, F_is_row, b_is_row, g_is_row, G_is_row⟩ := A_is_row
  refine ⟨f, fd, F, b, g, okC F hcd sc_is_family (fun vs H Q E h => ?_) (fun A outer s H vs Q E hr h => ?_)⟩
  · obtain ⟨v, f, rfl, _⟩ := h
    rfl
  · obtain ⟨v, fm, rfl, hf, hT, q⟩ := h
    refine ⟨_, (pss_cons (ps_if (pt_not (pt_val (pe_call G_is_tuple_of (hr.mono (by decide)) (by rfl) g_is_tuple_of F_is_tuple_of.kp b_is_tuple_of .nil pass0 (pa_cons (pv 0) (pa_cons pe_int pa_nil)))))
      (pss_one (ps_ret pe_bl))
      pss_nil)
      (pss_cons (ps_asg (pv 0) (pg_tup (by rfl) (pgs_cons (pg_name (i := 1) sc_is_family.nd rfl (.inr rfl)) (pgs_cons (pg_name (i := 2) sc_is_family.nd rfl (.inl rfl)) (pgs_cons (pg_name (i := 3) sc_is_family.nd rfl (.inl rfl)) pgs_nil)))))
      (pss_cons (ps_if (PW.pt (pw_or (pt_not (pt_val (pe_call G_is_row (hr.mono (by decide)) (by rfl) g_is_row F_is_row.kp b_is_row .nil pass0 (pa_cons (pv 1) pa_nil)))) (pw_or1 (pt_not (pt_val (pe_call G_is_row_of (hr.mono (by decide)) (by rfl) g_is_row_of F_is_row_of.kp b_is_row_of .nil pass0 (pa_cons (pv 2) (pa_cons (pe_callB call_len_str (by rfl) m_len (by decide +kernel) (pa_cons (pv 1) pa_nil)) pa_nil))))))))
      (pss_one (ps_ret pe_bl))
      pss_nil)
      (pss_cons (ps_if (PW.pt (pw_or (pt_not (pt_val (pe_callB call_isi (by rfl) m_isinstance (by decide +kernel) (pa_cons (pv 3) (pa_cons (pe_bltn (v := .ty "tuple") (by rfl) m_tuple (by decide +kernel) rfl) pa_nil))))) (pw_or1 (pt_not (pt_chain op_le op_le pe_int (pe_callB call_len_seq (by rfl) m_len (by decide +kernel) (pa_cons (pv 3) pa_nil)) (pe_glob (v := .int 3) (by rfl) c_MOST_YOUNG ⟨_, rfl⟩))))))
      (pss_one (ps_ret pe_bl))
      pss_nil)
      (pss_one (ps_ret (Hid.pe_allG (own := [("row", 4)]) (gg := gName 4) hr rfl sc_is_family.nd (by rfl) m_all B_is_family rfl (pi_tup (pv 3)) (blkOk_by (N := ["thing", "one", "other", "young", "row"]) (sc := defScope st_is_family) (by decide +kernel)) (fun _ _ _ _ _ _ _ _ => (pg_name (i := 4) sc_is_family.nd rfl (.inl rfl))) (fun _ _ _ _ _ _ _ _ hr => (pe_call G_is_row_of (hr.mono (by decide)) (by rfl) g_is_row_of F_is_row_of.kp b_is_row_of .nil pass0 (pa_cons (pv 4) (pa_cons (pe_callB call_len_str (by rfl) m_len (by decide +kernel) (pa_cons (pv 1) pa_nil)) pa_nil))))))))))), ?_⟩
    have c3 : Ev (tCall (sp_is_tuple_of K ts) [] E0 (tCons (tVar 0) (tCons (tC (.int 3)) tNil))) _ H (.bl (is3 fm)) := ev_call (σ := [some v, none, none, none, none]) (ea_cons (ev_var rfl) (ea_cons ev_c ea_nil)) fun H1 e1 Q1 q1 E1 => ⟨v, fm, rfl, hf.ex e1, q1⟩
    cases fm with
    | non =>
      refine q_when (b := true) (et_not (et_B c3)) (fun hb H1 e1 => s_ret ev_c fun H2 e2 => q H2 (e1.trans e2)) (fun hb H1 e1 => absurd hb (by decide))
    | len n =>
      obtain ⟨h3, a, xs, rfl, ha, hn⟩ := hf
      refine q_when (b := true) (et_not (et_B c3)) (fun hb H1 e1 => s_ret ev_c fun H2 e2 => q H2 (e1.trans e2)) (fun hb H1 e1 => absurd hb (by decide))
    | three ox oy oz =>
      obtain ⟨a, x, y, z, rfl, ha, hx, hy, hz⟩ := hf
      refine q_when (b := false) (et_not (et_B c3)) (fun hb H1 e1 => absurd hb (by decide)) (fun hb H1 e1 => ?_)
      refine ⟨_, rfl, a, [x, y, z], rfl, st_of (e1 _ _ ha), rfl, x, [y, z], rfl, y, [z], rfl, z, [], rfl, rfl, ?_⟩
      have r1 : ∀ {σ : L2.St} {G : Hp}, σ[1]? = some (some x) → Ex H G → Ev (tCall (sp_is_row K ts) [] E0 (tCons (tVar 1) tNil)) σ G (.bl (wr ox nby)) := fun s0 g => ev_call (ea_cons (ev_var s0) ea_nil) fun H1 e1 Q1 q1 E1 => ⟨x, ox, rfl, hx.ex (g.trans e1), hT.ex (g.trans e1), q1⟩
      by_cases hw : wr ox nby = false
      · rw [bad_x hw] at q
        refine q_when (b := true) (et_is (et_or (b := false) (et_not (et_B (r1 rfl e1))) fun z => absurd z (by rw [hw]; decide)) (by rw [hw]; rfl)) (fun hb H2 e2 => s_ret ev_c fun H3 e3 => q H3 (e1.trans (e2.trans e3))) (fun hb H2 e2 => absurd hb (by decide))
      have hw' : wr ox nby = true := by simpa using hw
      cases ox with
      | none => cases hw'
      | some w1 =>
        obtain ⟨rfl, hw1⟩ := id hx
        have hlw : (tx w1).length = w1.length := by simp [tx, Str.length]
        have r2 : ∀ {σ : L2.St} {G : Hp}, σ[1]? = some (some (.str (tx w1))) → σ[2]? = some (some y) → Ex H G → Ev (tCall (sp_is_row_of K ts) [] E0 (tCons (tVar 2) (tCons (tCB (fun xs H Q => ∃ z, xs = [V.str z] ∧ z.length ≤ sizeLine ∧ Q (.int z.length) H) (tCons (tVar 1) tNil)) tNil))) σ G (.bl (rowO oy w1.length)) := fun s1 s2 g => ev_call (ea_cons (ev_var s2) (ea_cons (ev_is (ev_lenS (ev_var s1) (by omega)) (by rw [hlw])) ea_nil)) fun H1 e1 Q1 q1 E1 => ⟨y, oy, w1.length, rfl, hy.ex (g.trans e1), hT.ex (g.trans e1), q1⟩
        by_cases hw2 : rowO oy w1.length = false
        · rw [bad_y hw2] at q
          refine q_when (b := true) (et_is (et_or (et_not (et_B (r1 rfl e1))) fun _ => et_not (et_B (r2 rfl rfl e1))) (by rw [hw', hw2]; rfl)) (fun hb H2 e2 => s_ret ev_c fun H3 e3 => q H3 (e1.trans (e2.trans e3))) (fun hb H2 e2 => absurd hb (by decide))
        have hw2' : rowO oy w1.length = true := by simpa using hw2
        refine q_when (b := false) (et_is (et_or (et_not (et_B (r1 rfl e1))) fun _ => et_not (et_B (r2 rfl rfl e1))) (by rw [hw', hw2']; rfl)) (fun hb H2 e2 => absurd hb (by decide)) (fun hb H2 e2 => ?_)
        have e12 := e1.trans e2
        cases oz with
        | none =>
          rw [bad_z] at q
          obtain ⟨t, hk, ht⟩ := id hz
          refine q_when (b := true) (et_or (b := false) (et_not (et_B (ev_isi (ev_var rfl) (fun H1 e => ht H1 (e12.trans e)) hk))) fun z => absurd z (by decide)) (fun hb H3 e3 => s_ret ev_c fun H4 e4 => q H4 (e12.trans (e3.trans e4))) (fun hb H3 e3 => absurd hb (by decide))
        | some os =>
          obtain ⟨b, vs, rfl, hb0, hp⟩ := id hz
          have hvl : vs.length = os.length := paired_len hp
          have hlt : ∀ {G : Hp}, Ex H G → SqT K G b vs := fun g => st_of (g _ _ hb0)
          refine q_when (b := !decide (1 ≤ os.length ∧ os.length ≤ 3)) (et_is (et_or (et_not (et_B (ev_isi (b := true) (ev_var rfl) (fun H1 e => .base (.tup ((e12.trans e) _ _ hb0))) (by decide +kernel)))) fun _ => et_not (et_test (ev_chain (b := decide ((1 : Int) ≤ os.length)) (b' := decide ((os.length : Int) ≤ 3)) ev_c (ev_is (ev_lenT (ev_var rfl) (hlt e12)) (by rw [hvl])) rv_I0 (fun _ => ev_c) fun _ => rv_I0))) ?_) (fun hb H3 e3 => ?_) (fun hb H3 e3 => ?_)
          · show (!true || !(decide ((1 : Int) ≤ os.length) && decide ((os.length : Int) ≤ 3))) = _
            rw [Bool.not_true, Bool.false_or]
            congr 1
            by_cases h1 : 1 ≤ os.length <;> by_cases h2 : os.length ≤ 3 <;> simp [h1, h2] <;> omega
          · have : ¬ (1 ≤ os.length ∧ os.length ≤ 3) := of_decide_eq_false (of_not hb)
            rw [bad_l this] at q
            exact s_ret ev_c fun H4 e4 => q H4 (e12.trans (e3.trans e4))
          · have hd : decide (1 ≤ os.length ∧ os.length ≤ 3) = true := of_not' hb
            have hfb : famB (.three (some w1) oy (some os)) = os.all fun o => rowO o w1.length := by
              show (wr (some w1) nby && (rowO oy w1.length && (decide (1 ≤ os.length ∧ os.length ≤ 3) && os.all fun o => rowO o w1.length))) = _
              rw [hw', hw2', hd, Bool.true_and, Bool.true_and, Bool.true_and]
            rw [hfb] at q
            refine ⟨_, rfl, b, rfl, ⟨vs, hlt (e12.trans e3)⟩, hT.ex (e12.trans e3) _ hpp, gx_it (walk_tup (xs := vs)) (fun i H' => Ex H H' ∧ ((os.take i).all fun o => rowO o w1.length) = true) ⟨e12.trans e3, rfl⟩ (fun i H' _ hP => hlt hP.1) (fun i x H4 H4' hi hP hY => ?_) (fun H4 hP => ?_)⟩
            · obtain ⟨e4, hall⟩ := hP
              obtain ⟨rfl, hx4⟩ := hY
              obtain ⟨o, ho, hth⟩ := paired_get hp i x hx4
              refine ⟨rfl, c_call (ea_cons (ev_var rfl) (ea_cons (ev_is (ev_lenS (ev_var rfl) (by omega)) (by rw [hlw])) ea_nil)) fun H5 e5 => ⟨x, o, w1.length, rfl, hth.ex (e4.trans e5), hT.ex (e4.trans e5), fun H6 e6 => ⟨_, rfl, fun hb2 => ⟨e4.trans (e5.trans e6), ?_⟩, fun hb2 => ?_⟩⟩⟩
              · rw [List.take_add_one, ho]
                show ((os.take i ++ [o]).all _) = true
                rw [List.all_append, hall, Bool.true_and]
                show (rowO o w1.length && true) = true
                rw [Bool.and_true]
                exact hb2
              · have hf : (os.all fun o => rowO o w1.length) = false := by
                  rw [Bool.eq_false_iff]
                  intro ha
                  exact hb2 (List.all_eq_true.mp ha o (List.mem_of_getElem? ho))
                rw [hf] at q
                exact q _ (e4.trans (e5.trans e6))
            · obtain ⟨e4, hall⟩ := hP
              rw [List.take_of_length_le (by omega)] at hall
              rw [hall] at q
              exact q H4 e4
end
end Hid

namespace Hid
open PySem PySem.Spec PyProof.Rows L2 Evl
def bitc (x : Int) (k : Nat) : Nat := if x / 2 ^ k % 2 = 0 then 110 else 121
def anyH (x : Int) (n : Nat) : Str := tx ((List.range n).map (bitc x))
abbrev rJoin (K : PySem.W.Frag) : V → List V → Hp → VK → Prop := fun x xs H Q => ∃ a p, ∃ ys : List Str, x = .str a ∧ xs = [.ref p] ∧ (SqL K H p (ys.map V.str) ∨ SqT K H p (ys.map V.str)) ∧ (ys.map (·.length)).sum + ys.length * a.length ≤ 16777216 ∧ Q (.str (Txt.join a ys)) H
theorem ev_join {K : PySem.W.Frag} {te : TE} {σ : L2.St} {H : Hp} {l : List Nat} (h : EvL te σ H (vs1 l)) (hl : l.length ≤ 1000000) : Ev (tM1 (rJoin K) (tC (.str (tx []))) te) σ H (.str (tx l)) := fun H1 e Q q =>
  ⟨⟨_, rfl⟩, h H1 e _ fun p H2 hp e2 h2 => r_join (K := K) (Q := Q) (sq_of h2) hl (q H2 e2)⟩
theorem halfN_bits (x : Int) (n : Nat) : HalfN n ((List.range n).map (bitc x)) := ⟨by rw [List.length_map, List.length_range], fun c hc => by
  obtain ⟨k, _, rfl⟩ := List.mem_map.mp hc
  unfold bitc
  split
  · exact .inl rfl
  · exact .inr rfl⟩
theorem tx_sn (a : List Nat) (c : Nat) : tx a ++ (⟨#[c]⟩ : Str) = tx (a ++ [c]) := by
  show (⟨a.toArray ++ #[c]⟩ : Str) = ⟨(a ++ [c]).toArray⟩
  simp
theorem tx_app (a b : List Nat) : tx a ++ tx b = tx (a ++ b) := by
  show (⟨a.toArray ++ b.toArray⟩ : Str) = ⟨(a ++ b).toArray⟩
  simp
theorem cutS_take (z : List Nat) (k : Nat) (h : k ≤ z.length) : cutS (tx z) none (some (k : Int)) = tx (z.take k) := by
  unfold cutS
  rw [HT.sIx_nat]
  have : (tx z).length = z.length := by simp [tx, Str.length]
  rw [this, Nat.min_eq_left h]
  show (⟨((tx z).cps.toList.drop 0 |>.take (k - 0)).toArray⟩ : Str) = _
  simp [tx]
theorem cutS_drop (z : List Nat) (k : Nat) : cutS (tx z) (some (k : Int)) none = tx (z.drop k) := by
  unfold cutS
  rw [HT.sIx_nat]
  have : (tx z).length = z.length := by simp [tx, Str.length]
  rw [this]
  show (⟨((tx z).cps.toList.drop (min k z.length) |>.take (z.length - min k z.length)).toArray⟩ : Str) = _
  rw [show (tx z).cps.toList = z by simp [tx]]
  by_cases h : k ≤ z.length
  · rw [Nat.min_eq_left h, List.take_of_length_le (by rw [List.length_drop]; exact Nat.le_refl _)] <;> rfl
  · rw [Nat.min_eq_right (by omega), Nat.sub_self, List.drop_eq_nil_of_le (by omega : z.length ≤ k)] <;> rfl
section
variable {P : Program} {w : World} {K : PySem.W.Frag} {mg : Str → Option Value} {base : Heap}
def sp__law_any_half (K : PySem.W.Frag) (ts : List Addr) : Sp := fun vs H Q _ => ∃ (x : Int) (n : Nat), vs = [.int x, .int n] ∧ n ≤ 1000 ∧ RetV (.str (anyH x n)) H Q
theorem ok__law_any_half {ts : List Addr} (D : Df K mg "_law_any_half" st__law_any_half ["_law_x", "_law_places"]) (m_range : mg "range" = none) : At P w K mg base "_law_any_half" st__law_any_half 1 ["_law_x", "_law_places"] (sp__law_any_half K ts) := by
  obtain ⟨f, fd, F, b, g⟩ := D
  refine ⟨f, fd, F, b, g, F.ok sc__law_any_half (fun vs H Q E h => ?_) (fun cdv A outer s H vs Q E hr h => ?_)⟩
  · obtain ⟨x, n, rfl, _⟩ := h
    rfl
  · obtain ⟨x, n, rfl, hn, q⟩ := h
    refine ⟨_, (pss_one (ps_ret (pe_join pe_str (pe_lc (own := [("_law_place", 2)]) (g := gName 2) (by rfl) sc__law_any_half.nd (pi_range1 (by rfl) m_range (pa_cons (pv 1) pa_nil)) (blkOk_by (N := ["_law_x", "_law_places", "_law_place"]) (sc := defScope st__law_any_half) (by decide +kernel)) (fun _ _ _ _ _ => (pg_name (i := 2) sc__law_any_half.nd rfl (.inl rfl))) (fun _ _ _ _ _ => pts_nil) (fun _ _ _ _ _ => (pe_ix ix_str pe_str (pe_op op_andM (pe_op op_shr (pv 0) (pv 2)) pe_int) (fun _ _ => rfl))))))), ?_⟩
    refine ⟨⟨_, rfl⟩, (el_lcR1 (n := (n : Int)) (fun _ => true) (fun k => .str (sg1 (bitc x k))) (ea_cons (ev_var rfl) ea_nil) ⟨by omega, by omega⟩ (fun y => rfl) (fun i H1 e1 hi => et_yes) (fun i H1 e1 hi _ => ?_)) _ (Ex.refl _) _ fun p H2 hp e2 h2 => ?_⟩
    · refine ev_op ev_c (ev_op (ev_op (ev_var rfl) (ev_var rfl) (rv_I (by omega))) ev_c (rv_val fun Hx ex Qx qx => ⟨_, 1, rfl, rfl, qx⟩)) (rv_ixS (by decide) ?_)
      show atI [110, 121] (x / 2 ^ ((i : Int)).toNat % 2 ^ 1) = some (bitc x i)
      rw [Int.toNat_natCast]
      unfold bitc
      have h0 := Int.emod_two_eq (x / 2 ^ i)
      rw [show (2 : Int) ^ 1 = 2 by decide]
      rcases h0 with h0 | h0 <;> rw [h0] <;> rfl
    · rw [given_true, Int.toNat_natCast] at h2
      refine r_join (l := (List.range n).map (bitc x)) (sq_of ?_) (by rw [List.length_map, List.length_range]; omega) (q H2 e2)
      rw [h2]
      show _ = some (HO.lst (List.map _ _))
      rw [List.map_map]
      rfl
def sp__law_mark (K : PySem.W.Frag) (ts : List Addr) : Sp := fun vs H Q _ => ∃ c d : Nat, vs = [.str (sg1 c), .str (sg1 d)] ∧ RetV (.str (sg1 (rb c d))) H Q
theorem ok__law_mark {ts : List Addr} (D : Df K mg "_law_mark" st__law_mark ["_law_one", "_law_other"]) : At P w K mg base "_law_mark" st__law_mark 1 ["_law_one", "_law_other"] (sp__law_mark K ts) := by
  obtain ⟨f, fd, F, b, g⟩ := D
  refine ⟨f, fd, F, b, g, F.ok sc__law_mark (fun vs H Q E h => ?_) (fun cdv A outer s H vs Q E hr h => ?_)⟩
  · obtain ⟨c, d, rfl, _⟩ := h
    rfl
  · obtain ⟨c, d, rfl, q⟩ := h
    refine ⟨_, (pss_cons (ps_if (pt_cmpR op_eq (pv 0) (pv 1) (nomark _))
      (pss_one (ps_ret (pv 0)))
      pss_nil)
      (pss_one (ps_ret pe_str))), ?_⟩
    refine q_when (et_is (et_test (ev_op (ev_var rfl) (ev_var rfl) (rv_eq rfl))) (str1_dec c d)) (fun hb H1 e1 => ?_) (fun hb H1 e1 => ?_)
    · refine s_ret (ev_is (ev_var rfl) ?_) fun H2 e2 => q H2 (e1.trans e2)
      unfold rb; rw [if_pos (of_decide_eq_true hb)]
    · refine s_ret (ev_is ev_c ?_) fun H2 e2 => q H2 (e1.trans e2)
      unfold rb; rw [if_neg (of_decide_eq_false hb)]; rfl
def sp__law_row_of (K : PySem.W.Frag) (ts : List Addr) : Sp := fun vs H Q _ => ∃ a o : List Nat, vs = [.str (tx a), .str (tx o)] ∧ (a.length = o.length ∧ o.length ≤ 1000) ∧ RetV (.str (tx (rowBy a o))) H Q
theorem ok__law_row_of {ts : List Addr} (D : Df K mg "_law_row_of" st__law_row_of ["_law_one", "_law_other"]) (m_range : mg "range" = none) (m_len : mg "len" = none) (A__law_mark : At P w K mg base "_law_mark" st__law_mark 1 ["_law_one", "_law_other"] (sp__law_mark K ts)) : At P w K mg base "_law_row_of" st__law_row_of 2 ["_law_one", "_law_other"] (sp__law_row_of K ts) := by
  obtain ⟨f, fd, F, b, g⟩ := D
  obtain ⟨f__law_mark, fd__law_mark, F__law_mark, b__law_mark, g__law_mark, G__law_mark⟩ := A__law_mark
  refine ⟨f, fd, F, b, g, F.ok sc__law_row_of (fun vs H Q E h => ?_) (fun cdv A outer s H vs Q E hr h => ?_)⟩
  · obtain ⟨a, o, rfl, _⟩ := h
    rfl
  · obtain ⟨a, o, rfl, hl, q⟩ := h
    refine ⟨_, (pss_one (ps_ret (pe_join pe_str (pe_lc (own := [("_law_k", 2)]) (g := gName 2) (by rfl) sc__law_row_of.nd (pi_range1 (by rfl) m_range (pa_cons (pe_callB call_len_str (by rfl) m_len (by decide +kernel) (pa_cons (pv 0) pa_nil)) pa_nil)) (blkOk_by (N := ["_law_one", "_law_other", "_law_k"]) (sc := defScope st__law_row_of) (by decide +kernel)) (fun _ _ _ _ _ => (pg_name (i := 2) sc__law_row_of.nd rfl (.inl rfl))) (fun _ _ _ _ _ => pts_nil) (fun _ _ _ _ _ => (pe_call G__law_mark (hr.mono (by decide)) (by rfl) g__law_mark F__law_mark.kp b__law_mark .nil pass0 (pa_cons (pe_ix ix_str (pv 0) (pv 2) (fun _ _ => rfl)) (pa_cons (pe_ix ix_str (pv 1) (pv 2) (fun _ _ => rfl)) pa_nil)))))))), ?_⟩
    have hla : (tx a).length = a.length := by simp [tx, Str.length]
    have hlo : (tx o).length = o.length := by simp [tx, Str.length]
    refine ⟨⟨_, rfl⟩, (el_lcR1 (n := (a.length : Int)) (fun _ => true) (fun k => .str (sg1 ((rowBy a o).getD k 0))) (ea_cons (ev_is (ev_lenS (ev_var rfl) (by omega)) (by rw [hla])) ea_nil) ⟨by omega, by omega⟩ (fun y => rfl) (fun i H1 e1 hi => et_yes) (fun i H1 e1 hi _ => ?_)) _ (Ex.refl _) _ fun p H2 hp e2 h2 => ?_⟩
    · have hia : i < a.length := by omega
      have hio : i < o.length := by omega
      have aa : atI (tx a).cps.toList (i : Int) = some a[i] := atI_nat (by simp [tx, hia])
      have ao : atI (tx o).cps.toList (i : Int) = some o[i] := atI_nat (by simp [tx, hio])
      have hg : (rowBy a o).getD i 0 = rb a[i] o[i] := by rw [List.getD_eq_getElem?_getD]; unfold rowBy; rw [List.getElem?_zipWith, List.getElem?_eq_getElem hia, List.getElem?_eq_getElem hio]; rfl
      exact ev_call (ea_cons (ev_op (ev_var rfl) (ev_var rfl) (rv_ixS (by omega) aa)) (ea_cons (ev_op (ev_var rfl) (ev_var rfl) (rv_ixS (by omega) ao)) ea_nil)) fun G g Q1 q1 E1 => ⟨a[i], o[i], rfl, by rw [hg] at q1; exact q1⟩
    · have hrl : (rowBy a o).length = a.length := by unfold rowBy; rw [List.length_zipWith]; omega
      rw [given_true, Int.toNat_natCast] at h2
      refine r_join (l := rowBy a o) (sq_of ?_) (by omega) (q H2 e2)
      rw [h2]
      show _ = some (HO.lst (List.map _ _))
      conv => rhs; rw [← map_range_getD' (rowBy a o) 0]
      rw [List.map_map, hrl]
      rfl
def sp__law_family (K : PySem.W.Frag) (ts : List Addr) : Sp := fun vs H Q _ => ∃ (a : Addr) (xs : List Int) (mo pl : Nat), vs = [.ref a, .int (mo : Nat), .int (pl : Nat)] ∧ SqL K H a (xs.map V.int) ∧ (14 ≤ xs.length ∧ (∀ x ∈ xs, 0 ≤ x) ∧ 1 ≤ mo ∧ mo ≤ 8 ∧ 1 ≤ pl ∧ pl ≤ 1000) ∧ ∀ (t b : Addr) (n : Nat) (r1 r2 : List Nat) (ys : List (List Nat)) H2, Ex H H2 → FamAt H2 t b n r1 r2 ys → Q (.ref t) H2
theorem ok__law_family {ts : List Addr} (D : Df K mg "_law_family" st__law_family ["_law_xs", "_law_most", "_law_plain"]) (m_int : mg "int" = none) (m_range : mg "range" = none) (m_tuple : mg "tuple" = none) (A__law_any_half : At P w K mg base "_law_any_half" st__law_any_half 1 ["_law_x", "_law_places"] (sp__law_any_half K ts)) (A__law_row_of : At P w K mg base "_law_row_of" st__law_row_of 2 ["_law_one", "_law_other"] (sp__law_row_of K ts)) : At P w K mg base "_law_family" st__law_family 3 ["_law_xs", "_law_most", "_law_plain"] (sp__law_family K ts) := by
  obtain ⟨f, fd, F, b, g⟩ := D
  obtain ⟨f__law_any_half, fd__law_any_half, F__law_any_half, b__law_any_half, g__law_any_half, G__law_any_half⟩ := A__law_any_half
  obtain ⟨f__law_row_of, fd__law_row_of, F__law_row_of, b__law_row_of, g__law_row_of, G__law_row_of⟩ := A__law_row_of
  refine ⟨f, fd, F, b, g, F.ok sc__law_family (fun vs H Q E h => ?_) (fun cdv A outer s H vs Q E hr h => ?_)⟩
  · obtain ⟨a, xs, mo, pl, rfl, _⟩ := h
    rfl
  · obtain ⟨a, xs, mo, pl, rfl, hS, ⟨hxl, hxp, hm1, hm8, hp1, hp2⟩, q⟩ := h
    refine ⟨_, (pss_cons (ps_set (i := 3) sc__law_family.nd rfl (.inl rfl) (pe_op op_add pe_int (pe_op op_mod (pe_ix ix_list (pv 0) pe_int (fun _ _ => rfl)) (pv 1))))
      (pss_cons (ps_set (i := 4) sc__law_family.nd rfl (.inr rfl) (pe_lst (pa_cons (pe_call G__law_any_half (hr.mono (by decide)) (by rfl) g__law_any_half F__law_any_half.kp b__law_any_half .nil pass0 (pa_cons (pe_ix ix_list (pv 0) pe_int (fun _ _ => rfl)) (pa_cons (pv 3) pa_nil))) (pa_cons (pe_call G__law_any_half (hr.mono (by decide)) (by rfl) g__law_any_half F__law_any_half.kp b__law_any_half .nil pass0 (pa_cons (pe_ix ix_list (pe_lst (pa_cons (pe_ix ix_list (pv 0) pe_int (fun _ _ => rfl)) (pa_cons (pe_ix ix_list (pv 0) pe_int (fun _ _ => rfl)) pa_nil))) (pe_callTy call_int1 (by rfl) m_int (by decide +kernel) (pa_cons (pe_cmpR op_eq (pe_op op_mod (pe_ix ix_list (pv 0) pe_int (fun _ _ => rfl)) pe_int) pe_int (nomark _)) pa_nil)) (fun _ _ => rfl)) (pa_cons (pv 3) pa_nil))) pa_nil))))
      (pss_cons (ps_set (i := 5) sc__law_family.nd rfl (.inr rfl) (pe_lst (pa_cons (pe_call G__law_any_half (hr.mono (by decide)) (by rfl) g__law_any_half F__law_any_half.kp b__law_any_half .nil pass0 (pa_cons (pe_ix ix_list (pv 0) pe_int (fun _ _ => rfl)) (pa_cons (pv 3) pa_nil))) (pa_cons (pe_call G__law_any_half (hr.mono (by decide)) (by rfl) g__law_any_half F__law_any_half.kp b__law_any_half .nil pass0 (pa_cons (pe_ix ix_list (pe_lst (pa_cons (pe_ix ix_list (pv 0) pe_int (fun _ _ => rfl)) (pa_cons (pe_ix ix_list (pv 0) pe_int (fun _ _ => rfl)) pa_nil))) (pe_callTy call_int1 (by rfl) m_int (by decide +kernel) (pa_cons (pe_cmpR op_eq (pe_op op_mod (pe_ix ix_list (pv 0) pe_int (fun _ _ => rfl)) pe_int) pe_int (nomark _)) pa_nil)) (fun _ _ => rfl)) (pa_cons (pv 3) pa_nil))) pa_nil))))
      (pss_cons (ps_set (i := 6) sc__law_family.nd rfl (.inl rfl) (pe_lst pa_nil))
      (pss_cons (ps_for PassesOwn.never rfl (pi_range1 (by rfl) m_range (pa_cons (pe_op op_add pe_int (pe_op op_mod (pe_ix ix_list (pv 0) pe_int (fun _ _ => rfl)) pe_int)) pa_nil)) (pg_name (i := 7) sc__law_family.nd rfl (.inr rfl))
      (pss_cons (ps_set (i := 8) sc__law_family.nd rfl (.inl rfl) (pe_join pe_str (pe_lc (own := [("_law_place", 11)]) (g := gName 11) (by rfl) sc__law_family.nd (pi_range1 (by rfl) m_range (pa_cons (pv 3) pa_nil)) (blkOk_by (N := ["_law_xs", "_law_most", "_law_plain", "_law_places", "_law_one", "_law_other", "_law_young", "_law_k", "_law_first", "_law_second", "_law_at", "_law_place"]) (sc := defScope st__law_family) (by decide +kernel)) (fun _ _ _ _ _ => (pg_name (i := 11) sc__law_family.nd rfl (.inl rfl))) (fun _ _ _ _ _ => pts_nil) (fun _ _ _ _ _ => (pe_ix ix_str (pe_ix (show IxR _ (rIxL K) from ix_list) (pv 4) (pe_op op_andM (pe_op op_shr (pe_ix (show IxR _ (rIxL K) from ix_list) (pv 0) (pe_op op_add pe_int (pv 7)) (fun _ _ => rfl)) (pe_op op_fdiv (pv 11) (pv 2))) pe_int) (fun _ _ => rfl)) (pv 11) (fun _ _ => rfl))))))
      (pss_cons (ps_set (i := 9) sc__law_family.nd rfl (.inl rfl) (pe_join pe_str (pe_lc (own := [("_law_place", 11)]) (g := gName 11) (by rfl) sc__law_family.nd (pi_range1 (by rfl) m_range (pa_cons (pv 3) pa_nil)) (blkOk_by (N := ["_law_xs", "_law_most", "_law_plain", "_law_places", "_law_one", "_law_other", "_law_young", "_law_k", "_law_first", "_law_second", "_law_at", "_law_place"]) (sc := defScope st__law_family) (by decide +kernel)) (fun _ _ _ _ _ => (pg_name (i := 11) sc__law_family.nd rfl (.inl rfl))) (fun _ _ _ _ _ => pts_nil) (fun _ _ _ _ _ => (pe_ix ix_str (pe_ix (show IxR _ (rIxL K) from ix_list) (pv 5) (pe_op op_andM (pe_op op_shr (pe_ix (show IxR _ (rIxL K) from ix_list) (pv 0) (pe_op op_add pe_int (pv 7)) (fun _ _ => rfl)) (pe_op op_fdiv (pv 11) (pv 2))) pe_int) (fun _ _ => rfl)) (pv 11) (fun _ _ => rfl))))))
      (pss_one (ps_expr (pe_bm PySem.F.plainAttrs_list PySem.F.slot_list_append PySem.F.type_list_append mt_append (pv 6) (pa_cons (pe_call G__law_row_of (hr.mono (by decide)) (by rfl) g__law_row_of F__law_row_of.kp b__law_row_of .nil pass0 (pa_cons (pv 8) (pa_cons (pv 9) pa_nil))) pa_nil)))))))
      (pss_cut (ps_if (pt_cmpR op_eq (pe_op op_mod (pe_ix ix_list (pv 0) pe_int (fun _ _ => rfl)) pe_int) pe_int (nomark _))
      (pss_cons (ps_set (i := 10) sc__law_family.nd rfl (.inl rfl) (pe_op op_mod (pe_ix ix_list (pv 0) pe_int (fun _ _ => rfl)) (pv 3)))
      (pss_one (ps_asg (pe_op op_add_str (pe_op op_add_str (pe_slice sl_str (pe_ix ix_list (pv 6) pe_int (fun _ _ => rfl)) po_none (po_some (pv 10))) (pe_ix ix_str pe_str (pe_op op_mod (pe_op op_fdiv (pe_ix ix_list (pv 0) pe_int (fun _ _ => rfl)) pe_int) pe_int) (fun _ _ => rfl))) (pe_slice sl_str (pe_ix ix_list (pv 6) pe_int (fun _ _ => rfl)) (po_some (pe_op op_add (pv 10) pe_int)) po_none)) (pg_sub (pv 6) pe_int set_list))))
      pss_nil)
      (pss_one (ps_ret (pe_tup (pa_cons (pe_call G__law_row_of (hr.mono (by decide)) (by rfl) g__law_row_of F__law_row_of.kp b__law_row_of .nil pass0 (pa_cons (pe_ix ix_list (pv 4) pe_int (fun _ _ => rfl)) (pa_cons (pe_ix ix_list (pv 4) pe_int (fun _ _ => rfl)) pa_nil))) (pa_cons (pe_call G__law_row_of (hr.mono (by decide)) (by rfl) g__law_row_of F__law_row_of.kp b__law_row_of .nil pass0 (pa_cons (pe_ix ix_list (pv 5) pe_int (fun _ _ => rfl)) (pa_cons (pe_ix ix_list (pv 5) pe_int (fun _ _ => rfl)) pa_nil))) (pa_cons (pe_callTy call_tuple_of (by rfl) m_tuple (by decide +kernel) (pa_cons (pv 6) pa_nil)) pa_nil)))))))))))), ?_⟩
    have ax : ∀ (j : Nat) (hj : j < 14), atI (xs.map V.int) (j : Int) = some (.int (xs.getD j 0)) := fun j hj => atI_nat (by rw [List.getElem?_map, List.getD_eq_getElem?_getD, List.getElem?_eq_getElem (by omega)]; rfl)
    obtain ⟨n, hn, hn1, hn8⟩ : ∃ n : Nat, (1 : Int) + xs.getD 0 0 % (mo : Int) = (n : Nat) ∧ 1 ≤ n ∧ n ≤ 8 := ⟨(1 + xs.getD 0 0 % (mo : Int)).toNat, by
      have := Int.emod_nonneg (xs.getD 0 0) (show (mo : Int) ≠ 0 by omega)
      have := Int.emod_lt_of_pos (xs.getD 0 0) (show (0 : Int) < mo by omega)
      omega⟩
    refine q_asg (v := .int (n : Nat)) (ev_is (ev_op ev_c (ev_op (ev_op (ev_var rfl) ev_c (rv_ixL hS (ax 0 (by decide)))) (ev_var rfl) (rv_I (by show (0 : Int) < mo; omega))) rv_I0) (congrArg V.int hn)) fun H1 e1 => ?_
    -- the two halves of each
    have two : ∀ {σ : L2.St} {G : Hp} (j : Nat) (hj : j + 1 < 14), Ex H G → σ[0]? = some (some (.ref a)) → σ[3]? = some (some (.int (n : Nat))) → ∃ h1 h2 : List Nat, HalfN n h1 ∧ HalfN n h2 ∧ EvL (tLst (tCons (tCall (sp__law_any_half K ts) [] E0 (tCons (tOp (rIxL K) (tVar 0) (tC (.int (j : Nat)))) (tCons (tVar 3) tNil))) (tCons (tCall (sp__law_any_half K ts) [] E0 (tCons (tOp (rIxL K) (tLst (tCons (tOp (rIxL K) (tVar 0) (tC (.int ((j : Int) + 1)))) (tCons (tOp (rIxL K) (tVar 0) (tC (.int (j : Nat)))) tNil))) (tCB (fun xs H Q => (∃ i, xs = [V.int i] ∧ Q (.int i) H) ∨ ∃ b, xs = [V.bl b] ∧ Q (.int (if b = true then 1 else 0)) H) (tCons (tOp rEq (tOp (rI (fun x j => 0 < j) fun i j => V.int (i % j)) (tOp (rIxL K) (tVar 0) (tC (.int ((j : Int) + 1)))) (tC (.int 5))) (tC (.int 0))) tNil))) (tCons (tVar 3) tNil))) tNil))) σ G [.str (tx h1), .str (tx h2)] := fun {σ G} j hj g s0 s3 => by
      have a1 := ax j (by omega)
      have a2 := ax (j + 1) hj
      rw [Int.natCast_add] at a2
      have ha : ∀ {tt : TE} {x : Int} {σ : L2.St} {G : Hp}, σ[3]? = some (some (.int (n : Nat))) → Ev tt σ G (.int x) → Ev (tCall (sp__law_any_half K ts) [] E0 (tCons tt (tCons (tVar 3) tNil))) σ G (.str (tx ((List.range n).map (bitc x)))) := fun {tt x σ G} s3 h => ev_call (ea_cons h (ea_cons (ev_var s3) ea_nil)) fun G1 g1 Q1 q1 E1 => ⟨x, n, rfl, by omega, q1⟩
      obtain ⟨x2, hx2⟩ : ∃ x2 : Int, atI [V.int (xs.getD (j + 1) 0), V.int (xs.getD j 0)] (if decide (V.int (xs.getD (j + 1) 0 % 5) = V.int 0) = true then 1 else 0) = some (.int x2) := by
        split
        · exact ⟨_, rfl⟩
        · exact ⟨_, rfl⟩
      refine ⟨(List.range n).map (bitc (xs.getD j 0)), (List.range n).map (bitc x2), halfN_bits _ _, halfN_bits _ _, el_lst (ea_cons (ha s3 (ev_op (ev_var s0) ev_c (rv_ixL (ex_l g hS) a1))) (ea_cons (ha s3 (ev_opL1 (el_lst (ea_cons (ev_op (ev_var s0) ev_c (rv_ixL (ex_l g hS) a2)) (ea_cons (ev_op (ev_var s0) ev_c (rv_ixL (ex_l g hS) a1)) ea_nil)) (by show 2 ≤ 100000; decide)) (fun G1 g1 => ev_cb (ea_cons (ev_op (ev_op (ev_op (ev_var s0) ev_c (rv_ixL (ex_l (g.trans g1) hS) a2)) ev_c (rv_I (by show (0 : Int) < 5; decide))) ev_c (rv_eq rfl)) ea_nil) fun G2 g2 Q2 q2 => .inr ⟨_, rfl, q2 G2 (Ex.refl _)⟩) (fun p G1 hp g1 => rv_ixL (sq_of hp) hx2))) ea_nil)) (by show 2 ≤ 100000; decide)⟩
    obtain ⟨u1, u2, hu1, hu2, ev1⟩ := two (σ := [some (.ref a), some (.int (mo : Nat)), some (.int (pl : Nat)), some (.int (n : Nat)), none, none, none, none, none, none, none, none]) 1 (by decide) e1 rfl rfl
    refine q_asgL ev1 fun po H2 npo e2 h2 => ?_
    obtain ⟨w1, w2, hw1, hw2, ev2⟩ := two (σ := [some (.ref a), some (.int (mo : Nat)), some (.int (pl : Nat)), some (.int (n : Nat)), some (.ref po), none, none, none, none, none, none, none]) 3 (by decide) (e1.trans e2) rfl rfl
    refine q_asgL ev2 fun pr H3 npr e3 h3 => ?_
    refine q_asgL (el_lst ea_nil (by decide)) fun l H4 nl e4 h4 => ?_
    have e14 : Ex H H4 := e1.trans (e2.trans (e3.trans e4))
    have h2' : H3 po = some (.lst [.str (tx u1), .str (tx u2)]) := e3 _ _ h2
    obtain ⟨m, hm, hm3⟩ : ∃ m : Nat, (1 : Int) + xs.getD 5 0 % 3 = (m : Nat) ∧ 1 ≤ m ∧ m ≤ 3 := ⟨(1 + xs.getD 5 0 % 3).toNat, by
      have := Int.emod_nonneg (xs.getD 5 0) (show (3 : Int) ≠ 0 by decide)
      have := Int.emod_lt_of_pos (xs.getD 5 0) (show (0 : Int) < 3 by decide)
      omega⟩
    refine q_forR1 (n := (m : Int)) (ea_cons (ev_is (ev_op ev_c (ev_op (ev_op (ev_var rfl) ev_c (rv_ixL (ex_l e14 hS) (ax 5 (by decide)))) ev_c (rv_I (by show (0 : Int) < 3; decide))) rv_I0) (congrArg V.int hm)) ea_nil) ⟨by omega, by omega⟩ (fun i σ' H' => ∃ (ys : List (List Nat)) (y7 y8 y9 : Option V), σ' = [some (.ref a), some (.int (mo : Nat)), some (.int (pl : Nat)), some (.int (n : Nat)), some (.ref po), some (.ref pr), some (.ref l), y7, y8, y9, none, none] ∧ Ex H3 H' ∧ ys.length = i ∧ (∀ y ∈ ys, RowL y ∧ y.length = n) ∧ H' l = some (.lst (ys.map fun y => .str (tx y)))) (fun H5 e5 => ⟨[], _, _, _, rfl, e4.trans e5, rfl, fun _ z => (nomatch z), e5 _ _ h4⟩) (fun i σ' H5 hi hP => ?_) (fun σ' H5 hP => ?_)
    · obtain ⟨ys, y7, y8, y9, rfl, e5, hyl, hyr, h5⟩ := hP
      have pick : ∀ (j : Nat) (hj : j ≤ 9) (s : Nat) (p : Addr) (g1 g2 : List Nat) (σ : L2.St) (G : Hp), HalfN n g1 → HalfN n g2 → H3 p = some (.lst [.str (tx g1), .str (tx g2)]) → Ex H3 G → σ[0]? = some (some (.ref a)) → σ[2]? = some (some (.int (pl : Nat))) → σ[3]? = some (some (.int (n : Nat))) → σ[7]? = some (some (.int (i : Nat))) → σ[s]? = some (some (.ref p)) → σ.length = 12 → s < 10 →
          ∃ z : List Nat, HalfN n z ∧ EvL (tLc (iRng1 (tCons (tVar 3) tNil)) (gName 11) tYes (tOp rIxS (tOp (rIxL K) (tVar s) (tOp (fun x y H Q => ∃ (i : Int) (k : Nat), x = .int i ∧ y = .int (2 ^ k - 1) ∧ Q (.int (i % 2 ^ k)) H) (tOp (rI (fun _ j => 0 ≤ j) fun i j => .int (i / 2 ^ j.toNat)) (tOp (rIxL K) (tVar 0) (tOp (rI0 fun i j => V.int (i + j)) (tC (.int (j : Nat))) (tVar 7))) (tOp (rI CDiv fun i j => .int (i / j)) (tVar 11) (tVar 2))) (tC (.int 1)))) (tVar 11)) [11]) σ G (vs1 z) := fun j hj s p g1 g2 σ G k1 k2 hp g s0 s2 s3 s7 ss sl hs => by
        have aj := ax (j + i) (by omega)
        rw [Int.natCast_add] at aj
        have ix : ∀ k : Nat, ((xs.getD (j + i) 0) / 2 ^ ((k : Int) / (pl : Int)).toNat % 2 ^ 1 = 0 ∨ (xs.getD (j + i) 0) / 2 ^ ((k : Int) / (pl : Int)).toNat % 2 ^ 1 = 1) := fun k => by
          rw [show (2 : Int) ^ 1 = 2 by decide]
          exact Int.emod_two_eq _
        have sel : ∀ k : Nat, k < n → ∃ gg : List Nat, HalfN n gg ∧ atI [V.str (tx g1), V.str (tx g2)] ((xs.getD (j + i) 0) / 2 ^ ((k : Int) / (pl : Int)).toNat % 2 ^ 1) = some (.str (tx gg)) := fun k hk => by
          rcases ix k with z | z <;> rw [z]
          · exact ⟨g1, k1, rfl⟩
          · exact ⟨g2, k2, rfl⟩
        have ch : ∃ f : Nat → List Nat, ∀ k, k < n → HalfN n (f k) ∧ atI [V.str (tx g1), V.str (tx g2)] ((xs.getD (j + i) 0) / 2 ^ ((k : Int) / (pl : Int)).toNat % 2 ^ 1) = some (.str (tx (f k))) := ⟨fun k => if h : k < n then (sel k h).choose else [], fun k hk => by simp only [dif_pos hk]; exact (sel k hk).choose_spec⟩
        obtain ⟨f, hf⟩ := ch
        have w11 : wipe σ [11] = σ.set 11 none := rfl
        refine ⟨(List.range n).map fun k => (f k).getD k 110, ⟨by rw [List.length_map, List.length_range], fun c hc => ?_⟩, ?_⟩
        · obtain ⟨k, hk, rfl⟩ := List.mem_map.mp hc
          have hk' := List.mem_range.mp hk
          obtain ⟨⟨hl, hc2⟩, _⟩ := hf k hk'
          rw [List.getD_eq_getElem?_getD, List.getElem?_eq_getElem (by omega)]
          exact hc2 _ (List.getElem_mem _)
        · have r := el_lcR1 (n := (n : Int)) (σ := σ) (H := G) (j := 11) (vs := [11]) (t := tYes) (fun _ => true) (fun k => V.str (sg1 ((f k).getD k 110))) (ea_cons (ev_var s3) ea_nil) ⟨by omega, by omega⟩ (fun y => by rw [w11]; show ((σ.set 11 none).set 11 (some y)).set 11 none = _; rw [List.set_set, List.set_set]) (fun k H6 e6 hk => et_yes) (fun k H6 e6 hk _ => ?_) (te := tOp rIxS (tOp (rIxL K) (tVar s) (tOp (fun x y H Q => ∃ (i : Int) (k : Nat), x = .int i ∧ y = .int (2 ^ k - 1) ∧ Q (.int (i % 2 ^ k)) H) (tOp (rI (fun _ j => 0 ≤ j) fun i j => .int (i / 2 ^ j.toNat)) (tOp (rIxL K) (tVar 0) (tOp (rI0 fun i j => V.int (i + j)) (tC (.int (j : Nat))) (tVar 7))) (tOp (rI CDiv fun i j => .int (i / j)) (tVar 11) (tVar 2))) (tC (.int 1)))) (tVar 11))
          · rw [given_true, Int.toNat_natCast] at r
            show EvL _ σ G (List.map _ _)
            rw [List.map_map]
            exact r
          · have hk' : k < n := by omega
            obtain ⟨⟨hl, hc2⟩, hat⟩ := hf k hk'
            have g6 : Ex H3 H6 := g.trans e6
            have get : ∀ (q : Nat) (v : Option V), q < 11 → σ[q]? = some v → ((σ.set 11 none).set 11 (some (V.int (k : Int))))[q]? = some v := fun q v hq hv => by rw [List.getElem?_set_ne (by omega), List.getElem?_set_ne (by omega)]; exact hv
            have g11 : ((σ.set 11 none).set 11 (some (V.int (k : Int))))[11]? = some (some (V.int (k : Int))) := by rw [List.getElem?_set_self (by rw [List.length_set]; omega)]
            rw [w11]
            have e13 : Ex H H3 := e1.trans (e2.trans e3)
            refine ev_op (z := V.str (sg1 ((f k).getD k 110))) (ev_op (ev_var (get s _ (by omega) ss)) (ev_op (ev_op (ev_op (ev_var (get 0 _ (by decide) s0)) (ev_op ev_c (ev_var (get 7 _ (by decide) s7)) rv_I0) (rv_ixL (ex_l (e13.trans g6) hS) aj)) (ev_op (ev_var g11) (ev_var (get 2 _ (by decide) s2)) (rv_I ⟨by omega, by omega⟩)) (rv_I (by exact Int.ediv_nonneg (by omega) (by omega)))) ev_c (rv_val fun Hx ex Qx qx => ⟨_, 1, rfl, rfl, qx⟩)) (rv_ixL (sq_of (g6 _ _ hp)) hat)) (ev_var g11) (rv_ixS (by show (tx (f k)).cps.size ≤ 100000; simp [tx]; omega) (atI_nat ?_))
            show (tx (f k)).cps.toList[k]? = _
            rw [show (tx (f k)).cps.toList = f k by simp [tx], List.getD_eq_getElem?_getD, List.getElem?_eq_getElem (by omega)]
            rfl
      obtain ⟨z1, hz1, p1⟩ := pick 6 (by decide) 4 po u1 u2 ([some (.ref a), some (.int (mo : Nat)), some (.int (pl : Nat)), some (.int (n : Nat)), some (.ref po), some (.ref pr), some (.ref l), some (.int (i : Nat)), y8, y9, none, none] : L2.St) H5 hu1 hu2 h2' e5 rfl rfl rfl rfl rfl rfl (by decide)
      refine q_asg (ev_join p1 (by have := hz1.1; omega)) fun H6 e6 => ?_
      obtain ⟨z2, hz2, p2⟩ := pick 9 (by decide) 5 pr w1 w2 ([some (.ref a), some (.int (mo : Nat)), some (.int (pl : Nat)), some (.int (n : Nat)), some (.ref po), some (.ref pr), some (.ref l), some (.int (i : Nat)), some (.str (tx z1)), y9, none, none] : L2.St) H6 hw1 hw2 h3 (e5.trans e6) rfl rfl rfl rfl rfl rfl (by decide)
      refine q_asg (ev_join p2 (by have := hz2.1; omega)) fun H7 e7 => ?_
      have h57 : H7 l = some (.lst (ys.map fun y => .str (tx y))) := e7 _ _ (e6 _ _ h5)
      have hzl1 := hz1.1
      have hzl2 := hz2.1
      have hrl : (rowBy z1 z2).length = n := by unfold rowBy; rw [List.length_zipWith]; omega
      refine s_app (v := .str (tx (rowBy z1 z2))) h57 (ev_var rfl) (ev_call (ea_cons (ev_var rfl) (ea_cons (ev_var rfl) ea_nil)) fun G g Q1 q1 E1 => ⟨z1, z2, rfl, ⟨by omega, by omega⟩, q1⟩) (by rw [List.length_map]; omega) fun H8 e8 => ⟨ys ++ [rowBy z1 z2], _, _, _, rfl, (e5.trans (e6.trans (e7.trans e8))).mut nl, by rw [List.length_append, hyl]; rfl, fun y hy => ?_, ?_⟩
      · rcases List.mem_append.mp hy with h | h
        · exact hyr y h
        · rw [List.mem_singleton.mp h]
          exact ⟨⟨by omega, rowBy_nby z1 z2 hz1.2⟩, hrl⟩
      · rw [upd_same, List.map_append]
        rfl
    · obtain ⟨ys, y7, y8, y9, rfl, e5, hyl, hyr, h5⟩ := hP
      rw [Int.toNat_natCast] at hyl
      have e15 : Ex H H5 := (e1.trans (e2.trans e3)).trans e5
      refine q_cut (M := fun σ' H' => ∃ (ys : List (List Nat)) (y10 : Option V), σ' = [some (.ref a), some (.int (mo : Nat)), some (.int (pl : Nat)), some (.int (n : Nat)), some (.ref po), some (.ref pr), some (.ref l), y7, y8, y9, y10, none] ∧ Ex H3 H' ∧ ys.length = m ∧ (∀ y ∈ ys, RowL y ∧ y.length = n) ∧ H' l = some (.lst (ys.map fun y => .str (tx y)))) ?_ ?_
      · refine s_when (et_test (ev_op (ev_op (ev_op (ev_var rfl) ev_c (rv_ixL (ex_l e15 hS) (ax 12 (by decide)))) ev_c (rv_I (by show (0 : Int) < 6; decide))) ev_c (rv_eq rfl))) (fun hb H6 e6 => ?_) (fun hb H6 e6 => ⟨ys, _, rfl, e5.trans e6, hyl, hyr, e6 _ _ h5⟩)
        obtain ⟨at0, hat0, hatn⟩ : ∃ k : Nat, xs.getD 13 0 % (n : Int) = (k : Nat) ∧ k < n := ⟨(xs.getD 13 0 % (n : Int)).toNat, by
          have := Int.emod_nonneg (xs.getD 13 0) (show (n : Int) ≠ 0 by omega)
          have := Int.emod_lt_of_pos (xs.getD 13 0) (show (0 : Int) < n by omega)
          omega⟩
        refine q_asg (v := .int (at0 : Nat)) (ev_is (ev_op (ev_op (ev_var rfl) ev_c (rv_ixL (ex_l (e15.trans e6) hS) (ax 13 (by decide)))) (ev_var rfl) (rv_I (by show (0 : Int) < n; omega))) (congrArg V.int hat0)) fun H7 e7 => ?_
        obtain ⟨y0, yr, rfl⟩ : ∃ y0 yr, ys = y0 :: yr := by
          cases ys with
          | cons y0 yr => exact ⟨y0, yr, rfl⟩
          | nil => exact absurd hyl (by show ¬ 0 = m; omega)
        obtain ⟨hy0, hy0l⟩ := hyr y0 List.mem_cons_self
        have h7 : H7 l = some (.lst ((y0 :: yr).map fun y => .str (tx y))) := e7 _ _ (e6 _ _ h5)
        have hy0t : (tx y0).length = n := by simp [tx, Str.length, hy0l]
        have i0 : ∀ {G : Hp} {σ : L2.St}, σ[6]? = some (some (.ref l)) → Ex H7 G → Ev (tOp (rIxL K) (tVar 6) (tC (.int 0))) σ G (.str (tx y0)) := fun s6 g => ev_op (ev_var s6) ev_c (rv_ixL (sq_of (g _ _ h7)) (atI_nat (j := 0) rfl))
        obtain ⟨c, hc, hac⟩ : ∃ c : Nat, (c = 110 ∨ c = 98 ∨ c = 121) ∧ atI ("nby" : Str).cps.toList (xs.getD 13 0 / 8 % 3) = some c := by
          have h0 := Int.emod_nonneg (xs.getD 13 0 / 8) (show (3 : Int) ≠ 0 by decide)
          have h1 := Int.emod_lt_of_pos (xs.getD 13 0 / 8) (show (0 : Int) < 3 by decide)
          generalize xs.getD 13 0 / 8 % 3 = y at h0 h1
          have : y = 0 ∨ y = 1 ∨ y = 2 := by omega
          rcases this with h | h | h <;> subst h
          · exact ⟨110, .inl rfl, rfl⟩
          · exact ⟨98, .inr (.inl rfl), rfl⟩
          · exact ⟨121, .inr (.inr rfl), rfl⟩
        have ct := cutS_take y0 at0 (by omega)
        have cd := cutS_drop y0 (at0 + 1)
        rw [Int.natCast_add] at cd
        have lt : (tx (y0.take at0)).length ≤ 1000 := by show (tx _).cps.size ≤ 1000; simp [tx]; omega
        have lt2 : (tx (y0.take at0 ++ [c])).length ≤ 1000 := by show (tx _).cps.size ≤ 1000; simp [tx]; omega
        have ld : (tx (y0.drop (at0 + 1))).length ≤ 1000 := by show (tx _).cps.size ≤ 1000; simp [tx]; omega
        refine s_setL (v := .str (tx (y0.take at0 ++ [c] ++ y0.drop (at0 + 1)))) (j := 0) h7 (ev_is (ev_op (ev_is (ev_op (ev_is (ev_slS (i0 rfl (Ex.refl _)) eo_none (eo_some (ev_var rfl)) (by omega)) (congrArg V.str ct)) (ev_op ev_c (ev_op (ev_op (ev_op (ev_var rfl) ev_c (rv_ixL (ex_l ((e15.trans e6).trans e7) hS) (ax 13 (by decide)))) ev_c (rv_I ⟨by decide, by decide⟩)) ev_c (rv_I (by show (0 : Int) < 3; decide))) (rv_ixS (by decide) hac)) (rv_catS lt (by show 1 ≤ 1000; decide))) (congrArg V.str (tx_sn _ _))) (ev_is (ev_slS (i0 rfl (Ex.refl _)) (eo_some (ev_op (ev_var rfl) ev_c rv_I0)) eo_none (by omega)) (congrArg V.str cd)) (rv_catS lt2 ld)) (congrArg V.str (tx_app _ _))) (ev_var rfl) ev_c (by simp) fun H8 e8 => ⟨(y0.take at0 ++ [c] ++ y0.drop (at0 + 1)) :: yr, _, rfl, (e5.trans (e6.trans (e7.trans e8))).mut nl, hyl, fun y hy => ?_, by rw [upd_same]; rfl⟩
        rcases List.mem_cons.mp hy with h | h
        · rw [h]
          have hL : (y0.take at0 ++ [c] ++ y0.drop (at0 + 1)).length = n := by simp; omega
          refine ⟨⟨by omega, fun d hd => ?_⟩, hL⟩
          rcases List.mem_append.mp hd with z | z
          · rcases List.mem_append.mp z with z | z
            · exact hy0.2 d (List.mem_of_mem_take z)
            · rw [List.mem_singleton.mp z]; exact hc
          · exact hy0.2 d (List.mem_of_mem_drop z)
        · exact hyr y (List.mem_cons_of_mem _ h)
      · rintro σ' H6 ⟨ys, y10, rfl, e6, hyl, hyr, h6⟩
        have rw2 : ∀ (s : Nat) (p : Addr) (g1 g2 : List Nat) {σ : L2.St} {G : Hp}, σ[s]? = some (some (.ref p)) → H3 p = some (.lst [.str (tx g1), .str (tx g2)]) → Ex H3 G → HalfN n g1 → HalfN n g2 → Ev (tCall (sp__law_row_of K ts) [] E0 (tCons (tOp (rIxL K) (tVar s) (tC (.int 0))) (tCons (tOp (rIxL K) (tVar s) (tC (.int 1))) tNil))) σ G (.str (tx (rowBy g1 g2))) := fun s p g1 g2 {σ G} ss hp g k1 k2 => ev_call (ea_cons (ev_op (ev_var ss) ev_c (rv_ixL (sq_of (g _ _ hp)) (atI_nat (j := 0) rfl))) (ea_cons (ev_op (ev_var ss) ev_c (rv_ixL (sq_of (g _ _ hp)) (atI_nat (j := 1) rfl))) ea_nil)) fun G1 g1' Q1 q1 E1 => ⟨g1, g2, rfl, ⟨by rw [k1.1, k2.1], by rw [k2.1]; omega⟩, q1⟩
        have lr : ∀ {g1 g2 : List Nat}, HalfN n g1 → HalfN n g2 → RowL (rowBy g1 g2) ∧ (rowBy g1 g2).length = n := fun {g1 g2} k1 k2 => by
          have hL : (rowBy g1 g2).length = n := by unfold rowBy; rw [List.length_zipWith, k1.1, k2.1, Nat.min_self]
          exact ⟨⟨by omega, rowBy_nby _ _ k1.2⟩, hL⟩
        refine (rw2 4 po u1 u2 rfl h2' e6 hu1 hu2) _ (Ex.refl _) _ fun H7 e7 => (rw2 5 pr w1 w2 rfl h3 (e6.trans e7) hw1 hw2) _ (Ex.refl _) _ fun H8 e8 => ⟨_, rfl, l, _, rfl, .inl ⟨sq_of (e8 _ _ (e7 _ _ h6)), fun pb npb => ⟨by show 3 ≤ sizeLine; decide, fun pt npt => ?_⟩⟩⟩
        have eb := Ex.new (o := .tup (ys.map fun y => V.str (tx y))) npb
        have et := Ex.new (o := .tup [.str (tx (rowBy u1 u2)), .str (tx (rowBy w1 w2)), .ref pb]) npt
        exact q pt pb n _ _ ys _ ((e1.trans (e2.trans e3)).trans (e6.trans (e7.trans (e8.trans (eb.trans et))))) { ht := upd_same, hb := et _ _ upd_same, h1 := (lr hu1 hu2).1, h2 := (lr hw1 hw2).1, l1 := (lr hu1 hu2).2, l2 := (lr hw1 hw2).2, hn := by omega, hy := hyr }
end
end Hid

namespace Hid
open PySem PySem.Spec PyProof.Rows L2 Evl
theorem mul_tx (r : List Nat) : Txt.mul (tx r) 9 = tx (List.replicate 9 r).flatten := by
  unfold Txt.mul
  rw [if_neg (by decide)]
  by_cases h0 : r = []
  · subst h0
    rfl
  · have hc : ((9 : Int) == 1 || (tx r).length == 0) = false := by
      have : ((tx r).length == 0) = false := by
        rw [show (tx r).length = r.length by simp [tx, Str.length]]
        cases r with
        | nil => exact absurd rfl h0
        | cons _ _ => rfl
      rw [this]
      rfl
    rw [hc, if_neg Bool.false_ne_true]
    simp [tx, List.replicate]
theorem rep9_len (r : List Nat) : (List.replicate 9 r).flatten.length = 9 * r.length := by
  rw [List.length_flatten, List.map_replicate, List.sum_replicate_nat]
theorem wr_head {c : Nat} {l : List Nat} (h : c ∉ nby) : wr (some (c :: l)) nby = false := by
  show (_ && (c :: l).all fun c => decide (c ∈ nby)) = false
  rw [List.all_cons, decide_eq_false h, Bool.false_and, Bool.and_false]
theorem wr_long {l : List Nat} (h : 9 ≤ l.length) : wr (some l) nby = false := by
  show (decide (1 ≤ l.length ∧ l.length ≤ 8) && _) = false
  rw [decide_eq_false (by omega), Bool.false_and]
section
variable {P : Program} {w : World} {K : PySem.W.Frag} {mg : Str → Option Value} {base : Heap}
def sp__law_odd (K : PySem.W.Frag) (ts : List Addr) : Sp := fun vs H Q _ => ∃ (t b : Addr) (x : Int) (n : Nat) (r1 r2 : List Nat) (ys : List (List Nat)), vs = [.ref t, .int x] ∧ FamAt H t b n r1 r2 ys ∧ ∀ v H2, Ex H H2 → Bad K v H2 → Q v H2
theorem ok__law_odd {ts : List Addr} (D : Df K mg "_law_odd" st__law_odd ["_law_family_here", "_law_x"]) (m_list : mg "list" = none) : At P w K mg base "_law_odd" st__law_odd 1 ["_law_family_here", "_law_x"] (sp__law_odd K ts) := by
  obtain ⟨f, fd, F, b, g⟩ := D
  refine ⟨f, fd, F, b, g, F.ok sc__law_odd (fun vs H Q E h => ?_) (fun cdv A outer s H vs Q E hr h => ?_)⟩
  · obtain ⟨t, b, x, n, r1, r2, ys, rfl, _⟩ := h
    rfl
  · obtain ⟨t, b, x, n, r1, r2, ys, rfl, hF, q⟩ := h
    refine ⟨_, (pss_cons (ps_asg (pv 0) (pg_tup (by rfl) (pgs_cons (pg_name (i := 2) sc__law_odd.nd rfl (.inl rfl)) (pgs_cons (pg_name (i := 3) sc__law_odd.nd rfl (.inl rfl)) (pgs_cons (pg_name (i := 4) sc__law_odd.nd rfl (.inl rfl)) pgs_nil)))))
      (pss_cons (ps_set (i := 5) sc__law_odd.nd rfl (.inl rfl) (pe_lst (pa_cons (pe_tup (pa_cons (pe_op op_add_str (pv 2) pe_str) (pa_cons (pv 3) (pa_cons (pv 4) pa_nil)))) (pa_cons (pe_tup (pa_cons (pv 2) (pa_cons (pe_op op_add_str (pv 3) pe_str) (pa_cons (pv 4) pa_nil)))) (pa_cons (pe_tup (pa_cons (pv 2) (pa_cons (pv 3) (pa_cons (pe_op op_catA (pv 4) (pe_tup (pa_cons (pe_op op_add_str (pv 2) pe_str) pa_nil))) pa_nil)))) (pa_cons pe_non (pa_cons pe_str (pa_cons (pe_tup pa_nil) pa_nil))))))))
      (pss_cons (ps_set (i := 5) sc__law_odd.nd rfl (.inl rfl) (pe_op op_cat (pv 5) (pe_lst (pa_cons (pe_lst (pa_cons (pv 2) (pa_cons (pv 3) (pa_cons (pv 4) pa_nil)))) (pa_cons (pe_tup (pa_cons (pv 2) (pa_cons (pv 3) (pa_cons (pe_callTy call_list_of (by rfl) m_list (by decide +kernel) (pa_cons (pv 4) pa_nil)) pa_nil)))) (pa_cons (pe_tup (pa_cons (pv 2) (pa_cons (pv 3) (pa_cons (pe_tup pa_nil) pa_nil)))) (pa_cons (pe_tup (pa_cons (pv 2) (pa_cons (pv 3) (pa_cons (pe_op op_repT (pe_tup (pa_cons (pv 2) pa_nil)) pe_int) pa_nil)))) pa_nil)))))))
      (pss_cons (ps_set (i := 5) sc__law_odd.nd rfl (.inl rfl) (pe_op op_cat (pv 5) (pe_lst (pa_cons (pe_tup (pa_cons (pv 2) (pa_cons (pv 3) pa_nil))) (pa_cons (pe_tup (pa_cons (pv 2) (pa_cons (pv 3) (pa_cons (pv 4) (pa_cons (pe_tup pa_nil) pa_nil))))) (pa_cons (pe_tup (pa_cons (pe_op op_add_str pe_str (pe_slice sl_str (pv 2) (po_some pe_int) po_none)) (pa_cons (pv 3) (pa_cons (pv 4) pa_nil)))) (pa_cons (pe_tup (pa_cons (pv 2) (pa_cons (pe_op op_add_str pe_str (pe_slice sl_str (pv 3) (po_some pe_int) po_none)) (pa_cons (pv 4) pa_nil)))) pa_nil)))))))
      (pss_cons (ps_expr (pe_bm PySem.F.plainAttrs_list PySem.F.slot_list_append PySem.F.type_list_append mt_append (pv 5) (pa_cons (pe_tup (pa_cons pe_non (pa_cons (pv 3) (pa_cons (pv 4) pa_nil)))) pa_nil)))
      (pss_cons (ps_set (i := 5) sc__law_odd.nd rfl (.inl rfl) (pe_op op_cat (pv 5) (pe_lst (pa_cons (pe_tup (pa_cons (pv 2) (pa_cons (pv 3) (pa_cons (pe_tup (pa_cons pe_int pa_nil)) pa_nil)))) (pa_cons (pe_tup (pa_cons (pv 2) (pa_cons (pv 3) (pa_cons (pe_tup (pa_cons pe_bl pa_nil)) pa_nil)))) (pa_cons (pe_tup (pa_cons (pv 2) (pa_cons (pe_lst pa_nil) (pa_cons (pv 4) pa_nil)))) (pa_cons (pe_tup (pa_cons pe_str (pa_cons pe_str (pa_cons (pe_tup (pa_cons pe_str pa_nil)) pa_nil)))) (pa_cons (pe_tup (pa_cons (pv 2) (pa_cons (pv 3) (pa_cons (pv 2) pa_nil)))) (pa_cons pe_dnewK pa_nil)))))))))
      (pss_cons (ps_set (i := 5) sc__law_odd.nd rfl (.inl rfl) (pe_op op_cat (pv 5) (pe_lst (pa_cons (pe_tup (pa_cons (pe_op Hid.op_mul_str (pv 2) pe_int) (pa_cons (pe_op Hid.op_mul_str (pv 3) pe_int) (pa_cons (pe_tup (pa_cons (pe_op Hid.op_mul_str (pv 2) pe_int) pa_nil)) pa_nil)))) (pa_cons (pe_tup (pa_cons (pv 2) (pa_cons (pv 3) (pa_cons (pe_tup (pa_cons (pe_op op_add_str pe_str (pe_slice sl_str (pv 2) (po_some pe_int) po_none)) pa_nil)) pa_nil)))) (pa_cons (pe_tup (pa_cons (pv 4) (pa_cons (pv 2) (pa_cons (pv 3) pa_nil)))) pa_nil))))))
      (pss_one (ps_ret (pe_ix ix_list (pv 5) (pe_op op_mod (pv 1) pe_int) (fun _ _ => rfl))))))))))), ?_⟩
    have hl1 := hF.l1
    have hl2 := hF.l2
    have hn8 := hF.h1.1
    have ht1 : (tx r1).length = n := by simp [tx, Str.length, hl1]
    have ht2 : (tx r2).length = n := by simp [tx, Str.length, hl2]
    have hth : ∀ {G : Hp}, Paired (Th K G) (ys.map fun y => V.str (tx y)) (ys.map some) := fun {G} => rows_th fun y hy => by have := (hF.hy y hy).1.1; omega
    have x1 : ∀ {σ : L2.St} {G : Hp}, σ[2]? = some (some (.str (tx r1))) → EvX K (tVar 2) σ G (some r1) := fun s => ex_ev (ev_var s) (th_str r1 (by omega))
    have x2 : ∀ {σ : L2.St} {G : Hp}, σ[3]? = some (some (.str (tx r2))) → EvX K (tVar 3) σ G (some r2) := fun s => ex_ev (ev_var s) (th_str r2 (by omega))
    have y4 : ∀ {σ : L2.St} {G : Hp}, σ[4]? = some (some (.ref b)) → Ex H G → EvY K (tVar 4) σ G (some (ys.map some)) := fun s g => ey_ev (ev_var s) ⟨b, _, rfl, g _ _ hF.hb, hth⟩
    have ct1 := cutS_drop r1 1
    have ct2 := cutS_drop r2 1
    have lm : ∀ (c : Nat) (l : List Nat), l.length ≤ 8 → (c :: l.drop 1).length ≤ 1000 := fun c l h => by rw [List.length_cons, List.length_drop]; omega
    have hd : ∀ {σ : L2.St} {G : Hp} {s : Nat} {r : List Nat} (c : Nat), σ[s]? = some (some (.str (tx r))) → r.length ≤ 8 → EvX K (tOp (fun x y H Q => ∃ i j, x = .str i ∧ y = .str j ∧ i.length + j.length ≤ sizeLine ∧ Q (.str (i ++ j)) H) (tC (.str ⟨#[c]⟩)) (tSl rSlS (tVar s) (tPart (tC (.int 1))) tNoPart)) σ G (some (c :: r.drop 1)) := fun {σ G s r} c hs hr => ex_ev (v := .str (tx (c :: r.drop 1))) (ev_is (ev_op ev_c (ev_is (ev_slS (ev_var hs) (eo_some ev_c) eo_none (by show (tx r).cps.size ≤ 100000; simp [tx]; omega)) (congrArg V.str (cutS_drop r 1))) (rv_catS (by show 1 ≤ 1000; decide) (by show (tx _).cps.size ≤ 1000; simp [tx]; omega))) (congrArg V.str (tx_app [c] (r.drop 1)))) (th_str _ (lm c r hr))
    have tl : ∀ {σ : L2.St} {G : Hp} {s : Nat} {r : List Nat} (c : Nat), σ[s]? = some (some (.str (tx r))) → r.length ≤ 8 → EvX K (tOp (fun x y H Q => ∃ i j, x = .str i ∧ y = .str j ∧ i.length + j.length ≤ sizeLine ∧ Q (.str (i ++ j)) H) (tVar s) (tC (.str ⟨#[c]⟩))) σ G (some (r ++ [c])) := fun {σ G s r} c hs hr => ex_ev (v := .str (tx (r ++ [c]))) (ev_is (ev_op (ev_var hs) ev_c (rv_catS (by show (tx r).cps.size ≤ 1000; simp [tx]; omega) (by show 1 ≤ 1000; decide))) (congrArg V.str (tx_sn r c))) (th_str _ (by rw [List.length_append]; show r.length + 1 ≤ 1000; omega))
    have m9 : ∀ {σ : L2.St} {G : Hp} {s : Nat} {r : List Nat}, σ[s]? = some (some (.str (tx r))) → r.length ≤ 8 → EvX K (tOp (fun x y H Q => ∃ z i, x = .str z ∧ y = .int i ∧ 0 ≤ i ∧ i ≤ 1000 ∧ z.length ≤ 1000 ∧ Q (.str (Txt.mul z i)) H) (tVar s) (tC (.int 9))) σ G (some (List.replicate 9 r).flatten) := fun {σ G s r} hs hr => ex_ev (v := .str (tx (List.replicate 9 r).flatten)) (ev_op (ev_var hs) ev_c (rv_val fun Hx ex Qx qx => ⟨_, 9, rfl, rfl, by decide, by decide, by show (tx r).cps.size ≤ 1000; simp [tx]; omega, by rw [mul_tx]; exact qx⟩)) (th_str _ (by rw [rep9_len]; omega))
    refine ⟨_, rfl, t, [.str (tx r1), .str (tx r2), .ref b], rfl, st_of hF.ht, rfl, _, [_, _], rfl, _, [_], rfl, _, [], rfl, rfl, ?_⟩
    refine q_asgBs (n := 6) (bps_cons (bad3 (tl 110 rfl (by omega)) (x2 rfl) (y4 rfl (Ex.refl _)) (bad_y (rowO_len (by rw [List.length_append]; show r2.length ≠ r1.length + 1; omega))))
      (bps_cons (bad3 (x1 rfl) (tl 98 rfl (by omega)) (y4 rfl (Ex.refl _)) (bad_y (rowO_len (by rw [List.length_append]; show r2.length + 1 ≠ r1.length; omega))))
      (bps_cons (bad3 (x1 rfl) (x2 rfl) (ygA (ev_var rfl) hF.hb hth (by intro z; have h := congrArg List.length z; rw [List.length_map] at h; have h2 := hF.hn; have h3 : ys.length = 0 := h; omega) (by rw [List.length_map]; have := hF.hn; omega) (tl 121 rfl (by omega))) (bad_o (o := some (r1 ++ [121])) (List.mem_append_right _ (List.mem_singleton.mpr rfl)) (rowO_len (by rw [List.length_append]; show r1.length + 1 ≠ r1.length; omega))))
      (bps_cons (ep_ev ev_c fun _ _ => ⟨.non, nu_non, rfl⟩) (bps_cons (ep_ev ev_c fun _ _ => ⟨.non, nu_str _, rfl⟩) (bps_cons (badN an_nil (by decide) (by decide)) bps_nil)))))) (by decide) fun p vs H1 np e1 hb1 => ?_
    have eA := e1.trans (Ex.new (o := .lst vs) np)
    have hbA := hb1.ex (Ex.new (o := .lst vs) np)
    refine q_asgCt (n := 4) (j := 5) rfl upd_same hbA (bps_cons (badL (an_cons (x1 rfl) (an_cons (x2 rfl) (an_cons (y4 rfl eA) an_nil))) (by decide))
      (bps_cons (bad3 (x1 rfl) (x2 rfl) (oz := none) (fun G g Q1 q1 => ⟨_, rfl, b, _, rfl, .inr (st_of (g _ _ (eA _ _ hF.hb))), fun l hl => q1 _ _ (Ex.new hl) (nu_lst upd_same)⟩) bad_z)
      (bps_cons (bad3 (x1 rfl) (x2 rfl) yg0 (bad_l (by decide))) (bps_cons (bad3 (x1 rfl) (x2 rfl) (yg4 (x1 rfl)) (bad_l (by show ¬ (1 ≤ 4 ∧ 4 ≤ 3); decide))) bps_nil)))) (by decide) fun p2 vs2 H2 np2 e2 hb2 => ?_
    have eB := eA.trans (e2.trans (Ex.new (o := .lst vs2) np2))
    have hbB := hb2.ex (Ex.new (o := .lst vs2) np2)
    refine q_asgCt (n := 4) (j := 5) rfl upd_same hbB (bps_cons (badN (an_cons (x1 rfl) (an_cons (x2 rfl) an_nil)) (by decide) (by decide))
      (bps_cons (badN (an_cons (x1 rfl) (an_cons (x2 rfl) (an_cons (y4 rfl eB) (an_cons (yg0 (K := K)) an_nil)))) (by decide) (by decide))
      (bps_cons (bad3 (hd 111 rfl (by omega)) (x2 rfl) (y4 rfl eB) (bad_x (wr_head (by decide)))) (bps_cons (bad3 (x1 rfl) (hd 78 rfl (by omega)) (y4 rfl eB) (bad_y (rowO_wr (wr_head (by decide))))) bps_nil)))) (by decide) fun p3 vs3 H3 np3 e3 hb3 => ?_
    have eC0 := eB.trans e3
    have eC := eC0.trans (Ex.new (o := .lst vs3) np3)
    refine q_appU (ys := [.non, .str (tx r2), .ref b]) upd_same (ev_var rfl) (eu_tup (ea_cons ev_c (ea_cons (ev_var rfl) (ea_cons (ev_var rfl) ea_nil))) (by show 3 ≤ 100000; decide)) (by rw [hb3.1]; decide) fun p4 H4 np4 e4 h4 => ?_
    have hne : p4 ≠ p3 := fun z => by rw [z, upd_same] at np4; cases np4
    have eM : Ex H3 (upd H4 p3 (.lst (vs3 ++ [.ref p4]))) := ((Ex.new np3).trans e4).mut np3
    have eD : Ex H (upd H4 p3 (.lst (vs3 ++ [.ref p4]))) := eC0.trans eM
    have hbD : Bads K (6 + 4 + 4 + 1) (vs3 ++ [.ref p4]) (upd H4 p3 (.lst (vs3 ++ [.ref p4]))) := (hb3.ex eM).app ⟨rfl, fun v hv => by
      rw [List.mem_singleton.mp hv]
      exact ⟨.three none (some r2) (some (ys.map some)), ⟨p4, _, _, _, rfl, by rw [upd_ne hne]; exact h4, th_non, th_str r2 (by omega), b, _, rfl, eD _ _ hF.hb, hth⟩, bad_x rfl⟩⟩
    have hpD : (upd H4 p3 (.lst (vs3 ++ [.ref p4]))) p3 = some (.lst (vs3 ++ [.ref p4])) := upd_same
    generalize upd H4 p3 (.lst (vs3 ++ [.ref p4])) = HD at eM eD hbD hpD
    refine q_asgCt (n := 6) (j := 5) rfl hpD hbD (bps_cons (bad3 (x1 rfl) (x2 rfl) (yg1 (ex_ev ev_c (th_int 7))) (bad_o (o := none) (List.mem_singleton.mpr rfl) rfl))
      (bps_cons (bad3 (x1 rfl) (x2 rfl) (yg1 (ex_ev ev_c (th_bl true))) (bad_o (o := none) (List.mem_singleton.mpr rfl) rfl))
      (bps_cons (bad3 (x1 rfl) (oy := none) (fun G g Q1 q1 => ⟨by show 0 ≤ sizeLine; decide, fun p hp => q1 _ _ (Ex.new hp) (th_lst upd_same)⟩) (y4 rfl eD) (bad_y rfl))
      (bps_cons (bad3 (ex_ev ev_c (th_str [] (by decide))) (ex_ev ev_c (th_str [] (by decide))) (yg1 (ex_ev ev_c (th_str [] (by decide)))) (bad_x rfl))
      (bps_cons (bad3 (x1 rfl) (x2 rfl) (oz := none) (ey_ev (ev_var rfl) (nu_str _)) bad_z)
      (bps_cons (fun G g Q1 q1 => fun p hp => q1 _ _ (Ex.new hp) ⟨.non, nu_dict upd_same, rfl⟩) bps_nil)))))) (by decide) fun p5 vs5 H5 np5 e5 hb5 => ?_
    have eE := eD.trans (e5.trans (Ex.new (o := .lst vs5) np5))
    have hbE := hb5.ex (Ex.new (o := .lst vs5) np5)
    refine q_asgCt (n := 3) (j := 5) rfl upd_same hbE (bps_cons (bad3 (m9 rfl (by omega)) (m9 rfl (by omega)) (yg1 (m9 rfl (by omega))) (bad_x (wr_long (by rw [rep9_len]; omega))))
      (bps_cons (bad3 (x1 rfl) (x2 rfl) (yg1 (hd 97 rfl (by omega))) (bad_o (List.mem_singleton.mpr rfl) (rowO_wr (wr_head (by decide)))))
      (bps_cons (bad3 (ox := none) (ex_ev (ev_var rfl) (th_tup (eE _ _ hF.hb))) (x1 rfl) (oz := none) (ey_ev (ev_var rfl) (nu_str _)) bad_z) bps_nil))) (by decide) fun p6 vs6 H6 np6 e6 hb6 => ?_
    have e66 := Ex.new (o := .lst vs6) np6
    obtain ⟨j, hj, hj24⟩ : ∃ j : Nat, x % 24 = (j : Nat) ∧ j < 24 := ⟨(x % 24).toNat, by
      have := Int.emod_nonneg x (show (24 : Int) ≠ 0 by decide)
      have := Int.emod_lt_of_pos x (show (0 : Int) < 24 by decide)
      omega⟩
    have hl6 : vs6.length = 24 := hb6.1
    exact s_ret (ev_op (ev_var rfl) (ev_op (ev_var rfl) ev_c (rv_I (by show (0 : Int) < 24; decide))) (rv_ixL (sq_of upd_same) (v := vs6[j]) (by rw [hj]; exact atI_nat (List.getElem?_eq_getElem (by omega))))) fun H7 e7 => q _ _ ((eE.trans e6).trans (e66.trans e7)) ((hb6.2 _ (List.getElem_mem _)).ex (e66.trans e7))
def sp_law (K : PySem.W.Frag) (ts : List Addr) : Sp := fun vs H Q _ => ∃ (a : Addr) (ns : List Int), vs = [.ref a] ∧ SqL K H a (ns.map V.int) ∧ ns.length ≤ 63 ∧ TB ts H ∧ RetV (.bl true) H Q
theorem ok_law {ts : List Addr} (D : Df K mg "law" st_law ["_law_script"]) (m_range : mg "range" = none) (m_max : mg "max" = none) (m_min : mg "min" = none) (m_len : mg "len" = none) (m_isinstance : mg "isinstance" = none) (m_bool : mg "bool" = none) (A__law_numbers : At P w K mg base "_law_numbers" st__law_numbers 1 ["_law_cell_here", "_law_many"] (sp__law_numbers K ts)) (A__law_cell : At P w K mg base "_law_cell" st__law_cell 1 ["_law_script", "_law_k"] (sp__law_cell K ts)) (A__law_family : At P w K mg base "_law_family" st__law_family 3 ["_law_xs", "_law_most", "_law_plain"] (sp__law_family K ts)) (A_is_family : At P w K mg base "is_family" st_is_family 6 ["thing"] (sp_is_family K ts)) (A__law_odd : At P w K mg base "_law_odd" st__law_odd 1 ["_law_family_here", "_law_x"] (sp__law_odd K ts)) : At P w K mg base "law" st_law 7 ["_law_script"] (sp_law K ts) := by
  obtain ⟨f, fd, F, b, g⟩ := D
  obtain ⟨f__law_numbers, fd__law_numbers, F__law_numbers, b__law_numbers, g__law_numbers, G__law_numbers⟩ := A__law_numbers
  obtain ⟨f__law_cell, fd__law_cell, F__law_cell, b__law_cell, g__law_cell, G__law_cell⟩ := A__law_cell
  obtain ⟨f__law_family, fd__law_family, F__law_family, b__law_family, g__law_family, G__law_family⟩ := A__law_family
  obtain ⟨f_is_family, fd_is_family, F_is_family, b_is_family, g_is_family, G_is_family⟩ := A_is_family
  obtain ⟨f__law_odd, fd__law_odd, F__law_odd, b__law_odd, g__law_odd, G__law_odd⟩ := A__law_odd
  refine ⟨f, fd, F, b, g, F.ok sc_law (fun vs H Q E h => ?_) (fun cdv A outer s H vs Q E hr h => ?_)⟩
  · obtain ⟨a, ns, rfl, _⟩ := h
    rfl
  · obtain ⟨a, ns, rfl, hS, hl, hT, q⟩ := h
    refine ⟨_, (pss_cons (ps_for PassesOwn.never rfl (pi_range1 (by rfl) m_range (pa_cons (pe_callB (call_max2 rfl) (by rfl) m_max (by decide +kernel) (pa_cons pe_int (pa_cons (pe_callB (call_min2 rfl) (by rfl) m_min (by decide +kernel) (pa_cons (pe_callB call_len_seq (by rfl) m_len (by decide +kernel) (pa_cons (pv 0) pa_nil)) (pa_cons pe_int pa_nil))) pa_nil))) pa_nil)) (pg_name (i := 1) sc_law.nd rfl (.inl rfl))
      (pss_cons (ps_set (i := 2) sc_law.nd rfl (.inl rfl) (pe_call G__law_numbers (hr.mono (by decide)) (by rfl) g__law_numbers F__law_numbers.kp b__law_numbers .nil pass0 (pa_cons (pe_call G__law_cell (hr.mono (by decide)) (by rfl) g__law_cell F__law_cell.kp b__law_cell .nil pass0 (pa_cons (pv 0) (pa_cons (pv 1) pa_nil))) (pa_cons pe_int pa_nil))))
      (pss_cons (ps_set (i := 3) sc_law.nd rfl (.inl rfl) (pe_call G__law_family (hr.mono (by decide)) (by rfl) g__law_family F__law_family.kp b__law_family .nil pass0 (pa_cons (pv 2) (pa_cons pe_int (pa_cons pe_int pa_nil)))))
      (pss_cons (ps_if (PW.pt (pw_or (pt_cmpR op_ne (pe_call G_is_family (hr.mono (by decide)) (by rfl) g_is_family F_is_family.kp b_is_family .nil pass0 (pa_cons (pv 3) pa_nil)) pe_bl (nomark _)) (pw_or1 (pt_not (pt_val (pe_callB call_isi (by rfl) m_isinstance (by decide +kernel) (pa_cons (pe_call G_is_family (hr.mono (by decide)) (by rfl) g_is_family F_is_family.kp b_is_family .nil pass0 (pa_cons (pv 3) pa_nil)) (pa_cons (pe_bltn (v := .ty "bool") (by rfl) m_bool (by decide +kernel) rfl) pa_nil))))))))
      (pss_one (ps_ret pe_bl))
      pss_nil)
      (pss_one (ps_for PassesOwn.never rfl (pi_list (pe_slice sl_list (pv 2) (po_some pe_int) (po_some pe_int))) (pg_name (i := 4) sc_law.nd rfl (.inl rfl))
      (pss_cons (ps_set (i := 5) sc_law.nd rfl (.inl rfl) (pe_call G_is_family (hr.mono (by decide)) (by rfl) g_is_family F_is_family.kp b_is_family .nil pass0 (pa_cons (pe_call G__law_odd (hr.mono (by decide)) (by rfl) g__law_odd F__law_odd.kp b__law_odd .nil pass0 (pa_cons (pv 3) (pa_cons (pv 4) pa_nil))) pa_nil)))
      (pss_one (ps_if (PW.pt (pw_or (pt_not (pt_val (pe_callB call_isi (by rfl) m_isinstance (by decide +kernel) (pa_cons (pv 5) (pa_cons (pe_bltn (v := .ty "bool") (by rfl) m_bool (by decide +kernel) rfl) pa_nil))))) (pw_or1 (pt_val (pv 5)))))
      (pss_one (ps_ret pe_bl))
      pss_nil)))))))))
      (pss_one (ps_ret pe_bl))), ?_⟩
    have hmn : Ev (tCB rMax2 (tCons (tC (.int 2)) (tCons (tCB (fun xs H Q => ∃ i j, xs = [V.int i, .int j] ∧ Q (.int (if j < i then j else i)) H) (tCons (tCB (rLenS K) (tCons (tVar 0) tNil)) (tCons (tC (.int 8)) tNil))) tNil))) [some (.ref a), none, none, none, none, none] H (.int (if (if (8 : Int) < ((ns.map V.int).length : Int) then 8 else ((ns.map V.int).length : Int)) > 2 then (if (8 : Int) < ((ns.map V.int).length : Int) then 8 else ((ns.map V.int).length : Int)) else 2)) := ev_max2 ev_c (ev_cb (ea_cons (ev_len (ev_var rfl) hS) (ea_cons ev_c ea_nil)) fun H1 e1 Q1 q1 => ⟨_, _, rfl, q1 H1 (Ex.refl _)⟩)
    refine q_forR1 (ea_cons hmn ea_nil) ⟨by split <;> omega, by split <;> (try split) <;> omega⟩ (fun i σ' H' => ∃ y1 y2 y3 y4 y5 : Option V, σ' = [some (.ref a), y1, y2, y3, y4, y5] ∧ Ex H H') (fun H1 e1 => ⟨_, _, _, _, _, rfl, e1⟩) (fun i σ' H1 hi hP => ?_) (fun σ' H1 hP => ?_)
    · obtain ⟨y1, y2, y3, y4, y5, rfl, e1⟩ := hP
      have hi8 : (i : Int) ≤ 8 := by
        revert hi
        split <;> (try split) <;> intro hi <;> omega
      refine ⟨_, rfl, _, rfl, a, ns, i, rfl, ex_l e1 hS, by omega, fun c G2 g2 => ⟨c, 17, rfl, by decide, fun xs hxl hxp px H3 npx g3 h3 => ?_⟩⟩
      have e13 : Ex H H3 := e1.trans (g2.trans g3)
      refine ⟨_, rfl, px, xs, 8, 8, rfl, sq_of h3, ⟨by omega, hxp, by decide, by decide, by decide, by decide⟩, fun t b n r1 r2 ys H4 e4 hF => ?_⟩
      have e14 := e13.trans e4
      have isf : ∀ {σ : L2.St} {G : Hp}, σ[3]? = some (some (.ref t)) → Ex H4 G → Ev (tCall (sp_is_family K ts) [] E0 (tCons (tVar 3) tNil)) σ G (.bl true) := fun s3 g => ev_call (ea_cons (ev_var s3) ea_nil) fun G1 g1 Q1 q1 E1 => ⟨_, _, rfl, (hF.ex (g.trans g1)).fm, hT.ex (e14.trans (g.trans g1)), by rw [hF.good]; exact q1⟩
      refine q_when (b := false) (et_or (et_is (b := false) (et_test (ev_op (isf rfl (Ex.refl _)) ev_c (rv_ne rfl))) (by rw [decide_eq_true rfl]; rfl)) fun _ => et_is (b := false) (et_not (et_B (ev_isi (isf rfl (Ex.refl _)) (fun _ _ => .base (.bl _)) (b := true) (by decide +kernel)))) rfl) (fun hb H5 e5 => absurd hb (by decide)) (fun hb H5 e5 => ?_)
      refine s_forNL (el_sl (ev_var rfl) (eo_some ev_c) (eo_some ev_c) (sq_of (e5 _ _ (e4 _ _ h3)))) (fun p j σ' H' => ∃ y4 y5 : Option V, σ' = [some (.ref a), some (.int (i : Nat)), some (.ref px), some (.ref t), y4, y5] ∧ Ex H4 H' ∧ H' p = some (.lst (cutV (xs.map V.int) (some 14) (some 17)))) (fun p H6 hp e6 h6 => ⟨_, _, rfl, e5.trans e6, h6⟩) (fun p j σ' H' _ hP => ?_) (fun p j x σ' H6 hx hP => ?_) (fun p σ' H6 hP => ?_)
      · obtain ⟨y4, y5, _, _, h6⟩ := hP
        exact sq_of h6
      · obtain ⟨y4, y5, rfl, e6, h6⟩ := hP
        have hm : x ∈ xs.map V.int := List.mem_of_mem_drop (List.mem_of_mem_take (List.mem_of_getElem? hx))
        obtain ⟨z, _, rfl⟩ := List.mem_map.mp hm
        refine ⟨_, rfl, _, rfl, t, b, z, n, r1, r2, ys, rfl, hF.ex e6, fun v H7 e7 ⟨fm, hfm, hbad⟩ => ⟨v, fm, rfl, hfm, hT.ex (e14.trans (e6.trans e7)), fun H8 e8 => ?_⟩⟩
        rw [hbad]
        refine s_when (b := false) (et_or (et_is (b := false) (et_not (et_B (ev_isi (ev_var rfl) (fun _ _ => .base (.bl _)) (b := true) (by decide +kernel)))) rfl) fun _ => et_B (ev_var rfl)) (fun hb H9 e9 => absurd hb (by decide)) (fun hb H9 e9 => ⟨_, _, rfl, e6.trans (e7.trans (e8.trans e9)), (e7.trans (e8.trans e9)) _ _ h6⟩)
      · obtain ⟨y4, y5, rfl, e6, h6⟩ := hP
        exact ⟨_, _, _, _, _, rfl, e14.trans e6⟩
    · obtain ⟨y1, y2, y3, y4, y5, rfl, e1⟩ := hP
      exact s_ret ev_c fun H2 e2 => q H2 (e1.trans e2)
end
end Hid

namespace Hid
open PySem PySem.Spec PyProof.Rows L2 Evl
theorem df_mk {K : PySem.W.Frag} {h : Heap} {mg : Str → Option Value} (X : K.In h) (G : h.Ns mainGlobals mg) {x : Str} {st : Stmt} {ps : List Str} {f : Addr} {od an : Option Addr} {sl : Array (Option Value)} {oc kV dc pm cd ct : Value}
    (a : PySem.W.nsIn K mainGlobals x = some (some (.ref f))) (l : K.lookup f = some ⟨oc, od, .func (PySem.W.fnOf x x (defArgs st) (defBody st) (defScope st) .none kV dc pm an cd ct), sl⟩) (c : PySem.W.codeIn K cd x = true) (k : PySem.W.keepIn K (.ref f) = true)
    (hb : ∀ (kV doc pm : Value) (an : Option Addr) (cdv ct : Value) (us : List Value), us.length = ps.length → bindArgs (PySem.W.fnOf x x (defArgs st) (defBody st) (defScope st) .none kV doc pm an cdv ct) ⟨us, []⟩ = pure (ps.zip us)) : Df K mg x st ps :=
  ⟨f, _, fun_mk (st := st) l c k, (fun_mk (st := st) l c k).binds hb, PySem.W.mg_of X G a⟩
theorem dfc_mk {K : PySem.W.Frag} {h : Heap} {mg : Str → Option Value} (X : K.In h) (G : h.Ns mainGlobals mg) {x : Str} {st : Stmt} {ps : List Str} {f cc : Addr} {od an : Option Addr} {sl : Array (Option Value)} {oc kV dc pm ct : Value}
    (a : PySem.W.nsIn K mainGlobals x = some (some (.ref f))) (l : K.lookup f = some ⟨oc, od, .func (PySem.W.fnOf x x (defArgs st) (defBody st) (defScope st) .none kV dc pm an (.ref cc) ct), sl⟩) (c : PySem.W.codeIn K (.ref cc) x = true) (k : PySem.W.keepIn K (.ref f) = true)
    (hb : ∀ (kV doc pm : Value) (an : Option Addr) (cdv ct : Value) (us : List Value), us.length = ps.length → bindArgs (PySem.W.fnOf x x (defArgs st) (defBody st) (defScope st) .none kV doc pm an cdv ct) ⟨us, []⟩ = pure (ps.zip us)) : DfC K mg x st ps cc :=
  ⟨f, _, fun_mk (st := st) l c k, (fun_mk (st := st) l c k).binds hb, PySem.W.mg_of X G a, rfl⟩
/-- a def's promise at the very data that stands there -/
theorem at_fd {P : Program} {w : World} {K : PySem.W.Frag} {mg : Str → Option Value} {base : Heap} {CX : CXT} {n : Nat} {ps : List Str} {sp : Sp} {x : Str} {st : Stmt} {f : Addr} {fd fd2 : FuncData} (G : FnOk P w K mg base CX n f fd ps sp) (F : Fun K x x st f fd) (F2 : Fun K x x st f fd2) : FnOk P w K mg base CX n f fd2 ps sp := by
  obtain ⟨oc, od, kV, doc, pm, an, cdv, ct, osl, e1, lk, _⟩ := F.ex
  obtain ⟨oc2, od2, kV2, doc2, pm2, an2, cdv2, ct2, osl2, e2, lk2, _⟩ := F2.ex
  have e := lk.symm.trans lk2
  injection e with e
  injection e with _ _ e _
  injection e with e
  rw [← e]
  exact G
theorem all_mk {l : PySem.W.OpenLaw} {w : World} {K : PySem.W.Frag} {h : Heap} {mg : Str → Option Value} {fa : Addr} {Rc : Str → Prop} {f0 : Addr} {od0 an0 : Option Addr} {sl0 : Array (Option Value)} {oc0 kV0 dc0 pm0 ct0 : Value} {cd0 : Addr} {pp0 : Addr} {o10 : Value} {o20 : Option Addr} {s20 : Array (Option Value)} {vs0 : Array Value} {f1 : Addr} {od1 an1 : Option Addr} {sl1 : Array (Option Value)} {oc1 kV1 dc1 pm1 ct1 : Value} {cd1 : Value} {f2 : Addr} {od2 an2 : Option Addr} {sl2 : Array (Option Value)} {oc2 kV2 dc2 pm2 ct2 : Value} {cd2 : Value} {f3 : Addr} {od3 an3 : Option Addr} {sl3 : Array (Option Value)} {oc3 kV3 dc3 pm3 ct3 : Value} {cd3 : Value} {f4 : Addr} {od4 an4 : Option Addr} {sl4 : Array (Option Value)} {oc4 kV4 dc4 pm4 ct4 : Value} {cd4 : Addr} {pp4 : Addr} {o14 : Value} {o24 : Option Addr} {s24 : Array (Option Value)} {vs4 : Array Value} {f5 : Addr} {od5 an5 : Option Addr} {sl5 : Array (Option Value)} {oc5 kV5 dc5 pm5 ct5 : Value} {cd5 : Value} {f6 : Addr} {od6 an6 : Option Addr} {sl6 : Array (Option Value)} {oc6 kV6 dc6 pm6 ct6 : Value} {cd6 : Value} {f7 : Addr} {od7 an7 : Option Addr} {sl7 : Array (Option Value)} {oc7 kV7 dc7 pm7 ct7 : Value} {cd7 : Value} {f8 : Addr} {od8 an8 : Option Addr} {sl8 : Array (Option Value)} {oc8 kV8 dc8 pm8 ct8 : Value} {cd8 : Value} {f9 : Addr} {od9 an9 : Option Addr} {sl9 : Array (Option Value)} {oc9 kV9 dc9 pm9 ct9 : Value} {cd9 : Value} {f10 : Addr} {od10 an10 : Option Addr} {sl10 : Array (Option Value)} {oc10 kV10 dc10 pm10 ct10 : Value} {cd10 : Value} {f11 : Addr} {od11 an11 : Option Addr} {sl11 : Array (Option Value)} {oc11 kV11 dc11 pm11 ct11 : Value} {cd11 : Value} {f12 : Addr} {od12 an12 : Option Addr} {sl12 : Array (Option Value)} {oc12 kV12 dc12 pm12 ct12 : Value} {cd12 : Value} {tMS : Tok} {tRS : Tok} {tMY : Tok} (X : K.In h) (G : h.Ns mainGlobals mg) (hfa : mg "law" = some (.ref fa)) (hTab : ∀ (y : Str) (c P : Addr), Rc y → PySem.W.tabIn K y = some (c, P) → PySem.W.CodeHd h c P ∧ h.get? P = some (PySem.W.tabObj #[]))
    (a0 : PySem.W.nsIn K mainGlobals "is_written_in" = some (some (.ref f0))) (l0 : K.lookup f0 = some ⟨oc0, od0, .func (PySem.W.fnOf "is_written_in" "is_written_in" (defArgs st_is_written_in) (defBody st_is_written_in) (defScope st_is_written_in) .none kV0 dc0 pm0 an0 (.ref cd0) ct0), sl0⟩) (c0 : PySem.W.codeIn K (.ref cd0) "is_written_in" = true) (k0 : PySem.W.keepIn K (.ref f0) = true)
    (tE0 : K.lookup cd0 = some ⟨o10, o20, .fields vs0, s20⟩) (tG0 : vs0[11]? = some (.ref pp0)) (tN0 : K.lookup pp0 = none) (tR0 : Rc "is_written_in")
    (a1 : PySem.W.nsIn K mainGlobals "is_row" = some (some (.ref f1))) (l1 : K.lookup f1 = some ⟨oc1, od1, .func (PySem.W.fnOf "is_row" "is_row" (defArgs st_is_row) (defBody st_is_row) (defScope st_is_row) .none kV1 dc1 pm1 an1 cd1 ct1), sl1⟩) (c1 : PySem.W.codeIn K cd1 "is_row" = true) (k1 : PySem.W.keepIn K (.ref f1) = true)
    (a2 : PySem.W.nsIn K mainGlobals "is_row_of" = some (some (.ref f2))) (l2 : K.lookup f2 = some ⟨oc2, od2, .func (PySem.W.fnOf "is_row_of" "is_row_of" (defArgs st_is_row_of) (defBody st_is_row_of) (defScope st_is_row_of) .none kV2 dc2 pm2 an2 cd2 ct2), sl2⟩) (c2 : PySem.W.codeIn K cd2 "is_row_of" = true) (k2 : PySem.W.keepIn K (.ref f2) = true)
    (a3 : PySem.W.nsIn K mainGlobals "is_tuple_of" = some (some (.ref f3))) (l3 : K.lookup f3 = some ⟨oc3, od3, .func (PySem.W.fnOf "is_tuple_of" "is_tuple_of" (defArgs st_is_tuple_of) (defBody st_is_tuple_of) (defScope st_is_tuple_of) .none kV3 dc3 pm3 an3 cd3 ct3), sl3⟩) (c3 : PySem.W.codeIn K cd3 "is_tuple_of" = true) (k3 : PySem.W.keepIn K (.ref f3) = true)
    (a4 : PySem.W.nsIn K mainGlobals "is_family" = some (some (.ref f4))) (l4 : K.lookup f4 = some ⟨oc4, od4, .func (PySem.W.fnOf "is_family" "is_family" (defArgs st_is_family) (defBody st_is_family) (defScope st_is_family) .none kV4 dc4 pm4 an4 (.ref cd4) ct4), sl4⟩) (c4 : PySem.W.codeIn K (.ref cd4) "is_family" = true) (k4 : PySem.W.keepIn K (.ref f4) = true)
    (tE4 : K.lookup cd4 = some ⟨o14, o24, .fields vs4, s24⟩) (tG4 : vs4[11]? = some (.ref pp4)) (tN4 : K.lookup pp4 = none) (tR4 : Rc "is_family")
    (a5 : PySem.W.nsIn K mainGlobals "_law_cell" = some (some (.ref f5))) (l5 : K.lookup f5 = some ⟨oc5, od5, .func (PySem.W.fnOf "_law_cell" "_law_cell" (defArgs st__law_cell) (defBody st__law_cell) (defScope st__law_cell) .none kV5 dc5 pm5 an5 cd5 ct5), sl5⟩) (c5 : PySem.W.codeIn K cd5 "_law_cell" = true) (k5 : PySem.W.keepIn K (.ref f5) = true)
    (a6 : PySem.W.nsIn K mainGlobals "_law_numbers" = some (some (.ref f6))) (l6 : K.lookup f6 = some ⟨oc6, od6, .func (PySem.W.fnOf "_law_numbers" "_law_numbers" (defArgs st__law_numbers) (defBody st__law_numbers) (defScope st__law_numbers) .none kV6 dc6 pm6 an6 cd6 ct6), sl6⟩) (c6 : PySem.W.codeIn K cd6 "_law_numbers" = true) (k6 : PySem.W.keepIn K (.ref f6) = true)
    (a7 : PySem.W.nsIn K mainGlobals "_law_mark" = some (some (.ref f7))) (l7 : K.lookup f7 = some ⟨oc7, od7, .func (PySem.W.fnOf "_law_mark" "_law_mark" (defArgs st__law_mark) (defBody st__law_mark) (defScope st__law_mark) .none kV7 dc7 pm7 an7 cd7 ct7), sl7⟩) (c7 : PySem.W.codeIn K cd7 "_law_mark" = true) (k7 : PySem.W.keepIn K (.ref f7) = true)
    (a8 : PySem.W.nsIn K mainGlobals "_law_row_of" = some (some (.ref f8))) (l8 : K.lookup f8 = some ⟨oc8, od8, .func (PySem.W.fnOf "_law_row_of" "_law_row_of" (defArgs st__law_row_of) (defBody st__law_row_of) (defScope st__law_row_of) .none kV8 dc8 pm8 an8 cd8 ct8), sl8⟩) (c8 : PySem.W.codeIn K cd8 "_law_row_of" = true) (k8 : PySem.W.keepIn K (.ref f8) = true)
    (a9 : PySem.W.nsIn K mainGlobals "_law_any_half" = some (some (.ref f9))) (l9 : K.lookup f9 = some ⟨oc9, od9, .func (PySem.W.fnOf "_law_any_half" "_law_any_half" (defArgs st__law_any_half) (defBody st__law_any_half) (defScope st__law_any_half) .none kV9 dc9 pm9 an9 cd9 ct9), sl9⟩) (c9 : PySem.W.codeIn K cd9 "_law_any_half" = true) (k9 : PySem.W.keepIn K (.ref f9) = true)
    (a10 : PySem.W.nsIn K mainGlobals "_law_family" = some (some (.ref f10))) (l10 : K.lookup f10 = some ⟨oc10, od10, .func (PySem.W.fnOf "_law_family" "_law_family" (defArgs st__law_family) (defBody st__law_family) (defScope st__law_family) .none kV10 dc10 pm10 an10 cd10 ct10), sl10⟩) (c10 : PySem.W.codeIn K cd10 "_law_family" = true) (k10 : PySem.W.keepIn K (.ref f10) = true)
    (a11 : PySem.W.nsIn K mainGlobals "_law_odd" = some (some (.ref f11))) (l11 : K.lookup f11 = some ⟨oc11, od11, .func (PySem.W.fnOf "_law_odd" "_law_odd" (defArgs st__law_odd) (defBody st__law_odd) (defScope st__law_odd) .none kV11 dc11 pm11 an11 cd11 ct11), sl11⟩) (c11 : PySem.W.codeIn K cd11 "_law_odd" = true) (k11 : PySem.W.keepIn K (.ref f11) = true)
    (a12 : PySem.W.nsIn K mainGlobals "law" = some (some (.ref f12))) (l12 : K.lookup f12 = some ⟨oc12, od12, .func (PySem.W.fnOf "law" "law" (defArgs st_law) (defBody st_law) (defScope st_law) .none kV12 dc12 pm12 an12 cd12 ct12), sl12⟩) (c12 : PySem.W.codeIn K cd12 "law" = true) (k12 : PySem.W.keepIn K (.ref f12) = true)
    (z_len : PySem.W.nsIn K mainGlobals "len" = some none)
    (z_isinstance : PySem.W.nsIn K mainGlobals "isinstance" = some none)
    (z_str : PySem.W.nsIn K mainGlobals "str" = some none)
    (z_all : PySem.W.nsIn K mainGlobals "all" = some none)
    (z_tuple : PySem.W.nsIn K mainGlobals "tuple" = some none)
    (z_abs : PySem.W.nsIn K mainGlobals "abs" = some none)
    (z_range : PySem.W.nsIn K mainGlobals "range" = some none)
    (z_int : PySem.W.nsIn K mainGlobals "int" = some none)
    (z_list : PySem.W.nsIn K mainGlobals "list" = some none)
    (z_max : PySem.W.nsIn K mainGlobals "max" = some none)
    (z_min : PySem.W.nsIn K mainGlobals "min" = some none)
    (z_bool : PySem.W.nsIn K mainGlobals "bool" = some none)
    (y_MOST_SIGNS : PySem.W.nsIn K mainGlobals "MOST_SIGNS" = some (some (.int 8 tMS)))
    (y_ROW_SIGNS : PySem.W.nsIn K mainGlobals "ROW_SIGNS" = some (some (.str "nby" tRS)))
    (y_MOST_YOUNG : PySem.W.nsIn K mainGlobals "MOST_YOUNG" = some (some (.int 3 tMY))) :
    LamX.LawAtS l w K CX0 7 63 "_law_script" mg fa h := by
  have m_len := PySem.W.mg_none_of X G z_len
  have m_isinstance := PySem.W.mg_none_of X G z_isinstance
  have m_str := PySem.W.mg_none_of X G z_str
  have m_all := PySem.W.mg_none_of X G z_all
  have m_tuple := PySem.W.mg_none_of X G z_tuple
  have m_abs := PySem.W.mg_none_of X G z_abs
  have m_range := PySem.W.mg_none_of X G z_range
  have m_int := PySem.W.mg_none_of X G z_int
  have m_list := PySem.W.mg_none_of X G z_list
  have m_max := PySem.W.mg_none_of X G z_max
  have m_min := PySem.W.mg_none_of X G z_min
  have m_bool := PySem.W.mg_none_of X G z_bool
  have c_MOST_SIGNS := PySem.W.mg_of X G y_MOST_SIGNS
  have c_ROW_SIGNS := PySem.W.mg_of X G y_ROW_SIGNS
  have c_MOST_YOUNG := PySem.W.mg_of X G y_MOST_YOUNG
  have D_is_written_in : DfC K mg "is_written_in" st_is_written_in ["thing", "signs"] cd0 := dfc_mk X G a0 l0 c0 k0 (fun _ _ _ _ _ _ us hl => match us, hl with | [_, _], _ => rfl)
  have T0 := hTab "is_written_in" cd0 pp0 tR0 (tabIn_mk a0 l0 rfl tE0 tG0)
  have D_is_row : Df K mg "is_row" st_is_row ["thing"] := df_mk X G a1 l1 c1 k1 (fun _ _ _ _ _ _ us hl => match us, hl with | [_], _ => rfl)
  have D_is_row_of : Df K mg "is_row_of" st_is_row_of ["thing", "places"] := df_mk X G a2 l2 c2 k2 (fun _ _ _ _ _ _ us hl => match us, hl with | [_, _], _ => rfl)
  have D_is_tuple_of : Df K mg "is_tuple_of" st_is_tuple_of ["thing", "many"] := df_mk X G a3 l3 c3 k3 (fun _ _ _ _ _ _ us hl => match us, hl with | [_, _], _ => rfl)
  have D_is_family : DfC K mg "is_family" st_is_family ["thing"] cd4 := dfc_mk X G a4 l4 c4 k4 (fun _ _ _ _ _ _ us hl => match us, hl with | [_], _ => rfl)
  have T4 := hTab "is_family" cd4 pp4 tR4 (tabIn_mk a4 l4 rfl tE4 tG4)
  have D__law_cell : Df K mg "_law_cell" st__law_cell ["_law_script", "_law_k"] := df_mk X G a5 l5 c5 k5 (fun _ _ _ _ _ _ us hl => match us, hl with | [_, _], _ => rfl)
  have D__law_numbers : Df K mg "_law_numbers" st__law_numbers ["_law_cell_here", "_law_many"] := df_mk X G a6 l6 c6 k6 (fun _ _ _ _ _ _ us hl => match us, hl with | [_, _], _ => rfl)
  have D__law_mark : Df K mg "_law_mark" st__law_mark ["_law_one", "_law_other"] := df_mk X G a7 l7 c7 k7 (fun _ _ _ _ _ _ us hl => match us, hl with | [_, _], _ => rfl)
  have D__law_row_of : Df K mg "_law_row_of" st__law_row_of ["_law_one", "_law_other"] := df_mk X G a8 l8 c8 k8 (fun _ _ _ _ _ _ us hl => match us, hl with | [_, _], _ => rfl)
  have D__law_any_half : Df K mg "_law_any_half" st__law_any_half ["_law_x", "_law_places"] := df_mk X G a9 l9 c9 k9 (fun _ _ _ _ _ _ us hl => match us, hl with | [_, _], _ => rfl)
  have D__law_family : Df K mg "_law_family" st__law_family ["_law_xs", "_law_most", "_law_plain"] := df_mk X G a10 l10 c10 k10 (fun _ _ _ _ _ _ us hl => match us, hl with | [_, _, _], _ => rfl)
  have D__law_odd : Df K mg "_law_odd" st__law_odd ["_law_family_here", "_law_x"] := df_mk X G a11 l11 c11 k11 (fun _ _ _ _ _ _ us hl => match us, hl with | [_, _], _ => rfl)
  have D_law : Df K mg "law" st_law ["_law_script"] := df_mk X G a12 l12 c12 k12 (fun _ _ _ _ _ _ us hl => match us, hl with | [_], _ => rfl)
  have e := hfa.symm.trans (PySem.W.mg_of X G a12)
  cases e
  refine ⟨PySem.W.fnOf "law" "law" (defArgs st_law) (defBody st_law) (defScope st_law) .none kV12 dc12 pm12 an12 cd12 ct12, [(cd0, pp0), (cd4, pp4)], spT [pp0, pp4] (sp_law K [pp0, pp4]), ?_, ?_, ?_, fun s v => .of_eq rfl, fun H a ns hl _ hH hS => ?_, fun base _ _ hB => ?_⟩
  · intro p hp
    simp only [List.mem_cons, List.not_mem_nil, or_false] at hp
    rcases hp with rfl | rfl
    · exact T0.2
    · exact T4.2
  · intro p hp
    simp only [List.mem_cons, List.not_mem_nil, or_false] at hp
    rcases hp with rfl | rfl
    · exact tN0
    · exact tN4
  · intro p hp
    simp only [List.mem_cons, List.not_mem_nil, or_false] at hp
    rcases hp with rfl | rfl
    · exact T0.1
    · exact T4.1
  · have hT : ∀ b ∈ ([pp0, pp4] : List Addr), H b = some (.tbl #[]) := fun b hb => by
      obtain ⟨p, hp, e⟩ := List.mem_map.mp (show b ∈ ([(cd0, pp0), (cd4, pp4)] : List (Addr × Addr)).map (·.2) from hb)
      rw [← e]
      exact hH p hp
    exact ⟨hT, a, ns, rfl, xtab_sq hT hS, hl, fun P hP => xtab_in hP, fun H2 e2 => ⟨fun P hP => e2 _ _ (xtab_in hP), fun _ _ => rfl⟩⟩
  · refine tab_law ?_
    have B0 : GxR.TabB base mg cd0 pp0 := let z := hB (cd0, pp0) (by simp); ⟨z.code, z.bm, z.gP⟩
    have B4 : GxR.TabB base mg cd4 pp4 := let z := hB (cd4, pp4) (by simp); ⟨z.code, z.bm, z.gP⟩
    have A__law_numbers := ok__law_numbers (P := l.prog) (w := w) (base := base) (ts := [pp0, pp4]) D__law_numbers m_abs m_range m_int
    have A__law_cell := ok__law_cell (P := l.prog) (w := w) (base := base) (ts := [pp0, pp4]) D__law_cell m_len
    have A__law_any_half := ok__law_any_half (P := l.prog) (w := w) (base := base) (ts := [pp0, pp4]) D__law_any_half m_range
    have A__law_mark := ok__law_mark (P := l.prog) (w := w) (base := base) (ts := [pp0, pp4]) D__law_mark
    have A__law_row_of := ok__law_row_of (P := l.prog) (w := w) (base := base) (ts := [pp0, pp4]) D__law_row_of m_range m_len A__law_mark
    have A__law_family := ok__law_family (P := l.prog) (w := w) (base := base) (ts := [pp0, pp4]) D__law_family m_int m_range m_tuple A__law_any_half A__law_row_of
    have A_is_tuple_of := ok_is_tuple_of (P := l.prog) (w := w) (base := base) (ts := [pp0, pp4]) D_is_tuple_of m_len m_isinstance m_tuple
    have A_is_written_in := ok_is_written_in (P := l.prog) (w := w) (base := base) (ts := [pp0, pp4]) D_is_written_in B0 (by simp) m_len m_isinstance m_str m_all c_MOST_SIGNS
    have A_is_row := ok_is_row (P := l.prog) (w := w) (base := base) (ts := [pp0, pp4]) D_is_row c_ROW_SIGNS A_is_written_in
    have A_is_row_of := ok_is_row_of (P := l.prog) (w := w) (base := base) (ts := [pp0, pp4]) D_is_row_of m_len A_is_row
    have A_is_family := ok_is_family (P := l.prog) (w := w) (base := base) (ts := [pp0, pp4]) D_is_family B4 (by simp) m_len m_isinstance m_tuple m_all c_MOST_YOUNG A_is_tuple_of A_is_row_of A_is_row
    have A__law_odd := ok__law_odd (P := l.prog) (w := w) (base := base) (ts := [pp0, pp4]) D__law_odd m_list
    have A_law := ok_law (P := l.prog) (w := w) (base := base) (ts := [pp0, pp4]) D_law m_range m_max m_min m_len m_isinstance m_bool A__law_numbers A__law_cell A__law_family A_is_family A__law_odd
    obtain ⟨f9, fd9, F9, b9, g9, G9⟩ := A_law
    have e9 := g9.symm.trans hfa
    cases e9
    exact at_fd G9 F9 (fun_mk (st := st_law) l12 c12 k12)
end Hid
open PySem PySem.W PyProof.Rows
set_option maxHeartbeats 0 in
theorem PySem.Challenge.cw_hidhalves_k37_what_families_are_holds : PySem.Challenge.rw_hidhalves_k37_what_families_are.Holds := by
  w_on; o_law; k_head; (case hw => w_witness2)
  k_fill
  refine Hid.walk_ofG (l := PySem.Challenge.rw_hidhalves_k37_what_families_are) (n := 63) (k := 7) (x := "_law_script") (CX := fun _ => L2.CX0) rfl (by decide) rfl ⟨rfl, by decide, by decide⟩ (fun w h Y => PySem.W.kIn_of Y) ?F (fun _ _ _ _ _ h => h)
  case F =>
    intro w mg fa h KX G hmg hTab
    refine' Hid.all_mk KX G hmg hTab ?a0 ?l0 ?c0 ?k0 ?tE0 ?tG0 ?tN0 ?tR0 ?a1 ?l1 ?c1 ?k1 ?a2 ?l2 ?c2 ?k2 ?a3 ?l3 ?c3 ?k3 ?a4 ?l4 ?c4 ?k4 ?tE4 ?tG4 ?tN4 ?tR4 ?a5 ?l5 ?c5 ?k5 ?a6 ?l6 ?c6 ?k6 ?a7 ?l7 ?c7 ?k7 ?a8 ?l8 ?c8 ?k8 ?a9 ?l9 ?c9 ?k9 ?a10 ?l10 ?c10 ?k10 ?a11 ?l11 ?c11 ?k11 ?a12 ?l12 ?c12 ?k12 ?z_len ?z_isinstance ?z_str ?z_all ?z_tuple ?z_abs ?z_range ?z_int ?z_list ?z_max ?z_min ?z_bool ?y_MOST_SIGNS ?y_ROW_SIGNS ?y_MOST_YOUNG
    (case a0 => k_is)
    (case l0 => k_is)
    (case c0 => k_is)
    (case k0 => k_is)
    (case tE0 => k_is)
    (case tG0 => rfl)
    (case tN0 => first | rfl | with_unfolding_all rfl)
    (case tR0 => first | rfl | decide +kernel)
    (case a1 => k_is)
    (case l1 => k_is)
    (case c1 => k_is)
    (case k1 => k_is)
    (case a2 => k_is)
    (case l2 => k_is)
    (case c2 => k_is)
    (case k2 => k_is)
    (case a3 => k_is)
    (case l3 => k_is)
    (case c3 => k_is)
    (case k3 => k_is)
    (case a4 => k_is)
    (case l4 => k_is)
    (case c4 => k_is)
    (case k4 => k_is)
    (case tE4 => k_is)
    (case tG4 => rfl)
    (case tN4 => first | rfl | with_unfolding_all rfl)
    (case tR4 => first | rfl | decide +kernel)
    (case a5 => k_is)
    (case l5 => k_is)
    (case c5 => k_is)
    (case k5 => k_is)
    (case a6 => k_is)
    (case l6 => k_is)
    (case c6 => k_is)
    (case k6 => k_is)
    (case a7 => k_is)
    (case l7 => k_is)
    (case c7 => k_is)
    (case k7 => k_is)
    (case a8 => k_is)
    (case l8 => k_is)
    (case c8 => k_is)
    (case k8 => k_is)
    (case a9 => k_is)
    (case l9 => k_is)
    (case c9 => k_is)
    (case k9 => k_is)
    (case a10 => k_is)
    (case l10 => k_is)
    (case c10 => k_is)
    (case k10 => k_is)
    (case a11 => k_is)
    (case l11 => k_is)
    (case c11 => k_is)
    (case k11 => k_is)
    (case a12 => k_is)
    (case l12 => k_is)
    (case c12 => k_is)
    (case k12 => k_is)
    (case z_len => k_is)
    (case z_isinstance => k_is)
    (case z_str => k_is)
    (case z_all => k_is)
    (case z_tuple => k_is)
    (case z_abs => k_is)
    (case z_range => k_is)
    (case z_int => k_is)
    (case z_list => k_is)
    (case z_max => k_is)
    (case z_min => k_is)
    (case z_bool => k_is)
    (case y_MOST_SIGNS => k_is)
    (case y_ROW_SIGNS => k_is)
    (case y_MOST_YOUNG => k_is)
