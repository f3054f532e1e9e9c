import PyProof.Rows.All
import Wide.All
import OpenK.AllK
import Wide.FinOn
import PyProof.EqAt
import PyProof.EqKinds
import PyProof.TupleCall
import HandS.ForMost
import HandS.Wide
import HandS.WideBits
import HandS.IsInst
import HandS.TupMul
import HandS.TupAny
import HandS.Style
import HandS.Conv
import HandS.Evl
import HandS.Rev
import HandS.SortRule
import PySem.Challenge.RW_greenroads_k03_shortest_greens
set_option Elab.async false
set_option linter.all false
set_option maxRecDepth 100000
set_option maxHeartbeats 2000000
/-! Defs under which no guard stands (so that repr of lists may be asked), and rules that the layer lacks. -/
namespace Gr
open PySem PySem.Spec PyProof.Rows L2

/-- no repr is under way around the call -/
abbrev Free (A : Around) : Prop := A.guards = some []
theorem Free.deep {A : Around} (h : Free A) (env : Env) : Free (A.deeper env) := h

structure FnG (P : Program) (w : World) (K : PySem.W.Frag) (mg : Str → Option Value) (base : Heap) (C : CXT) (k : Nat) (f : Addr) (fd : FuncData) (ps : List Str) (sp : Sp) : Prop where
  sized : ∀ xs G Z E, sp xs G Z E → xs.length = ps.length
  go : ∀ (A : Around) (envs : List Env) (st : Shared) (G : Hp) (ar : Args) (vals : List Value) (xs : List V) (Z : VK) (E : XK), Free A → Room k A → Env0 P w K mg base A envs st G →
    BindsTo st fd ar (ps.zip vals) → Vals xs vals → sp xs G Z E → codeAny (model P w) A (.call (.ref f) ar) (CR C envs P w G st Z E) st

section
variable {P : Program} {w : World} {K : PySem.W.Frag} {mg : Str → Option Value} {base : Heap} {C : CXT} {k : Nat} {f : Addr} {fd : FuncData} {ps : List Str} {sp : Sp}
theorem FnG.ofOk (F : FnOk P w K mg base C k f fd ps sp) : FnG P w K mg base C k f fd ps sp := ⟨F.len, fun A o st G ar vals xs Z E _ => F.run A o st G ar vals xs Z E⟩

theorem fnG_body {name qual : Str} {params : Arguments} {body : List Stmt} {sc : Scope} {dV kV doc pm cdv ct oc : Value} {an od : Option Addr} {osl : Array (Option Value)} {N : List Str}
    (lk : K.lookup f = some ⟨oc, od, .func (PySem.W.fnOf name qual params body sc dV kV doc pm an cdv ct), osl⟩) (hc : PySem.W.codeIn K cdv qual = true) (S : FnScope N ps sc) (sized : ∀ xs G Z E, sp xs G Z E → xs.length = ps.length)
    (hb : ∀ (A : Around) (envs : List Env) (st : Shared) (G : Hp) (xs : List V) (Z : VK) (E : XK), Free A → Room k (A.deeper (envOfC qual sc st.heap.objs.size f cdv)) → sp xs G Z E →
      ∃ t, PSs (cxOf C P w K mg base N qual sc f cdv A envs st G E) body t ∧ t { nx := fun _ G' => Z .non G', rt := Z } (start N xs) G) :
    FnG P w K mg base C (k + 1) f (PySem.W.fnOf name qual params body sc dV kV doc pm an cdv ct) ps sp where
  sized := sized
  go := by
    intro A envs st G ar vals xs Z E hf room e0 bt rv want
    have kin : K.In st.heap := e0.mod.kin.keeps (fun b o q => (e0.bs b o q).1)
    have nl : st.heap.NoLimit := e0.mod.nolimit.keeps (fun b o q => (e0.bs b o q).1)
    have kinds : ∀ q ∈ ps.zip vals, sc.names.lookup q.1 = some .local ∨ (sc.names.lookup q.1 = some .cell ∧ ((cellsFrom (st.heap.objs.size + 1) sc.names []).lookup q.1).isSome = true) := by
      rintro ⟨n, v⟩ hq
      cases S.par n (List.of_mem_zip hq).1 with
      | inl h => exact Or.inl h
      | inr h => exact Or.inr ⟨h, PySem.W.cellsFrom_some _ _ _ (Or.inl h)⟩
    apply codeAny_call_function room.depth (kin _ _ lk) rfl S.co S.gen rfl (PySem.W.codeRec_of kin hc)
    apply bt
    apply wpAny_newFunctionEnv_cells S.kind kinds
    intro env he s1 x
    cases he
    refine ⟨nl.keeps x.toInCall.keep, codeAny_func ?_⟩
    obtain ⟨t, ht, hq⟩ := hb A envs st G xs Z E hf (room.deeper _) want
    have J0 : Inv (cxOf C P w K mg base N qual sc f cdv A envs st G E) [] (start N xs) G s1 := inv_start S room.hd e0 (sized _ _ _ _ want) rv x
    apply wpAny_mono (ht.run [] s1 (start N xs) G _ J0 hq) _ (fun _ _ h => h)
    intro fl s2 hs
    cases fl with
    | ret u =>
      obtain ⟨v, τ, G2, J, r2, q2⟩ := hs
      exact ⟨v, G2, J.os, J.bare, J.base, J.hok, r2, q2⟩
    | next =>
      obtain ⟨τ, G2, J, q2⟩ := hs
      exact ⟨.non, G2, J.os, J.bare, J.base, J.hok, rfl, q2⟩
    | brk => exact (hs.elim fun _ h => h.elim fun _ h => h.2).elim
    | cont => exact (hs.elim fun _ h => h.elim fun _ h => h.2).elim

/-- a def by its body, guards known -/
theorem okG {x qual : Str} {st : Stmt} {N : List Str} (F : Fun K x qual st f fd) (S : FnScope N ps (defScope st)) (sized : ∀ xs G Z E, sp xs G Z E → xs.length = ps.length)
    (hb : ∀ (cdv : Value) (A : Around) (envs : List Env) (s : Shared) (G : Hp) (xs : List V) (Z : VK) (E : XK), Free A → Room k (A.deeper (envOfC qual (defScope st) s.heap.objs.size f cdv)) → sp xs G Z E →
      ∃ t, PSs (cxOf CX0 P w K mg base N qual (defScope st) f cdv A envs s G E).nox (defBody st) t ∧ t { nx := fun _ G' => Z .non G', rt := Z } (start N xs) G) : FnG P w K mg base CX0 (k + 1) f fd ps sp := by
  obtain ⟨oc, od, kV, doc, pm, an, cdv, ct, osl, rfl, lk, hcd⟩ := F.ex
  apply fnG_body lk hcd S sized
  intro A envs s G xs Z E hf hr hs
  obtain ⟨t, h, q⟩ := hb cdv A envs s G xs Z E hf hr hs
  exact ⟨t, h.nox, q⟩
end

section
variable {X : Cx} {C : CXT} {k : Nat} {f : Addr} {fd : FuncData} {ps : List Str} {sp : Sp} {dvs : List V} {ds : List Value} {E : XK} {x : Str} {p pos : Pos} {e : Expr} {es : List Expr} {t : TA}
theorem pe_callG (F : FnG X.prog X.w X.K X.mg X.base C k f fd ps sp) (hf : Free X.A) (hr : Room k X.A) (hg : Gl X x) (hm : X.mg x = some (.ref f)) (hk : PySem.W.keepIn X.K (.ref f) = true) (hb : Binds X.K fd ps ds) (hd : Vals dvs ds)
    (hx : Passes C X E) (ha : PA X (e :: es) t) (hdb : (x == ("__debug__" : Str)) = false := by decide) (he : starEach (e :: es) X.env = (false, eval e X.env) :: starEach es X.env := by rfl)
    (hpl : (backTo pos (starEach es X.env)).any (·.1) = false := by rfl) : PE X (.Call (.Name x p) (e :: es) [] pos) (tCall sp dvs E t) where
  run := by
    intro pins s σ H Q I h
    apply wpAny_Call_Name_kw
    apply ld_glob I hg hm _ hdb
    apply PySem.W.callWith_K (h₀ := X.base) I.ok.mod.kin hk _ he hpl
    apply thn (ha.run pos pins s σ H _ I h)
    rintro us s1 ⟨vs, H1, I1, r, q⟩
    have both : Vals (vs ++ dvs) (us ++ ds) := r.append hd
    have many : (us ++ ds).length = ps.length := both.length.symm.trans (F.sized _ _ _ _ q)
    refine ⟨I1.kIn, wpAny_call (codeAny_mono (F.go X.A X.stack s1 H1 ⟨us, []⟩ (us ++ ds) (vs ++ dvs) Q E hf hr I1.env0 (hb s1 us I1.kIn many) both q) ?_)⟩
    intro res s2 hq
    match res, hq with
    | .ok (.ret u), hq => exact I1.after hq
    | .error err, hq => exact hx pins σ H1 s1 err s2 I1 hq
end

/-! ### rules -/
section
variable {X : Cx}
def CPowW (i j : Int) : Prop := 0 ≤ j ∧ (Builtin.Int.intBits i : Int) * j ≤ 2 ^ 27
theorem op_powW : OpR X (binaryOp .Pow) (rI CPowW fun i j => .int (i ^ j.toNat)) := opI fun _ _ _ _ _ _ _ hc q => pow_int hc.1 hc.2 q
theorem bits_le {i : Int} {n : Nat} (h : i.natAbs < 2 ^ n) (h0 : 0 < n) : Builtin.Int.intBits i ≤ n := by
  have a := PySem.Flt.log2_lt_of h0 h
  unfold Builtin.Int.intBits
  split <;> omega
theorem cube_ok {i : Int} (h : i.natAbs < 2 ^ 1000) : CPowW i 3 := by
  have a := bits_le h (by decide)
  exact ⟨by decide, by omega⟩

/-- repr of a list, a tuple, what lies in them -/
def rRepr (K : PySem.W.Frag) : List V → Hp → VK → Prop := fun xs H Q => ∃ (a : Addr) (d : PyData), xs = [.ref a] ∧ Dp K H (.ref a) d ∧ d.showable = true ∧ d.hasDict = false ∧ d.depth ≤ 40 ∧ d.shown.length ≤ sizeLine ∧ Q (.str d.shown) H
theorem call_reprD (hf : Free X.A) (hu : X.A.units + 64 < cLine) : CallR X (.builtin "repr") (rRepr X.K) := by
  rintro pins s σ H xs us Q I r ⟨a, d, rfl, hD, hs, hd, h20, hz, q⟩
  obtain ⟨u, rfl, hr⟩ := vals1 r
  cases (show u = Value.ref a from hr)
  obtain ⟨as, rd⟩ := Dp.reads I d (.ref a) (.ref a) hD rfl
  exact repr_of_reads' rd hs (fun e => by rw [hd] at e; cases e) hf (by omega) (fun _ _ e => e) (fun h' u tk hk => ⟨.str d.shown, H, I.kept hk, ⟨u, rfl⟩, q⟩) hz
end

/-! ### the law's own call -/
section
variable {P : Program} {w : World} {K : PySem.W.Frag} {mg mb : Str → Option Value} {k : Nat} {fa a : Addr} {fd : FuncData} {x : Str} {sp : Sp} {st : Shared} {vs : List Value} {ns : List Int}
/-- behind the top: the heap with what G tracks hidden is a module's base -/
theorem base_mod {G : Hp} (kin : K.In st.heap) (hg : st.heap.Ns mainGlobals mg) (hb : st.heap.Ns builtinsNs mb) (hbb : ∀ y : Str, y ≠ "__name__" → mb y = bootBuiltins y) (nl : st.heap.NoLimit)
    (notD : ∀ b o es ep, st.heap.get? b = some o → o.data = .dict es ep → G b = none) (notK : ∀ b o, K.lookup b = some o → G b = none) :
    K.In (hidT st.heap G) ∧ (hidT st.heap G).Ns mainGlobals mg ∧ Mod K mg (hidT st.heap G) := by
  have nsH : ∀ {b : Addr} {m : Str → Option Value}, st.heap.Ns b m → (hidT st.heap G).Ns b m := by
    rintro b m ⟨o, es, ep, e, d, rest⟩
    exact ⟨o, es, ep, hidT_get e (notD b o es ep e d), d, rest⟩
  have kH : K.In (hidT st.heap G) := fun b o e => hidT_get (kin b o e) (notK b o e)
  obtain ⟨mc, c1, c2⟩ := nl
  exact ⟨kH, nsH hg, kH, nsH hg, ⟨mb, nsH hb, hbb⟩, mc, nsH c1, c2⟩

theorem law_run {G : Hp} (bm : K.In (hidT st.heap G) ∧ (hidT st.heap G).Ns mainGlobals mg ∧ Mod K mg (hidT st.heap G)) (no : st.gens = #[]) (only : Only G) (sq : SqL K G a (ns.map V.int)) (ok : HOk P w G st.heap) (room : Room k callerA)
    (F : ∀ base : Heap, K.In base → base.Ns mainGlobals mg → FnG P w K mg base CX0 k fa fd [x] sp) (bt : ∀ (s : Shared) (u : Value), BindsTo s fd ⟨[u], []⟩ [(x, u)])
    (want : sp [.ref a] G (fun v _ => v = .bl true) fun _ _ _ => False) :
    codeAny (model P w) callerA (.call (.ref fa) ⟨[.ref a], []⟩) (fun r s2 => r = .ok (.ret (.bool true)) ∧ OldK st.heap s2.heap ∧ s2.os = st.os ∧ AllBare s2.gens) st := by
  obtain ⟨b1, b2, b3⟩ := bm
  have e0 : Env0 P w K mg (hidT st.heap G) callerA [] st G :=
    { frames := rfl, mod := b3, bs := fun b o e => of_hidT e, bsz := Nat.le_of_eq (hidT_size _ _), funs := trivial, frf := fun b h => (List.not_mem_nil (show b ∈ ([] : List Addr) from h)).elim, hok := ok, bare := .of_eq no }
  apply codeAny_mono ((F _ b1 b2).go callerA [] st G ⟨[.ref a], []⟩ [.ref a] [.ref a] _ _ rfl room e0 (bt st (.ref a)) (.cons rfl .nil) want)
  intro r s2 h
  match r, h with
  | .ok (.ret u), h =>
    obtain ⟨v, G2, os, bare, un, ok2, rv, q⟩ := h
    cases (show v = .bl true from q)
    cases (show u = Value.bool true from rv)
    refine ⟨rfl, OldK.of_keep (fun b o e => ?_), os, bare⟩
    rcases only b with z | ⟨ob, xs, z⟩
    · exact un.keep b o e z (fun h => (List.not_mem_nil (show b ∈ ([] : List Addr) from h)).elim) (by simp)
    · have e1 := (ok b _ z).1
      have e2 := (ok2 b _ (un.frzs b ob _ z)).1
      rw [e] at e1
      cases e1
      exact e2

theorem law_callG (kin : K.In st.heap) (hg : st.heap.Ns mainGlobals mg) (hb : st.heap.Ns builtinsNs mb) (hbb : ∀ y : Str, y ≠ "__name__" → mb y = bootBuiltins y) (nl : st.heap.NoLimit) (no : st.gens = #[])
    (ha : st.heap.get? a = some { cls := .type "list", data := .seq vs.toArray }) (hi : IntsAre vs ns) (hl : ns.length ≤ sizeLine) (room : Room k callerA)
    (F : ∀ base : Heap, K.In base → base.Ns mainGlobals mg → FnG P w K mg base CX0 k fa fd [x] sp) (bt : ∀ (s : Shared) (u : Value), BindsTo s fd ⟨[u], []⟩ [(x, u)])
    (want : ∀ G : Hp, Only G → SqL K G a (ns.map V.int) → sp [.ref a] G (fun v _ => v = .bl true) fun _ _ _ => False) :
    codeAny (model P w) callerA (.call (.ref fa) ⟨[.ref a], []⟩) (fun r s2 => r = .ok (.ret (.bool true)) ∧ OldK st.heap s2.heap ∧ s2.os = st.os ∧ AllBare s2.gens) st := by
  have rv := vals_ints hi
  cases hk : K.lookup a with
  | some o =>
    have e := kin a o hk
    rw [ha] at e
    cases e
    have sq : SqL K (fun _ => none) a (ns.map V.int) := Or.inr ⟨_, vs.toArray, _, hk, rfl, rfl, rfl, by rw [List.size_toArray, hi.length]; exact hl, by simpa using rv⟩
    exact law_run (G := fun _ => none) (base_mod kin hg hb hbb nl (fun _ _ _ _ _ _ => rfl) fun _ _ _ => rfl) no (fun _ => Or.inl rfl) sq (fun b u z => nomatch (show (none : Option HO) = some u from z)) room F bt (want _ (fun _ => Or.inl rfl) sq)
  | none =>
    have at1 : (fun b => if b = a then some (HO.frz { cls := .type "list", data := .seq vs.toArray } (.lst (ns.map V.int))) else none : Hp) a = some (HO.frz { cls := .type "list", data := .seq vs.toArray } (.lst (ns.map V.int))) := if_pos rfl
    generalize hG : (fun b => if b = a then some (HO.frz { cls := .type "list", data := .seq vs.toArray } (.lst (ns.map V.int))) else none : Hp) = G at at1
    have at0 : ∀ b, b ≠ a → G b = none := fun b hb => by rw [← hG]; exact if_neg hb
    have sq : SqL K G a (ns.map V.int) := Or.inl (Or.inr ⟨_, at1⟩)
    have only : Only G := fun b => by
      by_cases hb : b = a
      · exact Or.inr ⟨_, _, hb ▸ at1⟩
      · exact Or.inl (at0 b hb)
    refine law_run (base_mod kin hg hb hbb nl (fun b o es ep e d => ?_) fun b o e => ?_) no only sq (fun b u z => ?_) room F bt (want _ only sq)
    · by_cases hb : b = a
      · rw [hb, ha] at e
        cases e
        cases (show Data.seq vs.toArray _ = Data.dict es ep from d)
      · exact at0 b hb
    · exact at0 b (fun hb => by rw [hb, hk] at e; cases e)
    · by_cases hb : b = a
      · subst hb
        rw [at1] at z
        cases z
        exact ⟨ha, by rw [List.length_map]; exact hl, vs, _, rv, ha⟩
      · rw [at0 b hb] at z
        cases z
end

theorem walkG {l : PySem.W.OpenLaw} {n k : Nat} {q : Program} {loose : List Str} {XP : (Str → Option Value) → Heap → Prop} {YP : World → Heap → Prop} {d : DefRec} {K : Params → PySem.W.Frag} {sp : PySem.W.Frag → Sp} {x : Str}
    (hn : l.most = some n) (hn2 : n ≤ sizeLine) (hdf : d.params.defaults = []) (hr : Room k callerA) (hY : ∀ (w : World) (h : Heap), YP w h → (K w.params).In h)
    (F : ∀ (w : World) (mg : Str → Option Value) (fa : Addr) (h : Heap), (K w.params).In h → h.Ns mainGlobals mg → mg d.name = some (.ref fa) →
      ∃ fd : FuncData, (∀ (s : Shared) (u : Value), BindsTo s fd ⟨[u], []⟩ [(x, u)]) ∧ ∀ base : Heap, (K w.params).In base → base.Ns mainGlobals mg → FnG l.prog w (K w.params) mg base CX0 k fa fd [x] (sp (K w.params)))
    (hsp : ∀ (K : PySem.W.Frag) (G : Hp) (a : Addr) (ns : List Int), ns.length ≤ n → Only G → SqL K G a (ns.map V.int) → sp K [.ref a] G (fun v _ => v = .bl true) fun _ _ _ => False) :
    PySem.W.WalkO q loose XP YP l.row.toRowW d [] (fun f vs => PySem.call f vs) := by
  apply Att.attach_call hn hdf
  intro w s₀ s₁ mg mb fa o pm cd doc a vs ns G Y ho hd hcd hmg hobj hints hlen hg
  have kin := hY w _ Y
  obtain ⟨fd, hb, hF⟩ := F w mg fa _ kin G.T.g hmg
  exact law_callG kin G.T.g G.T.b G.T.builtins G.T.nolimit hg hobj hints (Nat.le_trans hlen hn2) hr hF hb (fun H hO hS => hsp (K w.params) H a ns hlen hO hS)
end Gr

set_option Elab.async false
set_option linter.all false
set_option maxRecDepth 100000
set_option maxHeartbeats 4000000
/-! t[::-1] of a tuple, repr of what is no object. -/
namespace Gr
open PySem PySem.Spec PyProof.Rows L2 HT
section
variable {prog : Program} {w : World} {A : Around} {E : Value → Shared → Prop} {s : Shared}
theorem back_places (n : Nat) : Builtin.Slice.slicePlaces ((n : Int) - 1) (-1) (-1) = n := by
  unfold Builtin.Slice.slicePlaces
  rw [if_neg (by decide)]
  by_cases h : (n : Int) - 1 > -1
  · rw [if_pos h]
    simp only [Int.neg_neg, Int.ediv_one]
    omega
  · rw [if_neg h]; omega
theorem back_applied {sl : Addr} {n : Nat} {t : Tok} {Q : Int × Int × Nat → Shared → Prop} (hs : s.heap.IsSliceOf sl .none .none (.int (-1) t)) (h : Q ((n : Int) - 1, -1, n) s) :
    wpAny (model prog w) A (Builtin.Slice.sliceApplied (.ref sl) (pure (n : Int))) Q E s := by
  obtain ⟨os, e1, e2, e3⟩ := id hs
  unfold Builtin.Slice.sliceApplied Builtin.Slice.sliceFields
  apply wpAny_bind
  apply wpAny_bind
  refine wpAny_field e1 e3 (x := .none) rfl ?_
  apply wpAny_bind
  refine wpAny_field e1 e3 (x := .none) rfl ?_
  apply wpAny_bind
  refine wpAny_field e1 e3 (x := .int (-1) t) rfl (wpAny_pure ?_)
  refine wpAny_bind (slicePart_int ?_)
  show wpAny _ _ (if ((-1 : Int) == 0) = true then _ else _) _ _ s
  rw [if_neg (by decide)]
  apply wpAny_bind
  apply slicePart_none
  apply wpAny_bind
  apply slicePart_none
  refine wpAny_bind (wpAny_pure ?_)
  show wpAny _ _ (pure ((n : Int) - 1, (-1 : Int), Builtin.Slice.slicePlaces ((n : Int) - 1) (-1) (-1))) _ _ s
  rw [back_places]
  exact wpAny_pure h
theorem fm_congr {α β : Type} {f g : α → Option β} : ∀ {l : List α}, (∀ x ∈ l, f x = g x) → l.filterMap f = l.filterMap g
  | [], _ => rfl
  | a :: r, h => by
    rw [List.filterMap_cons, List.filterMap_cons, h a List.mem_cons_self, fm_congr fun x hx => h x (List.mem_cons_of_mem _ hx)]
theorem back_pick (xs : Array Value) : ((List.range xs.size).filterMap fun (m : Nat) => xs[(((xs.size : Int) - 1) + (m : Int) * (-1)).toNat]?).toArray = xs.toList.reverse.toArray := by
  congr 1
  have key : ∀ m ∈ List.range xs.size, xs[(((xs.size : Int) - 1) + (m : Int) * (-1)).toNat]? = xs.toList.reverse[m]? := by
    intro m hm
    have hm' : m < xs.size := List.mem_range.mp hm
    rw [List.getElem?_reverse (by simpa using hm')]
    have e : (((xs.size : Int) - 1) + (m : Int) * (-1)).toNat = xs.toList.length - 1 - m := by
      rw [Array.length_toList]; omega
    rw [e, Array.getElem?_toList]
  rw [fm_congr key]
  have : ∀ l : List Value, (List.range l.length).filterMap (fun m => l[m]?) = l := by
    intro l
    induction l with
    | nil => rfl
    | cons a r ih =>
      rw [List.length_cons, List.range_succ_eq_map, List.filterMap_cons]
      show a :: _ = _
      rw [List.filterMap_map]
      exact congrArg (a :: ·) ih
  have z := this xs.toList.reverse
  rw [List.length_reverse, Array.length_toList] at z
  exact z
theorem getItem_tuple_back {t sl : Addr} {items : Array Value} {u : Tok} {Q : Value → Shared → Prop} (ht : IsTup s.heap t items) (hs : s.heap.IsSliceOf sl .none .none (.int (-1) u))
    (h : Q (.ref s.heap.objs.size) { s with heap := s.heap.push { cls := .type "tuple", data := .seq items.toList.reverse.toArray } }) (hsz : items.size ≤ sizeLine) : wpAny (model prog w) A (getItem (.ref t) (.ref sl)) Q E s := by
  have ok : sizeOk (.seq items.toList.reverse.toArray) := by
    show items.toList.reverse.toArray.size ≤ sizeLine
    rw [List.size_toArray, List.length_reverse, Array.length_toList]
    exact hsz
  obtain ⟨os, e1, e2, e3⟩ := id hs
  have tS : s.TypeIs (.ref sl) "slice" := ⟨os, e1, e2⟩
  unfold getItem
  try with_reducible refine wpAny_holding ?_
  first | refine wpAny_bind (wpAny_pure ?_) | skip
  apply wpAny_bind
  apply wpAny_sequenceKey ht.typeIs (by decide)
  apply wpAny_bind
  refine wpAny_callSpecial?_slot (name := Str.ofString "__getitem__") ht.typeIs PyProof.Rows.slot_tuple_getitem ?_
  refine wpAny_call_entry PyProof.Rows.slot_tuple_getitem ht.typeIs entry_tuple_getitem ?_ (args_tuple_getitem _ _)
  show wpAny _ _ (Builtin.Tuple.tupleItemsOf (.ref t) >>= _) _ _ s
  apply wpAny_bind
  apply tupleItemsOf_ ht
  apply wpAny_bind
  apply wpAny_typeOf tS
  rw [if_pos (by decide)]
  apply wpAny_bind
  apply back_applied hs
  have no : ¬ ((((items.size : Int) - 1) == 0 && (-1 : Int) == 1 && items.size == items.size) = true) := by
    rw [show ((-1 : Int) == 1) = false from rfl, Bool.and_false, Bool.false_and]
    exact Bool.false_ne_true
  show wpAny _ _ (if (((items.size : Int) - 1) == 0 && (-1 : Int) == 1 && items.size == items.size) = true then _ else _) _ _ s
  rw [if_neg no, back_pick]
  first
    | exact wpAny_bind (m := Builtin.Tuple.tupleExact _) (wpAny_newObj_type (wpAny_pure ⟨_, rfl, wpAny_pure h⟩) ok)
    | exact wpAny_bind (m := Builtin.Tuple.tupleExact _) (wpAny_newObj_type (wpAny_bind (wpAny_pure (wpAny_pure ⟨_, rfl, wpAny_pure h⟩))) ok)
    | exact wpAny_bind (wpAny_bind (m := Builtin.Tuple.tupleExact _) (wpAny_newObj_type (wpAny_pure (wpAny_pure ⟨_, rfl, wpAny_pure h⟩)) ok))
    | exact wpAny_bind (wpAny_bind (m := Builtin.Tuple.tupleExact _) (wpAny_newObj_type (wpAny_pure ⟨_, rfl, wpAny_pure h⟩) ok))
end
section
variable {X : Cx}
/-- t[::-1] -/
def tRevT (K : PySem.W.Frag) (te : TE) : TE := fun σ H Q => te σ H fun x H1 => ∃ a xs, x = .ref a ∧ SqT K H1 a xs ∧ ∀ p, H1 p = none → Q (.ref p) (upd H1 p (.tup xs.reverse))
theorem pe_revT {e : Expr} {te : TE} {k : Nat} {p1 p2 p3 pos : Pos} (he : PE X e te) : PE X (.Subscript e (.Slice none none (some (.UnaryOp .USub (.Constant (.int 1) k p1) p2)) p3) pos) (tRevT X.K te) where
  run := by
    intro pins s σ H Q I h
    apply Subscript_
    refine thn (he.run pins s σ H _ I h) ?_
    rintro v s1 ⟨x, H1, I1, r1, a, xs, rfl, hx, q⟩
    cases r1
    have step : PO X (some (.UnaryOp .USub (.Constant (.int 1) k p1) p2)) (tPart (tUn (rU fun i => .int (-i)) (tC (.int 1)))) := po_some (pe_un un_neg pe_int)
    apply wpAny_Slice
    refine thn (po_none.run pins s1 σ H1 (fun o G => o = none ∧ G = H1) I1 ⟨rfl, rfl⟩) ?_
    rintro vl s2 ⟨_, G2, I2, pl, rfl, g2⟩
    rw [g2] at I2
    refine thn (po_none.run pins s2 σ H1 (fun o G => o = none ∧ G = H1) I2 ⟨rfl, rfl⟩) ?_
    rintro vu s3 ⟨_, G3, I3, pu, rfl, g3⟩
    rw [g3] at I3
    refine thn (step.run pins s3 σ H1 (fun o G => o = some (-1) ∧ G = H1) I3 ⟨1, rfl, -1, rfl, rfl, rfl⟩) ?_
    rintro vs s4 ⟨_, G4, I4, ps, rfl, g4⟩
    rw [g4] at I4
    cases pl
    cases pu
    cases ps with
    | int i t =>
      have I5 : Inv X pins σ H1 { s4 with heap := s4.heap.push { cls := .type "slice", data := .fields #[.none, .none, .int (-1) t] } } := I4.kept (t' := s4.toks) fun b ob q => Heap.get?_push_of_some _ q
      obtain ⟨its, r, ht, hz⟩ := I5.tuple hx
      have hlen : its.toArray.size = xs.length := by rw [List.size_toArray]; exact r.length.symm
      show wpAny (model X.prog X.w) X.A (subscriptTail e (.Slice none none (some (.UnaryOp .USub (.Constant (.int 1) k p1) p2)) p3) (.ref a) (.ref s4.heap.objs.size)) (EP X pins σ Q) X.xe { s4 with heap := s4.heap.push { cls := .type "slice", data := .fields #[.none, .none, .int (-1) t] } }
      refine tail_any (ops := [.ref a, .ref s4.heap.objs.size]) ht.typeIs (PyProof.Rows.slot_tuple_getitem.lookup) ?_ (by with_unfolding_all rfl)
      refine getItem_tuple_back ht (Heap.IsSliceOf.new _ .none .none (.int (-1) t)) ?_ (by rw [hlen]; exact hz)
      refine ⟨.ref _, _, I5.laid (t' := s4.toks) (o := .tup xs.reverse) (fun b ob q => Heap.get?_push_of_some _ q) (Nat.le_refl _) ?_, rfl, q _ (I5.hok.fresh (Nat.le_refl _))⟩
      exact ⟨by rw [List.length_reverse]; exact hz, its.toArray.toList.reverse, by simpa using r.reverse, IsTup.new _ _⟩

/-- repr of an object, a truth, None, an int -/
def rReprA (K : PySem.W.Frag) : List V → Hp → VK → Prop := fun xs H Q => ∃ (x : V) (d : PyData), xs = [x] ∧ Dp K H x d ∧ d.showable = true ∧ d.hasDict = false ∧ d.depth ≤ 40 ∧ d.shown.length ≤ sizeLine ∧ (∀ y, x ≠ .str y) ∧ Q (.str d.shown) H
theorem call_reprA (hf : Free X.A) (hu : X.A.units + 64 < cLine) : CallR X (.builtin "repr") (rReprA X.K) := by
  rintro pins s σ H xs us Q I r ⟨x, d, rfl, hD, hs, hd, h20, hz, hy, q⟩
  obtain ⟨u, rfl, hr⟩ := vals1 r
  cases hD with
  | non =>
    cases (show u = Value.none from hr)
    exact PySem.P.repr_of_none ⟨.str _, H, I.tok _, ⟨_, rfl⟩, by simpa [PyData.shown] using q⟩
  | bl b =>
    cases (show u = Value.bool b from hr)
    exact PySem.P.repr_of_bool ⟨.str _, H, I.tok _, ⟨_, rfl⟩, by simpa [PyData.shown] using q⟩
  | int i =>
    obtain ⟨t, rfl⟩ := (show ∃ t, u = Value.int i t from hr)
    exact PySem.P.repr_of_int (by simpa [PyData.showable] using hs) ⟨.str _, H, I.tok _, ⟨_, rfl⟩, by simpa [PyData.shown] using q⟩
  | str y => exact absurd rfl (hy y)
  | @lst a ys ds h1 h2 => exact call_reprD hf hu pins s σ H [.ref a] [u] Q I r ⟨a, _, rfl, .lst h1 h2, hs, hd, h20, hz, q⟩
  | @tup a ys ds h1 h2 => exact call_reprD hf hu pins s σ H [.ref a] [u] Q I r ⟨a, _, rfl, .tup h1 h2, hs, hd, h20, hz, q⟩
end
end Gr

set_option Elab.async false
set_option linter.all false
set_option pp.deepTerms false
set_option pp.maxSteps 3000
set_option maxRecDepth 100000
set_option maxHeartbeats 4000000
namespace Gr
open PySem PySem.Spec PyProof.Rows L2
def topS (i : Nat) : Stmt := PySem.Challenge.pw_greenroads_k03_shortest_greens.main.body.getD i (.Pass ⟨0, 0, 0, 0⟩)
abbrev s_is_whole : Stmt := topS 6
theorem scis_whole : FnScope ["value"] ["value"] (defScope s_is_whole) := ⟨rfl, rfl, rfl, by decide +kernel, rfl, by decide +kernel, by decide +kernel⟩
abbrev s_check_cycle : Stmt := topS 7
theorem sccheck_cycle : FnScope ["cycle"] ["cycle"] (defScope s_check_cycle) := ⟨rfl, rfl, rfl, by decide +kernel, rfl, by decide +kernel, by decide +kernel⟩
abbrev s_is_green_pair : Stmt := topS 10
theorem scis_green_pair : FnScope ["value", "cycle", "offset", "length"] ["value", "cycle"] (defScope s_is_green_pair) := ⟨rfl, rfl, rfl, by decide +kernel, rfl, by decide +kernel, by decide +kernel⟩
abbrev s_is_signal : Stmt := topS 11
theorem scis_signal : FnScope ["value", "cycle", "green"] ["value", "cycle"] (defScope s_is_signal) := ⟨rfl, rfl, rfl, by decide +kernel, rfl, by decide +kernel, by decide +kernel⟩
abbrev s_check_signal : Stmt := topS 12
theorem sccheck_signal : FnScope ["cycle", "signal"] ["cycle", "signal"] (defScope s_check_signal) := ⟨rfl, rfl, rfl, by decide +kernel, rfl, by decide +kernel, by decide +kernel⟩
abbrev s_shortest_greens : Stmt := topS 13
theorem scshortest_greens : FnScope ["cycle", "signal"] ["cycle", "signal"] (defScope s_shortest_greens) := ⟨rfl, rfl, rfl, by decide +kernel, rfl, by decide +kernel, by decide +kernel⟩
abbrev s_parted_greens : Stmt := topS 14
theorem scparted_greens : FnScope ["cycle", "signal", "joined", "offset", "length", "begin", "reach"] ["cycle", "signal"] (defScope s_parted_greens) := ⟨rfl, rfl, rfl, by decide +kernel, rfl, by decide +kernel, by decide +kernel⟩
abbrev s_joined_over_end : Stmt := topS 15
theorem scjoined_over_end : FnScope ["cycle", "greens", "begin", "reach", "met", "green", "offset", "length"] ["cycle", "greens"] (defScope s_joined_over_end) := ⟨rfl, rfl, rfl, by decide +kernel, rfl, by decide +kernel, by decide +kernel⟩
abbrev s_l_pond : Stmt := topS 17
theorem scl_pond : FnScope ["_law_script", "_law_k", "_law_cell"] ["_law_script", "_law_k"] (defScope s_l_pond) := ⟨rfl, rfl, rfl, by decide +kernel, rfl, by decide +kernel, by decide +kernel⟩
abbrev s_l_fish : Stmt := topS 18
theorem scl_fish : FnScope ["_law_pond_here", "_law_bound", "_law_found", "_law_turn", "_law_mixed"] ["_law_pond_here", "_law_bound"] (defScope s_l_fish) := ⟨rfl, rfl, rfl, by decide +kernel, rfl, by decide +kernel, by decide +kernel⟩
abbrev s_l_greens : Stmt := topS 19
theorem scl_greens : FnScope ["_law_pond_here", "_law_span", "_law_found", "_law_turn", "_law_place", "_law_few", "_law_many"] ["_law_pond_here", "_law_span"] (defScope s_l_greens) := ⟨rfl, rfl, rfl, by decide +kernel, rfl, by decide +kernel, by decide +kernel⟩
abbrev s_l_rests : Stmt := topS 20
theorem scl_rests : FnScope ["_law_span", "_law_greens_here", "_law_found", "_law_place", "_law_size", "_law_j"] ["_law_span", "_law_greens_here"] (defScope s_l_rests) := ⟨rfl, rfl, rfl, by decide +kernel, rfl, by decide +kernel, by decide +kernel⟩
abbrev s_l_scaled : Stmt := topS 21
theorem scl_scaled : FnScope ["_law_greens_here", "_law_factor", "_law_place", "_law_size"] ["_law_greens_here", "_law_factor"] (defScope s_l_scaled) := ⟨rfl, rfl, rfl, by decide +kernel, rfl, by decide +kernel, by decide +kernel⟩
abbrev s_l_arcs : Stmt := topS 22
theorem scl_arcs : FnScope ["_law_span", "_law_lit", "_law_found", "_law_t", "_law_size"] ["_law_span", "_law_lit"] (defScope s_l_arcs) := ⟨rfl, rfl, rfl, by decide +kernel, rfl, by decide +kernel, by decide +kernel⟩
abbrev s_l_parted : Stmt := topS 23
theorem scl_parted : FnScope ["_law_pond_here", "_law_greens_here", "_law_span", "_law_place", "_law_size", "_law_left"] ["_law_pond_here", "_law_greens_here", "_law_span"] (defScope s_l_parted) := ⟨rfl, rfl, rfl, by decide +kernel, rfl, by decide +kernel, by decide +kernel⟩
abbrev s_l_right : Stmt := topS 24
theorem scl_right : FnScope ["_law_pond_here", "_law_span", "_law_greens_here", "_law_due", "_law_some", "_law_factor", "_law_great"] ["_law_pond_here", "_law_span", "_law_greens_here"] (defScope s_l_right) := ⟨rfl, rfl, rfl, by decide +kernel, rfl, by decide +kernel, by decide +kernel⟩
abbrev s_law : Stmt := topS 25
theorem sclaw : FnScope ["_law_script", "_law_k", "_law_pond_here", "_law_turn", "_law_span", "_law_far", "_law_told"] ["_law_script"] (defScope s_law) := ⟨rfl, rfl, rfl, by decide +kernel, rfl, by decide +kernel, by decide +kernel⟩
/-- what the text has at the top beside its defs -/
structure Blt (mg : Str → Option Value) (tMOST_CYCLE : Tok) (tMOST_GREENS : Tok) : Prop where
  n_all : mg "all" = none
  n_bool : mg "bool" = none
  n_int : mg "int" = none
  n_isinstance : mg "isinstance" = none
  len : mg "len" = none
  n_list : mg "list" = none
  n_max : mg "max" = none
  n_min : mg "min" = none
  range : mg "range" = none
  n_repr : mg "repr" = none
  n_sorted : mg "sorted" = none
  n_tuple : mg "tuple" = none
  MOST_CYCLE : mg "MOST_CYCLE" = some (.int (10 ^ 30) tMOST_CYCLE)
  MOST_GREENS : mg "MOST_GREENS" = some (.int 6 tMOST_GREENS)
/-- a def that stands under its name -/
structure Def (K : PySem.W.Frag) (mg : Str → Option Value) (x : Str) (st : Stmt) (ps : List Str) (f : Addr) (fd : FuncData) : Prop where
  F : Fun K x x st f fd
  g : mg x = some (.ref f)
  b : Binds K fd ps []
theorem Same.new {H : Hp} {p : Addr} {o : HO} (h : H p = none) : Same H (upd H p o) := fun b u e => by
  rw [upd_ne (ne_of_none e h)]; exact e

/-! ### the checks and is_green -/
def spWhole : Sp := fun vs H Q _ => ∃ i : Int, vs = [.int i] ∧ Q (.bl true) H
def spCycle : Sp := fun vs H Q _ => ∃ c : Int, vs = [.int c] ∧ 1 ≤ c ∧ c ≤ 10 ^ 30 ∧ Q .non H
def spMoment : Sp := fun vs H Q _ => ∃ c : Int, vs = [.int c] ∧ Q .non H
def pairB (c o l : Int) : Bool := decide (0 ≤ o) && decide (o < c) && decide (1 ≤ l) && decide (l ≤ c)
/-- what is_green_pair says of x -/
def PairK (H : Hp) (c : Int) (x : V) (b : Bool) : Prop :=
  (∃ a o l, x = .ref a ∧ H a = some (.tup [.int o, .int l]) ∧ b = pairB c o l) ∨ (∃ a ys, x = .ref a ∧ H a = some (.tup ys) ∧ ys.length ≠ 2 ∧ b = false) ∨ (∃ a ys, x = .ref a ∧ H a = some (.lst ys) ∧ b = false)
theorem PairK.mono {H H' : Hp} {c : Int} {x : V} {b : Bool} (s : Same H H') (h : PairK H c x b) : PairK H' c x b := by
  rcases h with ⟨a, o, l, e, h, k⟩ | ⟨a, ys, e, h, k⟩ | ⟨a, ys, e, h, k⟩
  · exact .inl ⟨a, o, l, e, s _ _ h, k⟩
  · exact .inr (.inl ⟨a, ys, e, s _ _ h, k⟩)
  · exact .inr (.inr ⟨a, ys, e, s _ _ h, k⟩)
def SigK (H : Hp) (c : Int) (x : V) (b : Bool) : Prop :=
  (∃ a ys, x = .ref a ∧ H a = some (.lst ys) ∧ b = false) ∨ (∃ a ys, x = .ref a ∧ H a = some (.tup ys) ∧ ¬ (1 ≤ ys.length ∧ ys.length ≤ 6) ∧ b = false) ∨
  (∃ a ys bs, x = .ref a ∧ H a = some (.tup ys) ∧ 1 ≤ ys.length ∧ ys.length ≤ 6 ∧ Paired (PairK H c) ys bs ∧ b = bs.all id)
def spPair : Sp := fun vs H Q _ => ∃ (x : V) (c : Int) (b : Bool), vs = [x, .int c] ∧ PairK H c x b ∧ Q (.bl b) H
def spSignal : Sp := fun vs H Q _ => ∃ (x : V) (c : Int) (b : Bool), vs = [x, .int c] ∧ 1 ≤ c ∧ c ≤ 10 ^ 30 ∧ SigK H c x b ∧ ∀ H', Same H H' → Q (.bl b) H'
def spChkSignal : Sp := fun vs H Q _ => ∃ (x : V) (c : Int), vs = [.int c, x] ∧ 1 ≤ c ∧ c ≤ 10 ^ 30 ∧ SigK H c x true ∧ ∀ H', Same H H' → Q .non H'
def GrAt (H : Hp) (x : V) (g : Int × Int) : Prop := ∃ b, x = .ref b ∧ H b = some (.tup [.int g.1, .int g.2])
def SigT (H : Hp) (a : Addr) (gs : List (Int × Int)) : Prop := ∃ xs, H a = some (.tup xs) ∧ Paired (GrAt H) xs gs
theorem SigT.mono {H H' : Hp} {a : Addr} {gs : List (Int × Int)} (s : Same H H') (h : SigT H a gs) : SigT H' a gs := by
  obtain ⟨xs, h1, h2⟩ := h
  exact ⟨xs, s _ _ h1, L2.Paired.mapP h2 fun x g ⟨b, e, h⟩ => ⟨b, e, s _ _ h⟩⟩
def OkG (c : Int) (gs : List (Int × Int)) : Prop := 1 ≤ gs.length ∧ gs.length ≤ 6 ∧ ∀ g ∈ gs, 0 ≤ g.1 ∧ g.1 < c ∧ 1 ≤ g.2 ∧ g.2 ≤ c
def lit (c : Int) (gs : List (Int × Int)) (m : Int) : Bool := gs.any fun g => decide ((m - g.1) % c < g.2)
def spGreen : Sp := fun vs H Q _ => ∃ (a : Addr) (c m : Int) (gs : List (Int × Int)), vs = [.int c, .ref a, .int m] ∧ 1 ≤ c ∧ c ≤ 10 ^ 30 ∧ SigT H a gs ∧ OkG c gs ∧ ∀ H', Same H H' → Q (.bl (lit c gs m)) H'

theorem paired_at {α β : Type} {R : α → β → Prop} : ∀ {xs : List α} {ys : List β} {i : Nat} {x : α}, Paired R xs ys → xs[i]? = some x → ∃ y, ys[i]? = some y ∧ R x y
  | _, _, _, _, .nil, e => by simp at e
  | _, _, 0, _, .cons r _, e => by simp at e; subst e; exact ⟨_, rfl, r⟩
  | _, _, i + 1, x, .cons _ t, e => by
    obtain ⟨u, h1, h2⟩ := paired_at (i := i) (x := x) t (by simpa using e)
    exact ⟨u, by simpa using h1, h2⟩
theorem paired_len {α β : Type} {R : α → β → Prop} : ∀ {xs : List α} {ys : List β}, Paired R xs ys → xs.length = ys.length
  | _, _, .nil => rfl
  | _, _, .cons _ t => congrArg (· + 1) (paired_len t)
/-- a signal is one by is_signal -/
theorem SigT.sigK {H : Hp} {a : Addr} {c : Int} {gs : List (Int × Int)} (h : SigT H a gs) (hl : 1 ≤ gs.length ∧ gs.length ≤ 6) : SigK H c (.ref a) (gs.all fun g => pairB c g.1 g.2) := by
  obtain ⟨xs, h1, h2⟩ := h
  have el := paired_len h2
  refine .inr (.inr ⟨a, xs, gs.map (fun g => pairB c g.1 g.2), rfl, h1, by omega, by omega, ?_, ?_⟩)
  · clear h1 el hl
    induction h2 with
    | nil => exact .nil
    | cons r t ih =>
      obtain ⟨b, e, h⟩ := r
      exact .cons (.inl ⟨b, _, _, e, h, rfl⟩) ih
  · rw [List.all_map]; rfl
theorem OkG.all {c : Int} {gs : List (Int × Int)} (h : OkG c gs) : (gs.all fun g => pairB c g.1 g.2) = true := by
  rw [List.all_eq_true]
  intro g hg
  have := h.2.2 g hg
  simp [pairB, this]

section
variable {P : Program} {w : World} {K : PySem.W.Frag} {mg : Str → Option Value} {base : Heap} {tC tG : Tok}
theorem ok_is_whole {f : Addr} {fd : FuncData} (B : Blt mg tC tG) (Dis_whole : Def K mg "is_whole" s_is_whole ["value"] f fd) : FnOk P w K mg base CX0 1 f fd ["value"] spWhole := by
  refine Dis_whole.F.ok scis_whole (fun vs H Q E h => ?_) (fun cdv A outer s H vs Q E hr h => ⟨_, (pss_one (ps_ret (pe_and (pe_callB call_isi (by rfl) B.n_isinstance (by decide +kernel) (pa_cons (pv 0) (pa_cons (pe_bltn (v := .ty "int") (u := .type "int") (by rfl) B.n_int (by decide +kernel) rfl) pa_nil))) (pe_one (pe_not (pe_callB call_isi (by rfl) B.n_isinstance (by decide +kernel) (pa_cons (pv 0) (pa_cons (pe_bltn (v := .ty "bool") (u := .type "bool") (by rfl) B.n_bool (by decide +kernel) rfl) pa_nil)))))))), ?_⟩)
  · obtain ⟨i, rfl, _⟩ := h; rfl
  · obtain ⟨i, rfl, q⟩ := h
    refine ⟨_, rfl, .int i, .ty "int", .type "int", .type "int", true, rfl, .ty _, .base (.int i), kit_ty (by decide +kernel), _, rfl, ?_⟩
    refine ⟨_, rfl, .int i, .ty "bool", .type "int", .type "bool", false, rfl, .ty _, .base (.int i), kit_ty (by decide +kernel), _, rfl, q⟩
theorem ok_check_cycle {f f1 : Addr} {fd fd1 : FuncData} (B : Blt mg tC tG) (Dcheck_cycle : Def K mg "check_cycle" s_check_cycle ["cycle"] f fd) (Dis_whole : Def K mg "is_whole" s_is_whole ["value"] f1 fd1) : FnOk P w K mg base CX0 2 f fd ["cycle"] spCycle := by
  have Gis_whole := ok_is_whole (P := P) (w := w) (base := base) B Dis_whole
  refine Dcheck_cycle.F.ok sccheck_cycle (fun vs H Q E h => ?_) (fun cdv A outer s H vs Q E hr h => ⟨_, (pss_one (ps_if (PW.pt (pw_or (pt_not (pt_val (pe_call Gis_whole (hr.mono (by decide)) (by rfl) Dis_whole.g Dis_whole.F.kp Dis_whole.b .nil pass0 (pa_cons (pv 0) pa_nil)))) (pw_or1 (pt_not (pt_chain op_le op_le pe_int (pv 0) (pe_glob (v := .int (10 ^ 30)) (by rfl) B.MOST_CYCLE ⟨_, rfl⟩))))))
   (pss_one ps_never)
   pss_nil)), ?_⟩)
  · obtain ⟨i, rfl, _⟩ := h; rfl
  · obtain ⟨i, rfl, h1, h2, q⟩ := h
    refine ⟨_, rfl, _, rfl, _, rfl, ?_⟩
    refine ⟨_, rfl, _, _, rfl, rfl, _, rfl, ?_⟩
    rw [decide_eq_true h1]
    refine ⟨_, _, rfl, rfl, _, rfl, ?_⟩
    rw [decide_eq_true h2]
    exact q
end
end Gr

set_option Elab.async false
set_option linter.all false
set_option pp.deepTerms false
set_option pp.maxSteps 3000
set_option maxRecDepth 100000
set_option maxHeartbeats 4000000
namespace Gr
open PySem PySem.Spec PyProof.Rows L2
theorem iteNT {c A B : Prop} [Decidable c] (hc : ¬ c) (h : A) : if (!decide c) = true then A else B := by
  rw [decide_eq_false hc]; exact iteT h
theorem iteY {c A B : Prop} [Decidable c] (hc : c) (h : A) : if (decide c) = true then A else B := by
  rw [decide_eq_true hc]; exact iteT h
theorem iteN {c A B : Prop} [Decidable c] (hc : ¬ c) (h : B) : if (decide c) = true then A else B := by
  rw [decide_eq_false hc]; exact iteF h
theorem chain_b {a b : Bool} {Q : V → Prop} (h : Q (.bl (a && b))) : ∃ k, V.bl a = .bl k ∧ (if k = true then Q (.bl b) else Q (.bl false)) := ⟨a, rfl, by cases a <;> exact h⟩
section
variable {P : Program} {w : World} {K : PySem.W.Frag} {mg : Str → Option Value} {base : Heap} {tC tG : Tok}
theorem ok_is_green_pair {f f1 : Addr} {fd fd1 : FuncData} (B : Blt mg tC tG) (Dis_green_pair : Def K mg "is_green_pair" s_is_green_pair ["value", "cycle"] f fd) (Dis_whole : Def K mg "is_whole" s_is_whole ["value"] f1 fd1) : FnOk P w K mg base CX0 2 f fd ["value", "cycle"] spPair := by
  have Gis_whole := ok_is_whole (P := P) (w := w) (base := base) B Dis_whole
  refine Dis_green_pair.F.ok scis_green_pair (fun vs H Q E h => ?_) (fun cdv A outer s H vs Q E hr h => ⟨_, (pss_cons (ps_if (PW.pt (pw_or (pt_not (pt_val (pe_callB call_isi (by rfl) B.n_isinstance (by decide +kernel) (pa_cons (pv 0) (pa_cons (pe_bltn (v := .ty "tuple") (u := .type "tuple") (by rfl) B.n_tuple (by decide +kernel) rfl) pa_nil))))) (pw_or1 (pt_cmpR op_ne (pe_callB call_len_seq (by rfl) B.len PySem.boot_len (pa_cons (pv 0) pa_nil)) pe_int (nomark _)))))
   (pss_one (ps_ret pe_bl))
   pss_nil)
  (pss_cons (ps_asg (pv 0) (pg_tup rfl (pgs_cons (pg_name (i := 2) scis_green_pair.nd rfl (Or.inl rfl)) (pgs_cons (pg_name (i := 3) scis_green_pair.nd rfl (Or.inl rfl)) pgs_nil))))
  (pss_one (ps_ret (pe_and (pe_call Gis_whole (hr.mono (by decide)) (by rfl) Dis_whole.g Dis_whole.F.kp Dis_whole.b .nil pass0 (pa_cons (pv 2) pa_nil)) (pe_and (pe_call Gis_whole (hr.mono (by decide)) (by rfl) Dis_whole.g Dis_whole.F.kp Dis_whole.b .nil pass0 (pa_cons (pv 3) pa_nil)) (pe_and (pe_chain op_le op_lt pe_int (pv 2) (pv 1)) (pe_one (pe_chain op_le op_le pe_int (pv 3) (pv 1)))))))))), ?_⟩)
  · obtain ⟨x, c, b, rfl, _⟩ := h; rfl
  · obtain ⟨x, c, b, rfl, hp, q⟩ := h
    rcases hp with ⟨a, o, l, rfl, hT, rfl⟩ | ⟨a, ys, rfl, hT, hl, rfl⟩ | ⟨a, ys, rfl, hT, rfl⟩
    · refine ⟨_, rfl, .ref a, .ty "tuple", .type "tuple", .type "tuple", true, rfl, .ty _, .base (.tup hT), kit_ty (by decide +kernel), _, rfl, ?_⟩
      refine ⟨_, rfl, a, _, rfl, .inr (SqT.of hT), rfl, _, rfl, ?_⟩
      refine iteNS rfl ?_
      refine ⟨_, rfl, a, _, rfl, SqT.of hT, rfl, _, _, rfl, _, _, rfl, rfl, ?_⟩
      refine ⟨_, rfl, o, rfl, _, rfl, ⟨_, rfl, l, rfl, _, rfl, ?_⟩⟩
      by_cases h0 : 0 ≤ o
      · by_cases h1 : o < c
        · refine ⟨_, rfl, _, _, rfl, rfl, true, congrArg V.bl (decide_eq_true h0), _, rfl, _, _, rfl, rfl, true, congrArg V.bl (decide_eq_true h1), ?_⟩
          by_cases h2 : 1 ≤ l
          · refine ⟨_, rfl, _, _, rfl, rfl, true, congrArg V.bl (decide_eq_true h2), _, rfl, _, _, rfl, rfl, ?_⟩
            have e : pairB c o l = decide (l ≤ c) := by simp [pairB, h0, h1, h2]
            rw [e] at q
            exact q
          · have e : pairB c o l = false := by simp [pairB, h2]
            rw [e] at q
            exact ⟨_, rfl, _, _, rfl, rfl, false, congrArg V.bl (decide_eq_false h2), q⟩
        · have e : pairB c o l = false := by simp [pairB, h1]
          rw [e] at q
          exact ⟨_, rfl, _, _, rfl, rfl, true, congrArg V.bl (decide_eq_true h0), _, rfl, _, _, rfl, rfl, false, congrArg V.bl (decide_eq_false h1), q⟩
      · have e : pairB c o l = false := by simp [pairB, h0]
        rw [e] at q
        exact ⟨_, rfl, _, _, rfl, rfl, false, congrArg V.bl (decide_eq_false h0), false, rfl, q⟩
    · refine ⟨_, rfl, .ref a, .ty "tuple", .type "tuple", .type "tuple", true, rfl, .ty _, .base (.tup hT), kit_ty (by decide +kernel), _, rfl, ?_⟩
      refine ⟨_, rfl, a, _, rfl, .inr (SqT.of hT), rfl, _, rfl, ?_⟩
      exact iteNT (fun e => hl (by have := V.int.inj e; omega)) q
    · exact ⟨_, rfl, .ref a, .ty "tuple", .type "list", .type "tuple", false, rfl, .ty _, .base (.lst hT), kit_ty (by decide +kernel), _, rfl, q⟩
theorem ok_is_signal {f f1 f2 f3 : Addr} {fd fd1 fd2 fd3 : FuncData} (B : Blt mg tC tG) (Dis_signal : Def K mg "is_signal" s_is_signal ["value", "cycle"] f fd) (Dis_whole : Def K mg "is_whole" s_is_whole ["value"] f1 fd1) (Dcheck_cycle : Def K mg "check_cycle" s_check_cycle ["cycle"] f2 fd2) (Dis_green_pair : Def K mg "is_green_pair" s_is_green_pair ["value", "cycle"] f3 fd3) : FnOk P w K mg base CX0 3 f fd ["value", "cycle"] spSignal := by
  have Gcheck_cycle := ok_check_cycle (P := P) (w := w) (base := base) B Dcheck_cycle Dis_whole
  have Gis_green_pair := ok_is_green_pair (P := P) (w := w) (base := base) B Dis_green_pair Dis_whole
  refine Dis_signal.F.ok scis_signal (fun vs H Q E h => ?_) (fun cdv A outer s H vs Q E hr h => ⟨_, (pss_cons (ps_expr (pe_call Gcheck_cycle (hr.mono (by decide)) (by rfl) Dcheck_cycle.g Dcheck_cycle.F.kp Dcheck_cycle.b .nil pass0 (pa_cons (pv 1) pa_nil)))
  (pss_cons (ps_if (PW.pt (pw_or (pt_not (pt_val (pe_callB call_isi (by rfl) B.n_isinstance (by decide +kernel) (pa_cons (pv 0) (pa_cons (pe_bltn (v := .ty "tuple") (u := .type "tuple") (by rfl) B.n_tuple (by decide +kernel) rfl) pa_nil))))) (pw_or1 (pt_not (pt_chain op_le op_le pe_int (pe_callB call_len_seq (by rfl) B.len PySem.boot_len (pa_cons (pv 0) pa_nil)) (pe_glob (v := .int 6) (by rfl) B.MOST_GREENS ⟨_, rfl⟩))))))
   (pss_one (ps_ret pe_bl))
   pss_nil)
  (pss_one (ps_ret (pe_callB (cr_all rfl) (by rfl) B.n_all (by decide +kernel) (pa_cons (pe_lc (own := [("green", 2)]) (g := (gName 2)) (tt := tYes) rfl scis_signal.nd (pi_tup (pv 0)) (blkOk_by (N := ["value", "cycle", "green"]) (sc := defScope s_is_signal) (by decide +kernel)) (fun _ _ _ _ _ => (pg_name (i := 2) scis_signal.nd rfl (Or.inl rfl))) (fun _ _ _ _ _ => pts_nil) (fun _ _ _ _ _ => (pe_call Gis_green_pair (hr.mono (by decide)) (by rfl) Dis_green_pair.g Dis_green_pair.F.kp Dis_green_pair.b .nil pass0 (pa_cons (pv 2) (pa_cons (pv 1) pa_nil))))) pa_nil)))))), ?_⟩)
  · obtain ⟨x, c, b, rfl, _⟩ := h; rfl
  · obtain ⟨x, c, b, rfl, c1, c2, hp, q⟩ := h
    refine ⟨_, rfl, c, rfl, c1, c2, ?_⟩
    rcases hp with ⟨a, ys, rfl, hT, rfl⟩ | ⟨a, ys, rfl, hT, hl, rfl⟩ | ⟨a, ys, bs, rfl, hT, l1, l2, hP, rfl⟩
    · exact ⟨_, rfl, .ref a, .ty "tuple", .type "list", .type "tuple", false, rfl, .ty _, .base (.lst hT), kit_ty (by decide +kernel), _, rfl, q _ (Same.refl H)⟩
    · refine ⟨_, rfl, .ref a, .ty "tuple", .type "tuple", .type "tuple", true, rfl, .ty _, .base (.tup hT), kit_ty (by decide +kernel), _, rfl, ?_⟩
      refine ⟨_, rfl, a, _, rfl, .inr (SqT.of hT), _, _, rfl, rfl, ?_⟩
      by_cases h0 : 1 ≤ ys.length
      · refine ⟨true, congrArg V.bl (decide_eq_true (by omega)), _, _, rfl, rfl, false, congrArg V.bl (decide_eq_false (by omega)), ?_⟩
        exact q _ (Same.refl H)
      · refine ⟨false, congrArg V.bl (decide_eq_false (by omega)), false, rfl, ?_⟩
        exact q _ (Same.refl H)
    · refine ⟨_, rfl, .ref a, .ty "tuple", .type "tuple", .type "tuple", true, rfl, .ty _, .base (.tup hT), kit_ty (by decide +kernel), _, rfl, ?_⟩
      refine ⟨_, rfl, a, _, rfl, .inr (SqT.of hT), _, _, rfl, rfl, ?_⟩
      refine ⟨true, congrArg V.bl (decide_eq_true (by omega)), _, _, rfl, rfl, true, congrArg V.bl (decide_eq_true (by omega)), ?_⟩
      have el := paired_len hP
      refine ⟨_, rfl, a, rfl, ⟨_, SqT.of hT⟩, fun D hD => ?_⟩
      refine lc_tup (xs := ys) (fun i H' => Same H H' ∧ H' D = some (.lst ((bs.take i).map V.bl))) ⟨Same.new hD, upd_same⟩ (fun i H' _ p => SqT.of (p.1 _ _ hT)) (fun i x H' hx p => ?_) (fun H' p => ?_)
      · obtain ⟨b, hb, hk⟩ := paired_at hP hx
        refine ⟨rfl, _, rfl, _, rfl, x, c, b, rfl, hk.mono p.1, (bs.take i).map V.bl, p.2, ?_, ?_, ?_⟩
        · rw [List.length_map, List.length_take]
          exact Nat.lt_of_le_of_lt (Nat.min_le_left _ _) (small1000 (by have := (List.getElem?_eq_some_iff.mp hx).1; omega))
        · intro b' o e
          rw [upd_ne (ne_of_none e hD)]
          exact p.1 _ _ e
        · rw [upd_same, List.take_add_one, hb, List.map_append]
          rfl
      · refine ⟨D, bs, rfl, .inl (.inl ?_), q _ p.1⟩
        rw [p.2, List.take_of_length_le (by omega)]
theorem ok_check_signal {f f0 f1 f2 f3 : Addr} {fd fd0 fd1 fd2 fd3 : FuncData} (B : Blt mg tC tG) (Dcheck_signal : Def K mg "check_signal" s_check_signal ["cycle", "signal"] f fd) (Dis_signal : Def K mg "is_signal" s_is_signal ["value", "cycle"] f0 fd0) (Dis_whole : Def K mg "is_whole" s_is_whole ["value"] f1 fd1) (Dcheck_cycle : Def K mg "check_cycle" s_check_cycle ["cycle"] f2 fd2) (Dis_green_pair : Def K mg "is_green_pair" s_is_green_pair ["value", "cycle"] f3 fd3) : FnOk P w K mg base CX0 4 f fd ["cycle", "signal"] spChkSignal := by
  have Gis_signal := ok_is_signal (P := P) (w := w) (base := base) B Dis_signal Dis_whole Dcheck_cycle Dis_green_pair
  refine Dcheck_signal.F.ok sccheck_signal (fun vs H Q E h => ?_) (fun cdv A outer s H vs Q E hr h => ⟨_, (pss_one (ps_if (pt_not (pt_val (pe_call Gis_signal (hr.mono (by decide)) (by rfl) Dis_signal.g Dis_signal.F.kp Dis_signal.b .nil pass0 (pa_cons (pv 1) (pa_cons (pv 0) pa_nil)))))
   (pss_one ps_never)
   pss_nil)), ?_⟩)
  · obtain ⟨x, c, rfl, _⟩ := h; rfl
  · obtain ⟨x, c, rfl, c1, c2, hp, q⟩ := h
    exact ⟨_, rfl, _, rfl, x, c, true, rfl, c1, c2, hp, fun H' s => ⟨_, rfl, q _ s⟩⟩
end
end Gr

set_option Elab.async false
set_option linter.all false
set_option pp.deepTerms false
set_option pp.maxSteps 3000
set_option maxRecDepth 100000
set_option maxHeartbeats 4000000
namespace Gr
open PySem PySem.Spec PyProof.Rows L2
/-! ### the draws -/
/-- all but p stands -/
def But (p : Addr) (H H' : Hp) : Prop := ∀ q o, q ≠ p → H q = some o → H' q = some o
theorem But.refl (p : Addr) (H : Hp) : But p H H := fun _ _ _ h => h
theorem But.trans {p : Addr} {H H1 H2 : Hp} (a : But p H H1) (b : But p H1 H2) : But p H H2 := fun q o n h => b q o n (a q o n h)
theorem Same.but {p : Addr} {H H' : Hp} (s : Same H H') : But p H H' := fun q o _ h => s q o h
theorem But.new {p q : Addr} {H H' : Hp} {o : HO} (s : But p H H') (h : H' q = none) : But p H (upd H' q o) := fun r u n e => by
  have := s r u n e
  rw [upd_ne (ne_of_none this h)]; exact this
/-- an object that H does not know may change -/
theorem But.mut {p q : Addr} {H H' : Hp} {o : HO} (s : But p H H') (h : H q = none) : But p H (upd H' q o) := fun r u n e => by
  rw [upd_ne (ne_of_none e h)]; exact s r u n e
theorem But.at {p : Addr} {H H' : Hp} {o : HO} (s : But p H H') : But p H (upd H' p o) := fun r u n e => by
  rw [upd_ne n]; exact s r u n e
theorem But.fresh {p q : Addr} {H H' : Hp} {u : HO} (s : But p H H') (hp : H p = some u) (hp' : H' p ≠ none) (h : H' q = none) : H q = none := by
  cases e : H q with
  | none => rfl
  | some o =>
    by_cases hq : q = p
    · exact absurd (hq ▸ h) hp'
    · rw [s q o hq e] at h; cases h
/-- a pond at p of which n draws at most were taken -/
def Pond (n : Int) (p : Addr) (H : Hp) : Prop := ∃ a b c : Int, H p = some (.lst [.int a, .int b, .int c]) ∧ 0 ≤ b ∧ b < 10 ^ 60 ∧ 0 ≤ c ∧ c ≤ n
theorem Pond.mono {n m : Int} {p : Addr} {H : Hp} (h : Pond n p H) (l : n ≤ m) : Pond m p H := by
  obtain ⟨a, b, c, h1, h2, h3, h4, h5⟩ := h
  exact ⟨a, b, c, h1, h2, h3, h4, by omega⟩
theorem Pond.same {n : Int} {p : Addr} {H H' : Hp} (s : Same H H') (h : Pond n p H) : Pond n p H' := by
  obtain ⟨a, b, c, h1, h2⟩ := h
  exact ⟨a, b, c, s _ _ h1, h2⟩
theorem Pond.some {n : Int} {p : Addr} {H : Hp} (h : Pond n p H) : ∃ xs, H p = some (.lst xs) := by
  obtain ⟨a, b, c, h1, h2⟩ := h
  exact ⟨_, h1⟩
theorem Pond.ne {n : Int} {p : Addr} {H : Hp} (h : Pond n p H) : H p ≠ none := by
  obtain ⟨xs, h⟩ := h.some
  rw [h]; exact fun z => nomatch z
theorem Pond.new {n : Int} {p q : Addr} {H : Hp} {o : HO} (h : Pond n p H) (hq : H q = none) : Pond n p (upd H q o) := h.same (Same.new hq)
theorem natAbs_lt {i : Int} {k : Nat} (h0 : 0 ≤ i) (h : i < ((2 ^ k : Nat) : Int)) : i.natAbs < 2 ^ k := by omega
theorem e60 : ((10 : Int) ^ 60) < ((2 ^ 200 : Nat) : Int) := by decide +kernel
theorem e100 : ((10 : Int) ^ 100) < ((2 ^ 1000 : Nat) : Int) := by decide +kernel
theorem draw_ok {m : Int} (h1 : 1 ≤ m) (h2 : m ≤ 10 ^ 100) : m.natAbs < 2 ^ 1000 := natAbs_lt (by omega) (Int.lt_of_le_of_lt h2 e100)
theorem fmod_rng {x m : Int} (h : 1 ≤ m) : 0 ≤ x.fmod m ∧ x.fmod m < m := by
  rw [Int.fmod_eq_emod_of_nonneg x (by omega)]
  exact ⟨Int.emod_nonneg x (by omega), Int.emod_lt_of_pos x (by omega)⟩
def spFish : Sp := fun vs H Q _ => ∃ (p : Addr) (m n : Int), vs = [.ref p, .int m] ∧ Pond n p H ∧ n ≤ 10 ^ 9 ∧ 1 ≤ m ∧ m ≤ 10 ^ 100 ∧ ∀ r H', But p H H' → Pond (n + 12) p H' → 0 ≤ r → r < m → Q (.int r) H'
def spFish1 : Sp := fun vs H Q _ => ∃ (p : Addr) (m n : Int), vs = [.ref p, .int m] ∧ Pond n p H ∧ n ≤ 10 ^ 9 + 100 ∧ 1 ≤ m ∧ m ≤ 10 ^ 30 ∧ ∀ r H', But p H H' → Pond (n + 1) p H' → 0 ≤ r → r < m → Q (.int r) H'
theorem cp30 : CPowW 10 30 := ⟨by decide, by decide +kernel⟩
theorem cp42 : CPowW 10 42 := ⟨by decide, by decide +kernel⟩
theorem cp44 : CPowW 10 44 := ⟨by decide, by decide +kernel⟩
theorem cube_of {i : Int} (h0 : 0 ≤ i) (h : i < ((2 ^ 1000 : Nat) : Int)) : CPowW i 3 := cube_ok (natAbs_lt h0 h)
theorem mulc {k c : Int} (h0 : 0 ≤ k) (h1 : k < ((2 ^ 40 : Nat) : Int)) (c0 : 0 ≤ c) (c1 : c ≤ 10 ^ 10) : CMulW k c := by
  have e : ((10 : Int) ^ 10) < ((2 ^ 40 : Nat) : Int) := by decide +kernel
  exact wide_mul (a := 40) (b := 40) (natAbs_lt h0 h1) (natAbs_lt c0 (by omega)) (by decide) (by decide) (by decide)
theorem p200 : ((2 ^ 200 : Nat) : Int) + 10 ^ 20 < ((2 ^ 1000 : Nat) : Int) := by decide +kernel
theorem p42 : (10 : Int) ^ (42 : Int).toNat + 63 < 10 ^ 60 := by decide +kernel
theorem q42 : (10 : Int) ^ (42 : Int).toNat + 63 ≠ 0 := by decide +kernel
theorem q44 : (10 : Int) ^ (44 : Int).toNat + 57 ≠ 0 := by decide +kernel
set_option exponentiation.threshold 2000
section
variable {P : Program} {w : World} {K : PySem.W.Frag} {mg : Str → Option Value} {base : Heap} {tC tG : Tok}
theorem ok_fish1 {f : Addr} {fd : FuncData} (B : Blt mg tC tG) (Dl_fish : Def K mg "_law_fish" s_l_fish ["_law_pond_here", "_law_bound"] f fd) : FnOk P w K mg base CX0 1 f fd ["_law_pond_here", "_law_bound"] spFish1 := by
  refine Dl_fish.F.ok scl_fish (fun vs H Q E h => ?_) (fun cdv A outer s H vs Q E hr h => ⟨_, (pss_cons (ps_if (pt_cmpR op_gt (pv 1) (pe_op op_powW pe_int pe_int) (nomark _))
   (pss_cons (ps_set (i := 2) scl_fish.nd rfl (Or.inl rfl) pe_int)
  (pss_cons (ps_for PassesOwn.never rfl (pi_range1 (by rfl) B.range (pa_cons (pe_op op_add pe_int (pe_op op_fdivW (pe_bits (pv 1)) pe_int)) pa_nil)) (pg_name (i := 3) scl_fish.nd rfl (Or.inl rfl))
   (pss_one ps_never))
  (pss_one (ps_ret (pe_op op_modN (pv 2) (pv 1))))))
   pss_nil)
  (pss_cons (ps_if (pt_cmpR op_gt (pe_ix ix_list (pv 0) pe_int (fun _ _ => rfl)) pe_int (nomark _))
   (pss_cons (ps_set (i := 2) scl_fish.nd rfl (Or.inl rfl) (pe_op op_modN (pe_ix ix_list (pv 0) pe_int (fun _ _ => rfl)) (pv 1)))
  (pss_cons (ps_asg (pe_op op_fdivW (pe_ix ix_list (pv 0) pe_int (fun _ _ => rfl)) (pv 1)) (pg_sub (pv 0) pe_int set_list))
  (pss_one (ps_ret (pv 2)))))
   pss_nil)
  (pss_cons (ps_asg (pe_op op_add (pe_ix ix_list (pv 0) pe_int (fun _ _ => rfl)) pe_int) (pg_sub (pv 0) pe_int set_list))
  (pss_cons (ps_set (i := 4) scl_fish.nd rfl (Or.inl rfl) (pe_op op_modN (pe_op op_powW (pe_op op_add (pe_ix ix_list (pv 0) pe_int (fun _ _ => rfl)) (pe_op op_mulW pe_int (pe_ix ix_list (pv 0) pe_int (fun _ _ => rfl)))) pe_int) (pe_op op_add (pe_op op_powW pe_int pe_int) pe_int)))
  (pss_cons (ps_set (i := 4) scl_fish.nd rfl (Or.inl rfl) (pe_op op_modN (pe_op op_powW (pe_op op_add (pv 4) (pe_op op_mulW pe_int (pe_ix ix_list (pv 0) pe_int (fun _ _ => rfl)))) pe_int) (pe_op op_add (pe_op op_powW pe_int pe_int) pe_int)))
  (pss_one (ps_ret (pe_op op_modN (pe_op op_fdivW (pv 4) pe_int) (pv 1))))))))), ?_⟩)
  · obtain ⟨p, m, n, rfl, _⟩ := h; rfl
  · obtain ⟨p, m, n, rfl, ⟨a, b, c, hp, b0, b1, c0, c1⟩, hn, m1, m2, q⟩ := h
    refine ⟨_, rfl, _, _, rfl, rfl, cp30, _, _, rfl, rfl, _, rfl, iteN (show ¬ (10 : Int) ^ 30 < m by omega) ?_⟩
    refine ⟨_, rfl, p, _, _, _, rfl, rfl, SqL.of hp, rfl, _, _, rfl, rfl, _, rfl, ?_⟩
    have dm : CDivW a m := wide_div (b := 1000) (by omega) (draw_ok m1 (by omega)) (by decide) (by decide)
    by_cases ha : 0 < a
    · refine iteY ha ?_
      refine ⟨_, rfl, p, _, _, _, rfl, rfl, SqL.of hp, rfl, _, rfl, _, _, rfl, rfl, (by show m ≠ 0; omega), ?_⟩
      refine ⟨_, rfl, p, _, _, _, rfl, rfl, SqL.of hp, rfl, _, rfl, _, _, rfl, rfl, dm, _, rfl, p, _, _, _, rfl, rfl, hp, rfl, ?_⟩
      refine ⟨_, rfl, q _ _ (But.refl p H).at ⟨a / m, b, c, upd_same, b0, b1, c0, by omega⟩ (fmod_rng m1).1 (fmod_rng m1).2⟩
    · refine iteN ha ?_
      refine ⟨_, rfl, p, _, _, _, rfl, rfl, SqL.of hp, rfl, _, _, rfl, rfl, _, rfl, p, _, _, _, rfl, rfl, hp, rfl, ?_⟩
      have hp2 : (upd H p (.lst ([V.int a, .int b, .int c].set 2 (.int (c + 1))))) p = some (.lst [.int a, .int b, .int (c + 1)]) := upd_same
      refine ⟨_, rfl, p, _, _, _, rfl, rfl, SqL.of hp2, rfl, _, rfl, p, _, _, _, rfl, rfl, SqL.of hp2, rfl, _, _, rfl, rfl, mulc (by decide) (by decide) (by omega) (by omega), _, _, rfl, rfl, ?_⟩
      refine ⟨_, _, rfl, rfl, cube_of (by omega) (by have := e60; have := p200; omega), _, _, rfl, rfl, cp42, _, _, rfl, rfl, _, _, rfl, rfl, q42, ?_⟩
      have r1 := fmod_rng (x := (b + 49979687 * (c + 1)) ^ (3 : Int).toNat) (m := 10 ^ (42 : Int).toNat + 63) (by decide +kernel)
      refine ⟨_, rfl, _, rfl, p, _, _, _, rfl, rfl, SqL.of hp2, rfl, _, _, rfl, rfl, mulc (by decide) (by decide) (by omega) (by omega), _, _, rfl, rfl, ?_⟩
      refine ⟨_, _, rfl, rfl, cube_of (by omega) (by have := e60; have := p200; have := p42; omega), _, _, rfl, rfl, cp44, _, _, rfl, rfl, _, _, rfl, rfl, q44, ?_⟩
      refine ⟨_, rfl, _, _, rfl, rfl, ⟨by decide, by decide +kernel⟩, _, rfl, _, _, rfl, rfl, (by show m ≠ 0; omega), ?_⟩
      exact q _ _ (But.refl p H).at ⟨a, b, c + 1, upd_same, b0, b1, by omega, by omega⟩ (fmod_rng m1).1 (fmod_rng m1).2
end
end Gr

set_option Elab.async false
set_option linter.all false
set_option pp.deepTerms false
set_option pp.maxSteps 3000
set_option maxRecDepth 100000
set_option maxHeartbeats 4000000
set_option exponentiation.threshold 3000
namespace Gr
open PySem PySem.Spec PyProof.Rows L2
/-! ### greens drawn, their rests, scaled -/
theorem fnok_or {P : Program} {w : World} {K : PySem.W.Frag} {mg : Str → Option Value} {base : Heap} {C : CXT} {k : Nat} {f : Addr} {fd : FuncData} {ps : List Str} {s1 s2 : Sp} (a : FnOk P w K mg base C k f fd ps s1) (b : FnOk P w K mg base C k f fd ps s2) :
    FnOk P w K mg base C k f fd ps (fun vs H Q E => s1 vs H Q E ∨ s2 vs H Q E) :=
  ⟨fun vs H Q E h => h.elim (a.len vs H Q E) (b.len vs H Q E), fun A o s H ar us vs Q E hr he hb hv h => h.elim (a.run A o s H ar us vs Q E hr he hb hv) (b.run A o s H ar us vs Q E hr he hb hv)⟩
def spFish2 : Sp := fun vs H Q _ => ∃ (p : Addr) (m n : Int), vs = [.ref p, .int m] ∧ Pond n p H ∧ n ≤ 10 ^ 9 ∧ 10 ^ 30 < m ∧ m ≤ 10 ^ 100 ∧ ∀ r H', But p H H' → Pond (n + 12) p H' → 0 ≤ r → r < m → Q (.int r) H'
def pairD (g : Int × Int) : PyData := .tuple [.int g.1, .int g.2]
theorem lay_pairs : ∀ gs : List (Int × Int), PyData.canLayAll0 (gs.map pairD) = true
  | [] => by simp [PyData.canLayAll0]
  | g :: gs => by simp [PyData.canLayAll0, PyData.canLay0, pairD, lay_pairs gs]
theorem depth_pairs : ∀ gs : List (Int × Int), PyData.depthAll (gs.map pairD) ≤ 5
  | [] => by simp [PyData.depthAll]
  | g :: gs => by
    have := depth_pairs gs
    simp only [List.map_cons, PyData.depthAll, PyData.depth, pairD]
    omega
theorem shaped_pairs (gs : List (Int × Int)) : SeqAt.shaped (.list (gs.map pairD)) = true := by
  have h := depth_pairs gs
  unfold SeqAt.shaped
  rw [Bool.and_eq_true]
  refine ⟨by simpa only [PyData.canLay0] using lay_pairs gs, decide_eq_true ?_⟩
  simp only [PyData.depth]
  omega
theorem shaped_nil : SeqAt.shaped (.list []) = true := by decide +kernel
theorem eqv_nil : ∀ gs : List (Int × Int), PyData.eqv (.list (gs.map pairD)) (.list []) = gs.isEmpty
  | [] => by simp [PyData.eqv, PyData.eqvAll]
  | g :: gs => by simp [PyData.eqv, PyData.eqvAll]
theorem dp_pairs {K : PySem.W.Frag} {H : Hp} {xs : List V} {gs : List (Int × Int)} (h : Paired (GrAt H) xs gs) : DpAll K H xs (gs.map pairD) := by
  induction h with
  | nil => exact .nil
  | cons r t ih =>
    obtain ⟨b, rfl, h⟩ := r
    exact .cons (.tup (SqT.of h) (.cons (.int _) (.cons (.int _) .nil))) ih
theorem pick {xs : List Int} {r : Int} (h0 : 0 ≤ r) (h1 : r < (xs.length : Int)) : ∃ v ∈ xs, atI (xs.map V.int) r = some (.int v) := by
  obtain ⟨j, rfl⟩ : ∃ j : Nat, r = (j : Int) := ⟨r.toNat, (Int.toNat_of_nonneg h0).symm⟩
  have hl : j < xs.length := by omega
  refine ⟨xs[j], List.getElem_mem hl, atI_nat ?_⟩
  rw [List.getElem?_map, List.getElem?_eq_getElem hl]
  rfl
theorem GrAt.but {p : Addr} {H H' : Hp} {us : List V} (s : But p H H') (hp : H p = some (.lst us)) {x : V} {g : Int × Int} (h : GrAt H x g) : GrAt H' x g := by
  obtain ⟨b, e, h⟩ := h
  exact ⟨b, e, s b _ (ne_of h hp (fun z => nomatch z)) h⟩
theorem grs_but {p : Addr} {H H' : Hp} {us : List V} (s : But p H H') (hp : H p = some (.lst us)) {xs : List V} {gs : List (Int × Int)} (h : Paired (GrAt H) xs gs) : Paired (GrAt H') xs gs := L2.Paired.mapP h fun _ _ r => r.but s hp
theorem grs_same {H H' : Hp} (s : Same H H') {xs : List V} {gs : List (Int × Int)} (h : Paired (GrAt H) xs gs) : Paired (GrAt H') xs gs := L2.Paired.mapP h fun _ _ ⟨b, e, h⟩ => ⟨b, e, s _ _ h⟩
theorem SigT.but {p g : Addr} {H H' : Hp} {us : List V} (s : But p H H') (hp : H p = some (.lst us)) {gs : List (Int × Int)} (h : SigT H g gs) : SigT H' g gs := by
  obtain ⟨xs, h1, h2⟩ := h
  exact ⟨xs, s g _ (ne_of h1 hp (fun z => nomatch z)) h1, grs_but s hp h2⟩
theorem paired_snoc {α β : Type} {R : α → β → Prop} : ∀ {xs : List α} {ys : List β} {x : α} {y : β}, Paired R xs ys → R x y → Paired R (xs ++ [x]) (ys ++ [y])
  | _, _, _, _, .nil, r => .cons r .nil
  | _, _, _, _, .cons q t, r => .cons q (paired_snoc t r)
def spPondNew (K : PySem.W.Frag) : Sp := fun vs H Q _ => ∃ (a : Addr) (k : Int) (ns : List Int), vs = [.ref a, .int k] ∧ SqL K H a (ns.map V.int) ∧ 0 ≤ k ∧ k ≤ 100 ∧ ∀ p H', H p = none → Same H H' → Pond 0 p H' → Q (.ref p) H'
def spGreens : Sp := fun vs H Q _ => ∃ (p : Addr) (s n : Int), vs = [.ref p, .int s] ∧ Pond n p H ∧ n ≤ 10 ^ 8 ∧ 1 ≤ s ∧ s ≤ 10 ^ 30 ∧ ∀ g gs H', But p H H' → Pond (n + 1000) p H' → SigT H' g gs → OkG s gs → Q (.ref g) H'
section
variable {P : Program} {w : World} {K : PySem.W.Frag} {mg : Str → Option Value} {base : Heap} {tC tG : Tok}
theorem ok_fish2 {f : Addr} {fd : FuncData} (B : Blt mg tC tG) (Dl_fish : Def K mg "_law_fish" s_l_fish ["_law_pond_here", "_law_bound"] f fd) : FnOk P w K mg base CX0 2 f fd ["_law_pond_here", "_law_bound"] spFish2 := by
  have Gl_fish := ok_fish1 (P := P) (w := w) (base := base) B Dl_fish
  refine Dl_fish.F.ok scl_fish (fun vs H Q E h => ?_) (fun cdv A outer s H vs Q E hr h => ⟨_, (pss_cons (ps_if (pt_cmpR op_gt (pv 1) (pe_op op_powW pe_int pe_int) (nomark _))
   (pss_cons (ps_set (i := 2) scl_fish.nd rfl (Or.inl rfl) pe_int)
  (pss_cons (ps_for PassesOwn.never rfl (pi_range1 (by rfl) B.range (pa_cons (pe_op op_add pe_int (pe_op op_fdivW (pe_bits (pv 1)) pe_int)) pa_nil)) (pg_name (i := 3) scl_fish.nd rfl (Or.inl rfl))
   (pss_one (ps_set (i := 2) scl_fish.nd rfl (Or.inl rfl) (pe_op op_add (pe_op op_mulW (pv 2) (pe_op op_powW pe_int pe_int)) (pe_call Gl_fish (hr.mono (by decide)) (by rfl) Dl_fish.g Dl_fish.F.kp Dl_fish.b .nil pass0 (pa_cons (pv 0) (pa_cons (pe_op op_powW pe_int pe_int) pa_nil)))))))
  (pss_one (ps_ret (pe_op op_modN (pv 2) (pv 1))))))
   pss_nil)
  (pss_cons (ps_if (pt_cmpR op_gt (pe_ix ix_list (pv 0) pe_int (fun _ _ => rfl)) pe_int (nomark _))
   (pss_cons (ps_set (i := 2) scl_fish.nd rfl (Or.inl rfl) (pe_op op_modN (pe_ix ix_list (pv 0) pe_int (fun _ _ => rfl)) (pv 1)))
  (pss_cons (ps_asg (pe_op op_fdivW (pe_ix ix_list (pv 0) pe_int (fun _ _ => rfl)) (pv 1)) (pg_sub (pv 0) pe_int set_list))
  (pss_one (ps_ret (pv 2)))))
   pss_nil)
  (pss_cons (ps_asg (pe_op op_add (pe_ix ix_list (pv 0) pe_int (fun _ _ => rfl)) pe_int) (pg_sub (pv 0) pe_int set_list))
  (pss_cons (ps_set (i := 4) scl_fish.nd rfl (Or.inl rfl) (pe_op op_modN (pe_op op_powW (pe_op op_add (pe_ix ix_list (pv 0) pe_int (fun _ _ => rfl)) (pe_op op_mulW pe_int (pe_ix ix_list (pv 0) pe_int (fun _ _ => rfl)))) pe_int) (pe_op op_add (pe_op op_powW pe_int pe_int) pe_int)))
  (pss_cons (ps_set (i := 4) scl_fish.nd rfl (Or.inl rfl) (pe_op op_modN (pe_op op_powW (pe_op op_add (pv 4) (pe_op op_mulW pe_int (pe_ix ix_list (pv 0) pe_int (fun _ _ => rfl)))) pe_int) (pe_op op_add (pe_op op_powW pe_int pe_int) pe_int)))
  (pss_one (ps_ret (pe_op op_modN (pe_op op_fdivW (pv 4) pe_int) (pv 1))))))))), ?_⟩)
  · obtain ⟨p, m, n, rfl, _⟩ := h; rfl
  · obtain ⟨p, m, n, rfl, hP, hn, m1, m2, q⟩ := h
    refine ⟨_, rfl, _, _, rfl, rfl, cp30, _, _, rfl, rfl, _, rfl, iteY (show (10 : Int) ^ 30 < m from m1) ?_⟩
    have hb := bits_le (draw_ok (m := m) (by omega) m2) (by decide)
    refine ⟨_, rfl, _, rfl, _, _, rfl, rfl, ⟨by decide, by decide +kernel⟩, _, _, rfl, rfl, _, rfl, by omega, by omega, ?_⟩
    refine for_range (lo := 0) (fun i σ H' => ∃ f y, σ = [some (.ref p), some (.int m), some (.int f), y, none] ∧ 0 ≤ f ∧ f < 10 ^ (30 * i) ∧ But p H H' ∧ Pond (n + i) p H') ⟨0, none, rfl, by decide, by decide, But.refl p H, hP.mono (by omega)⟩ ?_ ?_
    · rintro i σ H' hi ⟨f, y, rfl, f0, f1, bt, pd⟩
      have i12 : i ≤ 12 := by omega
      have fs : f.natAbs < 2 ^ 1200 := natAbs_lt f0 (by
        have a : (10 : Int) ^ (30 * i) ≤ 10 ^ 360 := by
          have : (10 : Nat) ^ (30 * i) ≤ 10 ^ 360 := Nat.pow_le_pow_right (by decide) (by omega)
          exact_mod_cast this
        have b : (10 : Int) ^ 360 < ((2 ^ 1200 : Nat) : Int) := by decide +kernel
        exact Int.lt_trans (Int.lt_of_lt_of_le f1 a) b)
      refine ⟨_, rfl, _, _, rfl, rfl, cp30, _, _, rfl, rfl, wide_mul (a := 1200) (b := 100) fs (by decide +kernel) (by decide) (by decide) (by decide), _, rfl, _, _, rfl, rfl, cp30, ?_⟩
      refine ⟨p, _, n + i, rfl, pd, by omega, by decide +kernel, by decide +kernel, fun r H2 bt2 pd2 r0 r1 => ?_⟩
      refine ⟨_, _, rfl, rfl, f * 10 ^ (30 : Int).toNat + r, some (.int (0 + (i : Int))), rfl, ?_, ?_, bt.trans bt2, pd2.mono (by omega)⟩
      · have : 0 ≤ f * 10 ^ (30 : Int).toNat := Int.mul_nonneg f0 (by decide +kernel)
        omega
      · have e : (10 : Int) ^ (30 * (i + 1)) = 10 ^ (30 * i) * 10 ^ (30 : Int).toNat := by
          rw [show 30 * (i + 1) = 30 * i + 30 by omega, Int.pow_add]; rfl
        have a : (f + 1) * 10 ^ (30 : Int).toNat ≤ 10 ^ (30 * i) * 10 ^ (30 : Int).toNat := Int.mul_le_mul_of_nonneg_right (by omega) (by decide +kernel)
        rw [e]
        rw [Int.add_mul, Int.one_mul] at a
        omega
    · rintro σ H' ⟨f, y, rfl, f0, f1, bt, pd⟩
      exact ⟨_, rfl, _, rfl, _, _, rfl, rfl, (by show m ≠ 0; omega), q _ _ bt (pd.mono (by omega)) (fmod_rng (by omega)).1 (fmod_rng (by omega)).2⟩
theorem ok_fish {f : Addr} {fd : FuncData} (B : Blt mg tC tG) (Dl_fish : Def K mg "_law_fish" s_l_fish ["_law_pond_here", "_law_bound"] f fd) : FnOk P w K mg base CX0 2 f fd ["_law_pond_here", "_law_bound"] spFish :=
  (fnok_or (FnOk.mono (k := 2) (ok_fish1 B Dl_fish) (by decide)) (ok_fish2 B Dl_fish)).imp fun vs H Q E ⟨p, m, n, e, hP, hn, m1, m2, q⟩ => by
    by_cases h : m ≤ 10 ^ 30
    · exact .inl ⟨p, m, n, e, hP, by omega, m1, h, fun r H' bt pd => q r H' bt (pd.mono (by omega))⟩
    · exact .inr ⟨p, m, n, e, hP, hn, by omega, m2, q⟩
theorem ok_pond {f : Addr} {fd : FuncData} (B : Blt mg tC tG) (Dl_pond : Def K mg "_law_pond" s_l_pond ["_law_script", "_law_k"] f fd) : FnOk P w K mg base CX0 1 f fd ["_law_script", "_law_k"] (spPondNew K) := by
  refine Dl_pond.F.ok scl_pond (fun vs H Q E h => ?_) (fun cdv A outer s H vs Q E hr h => ⟨_, (pss_cons (ps_set (i := 2) scl_pond.nd rfl (Or.inl rfl) pe_int)
  (pss_cons (ps_if (pt_cmpR op_lt (pv 1) (pe_callB call_len_seq (by rfl) B.len PySem.boot_len (pa_cons (pv 0) pa_nil)) (nomark _))
   (pss_one (ps_set (i := 2) scl_pond.nd rfl (Or.inl rfl) (pe_ix ix_list (pv 0) (pv 1) (fun _ _ => rfl))))
   pss_nil)
  (pss_one (ps_ret (pe_lst (pa_cons (pe_callB (call_max2 rfl) (by rfl) B.n_max (by decide +kernel) (pa_cons pe_int (pa_cons (pe_op op_sub (pv 2) (pe_op op_powW pe_int pe_int)) pa_nil))) (pa_cons (pe_op op_add (pe_op op_modN (pv 2) (pe_op op_add (pe_op op_powW pe_int pe_int) pe_int)) (pe_op op_mulW pe_int (pv 1))) (pa_cons pe_int pa_nil)))))))), ?_⟩)
  · obtain ⟨a, k, ns, rfl, _⟩ := h; rfl
  · obtain ⟨a, k, ns, rfl, hS, k0, k1, q⟩ := h
    have cp18 : CPowW 10 18 := ⟨by decide, by decide +kernel⟩
    have cp38 : CPowW 10 38 := ⟨by decide, by decide +kernel⟩
    have e38 : (10 : Int) ^ (38 : Int).toNat + 133 + 15487469 * 100 < 10 ^ 60 := by decide +kernel
    have e1 : 1 ≤ (10 : Int) ^ (38 : Int).toNat + 133 := by decide +kernel
    have fin : ∀ z : Int, 0 ≤ z.fmod ((10 : Int) ^ (38 : Int).toNat + 133) + 15487469 * k ∧ z.fmod ((10 : Int) ^ (38 : Int).toNat + 133) + 15487469 * k < 10 ^ 60 := fun z => by
      have := fmod_rng (x := z) e1
      omega
    refine ⟨_, rfl, _, rfl, a, _, rfl, .inl hS, _, _, rfl, rfl, _, rfl, ?_⟩
    rw [List.length_map]
    by_cases hk : k < (ns.length : Int)
    · refine iteY hk ?_
      obtain ⟨v, _, hv⟩ := pick k0 hk
      refine ⟨_, rfl, _, rfl, a, _, _, _, rfl, rfl, hS, hv, ?_⟩
      refine ⟨_, rfl, _, _, rfl, rfl, cp18, _, _, rfl, rfl, _, _, rfl, _, rfl, _, _, rfl, rfl, cp38, _, _, rfl, rfl, _, _, rfl, rfl, (by show (10 : Int) ^ (38 : Int).toNat + 133 ≠ 0; omega), _, rfl, _, _, rfl, rfl, mulc (by decide) (by decide) k0 (by omega), _, _, rfl, rfl, (by show 3 ≤ sizeLine; decide), fun p hp => ?_⟩
      exact q p _ hp (Same.new hp) ⟨_, _, _, upd_same, (fin v).1, (fin v).2, by decide, by decide⟩
    · refine iteN hk ?_
      refine ⟨_, rfl, _, _, rfl, rfl, cp18, _, _, rfl, rfl, _, _, rfl, _, rfl, _, _, rfl, rfl, cp38, _, _, rfl, rfl, _, _, rfl, rfl, (by show (10 : Int) ^ (38 : Int).toNat + 133 ≠ 0; omega), _, rfl, _, _, rfl, rfl, mulc (by decide) (by decide) k0 (by omega), _, _, rfl, rfl, (by show 3 ≤ sizeLine; decide), fun p hp => ?_⟩
      exact q p _ hp (Same.new hp) ⟨_, _, _, upd_same, (fin 0).1, (fin 0).2, by decide, by decide⟩
theorem ok_greens {f f1 : Addr} {fd fd1 : FuncData} (B : Blt mg tC tG) (Dl_greens : Def K mg "_law_greens" s_l_greens ["_law_pond_here", "_law_span"] f fd) (Dl_fish : Def K mg "_law_fish" s_l_fish ["_law_pond_here", "_law_bound"] f1 fd1) : FnOk P w K mg base CX0 3 f fd ["_law_pond_here", "_law_span"] spGreens := by
  have Gl_fish := ok_fish (P := P) (w := w) (base := base) B Dl_fish
  refine Dl_greens.F.ok scl_greens (fun vs H Q E h => ?_) (fun cdv A outer s H vs Q E hr h => ⟨_, (pss_cons (ps_set (i := 2) scl_greens.nd rfl (Or.inl rfl) (pe_lst pa_nil))
  (pss_cons (ps_for PassesOwn.never rfl (pi_range1 (by rfl) B.range (pa_cons (pe_ix ix_list (pe_lst (pa_cons pe_int (pa_cons pe_int (pa_cons pe_int (pa_cons pe_int (pa_cons pe_int (pa_cons (pe_op op_add pe_int (pe_call Gl_fish (hr.mono (by decide)) (by rfl) Dl_fish.g Dl_fish.F.kp Dl_fish.b .nil pass0 (pa_cons (pv 0) (pa_cons pe_int pa_nil)))) pa_nil))))))) (pe_call Gl_fish (hr.mono (by decide)) (by rfl) Dl_fish.g Dl_fish.F.kp Dl_fish.b .nil pass0 (pa_cons (pv 0) (pa_cons pe_int pa_nil))) (fun _ _ => rfl)) pa_nil)) (pg_name (i := 3) scl_greens.nd rfl (Or.inl rfl))
   (pss_cons (ps_set (i := 4) scl_greens.nd rfl (Or.inl rfl) (pe_call Gl_fish (hr.mono (by decide)) (by rfl) Dl_fish.g Dl_fish.F.kp Dl_fish.b .nil pass0 (pa_cons (pv 0) (pa_cons (pv 1) pa_nil))))
  (Evl.pss_cut (ps_if (PW.pt (pw_and (pt_cmpR (op_neD hr.units) (pv 2) (pe_lst pa_nil) (nomark _)) (pw_and1 (pt_cmpR op_eq (pe_call Gl_fish (hr.mono (by decide)) (by rfl) Dl_fish.g Dl_fish.F.kp Dl_fish.b .nil pass0 (pa_cons (pv 0) (pa_cons pe_int pa_nil))) pe_int (nomark _)))))
   (pss_one (ps_set (i := 4) scl_greens.nd rfl (Or.inl rfl) (pe_op op_modN (pe_op op_add (pe_ix ix_tup (pe_ix ix_list (pv 2) (pe_un un_neg pe_int) (fun _ _ => rfl)) pe_int (fun _ _ => rfl)) (pe_ix ix_tup (pe_ix ix_list (pv 2) (pe_un un_neg pe_int) (fun _ _ => rfl)) pe_int (fun _ _ => rfl))) (pv 1))))
   pss_nil)
  (pss_cons (ps_set (i := 5) scl_greens.nd rfl (Or.inl rfl) (pe_op op_add pe_int (pe_call Gl_fish (hr.mono (by decide)) (by rfl) Dl_fish.g Dl_fish.F.kp Dl_fish.b .nil pass0 (pa_cons (pv 0) (pa_cons (pe_callB (call_min2 rfl) (by rfl) B.n_min (by decide +kernel) (pa_cons (pv 1) (pa_cons pe_int pa_nil))) pa_nil)))))
  (pss_cons (ps_set (i := 6) scl_greens.nd rfl (Or.inl rfl) (pe_ix ix_list (pe_lst (pa_cons (pv 5) (pa_cons (pe_op op_add pe_int (pe_call Gl_fish (hr.mono (by decide)) (by rfl) Dl_fish.g Dl_fish.F.kp Dl_fish.b .nil pass0 (pa_cons (pv 0) (pa_cons (pe_op op_add (pe_op op_fdivW (pv 1) pe_int) pe_int) pa_nil)))) (pa_cons (pe_op op_add pe_int (pe_call Gl_fish (hr.mono (by decide)) (by rfl) Dl_fish.g Dl_fish.F.kp Dl_fish.b .nil pass0 (pa_cons (pv 0) (pa_cons (pv 1) pa_nil)))) pa_nil)))) (pe_call Gl_fish (hr.mono (by decide)) (by rfl) Dl_fish.g Dl_fish.F.kp Dl_fish.b .nil pass0 (pa_cons (pv 0) (pa_cons pe_int pa_nil))) (fun _ _ => rfl)))
  (pss_one (ps_expr (pe_bm PySem.F.plainAttrs_list PySem.F.slot_list_append PySem.F.type_list_append mt_append (pv 2) (pa_cons (pe_tup (pa_cons (pv 4) (pa_cons (pe_ifExp (pt_cmpR op_eq (pe_op op_modN (pv 3) pe_int) pe_int (nomark _)) (pv 5) (pv 6)) pa_nil))) pa_nil)))))))))
  (pss_one (ps_ret (pe_callTy call_tuple_of (by rfl) B.n_tuple (by decide +kernel) (pa_cons (pv 2) pa_nil)))))), ?_⟩)
  · obtain ⟨p, m, n, rfl, _⟩ := h; rfl
  · obtain ⟨p, m, n, rfl, hP, hn, m1, m2, q⟩ := h
    refine ⟨Nat.zero_le _, fun F hF => ?_⟩
    have hpF : p ≠ F := fun e => hP.ne (e ▸ hF)
    -- how many
    refine ⟨_, rfl, p, 6, n, rfl, hP.new hF, by omega, by decide, by decide +kernel, fun r1 H2 bt2 pd2 r10 r11 => ?_⟩
    refine ⟨_, _, rfl, rfl, (by show 6 ≤ sizeLine; decide), fun L hL => ⟨_, rfl, p, 6, n + 12, rfl, pd2.new hL, by omega, by decide, by decide +kernel, fun r2 H3 bt3 pd3 r20 r21 => ?_⟩⟩
    obtain ⟨v, hv, ha⟩ := pick (xs := [1, 1, 2, 3, 6, 1 + r1]) r20 r21
    have hLp : L ≠ p := fun e => pd2.ne (e ▸ hL)
    have b23 : But p (upd H F (.lst [])) H3 := (bt2.new hL).trans bt3
    have v16 : 1 ≤ v ∧ v ≤ 6 := by
      simp only [List.mem_cons, List.not_mem_nil, or_false] at hv
      omega
    refine ⟨L, _, _, _, rfl, rfl, SqL.of (bt3 L _ hLp upd_same), ha, v, rfl, by omega, by omega, ?_⟩
    refine for_range (lo := 0) (fun i σ H' => ∃ gs us y3 y4 y5 y6, σ = [some (.ref p), some (.int m), some (.ref F), y3, y4, y5, y6] ∧ But p H H' ∧ Pond (n + 24 + 100 * i) p H' ∧ H' F = some (.lst us) ∧ Paired (GrAt H') us gs ∧
      gs.length = i ∧ ∀ g ∈ gs, 0 ≤ g.1 ∧ g.1 < m ∧ 1 ≤ g.2 ∧ g.2 ≤ m)
      ⟨[], [], none, none, none, none, rfl, fun q' o hq e => b23 q' o hq ((Same.new hF) q' o e), pd3.mono (by omega), b23 F _ hpF.symm upd_same, .nil, rfl, fun _ h => (List.not_mem_nil h).elim⟩ ?_ ?_
    · rintro i σ H' hi ⟨gs, us, y3, y4, y5, y6, rfl, bt, pd, hf, hG, hlen, hok⟩
      have i6 : i ≤ 6 := by omega
      have m100 : m ≤ 10 ^ 100 := by
        have : (10 : Int) ^ 30 ≤ 10 ^ 100 := by decide +kernel
        omega
      refine ⟨_, rfl, _, rfl, p, m, _, rfl, pd, by omega, m1, m100, fun r4 H4 bt4 pd4 r40 r41 => ?_⟩
      obtain ⟨pu, hpu⟩ := pd.some
      have hf4 := bt4 F _ hpF.symm hf
      have hG4 := grs_but bt4 hpu hG
      refine ⟨fun σ' H' => ∃ pl, σ' = [some (.ref p), some (.int m), some (.ref F), some (.int (0 + (i : Int))), some (.int pl), y5, y6] ∧ But p H H' ∧ Pond (n + 24 + 100 * i + 24) p H' ∧ H' F = some (.lst us) ∧ Paired (GrAt H') us gs ∧ 0 ≤ pl ∧ pl < m, ?_, ?_⟩
      · refine ⟨_, rfl, Nat.zero_le _, fun Z hZ => ⟨_, _, .lst (SqL.of (Same.new hZ _ _ hf4)) (dp_pairs (grs_same (Same.new hZ) hG4)), .lst (SqL.of upd_same) .nil, shaped_pairs gs, shaped_nil, _, rfl, ?_⟩⟩
        have hfZ := Same.new hZ (o := .lst []) _ _ hf4
        have hGZ := grs_same (Same.new hZ (o := .lst [])) hG4
        rw [eqv_nil]
        rcases List.eq_nil_or_concat gs with rfl | ⟨gs', g, rfl⟩
        · exact ⟨r4, rfl, (bt.trans bt4).new hZ, (pd4.new hZ).mono (by omega), hfZ, hGZ, r40, r41⟩
        · rw [show (gs'.concat g).isEmpty = false by simp]
          refine ⟨_, rfl, p, 3, _, rfl, pd4.new hZ, by omega, by decide, by decide +kernel, fun r5 H5 bt5 pd5 r50 r51 => ⟨rfl, _, rfl, ?_⟩⟩
          obtain ⟨pu5, hpu5⟩ := (pd4.new hZ (o := .lst [])).some
          have hf5 := bt5 F _ hpF.symm hfZ
          have hG5 := grs_but bt5 hpu5 hGZ
          have b5 : But p H H5 := ((bt.trans bt4).new hZ).trans bt5
          by_cases h5 : r5 = 0
          · refine iteY (congrArg V.int h5) ?_
            rcases List.eq_nil_or_concat us with rfl | ⟨us', x, rfl⟩
            · have := paired_len hG5
              simp at this
            · have el := paired_len hG5
              have hx : (us'.concat x)[us'.length]? = some x := by simp
              obtain ⟨g', hg', b, rfl, hb⟩ := paired_at hG5 hx
              have hat : atI (us'.concat (V.ref b)) (-1) = some (V.ref b) := by rw [List.concat_eq_append]; exact atI_last _ _
              refine ⟨_, rfl, _, rfl, F, _, _, _, rfl, rfl, SqL.of hf5, hat, b, _, _, _, rfl, rfl, SqT.of hb, rfl, _, rfl, _, rfl, F, _, _, _, rfl, rfl, SqL.of hf5, hat, b, _, _, _, rfl, rfl, SqT.of hb, rfl, _, _, rfl, rfl, _, rfl, _, _, rfl, rfl, (by show m ≠ 0; omega), ?_⟩
              exact ⟨_, rfl, b5, pd5.mono (by omega), hf5, hG5, (fmod_rng m1).1, (fmod_rng m1).2⟩
          · exact iteN (fun e => h5 (V.int.inj e)) ⟨r4, rfl, b5, pd5.mono (by omega), hf5, hG5, r40, r41⟩
      · rintro σ' H5 ⟨pl, rfl, bt5, pd5, hf5, hG5, p0, p1⟩
        -- few
        have mn : 1 ≤ (if (4 : Int) < m then (4 : Int) else m) ∧ (if (4 : Int) < m then (4 : Int) else m) ≤ m := by split <;> omega
        refine ⟨_, rfl, _, rfl, _, _, rfl, p, _, _, rfl, pd5, by omega, mn.1, by omega, fun r6 H6 bt6 pd6 r60 r61 => ⟨_, _, rfl, rfl, ?_⟩⟩
        obtain ⟨pu5, hpu5⟩ := pd5.some
        have hf6 := bt6 F _ hpF.symm hf5
        have hG6 := grs_but bt6 hpu5 hG5
        -- many
        have half : 0 ≤ m / 2 ∧ m / 2 ≤ m := by omega
        refine ⟨_, rfl, _, rfl, _, rfl, _, _, rfl, rfl, ⟨by decide, by decide +kernel⟩, _, _, rfl, rfl, p, _, _, rfl, pd6, by omega, by show 1 ≤ m / 2 + 1; omega, by show m / 2 + 1 ≤ 10 ^ 100; omega, fun r7 H7 bt7 pd7 r70 r71 => ⟨_, _, rfl, rfl, ?_⟩⟩
        obtain ⟨pu6, hpu6⟩ := pd6.some
        have hf7 := bt7 F _ hpF.symm hf6
        have hG7 := grs_but bt7 hpu6 hG6
        refine ⟨_, rfl, _, rfl, p, _, _, rfl, pd7, by omega, m1, m100, fun r8 H8 bt8 pd8 r80 r81 => ⟨_, _, rfl, rfl, (by show 3 ≤ sizeLine; decide), fun LL hLL => ?_⟩⟩
        obtain ⟨pu7, hpu7⟩ := pd7.some
        have hf8 := Same.new hLL (o := .lst [.int (1 + r6), .int (1 + r7), .int (1 + r8)]) _ _ (bt8 F _ hpF.symm hf7)
        have hG8 := grs_same (Same.new hLL (o := .lst [.int (1 + r6), .int (1 + r7), .int (1 + r8)])) (grs_but bt8 hpu7 hG7)
        have hLLp : LL ≠ p := fun e => pd8.ne (e ▸ hLL)
        have pd8' := pd8.new hLL (o := .lst [.int (1 + r6), .int (1 + r7), .int (1 + r8)])
        refine ⟨_, rfl, p, 3, _, rfl, pd8', by omega, by decide, by decide +kernel, fun r9 H9 bt9 pd9 r90 r91 => ?_⟩
        obtain ⟨pu8, hpu8⟩ := pd8'.some
        have hf9 := bt9 F _ hpF.symm hf8
        have hG9 := grs_but bt9 hpu8 hG8
        obtain ⟨mv, hmv, hma⟩ := pick (xs := [1 + r6, 1 + r7, 1 + r8]) r90 r91
        have many : 1 ≤ mv ∧ mv ≤ m := by
          simp only [List.mem_cons, List.not_mem_nil, or_false] at hmv
          omega
        have few : 1 ≤ 1 + r6 ∧ 1 + r6 ≤ m := by omega
        have b9 : But p H H9 := (((bt5.trans bt6).trans (bt7.trans bt8)).new hLL).trans bt9
        refine ⟨LL, _, _, _, rfl, rfl, SqL.of (bt9 LL _ hLLp upd_same), hma, ?_⟩
        -- append
        refine ⟨_, rfl, .inl ⟨rfl, _, SqL.of hf9⟩, _, rfl, _, rfl, _, _, rfl, rfl, (by show (2 : Int) ≠ 0; decide), rfl, _, rfl, ?_⟩
        have put : ∀ lv : Int, 1 ≤ lv → lv ≤ m → ∀ T, H9 T = none → But p H (upd (upd H9 T (.tup [.int pl, .int lv])) F (.lst (us ++ [.ref T]))) ∧ Pond (n + 24 + 100 * ((i + 1 : Nat) : Int)) p (upd (upd H9 T (.tup [.int pl, .int lv])) F (.lst (us ++ [.ref T]))) ∧
            (upd (upd H9 T (.tup [.int pl, .int lv])) F (.lst (us ++ [.ref T]))) F = some (.lst (us ++ [.ref T])) ∧ Paired (GrAt (upd (upd H9 T (.tup [.int pl, .int lv])) F (.lst (us ++ [.ref T])))) (us ++ [.ref T]) (gs ++ [(pl, lv)]) ∧
            (gs ++ [(pl, lv)]).length = i + 1 ∧ ∀ g ∈ gs ++ [(pl, lv)], 0 ≤ g.1 ∧ g.1 < m ∧ 1 ≤ g.2 ∧ g.2 ≤ m := by
          intro lv l1 l2 T hT
          have nTF : T ≠ F := fun e => by rw [e, hf9] at hT; cases hT
          have keep : ∀ b xs, H9 b = some (.tup xs) → (upd (upd H9 T (.tup [.int pl, .int lv])) F (.lst (us ++ [.ref T]))) b = some (.tup xs) := fun b xs e => by
            have nb : b ≠ F := ne_of e hf9 (fun z => nomatch z)
            rw [upd_ne nb]
            exact Same.new hT _ _ e
          refine ⟨(b9.new hT).mut hF, ?_, upd_same, paired_snoc (L2.Paired.mapP hG9 fun _ _ ⟨b, e, h⟩ => ⟨b, e, keep _ _ h⟩) ⟨T, rfl, ?_⟩, by simp [hlen], ?_⟩
          · obtain ⟨a, b, c, e1, e2, e3, e4, e5⟩ := pd9.new hT (o := .tup [.int pl, .int lv])
            exact ⟨a, b, c, by rw [upd_ne hpF]; exact e1, e2, e3, e4, by push_cast; omega⟩
          · rw [upd_ne nTF]; exact upd_same
          · intro g hg
            rcases List.mem_append.mp hg with h | h
            · exact hok g h
            · rw [List.mem_singleton.mp h]
              exact ⟨p0, p1, l1, l2⟩
        have hsz : us.length < sizeLine := small1000 (by have := paired_len hG9; omega)
        refine ite2 (fun _ => ⟨_, rfl, (by show 2 ≤ sizeLine; decide), fun T hT => ?_⟩) (fun _ => ⟨_, rfl, (by show 2 ≤ sizeLine; decide), fun T hT => ?_⟩)
        · have nTF : F ≠ T := fun e => by rw [← e, hf9] at hT; cases hT
          refine ⟨F, us, _, rfl, rfl, (by rw [upd_ne nTF]; exact hf9), hsz, gs ++ [(pl, 1 + r6)], us ++ [.ref T], _, _, _, _, rfl, ?_⟩
          exact put _ few.1 few.2 T hT
        · have nTF : F ≠ T := fun e => by rw [← e, hf9] at hT; cases hT
          refine ⟨F, us, _, rfl, rfl, (by rw [upd_ne nTF]; exact hf9), hsz, gs ++ [(pl, mv)], us ++ [.ref T], _, _, _, _, rfl, ?_⟩
          exact put _ many.1 many.2 T hT
    · rintro σ H' ⟨gs, us, y3, y4, y5, y6, rfl, bt, pd, hf, hG, hlen, hok⟩
      refine ⟨_, rfl, F, us, rfl, .inl ⟨SqL.of hf, fun l hl => ?_⟩⟩
      refine q l gs _ (bt.new hl) ((pd.new hl).mono (by omega)) ⟨us, upd_same, grs_same (Same.new hl) hG⟩ ⟨by omega, by omega, hok⟩
end
end Gr

set_option Elab.async false
set_option linter.all false
set_option pp.deepTerms false
set_option pp.maxSteps 3000
set_option maxRecDepth 100000
set_option maxHeartbeats 4000000
set_option exponentiation.threshold 3000
namespace Gr
open PySem PySem.Spec PyProof.Rows L2
/-! ### the rests -/
theorem emod_two {x s : Int} (h0 : -s ≤ x) (h1 : x < 2 * s) (hs : 0 < s) : x % s = if x < 0 then x + s else if x < s then x else x - s := by
  by_cases a : x < 0
  · rw [if_pos a, ← Int.add_emod_right, Int.emod_eq_of_lt (by omega) (by omega)]
  · rw [if_neg a]
    by_cases b : x < s
    · rw [if_pos b, Int.emod_eq_of_lt (by omega) b]
    · rw [if_neg b, ← Int.sub_emod_right, Int.emod_eq_of_lt (by omega) (by omega)]
theorem rest_eq {t o j s : Int} (t0 : 0 ≤ t) (t1 : t < s) (o0 : 0 ≤ o) (o1 : o < s) (j0 : 0 ≤ j) (j1 : j < s) : ((t - o) % s = j) ↔ t = (o + j) % s := by
  rw [emod_two (x := t - o) (s := s) (by omega) (by omega) (by omega), emod_two (x := o + j) (s := s) (by omega) (by omega) (by omega)]
  split <;> split <;> (try split) <;> omega
/-- a dict that holds just the moments of f, each from 0 to below s -/
structure LitP (s : Int) (f : Int → Bool) (kvs : List (Key × V)) : Prop where
  is : ∀ t, 0 ≤ t → t < s → (valV kvs (.inl t)).isSome = f t
  once : (kvs.map (·.1)).Nodup
  rng : ∀ k ∈ kvs.map (·.1), ∃ t, k = .inl t ∧ 0 ≤ t ∧ t < s
theorem keys_put (kvs : List (Key × V)) (k : Key) (y : V) : (k ∈ kvs.map (·.1) ∧ (putK kvs k y).map (·.1) = kvs.map (·.1)) ∨ (¬ k ∈ kvs.map (·.1) ∧ (putK kvs k y).map (·.1) = kvs.map (·.1) ++ [k]) := by
  have h : ((kvs.any fun kv => decide (kv.1 = k)) = true) ↔ k ∈ kvs.map (·.1) := by
    rw [List.any_eq_true, List.mem_map]
    constructor
    · rintro ⟨x, h1, h2⟩; exact ⟨x, h1, of_decide_eq_true h2⟩
    · rintro ⟨x, h1, h2⟩; exact ⟨x, h1, decide_eq_true h2⟩
  unfold putK
  by_cases a : k ∈ kvs.map (·.1)
  · refine .inl ⟨a, ?_⟩
    rw [if_pos (h.mpr a), List.map_map]
    apply List.map_congr_left
    intro p _
    show (if p.1 = k then (p.1, y) else p).1 = p.1
    split <;> rfl
  · refine .inr ⟨a, ?_⟩
    rw [if_neg (fun z => a (h.mp z)), List.map_append]; rfl
theorem LitP.put {s : Int} {f : Int → Bool} {kvs : List (Key × V)} (h : LitP s f kvs) {u : Int} (u0 : 0 ≤ u) (u1 : u < s) (y : V) : LitP s (fun t => f t || decide (t = u)) (putK kvs (.inl u) y) where
  is := fun t t0 t1 => by
    rw [valV_put]
    by_cases e : t = u
    · rw [if_pos (congrArg Sum.inl e), decide_eq_true e, Bool.or_true]; rfl
    · rw [if_neg (fun z => e (Sum.inl.inj z)), decide_eq_false e, Bool.or_false]; exact h.is t t0 t1
  once := by
    rcases keys_put kvs (.inl u) y with ⟨_, e⟩ | ⟨a, e⟩
    · rw [e]; exact h.once
    · rw [e]
      exact List.nodup_append.mpr ⟨h.once, by simp, fun x hx z hz e => a (by rw [← List.mem_singleton.mp hz, ← e]; exact hx)⟩
  rng := fun k hk => by
    rcases keys_put kvs (.inl u) y with ⟨_, e⟩ | ⟨a, e⟩
    · rw [e] at hk; exact h.rng k hk
    · rw [e] at hk
      rcases List.mem_append.mp hk with z | z
      · exact h.rng k z
      · exact ⟨u, List.mem_singleton.mp z, u0, u1⟩
theorem LitP.to {s : Int} {f g : Int → Bool} {kvs : List (Key × V)} (h : LitP s f kvs) (e : ∀ t, 0 ≤ t → t < s → f t = g t) : LitP s g kvs := ⟨fun t t0 t1 => (h.is t t0 t1).trans (e t t0 t1), h.once, h.rng⟩
theorem len_put (kvs : List (Key × V)) (k : Key) (y : V) : (putK kvs k y).length ≤ kvs.length + 1 := by
  unfold putK
  split
  · rw [List.length_map]; omega
  · rw [List.length_append]; exact Nat.le_refl _
def spRests : Sp := fun vs H Q _ => ∃ (g : Addr) (s : Int) (gs : List (Int × Int)), vs = [.int s, .ref g] ∧ SigT H g gs ∧ OkG s gs ∧ s ≤ 10000 ∧ ∀ d kvs H', Same H H' → H d = none → H' d = some (.dK kvs) → LitP s (lit s gs) kvs → Q (.ref d) H'
/-! ### scaled -/
def scal2 (f : Int) (gs : List (Int × Int)) : List (Int × Int) := gs.map fun g => (g.1 * f, g.2 * f)
def spScaled : Sp := fun vs H Q _ => ∃ (g : Addr) (f : Int) (gs : List (Int × Int)), vs = [.ref g, .int f] ∧ SigT H g gs ∧ gs.length ≤ 100 ∧ (∀ x ∈ gs, 0 ≤ x.1 ∧ x.1 ≤ 10 ^ 30 ∧ 0 ≤ x.2 ∧ x.2 ≤ 10 ^ 30) ∧ 0 ≤ f ∧ f ≤ 10 ^ 30 ∧ ∀ a H', Same H H' → SigT H' a (scal2 f gs) → Q (.ref a) H'
theorem mul30 {i j : Int} (i0 : 0 ≤ i) (i1 : i ≤ 10 ^ 30) (j0 : 0 ≤ j) (j1 : j ≤ 10 ^ 30) : CMulW i j := by
  have e : (10 : Int) ^ 30 < ((2 ^ 100 : Nat) : Int) := by decide +kernel
  exact wide_mul (a := 100) (b := 100) (natAbs_lt i0 (by omega)) (natAbs_lt j0 (by omega)) (by decide) (by decide) (by decide)
theorem mulBig {i j : Int} (i0 : i.natAbs < 2 ^ 1000) (j0 : j.natAbs < 2 ^ 1000) : CMulW i j := wide_mul (a := 1000) (b := 1000) i0 j0 (by decide) (by decide) (by decide)
theorem lit_mod (s : Int) (gs : List (Int × Int)) (t : Int) : lit s gs (t % s) = lit s gs t := by
  unfold lit
  congr 1
  funext g
  rw [Int.emod_sub_emod]
theorem lit_far (s : Int) (gs : List (Int × Int)) (t k : Int) : lit s gs (t + k * s) = lit s gs t := by
  rw [← lit_mod s gs (t + k * s), Int.add_mul_emod_self_right, lit_mod]
theorem lit_scal {s f : Int} (gs : List (Int × Int)) (x r : Int) (hs : 0 < s) (hf : 0 < f) (r0 : 0 ≤ r) (r1 : r < f) : lit (s * f) (scal2 f gs) (x * f + r) = lit s gs x := by
  unfold lit scal2
  rw [List.any_map]
  congr 1
  funext g
  show decide ((x * f + r - g.1 * f) % (s * f) < g.2 * f) = decide ((x - g.1) % s < g.2)
  have e : (x * f + r - g.1 * f) % (s * f) = ((x - g.1) % s) * f + r := by
    have h1 : x * f + r - g.1 * f = (((x - g.1) % s) * f + r) + (s * f) * ((x - g.1) / s) := by
      have := Int.emod_add_mul_ediv (x - g.1) s
      have h2 : (x - g.1) * f = ((x - g.1) % s + s * ((x - g.1) / s)) * f := by rw [this]
      rw [Int.sub_mul, Int.add_mul] at h2
      have h3 : s * ((x - g.1) / s) * f = s * f * ((x - g.1) / s) := by rw [Int.mul_right_comm]
      omega
    rw [h1, Int.add_mul_emod_self_left]
    have m0 := Int.emod_nonneg (x - g.1) (show s ≠ 0 by omega)
    have m1 := Int.emod_lt_of_pos (x - g.1) hs
    have a : ((x - g.1) % s) * f ≥ 0 := Int.mul_nonneg m0 (by omega)
    have b : ((x - g.1) % s + 1) * f ≤ s * f := Int.mul_le_mul_of_nonneg_right (by omega) (by omega)
    rw [Int.add_mul, Int.one_mul] at b
    exact Int.emod_eq_of_lt (by omega) (by omega)
  rw [e]
  congr 1
  apply propext
  constructor
  · intro h
    have : ((x - g.1) % s) * f < g.2 * f := by omega
    exact Int.lt_of_mul_lt_mul_right this (by omega)
  · intro h
    have b : ((x - g.1) % s + 1) * f ≤ g.2 * f := Int.mul_le_mul_of_nonneg_right (by omega) (by omega)
    rw [Int.add_mul, Int.one_mul] at b
    omega
/-! ### truths told by repr -/
theorem textFrom_le : ∀ (ts : List Str) (k : Nat) (acc : Str), (∀ t ∈ ts, t.length ≤ 5) → (textFrom k acc ts).length ≤ acc.length + 7 * ts.length
  | [], k, acc, _ => Nat.le_refl _
  | t :: r, k, acc, h => by
    have ih := textFrom_le r (k + 1) (acc ++ (if k > 0 then ", " else "" : String) ++ t) (fun x hx => h x (List.mem_cons_of_mem _ hx))
    have e : (acc ++ (if k > 0 then ", " else "" : String) ++ t).length ≤ acc.length + 2 + 5 := by
      rw [strLen_append, strLen_append]
      have := h t List.mem_cons_self
      have z : (Str.ofString (if k > 0 then ", " else "" : String)).length ≤ 2 := by split <;> decide
      omega
    show (textFrom (k + 1) (acc ++ (if k > 0 then ", " else "" : String) ++ t) r).length ≤ _
    rw [List.length_cons]
    omega
def boolsD (bs : List Bool) : PyData := .list (bs.map PyData.bool)
theorem shownAll_b : ∀ bs : List Bool, (∀ t ∈ PyData.shownAll (bs.map PyData.bool), t.length ≤ 5) ∧ (PyData.shownAll (bs.map PyData.bool)).length = bs.length
  | [] => ⟨fun _ h => by simp [PyData.shownAll] at h, rfl⟩
  | b :: bs => by
    have ih := shownAll_b bs
    refine ⟨fun t h => ?_, by simpa [PyData.shownAll] using ih.2⟩
    simp only [List.map_cons, PyData.shownAll, List.mem_cons] at h
    rcases h with rfl | h
    · cases b <;> decide
    · exact ih.1 t h
theorem bools_len (bs : List Bool) (h : bs.length ≤ 10000) : (boolsD bs).shown.length ≤ sizeLine := by
  have h1 := shownAll_b bs
  have h2 := textFrom_le _ 0 "[" h1.1
  have e : (boolsD bs).shown = textFrom 0 "[" (PyData.shownAll (bs.map PyData.bool)) ++ "]" := by
    unfold boolsD
    simp only [PyData.shown, listText]
  rw [e, strLen_append]
  rw [h1.2] at h2
  have z1 : (Str.ofString "[").length = 1 := by decide
  have z2 : (Str.ofString "]").length = 1 := by decide
  rw [z1] at h2
  rw [z2, sizeLine_eq]
  omega
theorem bools_show : ∀ bs : List Bool, (boolsD bs).showable = true ∧ (boolsD bs).hasDict = false ∧ (boolsD bs).depth ≤ 40 := fun bs => by
  have a : PyData.showableAll (bs.map PyData.bool) = true := by
    induction bs with
    | nil => simp [PyData.showableAll]
    | cons b r ih => simp [PyData.showableAll, PyData.showable, ih]
  have b : PyData.hasDictAll (bs.map PyData.bool) = false := by
    induction bs with
    | nil => simp [PyData.hasDictAll]
    | cons b r ih => simp [PyData.hasDictAll, PyData.hasDict] ; simp [PyData.showableAll, PyData.showable] at a; exact ih a
  have c : PyData.depthAll (bs.map PyData.bool) ≤ 5 := by
    clear a b
    induction bs with
    | nil => simp [PyData.depthAll]
    | cons b r ih => simp only [List.map_cons, PyData.depthAll, PyData.depth]; omega
  unfold boolsD
  refine ⟨by simpa only [PyData.showable] using a, by simpa only [PyData.hasDict] using b, ?_⟩
  simp only [PyData.depth]
  omega
theorem dp_bools {K : PySem.W.Frag} {H : Hp} : ∀ bs : List Bool, DpAll K H (bs.map V.bl) (bs.map PyData.bool)
  | [] => .nil
  | b :: bs => .cons (.bl b) (dp_bools bs)
section
variable {P : Program} {w : World} {K : PySem.W.Frag} {mg : Str → Option Value} {base : Heap} {tC tG : Tok}
theorem ok_rests {f : Addr} {fd : FuncData} (B : Blt mg tC tG) (Dl_rests : Def K mg "_law_rests" s_l_rests ["_law_span", "_law_greens_here"] f fd) : FnOk P w K mg base CX0 1 f fd ["_law_span", "_law_greens_here"] spRests := by
  refine Dl_rests.F.ok scl_rests (fun vs H Q E h => ?_) (fun cdv A outer s H vs Q E hr h => ⟨_, (pss_cons (ps_set (i := 2) scl_rests.nd rfl (Or.inl rfl) pe_dnewK)
  (pss_cons (ps_for PassesOwn.never rfl (pi_tup (pv 1)) (pg_tup rfl (pgs_cons (pg_name (i := 3) scl_rests.nd rfl (Or.inl rfl)) (pgs_cons (pg_name (i := 4) scl_rests.nd rfl (Or.inl rfl)) pgs_nil)))
   (pss_one (ps_for PassesOwn.never rfl (pi_range1 (by rfl) B.range (pa_cons (pv 4) pa_nil)) (pg_name (i := 5) scl_rests.nd rfl (Or.inl rfl))
   (pss_one (ps_dput (hu_of hr) (pv 2) (pe_op op_modN (pe_op op_add (pv 3) (pv 5)) (pv 0)) pe_bl rfl)))))
  (pss_one (ps_ret (pv 2))))), ?_⟩)
  · obtain ⟨g, m, gs, rfl, _⟩ := h; rfl
  · obtain ⟨g, m, gs, rfl, ⟨xs, hT, hP⟩, hG, hm, q⟩ := h
    have el := paired_len hP
    refine fun d hd => ?_
    refine ⟨_, rfl, g, rfl, ⟨_, SqT.of (Same.new hd _ _ hT)⟩, ?_⟩
    refine for_tup (xs := xs) (fun i σ H' => ∃ kvs y3 y4 y5, σ = [some (.int m), some (.ref g), some (.ref d), y3, y4, y5] ∧ Same H H' ∧ H' d = some (.dK kvs) ∧ LitP m (lit m (gs.take i)) kvs ∧ kvs.length ≤ i * 10000)
      ⟨[], none, none, none, rfl, Same.new hd, upd_same, ⟨fun t _ _ => rfl, List.nodup_nil, fun _ h => (List.not_mem_nil h).elim⟩, Nat.zero_le _⟩ (fun i σ H' _ ⟨_, _, _, _, _, s1, _⟩ => SqT.of (s1 _ _ hT)) ?_ ?_
    · rintro i x σ H' hx ⟨kvs, y3, y4, y5, rfl, s1, e1, hL, hz⟩
      obtain ⟨gr, hg, b, rfl, hb⟩ := paired_at hP hx
      have hin := hG.2.2 gr (List.mem_of_getElem? hg)
      have i6 : i < 6 := by have := (List.getElem?_eq_some_iff.mp hg).1; have := hG.2.1; omega
      refine ⟨b, _, rfl, SqT.of (s1 _ _ hb), rfl, _, _, rfl, _, _, rfl, rfl, ?_⟩
      refine ⟨_, rfl, gr.2, rfl, by omega, by omega, ?_⟩
      refine for_range (lo := 0) (fun j σ H' => ∃ kvs y5, σ = [some (.int m), some (.ref g), some (.ref d), some (.int gr.1), some (.int gr.2), y5] ∧ Same H H' ∧ H' d = some (.dK kvs) ∧
          LitP m (fun t => lit m (gs.take i) t || decide ((t - gr.1) % m < (j : Int))) kvs ∧ kvs.length ≤ i * 10000 + j) ⟨kvs, y5, rfl, s1, e1, hL.to fun t _ _ => ?_, by omega⟩ ?_ ?_
      · have := Int.emod_nonneg (t - gr.1) (show m ≠ 0 by omega)
        rw [decide_eq_false (by omega), Bool.or_false]
      · rintro j σ H2 hj ⟨kv, y, rfl, s2, e2, hL2, hz2⟩
        refine ⟨_, rfl, _, rfl, _, rfl, _, _, rfl, rfl, _, rfl, _, _, rfl, rfl, (by show m ≠ 0; omega), ?_⟩
        refine ⟨d, _, rfl, DPut.k (k := .inl _) e2 (by rw [sizeLine_eq]; omega), ?_⟩
        have e3 : (gr.1 + (0 + (j : Int))).fmod m = (gr.1 + (j : Int)) % m := by rw [Int.fmod_eq_emod_of_nonneg _ (by omega), Int.zero_add]
        have u0 := Int.emod_nonneg (gr.1 + (j : Int)) (show m ≠ 0 by omega)
        have u1 := Int.emod_lt_of_pos (gr.1 + (j : Int)) (show 0 < m by omega)
        refine ⟨_, _, rfl, fun b' o h => ?_, upd_same, ?_, ?_⟩
        · rw [upd_ne (ne_of_none h hd)]; exact s2 _ _ h
        · rw [e3]
          refine (hL2.put u0 u1 _).to fun t t0 t1 => ?_
          have := rest_eq (t := t) (o := gr.1) (j := (j : Int)) t0 t1 hin.1 hin.2.1 (by omega) (by omega)
          rw [Bool.or_assoc]
          congr 1
          rw [← Bool.decide_or]
          congr 1
          apply propext
          rw [← this]
          push_cast
          omega
        · have := len_put kv (.inl ((gr.1 + (0 + (j : Int))).fmod m)) (.bl true)
          omega
      · rintro σ H2 ⟨kv, y, rfl, s2, e2, hL2, hz2⟩
        refine ⟨kv, _, _, _, rfl, s2, e2, hL2.to fun t t0 t1 => ?_, by omega⟩
        unfold lit
        rw [List.take_add_one, hg, List.any_append]
        congr 1
        show _ = (decide ((t - gr.1) % m < gr.2) || false)
        rw [Bool.or_false, Int.toNat_of_nonneg (by omega)]
    · rintro σ H' ⟨kvs, y3, y4, y5, rfl, s1, e1, hL, hz⟩
      rw [List.take_of_length_le (by omega)] at hL
      exact ⟨_, rfl, q d kvs H' s1 hd e1 hL⟩
theorem ok_scaled {f : Addr} {fd : FuncData} (B : Blt mg tC tG) (Dl_scaled : Def K mg "_law_scaled" s_l_scaled ["_law_greens_here", "_law_factor"] f fd) : FnOk P w K mg base CX0 1 f fd ["_law_greens_here", "_law_factor"] spScaled := by
  refine Dl_scaled.F.ok scl_scaled (fun vs H Q E h => ?_) (fun cdv A outer s H vs Q E hr h => ⟨_, (pss_one (ps_ret (pe_callTy call_tuple_of (by rfl) B.n_tuple (by decide +kernel) (pa_cons (pe_lc (own := [("_law_place", 2), ("_law_size", 3)]) (g := (gTup K 2 (gCons (gName 2) (gCons (gName 3) gNil)))) (tt := tYes) rfl scl_scaled.nd (pi_tup (pv 0)) (blkOk_by (N := ["_law_greens_here", "_law_factor", "_law_place", "_law_size"]) (sc := defScope s_l_scaled) (by decide +kernel)) (fun _ _ _ _ _ => (pg_tup rfl (pgs_cons (pg_name (i := 2) scl_scaled.nd rfl (Or.inl rfl)) (pgs_cons (pg_name (i := 3) scl_scaled.nd rfl (Or.inl rfl)) pgs_nil)))) (fun _ _ _ _ _ => pts_nil) (fun _ _ _ _ _ => (pe_tup (pa_cons (pe_op op_mulW (pv 2) (pv 1)) (pa_cons (pe_op op_mulW (pv 3) (pv 1)) pa_nil))))) pa_nil)))), ?_⟩)
  · obtain ⟨g, m, gs, rfl, _⟩ := h; rfl
  · obtain ⟨g, m, gs, rfl, ⟨xs, hT, hP⟩, hl, hb, m0, m1, q⟩ := h
    have el := paired_len hP
    refine ⟨_, rfl, g, rfl, ⟨_, SqT.of hT⟩, fun D hD => ?_⟩
    refine lc_tup (xs := xs) (fun i H' => ∃ ys, Same H H' ∧ H' D = some (.lst ys) ∧ Paired (GrAt H') ys (scal2 m (gs.take i))) ⟨[], Same.new hD, upd_same, .nil⟩ (fun i H' _ ⟨_, s1, _⟩ => SqT.of (s1 _ _ hT)) ?_ ?_
    · rintro i x H' hx ⟨ys, s1, e1, hY⟩
      obtain ⟨gr, hg, b, rfl, hbT⟩ := paired_at hP hx
      have hin := hb gr (List.mem_of_getElem? hg)
      refine ⟨b, _, rfl, SqT.of (s1 _ _ hbT), rfl, _, _, rfl, _, _, rfl, rfl, rfl, ?_⟩
      refine ⟨_, rfl, _, rfl, _, _, rfl, rfl, mul30 hin.1 hin.2.1 m0 m1, _, rfl, _, rfl, _, _, rfl, rfl, mul30 hin.2.2.1 hin.2.2.2 m0 m1, (by show 2 ≤ sizeLine; decide), fun T hT2 => ?_⟩
      have nTD : D ≠ T := fun e => by rw [← e, e1] at hT2; cases hT2
      have lz : ys.length < sizeLine := small1000 (by
        have := paired_len hY
        rw [scal2, List.length_map, List.length_take] at this
        omega)
      refine ⟨ys, (by rw [upd_ne nTD]; exact e1), lz, ys ++ [.ref T], fun b' o h => ?_, upd_same, ?_⟩
      · rw [upd_ne (ne_of_none h hD)]
        exact Same.new hT2 _ _ (s1 _ _ h)
      · unfold scal2
        rw [List.take_add_one, hg, List.map_append]
        refine paired_snoc (L2.Paired.mapP hY fun _ _ ⟨b, e, h⟩ => ⟨b, e, ?_⟩) ⟨T, rfl, ?_⟩
        · rw [upd_ne (ne_of h e1 (fun z => nomatch z))]
          exact Same.new hT2 _ _ h
        · rw [upd_ne nTD.symm]; exact upd_same
    · rintro H' ⟨ys, s1, e1, hY⟩
      rw [List.take_of_length_le (by omega)] at hY
      exact ⟨D, ys, rfl, .inl ⟨SqL.of e1, fun l hl => q l _ (s1.trans (Same.new hl)) ⟨ys, upd_same, grs_same (Same.new hl) hY⟩⟩⟩
end
end Gr

set_option Elab.async false
set_option linter.all false
set_option pp.deepTerms false
set_option pp.maxSteps 3000
set_option maxRecDepth 100000
set_option maxHeartbeats 4000000
namespace Gr
open PySem PySem.Spec PyProof.Rows L2
/-! ### the longest stretches: one list alone -/
/-- a longest stretch of f, begun within the first cycle -/
def IsArc (c : Int) (f : Int → Bool) (g : Int × Int) : Prop :=
  0 ≤ g.1 ∧ g.1 < c ∧ 1 ≤ g.2 ∧ f (g.1 - 1) = false ∧ (∀ j, 0 ≤ j → j < g.2 → f (g.1 + j) = true) ∧ f (g.1 + g.2) = false
def Canon (c : Int) (f : Int → Bool) (A : List (Int × Int)) : Prop :=
  ((∀ t, f t = true) ∧ A = [(0, c)]) ∨ ((∃ t, f t = false) ∧ A.Pairwise (fun a b => a.1 < b.1) ∧ ∀ g, g ∈ A ↔ IsArc c f g)
theorem sorted_ext : ∀ {A B : List (Int × Int)}, A.Pairwise (fun a b => a.1 < b.1) → B.Pairwise (fun a b => a.1 < b.1) → (∀ g, g ∈ A ↔ g ∈ B) → A = B
  | [], [], _, _, _ => rfl
  | [], b :: B, _, _, h => absurd ((h b).mpr List.mem_cons_self) (by simp)
  | a :: A, [], _, _, h => absurd ((h a).mp List.mem_cons_self) (by simp)
  | a :: A, b :: B, hA, hB, h => by
    have hA' := List.pairwise_cons.mp hA
    have hB' := List.pairwise_cons.mp hB
    have e : a = b := by
      rcases List.mem_cons.mp ((h a).mp List.mem_cons_self) with e | e
      · exact e
      · rcases List.mem_cons.mp ((h b).mpr List.mem_cons_self) with e' | e'
        · exact e'.symm
        · have h1 := hB'.1 a e
          have h2 := hA'.1 b e'
          omega
    subst e
    congr 1
    refine sorted_ext hA'.2 hB'.2 fun g => ⟨fun hg => ?_, fun hg => ?_⟩
    · rcases List.mem_cons.mp ((h g).mp (List.mem_cons_of_mem _ hg)) with e | e
      · subst e; have := hA'.1 g hg; omega
      · exact e
    · rcases List.mem_cons.mp ((h g).mpr (List.mem_cons_of_mem _ hg)) with e | e
      · subst e; have := hB'.1 g hg; omega
      · exact e
theorem Canon.uniq {c : Int} {f : Int → Bool} {A B : List (Int × Int)} (hA : Canon c f A) (hB : Canon c f B) : A = B := by
  rcases hA with ⟨a1, a2⟩ | ⟨⟨t, a1⟩, a2, a3⟩
  · rcases hB with ⟨b1, b2⟩ | ⟨⟨t, b1⟩, b2, b3⟩
    · rw [a2, b2]
    · rw [a1 t] at b1; cases b1
  · rcases hB with ⟨b1, b2⟩ | ⟨⟨t, b1⟩, b2, b3⟩
    · rw [b1 t] at a1; cases a1
    · exact sorted_ext a2 b2 fun g => (a3 g).trans (b3 g).symm
theorem Canon.to {c : Int} {f h : Int → Bool} {A : List (Int × Int)} (hA : Canon c f A) (e : ∀ t, f t = h t) : Canon c h A := by
  have : f = h := funext e
  rw [← this]; exact hA
theorem lit_iff {c t : Int} {A : List (Int × Int)} : lit c A t = true ↔ ∃ g ∈ A, (t - g.1) % c < g.2 := by
  unfold lit
  rw [List.any_eq_true]
  constructor
  · rintro ⟨g, h1, h2⟩; exact ⟨g, h1, of_decide_eq_true h2⟩
  · rintro ⟨g, h1, h2⟩; exact ⟨g, h1, decide_eq_true h2⟩
theorem lit_no {c t : Int} {A : List (Int × Int)} : lit c A t = false ↔ ∀ g ∈ A, ¬ (t - g.1) % c < g.2 := by
  rw [← Bool.not_eq_true, lit_iff]
  exact ⟨fun h g hg z => h ⟨g, hg, z⟩, fun h ⟨g, hg, z⟩ => h g hg z⟩
/-- greens with a red moment behind each -/
structure Sep (c : Int) (A : List (Int × Int)) : Prop where
  up : A.Pairwise (fun a b => a.1 < b.1)
  rng : ∀ g ∈ A, 0 ≤ g.1 ∧ g.1 < c ∧ 1 ≤ g.2 ∧ g.2 < c
  gap : ∀ g ∈ A, ∀ h ∈ A, g ≠ h → g.2 < (h.1 - g.1) % c
theorem Sep.behind {c : Int} {A : List (Int × Int)} (S : Sep c A) {g : Int × Int} (hg : g ∈ A) : lit c A (g.1 + g.2) = false := lit_no.mpr fun h hh z => by
  have r1 := S.rng g hg
  have r2 := S.rng h hh
  by_cases e : g = h
  · subst e
    rw [Int.emod_eq_of_lt (by omega) (by omega)] at z
    omega
  · have g1 := S.gap g hg h hh e
    have g2 := S.gap h hh g hg (fun z => e z.symm)
    rw [emod_two (by omega) (by omega) (by omega)] at z g1 g2
    split at z <;> split at g1 <;> split at g2 <;> (try split at z) <;> (try split at g1) <;> (try split at g2) <;> omega
theorem Sep.ahead {c : Int} {A : List (Int × Int)} (S : Sep c A) {g : Int × Int} (hg : g ∈ A) : lit c A (g.1 - 1) = false := lit_no.mpr fun h hh z => by
  have r1 := S.rng g hg
  have r2 := S.rng h hh
  by_cases e : g = h
  · subst e
    rw [emod_two (by omega) (by omega) (by omega)] at z
    split at z <;> (try split at z) <;> omega
  · have g2 := S.gap h hh g hg (fun z => e z.symm)
    rw [emod_two (by omega) (by omega) (by omega)] at z g2
    split at z <;> split at g2 <;> (try split at z) <;> (try split at g2) <;> omega
theorem Sep.canon {c : Int} {A : List (Int × Int)} (S : Sep c A) (ne : A ≠ []) : Canon c (lit c A) A := by
  refine .inr ⟨?_, S.up, fun g => ⟨fun hg => ?_, fun ha => ?_⟩⟩
  · match A, ne, S with
    | g :: r, _, S => exact ⟨_, S.behind (List.mem_cons_self)⟩
  · have r := S.rng g hg
    refine ⟨r.1, r.2.1, r.2.2.1, S.ahead hg, fun j j0 j1 => lit_iff.mpr ⟨g, hg, ?_⟩, S.behind hg⟩
    rw [Int.emod_eq_of_lt (by omega) (by omega)]
    omega
  · obtain ⟨o, l⟩ := g
    obtain ⟨h1, h2, h3, h4, h5, h6⟩ := ha
    simp only at h1 h2 h3 h4 h5 h6
    have h50 := h5 0 (by omega) (by omega)
    rw [Int.add_zero] at h50
    obtain ⟨h, hh, z⟩ := lit_iff.mp h50
    have r := S.rng h hh
    have e : o = h.1 := by
      refine Decidable.byContradiction fun e => ?_
      refine lit_no.mp h4 h hh ?_
      rw [emod_two (by omega) (by omega) (by omega)] at z ⊢
      split at z <;> split <;> (try split at z) <;> (try split) <;> omega
    have e2 : l = h.2 := by
      subst e
      rcases Int.lt_trichotomy l h.2 with a | a | a
      · refine absurd ?_ (lit_no.mp h6 h hh)
        rw [Int.emod_eq_of_lt (by omega) (by omega)]
        omega
      · exact a
      · have b := h5 h.2 (by omega) a
        rw [S.behind hh] at b
        cases b
    rw [e, e2]; exact hh
/-! ### joined from the left -/
def Cov (A : List (Int × Int)) (x : Int) : Prop := ∃ g ∈ A, g.1 ≤ x ∧ x < g.1 + g.2
theorem lit_lin {c t : Int} {A : List (Int × Int)} (hc : 0 < c) : lit c A t = true ↔ ∃ k : Int, Cov A (t + c * k) := by
  rw [lit_iff]
  constructor
  · rintro ⟨g, hg, h⟩
    refine ⟨-((t - g.1) / c), g, hg, ?_⟩
    have h1 := Int.emod_add_mul_ediv (t - g.1) c
    have h2 := Int.emod_nonneg (t - g.1) (show c ≠ 0 by omega)
    rw [Int.mul_neg]
    omega
  · rintro ⟨k, g, hg, h⟩
    refine ⟨g, hg, ?_⟩
    have e : (t - g.1) % c = (t + c * k - g.1) % c := by
      rw [show t + c * k - g.1 = (t - g.1) + c * k by omega, Int.add_mul_emod_self_left]
    rw [e]
    have h1 := Int.emod_add_mul_ediv (t + c * k - g.1) c
    have h2 : 0 ≤ (t + c * k - g.1) / c := Int.ediv_nonneg (by omega) (by omega)
    have h3 : 0 ≤ c * ((t + c * k - g.1) / c) := Int.mul_nonneg (by omega) h2
    omega
structure Jn (c : Int) (pre J : List (Int × Int)) : Prop where
  sep : J.Pairwise (fun a b => a.1 + a.2 < b.1)
  rng : ∀ g ∈ J, 0 ≤ g.1 ∧ g.1 < c ∧ 1 ≤ g.2 ∧ g.1 + g.2 ≤ 2 * c
  cov : ∀ x, Cov J x ↔ Cov pre x
  beg : ∀ g ∈ J, ∃ p ∈ pre, g.1 = p.1
  len : J.length ≤ pre.length
  any : pre ≠ [] → J ≠ []
theorem Jn.nil (c : Int) : Jn c [] [] := ⟨List.Pairwise.nil, fun _ h => (List.not_mem_nil h).elim, fun _ => Iff.rfl, fun _ h => (List.not_mem_nil h).elim, Nat.le_refl _, fun h => h⟩
theorem cov_app {A B : List (Int × Int)} {x : Int} : Cov (A ++ B) x ↔ Cov A x ∨ Cov B x := by
  unfold Cov
  constructor
  · rintro ⟨g, hg, h⟩
    rcases List.mem_append.mp hg with z | z
    · exact .inl ⟨g, z, h⟩
    · exact .inr ⟨g, z, h⟩
  · rintro (⟨g, hg, h⟩ | ⟨g, hg, h⟩)
    · exact ⟨g, List.mem_append.mpr (.inl hg), h⟩
    · exact ⟨g, List.mem_append.mpr (.inr hg), h⟩
theorem cov_one {g : Int × Int} {x : Int} : Cov [g] x ↔ g.1 ≤ x ∧ x < g.1 + g.2 := by
  unfold Cov
  constructor
  · rintro ⟨h, hh, z⟩; rw [List.mem_singleton.mp hh] at z; exact z
  · intro z; exact ⟨g, List.mem_singleton.mpr rfl, z⟩
theorem Jn.app {c : Int} {pre J : List (Int × Int)} {g : Int × Int} (h : Jn c pre J) (hg : 0 ≤ g.1 ∧ g.1 < c ∧ 1 ≤ g.2 ∧ g.2 ≤ c) (far : ∀ b ∈ J, b.1 + b.2 < g.1) : Jn c (pre ++ [g]) (J ++ [g]) where
  sep := List.pairwise_append.mpr ⟨h.sep, List.pairwise_singleton _ _, fun a ha b hb => by rw [List.mem_singleton.mp hb]; exact far a ha⟩
  rng := fun b hb => by
    rcases List.mem_append.mp hb with z | z
    · exact h.rng b z
    · rw [List.mem_singleton.mp z]; omega
  cov := fun x => by rw [cov_app, cov_app, h.cov]
  beg := fun b hb => by
    rcases List.mem_append.mp hb with z | z
    · obtain ⟨p, hp, e⟩ := h.beg b z
      exact ⟨p, List.mem_append.mpr (.inl hp), e⟩
    · rw [List.mem_singleton.mp z]; exact ⟨g, by simp, rfl⟩
  len := by have := h.len; simp; omega
  any := fun _ => by simp
theorem Jn.ext {c : Int} {pre K : List (Int × Int)} {b g : Int × Int} {m : Int} (h : Jn c pre (K ++ [b])) (hg : 0 ≤ g.1 ∧ g.1 < c ∧ 1 ≤ g.2 ∧ g.2 ≤ c) (after : b.1 ≤ g.1) (near : g.1 ≤ b.1 + b.2) (m1 : b.2 ≤ m) (m2 : g.1 + g.2 - b.1 ≤ m) (m3 : m = b.2 ∨ m = g.1 + g.2 - b.1) :
    Jn c (pre ++ [g]) (K ++ [(b.1, m)]) where
  sep := by
    obtain ⟨h1, h2, h3⟩ := List.pairwise_append.mp h.sep
    exact List.pairwise_append.mpr ⟨h1, List.pairwise_singleton _ _, fun a ha z hz => by rw [List.mem_singleton.mp hz]; exact h3 a ha b (by simp)⟩
  rng := fun z hz => by
    have hb := h.rng b (by simp)
    rcases List.mem_append.mp hz with y | y
    · exact h.rng z (List.mem_append.mpr (.inl y))
    · rw [List.mem_singleton.mp y]; simp only; omega
  cov := fun x => by
    have := h.cov x
    rw [cov_app, cov_one] at this
    rw [cov_app, cov_app, cov_one, cov_one, ← this]
    simp only
    constructor
    · rintro (z | z)
      · exact .inl (.inl z)
      · by_cases y : x < b.1 + b.2
        · exact .inl (.inr ⟨z.1, y⟩)
        · exact .inr (by omega)
    · rintro ((z | z) | z)
      · exact .inl z
      · exact .inr (by omega)
      · exact .inr (by omega)
  beg := fun z hz => by
    rcases List.mem_append.mp hz with y | y
    · obtain ⟨p, hp, e⟩ := h.beg z (List.mem_append.mpr (.inl y))
      exact ⟨p, List.mem_append.mpr (.inl hp), e⟩
    · rw [List.mem_singleton.mp y]
      obtain ⟨p, hp, e⟩ := h.beg b (by simp)
      exact ⟨p, List.mem_append.mpr (.inl hp), e⟩
  len := by have := h.len; simp at this ⊢; omega
  any := fun _ => by simp
/-! ### over the end -/
theorem pw_two {α : Type} {R : α → α → Prop} : ∀ {A : List α}, A.Pairwise R → ∀ g ∈ A, ∀ k ∈ A, g ≠ k → R g k ∨ R k g
  | [], _, _, hg, _, _, _ => (List.not_mem_nil hg).elim
  | a :: A, h, g, hg, k, hk, ne => by
    have h' := List.pairwise_cons.mp h
    rcases List.mem_cons.mp hg with e | e
    · rcases List.mem_cons.mp hk with y | y
      · exact absurd (e.trans y.symm) ne
      · subst e; exact .inl (h'.1 k y)
    · rcases List.mem_cons.mp hk with y | y
      · subst y; exact .inr (h'.1 g e)
      · exact pw_two h'.2 g e k y ne
theorem filter_parts (p : Int × Int → Bool) : ∀ K : List (Int × Int), K.Pairwise (fun a b => p b = true → p a = true) → K.filter p ++ K.drop (K.filter p).length = K ∧ ∀ g ∈ K.drop (K.filter p).length, p g = false
  | [], _ => ⟨rfl, fun _ h => (List.not_mem_nil h).elim⟩
  | g :: K, h => by
    have h' := List.pairwise_cons.mp h
    cases e : p g with
    | true =>
      have ih := filter_parts p K h'.2
      rw [List.filter_cons_of_pos e]
      simp only [List.length_cons, List.drop_succ_cons, List.cons_append]
      exact ⟨by rw [ih.1], ih.2⟩
    | false =>
      have none : ∀ x ∈ K, p x = false := fun x hx => by
        cases ex : p x with
        | false => rfl
        | true => rw [h'.1 x hx ex] at e; cases e
      have fe : (g :: K).filter p = [] := List.filter_eq_nil_iff.mpr fun x hx => by
        rcases List.mem_cons.mp hx with z | z
        · rw [z, e]; simp
        · rw [none x z]; simp
      rw [fe]
      refine ⟨rfl, fun x hx => ?_⟩
      rcases List.mem_cons.mp hx with z | z
      · rw [z]; exact e
      · exact none x z
theorem over_end {c b r R : Int} {pre K met rest : List (Int × Int)} (hc : 0 < c) (h : Jn c pre (K ++ [(b, r)])) (eK : K = met ++ rest) (hm : ∀ g ∈ met, g.1 + c ≤ b + r) (hr : ∀ g ∈ rest, b + r < g.1 + c)
    (R0 : r ≤ R) (R1 : ∀ g ∈ met, g.1 + c + g.2 - b ≤ R) (R2 : R = r ∨ ∃ g ∈ met, R = g.1 + c + g.2 - b) :
    (c ≤ R → ∀ t, lit c pre t = true) ∧ (R < c → Sep c (rest ++ [(b, R)]) ∧ ∀ t, lit c (rest ++ [(b, R)]) t = lit c pre t) := by
  obtain ⟨s1, s2, s3⟩ := List.pairwise_append.mp h.sep
  have hb := h.rng (b, r) (by simp)
  simp only at hb
  have inK : ∀ g ∈ K, 0 ≤ g.1 ∧ g.1 + g.2 < b ∧ 1 ≤ g.2 := fun g hg => by
    have a := h.rng g (List.mem_append.mpr (.inl hg))
    have d := s3 g hg (b, r) (by simp)
    simp only at d
    omega
  have litJ : ∀ t, lit c pre t = true ↔ ∃ k : Int, Cov (K ++ [(b, r)]) (t + c * k) := fun t => by
    rw [lit_lin hc]
    exact ⟨fun ⟨k, z⟩ => ⟨k, (h.cov _).mpr z⟩, fun ⟨k, z⟩ => ⟨k, (h.cov _).mp z⟩⟩
  have pull : ∀ x, b ≤ x → x < b + R → ∃ k : Int, Cov (K ++ [(b, r)]) (x + c * k) := fun x x0 x1 => by
    by_cases y : x < b + r
    · exact ⟨0, (b, r), by simp, by simp only; omega⟩
    · rcases R2 with e | ⟨m, hmm, e⟩
      · omega
      · have m1 := hm m hmm
        refine ⟨-1, m, ?_, by omega⟩
        rw [eK]; simp [hmm]
  have shift : ∀ t k : Int, (∃ k', Cov (K ++ [(b, r)]) (t + c * k + c * k')) → lit c pre t = true := fun t k ⟨k', z⟩ => (litJ t).mpr ⟨k + k', by rw [Int.mul_add, ← Int.add_assoc]; exact z⟩
  refine ⟨fun hR t => ?_, fun hR => ⟨?_, fun t => ?_⟩⟩
  · have h1 := Int.emod_add_mul_ediv (t - b) c
    have h2 := Int.emod_nonneg (t - b) (show c ≠ 0 by omega)
    have h3 := Int.emod_lt_of_pos (t - b) hc
    have e : t + c * -((t - b) / c) = b + (t - b) % c := by rw [Int.mul_neg]; omega
    exact shift t (-((t - b) / c)) (by rw [e]; exact pull _ (by omega) (by omega))
  · have sub : ∀ g ∈ rest, g ∈ K := fun g hg => by rw [eK]; simp [hg]
    have sr : rest.Pairwise (fun a b => a.1 + a.2 < b.1) := by rw [eK] at s1; exact (List.pairwise_append.mp s1).2.1
    have metrest : ∀ m ∈ met, ∀ g ∈ rest, m.1 + m.2 < g.1 := by rw [eK] at s1; exact (List.pairwise_append.mp s1).2.2
    have past : ∀ g ∈ rest, b + R < g.1 + c := fun g hg => by
      rcases R2 with e | ⟨m, hmm, e⟩
      · have := hr g hg; omega
      · have := metrest m hmm g hg; omega
    have two : ∀ g ∈ rest, ∀ k ∈ rest, g ≠ k → g.1 + g.2 < k.1 ∨ k.1 + k.2 < g.1 := fun g hg k hk ne => by
      exact pw_two sr g hg k hk ne
    refine ⟨?_, fun g hg => ?_, fun g hg k hk ne => ?_⟩
    · refine List.pairwise_append.mpr ⟨List.Pairwise.imp_of_mem (fun {a b} ha hb z => by have := inK a (sub a ha); omega) sr, List.pairwise_singleton _ _, fun a ha z hz => ?_⟩
      rw [List.mem_singleton.mp hz]
      have := inK a (sub a ha)
      simp only; omega
    · rcases List.mem_append.mp hg with z | z
      · have := inK g (sub g z); omega
      · rw [List.mem_singleton.mp z]; simp only; omega
    · rcases List.mem_append.mp hg with z | z
      · have a1 := inK g (sub g z)
        rcases List.mem_append.mp hk with y | y
        · have a2 := inK k (sub k y)
          rw [emod_two (by omega) (by omega) (by omega)]
          have := two g z k y ne
          split <;> (try split) <;> omega
        · rw [List.mem_singleton.mp y]
          simp only
          rw [emod_two (by omega) (by omega) (by omega)]
          split <;> (try split) <;> omega
      · have eg := List.mem_singleton.mp z
        rcases List.mem_append.mp hk with y | y
        · have a2 := inK k (sub k y)
          have a3 := past k y
          rw [eg]
          simp only
          rw [emod_two (by omega) (by omega) (by omega)]
          split <;> (try split) <;> omega
        · exact absurd (eg.trans (List.mem_singleton.mp y).symm) ne
  · have iff : lit c (rest ++ [(b, R)]) t = true ↔ lit c pre t = true := by
      constructor
      · intro z
        obtain ⟨k, z⟩ := (lit_lin hc).mp z
        rcases cov_app.mp z with ⟨g, hg, y⟩ | y
        · exact (litJ t).mpr ⟨k, g, by rw [eK]; simp [hg], y⟩
        · have y' := cov_one.mp y
          exact shift t k (pull _ y'.1 y'.2)
      · intro z
        obtain ⟨k, g, hg, y⟩ := (litJ t).mp z
        refine (lit_lin hc).mpr ?_
        rcases List.mem_append.mp hg with x | x
        · rw [eK] at x
          rcases List.mem_append.mp x with x | x
          · refine ⟨k + 1, (b, R), by simp, ?_⟩
            have := R1 g x
            have := inK g (by rw [eK]; simp [x])
            rw [Int.mul_add, Int.mul_one]
            simp only; omega
          · exact ⟨k, g, by simp [x], y⟩
        · rw [List.mem_singleton.mp x] at y
          exact ⟨k, (b, R), by simp, by simp only at y ⊢; omega⟩
    cases e : lit c pre t with
    | true => exact iff.mpr e
    | false =>
      cases e2 : lit c (rest ++ [(b, R)]) t with
      | false => rfl
      | true => rw [iff.mp e2] at e; cases e
/-! ### scaled -/
theorem div_rest {f x : Int} (hf : 0 < f) : x = x / f * f + x % f := by
  have := Int.emod_add_mul_ediv x f
  rw [Int.mul_comm] at this
  omega
theorem lit_div {s f : Int} (gs : List (Int × Int)) (x : Int) (hs : 0 < s) (hf : 0 < f) : lit (s * f) (scal2 f gs) x = lit s gs (x / f) := by
  have a := lit_scal gs (x / f) (x % f) hs hf (Int.emod_nonneg x (by omega)) (Int.emod_lt_of_pos x hf)
  rw [← div_rest hf] at a
  exact a
theorem Canon.scal {c f : Int} {h : Int → Bool} {A : List (Int × Int)} (hc : 0 < c) (hf : 0 < f) (H : Canon c h A) : Canon (c * f) (fun t => h (t / f)) (scal2 f A) := by
  rcases H with ⟨a1, a2⟩ | ⟨⟨t, a1⟩, a2, a3⟩
  · exact .inl ⟨fun t => a1 _, by rw [a2]; simp [scal2]⟩
  · have mono : ∀ x y : Int, x < y → x * f < y * f := fun x y z => Int.mul_lt_mul_of_pos_right z hf
    refine .inr ⟨⟨t * f, by show h (t * f / f) = false; rw [Int.mul_ediv_cancel _ (by omega)]; exact a1⟩, ?_, fun g => ?_⟩
    · unfold scal2
      rw [List.pairwise_map]
      exact a2.imp fun z => mono _ _ z
    · unfold scal2
      rw [List.mem_map]
      have dv : ∀ o j : Int, (o * f + j) / f = o + j / f := fun o j => by rw [Int.add_comm, Int.add_mul_ediv_right _ _ (by omega), Int.add_comm]
      constructor
      · rintro ⟨⟨o, l⟩, ho, rfl⟩
        obtain ⟨h1, h2, h3, h4, h5, h6⟩ := (a3 (o, l)).mp ho
        simp only at h1 h2 h3 h4 h5 h6
        refine ⟨Int.mul_nonneg h1 (by omega), mono _ _ h2, ?_, ?_, fun j j0 j1 => ?_, ?_⟩
        · have := Int.mul_le_mul_of_nonneg_right h3 (show 0 ≤ f by omega)
          simp only; omega
        · show h ((o * f - 1) / f) = false
          rw [Int.sub_eq_add_neg, dv, show (-1 : Int) / f = -1 by
            rw [Int.neg_one_ediv, Int.sign_eq_one_of_pos hf]]
          exact h4
        · show h ((o * f + j) / f) = true
          rw [dv]
          refine h5 _ (Int.ediv_nonneg j0 (by omega)) ?_
          exact Int.ediv_lt_of_lt_mul hf j1
        · show h ((o * f + l * f) / f) = false
          rw [dv, Int.mul_ediv_cancel _ (by omega)]
          exact h6
      · rintro ⟨h1, h2, h3, h4, h5, h6⟩
        obtain ⟨O, L⟩ := g
        simp only at h1 h2 h3 h4 h5 h6
        -- both are multiples of f
        have k0 := h5 0 (by omega) (by omega)
        rw [Int.add_zero] at k0
        have eO := div_rest (x := O) hf
        have rO := Int.emod_nonneg O (show f ≠ 0 by omega)
        have rO1 := Int.emod_lt_of_pos O hf
        have mO : O % f = 0 := by
          refine Decidable.byContradiction fun z => ?_
          have e : (O - 1) / f = O / f := by
            have : O - 1 = O / f * f + (O % f - 1) := by omega
            have z0 : (O % f - 1) / f = 0 := Int.ediv_eq_zero_of_lt (by omega) (by omega)
            rw [this, dv, z0, Int.add_zero]
          rw [e, k0] at h4
          cases h4
        have eO' : O = O / f * f := by omega
        generalize hq : O / f = q at *
        subst eO'
        have eL := div_rest (x := L) hf
        have rL := Int.emod_nonneg L (show f ≠ 0 by omega)
        have rL1 := Int.emod_lt_of_pos L hf
        have mL : L % f = 0 := by
          refine Decidable.byContradiction fun z => ?_
          have e : (q * f + L) / f = (q * f + (L - 1)) / f := by
            rw [dv, dv]
            congr 1
            have : L - 1 = L / f * f + (L % f - 1) := by omega
            have z0 : (L % f - 1) / f = 0 := Int.ediv_eq_zero_of_lt (by omega) (by omega)
            rw [this, dv, z0, Int.add_zero]
          rw [e, h5 (L - 1) (by omega) (by omega)] at h6
          cases h6
        have eL' : L = L / f * f := by omega
        generalize hp : L / f = p at *
        subst eL'
        refine ⟨(q, p), (a3 (q, p)).mpr ?_, rfl⟩
        have p0 : 1 ≤ p := by
          refine Decidable.byContradiction fun z => ?_
          have := Int.mul_nonneg (show 0 ≤ -p by omega) (show 0 ≤ f by omega)
          rw [Int.neg_mul] at this
          omega
        have q0 : 0 ≤ q := by
          refine Decidable.byContradiction fun z => ?_
          have := Int.mul_le_mul_of_nonneg_right (show q ≤ -1 by omega) (show 0 ≤ f by omega)
          omega
        refine ⟨q0, Int.lt_of_mul_lt_mul_right h2 (by omega), p0, ?_, fun j j0 j1 => ?_, ?_⟩
        · have e : q * f - 1 = q * f + -1 := by omega
          rw [e, dv, show (-1 : Int) / f = -1 by
            rw [Int.neg_one_ediv, Int.sign_eq_one_of_pos hf]] at h4
          exact h4
        · have := h5 (j * f) (Int.mul_nonneg j0 (by omega)) (mono _ _ j1)
          rw [dv, Int.mul_ediv_cancel _ (by omega)] at this
          exact this
        · rw [dv, Int.mul_ediv_cancel _ (by omega)] at h6
          exact h6
end Gr

set_option Elab.async false
set_option linter.all false
set_option pp.deepTerms false
set_option pp.maxSteps 3000
set_option maxRecDepth 100000
set_option maxHeartbeats 4000000
namespace Gr
open PySem PySem.Spec PyProof.Rows L2
theorem cut_but (ks : List V) (x : V) : cutV (ks ++ [x]) none (some (-1)) = ks := by
  have e1 : HT.sIx (ks ++ [x]).length (ks ++ [x]).length (some (-1)) = ks.length := by
    show (if (-1 : Int) < 0 then ((-1 : Int) + ((ks ++ [x]).length : Int)).toNat else min (-1 : Int).toNat (ks ++ [x]).length) = ks.length
    rw [if_pos (by decide), List.length_append]
    simp
    omega
  unfold cutV
  rw [e1, HT.sIx_none]
  simp
theorem cut_from (ks : List V) (x : V) (m : Nat) (hm : m ≤ ks.length) : cutV (ks ++ [x]) (some (m : Int)) (some (-1)) = ks.drop m := by
  have e1 : HT.sIx (ks ++ [x]).length (ks ++ [x]).length (some (-1)) = ks.length := by
    show (if (-1 : Int) < 0 then ((-1 : Int) + ((ks ++ [x]).length : Int)).toNat else min (-1 : Int).toNat (ks ++ [x]).length) = ks.length
    rw [if_pos (by decide), List.length_append]
    simp
    omega
  have e2 := HT.sIx_nat (ks ++ [x]).length 0 m
  unfold cutV
  rw [e1, e2, List.length_append]
  have : min m (ks.length + [x].length) = m := by simp; omega
  rw [this, List.drop_append_of_le_length hm, List.take_append_of_le_length (by simp)]
  rw [List.take_of_length_le (by simp)]
theorem paired_drop {α β : Type} {R : α → β → Prop} : ∀ {xs : List α} {ys : List β} (n : Nat), Paired R xs ys → Paired R (xs.drop n) (ys.drop n)
  | _, _, 0, h => h
  | _, _, _ + 1, .nil => .nil
  | _, _, n + 1, .cons _ t => paired_drop n t
theorem paired_split {α β : Type} {R : α → β → Prop} : ∀ {zs : List α} {K : List β} {y : β}, Paired R zs (K ++ [y]) → ∃ ks x, zs = ks ++ [x] ∧ Paired R ks K ∧ R x y
  | _, [], _, .cons r .nil => ⟨[], _, rfl, .nil, r⟩
  | _, k :: K, _, .cons r t => by
    obtain ⟨ks, x, e, p, q⟩ := paired_split t
    exact ⟨_ :: ks, x, by rw [e]; rfl, .cons r p, q⟩
theorem none_of {H : Hp} {L D : Addr} {o : HO} (_ : H L = none) (h : (upd H L o) D = none) : H D = none := by
  by_cases e : D = L
  · subst e; rw [upd_same] at h; cases h
  · rwa [upd_ne e] at h
def spJoin : Sp := fun vs H Q _ => ∃ (g : Addr) (c : Int) (pre J : List (Int × Int)) (zs : List V), vs = [.int c, .ref g] ∧ H g = some (.lst zs) ∧ Paired (GrAt H) zs J ∧ Jn c pre J ∧ J ≠ [] ∧ J.length ≤ 6 ∧ 1 ≤ c ∧ c ≤ 10 ^ 30 ∧
  ∀ a ys A H', Same H H' → H' a = some (.lst ys) → Paired (GrAt H') ys A → Canon c (lit c pre) A → (∀ t, lit c A t = lit c pre t) → A ≠ [] → A.length ≤ 6 → Q (.ref a) H'
section
variable {P : Program} {w : World} {K : PySem.W.Frag} {mg : Str → Option Value} {base : Heap} {tC tG : Tok}
theorem ok_join {f : Addr} {fd : FuncData} (B : Blt mg tC tG) (Djoined_over_end : Def K mg "joined_over_end" s_joined_over_end ["cycle", "greens"] f fd) : FnOk P w K mg base CX0 1 f fd ["cycle", "greens"] spJoin := by
  refine Djoined_over_end.F.ok scjoined_over_end (fun vs H Q E h => ?_) (fun cdv A outer s H vs Q E hr h => ⟨_, (pss_cons (ps_asg (pe_ix ix_list (pv 1) (pe_un un_neg pe_int) (fun _ _ => rfl)) (pg_tup rfl (pgs_cons (pg_name (i := 2) scjoined_over_end.nd rfl (Or.inr rfl)) (pgs_cons (pg_name (i := 3) scjoined_over_end.nd rfl (Or.inr rfl)) pgs_nil))))
  (pss_cons (ps_setLc (i := 4) (own := [("green", 5)]) (g := (gName 5))  rfl scjoined_over_end.nd rfl rfl (sw_true rfl rfl rfl (by decide +kernel)) (pi_list (pe_slice sl_list (pv 1) po_none (po_some (pe_un un_neg pe_int)))) (blkOk_by (N := ["cycle", "greens", "begin", "reach", "met", "green", "offset", "length"]) (sc := defScope s_joined_over_end) (by decide +kernel)) (fun _ _ _ _ _ => (pg_name (i := 5) scjoined_over_end.nd rfl (Or.inl rfl))) (fun _ _ _ _ _ => pts_one (pt_cmpR op_le (pe_op op_add (pe_ix (r := rIxT K) (by exact ix_tup) (pv 5) pe_int (fun _ _ => rfl)) (pv 0)) (pe_op op_add (pv 2) (pv 3)) (nomark _))) (fun _ _ _ _ _ => (pv 5)))
  (pss_cons (ps_for PassesOwn.never rfl (pi_list (pv 4)) (pg_tup rfl (pgs_cons (pg_name (i := 6) scjoined_over_end.nd rfl (Or.inl rfl)) (pgs_cons (pg_name (i := 7) scjoined_over_end.nd rfl (Or.inl rfl)) pgs_nil)))
   (pss_one (ps_set (i := 3) scjoined_over_end.nd rfl (Or.inr rfl) (pe_callB (call_max2 rfl) (by rfl) B.n_max (by decide +kernel) (pa_cons (pv 3) (pa_cons (pe_op op_sub (pe_op op_add (pe_op op_add (pv 6) (pv 0)) (pv 7)) (pv 2)) pa_nil))))))
  (pss_cons (ps_if (pt_cmpR op_ge (pv 3) (pv 0) (nomark _))
   (pss_one (ps_ret (pe_lst (pa_cons (pe_tup (pa_cons pe_int (pa_cons (pv 0) pa_nil))) pa_nil))))
   pss_nil)
  (pss_one (ps_ret (pe_op op_cat (pe_slice sl_list (pv 1) (po_some (pe_callB call_len_seq (by rfl) B.len PySem.boot_len (pa_cons (pv 4) pa_nil))) (po_some (pe_un un_neg pe_int))) (pe_lst (pa_cons (pe_tup (pa_cons (pv 2) (pa_cons (pv 3) pa_nil))) pa_nil))))))))), ?_⟩)
  · obtain ⟨g, c, pre, J, zs, rfl, _⟩ := h; rfl
  · obtain ⟨g, c, pre, J, zs, rfl, hH, hP, hJ, hn, hl, c1, c2, q⟩ := h
    obtain ⟨Ks, ⟨b, r⟩, rfl⟩ : ∃ Ks y, J = Ks ++ [y] := ⟨J.dropLast, J.getLast hn, (List.dropLast_concat_getLast hn).symm⟩
    obtain ⟨ks, x, rfl, hK, q0, rfl, hq⟩ := paired_split hP
    simp only at hq
    have lk := paired_len hK
    have l5 : Ks.length ≤ 5 := by simpa using hl
    have rb := hJ.rng (b, r) (by simp)
    simp only at rb
    refine ⟨_, rfl, _, rfl, g, _, _, _, rfl, rfl, SqL.of hH, atI_last _ _, q0, _, rfl, SqT.of hq, rfl, _, _, rfl, _, _, rfl, rfl, ?_⟩
    refine ⟨_, rfl, _, rfl, _, rfl, g, _, rfl, SqL.of hH, fun L hL => ?_⟩
    rw [cut_but]
    refine ⟨L, rfl, ⟨_, SqL.of upd_same⟩, fun D hD => ?_⟩
    have nDL : L ≠ D := fun e => by rw [← e, upd_same] at hD; cases hD
    refine lc_list (xs := ks) (fun i H' => ∃ ys, Same H H' ∧ H' L = some (.lst ks) ∧ H' D = some (.lst ys) ∧ Paired (GrAt H) ys ((Ks.take i).filter fun g => decide (g.1 + c ≤ b + r))) ⟨[], (Same.new hL).trans (Same.new hD), by rw [upd_ne nDL]; exact upd_same, upd_same, .nil⟩ (fun i H' _ ⟨_, _, e, _⟩ => SqL.of e) ?_ ?_
    · rintro i x H' hx ⟨ys, s1, e1, e2, hY⟩
      obtain ⟨gr, hg, a, rfl, ha⟩ := paired_at hK hx
      refine ⟨rfl, _, rfl, a, _, 0, _, rfl, rfl, SqT.of (s1 _ _ ha), rfl, _, rfl, _, _, rfl, rfl, _, rfl, _, rfl, _, _, rfl, rfl, _, _, rfl, rfl, _, rfl, ?_⟩
      have et : (Ks.take (i + 1)).filter (fun g => decide (g.1 + c ≤ b + r)) = (Ks.take i).filter (fun g => decide (g.1 + c ≤ b + r)) ++ [gr].filter (fun g => decide (g.1 + c ≤ b + r)) := by
        rw [List.take_add_one, hg, List.filter_append]; rfl
      by_cases z : gr.1 + c ≤ b + r
      · refine iteY z ⟨_, rfl, _, e2, ?_, ys ++ [.ref a], fun b' o h => ?_, ?_, upd_same, ?_⟩
        · have := paired_len hY
          have h2 := List.length_filter_le (fun g : Int × Int => decide (g.1 + c ≤ b + r)) (Ks.take i)
          rw [List.length_take] at h2
          exact small1000 (by omega)
        · rw [upd_ne (ne_of_none h (none_of hL hD))]; exact s1 _ _ h
        · rw [upd_ne nDL]; exact e1
        · rw [et, show [gr].filter (fun g : Int × Int => decide (g.1 + c ≤ b + r)) = [gr] by simp [z]]
          exact paired_snoc hY ⟨a, rfl, ha⟩
      · refine iteN z ⟨ys, s1, e1, e2, ?_⟩
        rw [et, show [gr].filter (fun g : Int × Int => decide (g.1 + c ≤ b + r)) = [] by simp; omega, List.append_nil]
        exact hY
    · rintro H2 ⟨ys, s1, e1, e2, hY⟩
      rw [List.take_of_length_le (by omega)] at hY
      have pw : Ks.Pairwise (fun x y => decide (y.1 + c ≤ b + r) = true → decide (x.1 + c ≤ b + r) = true) := by
        have := (List.pairwise_append.mp hJ.sep).1
        refine List.Pairwise.imp_of_mem (fun {x y} hx hy z h => ?_) this
        have := hJ.rng x (by simp [hx])
        have h := of_decide_eq_true h
        exact decide_eq_true (by omega)
      obtain ⟨fp1, fp2⟩ := filter_parts (fun g => decide (g.1 + c ≤ b + r)) Ks pw
      generalize hmet : Ks.filter (fun g => decide (g.1 + c ≤ b + r)) = met at hY fp1 fp2
      have ly := paired_len hY
      have lm : met.length ≤ Ks.length := by rw [← hmet]; exact List.length_filter_le _ _
      have hm : ∀ g ∈ met, g.1 + c ≤ b + r := fun g hg => by rw [← hmet] at hg; exact of_decide_eq_true (List.mem_filter.mp hg).2
      have hrest : ∀ g ∈ Ks.drop met.length, b + r < g.1 + c := fun g hg => by
        have := of_decide_eq_false (fp2 g hg); omega
      refine ⟨_, rfl, D, rfl, ⟨_, SqL.of e2⟩, ?_⟩
      refine for_list (xs := ys) (fun i σ H' => ∃ R y6 y7, σ = [some (.int c), some (.ref g), some (.int b), some (.int R), some (.ref D), none, y6, y7] ∧ Same H H' ∧ H' D = some (.lst ys) ∧ r ≤ R ∧ (∀ m ∈ met.take i, m.1 + c + m.2 - b ≤ R) ∧ (R = r ∨ ∃ m ∈ met, R = m.1 + c + m.2 - b))
        ⟨r, none, none, rfl, s1, e2, Int.le_refl _, fun _ h => (List.not_mem_nil h).elim, .inl rfl⟩ (fun i σ H' _ ⟨_, _, _, _, _, e, _⟩ => SqL.of e) ?_ ?_
      · rintro i x σ H' hx ⟨R, y6, y7, rfl, s2, e3, R0, R1, R2⟩
        obtain ⟨m, hmi, a, rfl, ha⟩ := paired_at hY hx
        have mm := List.mem_of_getElem? hmi
        refine ⟨a, _, rfl, SqT.of (s2 _ _ ha), rfl, _, _, rfl, _, _, rfl, rfl, ?_⟩
        refine ⟨_, rfl, _, rfl, _, rfl, _, _, rfl, rfl, _, rfl, _, _, rfl, rfl, _, rfl, _, _, rfl, rfl, _, _, rfl, ?_⟩
        refine ⟨_, _, _, rfl, s2, e3, ?_, fun k hk => ?_, ?_⟩
        · split <;> omega
        · rw [List.take_add_one, hmi] at hk
          rcases List.mem_append.mp hk with z | z
          · have := R1 k z; split <;> omega
          · rw [List.mem_singleton.mp z]; split <;> omega
        · split
          · exact .inr ⟨m, mm, rfl⟩
          · exact R2
      · rintro σ H3 ⟨R, y6, y7, rfl, s2, e3, R0, R1, R2⟩
        rw [List.take_of_length_le (by omega)] at R1
        obtain ⟨full, part⟩ := over_end (c := c) (by omega) hJ fp1.symm hm hrest R0 R1 R2
        refine ⟨_, rfl, _, rfl, _, _, rfl, rfl, _, rfl, ?_⟩
        by_cases z : c ≤ R
        · refine iteY z ?_
          have F := full z
          refine ⟨_, rfl, (by show 2 ≤ sizeLine; decide), fun T hT => ⟨(by show 1 ≤ sizeLine; decide), fun U hU => ?_⟩⟩
          refine q U [.ref T] [(0, c)] _ ((s2.trans (Same.new hT)).trans (Same.new hU)) upd_same (.cons ⟨T, rfl, Same.new hU _ _ upd_same⟩ .nil) (.inl ⟨F, rfl⟩) (fun t => ?_) (by simp) (by simp)
          rw [F t]
          refine lit_iff.mpr ⟨(0, c), by simp, ?_⟩
          exact Int.emod_lt_of_pos _ (by omega)
        · refine iteN z ?_
          obtain ⟨S, same⟩ := part (by omega)
          refine ⟨_, rfl, _, rfl, D, _, rfl, .inl (SqL.of e3), _, rfl, _, rfl, _, rfl, g, _, rfl, SqL.of (s2 _ _ hH), fun M hM => ?_⟩
          rw [cut_from _ _ _ (by omega)]
          refine ⟨_, rfl, _, rfl, (by show 2 ≤ sizeLine; decide), fun T hT => ⟨(by show 1 ≤ sizeLine; decide), fun U hU => ?_⟩⟩
          have nMT : M ≠ T := ne_of_none upd_same hT
          have eM := Same.new hU (o := .lst [.ref T]) _ _ (Same.new hT (o := .tup [.int b, .int R]) _ _ (upd_same (H := H3) (a := M) (o := .lst (ks.drop ys.length))))
          refine ⟨M, U, _, _, rfl, rfl, eM, upd_same, ?_, fun W hW => ?_⟩
          · rw [List.length_drop, sizeLine_eq]; simp; omega
          have sW := (((Same.new hM (o := .lst (ks.drop ys.length))).trans (Same.new hT (o := .tup [.int b, .int R]))).trans (Same.new hU (o := .lst [.ref T]))).trans (Same.new hW (o := .lst (ks.drop ys.length ++ [.ref T])))
          refine q W _ (Ks.drop met.length ++ [(b, R)]) _ (s2.trans sW) upd_same (paired_snoc ?_ ⟨T, rfl, Same.new hW _ _ (Same.new hU _ _ upd_same)⟩) ?_ same (by simp) (by simp; omega)
          · rw [show Ks.drop met.length = Ks.drop ys.length by rw [ly]]
            exact paired_drop _ (grs_same (s2.trans sW) hK)
          · exact (S.canon (by simp)).to same
end
end Gr

set_option Elab.async false
set_option linter.all false
set_option pp.deepTerms false
set_option pp.maxSteps 3000
set_option maxRecDepth 100000
set_option maxHeartbeats 4000000
namespace Gr
open PySem PySem.Spec PyProof.Rows L2
def kOf (H : Hp) (x : V) : Int × Int := match x with
  | .ref t => match H t with
    | some (.tup [.int i, .int j]) => (i, j)
    | _ => (0, 0)
  | _ => (0, 0)
theorem kOf_at {H : Hp} {x : V} {g : Int × Int} (h : GrAt H x g) : kOf H x = g := by
  obtain ⟨b, rfl, e⟩ := h
  simp only [kOf, e]
theorem kOf_gr {H : Hp} : ∀ {xs : List V} {gs : List (Int × Int)}, Paired (GrAt H) xs gs → xs.map (kOf H) = gs ∧ ∀ x ∈ xs, GrAt H x (kOf H x)
  | _, _, .nil => ⟨rfl, fun _ h => (List.not_mem_nil h).elim⟩
  | _, _, .cons r t => by
    have ih := kOf_gr t
    refine ⟨by rw [List.map_cons, kOf_at r, ih.1], fun x hx => ?_⟩
    rcases List.mem_cons.mp hx with e | e
    · subst e; rw [kOf_at r]; exact r
    · exact ih.2 x e
theorem gr_of {H : Hp} : ∀ {xs : List V}, (∀ x ∈ xs, GrAt H x (kOf H x)) → Paired (GrAt H) xs (xs.map (kOf H))
  | [], _ => .nil
  | x :: xs, h => .cons (h x List.mem_cons_self) (gr_of fun y hy => h y (List.mem_cons_of_mem _ hy))
theorem lit_mem {c t : Int} {A B : List (Int × Int)} (h : ∀ g, g ∈ A ↔ g ∈ B) : lit c A t = lit c B t := by
  cases e : lit c B t with
  | true =>
    obtain ⟨g, hg, z⟩ := lit_iff.mp e
    exact lit_iff.mpr ⟨g, (h g).mpr hg, z⟩
  | false => exact lit_no.mpr fun g hg => lit_no.mp e g ((h g).mp hg)
theorem set_last {α : Type} (v x : α) : ∀ ks : List α, (ks ++ [x]).set ks.length v = ks ++ [v]
  | [] => rfl
  | k :: ks => by simp [set_last v x ks]
theorem ixN_last (ks : List V) (x : V) : ixN (ks ++ [x]).length (-1) = some ks.length := by
  unfold ixN
  rw [if_neg (by decide), if_pos (by rw [List.length_append]; simp; omega)]
  congr 1
  rw [List.length_append]; simp; omega
def ShortAt (Q : V → Hp → Prop) (c : Int) (gs : List (Int × Int)) (H : Hp) : Prop := ∀ a A H', Same H H' → SigT H' a A → Canon c (lit c gs) A → (∀ t, lit c A t = lit c gs t) → A ≠ [] → A.length ≤ 6 → Q (.ref a) H'
def spShort : Sp := fun vs H Q _ => ∃ (g : Addr) (c : Int) (gs : List (Int × Int)), vs = [.int c, .ref g] ∧ SigT H g gs ∧ OkG c gs ∧ c ≤ 10 ^ 30 ∧ ShortAt Q c gs H
section
variable {P : Program} {w : World} {K : PySem.W.Frag} {mg : Str → Option Value} {base : Heap} {tC tG : Tok}
theorem ok_parted {f f1 : Addr} {fd fd1 : FuncData} (B : Blt mg tC tG) (Dparted_greens : Def K mg "parted_greens" s_parted_greens ["cycle", "signal"] f fd) (Djoined_over_end : Def K mg "joined_over_end" s_joined_over_end ["cycle", "greens"] f1 fd1) : FnOk P w K mg base CX0 2 f fd ["cycle", "signal"] spShort := by
  have Gjoined_over_end := ok_join (P := P) (w := w) (base := base) B Djoined_over_end
  refine Dparted_greens.F.ok scparted_greens (fun vs H Q E h => ?_) (fun cdv A outer s H vs Q E hr h => ⟨_, (pss_cons (ps_set (i := 2) scparted_greens.nd rfl (Or.inl rfl) (pe_lst pa_nil))
  (pss_cons (ps_for PassesOwn.never rfl (pi_list (pe_callB cr_sortedPO (by rfl) B.n_sorted (by decide +kernel) (pa_cons (pe_callTy call_list_of (by rfl) B.n_list (by decide +kernel) (pa_cons (pv 1) pa_nil)) pa_nil))) (pg_tup rfl (pgs_cons (pg_name (i := 3) scparted_greens.nd rfl (Or.inl rfl)) (pgs_cons (pg_name (i := 4) scparted_greens.nd rfl (Or.inl rfl)) pgs_nil)))
   (pss_one (ps_if (PW.pt (pw_and (pt_truth (pv 2) (by intro _; rfl)) (pw_and1 (pt_cmpR op_le (pv 3) (pe_op op_add (pe_ix ix_tup (pe_ix ix_list (pv 2) (pe_un un_neg pe_int) (fun _ _ => rfl)) pe_int (fun _ _ => rfl)) (pe_ix ix_tup (pe_ix ix_list (pv 2) (pe_un un_neg pe_int) (fun _ _ => rfl)) pe_int (fun _ _ => rfl))) (nomark _)))))
   (pss_cons (ps_asg (pe_ix ix_list (pv 2) (pe_un un_neg pe_int) (fun _ _ => rfl)) (pg_tup rfl (pgs_cons (pg_name (i := 5) scparted_greens.nd rfl (Or.inl rfl)) (pgs_cons (pg_name (i := 6) scparted_greens.nd rfl (Or.inl rfl)) pgs_nil))))
  (pss_one (ps_asg (pe_tup (pa_cons (pv 5) (pa_cons (pe_callB (call_max2 rfl) (by rfl) B.n_max (by decide +kernel) (pa_cons (pv 6) (pa_cons (pe_op op_sub (pe_op op_add (pv 3) (pv 4)) (pv 5)) pa_nil))) pa_nil))) (pg_sub (pv 2) (pe_un un_neg pe_int) set_list))))
   (pss_one (ps_expr (pe_bm PySem.F.plainAttrs_list PySem.F.slot_list_append PySem.F.type_list_append mt_append (pv 2) (pa_cons (pe_tup (pa_cons (pv 3) (pa_cons (pv 4) pa_nil))) pa_nil)))))))
  (pss_one (ps_ret (pe_callTy call_tuple_of (by rfl) B.n_tuple (by decide +kernel) (pa_cons (pe_call Gjoined_over_end (hr.mono (by decide)) (by rfl) Djoined_over_end.g Djoined_over_end.F.kp Djoined_over_end.b .nil pass0 (pa_cons (pv 0) (pa_cons (pv 2) pa_nil))) pa_nil)))))), ?_⟩)
  · obtain ⟨g, c, gs, rfl, _⟩ := h; rfl
  · obtain ⟨g, c, gs, rfl, ⟨xs, hH, hP⟩, hG, c2, q⟩ := h
    obtain ⟨km, kg⟩ := kOf_gr hP
    refine ⟨Nat.zero_le _, fun F hF => ?_⟩
    have s0 := Same.new hF (o := .lst [])
    refine ⟨_, rfl, g, xs, rfl, .inr (SqT.of (s0 _ _ hH)), fun L hL => ?_⟩
    have sL := s0.trans (Same.new hL (o := .lst xs))
    have nFL : F ≠ L := fun e => by rw [← e, upd_same] at hL; cases hL
    have eF := Same.new hL (o := .lst xs) _ _ (upd_same (H := H) (a := F) (o := .lst []))
    refine ⟨L, xs, kOf H, rfl, SqL.of upd_same, fun x hx => ?_, fun ys M srt stb hM => ?_⟩
    · obtain ⟨b, e, h⟩ := kg x hx
      exact ⟨b, e, sL _ _ h⟩
    have sM := sL.trans (Same.new hM (o := .lst ys))
    have gy : ∀ y ∈ ys, GrAt H y (kOf H y) := fun y hy => kg y (stb.perm.mem_iff.mp hy)
    have hY := gr_of gy
    have hmem : ∀ p, p ∈ ys.map (kOf H) ↔ p ∈ gs := fun p => by rw [← km]; exact (stb.perm.map (kOf H)).mem_iff
    have hrng : ∀ p ∈ ys.map (kOf H), 0 ≤ p.1 ∧ p.1 < c ∧ 1 ≤ p.2 ∧ p.2 ≤ c := fun p hp => hG.2.2 p ((hmem p).mp hp)
    have hlen : ys.length = gs.length := by rw [stb.perm.length_eq, ← km, List.length_map]
    have hup : (ys.map (kOf H)).Pairwise (fun a b => a.1 ≤ b.1) := by
      rw [List.pairwise_map]
      refine List.Pairwise.imp (fun {x y} z => ?_) srt
      unfold ltP SrtO.lexB at z
      split at z
      · omega
      · have := of_decide_eq_false z; omega
    generalize hgs' : ys.map (kOf H) = gs' at hY hmem hrng hup
    have ly := paired_len hY
    have lg : gs'.length = gs.length := by omega
    have g1 := hG.1
    have g2 := hG.2.1
    refine ⟨M, rfl, ⟨_, SqL.of upd_same⟩, ?_⟩
    refine for_list (xs := ys) (fun i σ H' => ∃ J us y3 y4 y5 y6, σ = [some (.int c), some (.ref g), some (.ref F), y3, y4, y5, y6] ∧ Same H H' ∧ H' M = some (.lst ys) ∧ H' F = some (.lst us) ∧ Paired (GrAt H') us J ∧ Jn c (gs'.take i) J)
      ⟨[], [], none, none, none, none, rfl, sM, upd_same, Same.new hM _ _ eF, .nil, Jn.nil c⟩ (fun i σ H' _ ⟨_, _, _, _, _, _, _, _, e, _⟩ => SqL.of e) ?_ ?_
    · rintro i x σ H' hx ⟨J, us, y3, y4, y5, y6, rfl, s1, e1, e2, hU, hJ⟩
      obtain ⟨gr, hg, a, rfl, ha⟩ := paired_at hY hx
      have gin := List.mem_of_getElem? hg
      have rg := hrng gr gin
      have lj := paired_len hU
      have i6 : i < gs'.length := (List.getElem?_eq_some_iff.mp hg).1
      have jl : J.length ≤ i := by have := hJ.len; rw [List.length_take] at this; omega
      have before : ∀ p ∈ gs'.take i, p.1 ≤ gr.1 := fun p hp => by
        have eg : gs' = gs'.take i ++ gr :: gs'.drop (i + 1) := by
          have h1 := List.getElem?_eq_some_iff.mp hg
          rw [← h1.2, List.getElem_cons_drop, List.take_append_drop]
        rw [eg] at hup
        exact (List.pairwise_append.mp hup).2.2 p hp gr List.mem_cons_self
      have et : gs'.take (i + 1) = gs'.take i ++ [gr] := by rw [List.take_add_one, hg]; rfl
      have nFM : F ≠ M := fun e => by rw [← e, Same.new hL _ _ upd_same] at hM; cases hM
      have hFn : H F = none := hF
      refine ⟨a, _, rfl, SqT.of (s1 _ _ ha), rfl, _, _, rfl, _, _, rfl, rfl, ?_⟩
      have put : ∀ T, H' T = none → ∀ (bb : Int × Int) (ks : List V) (K' : List (Int × Int)), Paired (GrAt H') ks K' → Jn c (gs'.take (i + 1)) (K' ++ [bb]) → 
          Same H (upd (upd H' T (.tup [.int bb.1, .int bb.2])) F (.lst (ks ++ [.ref T]))) ∧ (upd (upd H' T (.tup [.int bb.1, .int bb.2])) F (.lst (ks ++ [.ref T]))) M = some (.lst ys) ∧
          (upd (upd H' T (.tup [.int bb.1, .int bb.2])) F (.lst (ks ++ [.ref T]))) F = some (.lst (ks ++ [.ref T])) ∧ Paired (GrAt (upd (upd H' T (.tup [.int bb.1, .int bb.2])) F (.lst (ks ++ [.ref T])))) (ks ++ [.ref T]) (K' ++ [bb]) ∧ Jn c (gs'.take (i + 1)) (K' ++ [bb]) := by
        intro T hT bb ks K' hk hj
        have nTF : T ≠ F := fun e => by rw [e, e2] at hT; cases hT
        refine ⟨fun b o h => ?_, ?_, upd_same, paired_snoc (L2.Paired.mapP hk fun _ _ ⟨b, e, h⟩ => ⟨b, e, ?_⟩) ⟨T, rfl, ?_⟩, hj⟩
        · rw [upd_ne (ne_of_none h hFn)]; exact Same.new hT _ _ (s1 _ _ h)
        · rw [upd_ne nFM.symm]; exact Same.new hT _ _ e1
        · rw [upd_ne (ne_of h e2 (fun z => nomatch z))]; exact Same.new hT _ _ h
        · rw [upd_ne nTF]; exact upd_same
      rcases List.eq_nil_or_concat J with rfl | ⟨K', bb, rfl⟩
      · obtain rfl : us = [] := by cases us with | nil => rfl | cons _ _ => simp at lj
        refine ⟨_, rfl, false, .inl ⟨[], SqL.of e2, rfl⟩, iteF (iteF ?_)⟩
        refine ⟨_, rfl, .inl ⟨rfl, _, SqL.of e2⟩, _, rfl, _, rfl, (by show 2 ≤ sizeLine; decide), fun T hT => ?_⟩
        have nTF : F ≠ T := fun e => by rw [← e, e2] at hT; cases hT
        refine ⟨F, [], _, rfl, rfl, (by rw [upd_ne nTF]; exact e2), small1000 (by simp), ?_⟩
        have := put T hT gr [] [] .nil (by rw [et]; exact hJ.app rg fun _ h => (List.not_mem_nil h).elim)
        exact ⟨_, _, _, _, _, _, rfl, this⟩
      · rw [List.concat_eq_append] at hU hJ jl
        obtain ⟨ks, x, rfl, hK, q0, rfl, hq⟩ := paired_split hU
        have jl' : K'.length + 1 ≤ i := by simpa using jl
        have lk := paired_len hK
        refine ⟨_, rfl, true, .inl ⟨_, SqL.of e2, by simp⟩, ?_⟩
        refine ⟨_, rfl, _, rfl, _, rfl, F, _, _, _, rfl, rfl, SqL.of e2, atI_last _ _, q0, _, _, _, rfl, rfl, SqT.of hq, rfl, _, rfl, _, rfl, F, _, _, _, rfl, rfl, SqL.of e2, atI_last _ _, q0, _, _, _, rfl, rfl, SqT.of hq, rfl, _, _, rfl, rfl, _, _, rfl, rfl, _, rfl, ?_⟩
        have bg : bb.1 ≤ gr.1 := by
          obtain ⟨p, hp, e⟩ := hJ.beg bb (by simp)
          have := before p hp
          omega
        by_cases z : gr.1 ≤ bb.1 + bb.2
        · refine iteY z ?_
          refine ⟨_, rfl, _, rfl, F, _, _, _, rfl, rfl, SqL.of e2, atI_last _ _, q0, _, rfl, SqT.of hq, rfl, _, _, rfl, _, _, rfl, rfl, ?_⟩
          refine ⟨_, rfl, _, rfl, _, rfl, _, rfl, _, _, rfl, rfl, _, rfl, _, _, rfl, rfl, _, _, rfl, (by show 2 ≤ sizeLine; decide), fun T hT => ?_⟩
          have nTF : F ≠ T := fun e => by rw [← e, e2] at hT; cases hT
          refine ⟨_, rfl, _, rfl, F, _, _, _, rfl, rfl, (by rw [upd_ne nTF]; exact e2), ixN_last _ _, ?_⟩
          rw [set_last]
          have := put T hT (bb.1, _) ks K' hK (by rw [et]; exact hJ.ext (m := if bb.2 < gr.1 + gr.2 - bb.1 then gr.1 + gr.2 - bb.1 else bb.2) rg bg z (by split <;> omega) (by split <;> omega) (by split <;> simp))
          exact ⟨_, _, _, _, _, _, rfl, this⟩
        · refine iteN z ?_
          refine ⟨_, rfl, .inl ⟨rfl, _, SqL.of e2⟩, _, rfl, _, rfl, (by show 2 ≤ sizeLine; decide), fun T hT => ?_⟩
          have nTF : F ≠ T := fun e => by rw [← e, e2] at hT; cases hT
          refine ⟨F, _, _, rfl, rfl, (by rw [upd_ne nTF]; exact e2), small1000 (by rw [List.length_append]; simp; omega), ?_⟩
          have := put T hT gr (ks ++ [.ref q0]) (K' ++ [bb]) hU (by
            rw [et]
            refine hJ.app rg fun b hb => ?_
            rcases List.mem_append.mp hb with y | y
            · have := (List.pairwise_append.mp hJ.sep).2.2 b y bb (by simp)
              have := hJ.rng bb (by simp)
              omega
            · rw [List.mem_singleton.mp y]; omega)
          exact ⟨_, _, _, _, _, _, rfl, this⟩
    · rintro σ H' ⟨J, us, y3, y4, y5, y6, rfl, s1, e1, e2, hU, hJ⟩
      rw [List.take_of_length_le (by omega)] at hJ
      have lj := paired_len hU
      have jl := hJ.len
      have ne : J ≠ [] := hJ.any (fun e => absurd (congrArg List.length e) (show ¬ gs'.length = 0 by omega))
      have cc : 1 ≤ c := by
        match gs, g1, hG with
        | g :: _, _, hG => have := hG.2.2 g List.mem_cons_self; omega
      have lm : ∀ t, lit c gs' t = lit c gs t := fun t => lit_mem hmem
      refine ⟨_, rfl, _, rfl, F, c, gs', J, us, rfl, e2, hU, hJ, ne, by omega, cc, c2, fun a ys' A H2 s2 e3 hA can same nA lA => ⟨a, ys', rfl, .inl ⟨SqL.of e3, fun l hl => ?_⟩⟩⟩
      refine q l A _ (s1.trans (s2.trans (Same.new hl))) ⟨ys', upd_same, grs_same (Same.new hl) hA⟩ (can.to lm) (fun t => (same t).trans (lm t)) nA lA
theorem OkG.c1 {c : Int} {gs : List (Int × Int)} (hG : OkG c gs) : 1 ≤ c := by
  have g1 := hG.1
  match gs, g1, hG with
  | g :: _, _, hG => have := hG.2.2 g List.mem_cons_self; omega
theorem ok_short {f f1 f2 f3 f4 f5 f6 f7 : Addr} {fd fd1 fd2 fd3 fd4 fd5 fd6 fd7 : FuncData} (B : Blt mg tC tG) (Dshortest_greens : Def K mg "shortest_greens" s_shortest_greens ["cycle", "signal"] f fd) (Dparted_greens : Def K mg "parted_greens" s_parted_greens ["cycle", "signal"] f1 fd1) (Djoined_over_end : Def K mg "joined_over_end" s_joined_over_end ["cycle", "greens"] f2 fd2) (Dcheck_signal : Def K mg "check_signal" s_check_signal ["cycle", "signal"] f3 fd3) (Dis_signal : Def K mg "is_signal" s_is_signal ["value", "cycle"] f4 fd4) (Dis_whole : Def K mg "is_whole" s_is_whole ["value"] f5 fd5) (Dcheck_cycle : Def K mg "check_cycle" s_check_cycle ["cycle"] f6 fd6) (Dis_green_pair : Def K mg "is_green_pair" s_is_green_pair ["value", "cycle"] f7 fd7) : FnOk P w K mg base CX0 5 f fd ["cycle", "signal"] spShort := by
  have Gparted_greens := ok_parted (P := P) (w := w) (base := base) B Dparted_greens Djoined_over_end
  have Gcheck_signal := ok_check_signal (P := P) (w := w) (base := base) B Dcheck_signal Dis_signal Dis_whole Dcheck_cycle Dis_green_pair
  refine Dshortest_greens.F.ok scshortest_greens (fun vs H Q E h => ?_) (fun cdv A outer s H vs Q E hr h => ⟨_, (pss_cons (ps_expr (pe_call Gcheck_signal (hr.mono (by decide)) (by rfl) Dcheck_signal.g Dcheck_signal.F.kp Dcheck_signal.b .nil pass0 (pa_cons (pv 0) (pa_cons (pv 1) pa_nil))))
  (pss_one (ps_ret (pe_call Gparted_greens (hr.mono (by decide)) (by rfl) Dparted_greens.g Dparted_greens.F.kp Dparted_greens.b .nil pass0 (pa_cons (pv 0) (pa_cons (pv 1) pa_nil)))))), ?_⟩)
  · obtain ⟨g, c, gs, rfl, _⟩ := h; rfl
  · obtain ⟨g, c, gs, rfl, hS, hG, c2, q⟩ := h
    refine ⟨_, rfl, _, rfl, .ref g, c, rfl, hG.c1, c2, (by have := hS.sigK (c := c) ⟨hG.1, hG.2.1⟩; rwa [hG.all] at this), fun H1 s1 => ?_⟩
    refine ⟨_, rfl, _, rfl, g, c, gs, rfl, hS.mono s1, hG, c2, fun a A H2 s2 hA can same nA lA => ?_⟩
    exact q a A H2 (s1.trans s2) hA can same nA lA
end
end Gr

set_option Elab.async false
set_option linter.all false
set_option pp.deepTerms false
set_option pp.maxSteps 3000
set_option maxRecDepth 100000
set_option maxHeartbeats 4000000
namespace Gr
open PySem PySem.Spec PyProof.Rows L2
theorem nodup_sub {α : Type} [DecidableEq α] : ∀ {A B : List α}, A.Nodup → (∀ x ∈ A, x ∈ B) → A.length ≤ B.length
  | [], _, _, _ => Nat.zero_le _
  | a :: A, B, h, s => by
    have h' := List.nodup_cons.mp h
    have ha := s a List.mem_cons_self
    have := nodup_sub (A := A) (B := B.erase a) h'.2 fun x hx => (List.mem_erase_of_ne (fun e : x = a => h'.1 (by rw [← e]; exact hx))).mpr (s x (List.mem_cons_of_mem _ hx))
    rw [List.length_erase_of_mem ha] at this
    have : 0 < B.length := List.length_pos_of_mem ha
    rw [List.length_cons]
    omega
def keysTo (s : Int) : List Key := (List.range s.toNat).map fun (n : Nat) => Sum.inl (n : Int)
theorem keysTo_mem {s t : Int} (t0 : 0 ≤ t) (t1 : t < s) : (Sum.inl t : Key) ∈ keysTo s := by
  unfold keysTo
  rw [List.mem_map]
  exact ⟨t.toNat, List.mem_range.mpr (by omega), congrArg Sum.inl (Int.toNat_of_nonneg t0)⟩
theorem keysTo_len (s : Int) : (keysTo s).length = s.toNat := by unfold keysTo; rw [List.length_map, List.length_range]
theorem keysTo_nodup (s : Int) : (keysTo s).Nodup := by
  unfold keysTo List.Nodup
  rw [List.pairwise_map]
  refine List.Pairwise.imp (fun {a b} h e => h ?_) List.nodup_range
  have := Sum.inl.inj e
  omega
theorem valV_mem {kvs : List (Key × V)} {k : Key} : (valV kvs k).isSome = true ↔ k ∈ kvs.map (·.1) := by
  unfold valV
  rw [Option.isSome_map, List.find?_isSome, List.mem_map]
  constructor
  · rintro ⟨x, h1, h2⟩; exact ⟨x, h1, of_decide_eq_true h2⟩
  · rintro ⟨x, h1, h2⟩; exact ⟨x, h1, decide_eq_true h2⟩
theorem LitP.full {s : Int} {f : Int → Bool} {kvs : List (Key × V)} (h : LitP s f kvs) (hs : 0 ≤ s) : (kvs.length : Int) = s ↔ ∀ t, 0 ≤ t → t < s → f t = true := by
  have sub : ∀ k ∈ kvs.map (·.1), k ∈ keysTo s := fun k hk => by
    obtain ⟨t, rfl, t0, t1⟩ := h.rng k hk
    exact keysTo_mem t0 t1
  have l1 := nodup_sub h.once sub
  rw [List.length_map, keysTo_len] at l1
  constructor
  · intro e t t0 t1
    refine Decidable.byContradiction fun z => ?_
    have nm : ¬ (Sum.inl t : Key) ∈ kvs.map (·.1) := fun y => by
      have := valV_mem.mpr y
      rw [h.is t t0 t1] at this
      exact z this
    have := nodup_sub (A := Sum.inl t :: kvs.map (·.1)) (B := keysTo s) (List.nodup_cons.mpr ⟨nm, h.once⟩) fun k hk => by
      rcases List.mem_cons.mp hk with e | e
      · rw [e]; exact keysTo_mem t0 t1
      · exact sub k e
    rw [List.length_cons, List.length_map, keysTo_len] at this
    omega
  · intro a
    have := nodup_sub (keysTo_nodup s) (B := kvs.map (·.1)) fun k hk => by
      unfold keysTo at hk
      obtain ⟨n, hn, rfl⟩ := List.mem_map.mp hk
      have := List.mem_range.mp hn
      exact valV_mem.mp (by rw [h.is _ (by omega) (by omega)]; exact a _ (by omega) (by omega))
    rw [List.length_map, keysTo_len] at this
    omega
theorem IsArc.uniq {c : Int} {f : Int → Bool} {o l m : Int} (h : IsArc c f (o, l)) (k : IsArc c f (o, m)) : l = m := by
  obtain ⟨_, _, l1, _, la, lb⟩ := h
  obtain ⟨_, _, m1, _, ma, mb⟩ := k
  simp only at l1 la lb m1 ma mb
  rcases Int.lt_trichotomy l m with z | z | z
  · rw [ma l (by omega) z] at lb; cases lb
  · exact z
  · rw [la m (by omega) z] at mb; cases mb
theorem per_add {s : Int} {f : Int → Bool} (per : ∀ t, f (t % s) = f t) (t : Int) : f (t + s) = f t := by
  rw [← per (t + s), Int.add_emod_right, per]
def spArcs : Sp := fun vs H Q _ => ∃ (d : Addr) (s : Int) (f : Int → Bool) (kvs : List (Key × V)), vs = [.int s, .ref d] ∧ H d = some (.dK kvs) ∧ LitP s f kvs ∧ (∀ t, f (t % s) = f t) ∧ 1 ≤ s ∧ s ≤ 1000 ∧ ∀ a A H', Same H H' → SigT H' a A → Canon s f A → (A.length : Int) ≤ s → Q (.ref a) H'
section
variable {P : Program} {w : World} {K : PySem.W.Frag} {mg : Str → Option Value} {base : Heap} {tC tG : Tok}
theorem ok_arcs {f : Addr} {fd : FuncData} (B : Blt mg tC tG) (Dl_arcs : Def K mg "_law_arcs" s_l_arcs ["_law_span", "_law_lit"] f fd) : FnOk P w K mg base CX0 1 f fd ["_law_span", "_law_lit"] spArcs := by
  refine Dl_arcs.F.ok scl_arcs (fun vs H Q E h => ?_) (fun cdv A outer s H vs Q E hr h => ⟨_, (pss_cons (ps_if (pt_cmpR op_eq (pe_callB call_lenD (by rfl) B.len PySem.boot_len (pa_cons (pv 1) pa_nil)) (pv 0) (nomark _))
   (pss_one (ps_ret (pe_tup (pa_cons (pe_tup (pa_cons pe_int (pa_cons (pv 0) pa_nil))) pa_nil))))
   pss_nil)
  (pss_cons (ps_set (i := 2) scl_arcs.nd rfl (Or.inl rfl) (pe_lst pa_nil))
  (pss_cons (ps_for PassesOwn.never rfl (pi_range1 (by rfl) B.range (pa_cons (pv 0) pa_nil)) (pg_name (i := 3) scl_arcs.nd rfl (Or.inl rfl))
   (pss_one (ps_if (PW.pt (pw_and (pt_cmp (pc_din (hu_of hr) (pv 3) (pv 1))) (pw_and1 (pt_cmp (pc_dnotin (hu_of hr) (pe_op op_modN (pe_op op_sub (pv 3) pe_int) (pv 0)) (pv 1))))))
   (pss_cons (ps_set (i := 4) scl_arcs.nd rfl (Or.inl rfl) pe_int)
  (pss_cons (ps_while PassesOwn.never (pt_cmp (pc_din (hu_of hr) (pe_op op_modN (pe_op op_add (pv 3) (pv 4)) (pv 0)) (pv 1)))
   (pss_one (ps_set (i := 4) scl_arcs.nd rfl (Or.inl rfl) (pe_op op_add (pv 4) pe_int))))
  (pss_one (ps_expr (pe_bm PySem.F.plainAttrs_list PySem.F.slot_list_append PySem.F.type_list_append mt_append (pv 2) (pa_cons (pe_tup (pa_cons (pv 3) (pa_cons (pv 4) pa_nil))) pa_nil))))))
   pss_nil)))
  (pss_one (ps_ret (pe_callTy call_tuple_of (by rfl) B.n_tuple (by decide +kernel) (pa_cons (pv 2) pa_nil))))))), ?_⟩)
  · obtain ⟨d, s, f, kvs, rfl, _⟩ := h; rfl
  · obtain ⟨d, s, f, kvs, rfl, hd, hL, per, s1, s2, q⟩ := h
    refine ⟨_, rfl, d, kvs, rfl, hd, _, rfl, rfl, _, rfl, ?_⟩
    by_cases z : (kvs.length : Int) = s
    · refine iteY (congrArg V.int z) ?_
      have full := (hL.full (by omega)).mp z
      refine ⟨_, rfl, (by show 2 ≤ sizeLine; decide), fun T hT => ⟨(by show 1 ≤ sizeLine; decide), fun U hU => ?_⟩⟩
      refine q U [(0, s)] _ ((Same.new hT).trans (Same.new hU)) ⟨[.ref T], upd_same, .cons ⟨T, rfl, Same.new hU _ _ upd_same⟩ .nil⟩ (.inl ⟨fun t => ?_, rfl⟩) (by simp; omega)
      rw [← per]
      exact full _ (Int.emod_nonneg _ (by omega)) (Int.emod_lt_of_pos _ (by omega))
    · refine iteN (fun e => z (V.int.inj e)) ⟨Nat.zero_le _, fun F hF => ?_⟩
      obtain ⟨t0, z0, z1, z2⟩ : ∃ t0, 0 ≤ t0 ∧ t0 < s ∧ f t0 = false := Classical.byContradiction fun y => z ((hL.full (by omega)).mpr fun t t0 t1 => by
        cases e : f t with
        | true => rfl
        | false => exact absurd ⟨t, t0, t1, e⟩ y)
      refine ⟨_, rfl, s, rfl, by omega, by omega, ?_⟩
      refine for_range (lo := 0) (fun i σ H' => ∃ us A y3 y4, σ = [some (.int s), some (.ref d), some (.ref F), y3, y4] ∧ Same H H' ∧ H' F = some (.lst us) ∧ Paired (GrAt H') us A ∧ A.Pairwise (fun a b => a.1 < b.1) ∧ (∀ g, g ∈ A ↔ IsArc s f g ∧ g.1 < (i : Int)) ∧ A.length ≤ i)
        ⟨[], [], none, none, rfl, Same.new hF, upd_same, .nil, List.Pairwise.nil, fun g => ⟨fun h => (List.not_mem_nil h).elim, fun h => by have := h.1.1; omega⟩, Nat.le_refl _⟩ ?_ ?_
      · rintro i σ H' hi ⟨us, A, y3, y4, rfl, sm, e1, hU, hup, hmem, hlen⟩
        have lu := paired_len hU
        have is : (i : Int) < s := by omega
        have hd' := sm _ _ hd
        have nz : s ≠ 0 := by omega
        have fi : (valV kvs (.inl (0 + (i : Int)))).isSome = f i := by rw [Int.zero_add]; exact hL.is _ (by omega) is
        have look : ∀ x : Int, (valV kvs (.inl (x.fmod s))).isSome = f x := fun x => by
          rw [Int.fmod_eq_emod_of_nonneg _ (by omega), hL.is _ (Int.emod_nonneg _ nz) (Int.emod_lt_of_pos _ (by omega)), per]
        have stay : (∀ l, ¬ IsArc s f ((i : Int), l)) → ∀ g, g ∈ A ↔ IsArc s f g ∧ g.1 < ((i + 1 : Nat) : Int) := fun no g => by
          rw [hmem g]
          constructor
          · rintro ⟨h1, h2⟩; exact ⟨h1, by omega⟩
          · rintro ⟨h1, h2⟩
            refine ⟨h1, ?_⟩
            have : g.1 ≠ (i : Int) := fun e => by
              obtain ⟨o, l⟩ := g
              simp only at e
              subst e
              exact no l h1
            omega
        cases ef : f i with
        | false =>
          refine ⟨_, rfl, _, rfl, d, _, rfl, DGet.k (k := .inl _) hd', false, congrArg V.bl (fi.trans ef), iteF (iteF ?_)⟩
          refine ⟨us, A, _, _, rfl, sm, e1, hU, hup, stay fun l h => ?_, by omega⟩
          have := h.2.2.2.2.1 0 (by omega) (by have := h.2.2.1; omega)
          rw [Int.add_zero] at this
          rw [ef] at this; cases this
        | true =>
          refine ⟨_, rfl, _, rfl, d, _, rfl, DGet.k (k := .inl _) hd', true, congrArg V.bl (fi.trans ef), ?_⟩
          cases ep : f (0 + (i : Int) - 1) with
          | true =>
            refine ⟨_, rfl, _, _, rfl, rfl, _, rfl, _, _, rfl, rfl, nz, _, rfl, d, _, rfl, DGet.k (k := .inl _) hd', false, congrArg (fun b => V.bl (!b)) ((look _).trans ep), iteF ?_⟩
            refine ⟨us, A, _, _, rfl, sm, e1, hU, hup, stay fun l h => ?_, by omega⟩
            have := h.2.2.2.1
            simp only at this
            rw [Int.zero_add] at ep
            rw [ep] at this; cases this
          | false =>
            refine ⟨_, rfl, _, _, rfl, rfl, _, rfl, _, _, rfl, rfl, nz, _, rfl, d, _, rfl, DGet.k (k := .inl _) hd', true, congrArg (fun b => V.bl (!b)) ((look _).trans ep), ?_⟩
            rw [Int.zero_add] at ep
            -- how far
            obtain ⟨n0, n1, n2, n3⟩ : ∃ n0 : Int, 1 ≤ n0 ∧ n0 ≤ s ∧ f (i + n0) = false := by
              by_cases y : (i : Int) < t0
              · exact ⟨t0 - i, by omega, by omega, by rw [show (i : Int) + (t0 - i) = t0 by omega]; exact z2⟩
              · refine ⟨t0 + s - i, by omega, ?_, by rw [show (i : Int) + (t0 + s - i) = t0 + s by omega, per_add per]; exact z2⟩
                have : t0 ≠ i := fun e => by rw [e, ef] at z2; cases z2
                omega
            refine ⟨fun m σ H' => ∃ sz : Int, m = (n0 - sz).toNat ∧ σ = [some (.int s), some (.ref d), some (.ref F), some (.int (0 + (i : Int))), some (.int sz)] ∧ H' = H' ∧ 1 ≤ sz ∧ sz ≤ n0 ∧ (∀ j, 0 ≤ j → j < sz → f (i + j) = true) ∧ Same H H' ∧ H' F = some (.lst us) ∧ Paired (GrAt H') us A, ?_, ?_⟩
            · exact ⟨_, 1, rfl, rfl, rfl, by omega, n1, fun j j0 j1 => by rw [show j = 0 by omega, Int.add_zero]; exact ef, sm, e1, hU⟩
            · rintro m σ H2 ⟨sz, rfl, rfl, _, sz1, sz2, run, sm2, e2, hU2⟩
              refine ⟨_, rfl, _, rfl, _, _, rfl, rfl, _, rfl, _, _, rfl, rfl, nz, _, rfl, d, _, rfl, DGet.k (k := .inl _) (sm2 _ _ hd), ?_⟩
              cases ev : f (0 + (i : Int) + sz) with
              | true =>
                have lt : sz < n0 := by
                  have : sz ≠ n0 := fun e => by rw [e, Int.zero_add, n3] at ev; cases ev
                  omega
                refine ⟨true, congrArg V.bl ((look _).trans ev), ?_⟩
                refine ⟨fun σ' H3 => ∃ m', m' < (n0 - sz).toNat ∧ ∃ sz : Int, m' = (n0 - sz).toNat ∧ σ' = [some (.int s), some (.ref d), some (.ref F), some (.int (0 + (i : Int))), some (.int sz)] ∧ H3 = H3 ∧ 1 ≤ sz ∧ sz ≤ n0 ∧ (∀ j, 0 ≤ j → j < sz → f (i + j) = true) ∧ Same H H3 ∧ H3 F = some (.lst us) ∧ Paired (GrAt H3) us A, fun _ _ n => n, ?_⟩
                refine ⟨_, rfl, _, _, rfl, rfl, (n0 - (sz + 1)).toNat, by omega, sz + 1, rfl, rfl, rfl, by omega, by omega, fun j j0 j1 => ?_, sm2, e2, hU2⟩
                by_cases e : j < sz
                · exact run j j0 e
                · rw [show j = sz by omega]
                  rw [Int.zero_add] at ev
                  exact ev
              | false =>
                rw [Int.zero_add] at ev
                have arc : IsArc s f ((i : Int), sz) := ⟨by simp only; omega, is, sz1, ep, run, ev⟩
                refine ⟨false, congrArg V.bl ((look _).trans (by rw [Int.zero_add]; exact ev)), ?_⟩
                refine ⟨_, rfl, .inl ⟨rfl, _, SqL.of e2⟩, _, rfl, _, rfl, (by show 2 ≤ sizeLine; decide), fun T hT => ?_⟩
                have nTF : F ≠ T := fun e => by rw [← e, e2] at hT; cases hT
                refine ⟨F, us, _, rfl, rfl, (by rw [upd_ne nTF]; exact e2), small1000 (by omega), ?_⟩
                have eg : ∀ g : Int × Int, (g ∈ A ++ [((i : Int), sz)]) ↔ IsArc s f g ∧ g.1 < ((i + 1 : Nat) : Int) := fun g => by
                  rw [List.mem_append, List.mem_singleton, hmem g]
                  constructor
                  · rintro (⟨h1, h2⟩ | rfl)
                    · exact ⟨h1, by omega⟩
                    · exact ⟨arc, by simp only; omega⟩
                  · rintro ⟨h1, h2⟩
                    by_cases y : g.1 < (i : Int)
                    · exact .inl ⟨h1, y⟩
                    · obtain ⟨o, l⟩ := g
                      simp only at y h2
                      have e : o = (i : Int) := by omega
                      subst e
                      exact .inr (by rw [h1.uniq arc])
                refine ⟨us ++ [.ref T], A ++ [((i : Int), sz)], _, _, rfl, fun b o h => ?_, upd_same, paired_snoc (L2.Paired.mapP hU2 fun _ _ ⟨b, e, h⟩ => ⟨b, e, ?_⟩) ⟨T, rfl, ?_⟩, ?_, eg, by simp; omega⟩
                · rw [upd_ne (ne_of_none h hF)]; exact Same.new hT _ _ (sm2 _ _ h)
                · rw [upd_ne (ne_of h e2 (fun z => nomatch z))]; exact Same.new hT _ _ h
                · rw [upd_ne nTF.symm, upd_same, Int.zero_add]
                · refine List.pairwise_append.mpr ⟨hup, List.pairwise_singleton _ _, fun a ha b hb => ?_⟩
                  rw [List.mem_singleton.mp hb]
                  exact ((hmem a).mp ha).2
      · rintro σ H' ⟨us, A, y3, y4, rfl, sm, e1, hU, hup, hmem, hlen⟩
        refine ⟨_, rfl, F, us, rfl, .inl ⟨SqL.of e1, fun l hl => ?_⟩⟩
        refine q l A _ (sm.trans (Same.new hl)) ⟨us, upd_same, grs_same (Same.new hl) hU⟩ (.inr ⟨⟨t0, z2⟩, hup, fun g => (hmem g).trans ⟨fun h => h.1, fun h => ⟨h, by have := h.2.1; omega⟩⟩⟩) (by omega)
end
end Gr

set_option Elab.async false
set_option linter.all false
set_option pp.deepTerms false
set_option pp.maxSteps 3000
set_option maxRecDepth 100000
set_option maxHeartbeats 4000000
set_option exponentiation.threshold 3000
namespace Gr
open PySem PySem.Spec PyProof.Rows L2
theorem SigT.dp {K : PySem.W.Frag} {H : Hp} {a : Addr} {gs : List (Int × Int)} (h : SigT H a gs) : Dp K H (.ref a) (.tuple (gs.map pairD)) := by
  obtain ⟨xs, h1, h2⟩ := h
  exact .tup (SqT.of h1) (dp_pairs h2)
def Fit (d : PyData) : Prop := d.showable = true ∧ d.hasDict = false ∧ d.depth ≤ 40 ∧ d.shown.length ≤ sizeLine
theorem int_fit {n : Int} (h : n.natAbs < 2 ^ 1000) : n.natAbs.log2 < 1920 ∧ (PyData.int n).shown.length ≤ 2000 := by
  have l : n.natAbs.log2 < 1920 := by
    have := PySem.Flt.log2_lt_of (n := n.natAbs) (k := 1000) (by decide) h
    omega
  refine ⟨l, ?_⟩
  simp only [PyData.shown]
  have e := PySem.int_text_length_le (a := n) (k := 1920) (by decide) l
  rw [PySem.ofString_length]
  omega
theorem sum_le {m : Nat} : ∀ ts : List Str, (∀ t ∈ ts, t.length ≤ m) → (ts.map fun x => x.length).sum ≤ m * ts.length
  | [], _ => Nat.zero_le _
  | t :: r, h => by
    have ih := sum_le r fun x hx => h x (List.mem_cons_of_mem _ hx)
    have := h t List.mem_cons_self
    rw [List.map_cons, List.sum_cons, List.length_cons, Nat.mul_add, Nat.mul_one]
    omega
theorem tup_len {m : Nat} (ts : List Str) (h : ∀ t ∈ ts, t.length ≤ m) : (tupleText ts).length ≤ (m + 2) * ts.length + 3 := by
  have h1 := PySem.StrLaws.join_length_le ", " ts
  have h2 := sum_le ts h
  have z1 : (Str.ofString ", ").length = 2 := by decide
  have z2 : (Str.ofString "(").length = 1 := by decide
  have z3 : (Str.ofString (if (ts.length == 1) = true then ",)" else ")")).length ≤ 2 := by split <;> decide
  unfold tupleText
  rw [strLen_append, strLen_append, z2]
  rw [z1] at h1
  rw [Nat.add_mul]
  omega
def Small (gs : List (Int × Int)) : Prop := ∀ g ∈ gs, g.1.natAbs < 2 ^ 1000 ∧ g.2.natAbs < 2 ^ 1000
theorem pair_fit {g : Int × Int} (h : g.1.natAbs < 2 ^ 1000 ∧ g.2.natAbs < 2 ^ 1000) : (pairD g).showable = true ∧ (pairD g).shown.length ≤ 5000 := by
  have a := int_fit h.1
  have b := int_fit h.2
  refine ⟨by simp [pairD, PyData.showable, PyData.showableAll, a.1, b.1], ?_⟩
  have e : (pairD g).shown = tupleText [(PyData.int g.1).shown, (PyData.int g.2).shown] := by
    unfold pairD
    simp only [PyData.shown, PyData.shownAll]
  rw [e]
  have := tup_len (m := 2000) [(PyData.int g.1).shown, (PyData.int g.2).shown] fun t ht => by
    simp only [List.mem_cons, List.not_mem_nil, or_false] at ht
    rcases ht with rfl | rfl
    · exact a.2
    · exact b.2
  simp only [List.length_cons, List.length_nil] at this
  omega
theorem pairs_fit {gs : List (Int × Int)} (h : Small gs) (hl : gs.length ≤ 1000) : Fit (.tuple (gs.map pairD)) := by
  have a : PyData.showableAll (gs.map pairD) = true := by
    clear hl
    induction gs with
    | nil => simp [PyData.showableAll]
    | cons g gs ih => simp [PyData.showableAll, (pair_fit (h g List.mem_cons_self)).1, ih fun x hx => h x (List.mem_cons_of_mem _ hx)]
  have b : PyData.hasDictAll (gs.map pairD) = false := by
    clear hl h a
    induction gs with
    | nil => simp [PyData.hasDictAll]
    | cons g gs ih => simp [PyData.hasDictAll, PyData.hasDict, pairD] ; simpa using ih
  have c := depth_pairs gs
  have d : (∀ t ∈ PyData.shownAll (gs.map pairD), t.length ≤ 5000) ∧ (PyData.shownAll (gs.map pairD)).length = gs.length := by
    clear hl a b c
    induction gs with
    | nil => exact ⟨fun _ h => by simp [PyData.shownAll] at h, rfl⟩
    | cons g gs ih =>
      have ih := ih fun x hx => h x (List.mem_cons_of_mem _ hx)
      refine ⟨fun t ht => ?_, by simpa [PyData.shownAll] using ih.2⟩
      simp only [List.map_cons, PyData.shownAll, List.mem_cons] at ht
      rcases ht with rfl | ht
      · exact (pair_fit (h g List.mem_cons_self)).2
      · exact ih.1 t ht
  refine ⟨by simpa only [PyData.showable] using a, by simpa only [PyData.hasDict] using b, by simp only [PyData.depth]; omega, ?_⟩
  have e : (PyData.tuple (gs.map pairD)).shown = tupleText (PyData.shownAll (gs.map pairD)) := by simp only [PyData.shown]
  rw [e]
  have := tup_len _ d.1
  rw [d.2] at this
  rw [sizeLine_eq]
  omega
theorem Canon.rng {c : Int} {f : Int → Bool} {A : List (Int × Int)} (hc : 1 ≤ c) (per : ∀ t, f (t % c) = f t) (H : Canon c f A) : ∀ g ∈ A, 0 ≤ g.1 ∧ g.1 < c ∧ 1 ≤ g.2 ∧ g.2 ≤ c := by
  rcases H with ⟨_, rfl⟩ | ⟨_, _, a3⟩
  · intro g hg
    rw [List.mem_singleton.mp hg]
    simp only; omega
  · intro g hg
    obtain ⟨h1, h2, h3, h4, h5, h6⟩ := (a3 g).mp hg
    refine ⟨h1, h2, h3, Decidable.byContradiction fun z => ?_⟩
    have := h5 (g.2 - c) (by omega) (by omega)
    rw [← per_add per, show g.1 + (g.2 - c) + c = g.1 + g.2 by omega, h6] at this
    cases this
def ProbeC (Q : V → Hp → Prop) (H : Hp) (a : Addr) (gs : List (Int × Int)) : Prop := True
theorem paired_rev {α β : Type} {R : α → β → Prop} : ∀ {xs : List α} {ys : List β}, Paired R xs ys → Paired R xs.reverse ys.reverse
  | _, _, .nil => .nil
  | _, _, .cons r t => by
    rw [List.reverse_cons, List.reverse_cons]
    exact paired_snoc (paired_rev t) r
theorem paired_take {α β : Type} {R : α → β → Prop} : ∀ {xs : List α} {ys : List β} (n : Nat), Paired R xs ys → Paired R (xs.take n) (ys.take n)
  | _, _, 0, _ => .nil
  | _, _, _ + 1, .nil => .nil
  | _, _, n + 1, .cons r t => .cons r (paired_take n t)
theorem paired_app {α β : Type} {R : α → β → Prop} : ∀ {xs us : List α} {ys vs : List β}, Paired R xs ys → Paired R us vs → Paired R (xs ++ us) (ys ++ vs)
  | _, _, _, _, .nil, h => h
  | _, _, _, _, .cons r t, h => .cons r (paired_app t h)
theorem OkG.rev {c : Int} {gs : List (Int × Int)} (h : OkG c gs) : OkG c gs.reverse := ⟨by rw [List.length_reverse]; exact h.1, by rw [List.length_reverse]; exact h.2.1, fun g hg => h.2.2 g (List.mem_reverse.mp hg)⟩
theorem slA_to {K : PySem.W.Frag} {H : Hp} {a : Addr} {zs : List V} {k : Nat} {Q : VK} (hT : H a = some (.tup zs)) (q : ∀ R H', Same H H' → H' R = some (.tup (zs.take k)) → Q (.ref R) H') : rSlA K (.ref a) none (some (k : Int)) H Q := by
  have e1 := HT.sIx_nat zs.length zs.length k
  refine ⟨a, zs, rfl, SqT.of hT, fun h => ?_, fun h p hp => ?_⟩
  · refine q a H (Same.refl H) ?_
    rw [e1] at h
    rw [List.take_of_length_le (by omega)]
    exact hT
  · refine q p _ (Same.new hp) ?_
    rw [upd_same]
    unfold cutV
    rw [e1, HT.sIx_none]
    have : zs.take (min k zs.length) = zs.take k := by
      by_cases hk : k ≤ zs.length
      · rw [Nat.min_eq_left hk]
      · rw [Nat.min_eq_right (by omega), List.take_of_length_le (Nat.le_refl _), List.take_of_length_le (by omega)]
    simp [this]
theorem slA_from {K : PySem.W.Frag} {H : Hp} {a : Addr} {zs : List V} {k : Nat} {Q : VK} (hT : H a = some (.tup zs)) (hk : k ≤ zs.length) (q : ∀ R H', Same H H' → H' R = some (.tup (zs.drop k)) → Q (.ref R) H') : rSlA K (.ref a) (some (k : Int)) none H Q := by
  have e1 := HT.sIx_nat zs.length 0 k
  have e2 := HT.sIx_none zs.length zs.length
  refine ⟨a, zs, rfl, SqT.of hT, fun h => ?_, fun h p hp => ?_⟩
  · refine q a H (Same.refl H) ?_
    rw [e1] at h
    rw [show k = 0 by omega]
    exact hT
  · refine q p _ (Same.new hp) ?_
    rw [upd_same]
    unfold cutV
    rw [e1, e2, Nat.min_eq_left hk]
    congr 2
    rw [List.take_of_length_le (by rw [List.length_drop]; omega)]
theorem catA_any {K : PySem.W.Frag} {H : Hp} {a b : Addr} {xs ys : List V} {Q : VK} (hT : H a = some (.tup xs)) (hU : H b = some (.tup ys)) (hl : xs.length + ys.length ≤ 999) (q : ∀ W H', Same H H' → H' W = some (.tup (xs ++ ys)) → Q (.ref W) H') : rCatA K (.ref a) (.ref b) H Q := by
  refine ⟨a, b, xs, ys, rfl, rfl, SqT.of hT, SqT.of hU, Nat.le_of_lt (small1000 (by omega)), (fun e => ?_), (fun _ e => ?_), fun _ _ W hW => ?_⟩
  · refine q b H (Same.refl H) ?_
    rw [hU, e]; rfl
  · refine q a H (Same.refl H) ?_
    rw [hT, e, List.append_nil]
  · exact q W _ (Same.new hW) upd_same
theorem part_lit {s o l p t : Int} (o0 : 0 ≤ o) (o1 : o < s) (l1 : l ≤ s) (p1 : 1 ≤ p) (p2 : p < l) : (t - o) % s < l ↔ (t - (o + p) % s) % s < l - p ∨ (t - o) % s < p := by
  have e : (t - (o + p) % s) % s = ((t - o) % s - p) % s := by
    rw [Int.sub_emod_emod, Int.emod_sub_emod]
    congr 1; omega
  rw [e]
  have r0 := Int.emod_nonneg (t - o) (show s ≠ 0 by omega)
  have r1 := Int.emod_lt_of_pos (t - o) (show 0 < s by omega)
  rw [emod_two (x := (t - o) % s - p) (s := s) (by omega) (by omega) (by omega)]
  split <;> (try split) <;> omega
def spParted2 : Sp := fun vs H Q _ => ∃ (p g : Addr) (s n : Int) (gs : List (Int × Int)), vs = [.ref p, .ref g, .int s] ∧ Pond n p H ∧ n ≤ 10 ^ 8 ∧ SigT H g gs ∧ OkG s gs ∧ s ≤ 1000 ∧
  ∀ a gs' H', But p H H' → Pond (n + 12) p H' → SigT H' a gs' → OkG s gs' → (∀ t, lit s gs' t = lit s gs t) → Q (.ref a) H'
section
variable {P : Program} {w : World} {K : PySem.W.Frag} {mg : Str → Option Value} {base : Heap} {tC tG : Tok}
theorem ok_lparted {f f1 : Addr} {fd fd1 : FuncData} (B : Blt mg tC tG) (Dl_parted : Def K mg "_law_parted" s_l_parted ["_law_pond_here", "_law_greens_here", "_law_span"] f fd) (Dl_fish : Def K mg "_law_fish" s_l_fish ["_law_pond_here", "_law_bound"] f1 fd1) : FnOk P w K mg base CX0 3 f fd ["_law_pond_here", "_law_greens_here", "_law_span"] spParted2 := by
  have Gl_fish := ok_fish (P := P) (w := w) (base := base) B Dl_fish
  refine Dl_parted.F.ok scl_parted (fun vs H Q E h => ?_) (fun cdv A outer s H vs Q E hr h => ⟨_, (pss_cons (ps_asg (pe_ix ix_tup (pv 1) pe_int (fun _ _ => rfl)) (pg_tup rfl (pgs_cons (pg_name (i := 3) scl_parted.nd rfl (Or.inl rfl)) (pgs_cons (pg_name (i := 4) scl_parted.nd rfl (Or.inl rfl)) pgs_nil))))
  (pss_cons (ps_if (PW.pt (pw_or (pt_cmpR op_eq (pv 4) pe_int (nomark _)) (pw_or1 (pt_cmpR op_eq (pe_callB call_len_seq (by rfl) B.len PySem.boot_len (pa_cons (pv 1) pa_nil)) pe_int (nomark _)))))
   (pss_one (ps_ret (pe_revT (pv 1))))
   pss_nil)
  (pss_cons (ps_set (i := 5) scl_parted.nd rfl (Or.inl rfl) (pe_op op_add pe_int (pe_call Gl_fish (hr.mono (by decide)) (by rfl) Dl_fish.g Dl_fish.F.kp Dl_fish.b .nil pass0 (pa_cons (pv 0) (pa_cons (pe_op op_sub (pv 4) pe_int) pa_nil)))))
  (pss_one (ps_ret (pe_op op_catA (pe_slice sl_tupA (pv 1) (po_some pe_int) po_none) (pe_tup (pa_cons (pe_tup (pa_cons (pe_op op_modN (pe_op op_add (pv 3) (pv 5)) (pv 2)) (pa_cons (pe_op op_sub (pv 4) (pv 5)) pa_nil))) (pa_cons (pe_tup (pa_cons (pv 3) (pa_cons (pv 5) pa_nil))) pa_nil))))))))), ?_⟩)
  · obtain ⟨p, g, s, n, gs, rfl, _⟩ := h; rfl
  · obtain ⟨p, g, s, n, gs, rfl, hP, hn, ⟨xs, hH, hX⟩, hG, hs, q⟩ := h
    have lx := paired_len hX
    obtain ⟨⟨o, l⟩, gr, rfl⟩ : ∃ a r, gs = a :: r := by
      match gs, hG.1 with
      | a :: r, _ => exact ⟨a, r, rfl⟩
    cases hX with
    | @cons x _ xr _ hx hr' =>
    obtain ⟨q0, rfl, hq⟩ := hx
    obtain ⟨pu, hpu⟩ := hP.some
    simp only at hq
    have rg := hG.2.2 (o, l) List.mem_cons_self
    simp only at rg
    have g2 := hG.2.1
    have hsig : SigT H g ((o, l) :: gr) := ⟨_, hH, .cons ⟨q0, rfl, hq⟩ hr'⟩
    have back : ∀ R, H R = none → Q (.ref R) (upd H R (.tup (.ref q0 :: xr).reverse)) := fun R hR => by
      refine q R ((o, l) :: gr).reverse _ (Same.but (Same.new hR)) ((hP.new hR).mono (by omega)) ⟨_, upd_same, paired_rev (grs_same (Same.new hR) (.cons ⟨q0, rfl, hq⟩ hr'))⟩ hG.rev fun t => lit_mem fun g => List.mem_reverse
    refine ⟨_, rfl, g, _, 0, _, rfl, rfl, SqT.of hH, atI_nat (j := 0) rfl, q0, _, rfl, SqT.of hq, rfl, _, _, rfl, _, _, rfl, rfl, ?_⟩
    by_cases z1 : l = 1
    · refine ⟨_, rfl, rfl, true, congrArg V.bl (decide_eq_true (congrArg V.int z1)), ?_⟩
      exact ⟨_, rfl, g, _, rfl, SqT.of hH, fun R hR => back R hR⟩
    · refine ⟨_, rfl, rfl, false, congrArg V.bl (decide_eq_false (fun e => z1 (V.int.inj e))), ?_⟩
      refine ⟨_, rfl, g, _, rfl, .inr (SqT.of hH), rfl, _, rfl, ?_⟩
      by_cases z2 : ((V.ref q0 :: xr).length : Int) = 6
      · refine iteY (congrArg V.int z2) ?_
        exact ⟨_, rfl, g, _, rfl, SqT.of hH, fun R hR => back R hR⟩
      · refine iteN (fun e => z2 (V.int.inj e)) ?_
        refine ⟨_, rfl, _, rfl, _, _, rfl, rfl, p, l - 1, n, rfl, hP, by omega, by omega, by omega, fun r H1 b1 pd1 r0 r1 => ⟨_, _, rfl, rfl, ?_⟩⟩
        have g5 : gr.length + 1 ≤ 5 := by
          simp only [List.length_cons] at z2 g2 lx
          omega
        refine ⟨_, rfl, _, rfl, ?_⟩
        unfold tNoPart
        refine slA_from (k := 1) (b1 g _ (ne_of hH hpu (fun z => nomatch z)) hH) (by simp) fun R H2 s2 e2 => ?_
        have lr : xr.length = gr.length := paired_len hr'
        refine ⟨_, rfl, _, rfl, _, _, rfl, rfl, _, rfl, _, _, rfl, rfl, (by show s ≠ 0; omega), _, rfl, _, rfl, _, _, rfl, rfl, (by show 2 ≤ sizeLine; decide), fun T1 hT1 => ⟨_, rfl, _, rfl, (by show 2 ≤ sizeLine; decide), fun T2 hT2 => ⟨(by show 2 ≤ sizeLine; decide), fun U hU => ?_⟩⟩⟩
        have em : (o + (1 + r)).fmod s = (o + (1 + r)) % s := Int.fmod_eq_emod_of_nonneg _ (by omega)
        have m0 := Int.emod_nonneg (o + (1 + r)) (show s ≠ 0 by omega)
        have m1 := Int.emod_lt_of_pos (o + (1 + r)) (show 0 < s by omega)
        have sR := ((Same.new hT1 (o := .tup [.int ((o + (1 + r)).fmod s), .int (l - (1 + r))])).trans (Same.new hT2 (o := .tup [.int o, .int (1 + r)]))).trans (Same.new hU (o := .tup [.ref T1, .ref T2]))
        refine catA_any (sR _ _ e2) upd_same (by simp; omega) fun W H3 s3 e3 => ?_
        have sW := (s2.trans sR).trans s3
        have eT1 := s3 _ _ (Same.new hU (o := .tup [.ref T1, .ref T2]) _ _ (Same.new hT2 (o := .tup [.int o, .int (1 + r)]) _ _ (upd_same (H := H2) (a := T1) (o := .tup [.int ((o + (1 + r)).fmod s), .int (l - (1 + r))]))))
        have eT2 := s3 _ _ (Same.new hU (o := .tup [.ref T1, .ref T2]) _ _ (upd_same (a := T2) (o := .tup [.int o, .int (1 + r)])))
        have hr3 : Paired (GrAt H3) xr gr := grs_same sW (grs_but b1 hpu hr')
        refine q W (gr ++ [((o + (1 + r)).fmod s, l - (1 + r)), (o, 1 + r)]) H3 (b1.trans (Same.but sW)) (pd1.same sW) ⟨_, e3, paired_app hr3 (.cons ⟨T1, rfl, eT1⟩ (.cons ⟨T2, rfl, eT2⟩ .nil))⟩ ⟨by simp, by simp; omega, fun g hg => ?_⟩ fun t => ?_
        · rcases List.mem_append.mp hg with y | y
          · exact hG.2.2 g (List.mem_cons_of_mem _ y)
          · simp only [List.mem_cons, List.not_mem_nil, or_false] at y
            rcases y with rfl | rfl
            · simp only; rw [em]; omega
            · simp only; omega
        · have pl := part_lit (s := s) (o := o) (l := l) (p := 1 + r) (t := t) rg.1 rg.2.1 rg.2.2.2 (by omega) (by omega)
          rw [em]
          unfold lit
          rw [List.any_append, List.any_cons, List.any_cons, List.any_cons, List.any_nil, Bool.or_false, ← Bool.decide_or, Bool.or_comm]
          congr 1
          exact decide_eq_decide.mpr pl.symm
end
end Gr

set_option Elab.async false
set_option linter.all false
set_option pp.deepTerms false
set_option pp.maxSteps 3000
set_option maxRecDepth 100000
set_option maxHeartbeats 8000000
set_option exponentiation.threshold 3000
namespace Gr
open PySem PySem.Spec PyProof.Rows L2
theorem But.same {p : Addr} {H H1 H2 : Hp} (b : But p H1 H2) (s : Same H H1) (hp : H p = none) : Same H H2 := fun q o e => b q o (ne_of_none e hp) (s q o e)
theorem scal2_ok {s f c : Int} {gs : List (Int × Int)} (h : OkG s gs) (hf : 1 ≤ f) (hc : s * f ≤ c) : OkG c (scal2 f gs) := by
  refine ⟨by rw [scal2, List.length_map]; exact h.1, by rw [scal2, List.length_map]; exact h.2.1, fun x hx => ?_⟩
  obtain ⟨g, hg, rfl⟩ := List.mem_map.mp hx
  have k := h.2.2 g hg
  have a : 0 ≤ g.1 * f := Int.mul_nonneg k.1 (by omega)
  have b : (g.1 + 1) * f ≤ s * f := Int.mul_le_mul_of_nonneg_right (by omega) (by omega)
  have d : 1 * f ≤ g.2 * f := Int.mul_le_mul_of_nonneg_right (by omega) (by omega)
  have e : g.2 * f ≤ s * f := Int.mul_le_mul_of_nonneg_right (by omega) (by omega)
  rw [Int.add_mul] at b
  show 0 ≤ g.1 * f ∧ g.1 * f < c ∧ 1 ≤ g.2 * f ∧ g.2 * f ≤ c
  omega
theorem take6 {s : Int} {gs : List (Int × Int)} (h : OkG s gs) : OkG s ((gs ++ gs).take 6) ∧ ∀ t, lit s ((gs ++ gs).take 6) t = lit s gs t := by
  have h1 := h.1
  have h2 := h.2.1
  have sub : ∀ g, g ∈ (gs ++ gs).take 6 ↔ g ∈ gs := fun g => by
    constructor
    · intro z
      rcases List.mem_append.mp (List.mem_of_mem_take z) with y | y <;> exact y
    · intro z
      rw [List.take_append, List.take_of_length_le (by omega)]
      exact List.mem_append.mpr (.inl z)
  refine ⟨⟨?_, ?_, fun g hg => h.2.2 g ((sub g).mp hg)⟩, fun t => lit_mem sub⟩
  · rw [List.length_take, List.length_append]; omega
  · rw [List.length_take]; omega
theorem small_of {c : Int} {gs : List (Int × Int)} (h : ∀ g ∈ gs, 0 ≤ g.1 ∧ g.1 < c ∧ 1 ≤ g.2 ∧ g.2 ≤ c) (hc : c ≤ 10 ^ 40) : Small gs := fun g hg => by
  have := h g hg
  have e : (10 : Int) ^ 40 < ((2 ^ 1000 : Nat) : Int) := by decide +kernel
  exact ⟨natAbs_lt (by omega) (by omega), natAbs_lt (by omega) (by omega)⟩
def spRight : Sp := fun vs H Q _ => ∃ (p g : Addr) (s n : Int) (gs : List (Int × Int)), vs = [.ref p, .int s, .ref g] ∧ Pond n p H ∧ n ≤ 10 ^ 8 ∧ SigT H g gs ∧ OkG s gs ∧ s ≤ 40 ∧ ∀ H', But p H H' → Pond (n + 100) p H' → Q (.bl true) H'
/-- an item of the loop: i-th, at a, its greens -/
structure Item (H : Hp) (s : Int) (gs A : List (Int × Int)) (i : Nat) (z : Addr × List (Int × Int)) : Prop where
  at_ : SigT H z.1 z.2
  ok : z.2.length ≤ 6 → (1 ≤ i → A ≠ [] ∧ ∀ t, lit s A t = lit s gs t) → OkG s z.2 ∧ ∀ t, lit s z.2 t = lit s gs t
  first : i = 0 → z.2.length ≤ 6
section
variable {P : Program} {w : World} {K : PySem.W.Frag} {mg : Str → Option Value} {base : Heap} {tC tG : Tok}
theorem ok_right {f f1 f2 f3 f4 f5 f6 : Addr} {fd fd1 fd2 fd3 fd4 fd5 fd6 : FuncData} (B : Blt mg tC tG) (Dl_right : Def K mg "_law_right" s_l_right ["_law_pond_here", "_law_span", "_law_greens_here"] f fd) (Dl_fish : Def K mg "_law_fish" s_l_fish ["_law_pond_here", "_law_bound"] f1 fd1) (Dl_rests : Def K mg "_law_rests" s_l_rests ["_law_span", "_law_greens_here"] f2 fd2) (Dl_scaled : Def K mg "_law_scaled" s_l_scaled ["_law_greens_here", "_law_factor"] f3 fd3) (Dl_arcs : Def K mg "_law_arcs" s_l_arcs ["_law_span", "_law_lit"] f4 fd4) (Dl_parted : Def K mg "_law_parted" s_l_parted ["_law_pond_here", "_law_greens_here", "_law_span"] f5 fd5) (Dshortest_greens : Def K mg "shortest_greens" s_shortest_greens ["cycle", "signal"] f6 fd6)
    (Gshortest_greens : FnOk P w K mg base CX0 5 f6 fd6 ["cycle", "signal"] spShort) : FnG P w K mg base CX0 6 f fd ["_law_pond_here", "_law_span", "_law_greens_here"] spRight := by
  have Gl_fish := ok_fish (P := P) (w := w) (base := base) B Dl_fish
  have Gl_rests := ok_rests (P := P) (w := w) (base := base) B Dl_rests
  have Gl_scaled := ok_scaled (P := P) (w := w) (base := base) B Dl_scaled
  have Gl_arcs := ok_arcs (P := P) (w := w) (base := base) B Dl_arcs
  have Gl_parted := ok_lparted (P := P) (w := w) (base := base) B Dl_parted Dl_fish
  refine okG Dl_right.F scl_right (fun vs H Q E h => ?_) (fun cdv A outer s H vs Q E hf hr h => ⟨_, (pss_cons (ps_set (i := 3) scl_right.nd rfl (Or.inl rfl) (pe_call Gl_arcs (hr.mono (by decide)) (by rfl) Dl_arcs.g Dl_arcs.F.kp Dl_arcs.b .nil pass0 (pa_cons (pv 1) (pa_cons (pe_call Gl_rests (hr.mono (by decide)) (by rfl) Dl_rests.g Dl_rests.F.kp Dl_rests.b .nil pass0 (pa_cons (pv 1) (pa_cons (pv 2) pa_nil))) pa_nil))))
  (pss_cons (ps_for PassesOwn.never rfl (pi_list (pe_lst (pa_cons (pv 2) (pa_cons (pe_revT (pv 2)) (pa_cons (pe_slice sl_tupA (pe_op op_catA (pv 2) (pv 2)) po_none (po_some pe_int)) (pa_cons (pe_call Gl_parted (hr.mono (by decide)) (by rfl) Dl_parted.g Dl_parted.F.kp Dl_parted.b .nil pass0 (pa_cons (pv 0) (pa_cons (pv 2) (pa_cons (pv 1) pa_nil)))) (pa_cons (pv 3) (pa_cons (pe_revT (pv 3)) pa_nil)))))))) (pg_name (i := 4) scl_right.nd rfl (Or.inl rfl))
   (pss_one (ps_if (PW.pt (pw_and (pt_cmpR op_lt (pe_callB call_len_seq (by rfl) B.len PySem.boot_len (pa_cons (pv 4) pa_nil)) pe_int (nomark _)) (pw_and1 (pt_cmpR op_ne (pe_callB (call_reprA hf hr.units) (by rfl) B.n_repr (by decide +kernel) (pa_cons (pe_call Gshortest_greens (hr.mono (by decide)) (by rfl) Dshortest_greens.g Dshortest_greens.F.kp Dshortest_greens.b .nil pass0 (pa_cons (pv 1) (pa_cons (pv 4) pa_nil))) pa_nil)) (pe_callB (call_reprA hf hr.units) (by rfl) B.n_repr (by decide +kernel) (pa_cons (pv 3) pa_nil)) (nomark _)))))
   (pss_one (ps_ret pe_bl))
   pss_nil)))
  (pss_cons (ps_set (i := 5) scl_right.nd rfl (Or.inl rfl) (pe_op op_add pe_int (pe_call Gl_fish (hr.mono (by decide)) (by rfl) Dl_fish.g Dl_fish.F.kp Dl_fish.b .nil pass0 (pa_cons (pv 0) (pa_cons (pe_op op_powW pe_int pe_int) pa_nil)))))
  (pss_cons (ps_set (i := 6) scl_right.nd rfl (Or.inl rfl) (pe_call Gl_scaled (hr.mono (by decide)) (by rfl) Dl_scaled.g Dl_scaled.F.kp Dl_scaled.b .nil pass0 (pa_cons (pv 2) (pa_cons (pv 5) pa_nil))))
  (pss_one (ps_ret (pe_cmpR op_eq (pe_callB (call_reprA hf hr.units) (by rfl) B.n_repr (by decide +kernel) (pa_cons (pe_call Gshortest_greens (hr.mono (by decide)) (by rfl) Dshortest_greens.g Dshortest_greens.F.kp Dshortest_greens.b .nil pass0 (pa_cons (pe_op op_mulW (pv 1) (pv 5)) (pa_cons (pv 6) pa_nil))) pa_nil)) (pe_callB (call_reprA hf hr.units) (by rfl) B.n_repr (by decide +kernel) (pa_cons (pe_call Gl_scaled (hr.mono (by decide)) (by rfl) Dl_scaled.g Dl_scaled.F.kp Dl_scaled.b .nil pass0 (pa_cons (pv 3) (pa_cons (pv 5) pa_nil))) pa_nil)) (nomark _)))))))), ?_⟩)
  · obtain ⟨p, g, s, n, gs, rfl, _⟩ := h; rfl
  · obtain ⟨p, g, s, n, gs, rfl, hP, hn, hS, hG, hs, q⟩ := h
    have s1 := hG.c1
    have per : ∀ t, lit s gs (t % s) = lit s gs t := fun t => lit_mod s gs t
    refine ⟨_, rfl, _, rfl, _, rfl, g, s, gs, rfl, hS, hG, by omega, fun d kvs H1 sm1 _ e1 hL => ?_⟩
    refine ⟨d, s, lit s gs, kvs, rfl, e1, hL, per, s1, by omega, fun a A H2 sm2 hA can lA => ?_⟩
    have rA := can.rng s1 per
    have fA := pairs_fit (small_of rA (by omega)) (by omega)
    have hS2 := hS.mono (sm1.trans sm2)
    have hP2 := hP.same (sm1.trans sm2)
    obtain ⟨xs, hx, hxP⟩ := id hS2
    have lx := paired_len hxP
    have g1 := hG.1
    have g2 := hG.2.1
    refine ⟨_, rfl, _, rfl, g, xs, rfl, SqT.of hx, fun R hR => ?_⟩
    have smR := Same.new hR (o := .tup xs.reverse)
    refine ⟨_, rfl, _, rfl, ?_⟩
    refine catA_any (smR _ _ hx) (smR _ _ hx) (by omega) fun W H3 smW eW => ⟨_, rfl, ?_⟩
    refine slA_to (k := 6) eW fun S6 H4 sm6 e6 => ?_
    have smX := (smR.trans smW).trans sm6
    have hP4 := hP2.same smX
    have hS4 := hS2.mono smX
    have hx4 := smX _ _ hx
    have hxP4 := grs_same smX hxP
    refine ⟨_, rfl, _, rfl, _, rfl, p, g, s, n, gs, rfl, hP4, by omega, hS4, hG, by omega, fun P4 gs' H5 b5 pd5 hS' hG' same' => ?_⟩
    obtain ⟨pu, hpu⟩ := hP4.some
    have hA5 := (hA.mono smX).but b5 hpu
    obtain ⟨ys, hy, hyP⟩ := id hA5
    refine ⟨_, rfl, _, rfl, a, ys, rfl, SqT.of hy, fun R2 hR2 => ⟨(by show 6 ≤ sizeLine; decide), fun L hL => ?_⟩⟩
    have smL := (Same.new hR2 (o := .tup ys.reverse)).trans (Same.new hL (o := .lst [.ref g, .ref R, .ref S6, .ref P4, .ref a, .ref R2]))
    refine ⟨L, rfl, ⟨_, SqL.of upd_same⟩, ?_⟩
    have eL : (upd (upd H5 R2 (.tup ys.reverse)) L (.lst [.ref g, .ref R, .ref S6, .ref P4, .ref a, .ref R2])) L = some (.lst [.ref g, .ref R, .ref S6, .ref P4, .ref a, .ref R2]) := upd_same
    have t6 := take6 hG
    have revl : ∀ (B : List (Int × Int)) t, lit s B.reverse t = lit s B t := fun B t => lit_mem fun g => List.mem_reverse
    have iR : SigT (upd (upd H5 R2 (.tup ys.reverse)) L (.lst [.ref g, .ref R, .ref S6, .ref P4, .ref a, .ref R2])) R gs.reverse := (SigT.but b5 hpu ⟨_, (smW.trans sm6) _ _ (upd_same (H := H2) (a := R) (o := .tup xs.reverse)), paired_rev hxP4⟩).mono smL
    have i6 : SigT (upd (upd H5 R2 (.tup ys.reverse)) L (.lst [.ref g, .ref R, .ref S6, .ref P4, .ref a, .ref R2])) S6 ((gs ++ gs).take 6) := (SigT.but b5 hpu ⟨_, e6, paired_take 6 (paired_app hxP4 hxP4)⟩).mono smL
    have iR2 : SigT (upd (upd H5 R2 (.tup ys.reverse)) L (.lst [.ref g, .ref R, .ref S6, .ref P4, .ref a, .ref R2])) R2 A.reverse := ⟨_, Same.new hL _ _ upd_same, paired_rev (grs_same smL hyP)⟩
    have hA6 := hA5.mono smL
    have hS6 := (hS4.but b5 hpu).mono smL
    have hP6 := hS'.mono smL
    have pd6 := pd5.same smL
    have bt : But p H (upd (upd H5 R2 (.tup ys.reverse)) L (.lst [.ref g, .ref R, .ref S6, .ref P4, .ref a, .ref R2])) := ((Same.but (sm1.trans (sm2.trans smX))).trans b5).trans (Same.but smL)
    generalize (upd (upd H5 R2 (.tup ys.reverse)) L (.lst [.ref g, .ref R, .ref S6, .ref P4, .ref a, .ref R2])) = H6 at eL iR i6 iR2 hA6 hS6 hP6 pd6 bt ⊢
    clear smL
    have dueOk : A.length ≤ 6 → A ≠ [] → OkG s A := fun l ne => ⟨List.length_pos_iff.mpr ne, l, rA⟩
    have item : ∀ i z, [(g, gs), (R, gs.reverse), (S6, (gs ++ gs).take 6), (P4, gs'), (a, A), (R2, A.reverse)][i]? = some z → Item H6 s gs A i z := fun i z hz => by
      match i, hz with
      | 0, hz => cases hz; exact ⟨hS6, fun _ _ => ⟨hG, fun _ => rfl⟩, fun _ => g2⟩
      | 1, hz => cases hz; exact ⟨iR, fun _ _ => ⟨hG.rev, revl gs⟩, fun h => by omega⟩
      | 2, hz => cases hz; exact ⟨i6, fun _ _ => t6, fun h => by omega⟩
      | 3, hz => cases hz; exact ⟨hP6, fun _ _ => ⟨hG', same'⟩, fun h => by omega⟩
      | 4, hz => cases hz; exact ⟨hA6, fun l f => ⟨dueOk l (f (by omega)).1, (f (by omega)).2⟩, fun h => by omega⟩
      | 5, hz => cases hz; exact ⟨iR2, fun l f => ⟨(dueOk (by simpa using l) (f (by omega)).1).rev, fun t => (revl A t).trans ((f (by omega)).2 t)⟩, fun h => by omega⟩
      | k + 6, hz => simp at hz
    refine for_list (xs := [.ref g, .ref R, .ref S6, .ref P4, .ref a, .ref R2]) (fun i σ H' => ∃ y4, σ = [some (.ref p), some (.int s), some (.ref g), some (.ref a), y4, none, none] ∧ Same H6 H' ∧ (1 ≤ i → A ≠ [] ∧ ∀ t, lit s A t = lit s gs t))
      ⟨none, rfl, Same.refl _, fun h => by omega⟩ (fun i σ H' _ ⟨_, _, s, _⟩ => SqL.of (s _ _ eL)) ?_ ?_
    · rintro i x σ H' hxi ⟨y4, rfl, sm, facts⟩
      obtain ⟨z, hz, rfl⟩ : ∃ z, [(g, gs), (R, gs.reverse), (S6, (gs ++ gs).take 6), (P4, gs'), (a, A), (R2, A.reverse)][i]? = some z ∧ x = .ref z.1 := by
        have e : [V.ref g, .ref R, .ref S6, .ref P4, .ref a, .ref R2] = [(g, gs), (R, gs.reverse), (S6, (gs ++ gs).take 6), (P4, gs'), (a, A), (R2, A.reverse)].map (fun z => V.ref z.1) := rfl
        rw [e, List.getElem?_map] at hxi
        cases h : [(g, gs), (R, gs.reverse), (S6, (gs ++ gs).take 6), (P4, gs'), (a, A), (R2, A.reverse)][i]? with
        | none => rw [h] at hxi; cases hxi
        | some z => rw [h] at hxi; exact ⟨z, rfl, (Option.some.inj hxi).symm⟩
      have it := item i z hz
      obtain ⟨zs, hz1, hzP⟩ := it.at_
      have lz := paired_len hzP
      refine ⟨_, rfl, z.1, zs, rfl, .inr (SqT.of (sm _ _ hz1)), _, _, rfl, rfl, ?_⟩
      by_cases l7 : (zs.length : Int) < 7
      · refine ⟨true, congrArg V.bl (decide_eq_true l7), ?_⟩
        obtain ⟨okz, samez⟩ := it.ok (by omega) facts
        refine ⟨_, rfl, _, rfl, z.1, s, z.2, rfl, it.at_.mono sm, okz, by omega, fun b Bs H7 sm7 hB canB sameB neB lB => ?_⟩
        have eB : Bs = A := (canB.to samez).uniq can
        subst eB
        refine ⟨.ref b, .tuple (Bs.map pairD), rfl, hB.dp, fA.1, fA.2.1, fA.2.2.1, fA.2.2.2, (fun _ z => nomatch z), ?_⟩
        refine ⟨_, rfl, .ref a, .tuple (Bs.map pairD), rfl, (hA6.mono (sm.trans sm7)).dp, fA.1, fA.2.1, fA.2.2.1, fA.2.2.2, (fun _ z => nomatch z), rfl, _, rfl, iteNS rfl ?_⟩
        exact ⟨_, rfl, sm.trans sm7, fun _ => ⟨neB, fun t => (sameB t).trans (samez t)⟩⟩
      · refine ⟨false, congrArg V.bl (decide_eq_false l7), ?_⟩
        exact ⟨_, rfl, sm, fun _ => facts (by
          refine Decidable.byContradiction fun h => ?_
          have := it.first (by omega)
          omega)⟩
    · rintro σ H7 ⟨y4, rfl, sm, facts⟩
      obtain ⟨neA, sameA⟩ := facts (by simp)
      have e28 : (10 : Int) ^ (28 : Int).toNat = 10 ^ 28 := rfl
      have cp28 : CPowW 10 28 := ⟨by decide, by decide +kernel⟩
      refine ⟨_, rfl, _, _, rfl, rfl, cp28, p, _, _, rfl, pd6.same sm, by omega, by rw [e28]; omega, by rw [e28]; omega, fun r H8 b8 pd8 r0 r1 => ⟨_, _, rfl, rfl, ?_⟩⟩
      rw [e28] at r1
      obtain ⟨pu7, hpu7⟩ := (pd6.same sm).some
      have hS8 := (hS6.mono sm).but b8 hpu7
      have hA8 := (hA6.mono sm).but b8 hpu7
      have f1 : 1 ≤ 1 + r := by omega
      have sf : s * (1 + r) ≤ 40 * (1 + r) := Int.mul_le_mul_of_nonneg_right hs (by omega)
      have okS := scal2_ok (c := s * (1 + r)) hG f1 (Int.le_refl _)
      have canS : Canon (s * (1 + r)) (lit (s * (1 + r)) (scal2 (1 + r) gs)) (scal2 (1 + r) A) := (Canon.scal (f := 1 + r) (by omega) (by omega) can).to fun t => (lit_div gs t (by omega) (by omega)).symm
      have fS := pairs_fit (gs := scal2 (1 + r) A) (small_of (canS.rng okS.c1 fun t => lit_mod _ _ t) (by omega)) (by rw [scal2, List.length_map]; omega)
      refine ⟨_, rfl, _, rfl, g, 1 + r, gs, rfl, hS8, by omega, fun x hx => ?_, by omega, by omega, fun a2 H9 sm9 hS9 => ?_⟩
      · have := hG.2.2 x hx; omega
      refine ⟨_, rfl, _, rfl, _, _, rfl, rfl, mul30 (by omega) (by omega) (by omega) (by omega), _, rfl, a2, s * (1 + r), scal2 (1 + r) gs, rfl, hS9, okS, by omega, fun b Bs H10 sm10 hB canB sameB neB lB => ?_⟩
      obtain rfl : Bs = scal2 (1 + r) A := canB.uniq canS
      refine ⟨.ref b, .tuple ((scal2 (1 + r) A).map pairD), rfl, hB.dp, fS.1, fS.2.1, fS.2.2.1, fS.2.2.2, (fun _ z => nomatch z), ?_⟩
      refine ⟨_, rfl, _, rfl, a, 1 + r, A, rfl, hA8.mono (sm9.trans sm10), by omega, fun x hx => ?_, by omega, by omega, fun a3 H11 sm11 hS11 => ?_⟩
      · have := rA x hx; omega
      refine ⟨.ref a3, .tuple ((scal2 (1 + r) A).map pairD), rfl, hS11.dp, fS.1, fS.2.1, fS.2.2.1, fS.2.2.2, (fun _ z => nomatch z), rfl, ?_⟩
      have ed : ∀ x : V, decide (x = x) = true := fun x => decide_eq_true rfl
      rw [ed]
      exact q _ (((bt.trans (Same.but sm)).trans b8).trans (Same.but ((sm9.trans sm10).trans sm11))) ((pd8.same ((sm9.trans sm10).trans sm11)).mono (by omega))
end
end Gr

set_option Elab.async false
set_option linter.all false
set_option pp.deepTerms false
set_option pp.maxSteps 3000
set_option maxRecDepth 100000
set_option maxHeartbeats 8000000
set_option exponentiation.threshold 3000
namespace Gr
open PySem PySem.Spec PyProof.Rows L2
theorem sep_one {c o l : Int} (h : 0 ≤ o ∧ o < c ∧ 1 ≤ l ∧ l < c) : Sep c [(o, l)] :=
  ⟨List.pairwise_singleton _ _, fun g hg => by rw [List.mem_singleton.mp hg]; exact h, fun g hg k hk ne => absurd ((List.mem_singleton.mp hg).trans (List.mem_singleton.mp hk).symm) ne⟩
theorem lit_two {c t : Int} {a b : Int × Int} : lit c [a, b] t = (decide ((t - a.1) % c < a.2) || decide ((t - b.1) % c < b.2)) := by
  unfold lit
  rw [List.any_cons, List.any_cons, List.any_nil, Bool.or_false]
theorem lit_1 {c t : Int} {a : Int × Int} : lit c [a] t = decide ((t - a.1) % c < a.2) := by
  unfold lit
  rw [List.any_cons, List.any_nil, Bool.or_false]
theorem far1 {C : Int} (h : 3 ≤ C) : Canon C (lit C [(C - 1, 1), (0, 1)]) [(C - 1, 2)] := by
  refine ((sep_one (c := C) (o := C - 1) (l := 2) (by omega)).canon (by simp)).to fun t => ?_
  have := part_lit (s := C) (o := C - 1) (l := 2) (p := 1) (t := t) (by omega) (by omega) (by omega) (by omega) (by omega)
  rw [show C - 1 + 1 = C by omega, Int.emod_self] at this
  rw [lit_1, lit_two, ← Bool.decide_or]
  refine decide_eq_decide.mpr (this.trans ?_)
  rw [Or.comm]
  rfl
theorem far2 {C : Int} (h : 3 ≤ C) : Canon C (lit C [(1, C - 1)]) [(1, C - 1)] := (sep_one (by omega)).canon (by simp)
theorem far3 {C : Int} (h : 9 ≤ C) : Canon C (lit C [(5, C - 1), (4, 1)]) [(0, C)] := by
  refine .inl ⟨fun t => ?_, rfl⟩
  have := part_lit (s := C) (o := 5) (l := C) (p := C - 1) (t := t) (by omega) (by omega) (by omega) (by omega) (by omega)
  rw [show (5 + (C - 1)) % C = 4 by rw [show 5 + (C - 1) = 4 + C by omega, Int.add_emod_right, Int.emod_eq_of_lt (by omega) (by omega)]] at this
  have a := this.mp (Int.emod_lt_of_pos _ (by omega))
  rw [lit_two, ← Bool.decide_or]
  refine decide_eq_true ?_
  simp only
  omega
theorem one1 : Canon 1 (lit 1 [(0, 1)]) [(0, 1)] := .inl ⟨fun t => by rw [lit_1]; exact decide_eq_true (Int.emod_lt_of_pos _ (by decide)), rfl⟩
theorem eqv1 : PyData.eqv (.tuple ([((0 : Int), (1 : Int))].map pairD)) (.tuple ([((0 : Int), (1 : Int))].map pairD)) = true := by simp [PyData.eqv, PyData.eqvAll, pairD]
theorem eqv3 {a b c : Int × Int} : PyData.eqv (.list [.tuple ([a].map pairD), .tuple ([b].map pairD), .tuple ([c].map pairD)]) (.list [.tuple ([a].map pairD), .tuple ([b].map pairD), .tuple ([c].map pairD)]) = true := by simp [PyData.eqv, PyData.eqvAll, pairD]
theorem shaped3 (a b c : Int × Int) : SeqAt.shaped (.list [.tuple ([a].map pairD), .tuple ([b].map pairD), .tuple ([c].map pairD)]) = true := by
  unfold SeqAt.shaped
  rw [Bool.and_eq_true]
  refine ⟨by simp [PyData.canLay0, PyData.canLayAll0, pairD], decide_eq_true ?_⟩
  simp [PyData.depth, PyData.depthAll, pairD]
def spLaw (K : PySem.W.Frag) : Sp := fun vs H Q _ => ∃ (a : Addr) (ns : List Int), vs = [.ref a] ∧ SqL K H a (ns.map V.int) ∧ ns.length ≤ 63 ∧ ∀ H', Q (.bl true) H'
section
variable {P : Program} {w : World} {K : PySem.W.Frag} {mg : Str → Option Value} {base : Heap} {tC tG : Tok}
theorem ok_law {f f1 f2 f3 f4 f5 : Addr} {fd fd1 fd2 fd3 fd4 fd5 : FuncData} (B : Blt mg tC tG) (Dlaw : Def K mg "law" s_law ["_law_script"] f fd) (Dl_fish : Def K mg "_law_fish" s_l_fish ["_law_pond_here", "_law_bound"] f1 fd1) (Dl_pond : Def K mg "_law_pond" s_l_pond ["_law_script", "_law_k"] f2 fd2) (Dl_greens : Def K mg "_law_greens" s_l_greens ["_law_pond_here", "_law_span"] f3 fd3) (Dl_right : Def K mg "_law_right" s_l_right ["_law_pond_here", "_law_span", "_law_greens_here"] f4 fd4) (Dshortest_greens : Def K mg "shortest_greens" s_shortest_greens ["cycle", "signal"] f5 fd5)
    (Gshortest_greens : FnOk P w K mg base CX0 5 f5 fd5 ["cycle", "signal"] spShort) (Gl_right : FnG P w K mg base CX0 6 f4 fd4 ["_law_pond_here", "_law_span", "_law_greens_here"] spRight) : FnG P w K mg base CX0 7 f fd ["_law_script"] (spLaw K) := by
  have Gl_fish := ok_fish (P := P) (w := w) (base := base) B Dl_fish
  have Gl_pond := ok_pond (P := P) (w := w) (base := base) B Dl_pond
  have Gl_greens := ok_greens (P := P) (w := w) (base := base) B Dl_greens Dl_fish
  refine okG Dlaw.F sclaw (fun vs H Q E h => ?_) (fun cdv A outer s H vs Q E hf hr h => ⟨_, (pss_cons (ps_for PassesOwn.never rfl (pi_range1 (by rfl) B.range (pa_cons (pe_callB (call_max2 rfl) (by rfl) B.n_max (by decide +kernel) (pa_cons pe_int (pa_cons (pe_callB (call_min2 rfl) (by rfl) B.n_min (by decide +kernel) (pa_cons pe_int (pa_cons (pe_callB call_len_seq (by rfl) B.len PySem.boot_len (pa_cons (pv 0) pa_nil)) pa_nil))) pa_nil))) pa_nil)) (pg_name (i := 1) sclaw.nd rfl (Or.inl rfl))
   (pss_cons (ps_set (i := 2) sclaw.nd rfl (Or.inl rfl) (pe_call Gl_pond (hr.mono (by decide)) (by rfl) Dl_pond.g Dl_pond.F.kp Dl_pond.b .nil pass0 (pa_cons (pv 0) (pa_cons (pv 1) pa_nil))))
  (pss_one (ps_for PassesOwn.never rfl (pi_range1 (by rfl) B.range (pa_cons pe_int pa_nil)) (pg_name (i := 3) sclaw.nd rfl (Or.inl rfl))
   (pss_cons (ps_set (i := 4) sclaw.nd rfl (Or.inl rfl) (pe_ix ix_list (pe_lst (pa_cons (pe_op op_add pe_int (pe_call Gl_fish (hr.mono (by decide)) (by rfl) Dl_fish.g Dl_fish.F.kp Dl_fish.b .nil pass0 (pa_cons (pv 2) (pa_cons pe_int pa_nil)))) (pa_cons pe_int (pa_cons pe_int (pa_cons pe_int pa_nil))))) (pe_call Gl_fish (hr.mono (by decide)) (by rfl) Dl_fish.g Dl_fish.F.kp Dl_fish.b .nil pass0 (pa_cons (pv 2) (pa_cons pe_int pa_nil))) (fun _ _ => rfl)))
  (pss_one (ps_if (pt_not (pt_val (pe_callG Gl_right hf (hr.mono (by decide)) (by rfl) Dl_right.g Dl_right.F.kp Dl_right.b .nil pass0 (pa_cons (pv 2) (pa_cons (pv 4) (pa_cons (pe_call Gl_greens (hr.mono (by decide)) (by rfl) Dl_greens.g Dl_greens.F.kp Dl_greens.b .nil pass0 (pa_cons (pv 2) (pa_cons (pv 4) pa_nil))) pa_nil))))))
   (pss_one (ps_ret pe_bl))
   pss_nil)))))))
  (pss_cons (ps_set (i := 5) sclaw.nd rfl (Or.inl rfl) (pe_op op_powW pe_int pe_int))
  (pss_cons (ps_set (i := 6) sclaw.nd rfl (Or.inl rfl) (pe_lst (pa_cons (pe_call Gshortest_greens (hr.mono (by decide)) (by rfl) Dshortest_greens.g Dshortest_greens.F.kp Dshortest_greens.b .nil pass0 (pa_cons (pv 5) (pa_cons (pe_tup (pa_cons (pe_tup (pa_cons (pe_op op_sub (pv 5) pe_int) (pa_cons pe_int pa_nil))) (pa_cons (pe_tup (pa_cons pe_int (pa_cons pe_int pa_nil))) pa_nil))) pa_nil))) (pa_cons (pe_call Gshortest_greens (hr.mono (by decide)) (by rfl) Dshortest_greens.g Dshortest_greens.F.kp Dshortest_greens.b .nil pass0 (pa_cons (pv 5) (pa_cons (pe_tup (pa_cons (pe_tup (pa_cons pe_int (pa_cons (pe_op op_sub (pv 5) pe_int) pa_nil))) pa_nil)) pa_nil))) pa_nil))))
  (pss_cons (ps_expr (pe_bm PySem.F.plainAttrs_list PySem.F.slot_list_append PySem.F.type_list_append mt_append (pv 6) (pa_cons (pe_call Gshortest_greens (hr.mono (by decide)) (by rfl) Dshortest_greens.g Dshortest_greens.F.kp Dshortest_greens.b .nil pass0 (pa_cons (pv 5) (pa_cons (pe_tup (pa_cons (pe_tup (pa_cons pe_int (pa_cons (pe_op op_sub (pv 5) pe_int) pa_nil))) (pa_cons (pe_tup (pa_cons pe_int (pa_cons pe_int pa_nil))) pa_nil))) pa_nil))) pa_nil)))
  (pss_one (ps_ret (pe_and (pe_cmpR (op_eqD hr.units) (pv 6) (pe_lst (pa_cons (pe_tup (pa_cons (pe_tup (pa_cons (pe_op op_sub (pv 5) pe_int) (pa_cons pe_int pa_nil))) pa_nil)) (pa_cons (pe_tup (pa_cons (pe_tup (pa_cons pe_int (pa_cons (pe_op op_sub (pv 5) pe_int) pa_nil))) pa_nil)) (pa_cons (pe_tup (pa_cons (pe_tup (pa_cons pe_int (pa_cons (pv 5) pa_nil))) pa_nil)) pa_nil)))) (nomark _)) (pe_one (pe_cmpR (op_eqD hr.units) (pe_call Gshortest_greens (hr.mono (by decide)) (by rfl) Dshortest_greens.g Dshortest_greens.F.kp Dshortest_greens.b .nil pass0 (pa_cons pe_int (pa_cons (pe_tup (pa_cons (pe_tup (pa_cons pe_int (pa_cons pe_int pa_nil))) pa_nil)) pa_nil))) (pe_tup (pa_cons (pe_tup (pa_cons pe_int (pa_cons pe_int pa_nil))) pa_nil)) (nomark _)))))))))), ?_⟩)
  · obtain ⟨a, ns, rfl, _⟩ := h; rfl
  · obtain ⟨a, ns, rfl, hS, hl, q⟩ := h
    refine ⟨_, rfl, a, _, rfl, .inl hS, _, _, rfl, _, _, rfl, _, rfl, ?_, ?_, ?_⟩
    · rw [List.length_map]; split <;> split <;> omega
    · rw [List.length_map]; split <;> split <;> omega
    refine for_range (lo := 0) (fun i σ H' => ∃ y1 y2 y3 y4, σ = [some (.ref a), y1, y2, y3, y4, none, none] ∧ Same H H') ⟨_, _, _, _, rfl, Same.refl H⟩ ?_ ?_
    · rintro k σ H0 hk ⟨y1, y2, y3, y4, rfl, s0⟩
      have k8 : k ≤ 8 := by
        rw [List.length_map] at hk
        split at hk <;> split at hk <;> omega
      refine ⟨_, rfl, _, rfl, a, _, ns, rfl, s0.seq hS, by omega, by omega, fun p H1 hp0 s1 pd1 => ?_⟩
      refine ⟨5, rfl, by decide, by decide, ?_⟩
      refine for_range (lo := 0) (fun i σ H' => ∃ y3 y4, σ = [some (.ref a), some (.int (0 + (k : Int))), some (.ref p), y3, y4, none, none] ∧ But p H1 H' ∧ Pond (2000 * i) p H') ⟨_, _, rfl, But.refl p H1, pd1.mono (by omega)⟩ ?_ ?_
      · rintro i σ H2 hi ⟨y3, y4, rfl, b2, pd2⟩
        refine ⟨_, rfl, p, 40, _, rfl, pd2, by omega, by decide, by decide +kernel, fun r3 H3 b3 pd3 r30 r31 => ⟨_, _, rfl, rfl, (by show 4 ≤ sizeLine; decide), fun L hL => ?_⟩⟩
        have hLp : L ≠ p := fun e => pd3.ne (e ▸ hL)
        refine ⟨_, rfl, p, 4, _, rfl, pd3.new hL, by omega, by decide, by decide +kernel, fun r4 H4 b4 pd4 r40 r41 => ?_⟩
        obtain ⟨v, hv, hva⟩ := pick (xs := [1 + r3, 10, 2, 1]) r40 r41
        have v40 : 1 ≤ v ∧ v ≤ 40 := by
          simp only [List.mem_cons, List.not_mem_nil, or_false] at hv
          omega
        refine ⟨L, _, _, _, rfl, rfl, SqL.of (b4 L _ hLp upd_same), hva, ?_⟩
        refine ⟨_, rfl, _, rfl, _, rfl, _, rfl, p, v, _, rfl, pd4, by omega, v40.1, by omega, fun g gs H5 b5 pd5 hSg hG => ?_⟩
        refine ⟨p, g, v, _, gs, rfl, pd5, by omega, hSg, hG, v40.2, fun H6 b6 pd6 => ⟨true, rfl, iteF ?_⟩⟩
        exact ⟨_, _, rfl, ((((b2.trans b3).trans (Same.but (Same.new hL))).trans b4).trans b5).trans b6, pd6.mono (by push_cast; omega)⟩
      · rintro σ H2 ⟨y3, y4, rfl, b2, pd2⟩
        exact ⟨_, _, _, _, rfl, s0.trans (b2.same s1 hp0)⟩
    · rintro σ H0 ⟨y1, y2, y3, y4, rfl, s0⟩
      have c30 : CPowW 10 30 := ⟨by decide, by decide +kernel⟩
      have big : 9 ≤ (10 : Int) ^ (30 : Int).toNat := by decide +kernel
      have le30 : (10 : Int) ^ (30 : Int).toNat ≤ 10 ^ 30 := Int.le_refl _
      refine ⟨_, _, rfl, rfl, c30, ?_⟩
      change gName 5 (.int ((10 : Int) ^ (30 : Int).toNat)) _ _ _
      generalize (10 : Int) ^ (30 : Int).toNat = C at big le30
      have two : 2 ≤ sizeLine := by decide
      have one : 1 ≤ sizeLine := by decide
      refine ⟨_, rfl, _, rfl, _, _, rfl, rfl, two, fun T1 hT1 => ⟨two, fun T2 hT2 => ⟨two, fun U hU => ⟨U, C, [(C - 1, 1), (0, 1)], rfl, ⟨_, upd_same, .cons ⟨T1, rfl, Same.new hU _ _ (Same.new hT2 _ _ upd_same)⟩ (.cons ⟨T2, rfl, Same.new hU _ _ upd_same⟩ .nil)⟩, ⟨by simp, by simp, fun g hg => ?_⟩, le30, fun a1 A1 H1 s1 hA1 can1 _ _ _ => ?_⟩⟩⟩⟩
      · simp only [List.mem_cons, List.not_mem_nil, or_false] at hg
        rcases hg with rfl | rfl <;> simp only <;> omega
      obtain rfl : A1 = [(C - 1, 2)] := can1.uniq (far1 (by omega))
      refine ⟨_, rfl, _, rfl, _, _, rfl, rfl, two, fun T3 hT3 => ⟨one, fun U2 hU2 => ⟨U2, C, [(1, C - 1)], rfl, ⟨_, upd_same, .cons ⟨T3, rfl, Same.new hU2 _ _ upd_same⟩ .nil⟩, ⟨by simp, by simp, fun g hg => ?_⟩, le30, fun a2 A2 H2 s2 hA2 can2 _ _ _ => ?_⟩⟩⟩
      · rw [List.mem_singleton.mp hg]; simp only; omega
      obtain rfl : A2 = [(1, C - 1)] := can2.uniq (far2 (by omega))
      have hA1' := hA1.mono (((Same.new hT3).trans (Same.new hU2)).trans s2)
      refine ⟨two, fun D hD => ?_⟩
      have hA1d := hA1'.mono (Same.new hD (o := .lst [.ref a1, .ref a2]))
      have hA2d := hA2.mono (Same.new hD (o := .lst [.ref a1, .ref a2]))
      refine ⟨_, rfl, .inl ⟨rfl, _, SqL.of upd_same⟩, _, rfl, _, rfl, _, _, rfl, rfl, two, fun T4 hT4 => ⟨two, fun T5 hT5 => ⟨two, fun U3 hU3 => ⟨U3, C, [(5, C - 1), (4, 1)], rfl, ⟨_, upd_same, .cons ⟨T4, rfl, Same.new hU3 _ _ (Same.new hT5 _ _ upd_same)⟩ (.cons ⟨T5, rfl, Same.new hU3 _ _ upd_same⟩ .nil)⟩, ⟨by simp, by simp, fun g hg => ?_⟩, le30, fun a3 A3 H3 s3 hA3 can3 _ _ _ => ?_⟩⟩⟩⟩
      · simp only [List.mem_cons, List.not_mem_nil, or_false] at hg
        rcases hg with rfl | rfl <;> simp only <;> omega
      obtain rfl : A3 = [(0, C)] := can3.uniq (far3 (by omega))
      have s3' := (((Same.new hT4 (o := .tup [.int 5, .int (C - 1)])).trans (Same.new hT5 (o := .tup [.int 4, .int 1]))).trans (Same.new hU3 (o := .tup [.ref T4, .ref T5]))).trans s3
      have eD := s3' _ _ (upd_same (H := H2) (a := D) (o := .lst [.ref a1, .ref a2]))
      have hA1e := hA1d.mono s3'
      have hA2e := hA2d.mono s3'
      refine ⟨D, _, _, rfl, rfl, eD, small1000 (by simp), ?_⟩
      have bD : But D H3 (upd H3 D (.lst ([.ref a1, .ref a2] ++ [.ref a3]))) := fun q o hq e => by rw [upd_ne hq]; exact e
      have h1 := hA1e.but bD eD
      have h2 := hA2e.but bD eD
      have h3 := hA3.but bD eD
      have eT : (upd H3 D (.lst ([.ref a1, .ref a2] ++ [.ref a3]))) D = some (.lst [.ref a1, .ref a2, .ref a3]) := upd_same
      generalize upd H3 D (.lst ([.ref a1, .ref a2] ++ [.ref a3])) = HE at h1 h2 h3 eT ⊢
      refine ⟨_, rfl, _, rfl, _, _, rfl, rfl, two, fun X1 hX1 => ⟨one, fun Y1 hY1 => ⟨_, rfl, _, _, rfl, rfl, two, fun X2 hX2 => ⟨one, fun Y2 hY2 => ⟨_, rfl, two, fun X3 hX3 => ⟨one, fun Y3 hY3 => ⟨(by show 3 ≤ sizeLine; decide), fun L hL => ?_⟩⟩⟩⟩⟩⟩⟩
      have t1 := Same.new hX1 (o := .tup [.int (C - 1), .int 2])
      have t2 := Same.new hY1 (o := .tup [.ref X1])
      have t3 := Same.new hX2 (o := .tup [.int 1, .int (C - 1)])
      have t4 := Same.new hY2 (o := .tup [.ref X2])
      have t5 := Same.new hX3 (o := .tup [.int 0, .int C])
      have t6 := Same.new hY3 (o := .tup [.ref X3])
      have t7 := Same.new hL (o := .lst [.ref Y1, .ref Y2, .ref Y3])
      have tA := (((((t1.trans t2).trans t3).trans t4).trans t5).trans t6).trans t7
      have r1 : SigT _ Y1 [(C - 1, 2)] := ⟨_, t7 _ _ (t6 _ _ (t5 _ _ (t4 _ _ (t3 _ _ upd_same)))), .cons ⟨X1, rfl, t7 _ _ (t6 _ _ (t5 _ _ (t4 _ _ (t3 _ _ (t2 _ _ upd_same)))))⟩ .nil⟩
      have r2 : SigT _ Y2 [(1, C - 1)] := ⟨_, t7 _ _ (t6 _ _ (t5 _ _ upd_same)), .cons ⟨X2, rfl, t7 _ _ (t6 _ _ (t5 _ _ (t4 _ _ upd_same)))⟩ .nil⟩
      have r3 : SigT _ Y3 [(0, C)] := ⟨_, t7 _ _ upd_same, .cons ⟨X3, rfl, t7 _ _ (t6 _ _ upd_same)⟩ .nil⟩
      refine ⟨_, _, .lst (SqL.of (tA _ _ eT)) (.cons (h1.mono tA).dp (.cons (h2.mono tA).dp (.cons (h3.mono tA).dp .nil))), .lst (SqL.of upd_same) (.cons r1.dp (.cons r2.dp (.cons r3.dp .nil))), shaped3 _ _ _, shaped3 _ _ _, ?_⟩
      rw [eqv3]
      refine ⟨true, rfl, ?_⟩
      refine ⟨two, fun X4 hX4 => ⟨one, fun Y4 hY4 => ⟨Y4, 1, [(0, 1)], rfl, ⟨_, upd_same, .cons ⟨X4, rfl, Same.new hY4 _ _ upd_same⟩ .nil⟩, ⟨by simp, by simp, fun g hg => ?_⟩, by decide +kernel, fun a4 A4 H4 s4 hA4 can4 _ _ _ => ?_⟩⟩⟩
      · rw [List.mem_singleton.mp hg]; decide
      obtain rfl : A4 = [(0, 1)] := can4.uniq one1
      refine ⟨two, fun X5 hX5 => ⟨one, fun Y5 hY5 => ?_⟩⟩
      have r5 : SigT _ Y5 [(0, 1)] := ⟨_, upd_same, .cons ⟨X5, rfl, Same.new hY5 _ _ upd_same⟩ .nil⟩
      refine ⟨_, _, (hA4.mono ((Same.new hX5).trans (Same.new hY5))).dp, r5.dp, by decide +kernel, by decide +kernel, ?_⟩
      rw [eqv1]
      exact q _
end
end Gr

set_option Elab.async false
set_option linter.all false
set_option maxRecDepth 100000
set_option maxHeartbeats 8000000
namespace Gr
open PySem PySem.Spec PyProof.Rows L2
theorem all_mk {l : PySem.W.OpenLaw} {w : World} {K : PySem.W.Frag} {h : Heap} {mg : Str → Option Value} {fa : Addr} (X : K.In h) (G : h.Ns mainGlobals mg) (hfa : mg "law" = some (.ref fa))
    {f0 : Addr} {od0 an0 : Option Addr} {sl0 : Array (Option Value)} {oc0 kV0 dc0 pm0 cd0 ct0 : Value}
    (a0 : PySem.W.nsIn K mainGlobals "is_whole" = some (some (.ref f0))) (l0 : K.lookup f0 = some ⟨oc0, od0, .func (PySem.W.fnOf "is_whole" "is_whole" (defArgs s_is_whole) (defBody s_is_whole) (defScope s_is_whole) .none kV0 dc0 pm0 an0 cd0 ct0), sl0⟩) (c0 : PySem.W.codeIn K cd0 "is_whole" = true) (k0 : PySem.W.keepIn K (.ref f0) = true)
    {f1 : Addr} {od1 an1 : Option Addr} {sl1 : Array (Option Value)} {oc1 kV1 dc1 pm1 cd1 ct1 : Value}
    (a1 : PySem.W.nsIn K mainGlobals "check_cycle" = some (some (.ref f1))) (l1 : K.lookup f1 = some ⟨oc1, od1, .func (PySem.W.fnOf "check_cycle" "check_cycle" (defArgs s_check_cycle) (defBody s_check_cycle) (defScope s_check_cycle) .none kV1 dc1 pm1 an1 cd1 ct1), sl1⟩) (c1 : PySem.W.codeIn K cd1 "check_cycle" = true) (k1 : PySem.W.keepIn K (.ref f1) = true)
    {f2 : Addr} {od2 an2 : Option Addr} {sl2 : Array (Option Value)} {oc2 kV2 dc2 pm2 cd2 ct2 : Value}
    (a2 : PySem.W.nsIn K mainGlobals "is_green_pair" = some (some (.ref f2))) (l2 : K.lookup f2 = some ⟨oc2, od2, .func (PySem.W.fnOf "is_green_pair" "is_green_pair" (defArgs s_is_green_pair) (defBody s_is_green_pair) (defScope s_is_green_pair) .none kV2 dc2 pm2 an2 cd2 ct2), sl2⟩) (c2 : PySem.W.codeIn K cd2 "is_green_pair" = true) (k2 : PySem.W.keepIn K (.ref f2) = true)
    {f3 : Addr} {od3 an3 : Option Addr} {sl3 : Array (Option Value)} {oc3 kV3 dc3 pm3 cd3 ct3 : Value}
    (a3 : PySem.W.nsIn K mainGlobals "is_signal" = some (some (.ref f3))) (l3 : K.lookup f3 = some ⟨oc3, od3, .func (PySem.W.fnOf "is_signal" "is_signal" (defArgs s_is_signal) (defBody s_is_signal) (defScope s_is_signal) .none kV3 dc3 pm3 an3 cd3 ct3), sl3⟩) (c3 : PySem.W.codeIn K cd3 "is_signal" = true) (k3 : PySem.W.keepIn K (.ref f3) = true)
    {f4 : Addr} {od4 an4 : Option Addr} {sl4 : Array (Option Value)} {oc4 kV4 dc4 pm4 cd4 ct4 : Value}
    (a4 : PySem.W.nsIn K mainGlobals "check_signal" = some (some (.ref f4))) (l4 : K.lookup f4 = some ⟨oc4, od4, .func (PySem.W.fnOf "check_signal" "check_signal" (defArgs s_check_signal) (defBody s_check_signal) (defScope s_check_signal) .none kV4 dc4 pm4 an4 cd4 ct4), sl4⟩) (c4 : PySem.W.codeIn K cd4 "check_signal" = true) (k4 : PySem.W.keepIn K (.ref f4) = true)
    {f5 : Addr} {od5 an5 : Option Addr} {sl5 : Array (Option Value)} {oc5 kV5 dc5 pm5 cd5 ct5 : Value}
    (a5 : PySem.W.nsIn K mainGlobals "shortest_greens" = some (some (.ref f5))) (l5 : K.lookup f5 = some ⟨oc5, od5, .func (PySem.W.fnOf "shortest_greens" "shortest_greens" (defArgs s_shortest_greens) (defBody s_shortest_greens) (defScope s_shortest_greens) .none kV5 dc5 pm5 an5 cd5 ct5), sl5⟩) (c5 : PySem.W.codeIn K cd5 "shortest_greens" = true) (k5 : PySem.W.keepIn K (.ref f5) = true)
    {f6 : Addr} {od6 an6 : Option Addr} {sl6 : Array (Option Value)} {oc6 kV6 dc6 pm6 cd6 ct6 : Value}
    (a6 : PySem.W.nsIn K mainGlobals "parted_greens" = some (some (.ref f6))) (l6 : K.lookup f6 = some ⟨oc6, od6, .func (PySem.W.fnOf "parted_greens" "parted_greens" (defArgs s_parted_greens) (defBody s_parted_greens) (defScope s_parted_greens) .none kV6 dc6 pm6 an6 cd6 ct6), sl6⟩) (c6 : PySem.W.codeIn K cd6 "parted_greens" = true) (k6 : PySem.W.keepIn K (.ref f6) = true)
    {f7 : Addr} {od7 an7 : Option Addr} {sl7 : Array (Option Value)} {oc7 kV7 dc7 pm7 cd7 ct7 : Value}
    (a7 : PySem.W.nsIn K mainGlobals "joined_over_end" = some (some (.ref f7))) (l7 : K.lookup f7 = some ⟨oc7, od7, .func (PySem.W.fnOf "joined_over_end" "joined_over_end" (defArgs s_joined_over_end) (defBody s_joined_over_end) (defScope s_joined_over_end) .none kV7 dc7 pm7 an7 cd7 ct7), sl7⟩) (c7 : PySem.W.codeIn K cd7 "joined_over_end" = true) (k7 : PySem.W.keepIn K (.ref f7) = true)
    {f8 : Addr} {od8 an8 : Option Addr} {sl8 : Array (Option Value)} {oc8 kV8 dc8 pm8 cd8 ct8 : Value}
    (a8 : PySem.W.nsIn K mainGlobals "_law_pond" = some (some (.ref f8))) (l8 : K.lookup f8 = some ⟨oc8, od8, .func (PySem.W.fnOf "_law_pond" "_law_pond" (defArgs s_l_pond) (defBody s_l_pond) (defScope s_l_pond) .none kV8 dc8 pm8 an8 cd8 ct8), sl8⟩) (c8 : PySem.W.codeIn K cd8 "_law_pond" = true) (k8 : PySem.W.keepIn K (.ref f8) = true)
    {f9 : Addr} {od9 an9 : Option Addr} {sl9 : Array (Option Value)} {oc9 kV9 dc9 pm9 cd9 ct9 : Value}
    (a9 : PySem.W.nsIn K mainGlobals "_law_fish" = some (some (.ref f9))) (l9 : K.lookup f9 = some ⟨oc9, od9, .func (PySem.W.fnOf "_law_fish" "_law_fish" (defArgs s_l_fish) (defBody s_l_fish) (defScope s_l_fish) .none kV9 dc9 pm9 an9 cd9 ct9), sl9⟩) (c9 : PySem.W.codeIn K cd9 "_law_fish" = true) (k9 : PySem.W.keepIn K (.ref f9) = true)
    {f10 : Addr} {od10 an10 : Option Addr} {sl10 : Array (Option Value)} {oc10 kV10 dc10 pm10 cd10 ct10 : Value}
    (a10 : PySem.W.nsIn K mainGlobals "_law_greens" = some (some (.ref f10))) (l10 : K.lookup f10 = some ⟨oc10, od10, .func (PySem.W.fnOf "_law_greens" "_law_greens" (defArgs s_l_greens) (defBody s_l_greens) (defScope s_l_greens) .none kV10 dc10 pm10 an10 cd10 ct10), sl10⟩) (c10 : PySem.W.codeIn K cd10 "_law_greens" = true) (k10 : PySem.W.keepIn K (.ref f10) = true)
    {f11 : Addr} {od11 an11 : Option Addr} {sl11 : Array (Option Value)} {oc11 kV11 dc11 pm11 cd11 ct11 : Value}
    (a11 : PySem.W.nsIn K mainGlobals "_law_rests" = some (some (.ref f11))) (l11 : K.lookup f11 = some ⟨oc11, od11, .func (PySem.W.fnOf "_law_rests" "_law_rests" (defArgs s_l_rests) (defBody s_l_rests) (defScope s_l_rests) .none kV11 dc11 pm11 an11 cd11 ct11), sl11⟩) (c11 : PySem.W.codeIn K cd11 "_law_rests" = true) (k11 : PySem.W.keepIn K (.ref f11) = true)
    {f12 : Addr} {od12 an12 : Option Addr} {sl12 : Array (Option Value)} {oc12 kV12 dc12 pm12 cd12 ct12 : Value}
    (a12 : PySem.W.nsIn K mainGlobals "_law_scaled" = some (some (.ref f12))) (l12 : K.lookup f12 = some ⟨oc12, od12, .func (PySem.W.fnOf "_law_scaled" "_law_scaled" (defArgs s_l_scaled) (defBody s_l_scaled) (defScope s_l_scaled) .none kV12 dc12 pm12 an12 cd12 ct12), sl12⟩) (c12 : PySem.W.codeIn K cd12 "_law_scaled" = true) (k12 : PySem.W.keepIn K (.ref f12) = true)
    {f13 : Addr} {od13 an13 : Option Addr} {sl13 : Array (Option Value)} {oc13 kV13 dc13 pm13 cd13 ct13 : Value}
    (a13 : PySem.W.nsIn K mainGlobals "_law_arcs" = some (some (.ref f13))) (l13 : K.lookup f13 = some ⟨oc13, od13, .func (PySem.W.fnOf "_law_arcs" "_law_arcs" (defArgs s_l_arcs) (defBody s_l_arcs) (defScope s_l_arcs) .none kV13 dc13 pm13 an13 cd13 ct13), sl13⟩) (c13 : PySem.W.codeIn K cd13 "_law_arcs" = true) (k13 : PySem.W.keepIn K (.ref f13) = true)
    {f14 : Addr} {od14 an14 : Option Addr} {sl14 : Array (Option Value)} {oc14 kV14 dc14 pm14 cd14 ct14 : Value}
    (a14 : PySem.W.nsIn K mainGlobals "_law_parted" = some (some (.ref f14))) (l14 : K.lookup f14 = some ⟨oc14, od14, .func (PySem.W.fnOf "_law_parted" "_law_parted" (defArgs s_l_parted) (defBody s_l_parted) (defScope s_l_parted) .none kV14 dc14 pm14 an14 cd14 ct14), sl14⟩) (c14 : PySem.W.codeIn K cd14 "_law_parted" = true) (k14 : PySem.W.keepIn K (.ref f14) = true)
    {f15 : Addr} {od15 an15 : Option Addr} {sl15 : Array (Option Value)} {oc15 kV15 dc15 pm15 cd15 ct15 : Value}
    (a15 : PySem.W.nsIn K mainGlobals "_law_right" = some (some (.ref f15))) (l15 : K.lookup f15 = some ⟨oc15, od15, .func (PySem.W.fnOf "_law_right" "_law_right" (defArgs s_l_right) (defBody s_l_right) (defScope s_l_right) .none kV15 dc15 pm15 an15 cd15 ct15), sl15⟩) (c15 : PySem.W.codeIn K cd15 "_law_right" = true) (k15 : PySem.W.keepIn K (.ref f15) = true)
    {f16 : Addr} {od16 an16 : Option Addr} {sl16 : Array (Option Value)} {oc16 kV16 dc16 pm16 cd16 ct16 : Value}
    (a16 : PySem.W.nsIn K mainGlobals "law" = some (some (.ref f16))) (l16 : K.lookup f16 = some ⟨oc16, od16, .func (PySem.W.fnOf "law" "law" (defArgs s_law) (defBody s_law) (defScope s_law) .none kV16 dc16 pm16 an16 cd16 ct16), sl16⟩) (c16 : PySem.W.codeIn K cd16 "law" = true) (k16 : PySem.W.keepIn K (.ref f16) = true)
    (z0 : PySem.W.nsIn K mainGlobals "all" = some none)
    (z1 : PySem.W.nsIn K mainGlobals "bool" = some none)
    (z2 : PySem.W.nsIn K mainGlobals "int" = some none)
    (z3 : PySem.W.nsIn K mainGlobals "isinstance" = some none)
    (z4 : PySem.W.nsIn K mainGlobals "len" = some none)
    (z5 : PySem.W.nsIn K mainGlobals "list" = some none)
    (z6 : PySem.W.nsIn K mainGlobals "max" = some none)
    (z7 : PySem.W.nsIn K mainGlobals "min" = some none)
    (z8 : PySem.W.nsIn K mainGlobals "range" = some none)
    (z9 : PySem.W.nsIn K mainGlobals "repr" = some none)
    (z10 : PySem.W.nsIn K mainGlobals "sorted" = some none)
    (z11 : PySem.W.nsIn K mainGlobals "tuple" = some none)
    {tMOST_CYCLE : Tok} (mMOST_CYCLE : PySem.W.nsIn K mainGlobals "MOST_CYCLE" = some (some (.int 1000000000000000000000000000000 tMOST_CYCLE)))
    {tMOST_GREENS : Tok} (mMOST_GREENS : PySem.W.nsIn K mainGlobals "MOST_GREENS" = some (some (.int 6 tMOST_GREENS)))
    : ∃ fd : FuncData, (∀ (s : Shared) (v : Value), BindsTo s fd ⟨[v], []⟩ [("_law_script", v)]) ∧ ∀ base : Heap, K.In base → base.Ns mainGlobals mg → FnG l.prog w K mg base CX0 7 fa fd ["_law_script"] (spLaw K) := by
  have e := hfa.symm.trans (PySem.W.mg_of X G a16)
  cases e
  have B : Blt mg tMOST_CYCLE tMOST_GREENS := ⟨PySem.W.mg_none_of X G z0, PySem.W.mg_none_of X G z1, PySem.W.mg_none_of X G z2, PySem.W.mg_none_of X G z3, PySem.W.mg_none_of X G z4, PySem.W.mg_none_of X G z5, PySem.W.mg_none_of X G z6, PySem.W.mg_none_of X G z7, PySem.W.mg_none_of X G z8, PySem.W.mg_none_of X G z9, PySem.W.mg_none_of X G z10, PySem.W.mg_none_of X G z11, (PySem.W.mg_of X G mMOST_CYCLE).trans (congrArg (fun z => some (Value.int z tMOST_CYCLE)) (show (1000000000000000000000000000000 : Int) = (10 ^ 30) by decide +kernel)), (PySem.W.mg_of X G mMOST_GREENS).trans (congrArg (fun z => some (Value.int z tMOST_GREENS)) (show (6 : Int) = 6 by decide +kernel))⟩
  have F0 := fun_mk (st := s_is_whole) l0 c0 k0
  have Dis_whole : Def K mg "is_whole" s_is_whole ["value"] f0 _ := ⟨F0, PySem.W.mg_of X G a0, F0.binds (ps := ["value"]) fun _ _ _ _ _ _ us hl => match us, hl with | [_], _ => rfl⟩
  have F1 := fun_mk (st := s_check_cycle) l1 c1 k1
  have Dcheck_cycle : Def K mg "check_cycle" s_check_cycle ["cycle"] f1 _ := ⟨F1, PySem.W.mg_of X G a1, F1.binds (ps := ["cycle"]) fun _ _ _ _ _ _ us hl => match us, hl with | [_], _ => rfl⟩
  have F2 := fun_mk (st := s_is_green_pair) l2 c2 k2
  have Dis_green_pair : Def K mg "is_green_pair" s_is_green_pair ["value", "cycle"] f2 _ := ⟨F2, PySem.W.mg_of X G a2, F2.binds (ps := ["value", "cycle"]) fun _ _ _ _ _ _ us hl => match us, hl with | [_, _], _ => rfl⟩
  have F3 := fun_mk (st := s_is_signal) l3 c3 k3
  have Dis_signal : Def K mg "is_signal" s_is_signal ["value", "cycle"] f3 _ := ⟨F3, PySem.W.mg_of X G a3, F3.binds (ps := ["value", "cycle"]) fun _ _ _ _ _ _ us hl => match us, hl with | [_, _], _ => rfl⟩
  have F4 := fun_mk (st := s_check_signal) l4 c4 k4
  have Dcheck_signal : Def K mg "check_signal" s_check_signal ["cycle", "signal"] f4 _ := ⟨F4, PySem.W.mg_of X G a4, F4.binds (ps := ["cycle", "signal"]) fun _ _ _ _ _ _ us hl => match us, hl with | [_, _], _ => rfl⟩
  have F5 := fun_mk (st := s_shortest_greens) l5 c5 k5
  have Dshortest_greens : Def K mg "shortest_greens" s_shortest_greens ["cycle", "signal"] f5 _ := ⟨F5, PySem.W.mg_of X G a5, F5.binds (ps := ["cycle", "signal"]) fun _ _ _ _ _ _ us hl => match us, hl with | [_, _], _ => rfl⟩
  have F6 := fun_mk (st := s_parted_greens) l6 c6 k6
  have Dparted_greens : Def K mg "parted_greens" s_parted_greens ["cycle", "signal"] f6 _ := ⟨F6, PySem.W.mg_of X G a6, F6.binds (ps := ["cycle", "signal"]) fun _ _ _ _ _ _ us hl => match us, hl with | [_, _], _ => rfl⟩
  have F7 := fun_mk (st := s_joined_over_end) l7 c7 k7
  have Djoined_over_end : Def K mg "joined_over_end" s_joined_over_end ["cycle", "greens"] f7 _ := ⟨F7, PySem.W.mg_of X G a7, F7.binds (ps := ["cycle", "greens"]) fun _ _ _ _ _ _ us hl => match us, hl with | [_, _], _ => rfl⟩
  have F8 := fun_mk (st := s_l_pond) l8 c8 k8
  have Dl_pond : Def K mg "_law_pond" s_l_pond ["_law_script", "_law_k"] f8 _ := ⟨F8, PySem.W.mg_of X G a8, F8.binds (ps := ["_law_script", "_law_k"]) fun _ _ _ _ _ _ us hl => match us, hl with | [_, _], _ => rfl⟩
  have F9 := fun_mk (st := s_l_fish) l9 c9 k9
  have Dl_fish : Def K mg "_law_fish" s_l_fish ["_law_pond_here", "_law_bound"] f9 _ := ⟨F9, PySem.W.mg_of X G a9, F9.binds (ps := ["_law_pond_here", "_law_bound"]) fun _ _ _ _ _ _ us hl => match us, hl with | [_, _], _ => rfl⟩
  have F10 := fun_mk (st := s_l_greens) l10 c10 k10
  have Dl_greens : Def K mg "_law_greens" s_l_greens ["_law_pond_here", "_law_span"] f10 _ := ⟨F10, PySem.W.mg_of X G a10, F10.binds (ps := ["_law_pond_here", "_law_span"]) fun _ _ _ _ _ _ us hl => match us, hl with | [_, _], _ => rfl⟩
  have F11 := fun_mk (st := s_l_rests) l11 c11 k11
  have Dl_rests : Def K mg "_law_rests" s_l_rests ["_law_span", "_law_greens_here"] f11 _ := ⟨F11, PySem.W.mg_of X G a11, F11.binds (ps := ["_law_span", "_law_greens_here"]) fun _ _ _ _ _ _ us hl => match us, hl with | [_, _], _ => rfl⟩
  have F12 := fun_mk (st := s_l_scaled) l12 c12 k12
  have Dl_scaled : Def K mg "_law_scaled" s_l_scaled ["_law_greens_here", "_law_factor"] f12 _ := ⟨F12, PySem.W.mg_of X G a12, F12.binds (ps := ["_law_greens_here", "_law_factor"]) fun _ _ _ _ _ _ us hl => match us, hl with | [_, _], _ => rfl⟩
  have F13 := fun_mk (st := s_l_arcs) l13 c13 k13
  have Dl_arcs : Def K mg "_law_arcs" s_l_arcs ["_law_span", "_law_lit"] f13 _ := ⟨F13, PySem.W.mg_of X G a13, F13.binds (ps := ["_law_span", "_law_lit"]) fun _ _ _ _ _ _ us hl => match us, hl with | [_, _], _ => rfl⟩
  have F14 := fun_mk (st := s_l_parted) l14 c14 k14
  have Dl_parted : Def K mg "_law_parted" s_l_parted ["_law_pond_here", "_law_greens_here", "_law_span"] f14 _ := ⟨F14, PySem.W.mg_of X G a14, F14.binds (ps := ["_law_pond_here", "_law_greens_here", "_law_span"]) fun _ _ _ _ _ _ us hl => match us, hl with | [_, _, _], _ => rfl⟩
  have F15 := fun_mk (st := s_l_right) l15 c15 k15
  have Dl_right : Def K mg "_law_right" s_l_right ["_law_pond_here", "_law_span", "_law_greens_here"] f15 _ := ⟨F15, PySem.W.mg_of X G a15, F15.binds (ps := ["_law_pond_here", "_law_span", "_law_greens_here"]) fun _ _ _ _ _ _ us hl => match us, hl with | [_, _, _], _ => rfl⟩
  have F16 := fun_mk (st := s_law) l16 c16 k16
  have Dlaw : Def K mg "law" s_law ["_law_script"] fa _ := ⟨F16, PySem.W.mg_of X G a16, F16.binds (ps := ["_law_script"]) fun _ _ _ _ _ _ us hl => match us, hl with | [_], _ => rfl⟩
  refine ⟨PySem.W.fnOf "law" "law" (defArgs s_law) (defBody s_law) (defScope s_law) .none kV16 dc16 pm16 an16 cd16 ct16, fun s v => .of_eq rfl, fun base _ _ => ?_⟩
  have Gshortest_greens := ok_short (P := l.prog) (w := w) (base := base) B Dshortest_greens Dparted_greens Djoined_over_end Dcheck_signal Dis_signal Dis_whole Dcheck_cycle Dis_green_pair
  have Gl_right := ok_right (P := l.prog) (w := w) (base := base) B Dl_right Dl_fish Dl_rests Dl_scaled Dl_arcs Dl_parted Dshortest_greens Gshortest_greens
  exact ok_law B Dlaw Dl_fish Dl_pond Dl_greens Dl_right Dshortest_greens Gshortest_greens Gl_right
end Gr
open PySem PySem.W PyProof.Rows
set_option maxHeartbeats 0 in
theorem PySem.Challenge.cw_greenroads_k03_shortest_greens_holds : PySem.Challenge.rw_greenroads_k03_shortest_greens.Holds := by
  w_on; o_law; k_head; (case hw => w_witness2)
  k_fill
  refine Gr.walkG (l := PySem.Challenge.rw_greenroads_k03_shortest_greens) (n := 63) (k := 7) (x := "_law_script") (sp := Gr.spLaw) rfl (by decide) rfl ⟨rfl, by decide, by decide⟩ (fun w h Y => PySem.W.kIn_of Y) ?F (fun K G a ns hl _ hS => ⟨a, ns, rfl, hS, hl, fun _ => rfl⟩)
  case F =>
    intro w mg fa h KX G hmg
    refine' Gr.all_mk KX G hmg ?a0 ?l0 ?c0 ?k0 ?a1 ?l1 ?c1 ?k1 ?a2 ?l2 ?c2 ?k2 ?a3 ?l3 ?c3 ?k3 ?a4 ?l4 ?c4 ?k4 ?a5 ?l5 ?c5 ?k5 ?a6 ?l6 ?c6 ?k6 ?a7 ?l7 ?c7 ?k7 ?a8 ?l8 ?c8 ?k8 ?a9 ?l9 ?c9 ?k9 ?a10 ?l10 ?c10 ?k10 ?a11 ?l11 ?c11 ?k11 ?a12 ?l12 ?c12 ?k12 ?a13 ?l13 ?c13 ?k13 ?a14 ?l14 ?c14 ?k14 ?a15 ?l15 ?c15 ?k15 ?a16 ?l16 ?c16 ?k16 ?z0 ?z1 ?z2 ?z3 ?z4 ?z5 ?z6 ?z7 ?z8 ?z9 ?z10 ?z11 ?mMOST_CYCLE ?mMOST_GREENS
    (case a0 => k_is)
    (case l0 => k_is)
    (case c0 => k_is)
    (case k0 => k_is)
    (case a1 => k_is)
    (case l1 => k_is)
    (case c1 => k_is)
    (case k1 => k_is)
    (case a2 => k_is)
    (case l2 => k_is)
    (case c2 => k_is)
    (case k2 => k_is)
    (case a3 => k_is)
    (case l3 => k_is)
    (case c3 => k_is)
    (case k3 => k_is)
    (case a4 => k_is)
    (case l4 => k_is)
    (case c4 => k_is)
    (case k4 => k_is)
    (case a5 => k_is)
    (case l5 => k_is)
    (case c5 => k_is)
    (case k5 => k_is)
    (case a6 => k_is)
    (case l6 => k_is)
    (case c6 => k_is)
    (case k6 => k_is)
    (case a7 => k_is)
    (case l7 => k_is)
    (case c7 => k_is)
    (case k7 => k_is)
    (case a8 => k_is)
    (case l8 => k_is)
    (case c8 => k_is)
    (case k8 => k_is)
    (case a9 => k_is)
    (case l9 => k_is)
    (case c9 => k_is)
    (case k9 => k_is)
    (case a10 => k_is)
    (case l10 => k_is)
    (case c10 => k_is)
    (case k10 => k_is)
    (case a11 => k_is)
    (case l11 => k_is)
    (case c11 => k_is)
    (case k11 => k_is)
    (case a12 => k_is)
    (case l12 => k_is)
    (case c12 => k_is)
    (case k12 => k_is)
    (case a13 => k_is)
    (case l13 => k_is)
    (case c13 => k_is)
    (case k13 => k_is)
    (case a14 => k_is)
    (case l14 => k_is)
    (case c14 => k_is)
    (case k14 => k_is)
    (case a15 => k_is)
    (case l15 => k_is)
    (case c15 => k_is)
    (case k15 => k_is)
    (case a16 => k_is)
    (case l16 => k_is)
    (case c16 => k_is)
    (case k16 => k_is)
    (case z0 => k_is)
    (case z1 => k_is)
    (case z2 => k_is)
    (case z3 => k_is)
    (case z4 => k_is)
    (case z5 => k_is)
    (case z6 => k_is)
    (case z7 => k_is)
    (case z8 => k_is)
    (case z9 => k_is)
    (case z10 => k_is)
    (case z11 => k_is)
    (case mMOST_CYCLE => k_is)
    (case mMOST_GREENS => k_is)
